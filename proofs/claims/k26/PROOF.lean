import PyProof.Rows.All
import Wide.All
import OpenK.AllK
import Wide.FinOn
import HandS.ForMost
import HandS.Wide
import HandS.Style
import HandS.Codes
import HandS.Conv
import HandS.OwnEq
import HandS.TupAny
import HandS.Flow
import HandS.IsInst
import HandS.Deep
import HandS.ForExc
import HandS.ExcInit
import HandS.ExcIs
import KE.KExcIs
import HandS.Walk
import PySem.Challenge.RW_farcalls_k26_letters_refused
set_option Elab.async false
set_option maxRecDepth 100000
set_option maxHeartbeats 4000000
namespace K3
open PySem L2
def top (i : Nat) : Stmt := PySem.Challenge.pw_farcalls_k26_letters_refused.main.body.getD i (.Pass ⟨0, 0, 0, 0⟩)
abbrev sPen : Stmt := top 13
abbrev sDraw : Stmt := top 14
abbrev sPick : Stmt := top 15
/-! ### frames -/
/-- all that stood stands as it stood, but at M -/
def But (M : Addr → Prop) (H H' : Hp) : Prop := ∀ b o, ¬ M b → H b = some o → H' b = some o
theorem But.refl (M : Addr → Prop) (H : Hp) : But M H H := fun _ _ _ h => h
theorem But.trans {M : Addr → Prop} {H H1 H2 : Hp} (a : But M H H1) (b : But M H1 H2) : But M H H2 := fun c o m h => b c o m (a c o m h)
theorem But.new {M : Addr → Prop} {H H' : Hp} (a : But M H H') {p : Addr} {o : HO} (h : H' p = none) : But M H (upd H' p o) := fun c u m e => by
  have e1 := a c u m e
  rw [upd_ne (ne_of_none e1 h)]
  exact e1
theorem But.mut {M : Addr → Prop} {H H' : Hp} (a : But M H H') {p : Addr} {o : HO} (h : M p) : But M H (upd H' p o) := fun c u m e => by
  have e1 := a c u m e
  rw [upd_ne (fun z => m (by rw [z]; exact h))]
  exact e1
theorem But.mono {M N : Addr → Prop} {H H' : Hp} (a : But M H H') (h : ∀ b, M b → N b) : But N H H' := fun c o m e => a c o (fun z => m (h c z)) e
/-- what was new and is not M is new or .. (used for new objects made on the way) -/
theorem But.mutNew {M : Addr → Prop} {H H' : Hp} (a : But M H H') {p : Addr} {o : HO} (h : H p = none) : But M H (upd H' p o) := fun c u m e => by
  have e1 := a c u m e
  rw [upd_ne (ne_of_none e h)]
  exact e1
theorem But.free {M : Addr → Prop} {H H' : Hp} (a : But M H H') {l : Addr} (h : H' l = none) (n : ¬ M l) : H l = none := by
  cases q : H l with
  | none => rfl
  | some o =>
    rw [a l o n q] at h
    cases h
/-! ### the pen -/
def penK (c : Addr) (at' lf : Int) : List (Key × V) := [(Sum.inr "cells", .ref c), (Sum.inr "at", .int at'), (Sum.inr "left", .int lf)]
/-- the pen at p, its cells the list at c; at most n were begun -/
def Pen (H : Hp) (p c : Addr) (ns : List Int) (n : Nat) : Prop :=
  ∃ at' lf : Int, 0 ≤ at' ∧ at' ≤ (n : Int) ∧ 0 ≤ lf ∧ H p = some (.dK (penK c at' lf)) ∧ H c = some (.lst (ns.map V.int)) ∧ ns.length ≤ 63
theorem pen_cells (c : Addr) (a l : Int) : valV (penK c a l) (Sum.inr "cells") = some (.ref c) := rfl
theorem pen_at (c : Addr) (a l : Int) : valV (penK c a l) (Sum.inr "at") = some (.int a) := rfl
theorem pen_left (c : Addr) (a l : Int) : valV (penK c a l) (Sum.inr "left") = some (.int l) := rfl
theorem pen_put_at (c : Addr) (a l b : Int) : putK (penK c a l) (Sum.inr "at") (.int b) = penK c b l := rfl
theorem pen_put_left (c : Addr) (a l b : Int) : putK (penK c a l) (Sum.inr "left") (.int b) = penK c a b := rfl
theorem pen_gl {H : Hp} {p c : Addr} {a l : Int} (h : H p = some (.dK (penK c a l))) : DGet H p (.str "left") (some (.int l)) := DGet.k (k := Sum.inr "left") h
theorem pen_ga {H : Hp} {p c : Addr} {a l : Int} (h : H p = some (.dK (penK c a l))) : DGet H p (.str "at") (some (.int a)) := DGet.k (k := Sum.inr "at") h
theorem pen_gc {H : Hp} {p c : Addr} {a l : Int} (h : H p = some (.dK (penK c a l))) : DGet H p (.str "cells") (some (.ref c)) := DGet.k (k := Sum.inr "cells") h
theorem pen_pl {H : Hp} {p c : Addr} {a l b : Int} (h : H p = some (.dK (penK c a l))) : DPut H p (.str "left") (.int b) (upd H p (.dK (penK c a b))) := DPut.k (k := Sum.inr "left") h (by show 3 < sizeLine; decide)
theorem pen_pa {H : Hp} {p c : Addr} {a l b : Int} (h : H p = some (.dK (penK c a l))) : DPut H p (.str "at") (.int b) (upd H p (.dK (penK c b l))) := DPut.k (k := Sum.inr "at") h (by show 3 < sizeLine; decide)
theorem dp_ints {K : PySem.W.Frag} {H : Hp} : ∀ ns : List Int, DpAll K H (ns.map V.int) (ns.map PyData.int)
  | [] => .nil
  | n :: r => .cons (.int n) (dp_ints r)
theorem lay_ints : ∀ ns : List Int, PyData.canLayAll0 (ns.map PyData.int) = true ∧ PyData.depthAll (ns.map PyData.int) ≤ 1
  | [] => ⟨rfl, Nat.zero_le _⟩
  | n :: r => by
    obtain ⟨a, b⟩ := lay_ints r
    simp only [List.map_cons, PyData.canLayAll0, PyData.canLay0, PyData.depthAll, PyData.depth, a, Bool.and_self, true_and]
    omega
theorem shaped_ints (ns : List Int) : SeqAt.shaped (.list (ns.map PyData.int)) = true := by
  obtain ⟨a, b⟩ := lay_ints ns
  unfold SeqAt.shaped
  simp only [PyData.canLay0, PyData.depth, a, Bool.true_and]
  exact decide_eq_true (by omega)
theorem eqv_ints (ns : List Int) : PyData.eqv (.list (ns.map PyData.int)) (.list []) = ns.isEmpty := by
  cases ns <;> rfl
theorem atI_int {α : Type} {xs : List α} {i : Int} {v : α} (h0 : 0 ≤ i) (h : xs[i.toNat]? = some v) : atI xs i = some v := by
  have e : ((i.toNat : Nat) : Int) = i := Int.toNat_of_nonneg h0
  rw [← e]
  exact atI_nat h
theorem get_map_int {ns : List Int} {j : Nat} (h : j < ns.length) : (ns.map V.int)[j]? = some (V.int ns[j]) := by
  rw [List.getElem?_map, List.getElem?_eq_getElem h]
  rfl
structure Txt (mg : Str → Option Value) : Prop where
  len : mg "len" = none
  abs : mg "abs" = none
  list : mg "list" = none
  tuple : mg "tuple" = none
  dict : mg "dict" = none
  range : mg "range" = none
  int : mg "int" = none
  max : mg "max" = none
  sorted : mg "sorted" = none
  repr : mg "repr" = none
  isinstance : mg "isinstance" = none
def spDraw : Sp := fun vs H Q _ => ∃ (p c : Addr) (ns : List Int) (n : Nat) (m : Int), vs = [.ref p, .int m] ∧ Pen H p c ns n ∧ n ≤ 1000000000 ∧ 1 ≤ m ∧ m ≤ 1000000 ∧
  ∀ (r : Int) (H' : Hp), 0 ≤ r → r < m → Pen H' p c ns (n + 1) → But (· = p) H H' → Q (.int r) H'
end K3
namespace K3
open PySem L2
section
variable {P : Program} {w : World} {K : PySem.W.Frag} {mg : Str → Option Value} {base : Heap}
theorem scD : FnScope ["_law_pen_here", "_law_many", "_law_digit", "_law_at", "_law_cell", "_law_number"] ["_law_pen_here", "_law_many"] (defScope sDraw) := ⟨rfl, rfl, rfl, by decide +kernel, rfl, by decide +kernel, by decide +kernel⟩
theorem ok_draw {f : Addr} {fd : FuncData} (F : Fun K "_law_draw" "_law_draw" sDraw f fd) (T : Txt mg) : FnOk P w K mg base CX0 1 f fd ["_law_pen_here", "_law_many"] spDraw := by
  refine F.ok scD (fun vs H Q E h => ?_) (fun cdv A outer s H vs Q E hr h => ?_)
  · obtain ⟨p, c, ns, n, m, rfl, _⟩ := h
    rfl
  · obtain ⟨p, c, ns, n, m, rfl, ⟨at', lf, a0, a1, l0, hp, hc, h63⟩, hn, m1, m2, k⟩ := h
    have hu := hu_of hr
    refine ⟨_, pss_cons (ps_if (pt_cmpR op_gt (pe_dget hu (pv 0) pe_str (fun _ _ => rfl)) pe_int (nomark _))
        (pss_cons (ps_set (i := 2) scD.nd rfl (.inl rfl) (pe_op op_modN (pe_dget hu (pv 0) pe_str (fun _ _ => rfl)) (pv 1)))
        (pss_cons (ps_dput hu (pv 0) pe_str (pe_op op_fdivN (pe_dget hu (pv 0) pe_str (fun _ _ => rfl)) (pv 1)) rfl)
        (pss_one (ps_ret (pv 2))))) pss_nil)
      (pss_cons (ps_set (i := 3) scD.nd rfl (.inl rfl) (pe_dget hu (pv 0) pe_str (fun _ _ => rfl)))
      (pss_cons (ps_dput hu (pv 0) pe_str (pe_op op_add (pv 3) pe_int) rfl)
      (pss_cons (ps_set (i := 4) scD.nd rfl (.inl rfl) pe_int)
      (C8.pss_cut (ps_if (pt_cmpR (op_neD hr.units) (pe_dget hu (pv 0) pe_str (fun _ _ => rfl)) (pe_lst pa_nil) (nomark _))
        (pss_one (ps_set (i := 4) scD.nd rfl (.inl rfl) (pe_ix ix_list (pe_dget hu (pv 0) pe_str (fun _ _ => rfl)) (pe_op op_modN (pv 3) (pe_callB call_len_seq (by rfl) T.len PySem.boot_len (pa_cons (pe_dget hu (pv 0) pe_str (fun _ _ => rfl)) pa_nil))) (fun _ _ => rfl)))) pss_nil)
      (C8.pss_cut (ps_if (PW.pt (pw_and (pt_cmpR op_lt (pv 3) (pe_callB call_len_seq (by rfl) T.len PySem.boot_len (pa_cons (pe_dget hu (pv 0) pe_str (fun _ _ => rfl)) pa_nil)) (nomark _)) (pw_and1 (pt_cmpR op_ge (pe_callB call_abs (by rfl) T.abs (by decide +kernel) (pa_cons (pv 4) pa_nil)) (pe_op op_pow pe_int pe_int) (nomark _)))))
        (pss_cons (ps_dput hu (pv 0) pe_str (pe_op op_fdivN (pe_op op_sub (pe_callB call_abs (by rfl) T.abs (by decide +kernel) (pa_cons (pv 4) pa_nil)) (pe_op op_pow pe_int pe_int)) (pv 1)) rfl)
        (pss_one (ps_ret (pe_op op_modN (pe_op op_sub (pe_callB call_abs (by rfl) T.abs (by decide +kernel) (pa_cons (pv 4) pa_nil)) (pe_op op_pow pe_int pe_int)) (pv 1))))) pss_nil)
      (pss_cons (ps_set (i := 5) scD.nd rfl (.inl rfl) (pe_op op_add (pe_op op_add (pe_op op_add (pe_op op_modN (pv 4) pe_int) (pe_op op_mul (pe_op op_mul pe_int (pv 3)) (pv 3))) (pe_op op_mul pe_int (pv 3))) pe_int))
      (C8.pss_cut (ps_set (i := 5) scD.nd rfl (.inl rfl) (pe_op op_modN (pe_op op_mul (pv 5) pe_int) pe_int))
      (C8.pss_cut (ps_set (i := 5) scD.nd rfl (.inl rfl) (pe_op op_modN (pe_op op_add (pe_op op_add (pe_op op_mul (pv 5) (pv 5)) (pe_op op_mul pe_int (pv 5))) (pv 3)) pe_int))
      (pss_one (ps_ret (pe_op op_modN (pe_op op_fdivN (pe_op op_modN (pe_op op_mul (pv 5) (pe_op op_add (pv 5) pe_int)) pe_int) pe_int) (pv 1)))))))))))), ?_⟩
    have npc : p ≠ c := ne_of hp hc (by intro z; cases z)
    have nm : m ≠ 0 := by omega
    have dm : CDivN 0 m := ⟨nm, by omega⟩
    refine ⟨_, rfl, p, _, rfl, pen_gl hp, lf, 0, rfl, rfl, _, rfl, ?_⟩
    refine ite2 (fun hl => ?_) (fun hl => ?_)
    · -- a great one's next digit
      refine ⟨_, rfl, p, _, rfl, pen_gl hp, _, rfl, _, _, rfl, rfl, nm, ?_⟩
      refine ⟨_, rfl, p, _, rfl, pen_gl hp, _, rfl, _, _, rfl, rfl, dm, _, rfl, p, _, rfl, pen_pl hp, ?_⟩
      refine ⟨_, rfl, ?_⟩
      refine k _ _ (Int.fmod_nonneg_of_pos _ (by omega)) (Int.fmod_lt_of_pos _ (by omega)) ⟨at', _, a0, by omega, ?_, upd_same, by rw [upd_ne npc.symm]; exact hc, h63⟩ ((But.refl _ H).mut rfl)
      rw [Int.fdiv_eq_ediv_of_nonneg _ (by omega)]
      exact Int.ediv_nonneg l0 (by omega)
    · -- the cell, mixed
      refine ⟨_, rfl, p, _, rfl, pen_ga hp, ?_⟩
      refine ⟨_, rfl, _, _, rfl, rfl, _, rfl, p, _, rfl, pen_pa hp, ?_⟩
      have hp1 : upd H p (HO.dK (penK c (at' + 1) lf)) p = some (.dK (penK c (at' + 1) lf)) := upd_same
      have hc1 : upd H p (HO.dK (penK c (at' + 1) lf)) c = some (.lst (ns.map V.int)) := by rw [upd_ne npc.symm]; exact hc
      have b1 : But (· = p) H (upd H p (HO.dK (penK c (at' + 1) lf))) := (But.refl _ H).mut rfl
      generalize upd H p (HO.dK (penK c (at' + 1) lf)) = H1 at hp1 hc1 b1 ⊢
      refine ⟨fun σ' H' => (∃ cell : Int, σ' = [some (.ref p), some (.int m), none, some (.int at'), some (.int cell), none]) ∧ H' p = some (.dK (penK c (at' + 1) lf)) ∧ H' c = some (.lst (ns.map V.int)) ∧ But (· = p) H H', ?_, ?_⟩
      · refine ⟨_, rfl, p, _, rfl, pen_gc hp1, Nat.zero_le _, fun l hl => ?_⟩
        have hp2 : upd H1 l (.lst []) p = some (.dK (penK c (at' + 1) lf)) := by rw [upd_ne (ne_of_none hp1 hl)]; exact hp1
        have hc2 : upd H1 l (.lst []) c = some (.lst (ns.map V.int)) := by rw [upd_ne (ne_of_none hc1 hl)]; exact hc1
        have hl2 : upd H1 l (.lst []) l = some (.lst []) := upd_same
        have b2 : But (· = p) H (upd H1 l (.lst [])) := b1.new hl
        generalize upd H1 l (.lst []) = H2 at hp2 hc2 hl2 b2 ⊢
        refine ⟨_, _, .lst (SqL.of hc2) (dp_ints ns), .lst (SqL.of hl2) .nil, shaped_ints ns, by decide +kernel, _, rfl, ?_⟩
        rw [eqv_ints]
        cases he : ns.isEmpty with
        | true => exact iteF ⟨⟨_, rfl⟩, hp2, hc2, b2⟩
        | false =>
          have hlen : 1 ≤ ns.length := by
            cases ns with
            | nil => cases he
            | cons _ _ => exact Nat.le_add_left _ _
          have hm1 := Int.fmod_nonneg_of_pos at' (b := ((ns.map V.int).length : Int)) (by rw [List.length_map]; omega)
          have hm2 := Int.fmod_lt_of_pos at' (b := ((ns.map V.int).length : Int)) (by rw [List.length_map]; omega)
          have hidx : (at'.fmod ((ns.map V.int).length : Int)).toNat < ns.length := by rw [List.length_map] at hm1 hm2 ⊢; omega
          have hat := atI_int hm1 (get_map_int hidx)
          refine iteT ?_
          refine ⟨_, rfl, p, _, rfl, pen_gc hp2, _, rfl, _, rfl, p, _, rfl, pen_gc hp2, c, _, rfl, .inl (SqL.of hc2), _, _, rfl, rfl, (by rw [List.length_map]; omega), c, _, _, _, rfl, rfl, SqL.of hc2, hat, ?_⟩
          exact ⟨⟨_, rfl⟩, hp2, hc2, b2⟩
      · rintro σ' H2 ⟨⟨cell, rfl⟩, hp2, hc2, b2⟩
        have ab : ∀ x : Int, 0 ≤ (if x < 0 then -x else x) := fun x => by split <;> omega
        refine ⟨fun σ' H' => σ' = [some (.ref p), some (.int m), none, some (.int at'), some (.int cell), none] ∧ H' p = some (.dK (penK c (at' + 1) lf)) ∧ H' c = some (.lst (ns.map V.int)) ∧ But (· = p) H H', ?_, ?_⟩
        · refine ⟨_, rfl, _, rfl, p, _, rfl, pen_gc hp2, c, _, rfl, .inl (SqL.of hc2), _, _, rfl, rfl, _, rfl, ?_⟩
          refine ite2 (fun ha => ?_) (fun ha => ?_)
          · refine ⟨_, rfl, _, rfl, _, _, rfl, rfl, ⟨by decide, by decide, by decide⟩, _, _, rfl, rfl, _, rfl, ?_⟩
            refine ite2 (fun hg => ?_) (fun hg => ?_)
            · have hge : (10 : Int) ^ (Int.toNat 18) ≤ (if cell < 0 then -cell else cell) := of_decide_eq_true hg
              refine ⟨_, rfl, _, rfl, _, _, rfl, rfl, ⟨by decide, by decide, by decide⟩, _, _, rfl, rfl, _, rfl, _, _, rfl, rfl, dm, _, rfl, p, _, rfl, pen_pl hp2, ?_⟩
              refine ⟨_, rfl, _, rfl, _, _, rfl, rfl, ⟨by decide, by decide, by decide⟩, _, _, rfl, rfl, _, rfl, _, _, rfl, rfl, nm, ?_⟩
              refine k _ _ (Int.fmod_nonneg_of_pos _ (by omega)) (Int.fmod_lt_of_pos _ (by omega)) ⟨at' + 1, _, by omega, by omega, ?_, upd_same, by rw [upd_ne npc.symm]; exact hc2, h63⟩ (b2.mut rfl)
              rw [Int.fdiv_eq_ediv_of_nonneg _ (by omega)]
              exact Int.ediv_nonneg (by omega) (by omega)
            · exact ⟨rfl, hp2, hc2, b2⟩
          · exact ⟨rfl, hp2, hc2, b2⟩
        · rintro σ' H3 ⟨rfl, hp3, hc3, b3⟩
          have sq : 0 ≤ at' * at' := Int.mul_nonneg a0 a0
          have at9 : at' ≤ 1000000000 := Int.le_trans a1 (Int.ofNat_le.mpr hn)
          refine ⟨_, rfl, _, _, rfl, rfl, (show (2147483629 : Int) ≠ 0 by decide), _, rfl, _, _, rfl, rfl, .inl ⟨by decide, by decide⟩, _, rfl, _, _, rfl, rfl, .inl ⟨by omega, by omega⟩, _, _, rfl, rfl, _, rfl, _, _, rfl, rfl, .inl ⟨by decide, by decide⟩, _, _, rfl, rfl, _, _, rfl, rfl, ?_⟩
          refine ⟨fun σ' H' => ∃ y : Int, 0 ≤ y ∧ y < 2147483647 ∧ σ' = [some (.ref p), some (.int m), none, some (.int at'), some (.int cell), some (.int y)] ∧ H' = H3, ?_, ?_⟩
          · exact ⟨_, rfl, _, _, rfl, rfl, .inr ⟨by decide, by decide⟩, _, _, rfl, rfl, (show (2147483647 : Int) ≠ 0 by decide), _, Int.fmod_nonneg_of_pos _ (by decide), Int.fmod_lt_of_pos _ (by decide), rfl, rfl⟩
          · rintro σ' H' ⟨y, y0, y1, rfl, rfl⟩
            refine ⟨fun σ2 H2 => ∃ y : Int, 0 ≤ y ∧ y < 2147483587 ∧ σ2 = [some (.ref p), some (.int m), none, some (.int at'), some (.int cell), some (.int y)] ∧ H2 = H', ?_, ?_⟩
            · exact ⟨_, rfl, _, rfl, _, _, rfl, rfl, .inl ⟨by omega, by omega⟩, _, rfl, _, _, rfl, rfl, .inl ⟨by decide, by decide⟩, _, _, rfl, rfl, _, rfl, _, _, rfl, rfl, _, _, rfl, rfl, (show (2147483587 : Int) ≠ 0 by decide), _, Int.fmod_nonneg_of_pos _ (by decide), Int.fmod_lt_of_pos _ (by decide), rfl, rfl⟩
            · rintro σ2 H2 ⟨z, z0, z1, rfl, rfl⟩
              refine ⟨_, rfl, _, rfl, _, _, rfl, rfl, _, _, rfl, rfl, .inl ⟨by omega, by omega⟩, _, _, rfl, rfl, (show (2147483563 : Int) ≠ 0 by decide), _, _, rfl, rfl, (show CDivN 0 64 from ⟨by decide, by decide⟩), _, rfl, _, _, rfl, rfl, nm, ?_⟩
              exact k _ _ (Int.fmod_nonneg_of_pos _ (by omega)) (Int.fmod_lt_of_pos _ (by omega)) ⟨at' + 1, lf, by omega, by omega, l0, hp3, hc3, h63⟩ b3
end
end K3
namespace K3
open PySem L2
/-- what a caller wants of a def by its name -/
def Cal (P : Program) (w : World) (K : PySem.W.Frag) (mg : Str → Option Value) (base : Heap) (x : Str) (k : Nat) (ps : List Str) (sp : Sp) : Prop :=
  ∃ f fd, mg x = some (.ref f) ∧ PySem.W.keepIn K (.ref f) = true ∧ Binds K fd ps [] ∧ FnOk P w K mg base CX0 k f fd ps sp
theorem But.seqL {K : PySem.W.Frag} {M : Addr → Prop} {H H' : Hp} {a : Addr} {xs : List V} (e : But M H H') (n : ¬ M a) (h : SqL K H a xs) : SqL K H' a xs := by
  rcases h with (h | ⟨o, h⟩) | h
  · exact .inl (.inl (e _ _ n h))
  · exact .inl (.inr ⟨o, e _ _ n h⟩)
  · exact .inr h
theorem But.seqT {K : PySem.W.Frag} {M : Addr → Prop} {H H' : Hp} {a : Addr} {xs : List V} (e : But M H H') (n : ¬ M a) (h : SqT K H a xs) : SqT K H' a xs := by
  rcases h with (h | ⟨o, h⟩) | h
  · exact .inl (.inl (e _ _ n h))
  · exact .inl (.inr ⟨o, e _ _ n h⟩)
  · exact .inr h
/-- the items of a text -/
def signs (z : Str) : List V := z.cps.toList.map fun c => V.str ⟨#[c]⟩
theorem signs_len (z : Str) : (signs z).length = z.length := by
  unfold signs
  rw [List.length_map]
  rfl
/-- x is a list or a tuple of ys that stands in H, or a text of these signs -/
def Menu (H : Hp) (x : V) (ys : List V) : Prop :=
  1 ≤ ys.length ∧ ys.length ≤ 1000 ∧ ((∃ l, x = .ref l ∧ (H l = some (.lst ys) ∨ H l = some (.tup ys))) ∨ ∃ z : Str, x = .str z ∧ ys = signs z)
theorem Menu.but {M : Addr → Prop} {H H' : Hp} {x : V} {ys : List V} (h : Menu H x ys) (e : But M H H') (n : ∀ l, M l → H l ≠ some (.lst ys) ∧ H l ≠ some (.tup ys)) : Menu H' x ys := by
  obtain ⟨h1, h2, h3⟩ := h
  refine ⟨h1, h2, ?_⟩
  rcases h3 with ⟨l, rfl, q | q⟩ | q
  · exact .inl ⟨l, rfl, .inl (e l _ (fun m => (n l m).1 q) q)⟩
  · exact .inl ⟨l, rfl, .inr (e l _ (fun m => (n l m).2 q) q)⟩
  · exact .inr q
def spPick : Sp := fun vs H Q _ => ∃ (p c : Addr) (ns : List Int) (n : Nat) (x : V) (ys : List V), vs = [.ref p, x] ∧ Pen H p c ns n ∧ n ≤ 1000000000 ∧ Menu H x ys ∧
  ∀ (v : V) (H' : Hp), v ∈ ys → Pen H' p c ns (n + 1) → But (· = p) H H' → Q v H'
theorem scP : FnScope ["_law_pen_here", "_law_some"] ["_law_pen_here", "_law_some"] (defScope sPick) := ⟨rfl, rfl, rfl, by decide +kernel, rfl, by decide +kernel, by decide +kernel⟩
section
variable {P : Program} {w : World} {K : PySem.W.Frag} {mg : Str → Option Value} {base : Heap}
theorem ok_pick {f : Addr} {fd : FuncData} (F : Fun K "_law_pick" "_law_pick" sPick f fd) (T : Txt mg) (CD : Cal P w K mg base "_law_draw" 1 ["_law_pen_here", "_law_many"] spDraw) : FnOk P w K mg base CX0 2 f fd ["_law_pen_here", "_law_some"] spPick := by
  obtain ⟨fD, fdD, mD, kD, bD, GD⟩ := CD
  refine F.ok scP (fun vs H Q E h => ?_) (fun cdv A outer s H vs Q E hr h => ?_)
  · obtain ⟨p, c, ns, n, x, ys, rfl, _⟩ := h
    rfl
  · obtain ⟨p, c, ns, n, x, ys, rfl, hP, hn, hM, k⟩ := h
    obtain ⟨_, _, _, _, _, hp, _, _⟩ := id hP
    refine ⟨_, pss_one (ps_ret (pe_ix ix_seq (pv 1) (pe_call GD hr (by rfl) mD kD bD .nil pass0 (pa_cons (pv 0) (pa_cons (pe_callB call_len (by rfl) T.len PySem.boot_len (pa_cons (pv 1) pa_nil)) pa_nil))) (fun _ _ => rfl))), ?_⟩
    have hL : LenV K x H ys.length := by
      obtain ⟨_, _, h3⟩ := id hM
      rcases h3 with ⟨l, rfl, q | q⟩ | ⟨z, rfl, rfl⟩
      · exact .inl ⟨_, SqL.of q, rfl⟩
      · exact .inr ⟨_, SqT.of q, rfl⟩
      · refine ⟨?_, signs_len z⟩
        have e := signs_len z
        have h1 := hM.2.1
        rw [e] at h1
        exact Nat.le_trans h1 (by decide)
    refine ⟨_, rfl, _, rfl, _, rfl, x, ys.length, rfl, hL, ?_⟩
    refine ⟨p, c, ns, n, _, rfl, hP, hn, Int.ofNat_le.mpr hM.1, ?_, fun r H' r0 r1 hP' b => ?_⟩
    · have := hM.2.1
      omega
    · have hM' := hM.but b (fun l q => by rw [q]; exact ⟨fun z => (by rw [hp] at z; cases z), fun z => (by rw [hp] at z; cases z)⟩)
      have hr' : r.toNat < ys.length := by omega
      have hv := List.getElem?_eq_getElem hr'
      have kk := k ys[r.toNat] H' (List.getElem_mem _) hP' b
      obtain ⟨_, h1000, h3⟩ := hM'
      rcases h3 with ⟨l, rfl, q | q⟩ | ⟨z, rfl, rfl⟩
      · exact .inl ⟨l, _, _, _, rfl, rfl, SqL.of q, atI_int r0 hv, kk⟩
      · exact .inr (.inl ⟨l, _, _, _, rfl, rfl, SqT.of q, atI_int r0 hv, kk⟩)
      · have hz : r.toNat < z.cps.toList.length := by
          have e : (signs z).length = z.cps.toList.length := List.length_map _
          rw [e] at hr'
          exact hr'
        refine .inr (.inr ⟨z, r, z.cps.toList[r.toNat], rfl, rfl, ?_, atI_int r0 (List.getElem?_eq_getElem hz), ?_⟩)
        · rw [signs_len z] at h1000
          exact Nat.le_trans h1000 (by decide)
        · have e : (signs z)[r.toNat] = V.str ⟨#[z.cps.toList[r.toNat]]⟩ := List.getElem_map _
          rw [e] at kk
          exact kk
end
end K3
namespace K3
open PySem L2
def spPen (K : PySem.W.Frag) : Sp := fun vs H Q _ => ∃ (a : Addr) (ns : List Int), vs = [.ref a] ∧ SqL K H a (ns.map V.int) ∧ ns.length ≤ 63 ∧
  ∀ (p c : Addr) (H' : Hp), H p = none → H c = none → Pen H' p c ns 0 → Same H H' → Q (.ref p) H'
theorem scN : FnScope ["_law_script"] ["_law_script"] (defScope sPen) := ⟨rfl, rfl, rfl, by decide +kernel, rfl, by decide +kernel, by decide +kernel⟩
theorem cut63 {xs : List V} (h : xs.length ≤ 63) : cutV xs none (some 63) = xs := by
  have e : HT.sIx xs.length xs.length (some 63) = xs.length := by
    unfold HT.sIx
    simp
    omega
  have e0 : HT.sIx xs.length 0 none = 0 := rfl
  unfold cutV
  rw [e, e0]
  simp
section
variable {P : Program} {w : World} {K : PySem.W.Frag} {mg : Str → Option Value} {base : Heap}
theorem ok_pen {f : Addr} {fd : FuncData} (F : Fun K "_law_pen" "_law_pen" sPen f fd) (T : Txt mg) : FnOk P w K mg base CX0 1 f fd ["_law_script"] (spPen K) := by
  refine F.ok scN (fun vs H Q E h => ?_) (fun cdv A outer s H vs Q E hr h => ?_)
  · obtain ⟨a, ns, rfl, _⟩ := h
    rfl
  · obtain ⟨a, ns, rfl, hS, h63, k⟩ := h
    refine ⟨_, pss_one (ps_ret (pe_disp (pps_cons pe_str (pe_callTy call_list_of (by rfl) T.list (by decide +kernel) (pa_cons (pe_slice sl_list (pv 0) po_none (po_some pe_int)) pa_nil)) (pps_cons pe_str pe_int (pps_cons pe_str pe_int pps_nil))) (by rfl) (by rfl) (fun z => by cases z) (by decide))), ?_⟩
    intro p hp
    refine ⟨_, rfl, _, rfl, a, _, rfl, (Same.seq (fun b o e => by rw [upd_ne (ne_of_none e hp)]; exact e) hS), fun t ht => ?_⟩
    rw [cut63 (by rw [List.length_map]; exact h63)]
    refine ⟨t, _, rfl, .inl (SqL.of upd_same), fun l hl => ?_⟩
    have ntl : t ≠ l := ne_of_none upd_same hl
    have hl1 : upd H p (HO.dK []) l = none := by rw [upd_ne ntl.symm] at hl; exact hl
    have npl : p ≠ l := ne_of_none upd_same hl1
    have hl0 : H l = none := by rw [upd_ne npl.symm] at hl1; exact hl1
    have npt : p ≠ t := ne_of_none upd_same ht
    refine ⟨by rw [upd_ne npl, upd_ne npt, upd_same], [(Sum.inr "cells", .ref l), (Sum.inr "at", .int 0), (Sum.inr "left", .int 0)], rfl, (by show 3 ≤ 15; decide), ?_⟩
    refine k p l _ hp hl0 ⟨0, 0, Int.le_refl _, Int.le_refl _, Int.le_refl _, upd_same, by rw [upd_ne npl.symm, upd_same], h63⟩ (fun b o e => ?_)
    have ht0 : H t = none := by rw [upd_ne npt.symm] at ht; exact ht
    rw [upd_ne (ne_of_none e hp), upd_ne (ne_of_none e hl0), upd_ne (ne_of_none e ht0), upd_ne (ne_of_none e hp)]
    exact e
end
end K3
namespace K3
open PySem L2
theorem Pen.but {M : Addr → Prop} {H H' : Hp} {p c : Addr} {ns : List Int} {n : Nat} (h : Pen H p c ns n) (e : But M H H') (n1 : ¬ M p) (n2 : ¬ M c) : Pen H' p c ns n := by
  obtain ⟨a, l, h1, h2, h3, h4, h5, h6⟩ := h
  exact ⟨a, l, h1, h2, h3, e _ _ n1 h4, e _ _ n2 h5, h6⟩
theorem Pen.new {H : Hp} {p c : Addr} {ns : List Int} {n : Nat} (h : Pen H p c ns n) {l : Addr} {o : HO} (hl : H l = none) : Pen (upd H l o) p c ns n :=
  h.but (M := fun _ => False) ((But.refl _ H).new hl) (fun z => z) (fun z => z)
theorem Pen.fresh {H : Hp} {p c : Addr} {ns : List Int} {n : Nat} (h : Pen H p c ns n) {l : Addr} (hl : H l = none) : l ≠ p ∧ l ≠ c := by
  obtain ⟨a, b, _, _, _, h4, h5, _⟩ := h
  exact ⟨(ne_of_none h4 hl).symm, (ne_of_none h5 hl).symm⟩
/-- an object beside the pen changes -/
theorem Pen.mut {H : Hp} {p c : Addr} {ns : List Int} {n : Nat} (h : Pen H p c ns n) {l : Addr} {o : HO} (n1 : l ≠ p) (n2 : l ≠ c) : Pen (upd H l o) p c ns n :=
  h.but (M := (· = l)) ((But.refl _ H).mut rfl) (fun z => n1 z.symm) (fun z => n2 z.symm)
theorem Pen.mono {H : Hp} {p c : Addr} {ns : List Int} {n m : Nat} (h : Pen H p c ns n) (hm : n ≤ m) : Pen H p c ns m := by
  obtain ⟨a, l, h1, h2, h3, h4, h5, h6⟩ := h
  exact ⟨a, l, h1, by omega, h3, h4, h5, h6⟩
theorem Pen.ne {H : Hp} {p c : Addr} {ns : List Int} {n : Nat} (h : Pen H p c ns n) {l : Addr} {xs : List V} (q : H l = some (.lst xs)) : l ≠ p := by
  obtain ⟨a, b, _, _, _, h4, _, _⟩ := h
  exact ne_of q h4 (by intro z; cases z)
theorem Pen.neT {H : Hp} {p c : Addr} {ns : List Int} {n : Nat} (h : Pen H p c ns n) {l : Addr} {xs : List V} (q : H l = some (.tup xs)) : l ≠ p := by
  obtain ⟨a, b, _, _, _, h4, _, _⟩ := h
  exact ne_of q h4 (by intro z; cases z)
end K3
namespace K3
open PySem L2
/-! ### data of tuples -/
def Tups (H H' : Hp) : Prop := ∀ a xs, H a = some (.tup xs) → H' a = some (.tup xs)
theorem Tups.refl (H : Hp) : Tups H H := fun _ _ h => h
theorem Tups.trans {H H1 H2 : Hp} (a : Tups H H1) (b : Tups H1 H2) : Tups H H2 := fun c o h => b c o (a c o h)
theorem But.tups {M : Addr → Prop} {H H' : Hp} (e : But M H H') (n : ∀ a xs, M a → H a ≠ some (.tup xs)) : Tups H H' := fun a xs h => e a _ (fun m => n a xs m h) h
theorem Tups.new {H H' : Hp} (e : Tups H H') {p : Addr} {o : HO} (h : H' p = none) : Tups H (upd H' p o) := fun a xs z => by
  have z1 := e a xs z
  rw [upd_ne (ne_of_none z1 h)]
  exact z1
theorem Tups.mut {H H' : Hp} (e : Tups H H') {p : Addr} {u o : HO} (h : H' p = some u) (n : ∀ xs, u ≠ .tup xs) : Tups H (upd H' p o) := fun a xs z => by
  have z1 := e a xs z
  rw [upd_ne (fun q => by rw [q, h] at z1; exact n xs (Option.some.inj z1))]
  exact z1
theorem Pen.tups {H H' : Hp} {p c : Addr} {ns : List Int} {n : Nat} (h : Pen H p c ns n) (e : But (· = p) H H') : Tups H H' := e.tups fun a xs q z => by
  obtain ⟨_, _, _, _, _, h4, _, _⟩ := h
  rw [q, h4] at z
  cases z
mutual
inductive Dt (H : Hp) : V → PyData → Prop
  | non : Dt H .non .none
  | int (i : Int) : Dt H (.int i) (.int i)
  | str (z : Str) : Dt H (.str z) (.str z)
  | tup {a : Addr} {xs : List V} {ds : List PyData} : H a = some (.tup xs) → DtAll H xs ds → Dt H (.ref a) (.tuple ds)
inductive DtAll (H : Hp) : List V → List PyData → Prop
  | nil : DtAll H [] []
  | cons {v : V} {vs : List V} {d : PyData} {ds : List PyData} : Dt H v d → DtAll H vs ds → DtAll H (v :: vs) (d :: ds)
end
mutual
theorem Dt.mono {H H' : Hp} (e : Tups H H') : ∀ {d : PyData} {v : V}, Dt H v d → Dt H' v d
  | _, _, .non => .non
  | _, _, .int i => .int i
  | _, _, .str z => .str z
  | _, _, .tup h a => .tup (e _ _ h) (DtAll.mono e a)
theorem DtAll.mono {H H' : Hp} (e : Tups H H') : ∀ {ds : List PyData} {vs : List V}, DtAll H vs ds → DtAll H' vs ds
  | _, _, .nil => .nil
  | _, _, .cons h a => .cons (Dt.mono e h) (DtAll.mono e a)
end
mutual
theorem Dt.dp {K : PySem.W.Frag} {H : Hp} : ∀ {d : PyData} {v : V}, Dt H v d → Dp K H v d
  | _, _, .non => .non
  | _, _, .int i => .int i
  | _, _, .str z => .str z
  | _, _, .tup h a => .tup (SqT.of h) (DtAll.dp a)
theorem DtAll.dp {K : PySem.W.Frag} {H : Hp} : ∀ {ds : List PyData} {vs : List V}, DtAll H vs ds → DpAll K H vs ds
  | _, _, .nil => .nil
  | _, _, .cons h a => .cons (Dt.dp h) (DtAll.dp a)
end
theorem DtAll.length {H : Hp} : ∀ {ds : List PyData} {vs : List V}, DtAll H vs ds → vs.length = ds.length
  | _, _, .nil => rfl
  | _, _, .cons _ a => by rw [List.length_cons, List.length_cons, DtAll.length a]
theorem DtAll.app {H : Hp} : ∀ {ds es : List PyData} {vs ws : List V}, DtAll H vs ds → DtAll H ws es → DtAll H (vs ++ ws) (ds ++ es)
  | _, _, _, _, .nil, b => b
  | _, _, _, _, .cons h a, b => .cons h (DtAll.app a b)
theorem DtAll.drop {H : Hp} : ∀ (n : Nat) {ds : List PyData} {vs : List V}, DtAll H vs ds → DtAll H (vs.drop n) (ds.drop n)
  | 0, _, _, h => h
  | n + 1, _, _, .nil => .nil
  | n + 1, _, _, .cons _ a => DtAll.drop n a
theorem DtAll.take {H : Hp} : ∀ (n : Nat) {ds : List PyData} {vs : List V}, DtAll H vs ds → DtAll H (vs.take n) (ds.take n)
  | 0, _, _, h => .nil
  | n + 1, _, _, .nil => .nil
  | n + 1, _, _, .cons h a => .cons h (DtAll.take n a)
theorem DtAll.get {H : Hp} : ∀ {ds : List PyData} {vs : List V}, DtAll H vs ds → ∀ (i : Nat) (v : V), vs[i]? = some v → ∃ d, ds[i]? = some d ∧ Dt H v d
  | _, _, .nil, i, v, e => by simp at e
  | _, _, .cons h a, 0, v, e => by
    cases e
    exact ⟨_, rfl, h⟩
  | _, _, .cons h a, i + 1, v, e => DtAll.get a i v e
theorem DtAll.mem {H : Hp} : ∀ {ds : List PyData} {vs : List V}, DtAll H vs ds → ∀ v, v ∈ vs → ∃ d, d ∈ ds ∧ Dt H v d
  | _, _, .nil, v, e => absurd e (by simp)
  | _, _, .cons h a, v, e => by
    rcases List.mem_cons.mp e with rfl | e
    · exact ⟨_, List.mem_cons_self .., h⟩
    · obtain ⟨d, h1, h2⟩ := DtAll.mem a v e
      exact ⟨d, List.mem_cons_of_mem _ h1, h2⟩
/-- a worth without holds, as a draw gives it -/
def PlainD (d : PyData) : Prop := d = .none ∨ (∃ i : Int, -999999999 ≤ i ∧ i ≤ 999999999 ∧ d = .int i) ∨ (∃ z : Str, z ∈ ([("a" : Str), "ab", "b", "to", "zzzzzzzz", "odd"] : List Str) ∧ d = .str z) ∨
  d = .tuple [.int 1, .str "a"] ∨ d = .tuple [.str "to", .str "a"] ∨ d = .tuple []
theorem PlainD.lay {d : PyData} (h : PlainD d) : d.canLay0 = true ∧ d.depth ≤ 3 := by
  rcases h with rfl | ⟨i, _, _, rfl⟩ | ⟨z, hz, rfl⟩ | rfl | rfl | rfl
  · exact ⟨rfl, by decide⟩
  · exact ⟨rfl, by simp [PyData.depth]⟩
  · refine ⟨?_, by simp [PyData.depth]⟩
    simp only [List.mem_cons, List.not_mem_nil, or_false] at hz
    rcases hz with rfl | rfl | rfl | rfl | rfl | rfl <;> decide +kernel
  · exact ⟨by decide +kernel, by decide +kernel⟩
  · exact ⟨by decide +kernel, by decide +kernel⟩
  · exact ⟨by decide +kernel, by decide +kernel⟩
def spPlain : Sp := fun vs H Q _ => ∃ (p c : Addr) (ns : List Int) (n : Nat), vs = [.ref p] ∧ Pen H p c ns n ∧ n + 5 ≤ 1000000000 ∧
  ∀ (v : V) (d : PyData) (H' : Hp), Dt H' v d → PlainD d → Pen H' p c ns (n + 5) → But (· = p) H H' → Q v H'
abbrev sPlain : Stmt := top 16
theorem scPl : FnScope ["_law_pen_here", "_law_some"] ["_law_pen_here"] (defScope sPlain) := ⟨rfl, rfl, rfl, by decide +kernel, rfl, by decide +kernel, by decide +kernel⟩
section
variable {P : Program} {w : World} {K : PySem.W.Frag} {mg : Str → Option Value} {base : Heap}
theorem ok_plain {f : Addr} {fd : FuncData} (F : Fun K "_law_plain" "_law_plain" sPlain f fd) (T : Txt mg) (CD : Cal P w K mg base "_law_draw" 1 ["_law_pen_here", "_law_many"] spDraw)
    (CP : Cal P w K mg base "_law_pick" 2 ["_law_pen_here", "_law_some"] spPick) : FnOk P w K mg base CX0 3 f fd ["_law_pen_here"] spPlain := by
  obtain ⟨fD, fdD, mD, kD, bD, GD⟩ := CD
  obtain ⟨fP, fdP, mP, kP, bP, GP⟩ := CP
  refine F.ok scPl (fun vs H Q E h => ?_) (fun cdv A outer s H vs Q E hr h => ?_)
  · obtain ⟨p, c, ns, n, rfl, _⟩ := h
    rfl
  · obtain ⟨p, c, ns, n, rfl, hP, hn, k⟩ := h
    have hr1 : Room 1 _ := hr.mono (by decide)
    refine ⟨_, C8.pss_cut (ps_set (i := 1) scPl.nd rfl (.inl rfl) (pe_lst (pa_cons pe_non (pa_cons pe_int (pa_cons pe_int (pa_cons (pe_call GD hr1 (by rfl) mD kD bD .nil pass0 (pa_cons (pv 0) (pa_cons pe_int pa_nil)))
          (pa_cons (pe_call GP hr (by rfl) mP kP bP .nil pass0 (pa_cons (pv 0) (pa_cons (pe_lst (pa_cons (pe_un un_neg pe_int) (pa_cons pe_int (pa_cons pe_int (pa_cons pe_int (pa_cons pe_int (pa_cons (pe_un un_neg pe_int) pa_nil))))))) pa_nil))) pa_nil)))))))
      (C8.pss_cut (ps_set (i := 1) scPl.nd rfl (.inl rfl) (pe_op op_cat (pv 1) (pe_lst
          (pa_cons (pe_call GP hr (by rfl) mP kP bP .nil pass0 (pa_cons (pv 0) (pa_cons (pe_lst (pa_cons pe_str (pa_cons pe_str (pa_cons pe_str (pa_cons pe_str (pa_cons pe_str (pa_cons pe_str pa_nil))))))) pa_nil)))
          (pa_cons (pe_tup (pa_cons pe_int (pa_cons pe_str pa_nil))) (pa_cons (pe_tup (pa_cons pe_str (pa_cons pe_str pa_nil))) (pa_cons (pe_tup pa_nil) pa_nil)))))))
      (pss_one (ps_ret (pe_ix ix_list (pv 1) (pe_call GD hr1 (by rfl) mD kD bD .nil pass0 (pa_cons (pv 0) (pa_cons pe_int pa_nil))) (fun _ _ => rfl))))), ?_⟩
    refine ⟨fun σ' H' => ∃ (l : Addr) (xs : List V) (ds : List PyData), l ≠ p ∧ l ≠ c ∧ σ' = [some (.ref p), some (.ref l)] ∧ xs.length = 5 ∧ H' l = some (.lst xs) ∧ DtAll H' xs ds ∧ (∀ d ∈ ds, PlainD d) ∧ Pen H' p c ns (n + 2) ∧ But (· = p) H H', ?_, ?_⟩
    · refine ⟨_, rfl, p, c, ns, n, 12, rfl, hP, by omega, by decide, by decide, fun r H1 r0 r1 hP1 b1 => ?_⟩
      refine ⟨_, rfl, _, rfl, _, rfl, (by show 6 ≤ sizeLine; decide), fun l hl => ?_⟩
      refine ⟨p, c, ns, n + 1, _, _, rfl, hP1.new hl, by omega, ⟨by show 1 ≤ 6; decide, by show 6 ≤ 1000; decide, .inl ⟨l, rfl, .inl upd_same⟩⟩, fun v H2 hv hP2 b2 => ?_⟩
      refine ⟨(by show 5 ≤ sizeLine; decide), fun l2 hl2 => ?_⟩
      have hv' : v ∈ ([-9, 10, 99, 100, 999999999, -999999999] : List Int).map V.int := hv
      obtain ⟨q, hq, rfl⟩ := List.mem_map.mp hv'
      have nl := hP2.fresh hl2
      refine ⟨l2, _, [.none, .int 0, .int 1, .int r, .int q], nl.1, nl.2, rfl, rfl, upd_same, .cons .non (.cons (.int _) (.cons (.int _) (.cons (.int _) (.cons (.int _) .nil)))), ?_, hP2.new hl2, ((b1.new hl).trans b2).new hl2⟩
      intro d hd
      simp only [List.mem_cons, List.not_mem_nil, or_false] at hd hq
      rcases hd with rfl | rfl | rfl | rfl | rfl
      · exact .inl rfl
      · exact .inr (.inl ⟨_, by decide, by decide, rfl⟩)
      · exact .inr (.inl ⟨_, by decide, by decide, rfl⟩)
      · exact .inr (.inl ⟨_, by omega, by omega, rfl⟩)
      · exact .inr (.inl ⟨_, by omega, by omega, rfl⟩)
    rintro σ1 H1 ⟨l, xs, ds, nlp, nlc, rfl, hx5, hL, hD, hPl, hP1, b1⟩
    refine ⟨fun σ' H' => ∃ (l : Addr) (xs : List V) (ds : List PyData), l ≠ p ∧ l ≠ c ∧ σ' = [some (.ref p), some (.ref l)] ∧ xs.length = 9 ∧ H' l = some (.lst xs) ∧ DtAll H' xs ds ∧ (∀ d ∈ ds, PlainD d) ∧ Pen H' p c ns (n + 3) ∧ But (· = p) H H', ?_, ?_⟩
    · refine ⟨_, rfl, _, rfl, (by show 6 ≤ sizeLine; decide), fun l1 hl1 => ?_⟩
      refine ⟨p, c, ns, n + 2, _, _, rfl, hP1.new hl1, by omega, ⟨by show 1 ≤ 6; decide, by show 6 ≤ 1000; decide, .inl ⟨l1, rfl, .inl upd_same⟩⟩, fun v H2 hv hP2 b2 => ?_⟩
      have hv' : v ∈ ([("a" : Str), "ab", "b", "to", "zzzzzzzz", "odd"] : List Str).map V.str := hv
      obtain ⟨q, hq, rfl⟩ := List.mem_map.mp hv'
      have T1 : Tups H1 (upd H1 l1 (.lst [.str "a", .str "ab", .str "b", .str "to", .str "zzzzzzzz", .str "odd"])) := (Tups.refl _).new hl1
      have T2 : Tups H1 H2 := T1.trans ((hP1.new hl1).tups b2)
      have hL2 : H2 l = some (.lst xs) := b2 _ _ nlp (by rw [upd_ne (ne_of_none hL hl1)]; exact hL)
      refine ⟨(by show 2 ≤ sizeLine; decide), fun t1 ht1 => ⟨(by show 2 ≤ sizeLine; decide), fun t2 ht2 => ⟨Nat.zero_le _, fun t3 ht3 => ⟨(by show 4 ≤ sizeLine; decide), fun l2 hl2 => ?_⟩⟩⟩⟩
      have T3 : Tups H1 (upd (upd (upd H2 t1 (.tup [.int 1, .str "a"])) t2 (.tup [.str "to", .str "a"])) t3 (.tup [])) := ((T2.new ht1).new ht2).new ht3
      have n12 : t1 ≠ t2 := ne_of_none upd_same ht2
      have n23 : t2 ≠ t3 := ne_of_none upd_same ht3
      have n13 : t1 ≠ t3 := ne_of_none (show upd (upd H2 t1 (.tup [.int 1, .str "a"])) t2 (.tup [.str "to", .str "a"]) t1 = some (.tup [.int 1, .str "a"]) by rw [upd_ne n12, upd_same]) ht3
      have a1 : upd (upd (upd H2 t1 (.tup [.int 1, .str "a"])) t2 (.tup [.str "to", .str "a"])) t3 (.tup []) t1 = some (.tup [.int 1, .str "a"]) := by rw [upd_ne n13, upd_ne n12, upd_same]
      have a2 : upd (upd (upd H2 t1 (.tup [.int 1, .str "a"])) t2 (.tup [.str "to", .str "a"])) t3 (.tup []) t2 = some (.tup [.str "to", .str "a"]) := by rw [upd_ne n23, upd_same]
      have a3 : upd (upd (upd H2 t1 (.tup [.int 1, .str "a"])) t2 (.tup [.str "to", .str "a"])) t3 (.tup []) t3 = some (.tup []) := upd_same
      have hL3 : upd (upd (upd H2 t1 (.tup [.int 1, .str "a"])) t2 (.tup [.str "to", .str "a"])) t3 (.tup []) l = some (.lst xs) := ((((But.refl (fun _ => False) H2).new ht1).new ht2).new ht3) _ _ (fun z => z) hL2
      have hP3 := ((hP2.new ht1).new ht2 (o := .tup [.str "to", .str "a"])).new ht3 (o := .tup [])
      have b3 : But (· = p) H (upd (upd (upd H2 t1 (.tup [.int 1, .str "a"])) t2 (.tup [.str "to", .str "a"])) t3 (.tup [])) := (((b1.new hl1).trans b2).new ht1).new ht2 |>.new ht3
      generalize upd (upd (upd H2 t1 (.tup [.int 1, .str "a"])) t2 (.tup [.str "to", .str "a"])) t3 (.tup []) = H3 at *
      have hl3 : upd H3 l2 (.lst [.str q, .ref t1, .ref t2, .ref t3]) l = some (.lst xs) := by rw [upd_ne (ne_of_none hL3 hl2)]; exact hL3
      refine ⟨l, l2, _, _, rfl, rfl, hl3, upd_same, (by show xs.length + 4 ≤ sizeLine; rw [hx5]; decide), fun l4 hl4 => ?_⟩
      have nl := ((hP3.new hl2).fresh hl4)
      refine ⟨l4, _, ds ++ [.str q, .tuple [.int 1, .str "a"], .tuple [.str "to", .str "a"], .tuple []], nl.1, nl.2, rfl, ?_, upd_same, ?_, ?_, (hP3.new hl2).new hl4, (b3.new hl2).new hl4⟩
      · rw [List.length_append, hx5]; rfl
      · have D3 : DtAll H3 (xs ++ [.str q, .ref t1, .ref t2, .ref t3]) (ds ++ [.str q, .tuple [.int 1, .str "a"], .tuple [.str "to", .str "a"], .tuple []]) :=
          (hD.mono T3).app (.cons (.str _) (.cons (.tup a1 (.cons (.int _) (.cons (.str _) .nil))) (.cons (.tup a2 (.cons (.str _) (.cons (.str _) .nil))) (.cons (.tup a3 .nil) .nil))))
        exact D3.mono (((Tups.refl _).new hl2).new hl4)
      · intro d hd
        rcases List.mem_append.mp hd with hd | hd
        · exact hPl d hd
        · simp only [List.mem_cons, List.not_mem_nil, or_false] at hd
          rcases hd with rfl | rfl | rfl | rfl
          · exact .inr (.inr (.inl ⟨q, hq, rfl⟩))
          · exact .inr (.inr (.inr (.inl rfl)))
          · exact .inr (.inr (.inr (.inr (.inl rfl))))
          · exact .inr (.inr (.inr (.inr (.inr rfl))))
    rintro σ2 H2 ⟨l, xs, ds, nlp, nlc, rfl, hx9, hL, hD, hPl, hP2, b2⟩
    refine ⟨_, rfl, _, rfl, p, c, ns, n + 3, 9, rfl, hP2, by omega, by decide, by decide, fun r H3 r0 r1 hP3 b3 => ?_⟩
    have hr9 : r.toNat < xs.length := by omega
    obtain ⟨d, hd, hdt⟩ := hD.get _ _ (List.getElem?_eq_getElem hr9)
    refine ⟨l, _, _, _, rfl, rfl, SqL.of (b3 _ _ nlp hL), atI_int r0 (List.getElem?_eq_getElem hr9), ?_⟩
    exact k _ d H3 (hdt.mono (hP2.tups b3)) (hPl d (List.mem_of_getElem? hd)) (hP3.mono (by omega)) (b2.trans b3)
end
end K3
namespace K3
open PySem L2
def spRow : Sp := fun vs H Q _ => ∃ (p c : Addr) (ns : List Int) (n : Nat), vs = [.ref p] ∧ Pen H p c ns n ∧ n + 20 ≤ 1000000000 ∧
  ∀ (t : Addr) (xs : List V) (ds : List PyData) (H' : Hp), H t = none → H' t = some (.tup xs) → DtAll H' xs ds → ds.length ≤ 3 → (∀ d ∈ ds, PlainD d) → Pen H' p c ns (n + 20) → But (· = p) H H' → Q (.ref t) H'
abbrev sRow : Stmt := top 17
theorem scRo : FnScope ["_law_pen_here", "_law_k"] ["_law_pen_here"] (defScope sRow) := ⟨rfl, rfl, rfl, by decide +kernel, rfl, by decide +kernel, by decide +kernel⟩
section
variable {P : Program} {w : World} {K : PySem.W.Frag} {mg : Str → Option Value} {base : Heap}
theorem ok_row {f : Addr} {fd : FuncData} (F : Fun K "_law_row_of" "_law_row_of" sRow f fd) (T : Txt mg) (CD : Cal P w K mg base "_law_draw" 1 ["_law_pen_here", "_law_many"] spDraw)
    (CP : Cal P w K mg base "_law_plain" 3 ["_law_pen_here"] spPlain) : FnOk P w K mg base CX0 4 f fd ["_law_pen_here"] spRow := by
  obtain ⟨fD, fdD, mD, kD, bD, GD⟩ := CD
  obtain ⟨fP, fdP, mP, kP, bP, GP⟩ := CP
  refine F.ok scRo (fun vs H Q E h => ?_) (fun cdv A outer s H vs Q E hr h => ?_)
  · obtain ⟨p, c, ns, n, rfl, _⟩ := h
    rfl
  · obtain ⟨p, c, ns, n, rfl, hP, hn, k⟩ := h
    have hr1 : Room 1 _ := hr.mono (by decide)
    refine ⟨_, pss_one (ps_ret (pe_callTy call_tuple_of (by rfl) T.tuple (by decide +kernel) (pa_cons (pe_lc (own := [("_law_k", 1)]) (g := gName 1) (tt := tYes) rfl scRo.nd
          (pi_range1 rfl T.range (pa_cons (pe_call GD hr1 (by rfl) mD kD bD .nil pass0 (pa_cons (pv 0) (pa_cons pe_int pa_nil))) pa_nil))
          (blkOk_by (N := ["_law_pen_here", "_law_k"]) (sc := defScope sRow) (by decide +kernel))
          (fun _ _ _ _ _ => pg_name (i := 1) scRo.nd rfl (Or.inl rfl)) (fun _ _ _ _ _ => pts_nil)
          (fun _ _ _ _ _ => pe_call GP hr (by rfl) mP kP bP .nil pass0 (pa_cons (pv 0) pa_nil))) pa_nil))), ?_⟩
    refine ⟨_, rfl, p, c, ns, n, 4, rfl, hP, by omega, by decide, by decide, fun r H1 r0 r1 hP1 b1 => ?_⟩
    refine ⟨_, rfl, by omega, by omega, fun D hD => ?_⟩
    have nD := hP1.fresh hD
    refine lc_range (lo := 0) (n := r.toNat) (fun i H' => ∃ (xs : List V) (ds : List PyData), H' D = some (.lst xs) ∧ DtAll H' xs ds ∧ ds.length = i ∧ (∀ d ∈ ds, PlainD d) ∧ Pen H' p c ns (n + 1 + 5 * i) ∧ But (· = p) H H') ?_ ?_ ?_
    · exact ⟨[], [], upd_same, .nil, rfl, fun d hd => absurd hd (by simp), hP1.new hD, b1.new hD⟩
    · rintro i H2 hi ⟨xs, ds, hL, hd, hl, hp, hP2, b2⟩
      refine ⟨rfl, _, rfl, p, c, ns, n + 1 + 5 * i, rfl, hP2, by omega, fun v d H3 hv hpd hP3 b3 => ?_⟩
      have hL3 := b3 _ _ nD.1 hL
      have T3 := hP2.tups b3
      refine ⟨_, hL3, ?_, xs ++ [v], ds ++ [d], upd_same, ?_, ?_, ?_, ?_, (b2.trans b3).mutNew (b1.free hD nD.1)⟩
      · rw [hd.length]
        exact small1000 (by omega)
      · exact ((hd.mono T3).app (.cons hv .nil)).mono ((Tups.refl _).mut hL3 (by intro _ z; cases z))
      · rw [List.length_append, hl]; rfl
      · intro e he
        rcases List.mem_append.mp he with q | q
        · exact hp e q
        · rw [List.mem_singleton.mp q]; exact hpd
      · exact (hP3.mut nD.1 nD.2).mono (by omega)
    · rintro H2 ⟨xs, ds, hL, hd, hl, hp, hP2, b2⟩
      refine ⟨D, _, rfl, .inl ⟨SqL.of hL, fun t ht => ?_⟩⟩
      have nt := hP2.fresh ht
      exact k t xs ds _ (b2.free ht nt.1) upd_same (hd.mono ((Tups.refl _).new ht)) (by omega) hp ((hP2.new ht).mono (by omega)) (b2.new ht)
end
end K3
namespace GG
open PySem PySem.Spec PyProof.Rows L2
/-! ### defs that are called where no repr is under way: the same promises, for such callers alone -/
section
variable {P : Program} {w : World} {K : PySem.W.Frag} {mg : Str → Option Value} {base : Heap} {CX : CXT} {k : Nat} {f : Addr} {fd : FuncData} {ps : List Str} {sp : Sp}
/-- nothing is being shown by the callers -/
abbrev Free (A : Around) : Prop := A.guards = some []
def FnG (P : Program) (w : World) (K : PySem.W.Frag) (mg : Str → Option Value) (base : Heap) (CX : CXT) (k : Nat) (f : Addr) (fd : FuncData) (ps : List Str) (sp : Sp) : Prop :=
  (∀ vs H Q E, sp vs H Q E → vs.length = ps.length) ∧
  ∀ (A : Around), Free A → Room k A → ∀ (outer : List Env) (s : Shared) (H : Hp), Env0 P w K mg base A outer s H →
    ∀ (args : Args) (us : List Value) (vs : List V), BindsTo s fd args (ps.zip us) → Vals vs us → ∀ (Q : VK) (E : XK), sp vs H Q E →
      codeAny (model P w) A (.call (.ref f) args) (CR CX outer P w H s Q E) s
theorem FnG.of (F : FnOk P w K mg base CX k f fd ps sp) : FnG P w K mg base CX k f fd ps sp :=
  ⟨F.len, fun A _ hr outer s H e0 args us vs hb hv Q E hs => F.run A outer s H args us vs Q E hr e0 hb hv hs⟩
end
theorem fng_fn {CX : CXT} {P : Program} {w : World} {K : PySem.W.Frag} {mg : Str → Option Value} {base : Heap} {k : Nat} {f : Addr} {nm qn : Str} {pa : Arguments} {bd : List Stmt} {sc : Scope} {dv kv doc pm cv ct oc : Value} {an od : Option Addr}
    {sl : Array (Option Value)} {N ps : List Str} {sp : Sp} (lk : K.lookup f = some ⟨oc, od, .func (PySem.W.fnOf nm qn pa bd sc dv kv doc pm an cv ct), sl⟩) (hc : PySem.W.codeIn K cv qn = true) (S : FnScope N ps sc)
    (ln : ∀ vs H Q E, sp vs H Q E → vs.length = ps.length)
    (hbd : ∀ (A : Around) (outer : List Env) (s : Shared) (H : Hp) (vs : List V) (Q : VK) (E : XK), Free A → Room k (A.deeper (envOfC qn sc s.heap.objs.size f cv)) → sp vs H Q E →
      ∃ t, PSs (cxOf CX P w K mg base N qn sc f cv A outer s H E) bd t ∧ t { nx := fun _ H' => Q .non H', rt := Q } (start N vs) H) :
    FnG P w K mg base CX (k + 1) f (PySem.W.fnOf nm qn pa bd sc dv kv doc pm an cv ct) ps sp := by
  refine ⟨ln, ?_⟩
  intro A hg hr outer s H e0 args us vs hb rv Q E hs
  have many := ln _ _ _ _ hs
  have stay : ∀ b o, base.get? b = some o → s.heap.get? b = some o := fun b o e => (e0.bs b o e).1
  have kin : K.In s.heap := e0.mod.kin.keeps stay
  have kinds : ∀ z ∈ ps.zip us, sc.names.lookup z.1 = some .local ∨ (sc.names.lookup z.1 = some .cell ∧ ((cellsFrom (s.heap.objs.size + 1) sc.names []).lookup z.1).isSome = true) := by
    rintro ⟨y, v⟩ hz
    rcases S.par y (List.of_mem_zip hz).1 with h | h
    · exact Or.inl h
    · exact Or.inr ⟨h, PySem.W.cellsFrom_some _ _ _ (Or.inl h)⟩
  refine codeAny_call_function hr.depth (kin _ _ lk) rfl S.co S.gen rfl (PySem.W.codeRec_of kin hc) (hb _ _ _ _ (wpAny_newFunctionEnv_cells S.kind kinds ?_))
  intro env eenv s1 x
  subst eenv
  refine ⟨(e0.mod.nolimit.keeps stay).keeps x.toInCall.keep, codeAny_func ?_⟩
  obtain ⟨t, ht, hq⟩ := hbd A outer s H vs Q E hg (hr.deeper _) hs
  have I0 := inv_start (CX := CX) (E := E) S hr.hd e0 many rv x
  refine wpAny_mono (ht.run [] s1 (start N vs) H _ I0 hq) ?_ (fun e s' z => z)
  intro fl s' z
  match fl, z with
  | .ret u, ⟨v, σ', H', J, r1, q1⟩ => exact ⟨v, H', J.os, J.bare, J.base, J.hok, r1, q1⟩
  | .next, ⟨σ', H', J, q1⟩ => exact ⟨V.non, H', J.os, J.bare, J.base, J.hok, rfl, q1⟩
  | .brk, ⟨_, _, _, q1⟩ => exact q1.elim
  | .cont, ⟨_, _, _, q1⟩ => exact q1.elim
theorem deeper_free {A : Around} {e : Env} (h : Free A) : Free (A.deeper e) := h
/-- a def of the text -/
theorem fun_okG {P : Program} {w : World} {K : PySem.W.Frag} {mg : Str → Option Value} {base : Heap} {x qn : Str} {st : Stmt} {f : Addr} {fd : FuncData} {N ps : List Str} {k : Nat} {sp : Sp} (F : Fun K x qn st f fd) (S : FnScope N ps (defScope st))
    (ln : ∀ vs H Q E, sp vs H Q E → vs.length = ps.length)
    (hbd : ∀ (cdv : Value) (A : Around) (outer : List Env) (s : Shared) (H : Hp) (vs : List V) (Q : VK) (E : XK), Free (A.deeper (envOfC qn (defScope st) s.heap.objs.size f cdv)) → Room k (A.deeper (envOfC qn (defScope st) s.heap.objs.size f cdv)) → sp vs H Q E →
      ∃ t, PSs (cxOf CX0 P w K mg base N qn (defScope st) f cdv A outer s H E).nox (defBody st) t ∧ t { nx := fun _ H' => Q .non H', rt := Q } (start N vs) H) : FnG P w K mg base CX0 (k + 1) f fd ps sp := by
  obtain ⟨_, _, _, _, _, _, cdv, _, _, rfl, lk, hc⟩ := F.ex
  refine fng_fn lk hc S ln ?_
  intro A outer s H vs Q E hg hr hs
  obtain ⟨t, h1, h2⟩ := hbd cdv A outer s H vs Q E (deeper_free hg) hr hs
  exact ⟨t, h1.nox, h2⟩
section
variable {X : Cx} {CX : CXT} {k : Nat} {f : Addr} {fd : FuncData} {ps : List Str} {sp : Sp} {dvs : List V} {ds : List Value} {E : XK} {x : Str} {p pos : Pos} {e : Expr} {es : List Expr} {t : TA}
/-- f(e, ..) of such a def -/
theorem pe_callG (F : FnG X.prog X.w X.K X.mg X.base CX k f fd ps sp) (hf : Free X.A) (hr : Room k X.A) (hg : Gl X x) (hm : X.mg x = some (.ref f)) (hk : PySem.W.keepIn X.K (.ref f) = true) (hb : Binds X.K fd ps ds) (hd : Vals dvs ds) (hx : Passes CX X E)
    (ha : PA X (e :: es) t) (h1 : (x == ("__debug__" : Str)) = false := by decide) (h2 : starEach (e :: es) X.env = (false, eval e X.env) :: starEach es X.env := by rfl) (h3 : (backTo pos (starEach es X.env)).any (·.1) = false := by rfl) :
    PE X (.Call (.Name x p) (e :: es) [] pos) (tCall sp dvs E t) := by
  constructor
  intro pins s σ H Q I h
  refine wpAny_Call_Name_kw (ld_glob I hg hm (PySem.W.callWith_K (h₀ := X.base) I.ok.mod.kin hk (thn (ha.run pos pins s σ H _ I h) ?_) h2 h3) h1)
  rintro us s1 ⟨vs, H1, I1, r, q⟩
  refine ⟨I1.kIn, ?_⟩
  have r2 := r.append hd
  have many : (us ++ ds).length = ps.length := r2.length.symm.trans (F.1 _ _ _ _ q)
  refine wpAny_call (codeAny_mono (F.2 X.A hf hr X.stack s1 H1 I1.env0 ⟨us, []⟩ (us ++ ds) (vs ++ dvs) (hb s1 us I1.kIn many) r2 Q E q) ?_)
  intro r s' z
  match r, z with
  | .error e, z => exact hx pins σ H1 s1 e s' I1 z
  | .ok (.ret u), z => exact I1.after z
  | .ok .next, z => exact z.elim
  | .ok .brk, z => exact z.elim
  | .ok .cont, z => exact z.elim
/-- repr of data without dicts -/
def ShowOk (d : PyData) : Prop := d.showable = true ∧ d.hasDict = false ∧ d.depth ≤ 60 ∧ d.shown.length ≤ sizeLine ∧ (∀ i, d = .int i → i.natAbs.log2 < 1920) ∧ (∀ b, d ≠ .bool b)
def rRepr (K : PySem.W.Frag) : List V → Hp → VK → Prop := fun xs H Q => ∃ (v : V) (d : PyData), xs = [v] ∧ Dp K H v d ∧ ShowOk d ∧ Q (.str d.shown) H
end
section
variable {X : Cx}
theorem call_repr (hf : Free X.A) (hu : X.A.units + 64 < cLine) : CallR X (.builtin "repr") (rRepr X.K) := by
  intro pins s σ H xs us Q I r h
  obtain ⟨v, d, rfl, hd, ⟨h1, h2, h3, h4, h5, h6⟩, q⟩ := h
  obtain ⟨u, rfl, rv⟩ := vals1 r
  obtain ⟨as, hr⟩ := Dp.reads I d v u hd rv
  cases hd with
  | non =>
    obtain rfl : u = Value.none := rv
    exact PySem.P.repr_of_none ⟨.str _, H, I.tok _, ⟨_, rfl⟩, q⟩
  | bl b => exact absurd rfl (h6 b)
  | int i =>
    obtain ⟨t, rfl⟩ := rv
    exact PySem.P.repr_of_int (h5 i rfl) ⟨.str _, H, I.tok _, ⟨_, rfl⟩, q⟩
  | str z =>
    obtain ⟨t, rfl⟩ := rv
    exact PySem.P.repr_of_str ⟨.str _, H, I.tok _, ⟨_, rfl⟩, q⟩ h4
  | lst _ _ =>
    cases rv
    exact repr_of_reads' hr h1 (fun z => by rw [h2] at z; cases z) hf (by omega) (fun _ _ e => e) (fun h' t tk hk => ⟨.str _, H, I.kept hk, ⟨_, rfl⟩, q⟩) h4
  | tup _ _ =>
    cases rv
    exact repr_of_reads' hr h1 (fun z => by rw [h2] at z; cases z) hf (by omega) (fun _ _ e => e) (fun h' t tk hk => ⟨.str _, H, I.kept hk, ⟨_, rfl⟩, q⟩) h4
end
end GG
namespace GG
open PySem PySem.Spec PyProof.Rows L2
/-- the law itself, where its own text shows things -/
theorem law_callG {P : Program} {w : World} {K : PySem.W.Frag} {mg mb : Str → Option Value} {k : Nat} {fa a : Addr} {fd : FuncData} {x : Str} {sp : Sp} {s₁ : Shared} {vs : List Value} {ns : List Int}
    (KX : K.In s₁.heap) (gN : s₁.heap.Ns mainGlobals mg) (bN : s₁.heap.Ns builtinsNs mb) (bB : ∀ x : Str, x ≠ "__name__" → mb x = bootBuiltins x) (lim : s₁.heap.NoLimit) (gen : s₁.gens = #[])
    (ha : s₁.heap.get? a = some { cls := .type "list", data := .seq vs.toArray }) (hi : IntsAre vs ns) (hl : ns.length ≤ sizeLine) (hr : Room k callerA)
    (F : ∀ b : Heap, K.In b → b.Ns mainGlobals mg → FnG P w K mg b CX0 k fa fd [x] sp) (hb : ∀ (s : Shared) (u : Value), BindsTo s fd ⟨[u], []⟩ [(x, u)])
    (hs : ∀ H : Hp, Only H → SqL K H a (ns.map V.int) → sp [.ref a] H (fun v _ => v = .bl true) fun _ _ _ => False) :
    codeAny (model P w) callerA (.call (.ref fa) ⟨[.ref a], []⟩) (fun r s' => r = .ok (.ret (.bool true)) ∧ OldK s₁.heap s'.heap ∧ s'.os = s₁.os ∧ AllBare s'.gens) s₁ := by
  have main : ∀ H : Hp, Only H → SqL K H a (ns.map V.int) → HOk P w H s₁.heap → (∀ b, H b ≠ none → b = a ∧ K.lookup a = none) →
      codeAny (model P w) callerA (.call (.ref fa) ⟨[.ref a], []⟩) (fun r s' => r = .ok (.ret (.bool true)) ∧ OldK s₁.heap s'.heap ∧ s'.os = s₁.os ∧ AllBare s'.gens) s₁ := by
    intro H hO hS ok only
    have dic : ∀ {b : Addr} {o : Obj} {es : Array DictEntry} {ep : Nat}, s₁.heap.get? b = some o → o.data = .dict es ep → H b = none := by
      intro b o es ep e d
      match q : H b with
      | none => rfl
      | some u =>
        obtain ⟨rfl, _⟩ := only b (by rw [q]; exact fun z => by cases z)
        rw [ha] at e
        cases e
        cases d
    have ns1 : ∀ {b : Addr} {m : Str → Option Value}, s₁.heap.Ns b m → (hidT s₁.heap H).Ns b m := by
      rintro b m ⟨o, es, ep, e, d, r⟩
      exact ⟨o, es, ep, hidT_get e (dic e d), d, r⟩
    have kin : K.In (hidT s₁.heap H) := by
      intro b o e
      refine hidT_get (KX b o e) ?_
      match q : H b with
      | none => rfl
      | some u =>
        obtain ⟨rfl, h2⟩ := only b (by rw [q]; exact fun z => by cases z)
        rw [h2] at e
        cases e
    obtain ⟨mc, l1, l2⟩ := lim
    have e0 : Env0 P w K mg (hidT s₁.heap H) callerA [] s₁ H :=
      { frames := rfl, mod := ⟨kin, ns1 gN, ⟨mb, ns1 bN, bB⟩, ⟨mc, ns1 l1, l2⟩⟩, bs := fun b o e => of_hidT e, bsz := Nat.le_of_eq (hidT_size _ _), funs := trivial, frf := fun b z => (List.not_mem_nil (show b ∈ ([] : List Addr) from z)).elim, hok := ok, bare := .of_eq gen }
    refine codeAny_mono ((F _ kin (ns1 gN)).2 callerA rfl hr [] s₁ H e0 ⟨[.ref a], []⟩ [.ref a] [.ref a] (hb s₁ (.ref a)) (.cons rfl .nil) _ _ (hs H hO hS)) ?_
    intro r s' z
    match r, z with
    | .error e, z => exact z.elim
    | .ok .next, z => exact z.elim
    | .ok .brk, z => exact z.elim
    | .ok .cont, z => exact z.elim
    | .ok (.ret u), ⟨v, H', os, bare, un, ok', rv, q⟩ =>
      have q' : v = .bl true := q
      subst q'
      have eu : u = Value.bool true := rv
      subst eu
      refine ⟨rfl, OldK.of_keep ?_, os, bare⟩
      intro b o e
      match q : H b with
      | none => exact un.keep b o e q (fun z => List.not_mem_nil (show b ∈ ([] : List Addr) from z)) (fun z => List.not_mem_nil (show b ∈ ([] : List Addr) from z))
      | some u =>
        rcases hO b with z | ⟨ob, xs, z⟩
        · rw [z] at q
          cases q
        · have i1 := (ok b _ z).1
          have i2 := (ok' b _ (un.frzs b ob _ z)).1
          rw [e] at i1
          cases i1
          exact i2
  have rv := vals_ints hi
  match hk : K.lookup a with
  | some o =>
    have e := KX a o hk
    rw [ha] at e
    cases e
    exact main (fun _ => none) (fun _ => .inl rfl) (.inr ⟨_, vs.toArray, _, hk, rfl, rfl, rfl, by rw [List.size_toArray, hi.length]; exact hl, by simpa using rv⟩) (fun b u z => nomatch z) (fun b z => absurd rfl z)
  | none =>
    have atA : ∀ {b : Addr} {u : HO}, (if b = a then some (HO.frz { cls := .type "list", data := .seq vs.toArray } (.lst (ns.map V.int))) else none) = some u → b = a ∧ u = HO.frz { cls := .type "list", data := .seq vs.toArray } (.lst (ns.map V.int)) := by
      intro b u z
      by_cases hb : b = a
      · rw [if_pos hb] at z
        exact ⟨hb, (Option.some.inj z).symm⟩
      · rw [if_neg hb] at z
        cases z
    refine main (fun b => if b = a then some (.frz { cls := .type "list", data := .seq vs.toArray } (.lst (ns.map V.int))) else none) ?_ (.inl (.inr ⟨{ cls := .type "list", data := .seq vs.toArray }, if_pos rfl⟩)) ?_ ?_
    · intro b
      by_cases hb : b = a
      · exact .inr ⟨_, _, if_pos hb⟩
      · exact .inl (if_neg hb)
    · intro b u z
      obtain ⟨rfl, rfl⟩ := atA z
      exact ⟨ha, by rw [List.length_map]; exact hl, vs, _, rv, ha⟩
    · intro b z
      refine ⟨?_, hk⟩
      by_cases hb : b = a
      · exact hb
      · exact absurd (if_neg hb) z
/-- the end of a law whose text shows things -/
theorem walk_ofG {l : PySem.W.OpenLaw} {n k : Nat} {q : Program} {loose : List Str} {XP : (Str → Option Value) → Heap → Prop} {YP : World → Heap → Prop} {d : DefRec} {K : Params → PySem.W.Frag} {sp : PySem.W.Frag → Sp} {x : Str}
    (hn : l.most = some n) (h2 : n ≤ sizeLine) (hd : d.params.defaults = []) (hr : Room k callerA) (hY : ∀ (w : World) (h : Heap), YP w h → (K w.params).In h)
    (F : ∀ (w : World) (mg : Str → Option Value) (fa : Addr) (h : Heap), (K w.params).In h → h.Ns mainGlobals mg → mg d.name = some (.ref fa) → ∃ fd : FuncData, (∀ (s : Shared) (u : Value), BindsTo s fd ⟨[u], []⟩ [(x, u)]) ∧
      ∀ b : Heap, (K w.params).In b → b.Ns mainGlobals mg → FnG l.prog w (K w.params) mg b CX0 k fa fd [x] (sp (K w.params)))
    (hs : ∀ (K : PySem.W.Frag) (H : Hp) (a : Addr) (ns : List Int), ns.length ≤ n → Only H → SqL K H a (ns.map V.int) → sp K [.ref a] H (fun v _ => v = .bl true) fun _ _ _ => False) :
    PySem.W.WalkO q loose XP YP l.row.toRowW d [] (fun f vs => PySem.call f vs) := by
  refine Att.attach_call hn hd ?_
  intro w s₀ s₁ mg mb fa o pm cd doc a vs ns G Y ho hod hcd hmg hobj hints hlen hg
  have KX := hY w _ Y
  obtain ⟨fd, hb, hF⟩ := F w mg fa _ KX G.T.g hmg
  exact law_callG KX G.T.g G.T.b G.T.builtins G.T.nolimit hg hobj hints (Nat.le_trans hlen h2) hr hF hb (fun H hO hS => hs (K w.params) H a ns hlen hO hS)
end GG
namespace GG
open PySem PySem.Spec PyProof.Rows L2
section
variable {X : Cx} {k : Nat} {C f : Addr} {fd : FuncData} {ps : List Str} {sp : Sp}
/-- what a def of one's own, called by the machine, hands back -/
theorem run_in1 {pins : List (Addr × Obj)} {σ : L2.St} {H : Hp} {s : Shared} {Q : VK} {us : List Value} {vs : List V} (F : FnOk X.prog X.w X.K X.mg X.base CX0 k f fd ps sp) (hr : Room (k + 1) X.A) (hb : Binds X.K fd ps [])
    (I : Inv X pins σ H s) (rv : Vals vs us) (h : sp vs H Q E0) : wpAny (model X.prog X.w) X.A.in1 (call (.ref f) us) (EP X pins σ Q) X.xe s := by
  have many : (us ++ ([] : List Value)).length = ps.length := by
    rw [List.append_nil, ← rv.length]
    exact F.len _ _ _ _ h
  have bb := hb s us I.kIn many
  rw [List.append_nil] at bb
  refine wpAny_call (codeAny_mono (F.run X.A.in1 X.stack s H ⟨us, []⟩ us vs Q E0 hr.in1 I.env0.in1 bb rv h) ?_)
  intro r s' z
  match r, z with
  | .error e, z => exact z.elim
  | .ok (.ret u), z => exact I.after z
  | .ok .next, z => exact z.elim
  | .ok .brk, z => exact z.elim
  | .ok .cont, z => exact z.elim
/-- len(w) by an own __len__ -/
def rLenO (C : Addr) (sp : Sp) : List V → Hp → VK → Prop := fun xs H Q => ∃ a dx fs, xs = [.ref a] ∧ H a = some (.ins C dx fs) ∧ sp [.ref a] H (fun v H' => ∃ n : Int, v = .int n ∧ 0 ≤ n ∧ n < 2 ^ 63 ∧ Q (.int n) H') E0
theorem call_lenO (F : FnOk X.prog X.w X.K X.mg X.base CX0 k f fd ps sp) (hr : Room (k + 1) X.A) (hb : Binds X.K fd ps []) (hs : PySem.W.findIn X.K (.ref C) "__len__" = some (some (.ref f))) (hf : PySem.W.isFn X.K (.ref f) = true) :
    CallR X (.builtin "len") (rLenO C sp) := by
  intro pins s σ H xs us Q I r h
  obtain ⟨a, dx, fs, rfl, ha, hsp⟩ := h
  obtain ⟨u, rfl, ru⟩ := vals1 r
  cases ru
  obtain ⟨mA, J, _⟩ := ins_get I.hok ha
  obtain ⟨od, J, _⟩ := J.look
  obtain ⟨m, hF⟩ := I.fr
  refine PySem.W.len_K hF I.ok.mod.kin J hs hf (wpAny_mono (run_in1 F hr hb I (.cons (show RelV (V.ref a) (Value.ref a) from rfl) .nil) hsp) ?_ fun _ _ z => z)
  rintro v s' ⟨y, H', I', ry, n, rfl, n0, n1, q⟩
  obtain ⟨t, rfl⟩ := ry
  exact ⟨⟨n0, n1⟩, .int n, H', I'.tok _, ⟨_, rfl⟩, q⟩
/-- w == y by an own __eq__, whatever y is (but of a class below C's) -/
def rEqO (K : PySem.W.Frag) (C : Addr) (sp : Sp) : R2 := fun x y H Q => ∃ (a dx : Addr) (fs : List (Str × V)) (t : Value), x = .ref a ∧ H a = some (.ins C dx fs) ∧ TyX K H y t ∧ PySem.W.notFirst K C t = true ∧ sp [.ref a, y] H (fun v H' => ∃ b : Bool, v = .bl b ∧ Q (.bl b) H') E0
end
end GG
namespace K3
open PySem L2
/-! ### what a law may lean on of a wire -/
def RowD (d : PyData) : Prop := ∃ ds, d = .tuple ds ∧ ds.length ≤ 4 ∧ ∀ e ∈ ds, PlainD e
def LetD (first : Nat) (rows : List PyData) (heard : Nat) : PyData := .tuple [.str "rows", .int first, .tuple rows, .int heard]
theorem Dt.tupI {H : Hp} {a : Addr} {ds : List PyData} (h : Dt H (.ref a) (.tuple ds)) : ∃ xs, H a = some (.tup xs) ∧ DtAll H xs ds := by
  cases h with
  | tup h1 h2 => exact ⟨_, h1, h2⟩
theorem Dt.ref_of {H : Hp} {v : V} {ds : List PyData} (h : Dt H v (.tuple ds)) : ∃ a, v = .ref a := by
  cases h with
  | tup h1 h2 => exact ⟨_, rfl⟩
structure WK where
  C : Addr
  At : Hp → List Addr → Addr → List PyData → Nat → Nat → Prop
  ins : ∀ {H fp w rows put tk}, At H fp w rows put tk → ∃ dx fs, H w = some (.ins C dx fs) ∧ ∀ m ∈ ([("put" : Str), "letter", "take", "heard", "unheard"] : List Str), fs.lookup m = none
  mem : ∀ {H fp w rows put tk}, At H fp w rows put tk → w ∈ fp
  there : ∀ {H fp w rows put tk}, At H fp w rows put tk → ∀ a ∈ fp, ∃ u, H a = some u ∧ ∀ xs, u ≠ .tup xs
  keep : ∀ {H H' fp w rows put tk}, At H fp w rows put tk → (∀ a ∈ fp, H' a = H a) → Tups H H' → At H' fp w rows put tk
  le : ∀ {H fp w rows put tk}, At H fp w rows put tk → rows.length ≤ put
  rowD : ∀ {H fp w rows put tk}, At H fp w rows put tk → ∀ d ∈ rows, RowD d
variable (W : WK)
def spWInit : Sp := fun vs H Q _ => ∃ (H0 : Hp) (w dx : Addr), vs = [.ref w] ∧ Same H0 H ∧ H0 w = none ∧ H w = some (.ins W.C dx []) ∧ ∀ (fp : List Addr) (H' : Hp), W.At H' fp w [] 0 0 → (∀ a ∈ fp, H0 a = none) → Same H0 H' → Q .non H'
def spWPut : Sp := fun vs H Q _ => ∃ (w r : Addr) (d : PyData) (fp : List Addr) (rows : List PyData) (put tk : Nat), vs = [.ref w, .ref r] ∧ W.At H fp w rows put tk ∧ Dt H (.ref r) d ∧ RowD d ∧ put ≤ 1000 ∧
  ∀ (fp' : List Addr) (H' : Hp), W.At H' fp' w (rows ++ [d]) (put + 1) tk → (∀ a ∈ fp', a ∈ fp ∨ H a = none) → But (· ∈ fp) H H' → Q (.int put) H'
def spWLetter : Sp := fun vs H Q _ => ∃ (w : Addr) (fp : List Addr) (rows : List PyData) (put tk : Nat), vs = [.ref w] ∧ W.At H fp w rows put tk ∧ put ≤ 1000 ∧
  ∀ (t : Addr) (H' : Hp), H t = none → Dt H' (.ref t) (LetD (put - rows.length) rows tk) → Same H H' → Q (.ref t) H'
def spWTake : Sp := fun vs H Q _ => ∃ (w t : Addr) (fp : List Addr) (rows new : List PyData) (put tk first heard : Nat), vs = [.ref w, .ref t] ∧ W.At H fp w rows put tk ∧ Dt H (.ref t) (LetD first new heard) ∧
  first ≤ tk ∧ heard ≤ put ∧ (∀ d ∈ new, RowD d) ∧ new.length ≤ 1000 ∧ put ≤ 1000 ∧ tk ≤ 1000 ∧
  ∀ (l : Addr) (xs : List V) (fp' : List Addr) (H' : Hp), H l = none → l ∉ fp' → H' l = some (.lst xs) → DtAll H' xs (new.drop (tk - first)) →
    W.At H' fp' w (rows.drop (heard - (put - rows.length))) put (tk + (new.drop (tk - first)).length) → (∀ a ∈ fp', a ∈ fp ∨ H a = none) → But (· ∈ fp) H H' → Q (.ref l) H'
def spWHeard : Sp := fun vs H Q _ => ∃ (w : Addr) (fp : List Addr) (rows : List PyData) (put tk : Nat), vs = [.ref w] ∧ W.At H fp w rows put tk ∧ ∀ H', Same H H' → Q (.int tk) H'
def spWUnheard : Sp := fun vs H Q _ => ∃ (w : Addr) (fp : List Addr) (rows : List PyData) (put tk : Nat), vs = [.ref w] ∧ W.At H fp w rows put tk ∧ put ≤ 1000 ∧
  ∀ (l : Addr) (xs : List V) (H' : Hp), H l = none → H' l = some (.lst xs) → DtAll H' xs rows → Same H H' → Q (.ref l) H'
def spWLen : Sp := fun vs H Q _ => ∃ (w : Addr) (fp : List Addr) (rows : List PyData) (put tk : Nat), vs = [.ref w] ∧ W.At H fp w rows put tk ∧ put ≤ 1000 ∧ ∀ H', Same H H' → Q (.int rows.length) H'
/-- a method by its name -/
def MCal (P : Program) (w : World) (K : PySem.W.Frag) (mg : Str → Option Value) (base : Heap) (C : Addr) (m : Str) (k : Nat) (sp : Sp) : Prop :=
  ∃ f fd ps, Meth K C m f ∧ Binds K fd ps [] ∧ FnOk P w K mg base CX0 k f fd ps sp
theorem MCal.mono {P : Program} {w : World} {K : PySem.W.Frag} {mg : Str → Option Value} {base : Heap} {C : Addr} {m : Str} {j k : Nat} {sp : Sp} (h : MCal P w K mg base C m j sp) (jk : j ≤ k) : MCal P w K mg base C m k sp := by
  obtain ⟨f, fd, ps, h1, h2, h3⟩ := h
  exact ⟨f, fd, ps, h1, h2, h3.mono jk⟩
structure Wires (P : Program) (w : World) (K : PySem.W.Frag) (mg : Str → Option Value) (base : Heap) (k : Nat) : Prop where
  cls : Cls K W.C
  glob : mg "Wire" = some (.ref W.C)
  new : ∃ f fd ps, Mk K W.C f ∧ Binds K fd ps [] ∧ FnOk P w K mg base CX0 k f fd ps (spWInit W)
  put : MCal P w K mg base W.C "put" k (spWPut W)
  letter : MCal P w K mg base W.C "letter" k (spWLetter W)
  take : MCal P w K mg base W.C "take" k (spWTake W)
  heard : MCal P w K mg base W.C "heard" k (spWHeard W)
  unheard : MCal P w K mg base W.C "unheard" k (spWUnheard W)
  len : ∃ f fd ps, PySem.W.findIn K (.ref W.C) "__len__" = some (some (.ref f)) ∧ PySem.W.isFn K (.ref f) = true ∧ Binds K fd ps [] ∧ FnOk P w K mg base CX0 k f fd ps (spWLen W)
theorem sameBut {H H' : Hp} (s : Same H H') (M : Addr → Prop) : But M H H' := fun b o _ e => s b o e
theorem sameTups {H H' : Hp} (s : Same H H') : Tups H H' := fun a xs e => s a _ e
/-- a wire stands through what leaves it alone -/
theorem WK.but {W : WK} {M : Addr → Prop} {H H' : Hp} {fp : List Addr} {w : Addr} {rows : List PyData} {put tk : Nat} (h : W.At H fp w rows put tk) (e : But M H H') (n : ∀ a ∈ fp, ¬ M a) (t : Tups H H') : W.At H' fp w rows put tk :=
  W.keep h (fun a ha => by
    obtain ⟨u, hu, _⟩ := W.there h a ha
    rw [hu, e a u (n a ha) hu]) t
theorem WK.same {W : WK} {H H' : Hp} {fp : List Addr} {w : Addr} {rows : List PyData} {put tk : Nat} (h : W.At H fp w rows put tk) (e : Same H H') : W.At H' fp w rows put tk :=
  WK.but h (sameBut e fun _ => False) (fun _ _ z => z) (sameTups e)
theorem WK.tups {W : WK} {H H' : Hp} {fp : List Addr} {w : Addr} {rows : List PyData} {put tk : Nat} (h : W.At H fp w rows put tk) (e : But (· ∈ fp) H H') : Tups H H' :=
  e.tups fun a xs m z => by
    obtain ⟨u, hu, hn⟩ := W.there h a m
    rw [hu] at z
    exact hn xs (Option.some.inj z)
theorem WK.ne {W : WK} {H : Hp} {fp : List Addr} {w : Addr} {rows : List PyData} {put tk : Nat} (h : W.At H fp w rows put tk) {l : Addr} (hl : H l = none) : l ∉ fp := fun m => by
  obtain ⟨u, hu, _⟩ := W.there h l m
  rw [hl] at hu
  cases hu
end K3
namespace K3
open PySem L2 GG
/-! ### how long what is shown may be -/
structure Sh (n k : Nat) (d : PyData) : Prop where
  show' : d.showable = true
  plain : d.hasDict = false
  deep : d.depth ≤ k
  long : d.shown.length ≤ n
theorem Sh.mono {n m k l : Nat} {d : PyData} (h : Sh n k d) (a : n ≤ m) (b : k ≤ l) : Sh m l d := ⟨h.show', h.plain, Nat.le_trans h.deep b, Nat.le_trans h.long a⟩
theorem sh_all {n k : Nat} : ∀ {ds : List PyData}, (∀ d ∈ ds, Sh n k d) → PyData.showableAll ds = true ∧ PyData.hasDictAll ds = false ∧ PyData.depthAll ds ≤ k ∧ piled (PyData.shownAll ds) ≤ ds.length * (n + 2) ∧ (PyData.shownAll ds).length = ds.length
  | [], _ => ⟨rfl, rfl, Nat.zero_le _, Nat.zero_le _, rfl⟩
  | d :: ds, h => by
    obtain ⟨a, b, c, e, f⟩ := sh_all (ds := ds) fun x hx => h x (List.mem_cons_of_mem _ hx)
    have q := h d (List.mem_cons_self ..)
    refine ⟨?_, ?_, ?_, ?_, ?_⟩
    · simp only [PyData.showableAll, q.show', a, Bool.and_self]
    · simp only [PyData.hasDictAll, q.plain, b, Bool.or_self]
    · simp only [PyData.depthAll]
      have := q.deep
      omega
    · simp only [PyData.shownAll, piled_cons, List.length_cons, Nat.add_mul, Nat.one_mul]
      have := q.long
      omega
    · simp only [PyData.shownAll, List.length_cons, f]
theorem textFrom_le (ts : List Str) : (listText ts).length ≤ piled ts + 2 := by
  unfold listText
  rw [strLen_append]
  have e1 : (("]" : String) : Str).length = 1 := rfl
  rw [e1]
  cases ts with
  | nil => exact Nat.le_refl 2
  | cons t r =>
    show (textFrom 1 _ r).length + 1 ≤ _
    rw [textFrom_length_pos _ _ _ (by decide), strLen_append, strLen_append, piled_cons]
    have e2 : (("[" : String) : Str).length = 1 := rfl
    have e3 : ((if 0 > 0 then ", " else "" : String) : Str).length = 0 := rfl
    rw [e2, e3]
    omega
theorem tupleText_le (ts : List Str) : (tupleText ts).length ≤ piled ts + 3 := by
  unfold tupleText
  rw [strLen_append, strLen_append]
  have e1 : (("(" : String) : Str).length = 1 := rfl
  have e2 : (Str.ofString (if (ts.length == 1) = true then ",)" else ")")).length ≤ 2 := by
    cases ts.length == 1
    · exact Nat.le_succ 1
    · exact Nat.le_refl 2
  cases ts with
  | nil =>
    have e3 : (Str.join ", " []).length = 0 := rfl
    rw [e1, e3]
    omega
  | cons t r =>
    have e3 := join_length_add (t :: r) (by simp)
    rw [e1]
    omega
theorem Sh.tup {n k : Nat} {ds : List PyData} (h : ∀ d ∈ ds, Sh n k d) : Sh (ds.length * (n + 2) + 3) (k + 1) (.tuple ds) := by
  obtain ⟨a, b, c, e, f⟩ := sh_all h
  refine ⟨?_, ?_, ?_, ?_⟩
  · simp only [PyData.showable, a]
  · simp only [PyData.hasDict, b]
  · simp only [PyData.depth]
    omega
  · show (tupleText (PyData.shownAll ds)).length ≤ _
    exact Nat.le_trans (tupleText_le _) (by omega)
theorem Sh.lst {n k : Nat} {ds : List PyData} (h : ∀ d ∈ ds, Sh n k d) : Sh (ds.length * (n + 2) + 3) (k + 1) (.list ds) := by
  obtain ⟨a, b, c, e, f⟩ := sh_all h
  refine ⟨?_, ?_, ?_, ?_⟩
  · simp only [PyData.showable, a]
  · simp only [PyData.hasDict, b]
  · simp only [PyData.depth]
    omega
  · show (listText (PyData.shownAll ds)).length ≤ _
    exact Nat.le_trans (textFrom_le _) (by omega)
theorem sh_int {i : Int} (h : i.natAbs < 10 ^ 10) : Sh 12 1 (.int i) := by
  refine ⟨?_, rfl, by simp [PyData.depth], ?_⟩
  · simp only [PyData.showable]
    refine decide_eq_true ?_
    by_cases h0 : i.natAbs = 0
    · rw [h0]; decide
    · refine (Nat.log2_lt h0).mpr (Nat.lt_of_lt_of_le h ?_)
      calc (10 : Nat) ^ 10 ≤ 2 ^ 40 := by decide
        _ ≤ 2 ^ 1920 := Nat.pow_le_pow_right (by decide) (by decide)
  · show (Str.ofString (toString i)).length ≤ 12
    rw [ofString_length]
    exact Nat.le_trans (int_text_length_le10 (k := 10) (by decide) h) (by decide)
theorem sh_rows : Sh 12 1 (.str "rows") := ⟨rfl, rfl, by simp [PyData.depth], by decide +kernel⟩
theorem sh_none : Sh 12 1 .none := ⟨rfl, rfl, by simp [PyData.depth], by decide +kernel⟩
theorem PlainD.sh {d : PyData} (h : PlainD d) : Sh 40 2 d := by
  rcases h with rfl | ⟨i, h1, h2, rfl⟩ | ⟨z, hz, rfl⟩ | rfl | rfl | rfl
  · exact sh_none.mono (by decide) (by decide)
  · exact (sh_int (by omega)).mono (by decide) (by decide)
  · refine ⟨rfl, rfl, by simp [PyData.depth], ?_⟩
    simp only [List.mem_cons, List.not_mem_nil, or_false] at hz
    rcases hz with rfl | rfl | rfl | rfl | rfl | rfl <;> decide +kernel
  · exact ⟨by decide +kernel, by decide +kernel, by decide +kernel, by decide +kernel⟩
  · exact ⟨by decide +kernel, by decide +kernel, by decide +kernel, by decide +kernel⟩
  · exact ⟨by decide +kernel, by decide +kernel, by decide +kernel, by decide +kernel⟩
theorem RowD.sh {d : PyData} (h : RowD d) : Sh 200 3 d := by
  obtain ⟨ds, rfl, h4, hp⟩ := h
  have q := Sh.tup fun e he => (hp e he).sh
  refine q.mono ?_ (by decide)
  have : ds.length * (40 + 2) ≤ 4 * 42 := Nat.mul_le_mul_right _ h4
  omega
theorem RowD.lay {d : PyData} (h : RowD d) : d.canLay0 = true ∧ d.depth ≤ 4 := by
  obtain ⟨ds, rfl, h4, hp⟩ := h
  have all : ∀ l : List PyData, (∀ e ∈ l, PlainD e) → PyData.canLayAll0 l = true ∧ PyData.depthAll l ≤ 3 := by
    intro l
    induction l with
    | nil => exact fun _ => ⟨rfl, Nat.zero_le _⟩
    | cons a r ih =>
      intro h
      obtain ⟨q1, q2⟩ := ih fun e he => h e (List.mem_cons_of_mem _ he)
      obtain ⟨q3, q4⟩ := (h a (List.mem_cons_self ..)).lay
      refine ⟨?_, ?_⟩
      · simp only [PyData.canLayAll0, q3, q1, Bool.and_self]
      · simp only [PyData.depthAll]; omega
  obtain ⟨q1, q2⟩ := all ds hp
  refine ⟨?_, ?_⟩
  · simp only [PyData.canLay0, q1]
  · simp only [PyData.depth]; omega
/-- a list of rows, shown -/
theorem rows_sh {ds : List PyData} (h : ∀ d ∈ ds, RowD d) (n : ds.length ≤ 1000) : Sh 300000 4 (.list ds) := by
  refine (Sh.lst fun d hd => (h d hd).sh).mono ?_ (by decide)
  have : ds.length * (200 + 2) ≤ 1000 * 202 := Nat.mul_le_mul_right _ n
  omega
theorem let_sh {first heard : Nat} {ds : List PyData} (h : ∀ d ∈ ds, RowD d) (n : ds.length ≤ 1000) (hf : first ≤ 1000000) (hh : heard ≤ 1000000) : Sh 1300000 5 (LetD first ds heard) := by
  have rt : Sh 300000 4 (.tuple ds) := by
    refine (Sh.tup fun d hd => (h d hd).sh).mono ?_ (by decide)
    have : ds.length * (200 + 2) ≤ 1000 * 202 := Nat.mul_le_mul_right _ n
    omega
  refine (Sh.tup (n := 300000) (k := 4) ?_).mono (by simp) (by decide)
  intro d hd
  simp only [List.mem_cons, List.not_mem_nil, or_false] at hd
  rcases hd with rfl | rfl | rfl | rfl
  · exact sh_rows.mono (by decide) (by decide)
  · exact (sh_int (by omega)).mono (by decide) (by decide)
  · exact rt
  · exact (sh_int (by omega)).mono (by decide) (by decide)
/-- what repr asks -/
theorem Sh.okT {ds : List PyData} {k : Nat} (h : Sh 1300000 k (.tuple ds)) (hk : k ≤ 60) : ShowOk (.tuple ds) :=
  ⟨h.show', h.plain, Nat.le_trans h.deep hk, Nat.le_trans h.long (by decide), (fun i z => nomatch z), fun b z => nomatch z⟩
theorem Sh.okL {ds : List PyData} {k : Nat} (h : Sh 1300000 k (.list ds)) (hk : k ≤ 60) : ShowOk (.list ds) :=
  ⟨h.show', h.plain, Nat.le_trans h.deep hk, Nat.le_trans h.long (by decide), (fun i z => nomatch z), fun b z => nomatch z⟩
end K3
namespace K3
open PySem L2 GG
theorem cutV_drop {xs : List V} {k : Nat} : cutV xs (some (k : Int)) none = xs.drop k := by
  have e1 : HT.sIx xs.length 0 (some (k : Int)) = min k xs.length := HT.sIx_nat ..
  have e2 : HT.sIx xs.length xs.length none = xs.length := rfl
  unfold cutV
  rw [e1, e2]
  by_cases h : k ≤ xs.length
  · rw [Nat.min_eq_left h]
    apply List.take_of_length_le
    rw [List.length_drop]
    exact Nat.le_refl _
  · rw [Nat.min_eq_right (by omega), List.drop_eq_nil_of_le (Nat.le_refl _), List.drop_eq_nil_of_le (by omega)]
    simp
theorem same_new {H H' : Hp} (s : Same H H') {p : Addr} {o : HO} (h : H' p = none) : Same H (upd H' p o) := fun b u z => by
  have z1 := s _ _ z
  rw [upd_ne (ne_of_none z1 h)]
  exact z1
theorem same_mut {H H' : Hp} (s : Same H H') {p : Addr} {o : HO} (h : H p = none) : Same H (upd H' p o) := fun b u z => by
  rw [upd_ne (ne_of_none z h)]
  exact s _ _ z
theorem iteYes {c A B : Prop} [Decidable c] (hc : c) (h : A) : if decide c = true then A else B := by
  rw [decide_eq_true hc]
  exact iteT h
/-! ### objects made one behind the other -/
def Trk (H : Hp) (O : List Addr) : Prop := O.Nodup ∧ ∀ a ∈ O, ∃ u, H a = some u
theorem Trk.same {H H' : Hp} {O : List Addr} (h : Trk H O) (s : Same H H') : Trk H' O := ⟨h.1, fun a m => by
  obtain ⟨u, hu⟩ := h.2 a m
  exact ⟨u, s a u hu⟩⟩
theorem Trk.not {H : Hp} {O : List Addr} (h : Trk H O) {l : Addr} (hl : H l = none) : l ∉ O := fun m => by
  obtain ⟨v, hv⟩ := h.2 l m
  rw [hl] at hv
  cases hv
theorem Trk.add {H H' : Hp} {O : List Addr} (h : Trk H O) {l : Addr} {u : HO} (hl : H l = none) (s : Same H H') (e : H' l = some u) : Trk H' (l :: O) := by
  refine ⟨List.nodup_cons.mpr ⟨h.not hl, h.1⟩, fun a m => ?_⟩
  rcases List.mem_cons.mp m with rfl | m
  · exact ⟨u, e⟩
  · exact (h.same s).2 a m
theorem Trk.two {H H' : Hp} {O : List Addr} (h : Trk H O) {l m : Addr} {u v : HO} (hl : H l = none) (hm : H m = none) (n : l ≠ m) (s : Same H H') (e : H' l = some u) (f : H' m = some v) : Trk H' (m :: l :: O) := by
  refine ⟨List.nodup_cons.mpr ⟨fun z => ?_, (h.add hl s e).1⟩, fun a z => ?_⟩
  · rcases List.mem_cons.mp z with z | z
    · exact n z.symm
    · exact h.not hm z
  · rcases List.mem_cons.mp z with rfl | z
    · exact ⟨v, f⟩
    · exact (h.add hl s e).2 a z
/-- a wire's objects beside others -/
def Dj (H : Hp) (fp O : List Addr) : Prop := (∀ a ∈ fp, ∃ u, H a = some u) ∧ ∀ a ∈ fp, a ∉ O
theorem Dj.same {H H' : Hp} {fp O : List Addr} (h : Dj H fp O) (s : Same H H') : Dj H' fp O := ⟨fun a m => by
  obtain ⟨u, hu⟩ := h.1 a m
  exact ⟨u, s a u hu⟩, h.2⟩
theorem Dj.add {H H' : Hp} {fp O : List Addr} (h : Dj H fp O) {l : Addr} (hl : H l = none) (s : Same H H') : Dj H' fp (l :: O) := ⟨(h.same s).1, fun a m z => by
  rcases List.mem_cons.mp z with z | z
  · obtain ⟨u, hu⟩ := h.1 a m
    rw [z, hl] at hu
    cases hu
  · exact h.2 a m z⟩
theorem Dj.two {H H' : Hp} {fp O : List Addr} (h : Dj H fp O) {l m : Addr} (hl : H l = none) (hm : H m = none) (s : Same H H') : Dj H' fp (m :: l :: O) := ⟨(h.same s).1, fun a z q => by
  obtain ⟨u, hu⟩ := h.1 a z
  rcases List.mem_cons.mp q with q | q
  · rw [q, hm] at hu
    cases hu
  · rcases List.mem_cons.mp q with q | q
    · rw [q, hl] at hu
      cases hu
    · exact h.2 a z q⟩
end K3
namespace GG
open PySem PySem.Spec PyProof.Rows L2
/-! ### an exception that is kept behind its clause: from there on it is tracked -/
/-- at a stands an exception of the class cls, its own dict at d -/
def exk (a : Addr) (cls : Value) (d : Option Addr) : HO := .ext fun h => ∃ (oe : Obj) (vs : Array Value), h.get? a = some oe ∧ Zc cls d oe ∧ oe.data = .fields vs
section
variable {P : Program} {w : World} {H : Hp} {h : Heap} {a : Addr} {cls : Value} {d : Option Addr}
theorem exk_ok {oe : Obj} {vs : Array Value} (e : h.get? a = some oe) (z : Zc cls d oe) (hd : oe.data = .fields vs) : ObjOk P w H h a (exk a cls d) :=
  ⟨⟨oe, vs, e, z, hd⟩, ⟨oe, e⟩, fun h1 h2 ⟨o1, v1, e1, z1, d1⟩ k => ⟨o1, v1, k _ e1, z1, d1⟩⟩
theorem exk_at (ok : HOk P w H h) (e : H a = some (exk a cls d)) : ∃ (oe : Obj) (vs : Array Value), h.get? a = some oe ∧ Zc cls d oe ∧ oe.data = .fields vs :=
  (show ObjOk P w H h a (.ext fun h => ∃ (oe : Obj) (vs : Array Value), h.get? a = some oe ∧ Zc cls d oe ∧ oe.data = .fields vs) from ok a _ e).1
end
section
variable {X : Cx} {pins : List (Addr × Obj)} {σ : L2.St} {H : Hp} {s : Shared} {a : Addr}
/-- what is known of an object of the state may be tracked from now on, where it is new and nothing leans on it -/
theorem track (I : Inv X pins σ H s) {cls : Value} {d : Option Addr} {oe : Obj} {vs : Array Value} (e : s.heap.get? a = some oe) (z : Zc cls d oe) (hd : oe.data = .fields vs) (na : H a = none) (nl : a ≠ X.env.locals)
    (n0 : X.s_0.heap.get? a = none) (np : ∀ p ∈ X.pn ++ pins, p.1 ≠ a) : Inv X pins σ (upd H a (exk a cls d)) s := by
  have no : ∀ {b : Addr} {u : HO}, H b = some u → b ≠ a := fun {b u} q r => by
    rw [r, na] at q
    cases q
  refine { ok := I.ok, os := I.os, bare := I.bare, loc := I.loc, cell := I.cell, len := I.len, base := ⟨I.base.keep, I.base.slot, fun b o q n x => ?_, I.base.there, fun b xs q => ?_, fun b o u q => ?_, fun b ps q => ?_⟩, free := ?_, freeC := fun x c q => ?_, pin := fun p hp => ?_, hok := fun b u q => ?_ }
  · have ne : b ≠ a := fun r => by
      rw [r, n0] at q
      cases q
    rw [upd_ne ne]
    exact I.base.free b o q n x
  · have q' := I.base.tups b xs q
    rw [upd_ne (no q')]
    exact q'
  · have q' := I.base.frzs b o u q
    rw [upd_ne (no q')]
    exact q'
  · obtain ⟨more, q'⟩ := I.base.tbls b ps q
    refine ⟨more, ?_⟩
    rw [upd_ne (no q')]
    exact q'
  · rw [upd_ne (Ne.symm nl)]
    exact I.free
  · have ne : c ≠ a := fun r => by
      obtain ⟨v, o, q1, q2⟩ := I.cell x c q
      rw [r, e] at q1
      cases q1
      rw [hd] at q2
      cases q2
    rw [upd_ne ne]
    exact I.freeC x c q
  · obtain ⟨q1, q2, q3⟩ := I.pin p hp
    refine ⟨q1, ?_, q3⟩
    rw [upd_ne (np p hp)]
    exact q2
  · by_cases r : b = a
    · subst r
      rw [upd_same] at q
      cases q
      exact exk_ok e z hd
    · rw [upd_ne r] at q
      refine (I.hok b u q).stay (fun _ _ _ y => y) (fun c y => ?_) (fun c xs y => ?_)
      · rw [upd_ne (no y)]
        exact y
      · rw [upd_ne (no y)]
        exact y
end
/-- what a clause 'except x as n' wishes of an exception of the body: slot i is n's; behind the suite the exception stands in the heap -/
def wKeep (K : PySem.W.Frag) (c : Value) (i : Nat) (ts : Addr → Value → Option Addr → TS) (Wo : WX) (D : Ends) : WX := fun cls d σ H =>
  ∃ b, PySem.W.exmOne K cls c = some b ∧ (b = true → ∀ a, H a = none → ts a cls d { nx := fun σ' H' => H' a = none → D.nx (σ'.set i none) (upd H' a (exk a cls d)), rt := D.rt, bk := fun σ' H' => D.bk (σ'.set i none) H', ct := fun σ' H' => D.ct (σ'.set i none) H' } (σ.set i (some (.ref a))) H) ∧
    (b = false → Wo cls d σ H)
section
variable {X : Cx} {x n : Str} {c : Value} {i : Nat} {body suite : List Stmt} {b₀ : Stmt} {np pos pos' : Pos} {tb : WX → TS} {ts : Addr → Value → Option Addr → TS} {Wo : WX}
theorem ps_try_keep (hs : X.stack = X.env :: X.outer) (hf : X.env.frame = some X.env.locals) (hex : X.ex = []) (hN : X.N.Nodup) (hi : X.N[i]? = some n) (hln : X.env.kindOf n = some .local) (hc : Names X x c) (tk : Takes X Wo)
    (hb : ∀ (W : WX) (pn : List (Addr × Obj)) (xe : Value → Shared → Prop), Takes (X.tr pn xe) W → PassesOwn (model X.prog X.w) X.A X.env xe → PSs (X.tr pn xe) body (tb W))
    (hsu : ∀ (a : Addr) (oe : Obj) (cls : Value) (d : Option Addr) (pn : List (Addr × Obj)), Zc cls d oe → (∃ vs, oe.data = .fields vs) → PSs (X.suite a ((a, oe) :: pn)) (b₀ :: suite) (ts a cls d)) :
    PS X (.Try body [.ExceptHandler (some (.Name x np)) (some n) (b₀ :: suite) pos'] [] [] pos) (fun D σ H => tb (wKeep X.K c i ts Wo D) D σ H) := by
  constructor
  intro pins s σ H D I h
  have ok := I.ok
  have frA : X.A.frames = some (X.env :: X.outer) := ok.frames.trans (congrArg some hs)
  have back : ∀ {f : Flow} {s1 : Shared} {pn' : List (Addr × Obj)} {xe : Value → Shared → Prop}, SP (X.tr (X.pn ++ pins) xe) pn' D f s1 → SP X pins D f s1 := by
    intro f s1 pn' xe q
    cases f with
    | ret u =>
      obtain ⟨v, σ1, H1, J, r, q1⟩ := q
      exact ⟨v, σ1, H1, J.ofTry ok, r, q1⟩
    | next =>
      obtain ⟨σ1, H1, J, q1⟩ := q
      exact ⟨σ1, H1, J.ofTry ok, q1⟩
    | brk =>
      obtain ⟨σ1, H1, J, q1⟩ := q
      exact ⟨σ1, H1, J.ofTry ok, q1⟩
    | cont =>
      obtain ⟨σ1, H1, J, q1⟩ := q
      exact ⟨σ1, H1, J.ofTry ok, q1⟩
  let xe : Value → Shared → Prop := fun e s₁ => wpAny (model X.prog X.w) X.A (noteFrame e X.env) (fun _ s₂ => wpAny (model X.prog X.w) X.A (setFlight e none) (fun _ s₃ =>
    wpAny (model X.prog X.w) X.A (handleBy e X.env [.ExceptHandler (some (.Name x np)) (some n) (b₀ :: suite) pos']) (SP X pins D) X.xe s₃) X.xe s₂) X.xe s₁
  have takes : Takes (X.tr (X.pn ++ pins) xe) (wKeep X.K c i ts Wo D) := by
    rintro _ s1 ⟨a, B, sI, pn1, σ1, H1, cls, d, rfl, J1, ground, up, sky, na, os, bare, b, eb, yes, not⟩
    have J : Inv X pins σ1 H1 sI := J1.ofTry ok
    have sky1 : Sky B (X.env :: X.outer) a (Zc cls d) X.env.locals s1.heap := hs ▸ sky
    refine Sky.land Zc.steady frA hf sky1 fun h2 fl up2 => ?_
    have J2 : Inv X pins σ1 H1 { s1 with heap := h2 } := J.landed ground fl.1 (up.trans up2) os bare
    obtain ⟨oe, vs, ea, za, da⟩ := fl.there
    have off : ∀ {b : Addr}, b ∈ frs (X.env :: X.outer) → b ≠ a := fun {b} m r => by
      obtain ⟨_, o, q1, q2⟩ := fl.2.2.1.mem m
      rw [r, ea] at q1
      cases q1
      exact q2 _ da
    have nl : a ≠ X.env.locals := fun r => off (List.mem_filterMap.mpr ⟨X.env, List.mem_cons_self, hf⟩) r.symm
    have nf : a ∉ X.fs := fun m => by
      obtain ⟨e, q1, q2⟩ := List.mem_filterMap.mp m
      exact off (List.mem_filterMap.mpr ⟨e, List.mem_cons_of_mem _ q1, q2⟩) rfl
    have gone : B.get? a = none := fl.2.1
    have noI : sI.heap.get? a = none := by
      cases q : sI.heap.get? a with
      | none => rfl
      | some o =>
        have y := ground a o q fun m => off (hs ▸ m) rfl
        rw [gone] at y
        cases y
    have n0 : X.s_0.heap.get? a = none := by
      cases q : X.s_0.heap.get? a with
      | none => rfl
      | some o =>
        obtain ⟨o', y⟩ := J.base.there a o q (by rw [hex]; exact List.not_mem_nil)
        rw [noI] at y
        cases y
    have npn : ∀ p ∈ X.pn ++ pins, p.1 ≠ a := fun p hp r => by
      have y := (J.pin p hp).1
      rw [r, noI] at y
      cases y
    refine wpAny_handleBy_cons (codeAny_handlers_test ?_) (by intro q; cases q)
    have ty : PySem.W.Looks (model X.prog X.w) h2 (typeOf (.ref a)) cls := fun A Q E s k q => wpAny_typeOf_ref (k _ _ ea) (by rw [za.1]; exact q)
    have S2 := J2.suite ea da na nl nf
    have named : ∀ {Q : Value → Shared → Prop} {E : Value → Shared → Prop}, Q c { s1 with heap := h2 } → wpAny (model X.prog X.w) (X.A.mark (some (.ref a))) (eval (.Name x np) X.env) Q E { s1 with heap := h2 } := by
      intro Q E q
      rcases hc with ⟨g1, g2, m | ⟨m, v, nn⟩⟩
      · exact ld_glob S2 g1 m q g2
      · exact ld_blt S2 g1 m v q nn g2
    refine named ((PySem.W.exm_one (M := model X.prog X.w) J2.kIn ty eb).here ?_)
    cases b with
    | false =>
      refine wpAny_handleBy_nil ?_
      obtain ⟨_, _, _, oe', vs', T, oT, ts', q1, q2, q3, q4, _⟩ := id fl
      unfold PySem.passOn
      refine wpAny_bind (wpAny_field q1 q3 q4 ?_)
      rw [if_neg (by simp)]
      have on : wpAny (model X.prog X.w) X.A (setFlight (.ref a) X.env.frame) (fun _ s4 => wpAny (model X.prog X.w) X.A (throw (.ref a) : Sem Flow) (SP X pins D) X.xe s4) X.xe { s1 with heap := h2 } := by
        rw [hf]
        exact HandSPX.setFlight_upZ fl fun h3 held up3 => wpAny_throw (tk _ _ ⟨a, B, sI, pins, σ1, H1, cls, d, rfl, J, ground, (up.trans up2).trans up3, .inr (.inr (hs.symm ▸ held)), na, os, bare, not rfl⟩)
      first
        | exact wpAny_bind (wpAny_pure (wpAny_bind on))
        | exact wpAny_bind on
    | true =>
      refine codeAny_handlers_suite_as ?_
      refine HandSPX.lands_againZ fl fun h3 fl3 up3 => ?_
      have J3 : Inv X pins σ1 H1 { s1 with heap := h3 } := J.landed ground fl3.1 ((up.trans up2).trans up3) os bare
      obtain ⟨o3, v3, e3, z3, d3⟩ := fl3.there
      refine store_ok (X := X.suite a ((a, o3) :: (X.pn ++ pins))) (v := .ref a) (J3.suite e3 d3 na nl nf) hN hi (show Loc X.env.scope n from .inl hln) rfl (fun s4 S4 => ?_) (.inr hln)
      refine wpAny_mono ((hsu a o3 cls d (X.pn ++ pins) z3 ⟨_, d3⟩).run [] s4 _ H1 _ S4 (yes rfl a na)) (fun f s5 q => ?_) (fun _ _ r => r.elim)
      have ends : ∀ {σ5 : L2.St} {H5 : Hp} {Q : Shared → Prop}, Inv (X.suite a ((a, o3) :: (X.pn ++ pins))) [] σ5 H5 s5 → (∀ s6, Inv (X.suite a ((a, o3) :: (X.pn ++ pins))) [] (σ5.set i none) H5 s6 → Q s6) →
          wpAny (model X.prog X.w) X.A (do bindName X.env n .none; unbindBehindTheSuite X.env n pos') (fun _ s6 => Q s6) X.xe s5 := fun {σ5 H5 Q} S k => gone_ok (X := X.suite a ((a, o3) :: (X.pn ++ pins))) S hN hi hln k
      cases f with
      | next =>
        obtain ⟨σ5, H5, S5, q5⟩ := q
        refine ends S5 fun s6 S6 => ?_
        obtain ⟨p1, p2, _⟩ := S6.pin (a, o3) (List.mem_append_left _ List.mem_cons_self)
        exact ⟨_, _, track (S6.unsuite ok) p1 z3 d3 p2 nl n0 npn, q5 p2⟩
      | brk =>
        obtain ⟨σ5, H5, S5, q5⟩ := q
        exact ends S5 fun s6 S6 => ⟨_, _, S6.unsuite ok, q5⟩
      | cont =>
        obtain ⟨σ5, H5, S5, q5⟩ := q
        exact ends S5 fun s6 S6 => ⟨_, _, S6.unsuite ok, q5⟩
      | ret u =>
        obtain ⟨v5, σ5, H5, S5, r5, q5⟩ := q
        exact ends S5 fun s6 S6 => ⟨_, _, _, S6.unsuite ok, r5, q5⟩
  refine wpAny_Try_except (wpAny_mono ((hb _ _ xe takes PassesOwn.looking).run [] s σ H D (I.toTry _) h) (fun f s1 q => ?_) fun _ _ q => q)
  have q' := back q
  cases f with
  | next => exact wpAny_execs_nil q'
  | ret u => exact q'
  | brk => exact q'
  | cont => exact q'
end
/-! ### what is asked of such a one -/
/-- what the class D says, so that its instances can be asked -/
structure ExkC (K : PySem.W.Frag) (D : Addr) : Prop where
  hg : PySem.W.findIn K (.ref D) "__getattribute__" = some (some (.builtin "BaseException.__getattribute__"))
  hk : PySem.W.findIn K (.ref D) "__getattr__" = some none
  hs : PySem.W.subIn K (.ref D) (.type "BaseException") = some true
  hd : PySem.W.hasDictIn K D = true
  ha : PySem.W.findIn K (.ref D) "__class__" = some (some (.builtin "object.__class__"))
  hn : PySem.W.specialIn K (.builtin "object.__class__") "__get__" = some (some (.builtin "getset_descriptor.__get__"))
  ht : PySem.W.takesIn K (.builtin "object.__class__") = some true
  hm : PySem.W.mroIn K D (.type "object") = some true
section
variable {X : Cx} {pins : List (Addr × Obj)} {σ : L2.St} {H : Hp} {s : Shared} {a D dd : Addr} {fs : List (Str × V)}
theorem exk_inst (I : Inv X pins σ H s) (e : H a = some (exk a (.ref D) (some dd))) (ed : H dd = some (.xd fs)) : ∃ (ox od : Obj), PySem.W.InstAt s.heap a ox D (some od) ∧ s.heap.get? dd = some od ∧ ∃ mA, s.heap.Ns1 dd mA ∧ ∀ f, RelO (fs.lookup f) (mA f) := by
  obtain ⟨oe, vs, q1, q2, q3⟩ := exk_at I.hok e
  obtain ⟨mA, ns, r⟩ := (show ObjOk X.prog X.w H s.heap dd (.xd fs) from I.hok dd _ ed)
  obtain ⟨od, _, _, q4, _⟩ := id ns
  exact ⟨oe, od, ⟨q1, q2.1, by unfold PySem.W.notCls; rw [q3] <;> rfl, by rw [q2.2]; exact q4⟩, q4, mA, ns, r⟩
theorem exk_kit (C : ExkC X.K D) {ox od : Obj} : PySem.W.KitX X.K (.ref a) (.ref D) (fun h => PySem.W.InstAt h a ox D (some od)) := by
  obtain ⟨cd, hc, _⟩ := PySem.W.any_some C.hd
  exact PySem.W.kitx_exc (by rw [hc]; rfl) C.hg C.hk C.hs C.ha C.hn C.ht C.hm
/-- isinstance(e, c), e a kept exception -/
def rIsiK1 (K : PySem.W.Frag) : List V → Hp → VK → Prop := fun xs H Q => ∃ (a D dd : Addr) (fs : List (Str × V)) (c : V) (u : Value) (b : Bool), xs = [.ref a, c] ∧ ClsV c u ∧ H a = some (exk a (.ref D) (some dd)) ∧ H dd = some (.xd fs) ∧ ExkC K D ∧ PySem.W.kitOne K (.ref D) u = some b ∧ Q (.bl b) H
/-- isinstance(e, (c1, ..)) -/
def rIsiKT (K : PySem.W.Frag) : List V → Hp → VK → Prop := fun xs H Q => ∃ (a D dd tp : Addr) (fs : List (Str × V)) (cs : List V) (us : List Value) (b : Bool), xs = [.ref a, .ref tp] ∧ H tp = some (.tup cs) ∧ Paired ClsV cs us ∧ H a = some (exk a (.ref D) (some dd)) ∧ H dd = some (.xd fs) ∧ ExkC K D ∧
  PySem.W.kitAny K (.ref D) us = some b ∧ Q (.bl b) H
theorem call_isiK1 : CallR X (.builtin "isinstance") (rIsiK1 X.K) := by
  intro pins s σ H xs us Q I r h
  obtain ⟨a, D, dd, fs, c, u, b, rfl, k, e, ed, C, kb, q⟩ := h
  obtain ⟨u1, u2, rfl, r1, r2⟩ := vals2 r
  cases (show u1 = Value.ref a from r1)
  cases k.eq r2
  obtain ⟨ox, od, J, _⟩ := exk_inst I e ed
  exact PySem.W.kia_one (exk_kit C) I.kIn J kb (fun z => nomatch z) fun tk => ⟨.bl b, H, I.tok tk, rfl, q⟩
theorem call_isiKT : CallR X (.builtin "isinstance") (rIsiKT X.K) := by
  intro pins s σ H xs us Q I r h
  obtain ⟨a, D, dd, tp, fs, cs, ws, b, rfl, hT, k, e, ed, C, kb, q⟩ := h
  obtain ⟨u1, u2, rfl, r1, r2⟩ := vals2 r
  cases (show u1 = Value.ref a from r1)
  cases (show u2 = Value.ref tp from r2)
  obtain ⟨ox, od, J, _⟩ := exk_inst I e ed
  obtain ⟨_, its, rv, o, h1, h2, n, h3⟩ := (show ObjOk X.prog X.w H s.heap tp (.tup cs) from I.hok tp _ hT)
  cases ClsV.all k rv
  obtain ⟨oc, od', dt, sl⟩ := o
  simp only at h2 h3
  subst h2 h3
  exact PySem.W.kia_tup (exk_kit C) I.kIn J h1 kb (fun z => nomatch z) fun tk => ⟨.bl b, H, I.tok tk, rfl, q⟩
/-- e.f, e a kept exception -/
def tExf (K : PySem.W.Frag) (f : Str) (te : TE) : TE := fun σ H Q => te σ H fun x H1 => ∃ (a D dd : Addr) (fs : List (Str × V)) (v : V), x = .ref a ∧ H1 a = some (exk a (.ref D) (some dd)) ∧ H1 dd = some (.xd fs) ∧ ExkC K D ∧ PySem.W.findIn K (.ref D) f = some none ∧ fs.lookup f = some v ∧ Q v H1
theorem pe_exf {e : Expr} {te : TE} {f : Str} {pos : Pos} (he : PE X e te) (hb : attributeBase e f X.env (eval e X.env) = eval e X.env := by rfl) : PE X (.Attribute e f pos) (tExf X.K f te) := by
  constructor
  intro pins s σ H Q I h
  refine attr_of hb (thn (he.run pins s σ H _ I h) ?_)
  rintro u s1 ⟨x, H1, I1, rx, a, D, dd, fs, v, rfl, ea, ed, C, hn, hv, q⟩
  obtain rfl : u = Value.ref a := rx
  obtain ⟨ox, od, J, q4, mA, ns, r⟩ := exk_inst I1 ea ed
  obtain ⟨od', q5, l⟩ := lookIn_ns ns
  rw [q4] at q5
  cases q5
  obtain ⟨u', hu, ru⟩ := RelO.some_of (v := v) (o := mA f) (hv ▸ r f)
  exact HandSPX.exc_get I1.kIn J C.hg C.hk C.hs (PySem.W.findObj_own C.hd hn rfl (by rw [l, hu])) (handed_of ru) ⟨v, H1, I1.tok _, ru, q⟩
end
end GG
namespace K3
open PySem PySem.Spec PyProof.Rows L2 GG
/-! ### data with truths, lists and dicts; where they stand, nothing of M stands -/
def keyD : Key → PyData
  | .inl i => .int i
  | .inr z => .str z
mutual
inductive Dx (M : Addr → Prop) (H : Hp) : V → PyData → Prop
  | non : Dx M H .non .none
  | bl (b : Bool) : Dx M H (.bl b) (.bool b)
  | int (i : Int) : Dx M H (.int i) (.int i)
  | str (z : Str) : Dx M H (.str z) (.str z)
  | lst {a : Addr} {xs : List V} {ds : List PyData} : ¬ M a → H a = some (.lst xs) → DxAll M H xs ds → Dx M H (.ref a) (.list ds)
  | tup {a : Addr} {xs : List V} {ds : List PyData} : ¬ M a → H a = some (.tup xs) → DxAll M H xs ds → Dx M H (.ref a) (.tuple ds)
  | dic {a : Addr} {kvs : List (Key × V)} {es : List (PyData × PyData)} : ¬ M a → H a = some (.dK kvs) → DxKv M H kvs es → Dx M H (.ref a) (.dict es)
inductive DxAll (M : Addr → Prop) (H : Hp) : List V → List PyData → Prop
  | nil : DxAll M H [] []
  | cons {v : V} {vs : List V} {d : PyData} {ds : List PyData} : Dx M H v d → DxAll M H vs ds → DxAll M H (v :: vs) (d :: ds)
inductive DxKv (M : Addr → Prop) (H : Hp) : List (Key × V) → List (PyData × PyData) → Prop
  | nil : DxKv M H [] []
  | cons {k : Key} {v : V} {d : PyData} {kvs : List (Key × V)} {es : List (PyData × PyData)} : Dx M H v d → DxKv M H kvs es → DxKv M H ((k, v) :: kvs) ((keyD k, d) :: es)
end
mutual
theorem Dx.mono {M : Addr → Prop} {H H' : Hp} (e : But M H H') : ∀ {d : PyData} {v : V}, Dx M H v d → Dx M H' v d
  | _, _, .non => .non
  | _, _, .bl b => .bl b
  | _, _, .int i => .int i
  | _, _, .str z => .str z
  | _, _, .lst n h a => .lst n (e _ _ n h) (DxAll.mono e a)
  | _, _, .tup n h a => .tup n (e _ _ n h) (DxAll.mono e a)
  | _, _, .dic n h a => .dic n (e _ _ n h) (DxKv.mono e a)
theorem DxAll.mono {M : Addr → Prop} {H H' : Hp} (e : But M H H') : ∀ {ds : List PyData} {vs : List V}, DxAll M H vs ds → DxAll M H' vs ds
  | _, _, .nil => .nil
  | _, _, .cons h a => .cons (Dx.mono e h) (DxAll.mono e a)
theorem DxKv.mono {M : Addr → Prop} {H H' : Hp} (e : But M H H') : ∀ {es : List (PyData × PyData)} {kvs : List (Key × V)}, DxKv M H kvs es → DxKv M H' kvs es
  | _, _, .nil => .nil
  | _, _, .cons h a => .cons (Dx.mono e h) (DxKv.mono e a)
end
mutual
theorem Dt.dx {M : Addr → Prop} {H : Hp} (n : ∀ a xs, M a → H a ≠ some (.tup xs)) : ∀ {d : PyData} {v : V}, Dt H v d → Dx M H v d
  | _, _, .non => .non
  | _, _, .int i => .int i
  | _, _, .str z => .str z
  | _, _, .tup h a => .tup (fun m => n _ _ m h) h (DtAll.dx n a)
theorem DtAll.dx {M : Addr → Prop} {H : Hp} (n : ∀ a xs, M a → H a ≠ some (.tup xs)) : ∀ {ds : List PyData} {vs : List V}, DtAll H vs ds → DxAll M H vs ds
  | _, _, .nil => .nil
  | _, _, .cons h a => .cons (Dt.dx n h) (DtAll.dx n a)
end
theorem DxAll.length {M : Addr → Prop} {H : Hp} : ∀ {ds : List PyData} {vs : List V}, DxAll M H vs ds → vs.length = ds.length
  | _, _, .nil => rfl
  | _, _, .cons _ a => by rw [List.length_cons, List.length_cons, DxAll.length a]
theorem DxAll.app {M : Addr → Prop} {H : Hp} : ∀ {ds es : List PyData} {vs ws : List V}, DxAll M H vs ds → DxAll M H ws es → DxAll M H (vs ++ ws) (ds ++ es)
  | _, _, _, _, .nil, b => b
  | _, _, _, _, .cons h a, b => .cons h (DxAll.app a b)
theorem DxAll.drop {M : Addr → Prop} {H : Hp} : ∀ (n : Nat) {ds : List PyData} {vs : List V}, DxAll M H vs ds → DxAll M H (vs.drop n) (ds.drop n)
  | 0, _, _, h => h
  | n + 1, _, _, .nil => .nil
  | n + 1, _, _, .cons _ a => DxAll.drop n a
theorem DxAll.take {M : Addr → Prop} {H : Hp} : ∀ (n : Nat) {ds : List PyData} {vs : List V}, DxAll M H vs ds → DxAll M H (vs.take n) (ds.take n)
  | 0, _, _, h => .nil
  | n + 1, _, _, .nil => .nil
  | n + 1, _, _, .cons h a => .cons h (DxAll.take n a)
theorem DxAll.rev {M : Addr → Prop} {H : Hp} : ∀ {ds : List PyData} {vs : List V}, DxAll M H vs ds → DxAll M H vs.reverse ds.reverse
  | _, _, .nil => .nil
  | _, _, .cons h a => by
    rw [List.reverse_cons, List.reverse_cons]
    exact (DxAll.rev a).app (.cons h .nil)
theorem DxAll.get {M : Addr → Prop} {H : Hp} : ∀ {ds : List PyData} {vs : List V}, DxAll M H vs ds → ∀ (i : Nat) (v : V), vs[i]? = some v → ∃ d, ds[i]? = some d ∧ Dx M H v d
  | _, _, .nil, i, v, e => by simp at e
  | _, _, .cons h a, 0, v, e => by
    cases e
    exact ⟨_, rfl, h⟩
  | _, _, .cons h a, i + 1, v, e => DxAll.get a i v e
theorem Dx.tupI {M : Addr → Prop} {H : Hp} {a : Addr} {ds : List PyData} (h : Dx M H (.ref a) (.tuple ds)) : ∃ xs, H a = some (.tup xs) ∧ DxAll M H xs ds := by
  cases h with
  | tup n h1 h2 => exact ⟨_, h1, h2⟩
theorem Dx.ref_of {M : Addr → Prop} {H : Hp} {v : V} {ds : List PyData} (h : Dx M H v (.tuple ds)) : ∃ a, v = .ref a := by
  cases h with
  | tup n h1 h2 => exact ⟨_, rfl⟩
/-- the type of data -/
def tyD : PyData → String
  | .none => "NoneType"
  | .bool _ => "bool"
  | .int _ => "int"
  | .str _ => "str"
  | .list _ => "list"
  | .tuple _ => "tuple"
  | .dict _ => "dict"
theorem Dx.type {K : PySem.W.Frag} {M : Addr → Prop} {H : Hp} {v : V} {d : PyData} (h : Dx M H v d) : TyX K H v (.type (tyD d)) := by
  cases h with
  | non => exact .base .non
  | bl b => exact .base (.bl b)
  | int i => exact .base (.int i)
  | str z => exact .base (.str z)
  | lst n e a => exact .base (.lst e)
  | tup n e a => exact .base (.tup e)
  | dic n e a => exact .base (.dK e)
section
variable {X : Cx} {pins : List (Addr × Obj)} {σ : L2.St} {H : Hp} {s : Shared} {M : Addr → Prop}
theorem key_reads {k : Key} {u : Value} (e : keyIs k u = true) : Reads s.heap u (keyD k) [] := by
  rcases keyIs_shape e with ⟨i, t, rfl, rfl⟩ | ⟨z, t, rfl, rfl⟩
  · exact .int i t
  · exact .str z t
mutual
theorem Dx.reads (I : Inv X pins σ H s) : ∀ (d : PyData) (v : V) (u : Value), Dx M H v d → RelV v u → ∃ as, Reads s.heap u d as
  | .none, _, u, h, r => by
    cases h
    obtain rfl : u = .none := r
    exact ⟨_, .none⟩
  | .bool b, _, u, h, r => by
    cases h
    obtain rfl : u = .bool b := r
    exact ⟨_, .bool b⟩
  | .int i, _, u, h, r => by
    cases h
    obtain ⟨t, rfl⟩ := r
    exact ⟨_, .int i t⟩
  | .str z, _, u, h, r => by
    cases h
    obtain ⟨t, rfl⟩ := r
    exact ⟨_, .str z t⟩
  | .list ds, _, u, h, r => by
    cases h with
    | lst n e a =>
      obtain rfl : u = .ref _ := r
      obtain ⟨_, its, n', rv, q⟩ := (show ObjOk X.prog X.w H s.heap _ (.lst _) from I.hok _ _ e)
      obtain ⟨as, q2⟩ := DxAll.reads I ds _ its a rv
      exact ⟨_, .list q rfl rfl (by simpa using q2)⟩
  | .tuple ds, _, u, h, r => by
    cases h with
    | tup n e a =>
      obtain rfl : u = .ref _ := r
      obtain ⟨_, its, rv, o, q, qc, n', qd⟩ := (show ObjOk X.prog X.w H s.heap _ (.tup _) from I.hok _ _ e)
      obtain ⟨as, q2⟩ := DxAll.reads I ds _ its a rv
      exact ⟨_, .tuple q qc qd (by simpa using q2)⟩
  | .dict es, _, u, h, r => by
    cases h with
    | dic n e a =>
      obtain rfl : u = .ref _ := r
      obtain ⟨_, _, vs, rel, o, es', ep, q, qx, qd, _, qp, _⟩ := (show ObjOk X.prog X.w H s.heap _ (.dK _) from I.hok _ _ e)
      obtain ⟨as, bs, q1, q2⟩ := DxKv.reads I es _ vs es'.toList a rel qp
      exact ⟨_, .dict q qx.1 qd q1 q2⟩
theorem DxAll.reads (I : Inv X pins σ H s) : ∀ (ds : List PyData) (vs : List V) (us : List Value), DxAll M H vs ds → Vals vs us → ∃ as, ReadsAll s.heap us ds as
  | [], _, _, h, r => by
    cases h
    cases r
    exact ⟨_, .nil⟩
  | d :: ds, _, _, h, r => by
    cases h with
    | cons h1 h2 =>
      cases r with
      | cons r1 r2 =>
        obtain ⟨as, q1⟩ := Dx.reads I d _ _ h1 r1
        obtain ⟨bs, q2⟩ := DxAll.reads I ds _ _ h2 r2
        exact ⟨_, .cons q1 q2⟩
theorem DxKv.reads (I : Inv X pins σ H s) : ∀ (es : List (PyData × PyData)) (kvs : List (Key × V)) (vs : List (Key × Value)) (l : List DictEntry), DxKv M H kvs es → KV kvs vs → Pairs (mixKind X.prog X.w) l vs →
    ∃ as bs, ReadsAll s.heap (l.map (·.key)) (es.map (·.1)) as ∧ ReadsAll s.heap (l.map (·.val)) (es.map (·.2)) bs
  | [], _, _, _, h, r, p => by
    cases h
    cases r
    cases p
    exact ⟨_, _, .nil, .nil⟩
  | e :: es, _, _, _, h, r, p => by
    cases h with
    | cons h1 h2 =>
      cases r with
      | cons r1 r2 =>
        cases p with
        | cons p1 p2 p3 =>
          obtain ⟨rk, rv⟩ := r1
          obtain ⟨as, q1⟩ := Dx.reads I _ _ _ h1 rv
          obtain ⟨cs, ds, q2, q3⟩ := DxKv.reads I es _ _ _ h2 r2 p3
          simp only at rk
          subst rk
          refine ⟨_, _, .cons (key_reads p1) q2, .cons (p2.symm ▸ q1) q3⟩
end
end
end K3
namespace K3
open PySem PySem.Spec PyProof.Rows L2 GG
/-! ### such data shown -/
section
variable {X : Cx} {pins : List (Addr × Obj)} {σ : L2.St} {H : Hp} {s : Shared} {M : Addr → Prop}
theorem key_shown {k : Key} {u : Value} (e : keyIs k u = true) (hs : (keyD k).showable = true) (hz : (keyD k).shown.length ≤ sizeLine) (bs : List Addr) (h : Heap) (n : Nat) : ReprK X.prog X.w bs h n u (keyD k).shown := by
  rcases keyIs_shape e with ⟨i, t, rfl, rfl⟩ | ⟨z, t, rfl, rfl⟩
  · exact .of_is (ReprIs.int t (by simpa [keyD, PyData.showable] using hs)) _ _ _
  · exact .of_is (ReprIs.str z t (by simpa only [keyD, PyData.shown] using hz)) _ _ _
mutual
theorem Dx.shown (I : Inv X pins σ H s) : ∀ (d : PyData) (v : V) (u : Value), Dx M H v d → RelV v u → d.showable = true → d.shown.length ≤ sizeLine → ∃ bs, ReadAtMost s.heap d.depth bs ∧ ReprK X.prog X.w bs s.heap d.depth u d.shown
  | .none, _, u, h, r, _, _ => by
    cases h
    obtain rfl : u = .none := r
    exact ⟨[], (fun _ h => nomatch h), by simp only [PyData.shown]; exact .of_is ReprIs.none _ _ _⟩
  | .bool b, _, u, h, r, _, _ => by
    cases h
    obtain rfl : u = .bool b := r
    exact ⟨[], (fun _ h => nomatch h), by simp only [PyData.shown]; exact .of_is (ReprIs.bool b) _ _ _⟩
  | .int i, _, u, h, r, hs, _ => by
    cases h
    obtain ⟨t, rfl⟩ := r
    exact ⟨[], (fun _ h => nomatch h), by simp only [PyData.shown]; exact .of_is (ReprIs.int t (by simpa [PyData.showable] using hs)) _ _ _⟩
  | .str z, _, u, h, r, _, hz => by
    cases h
    obtain ⟨t, rfl⟩ := r
    exact ⟨[], (fun _ h => nomatch h), by simp only [PyData.shown]; exact .of_is (ReprIs.str z t (by simpa only [PyData.shown] using hz)) _ _ _⟩
  | .list ds, _, u, h, r, hs, hz => by
    obtain ⟨as0, rd⟩ := Dx.reads I _ _ _ h r
    cases h with
    | lst n e a =>
      obtain rfl : u = .ref _ := r
      have hz' : (listText (PyData.shownAll ds)).length ≤ sizeLine := by simpa only [PyData.shown] using hz
      obtain ⟨_, its, n', rv, q⟩ := (show ObjOk X.prog X.w H s.heap _ (.lst _) from I.hok _ _ e)
      obtain ⟨bs, hb, hk⟩ := DxAll.shown I ds _ its a rv (by simpa [PyData.showable] using hs) (fun t ht => Nat.le_trans (listText_mem_le ht) hz')
      refine ⟨_ :: bs, ReadAtMost.cons rd (by simp only [PyData.depth]; omega) hb, ?_⟩
      have out := not_mem_of_deeper rd (by simp only [PyData.depth]; omega) hb
      simp only [PyData.depth, PyData.shown]
      cases its with
      | nil =>
        cases rv
        cases a
        simp only [PyData.shownAll, listText_nil]
        exact ReprK.listEmpty q rfl rfl
      | cons y l => exact ReprK.list q rfl rfl out (by simpa using hk.length_eq) (fun i y e => hk.item i y (by simpa using e))
  | .tuple ds, _, u, h, r, hs, hz => by
    obtain ⟨as0, rd⟩ := Dx.reads I _ _ _ h r
    cases h with
    | tup n e a =>
      obtain rfl : u = .ref _ := r
      have hz' : (tupleText (PyData.shownAll ds)).length ≤ sizeLine := by simpa only [PyData.shown] using hz
      obtain ⟨_, its, rv, o, q, qc, n', qd⟩ := (show ObjOk X.prog X.w H s.heap _ (.tup _) from I.hok _ _ e)
      obtain ⟨bs, hb, hk⟩ := DxAll.shown I ds _ its a rv (by simpa [PyData.showable] using hs) (fun t ht => Nat.le_trans (tupleText_mem_le ht) hz')
      refine ⟨_ :: bs, ReadAtMost.cons rd (by simp only [PyData.depth]; omega) hb, ?_⟩
      have out := not_mem_of_deeper rd (by simp only [PyData.depth]; omega) hb
      simp only [PyData.depth, PyData.shown]
      exact ReprK.tuple q qc qd out (by simpa using hk)
  | .dict es, _, u, h, r, hs, hz => by
    obtain ⟨as0, rd⟩ := Dx.reads I _ _ _ h r
    cases h with
    | dic n e a =>
      obtain rfl : u = .ref _ := r
      have hz' : (dictText (PyData.shownKv es)).length ≤ sizeLine := by simpa only [PyData.shown] using hz
      obtain ⟨_, sm, vs, rel, o, es', ep, q, qx, qd, _, qp, _⟩ := (show ObjOk X.prog X.w H s.heap _ (.dK _) from I.hok _ _ e)
      obtain ⟨bs, hb, hk⟩ := DxKv.shown I es _ vs es'.toList a rel qp (by simpa [PyData.showable] using hs) (fun t ht => Nat.le_trans (dictText_mem_le ht) hz')
      refine ⟨_ :: bs, ReadAtMost.cons rd (by simp only [PyData.depth]; omega) hb, ?_⟩
      have out := not_mem_of_deeper rd (by simp only [PyData.depth]; omega) hb
      simp only [PyData.depth, PyData.shown]
      exact ReprK.dict q qx.1 qd sm out hk
theorem DxAll.shown (I : Inv X pins σ H s) : ∀ (ds : List PyData) (vs : List V) (us : List Value), DxAll M H vs ds → Vals vs us → PyData.showableAll ds = true → (∀ t ∈ PyData.shownAll ds, t.length ≤ sizeLine) →
    ∃ bs, ReadAtMost s.heap (PyData.depthAll ds) bs ∧ ReprAllK X.prog X.w bs s.heap (PyData.depthAll ds) us (PyData.shownAll ds)
  | [], _, _, h, r, _, _ => by
    cases h
    cases r
    exact ⟨[], (fun _ h => nomatch h), by simp only [PyData.shownAll]; exact .nil⟩
  | d :: ds, _, _, h, r, hs, hz => by
    cases h with
    | cons h1 h2 =>
      cases r with
      | cons r1 r2 =>
        obtain ⟨s1, s2⟩ : d.showable = true ∧ PyData.showableAll ds = true := by simpa [PyData.showableAll] using hs
        obtain ⟨b1, q1, k1⟩ := Dx.shown I d _ _ h1 r1 s1 (hz _ (by simp only [PyData.shownAll]; exact List.mem_cons_self ..))
        obtain ⟨b2, q2, k2⟩ := DxAll.shown I ds _ _ h2 r2 s2 (fun t ht => hz t (by simp only [PyData.shownAll]; exact List.mem_cons_of_mem _ ht))
        refine ⟨b1 ++ b2, (q1.mono (by simp only [PyData.depthAll]; omega)).append (q2.mono (by simp only [PyData.depthAll]; omega)), ?_⟩
        simp only [PyData.depthAll, PyData.shownAll]
        exact .cons ((k1.more fun b hb => List.mem_append_left _ hb).level_le (Nat.le_max_left _ _)) (k2.more_le (fun b hb => List.mem_append_right _ hb) (Nat.le_max_right _ _))
theorem DxKv.shown (I : Inv X pins σ H s) : ∀ (es : List (PyData × PyData)) (kvs : List (Key × V)) (vs : List (Key × Value)) (l : List DictEntry), DxKv M H kvs es → KV kvs vs → Pairs (mixKind X.prog X.w) l vs → PyData.showableKv es = true →
    (∀ t ∈ PyData.shownKv es, t.length ≤ sizeLine) → ∃ bs, ReadAtMost s.heap (PyData.depthKv es) bs ∧ ReprEntriesK X.prog X.w bs s.heap (PyData.depthKv es) l (PyData.shownKv es)
  | [], _, _, _, h, r, p, _, _ => by
    cases h
    cases r
    cases p
    exact ⟨[], (fun _ h => nomatch h), by simp only [PyData.shownKv]; exact .nil⟩
  | e :: es, _, _, _, h, r, p, hs, hz => by
    cases h with
    | @cons kk vv dd _ _ h1 h2 =>
      cases r with
      | cons r1 r2 =>
        cases p with
        | cons p1 p2 p3 =>
          obtain ⟨rk, rv⟩ := r1
          simp only at rk rv
          subst rk
          obtain ⟨⟨s1, s2⟩, s3⟩ : ((keyD _).showable = true ∧ dd.showable = true) ∧ PyData.showableKv es = true := by simpa [PyData.showableKv] using hs
          have z0 := hz _ (by simp only [PyData.shownKv]; exact List.mem_cons_self ..)
          rw [strLen_append, strLen_append] at z0
          obtain ⟨b1, q1, k1⟩ := Dx.shown I dd _ _ h1 rv s2 (by omega)
          obtain ⟨b2, q2, k2⟩ := DxKv.shown I es _ _ _ h2 r2 p3 s3 (fun t ht => hz t (by simp only [PyData.shownKv]; exact List.mem_cons_of_mem _ ht))
          refine ⟨b1 ++ b2, (q1.mono (by simp only [PyData.depthKv]; omega)).append (q2.mono (by simp only [PyData.depthKv]; omega)), ?_⟩
          have up : ∀ {l : List DictEntry} {ts : List Str} {n m : Nat}, n ≤ m → ReprEntriesK X.prog X.w b2 s.heap n l ts → ReprEntriesK X.prog X.w (b1 ++ b2) s.heap m l ts := by
            intro l
            induction l with
            | nil =>
              intro ts n m _ z
              cases z
              exact .nil
            | cons y l ih =>
              intro ts n m nm z
              cases z with
              | cons z1 z2 z3 => exact .cons ((z1.more fun b hb => List.mem_append_right _ hb).level_le nm) ((z2.more fun b hb => List.mem_append_right _ hb).level_le nm) (ih nm z3)
          simp only [PyData.depthKv, PyData.shownKv]
          exact .cons (key_shown p1 s1 (by omega) _ _ _) (by rw [p2]; exact (k1.more fun b hb => List.mem_append_left _ hb).level_le (by omega)) (up (by omega) k2)
end
end
/-- what repr asks of such data -/
def ShowX (d : PyData) : Prop := d.showable = true ∧ d.depth ≤ 60 ∧ d.shown.length ≤ sizeLine
def rReprX (M : Addr → Prop) : List V → Hp → VK → Prop := fun xs H Q => ∃ (v : V) (d : PyData), xs = [v] ∧ Dx M H v d ∧ ShowX d ∧ Q (.str d.shown) H
section
variable {X : Cx} {M : Addr → Prop}
theorem call_reprX (hf : Free X.A) (hu : X.A.units + 64 < cLine) : CallR X (.builtin "repr") (rReprX M) := by
  intro pins s σ H xs us Q I r h
  obtain ⟨v, d, rfl, hd, ⟨h1, h3, h4⟩, q⟩ := h
  obtain ⟨u, rfl, rv⟩ := vals1 r
  obtain ⟨as, rd⟩ := Dx.reads I d v u hd rv
  cases hd with
  | non =>
    obtain rfl : u = Value.none := rv
    exact PySem.P.repr_of_none ⟨.str _, H, I.tok _, ⟨_, rfl⟩, q⟩
  | bl b =>
    obtain rfl : u = Value.bool b := rv
    simp only [PyData.shown] at q
    exact PySem.P.repr_of_bool ⟨.str _, H, I.tok _, ⟨_, rfl⟩, q⟩
  | int i =>
    obtain ⟨t, rfl⟩ := rv
    exact PySem.P.repr_of_int (by simpa [PyData.showable] using h1) ⟨.str _, H, I.tok _, ⟨_, rfl⟩, q⟩
  | str z =>
    obtain ⟨t, rfl⟩ := rv
    exact PySem.P.repr_of_str ⟨.str _, H, I.tok _, ⟨_, rfl⟩, q⟩ h4
  | @lst a xs ds n e hA =>
    obtain rfl : u = Value.ref a := rv
    have hz' : (listText (PyData.shownAll ds)).length ≤ sizeLine := by simpa only [PyData.shown] using h4
    obtain ⟨_, its, n', rv, o⟩ := (show ObjOk X.prog X.w H s.heap _ (.lst _) from I.hok _ _ e)
    obtain ⟨bs, hb, hk⟩ := DxAll.shown I ds _ its hA rv (by simpa [PyData.showable] using h1) (fun t ht => Nat.le_trans (listText_mem_le ht) hz')
    have out := not_mem_of_deeper rd (by simp only [PyData.depth]; omega) hb
    simp only [PyData.depth] at h3
    simp only [PyData.shown] at q
    refine call_repr_slot (T := "list") (idr := "list.__repr__") (by omega) ⟨_, o, rfl⟩ PySem.F.slot_list_repr.toG ?_
    cases its with
    | nil =>
      cases rv
      cases hA
      simp only [PyData.shownAll, listText_nil] at q
      exact call_list_repr_empty ⟨_, o, rfl⟩ o rfl ⟨_, _, rfl, .str _, H, I.tok _, ⟨_, rfl⟩, q⟩
    | cons y l => exact call_list_reprK o rfl rfl out (by simpa using hk.length_eq) (fun i y e => hk.item i y (by simpa using e)) hf (fun b _ => Clear.nil b) (by show X.A.units + 1 + _ < cLine; omega) (fun _ _ e => e) (fun h' t tk hk => ⟨_, _, rfl, .str _, H, I.kept hk, ⟨_, rfl⟩, q⟩) hz'
  | @tup a xs ds n e hA =>
    obtain rfl : u = Value.ref a := rv
    have hz' : (tupleText (PyData.shownAll ds)).length ≤ sizeLine := by simpa only [PyData.shown] using h4
    obtain ⟨_, its, rv, o, q1, qc, n', qd⟩ := (show ObjOk X.prog X.w H s.heap _ (.tup _) from I.hok _ _ e)
    obtain ⟨bs, hb, hk⟩ := DxAll.shown I ds _ its hA rv (by simpa [PyData.showable] using h1) (fun t ht => Nat.le_trans (tupleText_mem_le ht) hz')
    have out := not_mem_of_deeper rd (by simp only [PyData.depth]; omega) hb
    simp only [PyData.depth] at h3
    simp only [PyData.shown] at q
    refine call_repr_slot (T := "tuple") (idr := "tuple.__repr__") (by omega) ⟨_, q1, qc⟩ PySem.F.slot_tuple_repr ?_
    exact call_tuple_reprK q1 qc qd out (by simpa using hk) hf (fun b _ => Clear.nil b) (by show X.A.units + 1 + _ < cLine; omega) (fun _ _ e => e) (fun h' t tk hk => ⟨_, _, rfl, .str _, H, I.kept hk, ⟨_, rfl⟩, q⟩) hz'
  | @dic a kvs es n e hA =>
    obtain rfl : u = Value.ref a := rv
    have hz' : (dictText (PyData.shownKv es)).length ≤ sizeLine := by simpa only [PyData.shown] using h4
    obtain ⟨_, sm, vs, rel, o, es', ep, q1, qx, qd, _, qp, _⟩ := (show ObjOk X.prog X.w H s.heap _ (.dK _) from I.hok _ _ e)
    obtain ⟨bs, hb, hk⟩ := DxKv.shown I es _ vs es'.toList hA rel qp (by simpa [PyData.showable] using h1) (fun t ht => Nat.le_trans (dictText_mem_le ht) hz')
    have out := not_mem_of_deeper rd (by simp only [PyData.depth]; omega) hb
    simp only [PyData.depth] at h3
    simp only [PyData.shown] at q
    refine call_repr_slot (T := "dict") (idr := "dict.__repr__") (by omega) ⟨_, q1, qx.1⟩ PySem.F.slot_dict_repr ?_
    exact call_dict_reprK q1 qx.1 qd sm out hk hf (fun b _ => Clear.nil b) (by show X.A.units + 1 + _ < cLine; omega) (fun _ _ e => e) (fun h' t tk hk => ⟨_, _, rfl, .str _, H, I.kept hk, ⟨_, rfl⟩, q⟩) hz'
end
end K3
namespace GG
open PySem PySem.Spec PyProof.Rows L2
/-! ### t[::-1] of a tuple -/
theorem fm_congr {α β : Type} {f g : α → Option β} : ∀ {l : List α}, (∀ x ∈ l, f x = g x) → l.filterMap f = l.filterMap g
  | [], _ => rfl
  | a :: l, h => by
    rw [List.filterMap_cons, List.filterMap_cons, h a (List.mem_cons_self ..), fm_congr fun x m => h x (List.mem_cons_of_mem _ m)]
theorem back_pick (xs : Array Value) : ((List.range xs.size).filterMap fun (m : Nat) => xs[((xs.size : Int) - 1 + (m : Int) * (-1)).toNat]?).toArray = xs.toList.reverse.toArray := by
  have e : ((List.range xs.size).filterMap fun (m : Nat) => xs[((xs.size : Int) - 1 + (m : Int) * (-1)).toNat]?) = ((List.range xs.size).map fun m => xs.size - 1 - m).filterMap (xs[·]?) := by
    rw [List.filterMap_map]
    refine fm_congr fun m hm => ?_
    have := List.mem_range.mp hm
    show _ = xs[xs.size - 1 - m]?
    congr 1
    omega
  rw [e, PySem.W.krv_range, List.filterMap_reverse, PySem.W.krv_all]
section
variable {prog : Program} {w : World} {A : Around} {E : Value → Shared → Prop} {s : Shared}
theorem applied_back {sl : Addr} {vs : Value} {n : Nat} {Q : Int × Int × Nat → Shared → Prop} (hs : s.heap.IsSliceOf sl .none .none vs) (ps : PySem.IsPart vs (some (-1))) (h : Q ((n : Int) - 1, -1, n) s) :
    wpAny (model prog w) A (Builtin.Slice.sliceApplied (.ref sl) (pure (n : Int))) Q E s := by
  obtain ⟨os, q1, q2, q3⟩ := id hs
  unfold Builtin.Slice.sliceApplied Builtin.Slice.sliceFields
  refine wpAny_bind (wpAny_bind (wpAny_field q1 q3 (x := .none) rfl (wpAny_bind (wpAny_field q1 q3 (x := .none) rfl (wpAny_bind (wpAny_field q1 q3 (x := vs) rfl (wpAny_pure ?_)))))))
  refine wpAny_bind (HT.slicePart_ ps ?_)
  show wpAny _ _ (if ((-1 : Int) == 0) = true then _ else _) _ _ s
  rw [if_neg (by decide)]
  refine wpAny_bind (slicePart_none (wpAny_bind (slicePart_none (wpAny_bind (wpAny_pure ?_)))))
  have e : Builtin.Slice.slicePlaces ((n : Int) - 1) (-1) (-1) = n := by
    unfold Builtin.Slice.slicePlaces
    rw [if_neg (by decide)]
    by_cases h : n = 0
    · subst h
      decide
    · rw [if_pos (by omega), show (- -1 : Int) = 1 by decide, Int.ediv_one]
      omega
  show wpAny _ _ (pure ((n : Int) - 1, (-1 : Int), Builtin.Slice.slicePlaces ((n : Int) - 1) (-1) (-1))) _ _ s
  rw [e]
  exact wpAny_pure h
theorem tuple_back {t sl : Addr} {items : Array Value} {vs : Value} {Q : Value → Shared → Prop} (ht : IsTup s.heap t items) (hs : s.heap.IsSliceOf sl .none .none vs) (ps : PySem.IsPart vs (some (-1)))
    (h : Q (.ref s.heap.objs.size) { s with heap := s.heap.push { cls := .type "tuple", data := .seq items.toList.reverse.toArray } }) (hsz : items.size ≤ sizeLine) : wpAny (model prog w) A (getItem (.ref t) (.ref sl)) Q E s := by
  have fits : sizeOk (.seq items.toList.reverse.toArray) := by
    show items.toList.reverse.toArray.size ≤ sizeLine
    rw [List.size_toArray, List.length_reverse, Array.length_toList]
    exact hsz
  obtain ⟨os, q1, q2, q3⟩ := id hs
  have ty : s.TypeIs (.ref sl) "slice" := ⟨os, q1, q2⟩
  unfold getItem
  try with_reducible refine wpAny_holding ?_
  first | refine wpAny_bind (wpAny_pure ?_) | skip
  refine wpAny_bind (wpAny_sequenceKey ht.typeIs (by decide) ?_)
  refine wpAny_bind (wpAny_callSpecial?_slot (name := Str.ofString "__getitem__") ht.typeIs PyProof.Rows.slot_tuple_getitem (wpAny_call_entry PyProof.Rows.slot_tuple_getitem ht.typeIs entry_tuple_getitem ?_ (args_tuple_getitem _ _)))
  show wpAny _ _ (Builtin.Tuple.tupleItemsOf (.ref t) >>= _) _ _ s
  refine wpAny_bind (tupleItemsOf_ ht (wpAny_bind (wpAny_typeOf ty ?_)))
  rw [if_pos (by decide)]
  refine wpAny_bind (applied_back hs ps ?_)
  show wpAny _ _ (if (((items.size : Int) - 1 == 0 && (-1 : Int) == 1 && items.size == items.size)) = true then _ else _) _ _ s
  rw [if_neg (by simp), back_pick]
  first
    | exact wpAny_bind (m := Builtin.Tuple.tupleExact _) (wpAny_newObj_type (wpAny_pure ⟨_, rfl, wpAny_pure h⟩) fits)
    | exact wpAny_bind (wpAny_bind (m := Builtin.Tuple.tupleExact _) (wpAny_newObj_type (wpAny_pure (wpAny_pure ⟨_, rfl, wpAny_pure h⟩)) fits))
    | exact wpAny_bind (m := Builtin.Tuple.tupleExact _) (wpAny_newObj_type (wpAny_bind (wpAny_pure (wpAny_pure ⟨_, rfl, wpAny_pure h⟩))) fits)
    | exact wpAny_bind (wpAny_bind (m := Builtin.Tuple.tupleExact _) (wpAny_newObj_type (wpAny_pure ⟨_, rfl, wpAny_pure h⟩) fits))
end
section
variable {X : Cx}
def tRevT (K : PySem.W.Frag) (te : TE) : TE := fun σ H Q => te σ H fun x H1 => ∃ a xs, x = .ref a ∧ SqT K H1 a xs ∧ ∀ p, H1 p = none → Q (.ref p) (upd H1 p (.tup xs.reverse))
theorem pe_revT {e : Expr} {te : TE} {k : Nat} {p1 p2 p3 pos : Pos} (he : PE X e te) : PE X (.Subscript e (.Slice none none (some (.UnaryOp .USub (.Constant (.int 1) k p1) p2)) p3) pos) (tRevT X.K te) := by
  constructor
  intro pins s σ H Q I h
  refine Subscript_ (thn (he.run pins s σ H _ I h) ?_)
  rintro v s1 ⟨x, H1, I1, r1, a, xs, rfl, hx, q⟩
  cases r1
  have step : PO X (some (.UnaryOp .USub (.Constant (.int 1) k p1) p2)) (tPart (tUn (rU fun i => .int (-i)) (tC (.int 1)))) := po_some (pe_un un_neg pe_int)
  refine wpAny_Slice (thn (po_none.run pins s1 σ H1 (fun o H2 => o = none ∧ H2 = H1) I1 ⟨rfl, rfl⟩) ?_)
  rintro vl s2 ⟨_, _, I2, pl, rfl, rfl⟩
  refine thn (po_none.run pins s2 σ _ (fun o H3 => o = none ∧ H3 = _) I2 ⟨rfl, rfl⟩) ?_
  rintro vu s3 ⟨_, _, I3, pu, rfl, rfl⟩
  refine thn (step.run pins s3 σ _ (fun o H4 => o = some (-1) ∧ H4 = _) I3 ⟨1, rfl, -1, rfl, rfl, rfl⟩) ?_
  rintro vs s4 ⟨_, H4, I4, ps, rfl, rfl⟩
  cases pl
  cases pu
  have I5 : Inv X pins σ H4 { s4 with heap := s4.heap.push { cls := .type "slice", data := .fields #[.none, .none, vs] } } := I4.kept (t' := s4.toks) fun b ob q => Heap.get?_push_of_some _ q
  obtain ⟨its, r, ht, hz⟩ := I5.tuple hx
  have hl := r.length
  show wpAny (model X.prog X.w) X.A (subscriptTail e (.Slice none none (some (.UnaryOp .USub (.Constant (.int 1) k p1) p2)) p3) (.ref a) (.ref s4.heap.objs.size)) (EP X pins σ Q) X.xe { s4 with heap := s4.heap.push { cls := .type "slice", data := .fields #[.none, .none, vs] } }
  refine tail_any (ops := [.ref a, .ref s4.heap.objs.size]) ht.typeIs (PyProof.Rows.slot_tuple_getitem.lookup) ?_ (by with_unfolding_all rfl)
  refine tuple_back ht (Heap.IsSliceOf.new _ .none .none vs) ps ?_ (by rw [List.size_toArray]; omega)
  refine ⟨.ref _, _, I5.laid (t' := s4.toks) (o := .tup xs.reverse) (fun b ob q => Heap.get?_push_of_some _ q) (Nat.le_refl _) ?_, rfl, q _ (I5.hok.fresh (Nat.le_refl _))⟩
  exact ⟨by rw [List.length_reverse]; exact hz, its.reverse, r.reverse, IsTup.new _ _⟩
end
end GG
namespace GG
open PySem PySem.Spec PyProof.Rows L2
/-! ### a dict beside a text -/
section
variable {A : Around} {s : Shared}
theorem dict_ne_text (l : Addr) (es : Array DictEntry) (n : Nat) (dd : Option Addr) (sl : Array (Option Value)) (b : Str) (u : Tok) :
    Meets (Builtin.«dict.__ne__» ⟨[.ref l, .str b u], []⟩) (fun _ R s => s.heap.get? l = some { cls := .type "dict", dict := dd, data := .dict es n, slots := sl } ∧ R (.ok (.ret .notImplemented)) s) :=
  .of_wp fun prog w A R s h => by
    obtain ⟨hp, g, d, tk, os⟩ := s
    obtain ⟨hl, h⟩ := h
    have f1 : isSubtype (.type "str") (.type "dict") = pure false := by kernel_rfl
    wp_walk using wpAny_loadPart' hl
    exact ⟨_, rfl, h⟩
theorem text_ne_dict (b : Str) (u : Tok) (l : Addr) (es : Array DictEntry) (n : Nat) (dd : Option Addr) (sl : Array (Option Value)) :
    Meets (Builtin.«str.__ne__» ⟨[.str b u, .ref l], []⟩) (fun _ R s => s.heap.get? l = some { cls := .type "dict", dict := dd, data := .dict es n, slots := sl } ∧ R (.ok (.ret .notImplemented)) s) :=
  .of_wp fun prog w A R s h => by
    obtain ⟨hp, g, d, tk, os⟩ := s
    obtain ⟨hl, h⟩ := h
    wp_walk using wpAny_loadPart' hl, wpAny_load hl
    exact ⟨_, rfl, h⟩
theorem dict_text_ne {prog : Program} {w : World} {E : Value → Shared → Prop} {Q : Value → Shared → Prop} {l : Addr} {o : Obj} {es : Array DictEntry} {n : Nat} (b : Str) (u : Tok) (ho : s.heap.get? l = some o) (hc : o.cls = .type "dict") (hd : o.data = .dict es n) (hu : A.units < cLine) (h : Q (.bool true) s) :
    wpAny (model prog w) A (richCompare .NotEq (.ref l) (.str b u)) Q E s := by
  obtain ⟨cls, dd, data, sl⟩ := o
  simp only at hc hd
  subst hc hd
  exact SeqAt.rc_ne_decline_or (k := false) ⟨_, ho, rfl⟩ (typeIs_str s b u) (by decide) (by kernel_rfl) F.slot_dict_ne F.slot_str_ne_refl
    (fun _ hq => call_meets F.slot_dict_ne ⟨_, ho, rfl⟩ F.entry_dict_ne (F.args_dict_ne_2 _ _) (dict_ne_text l es n dd sl b u) ⟨ho, hq⟩)
    (fun _ hq => call_meets F.slot_str_ne_refl (typeIs_str s b u) F.entry_str_ne (F.args_str_ne_2 _ _) (text_ne_dict b u l es n dd sl) ⟨ho, hq⟩)
    (fun _ hq => wpAny_of_eq (rfl : isSame (.ref l) (.str b u) = pure false) hq) (.inr hu) h
end
end GG
namespace K3
open PySem PySem.Spec PyProof.Rows L2 GG
/-- the text that data are -/
def isWd (z : Str) : PyData → Bool
  | .str w => w == z
  | _ => false
def rNeXs (M : Addr → Prop) : R2 := fun x y H Q => ∃ (d : PyData) (z : Str), Dx M H x d ∧ y = .str z ∧ Q (.bl (!isWd z d)) H
theorem op_neXs {X : Cx} {M : Addr → Prop} (hu : X.A.units + 64 < cLine) : OpR X (compareOp .NotEq) (rNeXs M) := by
  intro pins s σ H x y v u Q I rx ry h
  obtain ⟨d, z, hd, rfl, q⟩ := h
  obtain ⟨t, rfl⟩ := ry
  have fin : ∀ b : Bool, b = (!isWd z d) → EP X pins σ Q (.bool b) s := fun b e => ⟨.bl b, H, I, rfl, e ▸ q⟩
  cases hd with
  | non =>
    obtain rfl : v = Value.none := rx
    exact SeqAt.RcNeAt.none_str z t _ _ _ _ (fin true rfl)
  | bl b =>
    obtain rfl : v = Value.bool b := rx
    exact SeqAt.RcNeAt.bool_str b z t _ _ _ _ (fin true rfl)
  | int i =>
    obtain ⟨t', rfl⟩ := rx
    exact SeqAt.RcNeAt.int_str i t' z t _ _ _ _ (fin true rfl)
  | str w =>
    obtain ⟨t', rfl⟩ := rx
    exact SeqAt.RcNeAt.str_str w t' z t _ _ _ _ (fin _ rfl)
  | @lst a xs ds n e hA =>
    obtain rfl : v = Value.ref a := rx
    obtain ⟨_, its, n', rv, o⟩ := (show ObjOk X.prog X.w H s.heap _ (.lst _) from I.hok _ _ e)
    exact SeqAt.RcNeAt.list_str (items := its.toArray) z t ⟨_, o, rfl, _, rfl⟩ (by omega) _ _ _ _ (fin true rfl)
  | @tup a xs ds n e hA =>
    obtain rfl : v = Value.ref a := rx
    obtain ⟨_, its, rv, o, q1, qc, n', qd⟩ := (show ObjOk X.prog X.w H s.heap _ (.tup _) from I.hok _ _ e)
    exact SeqAt.RcNeAt.tuple_str (items := its.toArray) z t ⟨_, q1, qc, _, qd⟩ (by omega) _ _ _ _ (fin true rfl)
  | @dic a kvs es n e hA =>
    obtain rfl : v = Value.ref a := rx
    obtain ⟨_, sm, vs, rel, o, es', ep, q1, qx, qd, _, qp, _⟩ := (show ObjOk X.prog X.w H s.heap _ (.dK _) from I.hok _ _ e)
    exact dict_text_ne z t q1 qx.1 qd (by omega) (fin true rfl)
end K3
namespace K3
open PySem L2 GG
/-! ### farcalls.worths: copied; farcalls.wires: is_number, is_fixed -/
abbrev sNumber : Stmt := top 10
abbrev sFixed : Stmt := top 11
abbrev sCopied : Stmt := top 6
theorem scNu : FnScope ["thing"] ["thing"] (defScope sNumber) := ⟨rfl, rfl, rfl, by decide +kernel, rfl, by decide +kernel, by decide +kernel⟩
theorem scFi : FnScope ["thing", "part"] ["thing"] (defScope sFixed) := ⟨rfl, rfl, rfl, by decide +kernel, rfl, by decide +kernel, by decide +kernel⟩
theorem scCo : FnScope ["thing", "rows", "key", "part", "parts"] ["thing"] (defScope sCopied) := ⟨rfl, rfl, rfl, by decide +kernel, rfl, by decide +kernel, by decide +kernel⟩
def spNumber : Sp := fun vs H Q _ => ∃ i : Int, vs = [.int i] ∧ 0 ≤ i ∧ Q (.bl true) H
/-- the data of a copy are those of what is copied -/
def Few : Nat → PyData → Prop
  | 0, _ => True
  | n + 1, d => ∀ ds, d = .tuple ds → ds.length ≤ 1000 ∧ ∀ e ∈ ds, Few n e
theorem depthAll_mem : ∀ {ds : List PyData} {d : PyData}, d ∈ ds → d.depth ≤ PyData.depthAll ds
  | a :: r, d, h => by
    simp only [PyData.depthAll]
    rcases List.mem_cons.mp h with rfl | h
    · omega
    · have := depthAll_mem h
      omega
def spCopied (n : Nat) : Sp := fun vs H Q _ => ∃ (v : V) (d : PyData), vs = [v] ∧ Dt H v d ∧ d.depth ≤ n ∧ Few n d ∧ ∀ (v' : V) (H' : Hp), Dt H' v' d → Same H H' → Q v' H'
theorem Dt.type {K : PySem.W.Frag} {H : Hp} {v : V} {d : PyData} (h : Dt H v d) : ∃ T : String, TyX K H v (.type T) ∧ ((T = "tuple" ∧ ∃ ds, d = .tuple ds) ∨ (T ∈ ["NoneType", "int", "str"] ∧ ∀ ds, d ≠ .tuple ds)) := by
  cases h with
  | non => exact ⟨"NoneType", .base .non, .inr ⟨by simp, fun _ z => nomatch z⟩⟩
  | int i => exact ⟨"int", .base (.int i), .inr ⟨by simp, fun _ z => nomatch z⟩⟩
  | str z => exact ⟨"str", .base (.str z), .inr ⟨by simp, fun _ z => nomatch z⟩⟩
  | tup e a => exact ⟨"tuple", .base (.tup e), .inl ⟨rfl, _, rfl⟩⟩
section
variable {P : Program} {w : World} {K : PySem.W.Frag} {mg : Str → Option Value} {base : Heap}
theorem ok_number {f : Addr} {fd : FuncData} (F : Fun K "is_number" "is_number" sNumber f fd) (T : Txt mg) (zb : mg "bool" = none) : FnOk P w K mg base CX0 1 f fd ["thing"] spNumber := by
  refine F.ok scNu (fun vs H Q E h => ?_) (fun cdv A outer s H vs Q E hr h => ?_)
  · obtain ⟨i, rfl, _⟩ := h
    rfl
  · obtain ⟨i, rfl, h1, k⟩ := h
    refine ⟨_, pss_one (ps_ret (pe_and (pe_callB call_isi (by rfl) T.isinstance (by decide +kernel) (pa_cons (pv 0) (pa_cons (pe_bltn (v := V.ty "int") (by rfl) T.int (by decide +kernel) rfl) pa_nil)))
      (pe_and (pe_not (pe_callB call_isi (by rfl) T.isinstance (by decide +kernel) (pa_cons (pv 0) (pa_cons (pe_bltn (v := V.ty "bool") (by rfl) zb (by decide +kernel) rfl) pa_nil))))
      (pe_one (pe_cmpR op_ge (pv 0) pe_int (nomark _)))))), ?_⟩
    refine ⟨_, rfl, .int i, .ty "int", .type "int", .type "int", true, rfl, .ty _, .base (.int i), kit_ty (by decide +kernel), true, rfl, iteT ?_⟩
    refine ⟨_, rfl, .int i, .ty "bool", .type "int", .type "bool", false, rfl, .ty _, .base (.int i), kit_ty (by decide +kernel), false, rfl, true, rfl, iteT ?_⟩
    refine ⟨_, rfl, _, _, rfl, rfl, ?_⟩
    show Q (V.bl (decide (i ≥ 0))) H
    rw [decide_eq_true h1]
    exact k
def spBelow : Nat → Sp
  | 0 => fun _ _ _ _ => False
  | n + 1 => spCopied n
theorem kit_any {t a b : Value} {x y : Bool} (h1 : PySem.W.kitOne K t a = some x) (h2 : PySem.W.kitOne K t b = some y) : PySem.W.kitAny K t [a, b] = some (x || y) := by
  cases x <;> cases y <;> simp [PySem.W.kitAny, h1, h2]
theorem ok_copied {f : Addr} {fd : FuncData} (F : Fun K "copied" "copied" sCopied f fd) (T : Txt mg) (m : mg "copied" = some (.ref f)) (b : Binds K fd ["thing"] []) : ∀ n : Nat, FnOk P w K mg base CX0 (n + 1) f fd ["thing"] (spCopied n) := by
  have main : ∀ n : Nat, FnOk P w K mg base CX0 n f fd ["thing"] (spBelow n) → FnOk P w K mg base CX0 (n + 1) f fd ["thing"] (spCopied n) := by
    intro n G
    refine F.ok scCo (fun vs H Q E h => ?_) (fun cdv A outer s H vs Q E hr h => ?_)
    · obtain ⟨v, d, rfl, _⟩ := h
      rfl
    · obtain ⟨v, d, rfl, hd, hn, hfew, k⟩ := h
      refine ⟨_, pss_cons (ps_if (pt_val (pe_callB call_isi (by rfl) T.isinstance (by decide +kernel) (pa_cons (pv 0) (pa_cons (pe_bltn (v := V.ty "dict") (by rfl) T.dict (by decide +kernel) rfl) pa_nil)))) (pss_cons ps_never (pss_cons ps_never (pss_one ps_never))) pss_nil)
        (pss_cons (ps_if (pt_not (pt_val (pe_callB call_isiT (by rfl) T.isinstance (by decide +kernel) (pa_cons (pv 0) (pa_cons (pe_tup (pa_cons (pe_bltn (v := V.ty "list") (by rfl) T.list (by decide +kernel) rfl) (pa_cons (pe_bltn (v := V.ty "tuple") (by rfl) T.tuple (by decide +kernel) rfl) pa_nil))) pa_nil))))) (pss_one (ps_ret (pv 0))) pss_nil)
        (pss_cons (ps_set (i := 4) scCo.nd rfl (.inl rfl) (pe_lst pa_nil))
        (pss_cons (ps_for PassesOwn.never rfl (pi_tup (pv 0)) (pg_name (i := 3) scCo.nd rfl (Or.inl rfl))
          (pss_one (ps_expr (pe_bm PySem.F.plainAttrs_list PySem.F.slot_list_append PySem.F.type_list_append mt_append (pv 4) (pa_cons (pe_call G hr (by rfl) m F.kp b .nil pass0 (pa_cons (pv 3) pa_nil)) pa_nil)))))
        (pss_one (ps_ret (pe_ifExp (pt_val (pe_callB call_isi (by rfl) T.isinstance (by decide +kernel) (pa_cons (pv 0) (pa_cons (pe_bltn (v := V.ty "list") (by rfl) T.list (by decide +kernel) rfl) pa_nil)))) (pv 4)
          (pe_callTy call_tuple_of (by rfl) T.tuple (by decide +kernel) (pa_cons (pv 4) pa_nil)))))))), ?_⟩
      obtain ⟨Ty, hT, hTy⟩ := hd.type (K := K)
      have nodict : PySem.W.kitOne K (.type Ty) (.type "dict") = some false := by
        rcases hTy with ⟨rfl, _⟩ | ⟨h, _⟩
        · exact kit_ty (by decide +kernel)
        · simp only [List.mem_cons, List.not_mem_nil, or_false] at h
          rcases h with rfl | rfl | rfl <;> exact kit_ty (by decide +kernel)
      refine ⟨_, rfl, v, .ty "dict", .type Ty, .type "dict", false, rfl, .ty _, hT, nodict, false, rfl, iteF ?_⟩
      refine ⟨_, rfl, (by show 2 ≤ sizeLine; decide), fun tp htp => ?_⟩
      have s1 : Same H (upd H tp (.tup [.ty "list", .ty "tuple"])) := same_new (Same.refl _) htp
      have a1 : upd H tp (.tup [.ty "list", .ty "tuple"]) tp = some (.tup [.ty "list", .ty "tuple"]) := upd_same
      generalize upd H tp (.tup [.ty "list", .ty "tuple"]) = H1 at s1 a1 ⊢
      have hd1 := hd.mono (sameTups s1)
      obtain ⟨Ty, hT, hTy⟩ := hd1.type (K := K)
      rcases hTy with ⟨rfl, ds, rfl⟩ | ⟨h, hno⟩
      · refine ⟨v, tp, _, .type "tuple", [.type "list", .type "tuple"], true, rfl, a1, .cons (.ty _) (.cons (.ty _) .nil), hT, kit_any (x := false) (y := true) (kit_ty (by decide +kernel)) (kit_ty (by decide +kernel)), true, rfl, iteF ?_⟩
        obtain ⟨a, rfl⟩ := hd1.ref_of
        obtain ⟨xs, hX, hXD⟩ := hd1.tupI
        obtain ⟨m', rfl⟩ : ∃ m', n = m' + 1 := by
          cases n with
          | zero => simp [PyData.depth] at hn
          | succ m' => exact ⟨m', rfl⟩
        obtain ⟨hlen, hfe⟩ := hfew ds rfl
        have hdep : PyData.depthAll ds ≤ m' := by
          simp only [PyData.depth] at hn
          omega
        refine ⟨Nat.zero_le _, fun l hl => ?_⟩
        refine ⟨_, rfl, a, rfl, ⟨xs, SqT.of (by rw [upd_ne (ne_of_none hX hl)]; exact hX)⟩, for_tup (K := K) (a := a) (xs := xs) (fun i σ' H' => ∃ (pw : Option V) (ys : List V), σ' = [some (.ref a), none, none, pw, some (.ref l)] ∧ H' l = some (.lst ys) ∧ DtAll H' ys (ds.take i) ∧ Same H1 H') ?_ ?_ ?_ ?_⟩
        · exact ⟨none, [], rfl, upd_same, .nil, same_new (Same.refl _) hl⟩
        · rintro i σ' H' _ ⟨pw, ys, rfl, hL, hy, s⟩
          exact SqT.of (s _ _ hX)
        · rintro i x σ' H' hi ⟨pw, ys, rfl, hL, hy, s⟩
          obtain ⟨d, hdi, hdx⟩ := hXD.get i x hi
          have hdm := List.mem_of_getElem? hdi
          have hil : i < ds.length := (List.getElem?_eq_some_iff.mp hdi).1
          refine ⟨_, rfl, .inl ⟨rfl, _, SqL.of hL⟩, _, rfl, x, d, rfl, hdx.mono (sameTups s), Nat.le_trans (depthAll_mem hdm) hdep, hfe d hdm, fun v' H2 hv s2 => ?_⟩
          refine ⟨l, _, _, rfl, rfl, s2 _ _ hL, small1000 (by rw [hy.length, List.length_take]; omega), ?_⟩
          have tt : Tups H2 (upd H2 l (.lst (ys ++ [v']))) := (Tups.refl _).mut (s2 _ _ hL) (by intro _ z; cases z)
          refine ⟨_, _, rfl, upd_same, ?_, same_mut (s.trans s2) hl⟩
          rw [List.take_add_one, hdi]
          exact ((hy.mono (sameTups s2)).app (.cons hv .nil)).mono tt
        · rintro σ' H' ⟨pw, ys, rfl, hL, hy, s⟩
          rw [hXD.length, List.take_length] at hy
          refine ⟨_, rfl, .ref a, .ty "list", .type "tuple", .type "list", false, rfl, .ty _, .base (.tup (s _ _ hX)), kit_ty (by decide +kernel), false, rfl, iteF ?_⟩
          refine ⟨_, rfl, l, _, rfl, .inl ⟨SqL.of hL, fun t ht => ?_⟩⟩
          exact k _ _ (.tup upd_same (hy.mono ((Tups.refl _).new ht))) (same_new (s1.trans s) ht)
      · have none2 : PySem.W.kitAny K (.type Ty) [.type "list", .type "tuple"] = some false := by
          simp only [List.mem_cons, List.not_mem_nil, or_false] at h
          rcases h with rfl | rfl | rfl <;> exact kit_any (x := false) (y := false) (kit_ty (by decide +kernel)) (kit_ty (by decide +kernel))
        refine ⟨v, tp, _, .type Ty, [.type "list", .type "tuple"], false, rfl, a1, .cons (.ty _) (.cons (.ty _) .nil), hT, none2, false, rfl, iteT ?_⟩
        exact ⟨_, rfl, k v H1 hd1 s1⟩
  intro n
  induction n with
  | zero => exact main 0 ⟨fun vs H Q E h => h.elim, fun A outer s H args us vs Q E _ _ _ _ h => h.elim⟩
  | succ n ih => exact main (n + 1) ih
def spFixed (n : Nat) : Sp := fun vs H Q _ => ∃ (v : V) (d : PyData), vs = [v] ∧ Dt H v d ∧ d.depth ≤ n ∧ Few n d ∧ ∀ (H' : Hp), Same H H' → Q (.bl true) H'
def spFixBelow : Nat → Sp
  | 0 => fun _ _ _ _ => False
  | n + 1 => spFixed n
theorem ok_fixed {f : Addr} {fd : FuncData} (F : Fun K "is_fixed" "is_fixed" sFixed f fd) (T : Txt mg) (za : mg "all" = none) (m : mg "is_fixed" = some (.ref f)) (b : Binds K fd ["thing"] []) : ∀ n : Nat, FnOk P w K mg base CX0 (n + 1) f fd ["thing"] (spFixed n) := by
  have main : ∀ n : Nat, FnOk P w K mg base CX0 n f fd ["thing"] (spFixBelow n) → FnOk P w K mg base CX0 (n + 1) f fd ["thing"] (spFixed n) := by
    intro n G
    refine F.ok scFi (fun vs H Q E h => ?_) (fun cdv A outer s H vs Q E hr h => ?_)
    · obtain ⟨v, d, rfl, _⟩ := h
      rfl
    · obtain ⟨v, d, rfl, hd, hn, hfew, k⟩ := h
      refine ⟨_, pss_cons (ps_if (pt_val (pe_callB call_isi (by rfl) T.isinstance (by decide +kernel) (pa_cons (pv 0) (pa_cons (pe_bltn (v := V.ty "tuple") (by rfl) T.tuple (by decide +kernel) rfl) pa_nil))))
          (pss_one (ps_ret (pe_callB (cr_all rfl) (by rfl) za (by decide +kernel) (pa_cons (pe_lc (own := [("part", 1)]) (g := gName 1) (tt := tYes) rfl scFi.nd (pi_tup (pv 0))
            (blkOk_by (N := ["thing", "part"]) (sc := defScope sFixed) (by decide +kernel)) (fun _ _ _ _ _ => pg_name (i := 1) scFi.nd rfl (Or.inl rfl)) (fun _ _ _ _ _ => pts_nil)
            (fun _ _ _ _ _ => pe_call G hr (by rfl) m F.kp b .nil pass0 (pa_cons (pv 1) pa_nil))) pa_nil)))) pss_nil)
        (pss_one (ps_ret (pe_not (pe_callB call_isiT (by rfl) T.isinstance (by decide +kernel) (pa_cons (pv 0) (pa_cons (pe_tup (pa_cons (pe_bltn (v := V.ty "list") (by rfl) T.list (by decide +kernel) rfl) (pa_cons (pe_bltn (v := V.ty "dict") (by rfl) T.dict (by decide +kernel) rfl) pa_nil))) pa_nil)))))), ?_⟩
      obtain ⟨Ty, hT, hTy⟩ := hd.type (K := K)
      rcases hTy with ⟨rfl, ds, rfl⟩ | ⟨h, hno⟩
      · refine ⟨_, rfl, v, .ty "tuple", .type "tuple", .type "tuple", true, rfl, .ty _, hT, kit_ty (by decide +kernel), true, rfl, iteT ?_⟩
        obtain ⟨a, rfl⟩ := hd.ref_of
        obtain ⟨xs, hX, hXD⟩ := hd.tupI
        obtain ⟨m', rfl⟩ : ∃ m', n = m' + 1 := by
          cases n with
          | zero => simp [PyData.depth] at hn
          | succ m' => exact ⟨m', rfl⟩
        obtain ⟨hlen, hfe⟩ := hfew ds rfl
        have hdep : PyData.depthAll ds ≤ m' := by
          simp only [PyData.depth] at hn
          omega
        refine ⟨_, rfl, a, rfl, ⟨xs, SqT.of hX⟩, fun D hD => ?_⟩
        refine lc_tup (K := K) (a := a) (xs := xs) (fun i H' => ∃ n : Nat, n = i ∧ H' D = some (.lst ((List.replicate n true).map V.bl)) ∧ Same H H') ?_ ?_ ?_ ?_
        · exact ⟨0, rfl, upd_same, same_new (Same.refl _) hD⟩
        · rintro i H' _ ⟨n, rfl, hDl, s⟩
          exact SqT.of (s _ _ hX)
        · rintro i x H' hi ⟨n, rfl, hDl, s⟩
          obtain ⟨d, hdi, hdx⟩ := hXD.get n x hi
          have hdm := List.mem_of_getElem? hdi
          have hil : n < ds.length := (List.getElem?_eq_some_iff.mp hdi).1
          refine ⟨rfl, _, rfl, x, d, rfl, hdx.mono (sameTups s), Nat.le_trans (depthAll_mem hdm) hdep, hfe d hdm, fun H2 s2 => ⟨_, s2 _ _ hDl, ?_, n + 1, rfl, ?_, same_mut (s.trans s2) hD⟩⟩
          · rw [List.length_map, List.length_replicate]
            exact small1000 (by omega)
          · rw [upd_same, List.replicate_succ', List.map_append]
            rfl
        · rintro H' ⟨n, rfl, hDl, s⟩
          refine ⟨D, _, rfl, SqL.of hDl, ?_⟩
          have e : (List.replicate xs.length true).all id = true := by simp
          rw [e]
          exact k H' s
      · have notup : PySem.W.kitOne K (.type Ty) (.type "tuple") = some false := by
          simp only [List.mem_cons, List.not_mem_nil, or_false] at h
          rcases h with rfl | rfl | rfl <;> exact kit_ty (by decide +kernel)
        have none2 : PySem.W.kitAny K (.type Ty) [.type "list", .type "dict"] = some false := by
          simp only [List.mem_cons, List.not_mem_nil, or_false] at h
          rcases h with rfl | rfl | rfl <;> exact kit_any (x := false) (y := false) (kit_ty (by decide +kernel)) (kit_ty (by decide +kernel))
        refine ⟨_, rfl, v, .ty "tuple", .type Ty, .type "tuple", false, rfl, .ty _, hT, notup, false, rfl, iteF ?_⟩
        refine ⟨_, rfl, (by show 2 ≤ sizeLine; decide), fun tp htp => ?_⟩
        have s1 : Same H (upd H tp (.tup [.ty "list", .ty "dict"])) := same_new (Same.refl _) htp
        have a1 : upd H tp (.tup [.ty "list", .ty "dict"]) tp = some (.tup [.ty "list", .ty "dict"]) := upd_same
        generalize upd H tp (.tup [.ty "list", .ty "dict"]) = H1 at s1 a1 ⊢
        obtain ⟨Ty', hT', hTy'⟩ := (hd.mono (sameTups s1)).type (K := K)
        have none3 : PySem.W.kitAny K (.type Ty') [.type "list", .type "dict"] = some false := by
          rcases hTy' with ⟨rfl, ds, e⟩ | ⟨h', _⟩
          · exact absurd e (hno ds)
          · simp only [List.mem_cons, List.not_mem_nil, or_false] at h'
            rcases h' with rfl | rfl | rfl <;> exact kit_any (x := false) (y := false) (kit_ty (by decide +kernel)) (kit_ty (by decide +kernel))
        refine ⟨v, tp, _, .type Ty', [.type "list", .type "dict"], false, rfl, a1, .cons (.ty _) (.cons (.ty _) .nil), hT', none3, false, rfl, k H1 s1⟩
  intro n
  induction n with
  | zero => exact main 0 ⟨fun vs H Q E h => h.elim, fun A outer s H args us vs Q E _ _ _ _ h => h.elim⟩
  | succ n ih => exact main (n + 1) ih
end
end K3
namespace K3
open PySem PySem.Spec PyProof.Rows L2 GG
/-! ### what stands away from an address; copied, of data with lists and dicts -/
section
variable {M : Addr → Prop} {H : Hp}
mutual
theorem Dx.det : ∀ {d d' : PyData} {v : V}, Dx M H v d → Dx M H v d' → d = d'
  | _, _, _, .non, h => by cases h; rfl
  | _, _, _, .bl b, h => by cases h; rfl
  | _, _, _, .int i, h => by cases h; rfl
  | _, _, _, .str z, h => by cases h; rfl
  | _, _, _, .lst n e a, h => by
    cases h with
    | lst n' e' a' =>
      rw [e] at e'
      cases e'
      rw [DxAll.det a a']
    | tup n' e' a' =>
      rw [e] at e'
      cases e'
    | dic n' e' a' =>
      rw [e] at e'
      cases e'
  | _, _, _, .tup n e a, h => by
    cases h with
    | lst n' e' a' =>
      rw [e] at e'
      cases e'
    | tup n' e' a' =>
      rw [e] at e'
      cases e'
      rw [DxAll.det a a']
    | dic n' e' a' =>
      rw [e] at e'
      cases e'
  | _, _, _, .dic n e a, h => by
    cases h with
    | lst n' e' a' =>
      rw [e] at e'
      cases e'
    | tup n' e' a' =>
      rw [e] at e'
      cases e'
    | dic n' e' a' =>
      rw [e] at e'
      cases e'
      rw [DxKv.det a a']
theorem DxAll.det : ∀ {ds ds' : List PyData} {vs : List V}, DxAll M H vs ds → DxAll M H vs ds' → ds = ds'
  | _, _, _, .nil, h => by cases h; rfl
  | _, _, _, .cons h1 h2, h => by
    cases h with
    | cons h1' h2' => rw [Dx.det h1 h1', DxAll.det h2 h2']
theorem DxKv.det : ∀ {es es' : List (PyData × PyData)} {kvs : List (Key × V)}, DxKv M H kvs es → DxKv M H kvs es' → es = es'
  | _, _, _, .nil, h => by cases h; rfl
  | _, _, _, .cons h1 h2, h => by
    cases h with
    | cons h1' h2' => rw [Dx.det h1 h1', DxKv.det h2 h2']
end
variable {a : Addr} {n : Nat}
mutual
/-- what is not so deep as the data at a don't stand at a -/
theorem Dx.away (w : ∀ d', Dx M H (.ref a) d' → n < d'.depth) : ∀ {d : PyData} {v : V}, Dx M H v d → d.depth ≤ n → Dx (fun b => M b ∨ b = a) H v d
  | _, _, .non, _ => .non
  | _, _, .bl b, _ => .bl b
  | _, _, .int i, _ => .int i
  | _, _, .str z, _ => .str z
  | _, _, .lst (a := b) nm e h, q => .lst (fun z => z.elim nm fun r => by
      subst r
      have := w _ (.lst nm e h)
      omega) e (DxAll.away w h (by simp only [PyData.depth] at q; omega))
  | _, _, .tup (a := b) nm e h, q => .tup (fun z => z.elim nm fun r => by
      subst r
      have := w _ (.tup nm e h)
      omega) e (DxAll.away w h (by simp only [PyData.depth] at q; omega))
  | _, _, .dic (a := b) nm e h, q => .dic (fun z => z.elim nm fun r => by
      subst r
      have := w _ (.dic nm e h)
      omega) e (DxKv.away w h (by simp only [PyData.depth] at q; omega))
theorem DxAll.away (w : ∀ d', Dx M H (.ref a) d' → n < d'.depth) : ∀ {ds : List PyData} {vs : List V}, DxAll M H vs ds → PyData.depthAll ds ≤ n → DxAll (fun b => M b ∨ b = a) H vs ds
  | _, _, .nil, _ => .nil
  | _, _, .cons h1 h2, q => .cons (Dx.away w h1 (by simp only [PyData.depthAll] at q; omega)) (DxAll.away w h2 (by simp only [PyData.depthAll] at q; omega))
theorem DxKv.away (w : ∀ d', Dx M H (.ref a) d' → n < d'.depth) : ∀ {es : List (PyData × PyData)} {kvs : List (Key × V)}, DxKv M H kvs es → PyData.depthKv es ≤ n → DxKv (fun b => M b ∨ b = a) H kvs es
  | _, _, .nil, _ => .nil
  | _, _, .cons h1 h2, q => .cons (Dx.away w h1 (by simp only [PyData.depthKv] at q; omega)) (DxKv.away w h2 (by simp only [PyData.depthKv] at q; omega))
end
end
section
variable {M N : Addr → Prop} {H : Hp}
mutual
theorem Dx.weak (w : ∀ b, N b → M b) : ∀ {d : PyData} {v : V}, Dx M H v d → Dx N H v d
  | _, _, .non => .non
  | _, _, .bl b => .bl b
  | _, _, .int i => .int i
  | _, _, .str z => .str z
  | _, _, .lst n e h => .lst (fun z => n (w _ z)) e (DxAll.weak w h)
  | _, _, .tup n e h => .tup (fun z => n (w _ z)) e (DxAll.weak w h)
  | _, _, .dic n e h => .dic (fun z => n (w _ z)) e (DxKv.weak w h)
theorem DxAll.weak (w : ∀ b, N b → M b) : ∀ {ds : List PyData} {vs : List V}, DxAll M H vs ds → DxAll N H vs ds
  | _, _, .nil => .nil
  | _, _, .cons h1 h2 => .cons (Dx.weak w h1) (DxAll.weak w h2)
theorem DxKv.weak (w : ∀ b, N b → M b) : ∀ {es : List (PyData × PyData)} {kvs : List (Key × V)}, DxKv M H kvs es → DxKv N H kvs es
  | _, _, .nil => .nil
  | _, _, .cons h1 h2 => .cons (Dx.weak w h1) (DxKv.weak w h2)
end
theorem DxKv.keys : ∀ {es : List (PyData × PyData)} {kvs : List (Key × V)}, DxKv M H kvs es → es.map (·.1) = kvs.map fun q => keyD q.1
  | _, _, .nil => rfl
  | _, _, .cons _ h2 => by rw [List.map_cons, List.map_cons, DxKv.keys h2]
theorem DxKv.length : ∀ {es : List (PyData × PyData)} {kvs : List (Key × V)}, DxKv M H kvs es → kvs.length = es.length
  | _, _, .nil => rfl
  | _, _, .cons _ h2 => by rw [List.length_cons, List.length_cons, DxKv.length h2]
theorem DxKv.app : ∀ {es fs : List (PyData × PyData)} {kvs lvs : List (Key × V)}, DxKv M H kvs es → DxKv M H lvs fs → DxKv M H (kvs ++ lvs) (es ++ fs)
  | _, _, _, _, .nil, b => b
  | _, _, _, _, .cons h a, b => .cons h (DxKv.app a b)
theorem DxKv.get : ∀ {es : List (PyData × PyData)} {kvs : List (Key × V)}, DxKv M H kvs es → ∀ (i : Nat) (k : Key) (v : V), kvs[i]? = some (k, v) → ∃ d, es[i]? = some (keyD k, d) ∧ Dx M H v d
  | _, _, .nil, i, k, v, e => by simp at e
  | _, _, .cons h a, 0, k, v, e => by
    cases e
    exact ⟨_, rfl, h⟩
  | _, _, .cons h a, i + 1, k, v, e => DxKv.get a i k v e
end
theorem put_new {kvs : List (Key × V)} {k : Key} {v : V} (h : k ∉ kvs.map (·.1)) : putK kvs k v = kvs ++ [(k, v)] := by
  unfold putK
  rw [if_neg]
  intro z
  obtain ⟨q, hq, e⟩ := List.any_eq_true.mp z
  exact h (List.mem_map.mpr ⟨q, hq, of_decide_eq_true e⟩)
section
variable {M : Addr → Prop} {H : Hp} {l : Addr}
mutual
/-- where nothing stands, no data do -/
theorem Dx.apart (h : H l = none) : ∀ {d : PyData} {v : V}, Dx M H v d → Dx (fun b => M b ∨ b = l) H v d
  | _, _, .non => .non
  | _, _, .bl b => .bl b
  | _, _, .int i => .int i
  | _, _, .str z => .str z
  | _, _, .lst nm e q => .lst (fun z => z.elim nm fun r => by rw [r, h] at e; cases e) e (DxAll.apart h q)
  | _, _, .tup nm e q => .tup (fun z => z.elim nm fun r => by rw [r, h] at e; cases e) e (DxAll.apart h q)
  | _, _, .dic nm e q => .dic (fun z => z.elim nm fun r => by rw [r, h] at e; cases e) e (DxKv.apart h q)
theorem DxAll.apart (h : H l = none) : ∀ {ds : List PyData} {vs : List V}, DxAll M H vs ds → DxAll (fun b => M b ∨ b = l) H vs ds
  | _, _, .nil => .nil
  | _, _, .cons h1 h2 => .cons (Dx.apart h h1) (DxAll.apart h h2)
theorem DxKv.apart (h : H l = none) : ∀ {es : List (PyData × PyData)} {kvs : List (Key × V)}, DxKv M H kvs es → DxKv (fun b => M b ∨ b = l) H kvs es
  | _, _, .nil => .nil
  | _, _, .cons h1 h2 => .cons (Dx.apart h h1) (DxKv.apart h h2)
end
end
theorem not_in_take {α : Type} : ∀ {l : List α} {i : Nat} {x : α}, l.Nodup → l[i]? = some x → x ∉ l.take i
  | [], i, x, _, h => by simp at h
  | a :: l, 0, x, _, _ => by simp
  | a :: l, i + 1, x, n, h => by
    rw [List.take_succ_cons]
    intro z
    have h' : l[i]? = some x := by simpa using h
    rcases List.mem_cons.mp z with z | z
    · subst z
      exact (List.nodup_cons.mp n).1 (List.mem_of_getElem? h')
    · exact not_in_take (List.nodup_cons.mp n).2 h' z
/-- how many there are at each place -/
def FewX : Nat → PyData → Prop
  | 0, _ => True
  | n + 1, d => (∀ ds, d = .list ds ∨ d = .tuple ds → ds.length ≤ 1000 ∧ ∀ e ∈ ds, FewX n e) ∧ ∀ es, d = .dict es → es.length ≤ 1000 ∧ (es.map (·.1)).Nodup ∧ ∀ e ∈ es, FewX n e.2
def spCopiedX (M : Addr → Prop) (n : Nat) : Sp := fun vs H Q _ => ∃ (v : V) (d : PyData), vs = [v] ∧ Dx M H v d ∧ d.depth ≤ n ∧ FewX n d ∧ (∀ b, M b → H b ≠ none) ∧ ∀ (v' : V) (H' : Hp), Dx M H' v' d → Same H H' → Q v' H'
/-- for all M at once -/
def spCopiedA (n : Nat) : Sp := fun vs H Q E => ∃ M, spCopiedX M n vs H Q E
def spBelowA : Nat → Sp
  | 0 => fun _ _ _ _ => False
  | n + 1 => spCopiedA n
theorem depthKv_mem : ∀ {es : List (PyData × PyData)} {e : PyData × PyData}, e ∈ es → e.2.depth ≤ PyData.depthKv es
  | a :: r, d, h => by
    simp only [PyData.depthKv]
    rcases List.mem_cons.mp h with rfl | h
    · omega
    · have := depthKv_mem h
      omega
section
variable {P : Program} {w : World} {K : PySem.W.Frag} {mg : Str → Option Value} {base : Heap}
theorem kit_not {T U : String} (h : kitB T U = some false) : PySem.W.kitOne K (.type T) (.type U) = some false := kit_ty h
theorem ok_copiedX {f : Addr} {fd : FuncData} (F : Fun K "copied" "copied" sCopied f fd) (T : Txt mg) (m : mg "copied" = some (.ref f)) (b : Binds K fd ["thing"] []) : ∀ n : Nat, FnOk P w K mg base CX0 (n + 1) f fd ["thing"] (spCopiedA n) := by
  have main : ∀ n : Nat, FnOk P w K mg base CX0 n f fd ["thing"] (spBelowA n) → FnOk P w K mg base CX0 (n + 1) f fd ["thing"] (spCopiedA n) := by
    intro n G
    refine F.ok scCo (fun vs H Q E h => ?_) (fun cdv A outer s H vs Q E hr h => ?_)
    · obtain ⟨M, v, d, rfl, _⟩ := h
      rfl
    · obtain ⟨M, v, d, rfl, hd, hn, hfew, hM, k⟩ := h
      have nd := scCo.nd
      have hu := hu_of hr
      have flat : ∀ {Ty : String}, TyX K H v (.type Ty) → Ty ∈ ["NoneType", "bool", "int", "str"] → ∃ t, PSs (cxOf CX0 P w K mg base ["thing", "rows", "key", "part", "parts"] "copied" (defScope sCopied) f cdv A outer s H E).nox (defBody sCopied) t ∧ t { nx := fun _ H' => Q .non H', rt := Q } (start ["thing", "rows", "key", "part", "parts"] [v]) H := by
        intro Ty hT hm
        refine ⟨_, pss_cons (ps_if (pt_val (pe_callB call_isi (by rfl) T.isinstance (by decide +kernel) (pa_cons (pv 0) (pa_cons (pe_bltn (v := V.ty "dict") (by rfl) T.dict (by decide +kernel) rfl) pa_nil)))) (pss_cons ps_never (pss_cons ps_never (pss_one ps_never))) pss_nil)
          (pss_cons (ps_if (pt_not (pt_val (pe_callB call_isiT (by rfl) T.isinstance (by decide +kernel) (pa_cons (pv 0) (pa_cons (pe_tup (pa_cons (pe_bltn (v := V.ty "list") (by rfl) T.list (by decide +kernel) rfl) (pa_cons (pe_bltn (v := V.ty "tuple") (by rfl) T.tuple (by decide +kernel) rfl) pa_nil))) pa_nil))))) (pss_one (ps_ret (pv 0))) pss_nil)
          (pss_cons ps_never (pss_cons ps_never (pss_one ps_never)))), ?_⟩
        have q1 : kitB Ty "dict" = some false ∧ kitB Ty "list" = some false ∧ kitB Ty "tuple" = some false := by
          simp only [List.mem_cons, List.not_mem_nil, or_false] at hm
          rcases hm with rfl | rfl | rfl | rfl <;> decide +kernel
        refine ⟨_, rfl, v, .ty "dict", .type Ty, .type "dict", false, rfl, .ty _, hT, kit_ty q1.1, false, rfl, iteF ?_⟩
        refine ⟨_, rfl, (by show 2 ≤ sizeLine; decide), fun tp htp => ?_⟩
        have s1 : Same H (upd H tp (.tup [.ty "list", .ty "tuple"])) := same_new (Same.refl _) htp
        have a1 : upd H tp (.tup [.ty "list", .ty "tuple"]) tp = some (.tup [.ty "list", .ty "tuple"]) := upd_same
        generalize upd H tp (.tup [.ty "list", .ty "tuple"]) = H1 at s1 a1 ⊢
        have hd1 := hd.mono (sameBut s1 _)
        have hT1 : TyX K H1 v (.type Ty) := by
          cases hT with
          | base b =>
            cases b with
            | non => exact .base .non
            | bl x => exact .base (.bl x)
            | int x => exact .base (.int x)
            | str x => exact .base (.str x)
            | lst e => simp at hm
            | frz e => simp at hm
            | tup e => simp at hm
            | dK e => simp at hm
            | dT e => simp at hm
            | flt x => simp at hm
          | byt x => simp at hm
          | set e => simp at hm
          | kList e c => simp at hm
          | kTuple e c => simp at hm
          | kDict e c => simp at hm
          | fTuple e => simp at hm
          | fDict e => simp at hm
        refine ⟨v, tp, _, .type Ty, [.type "list", .type "tuple"], false, rfl, a1, .cons (.ty _) (.cons (.ty _) .nil), hT1, kit_any (x := false) (y := false) (kit_ty q1.2.1) (kit_ty q1.2.2), false, rfl, iteT ?_⟩
        exact ⟨_, rfl, k v H1 hd1 s1⟩
      cases hd with
      | non => exact flat (.base .non) (by decide)
      | bl x => exact flat (.base (.bl x)) (by decide)
      | int x => exact flat (.base (.int x)) (by decide)
      | str x => exact flat (.base (.str x)) (by decide)
      | @lst a xs ds nM e hA =>
        clear flat
        refine ⟨_, pss_cons (ps_if (pt_val (pe_callB call_isi (by rfl) T.isinstance (by decide +kernel) (pa_cons (pv 0) (pa_cons (pe_bltn (v := V.ty "dict") (by rfl) T.dict (by decide +kernel) rfl) pa_nil)))) (pss_cons ps_never (pss_cons ps_never (pss_one ps_never))) pss_nil)
          (pss_cons (ps_if (pt_not (pt_val (pe_callB call_isiT (by rfl) T.isinstance (by decide +kernel) (pa_cons (pv 0) (pa_cons (pe_tup (pa_cons (pe_bltn (v := V.ty "list") (by rfl) T.list (by decide +kernel) rfl) (pa_cons (pe_bltn (v := V.ty "tuple") (by rfl) T.tuple (by decide +kernel) rfl) pa_nil))) pa_nil))))) (pss_one (ps_ret (pv 0))) pss_nil)
        (pss_cons (ps_set (i := 4) nd rfl (.inl rfl) (pe_lst pa_nil))
        (pss_cons (ps_for PassesOwn.never rfl (pi_list (pv 0)) (pg_name (i := 3) nd rfl (Or.inl rfl))
          (pss_one (ps_expr (pe_bm PySem.F.plainAttrs_list PySem.F.slot_list_append PySem.F.type_list_append mt_append (pv 4) (pa_cons (pe_call G hr (by rfl) m F.kp b .nil pass0 (pa_cons (pv 3) pa_nil)) pa_nil)))))
        (pss_one (ps_ret (pe_ifExp (pt_val (pe_callB call_isi (by rfl) T.isinstance (by decide +kernel) (pa_cons (pv 0) (pa_cons (pe_bltn (v := V.ty "list") (by rfl) T.list (by decide +kernel) rfl) pa_nil)))) (pv 4)
          (pe_callTy call_tuple_of (by rfl) T.tuple (by decide +kernel) (pa_cons (pv 4) pa_nil)))))))), ?_⟩
        have hT := TyX.base (K := K) (TyOf.lst e)
        refine ⟨_, rfl, .ref a, .ty "dict", .type "list", .type "dict", false, rfl, .ty _, hT, kit_ty (by decide +kernel), false, rfl, iteF ?_⟩
        refine ⟨_, rfl, (by show 2 ≤ sizeLine; decide), fun tp htp => ?_⟩
        have s1 : Same H (upd H tp (.tup [.ty "list", .ty "tuple"])) := same_new (Same.refl _) htp
        have a1 : upd H tp (.tup [.ty "list", .ty "tuple"]) tp = some (.tup [.ty "list", .ty "tuple"]) := upd_same
        generalize upd H tp (.tup [.ty "list", .ty "tuple"]) = H1 at s1 a1 ⊢
        have e1 := s1 _ _ e
        have hA1 := hA.mono (sameBut s1 _)
        have hM1 : ∀ b, M b → H1 b ≠ none := fun b mb z => hM b mb (s1.free z)
        refine ⟨.ref a, tp, _, .type "list", [.type "list", .type "tuple"], true, rfl, a1, .cons (.ty _) (.cons (.ty _) .nil), .base (.lst e1), kit_any (x := true) (y := false) (kit_ty (by decide +kernel)) (kit_ty (by decide +kernel)), true, rfl, iteF ?_⟩
        obtain ⟨n, rfl⟩ : ∃ n', n = n' + 1 := by
          cases n with
          | zero => simp [PyData.depth] at hn
          | succ n' => exact ⟨n', rfl⟩
        obtain ⟨hlen, hfe⟩ := hfew.1 ds (.inl rfl)
        have hdep : PyData.depthAll ds ≤ n := by
          simp only [PyData.depth] at hn
          omega
        refine ⟨Nat.zero_le _, fun l hl => ?_⟩
        have nMl : ¬ M l := fun z => hM1 l z hl
        refine ⟨_, rfl, a, rfl, ⟨xs, SqL.of (by rw [upd_ne (ne_of_none e1 hl)]; exact e1)⟩, for_list (K := K) (a := a) (xs := xs) (fun i σ' H' => ∃ (pw : Option V) (ys : List V), σ' = [some (.ref a), none, none, pw, some (.ref l)] ∧ H' l = some (.lst ys) ∧ DxAll (fun b => M b ∨ b = l) H' ys (ds.take i) ∧ Same H1 H') ?_ ?_ ?_ ?_⟩
        · exact ⟨none, [], rfl, upd_same, .nil, same_new (Same.refl _) hl⟩
        · rintro i σ' H' _ ⟨pw, ys, rfl, hL, hy, s⟩
          exact SqL.of (s _ _ e1)
        · rintro i x σ' H' hi ⟨pw, ys, rfl, hL, hy, s⟩
          obtain ⟨d, hdi, hdx⟩ := hA1.get i x hi
          have hdm := List.mem_of_getElem? hdi
          have hil : i < ds.length := (List.getElem?_eq_some_iff.mp hdi).1
          have hdl : Dx (fun b => M b ∨ b = l) H1 x d := hdx.apart hl
          refine ⟨_, rfl, .inl ⟨rfl, _, SqL.of hL⟩, _, rfl, _, x, d, rfl, hdl.mono (sameBut s _), Nat.le_trans (depthAll_mem hdm) hdep, hfe d hdm, fun b z q => z.elim (fun z => hM1 b z (s.free q)) (fun z => by rw [z, hL] at q; cases q), fun v' H2 hv s2 => ?_⟩
          refine ⟨l, _, _, rfl, rfl, s2 _ _ hL, small1000 (by rw [hy.length, List.length_take]; omega), ?_⟩
          have tt : But (fun b => M b ∨ b = l) H2 (upd H2 l (.lst (ys ++ [v']))) := (But.refl _ _).mut (.inr rfl)
          refine ⟨_, _, rfl, upd_same, ?_, same_mut (s.trans s2) hl⟩
          rw [List.take_add_one, hdi]
          exact ((hy.mono (sameBut s2 _)).app (.cons hv .nil)).mono tt
        · rintro σ' H' ⟨pw, ys, rfl, hL, hy, s⟩
          rw [hA1.length, List.take_length] at hy
          have hyM := hy.weak (N := M) fun b z => .inl z
          refine ⟨_, rfl, .ref a, .ty "list", .type "list", .type "list", true, rfl, .ty _, .base (.lst (s _ _ e1)), kit_ty (by decide +kernel), true, rfl, iteT ?_⟩
          exact ⟨_, rfl, k _ _ (.lst nMl hL hyM) (s1.trans s)⟩
      | @tup a xs ds nM e hA =>
        clear flat
        refine ⟨_, pss_cons (ps_if (pt_val (pe_callB call_isi (by rfl) T.isinstance (by decide +kernel) (pa_cons (pv 0) (pa_cons (pe_bltn (v := V.ty "dict") (by rfl) T.dict (by decide +kernel) rfl) pa_nil)))) (pss_cons ps_never (pss_cons ps_never (pss_one ps_never))) pss_nil)
          (pss_cons (ps_if (pt_not (pt_val (pe_callB call_isiT (by rfl) T.isinstance (by decide +kernel) (pa_cons (pv 0) (pa_cons (pe_tup (pa_cons (pe_bltn (v := V.ty "list") (by rfl) T.list (by decide +kernel) rfl) (pa_cons (pe_bltn (v := V.ty "tuple") (by rfl) T.tuple (by decide +kernel) rfl) pa_nil))) pa_nil))))) (pss_one (ps_ret (pv 0))) pss_nil)
        (pss_cons (ps_set (i := 4) nd rfl (.inl rfl) (pe_lst pa_nil))
        (pss_cons (ps_for PassesOwn.never rfl (pi_tup (pv 0)) (pg_name (i := 3) nd rfl (Or.inl rfl))
          (pss_one (ps_expr (pe_bm PySem.F.plainAttrs_list PySem.F.slot_list_append PySem.F.type_list_append mt_append (pv 4) (pa_cons (pe_call G hr (by rfl) m F.kp b .nil pass0 (pa_cons (pv 3) pa_nil)) pa_nil)))))
        (pss_one (ps_ret (pe_ifExp (pt_val (pe_callB call_isi (by rfl) T.isinstance (by decide +kernel) (pa_cons (pv 0) (pa_cons (pe_bltn (v := V.ty "list") (by rfl) T.list (by decide +kernel) rfl) pa_nil)))) (pv 4)
          (pe_callTy call_tuple_of (by rfl) T.tuple (by decide +kernel) (pa_cons (pv 4) pa_nil)))))))), ?_⟩
        have hT := TyX.base (K := K) (TyOf.tup e)
        refine ⟨_, rfl, .ref a, .ty "dict", .type "tuple", .type "dict", false, rfl, .ty _, hT, kit_ty (by decide +kernel), false, rfl, iteF ?_⟩
        refine ⟨_, rfl, (by show 2 ≤ sizeLine; decide), fun tp htp => ?_⟩
        have s1 : Same H (upd H tp (.tup [.ty "list", .ty "tuple"])) := same_new (Same.refl _) htp
        have a1 : upd H tp (.tup [.ty "list", .ty "tuple"]) tp = some (.tup [.ty "list", .ty "tuple"]) := upd_same
        generalize upd H tp (.tup [.ty "list", .ty "tuple"]) = H1 at s1 a1 ⊢
        have e1 := s1 _ _ e
        have hA1 := hA.mono (sameBut s1 _)
        have hM1 : ∀ b, M b → H1 b ≠ none := fun b mb z => hM b mb (s1.free z)
        refine ⟨.ref a, tp, _, .type "tuple", [.type "list", .type "tuple"], true, rfl, a1, .cons (.ty _) (.cons (.ty _) .nil), .base (.tup e1), kit_any (x := false) (y := true) (kit_ty (by decide +kernel)) (kit_ty (by decide +kernel)), true, rfl, iteF ?_⟩
        obtain ⟨n, rfl⟩ : ∃ n', n = n' + 1 := by
          cases n with
          | zero => simp [PyData.depth] at hn
          | succ n' => exact ⟨n', rfl⟩
        obtain ⟨hlen, hfe⟩ := hfew.1 ds (.inr rfl)
        have hdep : PyData.depthAll ds ≤ n := by
          simp only [PyData.depth] at hn
          omega
        refine ⟨Nat.zero_le _, fun l hl => ?_⟩
        have nMl : ¬ M l := fun z => hM1 l z hl
        refine ⟨_, rfl, a, rfl, ⟨xs, SqT.of (by rw [upd_ne (ne_of_none e1 hl)]; exact e1)⟩, for_tup (K := K) (a := a) (xs := xs) (fun i σ' H' => ∃ (pw : Option V) (ys : List V), σ' = [some (.ref a), none, none, pw, some (.ref l)] ∧ H' l = some (.lst ys) ∧ DxAll (fun b => M b ∨ b = l) H' ys (ds.take i) ∧ Same H1 H') ?_ ?_ ?_ ?_⟩
        · exact ⟨none, [], rfl, upd_same, .nil, same_new (Same.refl _) hl⟩
        · rintro i σ' H' _ ⟨pw, ys, rfl, hL, hy, s⟩
          exact SqT.of (s _ _ e1)
        · rintro i x σ' H' hi ⟨pw, ys, rfl, hL, hy, s⟩
          obtain ⟨d, hdi, hdx⟩ := hA1.get i x hi
          have hdm := List.mem_of_getElem? hdi
          have hil : i < ds.length := (List.getElem?_eq_some_iff.mp hdi).1
          have hdl : Dx (fun b => M b ∨ b = l) H1 x d := hdx.apart hl
          refine ⟨_, rfl, .inl ⟨rfl, _, SqL.of hL⟩, _, rfl, _, x, d, rfl, hdl.mono (sameBut s _), Nat.le_trans (depthAll_mem hdm) hdep, hfe d hdm, fun b z q => z.elim (fun z => hM1 b z (s.free q)) (fun z => by rw [z, hL] at q; cases q), fun v' H2 hv s2 => ?_⟩
          refine ⟨l, _, _, rfl, rfl, s2 _ _ hL, small1000 (by rw [hy.length, List.length_take]; omega), ?_⟩
          have tt : But (fun b => M b ∨ b = l) H2 (upd H2 l (.lst (ys ++ [v']))) := (But.refl _ _).mut (.inr rfl)
          refine ⟨_, _, rfl, upd_same, ?_, same_mut (s.trans s2) hl⟩
          rw [List.take_add_one, hdi]
          exact ((hy.mono (sameBut s2 _)).app (.cons hv .nil)).mono tt
        · rintro σ' H' ⟨pw, ys, rfl, hL, hy, s⟩
          rw [hA1.length, List.take_length] at hy
          have hyM := hy.weak (N := M) fun b z => .inl z
          refine ⟨_, rfl, .ref a, .ty "list", .type "tuple", .type "list", false, rfl, .ty _, .base (.tup (s _ _ e1)), kit_ty (by decide +kernel), false, rfl, iteF ?_⟩
          refine ⟨_, rfl, l, _, rfl, .inl ⟨SqL.of hL, fun t ht => ?_⟩⟩
          exact k _ _ (.tup (fun z => hM1 t z (s.free ht)) upd_same (hyM.mono ((But.refl _ _).new ht))) (same_new (s1.trans s) ht)
      | @dic a kvs es nM e hA =>
        clear flat
        refine ⟨_, pss_cons (ps_if (pt_val (pe_callB call_isi (by rfl) T.isinstance (by decide +kernel) (pa_cons (pv 0) (pa_cons (pe_bltn (v := V.ty "dict") (by rfl) T.dict (by decide +kernel) rfl) pa_nil))))
          (pss_cons (ps_set (i := 1) nd rfl (.inl rfl) pe_dnewK)
          (pss_cons (ps_lock (ps_for PassesOwn.never rfl (pi_items (pv 0)) (pg_tup rfl (pgs_cons (pg_name (i := 2) nd rfl (Or.inl rfl)) (pgs_cons (pg_name (i := 3) nd rfl (Or.inl rfl)) pgs_nil)))
            (pss_one (ps_dput hu (pv 1) (pv 2) (pe_call G hr (by rfl) m F.kp b .nil pass0 (pa_cons (pv 3) pa_nil)) rfl))))
          (pss_one (ps_ret (pv 1))))) pss_nil)
          (pss_cons ps_never (pss_cons ps_never (pss_cons ps_never (pss_one ps_never)))), ?_⟩
        refine ⟨_, rfl, .ref a, .ty "dict", .type "dict", .type "dict", true, rfl, .ty _, .base (.dK e), kit_ty (by decide +kernel), true, rfl, iteT ?_⟩
        obtain ⟨n, rfl⟩ : ∃ n', n = n' + 1 := by
          cases n with
          | zero => simp [PyData.depth] at hn
          | succ n' => exact ⟨n', rfl⟩
        obtain ⟨hlen, hnd, hfe⟩ := hfew.2 es rfl
        have hdep : PyData.depthKv es ≤ n := by
          simp only [PyData.depth] at hn
          omega
        have hA0 : DxKv (fun b => M b ∨ b = a) H kvs es := hA.away (a := a) (n := PyData.depthKv es) (fun d' z => by
          rw [z.det (.dic nM e hA)]
          simp only [PyData.depth]
          omega) (Nat.le_refl _)
        have knd : (kvs.map (·.1)).Nodup := by
          rw [hA.keys] at hnd
          have z := List.pairwise_map.mp hnd
          exact List.pairwise_map.mpr (z.imp fun q r => q (congrArg keyD r))
        intro l hl
        have nla : l ≠ a := fun z => by rw [z, e] at hl; cases hl
        have nMl : ¬ M l := fun z => hM l z hl
        have hA1 := hA0.apart hl
        refine ⟨a, .dK kvs, (by rw [upd_ne nla.symm]; exact e), trivial, fun od => ?_⟩
        have b0 : But (· = a) H (upd (upd H l (.dK [])) a (.frz od (.dK kvs))) := ((But.refl _ _).new hl).mut rfl
        have l0 : upd (upd H l (.dK [])) a (.frz od (.dK kvs)) l = some (.dK []) := by rw [upd_ne nla, upd_same]
        have a0 : upd (upd H l (.dK [])) a (.frz od (.dK kvs)) a = some (.frz od (.dK kvs)) := upd_same
        generalize upd (upd H l (.dK [])) a (.frz od (.dK kvs)) = H1 at b0 l0 a0 ⊢
        refine ⟨_, rfl, a, od, kvs, rfl, a0, for_it walk_items (fun i σ' H' => ∃ (kw pw : Option V) (rs : List (Key × V)), σ' = [some (.ref a), some (.ref l), kw, pw, none] ∧ H' l = some (.dK rs) ∧ rs.map (·.1) = (kvs.map (·.1)).take i ∧
            DxKv (fun b => (M b ∨ b = a) ∨ b = l) H' rs (es.take i) ∧ But (· = a) H H' ∧ H' a = some (.frz od (.dK kvs))) ?_ ?_ ?_ ?_⟩
        · exact ⟨none, none, [], rfl, l0, rfl, .nil, b0, a0⟩
        · rintro i σ' H' _ ⟨kw, pw, rs, rfl, z1, z2, z3, z4, z5⟩
          exact z5
        · rintro i _ σ' H' _ hi ⟨kw, pw, rs, rfl, z1, z2, z3, z4, z5⟩ ⟨Tp, kx, vx, rfl, hT, rfl, hk, hv⟩
          obtain ⟨⟨kk, vv⟩, hkv⟩ : ∃ q, kvs[i]? = some q := ⟨_, List.getElem?_eq_getElem hi⟩
          simp only [hkv, Option.map_some, Option.some.injEq] at hk hv
          subst hk hv
          obtain ⟨d, hdi, hdx⟩ := hA1.get i kk vv hkv
          have hdm := List.mem_of_getElem? hdi
          have b1 : But (· = a) H (upd H' Tp (.tup [kV kk, vv])) := z4.new hT
          have l1 : upd H' Tp (.tup [kV kk, vv]) l = some (.dK rs) := by rw [upd_ne (ne_of_none z1 hT)]; exact z1
          have a1 : upd H' Tp (.tup [kV kk, vv]) a = some (.frz od (.dK kvs)) := by rw [upd_ne (ne_of_none z5 hT)]; exact z5
          have t1 : upd H' Tp (.tup [kV kk, vv]) Tp = some (.tup [kV kk, vv]) := upd_same
          have r1 : DxKv (fun b => (M b ∨ b = a) ∨ b = l) (upd H' Tp (.tup [kV kk, vv])) rs (es.take i) := z3.mono ((But.refl _ _).new hT)
          generalize upd H' Tp (.tup [kV kk, vv]) = H2 at b1 l1 a1 t1 r1 ⊢
          have hne : ∀ b, (M b ∨ b = a) ∨ b = l → H2 b ≠ none := fun b z q => by
            rcases z with (z | z) | z
            · by_cases hba : b = a
              · rw [hba, a1] at q
                cases q
              · cases y : H b with
                | none => exact hM b z y
                | some u =>
                  rw [b1 b u hba y] at q
                  cases q
            · rw [z, a1] at q
              cases q
            · rw [z, l1] at q
              cases q
          refine ⟨Tp, _, rfl, SqT.of t1, rfl, _, _, rfl, _, _, rfl, rfl, ?_⟩
          refine ⟨_, rfl, _, vv, d, rfl, hdx.mono (b1.mono fun b z => .inl (.inr z)), Nat.le_trans (depthKv_mem hdm) hdep, hfe _ hdm, hne, fun v' H3 hv3 s3 => ?_⟩
          have fresh : kk ∉ rs.map (·.1) := by
            rw [z2]
            exact not_in_take knd (by rw [List.getElem?_map, hkv]; rfl)
          have rl : rs.length ≤ 1000 := by
            rw [r1.length, List.length_take]
            omega
          refine ⟨_, rfl, _, rfl, l, _, rfl, DPut.k (k := kk) (s3 _ _ l1) (small1000 rl), ?_⟩
          rw [put_new fresh]
          refine ⟨_, _, _, rfl, upd_same, ?_, ?_, (b1.trans (sameBut s3 _)).mutNew hl, ?_⟩
          · rw [List.map_append, z2, List.take_add_one, List.getElem?_map, hkv]
            rfl
          · rw [List.take_add_one, hdi]
            exact ((r1.mono (sameBut s3 _)).app (.cons hv3 .nil)).mono ((But.refl _ _).mut (.inr rfl))
          · rw [upd_ne nla.symm]
            exact s3 _ _ a1
        · rintro σ' H' ⟨kw, pw, rs, rfl, z1, z2, z3, z4, z5⟩
          rw [hA.length, List.take_length] at z3
          refine ⟨z5, _, rfl, ?_⟩
          have e2 : upd H' a (.dK kvs) l = some (.dK rs) := by rw [upd_ne nla]; exact z1
          refine k _ _ (.dic nMl e2 ((z3.weak (N := fun b => M b ∨ b = a) fun b z => .inl z).mono ((But.refl _ _).mut (.inr rfl)) |>.weak fun b z => .inl z)) (fun b u z => ?_)
          by_cases hba : b = a
          · subst hba
            rw [e] at z
            cases z
            exact upd_same
          · rw [upd_ne hba]
            exact z4 b u hba z
  intro n
  induction n with
  | zero => exact main 0 ⟨fun vs H Q E h => h.elim, fun A outer s H args us vs Q E _ _ _ _ h => h.elim⟩
  | succ n ih => exact main (n + 1) ih
end
end K3
namespace K3
open PySem L2 GG
/-! ### a wire of rows: its fields -/
abbrev sWInit : Stmt := inClass (top 9) 0
abbrev sWLen : Stmt := inClass (top 9) 1
abbrev sWEq : Stmt := inClass (top 9) 2
abbrev sWPut : Stmt := inClass (top 9) 3
abbrev sWLetter : Stmt := inClass (top 9) 4
abbrev sWTake : Stmt := inClass (top 9) 5
abbrev sWHeard : Stmt := inClass (top 9) 6
abbrev sWUnheard : Stmt := inClass (top 9) 7
abbrev sWCan : Stmt := inClass (top 9) 9
def wf (l : Addr) (k t : Int) : List (Str × V) := [("_rows", .ref l), ("_many", .int k), ("_taken", .int t)]
theorem wf_r (l : Addr) (k t : Int) : (wf l k t).lookup ("_rows" : Str) = some (.ref l) := rfl
theorem wf_k (l : Addr) (k t : Int) : (wf l k t).lookup ("_many" : Str) = some (.int k) := rfl
theorem wf_t (l : Addr) (k t : Int) : (wf l k t).lookup ("_taken" : Str) = some (.int t) := rfl
theorem wf_pr (l m : Addr) (k t : Int) : putF "_rows" (.ref m) (wf l k t) = wf m k t := rfl
theorem wf_pk (l : Addr) (k t j : Int) : putF "_many" (.int j) (wf l k t) = wf l j t := rfl
theorem wf_pt (l : Addr) (k t j : Int) : putF "_taken" (.int j) (wf l k t) = wf l k j := rfl
theorem wf_no (l : Addr) (k t : Int) : ∀ m ∈ ([("put" : Str), "letter", "take", "heard", "unheard", "_can_take"] : List Str), (wf l k t).lookup m = none := by
  intro m h
  simp only [List.mem_cons, List.not_mem_nil, or_false] at h
  rcases h with rfl | rfl | rfl | rfl | rfl | rfl <;> rfl
/-- the rows of a wire, each with the word that it never changes -/
inductive Ent (H : Hp) : List V → List PyData → Prop
  | nil : Ent H [] []
  | cons {p : Addr} {v : V} {vs : List V} {d : PyData} {ds : List PyData} : H p = some (.tup [v, .bl true]) → Dt H v d → Ent H vs ds → Ent H (.ref p :: vs) (d :: ds)
theorem Ent.mono {H H' : Hp} (t : Tups H H') : ∀ {vs : List V} {ds : List PyData}, Ent H vs ds → Ent H' vs ds
  | _, _, .nil => .nil
  | _, _, .cons h a r => .cons (t _ _ h) (a.mono t) (Ent.mono t r)
theorem Ent.length {H : Hp} : ∀ {vs : List V} {ds : List PyData}, Ent H vs ds → vs.length = ds.length
  | _, _, .nil => rfl
  | _, _, .cons _ _ r => by rw [List.length_cons, List.length_cons, Ent.length r]
theorem Ent.app {H : Hp} : ∀ {vs ws : List V} {ds es : List PyData}, Ent H vs ds → Ent H ws es → Ent H (vs ++ ws) (ds ++ es)
  | _, _, _, _, .nil, b => b
  | _, _, _, _, .cons h a r, b => .cons h a (Ent.app r b)
theorem Ent.drop {H : Hp} : ∀ (n : Nat) {vs : List V} {ds : List PyData}, Ent H vs ds → Ent H (vs.drop n) (ds.drop n)
  | 0, _, _, h => h
  | _ + 1, _, _, .nil => .nil
  | n + 1, _, _, .cons _ _ r => Ent.drop n r
theorem Ent.get {H : Hp} : ∀ {vs : List V} {ds : List PyData}, Ent H vs ds → ∀ (i : Nat) (x : V), vs[i]? = some x → ∃ p v d, x = .ref p ∧ ds[i]? = some d ∧ H p = some (.tup [v, .bl true]) ∧ Dt H v d
  | _, _, .nil, i, x, e => by simp at e
  | _, _, .cons h a r, 0, x, e => by
    cases e
    exact ⟨_, _, _, rfl, rfl, h, a⟩
  | _, _, .cons h a r, i + 1, x, e => Ent.get r i x e
def WAtS (C : Addr) (H : Hp) (fp : List Addr) (w : Addr) (rows : List PyData) (put tk : Nat) : Prop :=
  ∃ (dx l : Addr) (xs : List V), fp = [w, l] ∧ H w = some (.ins C dx (wf l put tk)) ∧ H l = some (.lst xs) ∧ Ent H xs rows ∧ (∀ d ∈ rows, RowD d) ∧ rows.length ≤ put
def wk (C : Addr) : WK where
  C := C
  At := WAtS C
  ins := by
    rintro H fp w rows put tk ⟨dx, l, xs, rfl, hw, hl, hx, hr, hp⟩
    exact ⟨dx, _, hw, fun m h => wf_no _ _ _ m (by
      simp only [List.mem_cons, List.not_mem_nil, or_false] at h ⊢
      rcases h with h | h | h | h | h <;> simp [h])⟩
  mem := by
    rintro H fp w rows put tk ⟨dx, l, xs, rfl, _⟩
    exact List.mem_cons_self ..
  there := by
    rintro H fp w rows put tk ⟨dx, l, xs, rfl, hw, hl, hx, hr, hp⟩ a m
    simp only [List.mem_cons, List.not_mem_nil, or_false] at m
    rcases m with rfl | rfl
    · exact ⟨_, hw, fun _ z => nomatch z⟩
    · exact ⟨_, hl, fun _ z => nomatch z⟩
  keep := by
    rintro H H' fp w rows put tk ⟨dx, l, xs, rfl, hw, hl, hx, hr, hp⟩ h t
    exact ⟨dx, l, xs, rfl, by rw [h w (by simp)]; exact hw, by rw [h l (by simp)]; exact hl, hx.mono t, hr, hp⟩
  le := by
    rintro H fp w rows put tk ⟨dx, l, xs, rfl, hw, hl, hx, hr, hp⟩
    exact hp
  rowD := by
    rintro H fp w rows put tk ⟨dx, l, xs, rfl, hw, hl, hx, hr, hp⟩
    exact hr
theorem few_plain {d : PyData} (h : PlainD d) : Few 3 d := by
  have two : ∀ a b : PyData, (∀ ds, a ≠ .tuple ds) → (∀ ds, b ≠ .tuple ds) → Few 3 (.tuple [a, b]) := by
    intro a b ha hb ds e
    cases e
    refine ⟨by simp, fun e he => ?_⟩
    simp only [List.mem_cons, List.not_mem_nil, or_false] at he
    rcases he with rfl | rfl
    · exact fun ds z => absurd z (ha ds)
    · exact fun ds z => absurd z (hb ds)
  rcases h with rfl | ⟨i, _, _, rfl⟩ | ⟨z, _, rfl⟩ | rfl | rfl | rfl
  · exact fun ds z => nomatch z
  · exact fun ds z => nomatch z
  · exact fun ds z => nomatch z
  · exact two _ _ (fun ds z => nomatch z) (fun ds z => nomatch z)
  · exact two _ _ (fun ds z => nomatch z) (fun ds z => nomatch z)
  · intro ds e
    cases e
    exact ⟨by simp, fun e he => absurd he (by simp)⟩
theorem few_row {d : PyData} (h : RowD d) : Few 4 d := by
  obtain ⟨ds, rfl, h4, hp⟩ := h
  intro ds' e
  cases e
  exact ⟨by omega, fun e he => few_plain (hp e he)⟩
structure WTxt (K : PySem.W.Frag) (mg : Str → Option Value) (C : Addr) : Prop where
  cl : Cls K C
  nR : NoAttr K C "_rows"
  nK : NoAttr K C "_many"
  nT : NoAttr K C "_taken"
section
variable {P : Program} {w : World} {K : PySem.W.Frag} {mg : Str → Option Value} {base : Heap} {C : Addr}
theorem scW1 : FnScope ["self"] ["self"] (defScope sWInit) := ⟨rfl, rfl, rfl, by decide +kernel, rfl, by decide +kernel, by decide +kernel⟩
theorem scW2 : FnScope ["self"] ["self"] (defScope sWLen) := ⟨rfl, rfl, rfl, by decide +kernel, rfl, by decide +kernel, by decide +kernel⟩
theorem scW3 : FnScope ["self", "row"] ["self", "row"] (defScope sWPut) := ⟨rfl, rfl, rfl, by decide +kernel, rfl, by decide +kernel, by decide +kernel⟩
theorem scW4 : FnScope ["self"] ["self"] (defScope sWLetter) := ⟨rfl, rfl, rfl, by decide +kernel, rfl, by decide +kernel, by decide +kernel⟩
theorem scW6 : FnScope ["self"] ["self"] (defScope sWHeard) := ⟨rfl, rfl, rfl, by decide +kernel, rfl, by decide +kernel, by decide +kernel⟩
theorem scW7 : FnScope ["self", "row", "fixed"] ["self"] (defScope sWUnheard) := ⟨rfl, rfl, rfl, by decide +kernel, rfl, by decide +kernel, by decide +kernel⟩
theorem ok_winit {f : Addr} {fd : FuncData} (F : Fun K "__init__" "Wire.__init__" sWInit f fd) (T : WTxt K mg C) : FnOk P w K mg base CX0 1 f fd ["self"] (spWInit (wk C)) := by
  refine F.ok scW1 (fun vs H Q E h => ?_) (fun cdv A outer s H vs Q E hr h => ?_)
  · obtain ⟨H0, w, dx, rfl, _⟩ := h
    rfl
  · obtain ⟨H0, w, dx, rfl, s0, w0, hw, k⟩ := h
    have hw' : H w = some (.ins C dx []) := hw
    refine ⟨_, pss_cons (ps_fld (pv 0) (pe_lst pa_nil) rfl) (pss_cons (ps_fld (pv 0) pe_int rfl) (pss_one (ps_fld (pv 0) pe_int rfl))), ?_⟩
    refine ⟨Nat.zero_le _, fun l hl => ?_⟩
    have nwl : w ≠ l := ne_of_none hw' hl
    have l0 : H0 l = none := s0.free hl
    have a1 : upd H l (.lst []) w = some (.ins C dx []) := by rw [upd_ne nwl]; exact hw'
    refine ⟨_, rfl, w, C, dx, [], rfl, a1, T.cl, T.nR, (by show 0 < 1000; decide), ?_⟩
    refine ⟨_, rfl, w, C, dx, _, rfl, upd_same, T.cl, T.nK, (by show 1 < 1000; decide), ?_⟩
    refine ⟨_, rfl, w, C, dx, _, rfl, upd_same, T.cl, T.nT, (by show 2 < 1000; decide), ?_⟩
    refine k [w, l] _ ⟨dx, l, [], rfl, upd_same, by rw [upd_ne nwl.symm, upd_ne nwl.symm, upd_ne nwl.symm, upd_same], .nil, fun d z => absurd z (by simp), Nat.le_refl _⟩ (fun a m => ?_) (fun b o z => ?_)
    · simp only [List.mem_cons, List.not_mem_nil, or_false] at m
      rcases m with rfl | rfl
      · exact w0
      · exact l0
    · have nbw : b ≠ w := ne_of_none z w0
      rw [upd_ne nbw, upd_ne nbw, upd_ne nbw, upd_ne (ne_of_none z l0)]
      exact s0 _ _ z
theorem ok_wlen {f : Addr} {fd : FuncData} (F : Fun K "__len__" "Wire.__len__" sWLen f fd) (T : WTxt K mg C) (G : Txt mg) : FnOk P w K mg base CX0 1 f fd ["self"] (spWLen (wk C)) := by
  refine F.ok scW2 (fun vs H Q E h => ?_) (fun cdv A outer s H vs Q E hr h => ?_)
  · obtain ⟨w, fp, rows, put, tk, rfl, _⟩ := h
    rfl
  · obtain ⟨w, fp, rows, put, tk, rfl, ⟨dx, l, xs, rfl, hw, hl, hx, hR, hp⟩, hput, k⟩ := h
    refine ⟨_, pss_one (ps_ret (pe_callB call_len_seq (by rfl) G.len PySem.boot_len (pa_cons (pe_fld (pv 0) rfl) pa_nil))), ?_⟩
    refine ⟨_, rfl, w, C, dx, _, _, rfl, hw, T.cl, T.nR, wf_r _ _ _, l, _, rfl, .inl (SqL.of hl), ?_⟩
    have e := hx.length
    rw [e]
    exact k H (Same.refl _)
theorem ok_wheard {f : Addr} {fd : FuncData} (F : Fun K "heard" "Wire.heard" sWHeard f fd) (T : WTxt K mg C) : FnOk P w K mg base CX0 1 f fd ["self"] (spWHeard (wk C)) := by
  refine F.ok scW6 (fun vs H Q E h => ?_) (fun cdv A outer s H vs Q E hr h => ?_)
  · obtain ⟨w, fp, rows, put, tk, rfl, _⟩ := h
    rfl
  · obtain ⟨w, fp, rows, put, tk, rfl, ⟨dx, l, xs, rfl, hw, hl, hx, hR, hp⟩, k⟩ := h
    refine ⟨_, pss_one (ps_ret (pe_fld (pv 0) rfl)), ?_⟩
    exact ⟨_, rfl, w, C, dx, _, _, rfl, hw, T.cl, T.nT, wf_t _ _ _, k H (Same.refl _)⟩
theorem ok_wunheard {f fc : Addr} {fd fdc : FuncData} (F : Fun K "unheard" "Wire.unheard" sWUnheard f fd) (T : WTxt K mg C) (m : mg "copied" = some (.ref fc)) (kc : PySem.W.keepIn K (.ref fc) = true) (bc : Binds K fdc ["thing"] []) (Gc : FnOk P w K mg base CX0 5 fc fdc ["thing"] (spCopied 4)) :
    FnOk P w K mg base CX0 6 f fd ["self"] (spWUnheard (wk C)) := by
  refine F.ok scW7 (fun vs H Q E h => ?_) (fun cdv A outer s H vs Q E hr h => ?_)
  · obtain ⟨w, fp, rows, put, tk, rfl, _⟩ := h
    rfl
  · obtain ⟨w, fp, rows, put, tk, rfl, ⟨dx, l, xs, rfl, hw, hl, hx, hR, hp⟩, hput, k⟩ := h
    refine ⟨_, pss_one (ps_ret (pe_lc (own := [("row", 1), ("fixed", 2)]) (g := gTup K 2 (gCons (gName 1) (gCons (gName 2) gNil))) (tt := tYes) rfl scW7.nd (pi_list (pe_fld (pv 0) rfl))
      (blkOk_by (N := ["self", "row", "fixed"]) (sc := defScope sWUnheard) (by decide +kernel)) (fun _ _ _ _ _ => by exact pg_tup rfl (pgs_cons (pg_name (i := 1) scW7.nd rfl (Or.inl rfl)) (pgs_cons (pg_name (i := 2) scW7.nd rfl (Or.inl rfl)) pgs_nil))) (fun _ _ _ _ _ => pts_nil)
      (fun _ _ _ _ _ => pe_ifExp (pt_val (pv 2)) (pv 1) (pe_call Gc hr (by rfl) m kc bc .nil pass0 (pa_cons (pv 1) pa_nil))))), ?_⟩
    refine ⟨_, rfl, w, C, dx, _, _, rfl, hw, T.cl, T.nR, wf_r _ _ _, l, rfl, ⟨xs, SqL.of hl⟩, fun D hD => ?_⟩
    refine lc_list (K := K) (a := l) (xs := xs) (fun i H' => ∃ ys : List V, H' D = some (.lst ys) ∧ DtAll H' ys (rows.take i) ∧ Same H H') ?_ ?_ ?_ ?_
    · exact ⟨[], upd_same, .nil, same_new (Same.refl _) hD⟩
    · rintro i H' _ ⟨ys, hy, hyd, s⟩
      exact SqL.of (s _ _ hl)
    · rintro i x H' hi ⟨ys, hy, hyd, s⟩
      obtain ⟨p, v, d, rfl, hdi, hpt, hvd⟩ := hx.get i x hi
      have hil : i < rows.length := (List.getElem?_eq_some_iff.mp hdi).1
      refine ⟨p, _, rfl, SqT.of (s _ _ hpt), rfl, _, _, rfl, _, _, rfl, rfl, rfl, _, rfl, true, rfl, iteT ⟨_, rfl, ?_⟩⟩
      have tt : Tups H' (upd H' D (.lst (ys ++ [v]))) := (Tups.refl _).mut hy (by intro _ z; cases z)
      refine ⟨_, hy, small1000 (by rw [hyd.length, List.length_take]; omega), _, upd_same, ?_, same_mut s hD⟩
      rw [List.take_add_one, hdi]
      exact (hyd.app (.cons (hvd.mono (sameTups s)) .nil)).mono tt
    · rintro H' ⟨ys, hy, hyd, s⟩
      rw [hx.length, List.take_length] at hyd
      exact k D ys H' hD hy hyd s
theorem ok_wletter {f fu : Addr} {fd fdu : FuncData} (F : Fun K "letter" "Wire.letter" sWLetter f fd) (T : WTxt K mg C) (G : Txt mg) (mW : ∃ t, mg "WORD" = some (.str "rows" t)) (mu : Meth K C "unheard" fu) (bu : Binds K fdu ["self"] []) (Gu : FnOk P w K mg base CX0 6 fu fdu ["self"] (spWUnheard (wk C))) :
    FnOk P w K mg base CX0 7 f fd ["self"] (spWLetter (wk C)) := by
  obtain ⟨tW, mW⟩ := mW
  refine F.ok scW4 (fun vs H Q E h => ?_) (fun cdv A outer s H vs Q E hr h => ?_)
  · obtain ⟨w, fp, rows, put, tk, rfl, _⟩ := h
    rfl
  · obtain ⟨w, fp, rows, put, tk, rfl, hW, hput, k⟩ := h
    obtain ⟨dx, l, xs, rfl, hw, hl, hx, hR, hp⟩ := id hW
    refine ⟨_, pss_one (ps_ret (pe_tup (pa_cons (pe_glob (v := V.str "rows") rfl mW ⟨_, rfl⟩) (pa_cons (pe_op op_sub (pe_fld (pv 0) rfl) (pe_callB call_len_seq (by rfl) G.len PySem.boot_len (pa_cons (pe_fld (pv 0) rfl) pa_nil))) (pa_cons (pe_callTy call_tuple_of (by rfl) G.tuple (by decide +kernel) (pa_cons (pe_meth0 (pv 0) T.cl mu Gu hr bu .nil pass0) pa_nil)) (pa_cons (pe_fld (pv 0) rfl) pa_nil)))))), ?_⟩
    refine ⟨_, rfl, w, C, dx, _, _, rfl, hw, T.cl, T.nK, wf_k _ _ _, _, rfl, w, C, dx, _, _, rfl, hw, T.cl, T.nR, wf_r _ _ _, l, _, rfl, .inl (SqL.of hl), _, _, rfl, rfl, ?_⟩
    refine ⟨_, rfl, w, dx, _, rfl, hw, wf_no _ _ _ _ (by simp), w, [w, l], rows, put, tk, rfl, hW, hput, fun m ys H1 hm0 hm hy s1 => ?_⟩
    refine ⟨m, _, rfl, .inl ⟨SqL.of hm, fun t ht => ?_⟩⟩
    have s2 := same_new s1 ht (o := .tup ys)
    have t2 : Tups H1 (upd H1 t (.tup ys)) := (Tups.refl _).new ht
    have a2 : upd H1 t (.tup ys) t = some (.tup ys) := upd_same
    have t0 : H t = none := s1.free ht
    generalize upd H1 t (.tup ys) = H2 at s2 a2 t2 ⊢
    refine ⟨_, rfl, w, C, dx, _, _, rfl, s2 _ _ hw, T.cl, T.nT, wf_t _ _ _, (by show 4 ≤ sizeLine; decide), fun u hu => ?_⟩
    have e : (put : Int) - (xs.length : Nat) = ((put - rows.length : Nat) : Int) := by
      rw [hx.length]
      omega
    have s3 := same_new s2 hu (o := .tup [.str "rows", .int ((put : Int) - (xs.length : Nat)), .ref t, .int (tk : Nat)])
    have t3 : Tups H2 (upd H2 u (.tup [.str "rows", .int ((put : Int) - (xs.length : Nat)), .ref t, .int (tk : Nat)])) := (Tups.refl _).new hu
    have a3 : upd H2 u (.tup [.str "rows", .int ((put : Int) - (xs.length : Nat)), .ref t, .int (tk : Nat)]) u = some (.tup [.str "rows", .int ((put - rows.length : Nat) : Int), .ref t, .int (tk : Nat)]) := by rw [upd_same, e]
    refine k u _ (s2.free hu) ?_ s3
    exact .tup a3 (.cons (.str _) (.cons (.int _) (.cons (.tup (t3 _ _ a2) ((hy.mono t2).mono t3)) (.cons (.int _) .nil))))
theorem ok_wput {f fc fx : Addr} {fd fdc fdx : FuncData} (F : Fun K "put" "Wire.put" sWPut f fd) (T : WTxt K mg C) (m : mg "copied" = some (.ref fc)) (kc : PySem.W.keepIn K (.ref fc) = true) (bc : Binds K fdc ["thing"] []) (Gc : FnOk P w K mg base CX0 5 fc fdc ["thing"] (spCopied 4))
    (mx : mg "is_fixed" = some (.ref fx)) (kx : PySem.W.keepIn K (.ref fx) = true) (bx : Binds K fdx ["thing"] []) (Gx : FnOk P w K mg base CX0 5 fx fdx ["thing"] (spFixed 4)) :
    FnOk P w K mg base CX0 6 f fd ["self", "row"] (spWPut (wk C)) := by
  refine F.ok scW3 (fun vs H Q E h => ?_) (fun cdv A outer s H vs Q E hr h => ?_)
  · obtain ⟨w, r, d, fp, rows, put, tk, rfl, _⟩ := h
    rfl
  · obtain ⟨w, r, d, fp, rows, put, tk, rfl, ⟨dx, l, xs, rfl, hw, hl, hx, hR, hp⟩, hd, hrow, hput, k⟩ := h
    refine ⟨_, pss_cons (ps_expr (pe_bm PySem.F.plainAttrs_list PySem.F.slot_list_append PySem.F.type_list_append mt_append (pe_fld (pv 0) rfl) (pa_cons (pe_tup (pa_cons (pe_call Gc hr (by rfl) m kc bc .nil pass0 (pa_cons (pv 1) pa_nil)) (pa_cons (pe_call Gx hr (by rfl) mx kx bx .nil pass0 (pa_cons (pv 1) pa_nil)) pa_nil))) pa_nil)))
      (pss_cons (ps_fldaug (pv 0) pe_int in_add) (pss_one (ps_ret (pe_op op_sub (pe_fld (pv 0) rfl) pe_int)))), ?_⟩
    refine ⟨_, rfl, w, C, dx, _, _, rfl, hw, T.cl, T.nR, wf_r _ _ _, .inl ⟨rfl, _, SqL.of hl⟩, _, rfl, .ref r, d, rfl, hd, hrow.lay.2, few_row hrow, fun v H1 hv s1 => ?_⟩
    refine ⟨_, rfl, .ref r, d, rfl, hd.mono (sameTups s1), hrow.lay.2, few_row hrow, fun H2 s2 => ?_⟩
    refine ⟨(by show 2 ≤ sizeLine; decide), fun p hp0 => ?_⟩
    have hv2 := hv.mono (sameTups s2)
    have s3 : Same H (upd H2 p (.tup [v, .bl true])) := same_new (s1.trans s2) hp0
    have t3 : Tups H2 (upd H2 p (.tup [v, .bl true])) := (Tups.refl _).new hp0
    have a3 : upd H2 p (.tup [v, .bl true]) p = some (.tup [v, .bl true]) := upd_same
    generalize upd H2 p (.tup [v, .bl true]) = H3 at s3 t3 a3 ⊢
    have nlw : l ≠ w := ne_of hl hw (by intro z; cases z)
    refine ⟨l, _, _, rfl, rfl, s3 _ _ hl, small1000 (by rw [hx.length]; omega), ?_⟩
    have hx4 : Ent (upd H3 l (.lst (xs ++ [.ref p]))) (xs ++ [.ref p]) (rows ++ [d]) :=
      ((hx.mono (sameTups s3)).app (.cons a3 (hv2.mono t3) .nil)).mono ((Tups.refl _).mut (s3 _ _ hl) (by intro _ z; cases z))
    have hw4 : upd H3 l (.lst (xs ++ [.ref p])) w = some (.ins C dx (wf l put tk)) := by rw [upd_ne nlw.symm]; exact s3 _ _ hw
    have hl4 : upd H3 l (.lst (xs ++ [.ref p])) l = some (.lst (xs ++ [.ref p])) := upd_same
    have b4 : But (· ∈ [w, l]) H (upd H3 l (.lst (xs ++ [.ref p]))) := (sameBut s3 _).mut (by simp)
    generalize upd H3 l (.lst (xs ++ [.ref p])) = H4 at hx4 hw4 hl4 b4 ⊢
    refine ⟨_, rfl, w, C, dx, _, _, rfl, hw4, T.cl, T.nK, wf_k _ _ _, _, _, rfl, rfl, dx, _, hw4, (by show 3 < 1000; decide), ?_⟩
    have e5 : upd H4 w (.ins C dx (putF "_many" (.int ((put : Int) + 1)) (wf l put tk))) w = some (.ins C dx (wf l ((put + 1 : Nat) : Int) tk)) := upd_same
    have l5 : upd H4 w (.ins C dx (putF "_many" (.int ((put : Int) + 1)) (wf l put tk))) l = some (.lst (xs ++ [.ref p])) := by rw [upd_ne nlw]; exact hl4
    have x5 := hx4.mono ((Tups.refl H4).mut (o := .ins C dx (putF "_many" (.int ((put : Int) + 1)) (wf l put tk))) hw4 (by intro _ z; cases z))
    have b5 : But (· ∈ [w, l]) H (upd H4 w (.ins C dx (putF "_many" (.int ((put : Int) + 1)) (wf l put tk)))) := b4.mut (by simp)
    refine ⟨_, rfl, w, C, dx, _, _, rfl, e5, T.cl, T.nK, wf_k _ _ _, _, _, rfl, rfl, ?_⟩
    have e : ((put + 1 : Nat) : Int) - 1 = (put : Nat) := by omega
    show Q (V.int (((put + 1 : Nat) : Int) - 1)) _
    rw [e]
    refine k [w, l] _ ⟨dx, l, _, rfl, e5, l5, x5, fun e he => ?_, by rw [List.length_append, List.length_singleton]; omega⟩ (fun a m => .inl m) b5
    rcases List.mem_append.mp he with z | z
    · exact hR e z
    · rw [List.mem_singleton.mp z]; exact hrow
end
end K3
namespace K3
open PySem L2 GG
theorem LetD.inv {H : Hp} {t : Addr} {first heard : Nat} {new : List PyData} (h : Dt H (.ref t) (LetD first new heard)) : ∃ (r : Addr) (ys : List V), H t = some (.tup [.str "rows", .int first, .ref r, .int heard]) ∧ H r = some (.tup ys) ∧ DtAll H ys new := by
  obtain ⟨ls, ht, hls⟩ := h.tupI
  cases hls with
  | cons h0 hls =>
  cases hls with
  | cons h1 hls =>
  cases hls with
  | cons h2 hls =>
  cases hls with
  | cons h3 hls =>
  cases hls
  cases h0
  cases h1
  cases h3
  obtain ⟨r, rfl⟩ := h2.ref_of
  obtain ⟨ys, hR, hy⟩ := h2.tupI
  exact ⟨r, ys, ht, hR, hy⟩
section
variable {P : Program} {w : World} {K : PySem.W.Frag} {mg : Str → Option Value} {base : Heap} {C : Addr}
theorem scW8 : FnScope ["self", "letter", "word", "first", "rows", "heard", "row"] ["self", "letter"] (defScope sWCan) := ⟨rfl, rfl, rfl, by decide +kernel, rfl, by decide +kernel, by decide +kernel⟩
theorem scW5 : FnScope ["self", "letter", "_", "first", "rows", "heard", "known", "told", "row"] ["self", "letter"] (defScope sWTake) := ⟨rfl, rfl, rfl, by decide +kernel, rfl, by decide +kernel, by decide +kernel⟩
def spWCan (C : Addr) : Sp := fun vs H Q _ => ∃ (w t : Addr) (fp : List Addr) (rows new : List PyData) (put tk first heard : Nat), vs = [.ref w, .ref t] ∧ WAtS C H fp w rows put tk ∧ Dt H (.ref t) (LetD first new heard) ∧ first ≤ tk ∧ heard ≤ put ∧ (∀ d ∈ new, RowD d) ∧ new.length ≤ 1000 ∧
  ∀ H', Same H H' → Q (.bl true) H'
theorem ok_wcan {f fn : Addr} {fd fdn : FuncData} (F : Fun K "_can_take" "Wire._can_take" sWCan f fd) (T : WTxt K mg C) (G : Txt mg) (za : mg "all" = none) (mW : ∃ t, mg "WORD" = some (.str "rows" t)) (m : mg "is_number" = some (.ref fn)) (kn : PySem.W.keepIn K (.ref fn) = true) (bn : Binds K fdn ["thing"] []) (Gn : FnOk P w K mg base CX0 1 fn fdn ["thing"] spNumber) :
    FnOk P w K mg base CX0 2 f fd ["self", "letter"] (spWCan C) := by
  obtain ⟨tW, mW⟩ := mW
  refine F.ok scW8 (fun vs H Q E h => ?_) (fun cdv A outer s H vs Q E hr h => ?_)
  · obtain ⟨w, t, fp, rows, new, put, tk, first, heard, rfl, _⟩ := h
    rfl
  · obtain ⟨w, t, fp, rows, new, put, tk, first, heard, rfl, ⟨dx, l, xs, rfl, hw, hl, hx, hR, hp⟩, hd, h1, h2, hnew, hn, k⟩ := h
    obtain ⟨r, ys, ht, hr', hy⟩ := LetD.inv hd
    have tyT := fun (v : Addr) (zs : List V) (e : H v = some (.tup zs)) => TyX.base (K := K) (TyOf.tup e)
    have nd := scW8.nd
    refine ⟨_, pss_cons (ps_if (PW.pt (pw_or (pt_not (pt_val (pe_callB call_isi (by rfl) G.isinstance (by decide +kernel) (pa_cons (pv 1) (pa_cons (pe_bltn (v := V.ty "tuple") (by rfl) G.tuple (by decide +kernel) rfl) pa_nil)))))
          (pw_or1 (pt_cmpR op_ne (pe_callB call_len_seq (by rfl) G.len PySem.boot_len (pa_cons (pv 1) pa_nil)) pe_int (nomark _))))) (pss_one (ps_ret pe_bl)) pss_nil)
      (pss_cons (ps_asg (pv 1) (pg_tup rfl (pgs_cons (pg_name (i := 2) nd rfl (Or.inl rfl)) (pgs_cons (pg_name (i := 3) nd rfl (Or.inl rfl)) (pgs_cons (pg_name (i := 4) nd rfl (Or.inl rfl)) (pgs_cons (pg_name (i := 5) nd rfl (Or.inl rfl)) pgs_nil))))))
      (pss_cons (ps_if (PW.pt (pw_or (pt_cmpR op_ne (pv 2) (pe_glob (v := V.str "rows") rfl mW ⟨_, rfl⟩) (nomark _))
          (pw_or (pt_not (pt_val (pe_call Gn hr (by rfl) m kn bn .nil pass0 (pa_cons (pv 3) pa_nil))))
          (pw_or1 (pt_not (pt_val (pe_call Gn hr (by rfl) m kn bn .nil pass0 (pa_cons (pv 5) pa_nil)))))))) (pss_one (ps_ret pe_bl)) pss_nil)
      (pss_cons (ps_if (PW.pt (pw_or (pt_not (pt_val (pe_callB call_isi (by rfl) G.isinstance (by decide +kernel) (pa_cons (pv 4) (pa_cons (pe_bltn (v := V.ty "tuple") (by rfl) G.tuple (by decide +kernel) rfl) pa_nil)))))
          (pw_or1 (pt_not (pt_val (pe_callB (cr_all rfl) (by rfl) za (by decide +kernel) (pa_cons (pe_lc (own := [("row", 6)]) (g := gName 6) (tt := tYes) rfl nd (pi_tup (pv 4))
          (blkOk_by (N := ["self", "letter", "word", "first", "rows", "heard", "row"]) (sc := defScope sWCan) (by decide +kernel)) (fun _ _ _ _ _ => pg_name (i := 6) nd rfl (Or.inl rfl)) (fun _ _ _ _ _ => pts_nil)
          (fun _ _ _ _ _ => pe_callB (id := "isinstance") (r := rIsi K) call_isi (by rfl) G.isinstance (by decide +kernel) (pa_cons (pv 6) (pa_cons (pe_bltn (v := V.ty "tuple") (by rfl) G.tuple (by decide +kernel) rfl) pa_nil)))) pa_nil))))))) (pss_one (ps_ret pe_bl)) pss_nil)
      (pss_one (ps_ret (pe_and (pe_cmpR op_le (pv 3) (pe_fld (pv 0) rfl) (nomark _)) (pe_one (pe_cmpR op_le (pv 5) (pe_fld (pv 0) rfl) (nomark _))))))))), ?_⟩
    refine ⟨_, rfl, .ref t, .ty "tuple", .type "tuple", .type "tuple", true, rfl, .ty _, tyT _ _ ht, kit_ty (by decide +kernel), true, rfl, iteF ?_⟩
    refine ⟨_, rfl, t, _, rfl, .inr (SqT.of ht), rfl, _, rfl, iteNS rfl ?_⟩
    refine ⟨_, rfl, t, _, rfl, SqT.of ht, rfl, _, _, rfl, _, _, rfl, _, _, rfl, _, _, rfl, rfl, ?_⟩
    refine ⟨_, rfl, rfl, _, rfl, iteNS rfl ?_⟩
    refine ⟨_, rfl, _, rfl, Int.natCast_nonneg _, true, rfl, iteF ?_⟩
    refine ⟨_, rfl, _, rfl, Int.natCast_nonneg _, true, rfl, iteF ?_⟩
    refine ⟨_, rfl, .ref r, .ty "tuple", .type "tuple", .type "tuple", true, rfl, .ty _, tyT _ _ hr', kit_ty (by decide +kernel), true, rfl, iteF ?_⟩
    refine ⟨_, rfl, r, rfl, ⟨ys, SqT.of hr'⟩, fun D hD => ?_⟩
    refine lc_tup (K := K) (a := r) (xs := ys) (fun i H' => ∃ n : Nat, n = i ∧ H' D = some (.lst ((List.replicate n true).map V.bl)) ∧ Same H H') ?_ ?_ ?_ ?_
    · exact ⟨0, rfl, upd_same, same_new (Same.refl _) hD⟩
    · rintro i H' _ ⟨n, rfl, hDl, s⟩
      exact SqT.of (s _ _ hr')
    · rintro i x H' hi ⟨n, rfl, hDl, s⟩
      obtain ⟨d, hdi, hdx⟩ := hy.get n x hi
      have hil : n < new.length := (List.getElem?_eq_some_iff.mp hdi).1
      obtain ⟨es, rfl, _⟩ := hnew d (List.mem_of_getElem? hdi)
      obtain ⟨a, rfl⟩ := hdx.ref_of
      obtain ⟨zs, hz, _⟩ := hdx.tupI
      refine ⟨rfl, _, rfl, .ref a, .ty "tuple", .type "tuple", .type "tuple", true, rfl, .ty _, .base (.tup (s _ _ hz)), kit_ty (by decide +kernel), _, hDl, ?_, n + 1, rfl, ?_, same_mut s hD⟩
      · rw [List.length_map, List.length_replicate]
        exact small1000 (by omega)
      · rw [upd_same, List.replicate_succ', List.map_append]
        rfl
    · rintro H' ⟨n, rfl, hDl, s⟩
      refine ⟨D, _, rfl, SqL.of hDl, ?_⟩
      have e : (List.replicate ys.length true).all id = true := by simp
      rw [e]
      refine ⟨true, rfl, iteF ?_⟩
      refine ⟨_, rfl, _, rfl, w, C, dx, _, _, rfl, s _ _ hw, T.cl, T.nT, wf_t _ _ _, _, _, rfl, rfl, _, rfl, iteYes (Int.ofNat_le.mpr h1) ⟨_, rfl, _, rfl, w, C, dx, _, _, rfl, s _ _ hw, T.cl, T.nK, wf_k _ _ _, _, _, rfl, rfl, ?_⟩⟩
      show Q (V.bl (decide ((heard : Int) ≤ (put : Int)))) H'
      rw [decide_eq_true (Int.ofNat_le.mpr h2)]
      exact k H' s
theorem ok_wtake {f fi fc : Addr} {fd fdi fdc : FuncData} (F : Fun K "take" "Wire.take" sWTake f fd) (T : WTxt K mg C) (G : Txt mg) (mi : Meth K C "_can_take" fi) (bi : Binds K fdi ["self", "letter"] []) (Gi : FnOk P w K mg base CX0 2 fi fdi ["self", "letter"] (spWCan C))
    (m : mg "copied" = some (.ref fc)) (kc : PySem.W.keepIn K (.ref fc) = true) (bc : Binds K fdc ["thing"] []) (Gc : FnOk P w K mg base CX0 5 fc fdc ["thing"] (spCopied 4)) :
    FnOk P w K mg base CX0 6 f fd ["self", "letter"] (spWTake (wk C)) := by
  refine F.ok scW5 (fun vs H Q E h => ?_) (fun cdv A outer s H vs Q E hr h => ?_)
  · obtain ⟨w, t, fp, rows, new, put, tk, first, heard, rfl, _⟩ := h
    rfl
  · obtain ⟨w, t, fp, rows, new, put, tk, first, heard, rfl, hW, hd, h1, h2, hnew, hn, hput, htk, k⟩ := h
    have hr2 : Room 2 _ := hr.mono (by decide)
    have nd := scW5.nd
    refine ⟨_, pss_cons (ps_if (pt_not (pt_val (pe_meth (pv 0) T.cl mi Gi hr2 bi .nil pass0 (pa_cons (pv 1) pa_nil)))) (pss_one ps_never) pss_nil)
      (pss_cons (ps_asg (pv 1) (pg_tup rfl (pgs_cons (pg_name (i := 2) nd rfl (Or.inl rfl)) (pgs_cons (pg_name (i := 3) nd rfl (Or.inl rfl)) (pgs_cons (pg_name (i := 4) nd rfl (Or.inl rfl)) (pgs_cons (pg_name (i := 5) nd rfl (Or.inl rfl)) pgs_nil))))))
      (pss_cons (ps_set (i := 6) nd rfl (.inl rfl) (pe_op op_sub (pe_fld (pv 0) rfl) (pe_callB call_len_seq (by rfl) G.len PySem.boot_len (pa_cons (pe_fld (pv 0) rfl) pa_nil))))
      (C8.pss_cut (ps_if (pt_cmpR op_gt (pv 5) (pv 6) (nomark _))
          (pss_one (ps_fld (pv 0) (pe_slice sl_list (pe_fld (pv 0) rfl) (po_some (pe_op op_sub (pv 5) (pv 6))) po_none) rfl)) pss_nil)
      (C8.pss_cut (ps_setLc (i := 7) (own := [("row", 8)]) (g := gName 8) (tt := tYes) rfl nd rfl rfl (sw_true rfl rfl rfl (by decide +kernel)) (pi_tup (pe_slice sl_tupA (pv 4) (po_some (pe_op op_sub (pe_fld (pv 0) rfl) (pv 3))) po_none))
          (blkOk_by (N := ["self", "letter", "_", "first", "rows", "heard", "known", "told", "row"]) (sc := defScope sWTake) (by decide +kernel)) (fun _ _ _ _ _ => pg_name (i := 8) nd rfl (Or.inl rfl)) (fun _ _ _ _ _ => pts_nil)
          (fun _ _ _ _ _ => pe_call Gc hr (by rfl) m kc bc .nil pass0 (pa_cons (pv 8) pa_nil)))
      (pss_cons (ps_fldaug (pv 0) (pe_callB call_len_seq (by rfl) G.len PySem.boot_len (pa_cons (pv 7) pa_nil)) in_add)
      (pss_one (ps_ret (pv 7)))))))), ?_⟩
    obtain ⟨dx, l, xs, rfl, hw, hl, hx, hR, hp⟩ := id hW
    refine ⟨_, rfl, w, dx, _, rfl, hw, wf_no _ _ _ _ (by simp), _, rfl, w, t, [w, l], rows, new, put, tk, first, heard, rfl, hW, hd, h1, h2, hnew, hn, fun H1 s1 => ⟨true, rfl, iteF ?_⟩⟩
    obtain ⟨r, ys, ht, hr', hy⟩ := LetD.inv (hd.mono (sameTups s1))
    refine ⟨_, rfl, t, _, rfl, SqT.of ht, rfl, _, _, rfl, _, _, rfl, _, _, rfl, _, _, rfl, rfl, ?_⟩
    refine ⟨_, rfl, w, C, dx, _, _, rfl, s1 _ _ hw, T.cl, T.nK, wf_k _ _ _, _, rfl, w, C, dx, _, _, rfl, s1 _ _ hw, T.cl, T.nR, wf_r _ _ _, l, _, rfl, .inl (SqL.of (s1 _ _ hl)), _, _, rfl, rfl, ?_⟩
    have ekn : (put : Int) - (xs.length : Nat) = ((put - rows.length : Nat) : Int) := by
      rw [hx.length]
      omega
    have nlw : l ≠ w := ne_of hl hw (by intro z; cases z)
    have hx1 := hx.mono (sameTups s1)
    refine ⟨fun σ' H' => σ' = [some (.ref w), some (.ref t), some (.str "rows"), some (.int first), some (.ref r), some (.int heard), some (.int ((put : Int) - (xs.length : Nat))), none, none] ∧ ∃ (l2 : Addr) (zs : List V), H' w = some (.ins C dx (wf l2 put tk)) ∧ H' l2 = some (.lst zs) ∧ Ent H' zs (rows.drop (heard - (put - rows.length))) ∧ (l2 = l ∨ H l2 = none) ∧ l2 ≠ w ∧ H' l = some (.lst xs) ∧ But (· ∈ [w, l]) H H' ∧ Tups H1 H', ?_, ?_⟩
    · refine ⟨_, rfl, _, rfl, _, _, rfl, rfl, _, rfl, ite2 (fun hg => ?_) (fun hg => ?_)⟩
      · have hg' : (put : Int) - (xs.length : Nat) < (heard : Int) := of_decide_eq_true hg
        have ej : (heard : Int) - ((put : Int) - (xs.length : Nat)) = ((heard - (put - rows.length) : Nat) : Int) := by omega
        refine ⟨_, rfl, w, C, dx, _, _, rfl, s1 _ _ hw, T.cl, T.nR, wf_r _ _ _, _, rfl, _, rfl, _, _, rfl, rfl, _, rfl, ?_⟩
        rw [ej]
        refine ⟨l, xs, rfl, SqL.of (s1 _ _ hl), fun l2 hl2 => ?_⟩
        rw [cutV_drop]
        have nl2w : l2 ≠ w := fun q => by
          rw [q, s1 _ _ hw] at hl2
          cases hl2
        have hw4 : upd H1 l2 (.lst (xs.drop (heard - (put - rows.length)))) w = some (.ins C dx (wf l put tk)) := by rw [upd_ne nl2w.symm]; exact s1 _ _ hw
        refine ⟨_, rfl, w, C, dx, _, rfl, hw4, T.cl, T.nR, (by show 3 < 1000; decide), ?_⟩
        have tt : Tups H1 (upd (upd H1 l2 (.lst (xs.drop (heard - (put - rows.length))))) w (.ins C dx (putF "_rows" (.ref l2) (wf l put tk)))) :=
          ((Tups.refl _).new hl2).mut hw4 (by intro _ z; cases z)
        refine ⟨rfl, l2, xs.drop (heard - (put - rows.length)), ?_, ?_, (hx1.drop _).mono tt, .inr (s1.free hl2), nl2w, ?_, ((sameBut s1 _).new hl2).mut (by simp), tt⟩
        · rw [upd_same]
          rfl
        · rw [upd_ne nl2w, upd_same]
        · rw [upd_ne nlw, upd_ne (ne_of_none (s1 _ _ hl) hl2)]
          exact s1 _ _ hl
      · have hg' : ¬ (put : Int) - (xs.length : Nat) < (heard : Int) := fun z => hg (decide_eq_true z)
        have e0 : heard - (put - rows.length) = 0 := by omega
        refine ⟨rfl, l, xs, s1 _ _ hw, s1 _ _ hl, ?_, .inl rfl, nlw, s1 _ _ hl, sameBut s1 _, Tups.refl _⟩
        rw [e0]
        exact hx1
    · rintro σ2 H2 ⟨rfl, l2, zs, hw2, hl2, hz2, hl20, nl2w, hll, b2, t2⟩
      have hr2' := t2 _ _ hr'
      have hy2 := hy.mono t2
      refine ⟨fun σ' H' => ∃ (m : Addr) (us : List V), H m = none ∧ m ≠ w ∧ m ≠ l2 ∧ σ' = [some (.ref w), some (.ref t), some (.str "rows"), some (.int first), some (.ref r), some (.int heard), some (.int ((put : Int) - (xs.length : Nat))), some (.ref m), none] ∧ H' m = some (.lst us) ∧ DtAll H' us (new.drop (tk - first)) ∧ Same H2 H', ?_, ?_⟩
      · have ek : (tk : Int) - (first : Int) = ((tk - first : Nat) : Int) := by omega
        have fresh : ∀ m, H2 m = none → H m = none ∧ m ≠ w ∧ m ≠ l2 := fun m hm => by
          have n1 : m ≠ w := fun q => by
            rw [q, hw2] at hm
            cases hm
          have n2 : m ≠ l2 := fun q => by
            rw [q, hl2] at hm
            cases hm
          have n3 : m ≠ l := fun q => by
            rw [q, hll] at hm
            cases hm
          refine ⟨b2.free hm (fun z => ?_), n1, n2⟩
          simp only [List.mem_cons, List.not_mem_nil, or_false] at z
          rcases z with z | z
          · exact n1 z
          · exact n3 z
        refine ⟨_, rfl, _, rfl, w, C, dx, _, _, rfl, hw2, T.cl, T.nT, wf_t _ _ _, _, rfl, _, _, rfl, rfl, _, rfl, ?_⟩
        rw [ek]
        refine ⟨r, ys, rfl, SqT.of hr2', fun hwh => ?_, fun hpt q hq => ?_⟩
        · have ew : ys.drop (tk - first) = ys := by
            have z := hwh.1
            rw [HT.sIx_nat] at z
            by_cases h0 : tk - first = 0
            · rw [h0]; rfl
            · have : ys.length = 0 := by omega
              rw [List.length_eq_zero_iff.mp this]
              exact List.drop_nil
          have hr3 : H2 r = some (.tup (ys.drop (tk - first))) := by rw [ew]; exact hr2'
          refine ⟨r, rfl, ⟨_, SqT.of hr3⟩, fun D hD => ?_⟩
          refine lc_tup (K := K) (a := r) (xs := ys.drop (tk - first)) (fun i H' => ∃ zs : List V, H' D = some (.lst zs) ∧ DtAll H' zs ((new.drop (tk - first)).take i) ∧ Same H2 H') ?_ ?_ ?_ ?_
          · exact ⟨[], upd_same, .nil, same_new (Same.refl _) hD⟩
          · rintro i H' _ ⟨zs, hz, hzd, s⟩
            exact SqT.of (s _ _ hr3)
          · rintro i x H' hi ⟨zs, hz, hzd, s⟩
            obtain ⟨d, hdi, hdx⟩ := (hy2.drop (tk - first)).get i x hi
            have hil := (List.getElem?_eq_some_iff.mp hdi).1
            have hdr := hnew d (List.mem_of_mem_drop (List.mem_of_getElem? hdi))
            rw [List.length_drop] at hil
            refine ⟨rfl, _, rfl, x, d, rfl, hdx.mono (sameTups s), hdr.lay.2, few_row hdr, fun v' H3 hv s3 => ?_⟩
            have tt : Tups H3 (upd H3 D (.lst (zs ++ [v']))) := (Tups.refl _).mut (s3 _ _ hz) (by intro _ z; cases z)
            refine ⟨_, s3 _ _ hz, small1000 (by rw [hzd.length, List.length_take]; omega), _, upd_same, ?_, same_mut (s.trans s3) hD⟩
            rw [List.take_add_one, hdi]
            exact ((hzd.mono (sameTups s3)).app (.cons hv .nil)).mono tt
          · rintro H' ⟨zs, hz, hzd, s⟩
            have el : (ys.drop (tk - first)).length = (new.drop (tk - first)).length := (hy.drop _).length
            rw [el, List.take_length] at hzd
            obtain ⟨f1, f2, f3⟩ := fresh D hD
            exact ⟨D, zs, f1, f2, f3, rfl, hz, hzd, s⟩
        · rw [cutV_drop]
          have s2 := same_new (Same.refl H2) hq (o := .tup (ys.drop (tk - first)))
          have hq2 : upd H2 q (.tup (ys.drop (tk - first))) q = some (.tup (ys.drop (tk - first))) := upd_same
          generalize upd H2 q (.tup (ys.drop (tk - first))) = H2' at s2 hq2 ⊢
          refine ⟨q, rfl, ⟨_, SqT.of hq2⟩, fun D hD => ?_⟩
          refine lc_tup (K := K) (a := q) (xs := ys.drop (tk - first)) (fun i H' => ∃ zs : List V, H' D = some (.lst zs) ∧ DtAll H' zs ((new.drop (tk - first)).take i) ∧ Same H2' H') ?_ ?_ ?_ ?_
          · exact ⟨[], upd_same, .nil, same_new (Same.refl _) hD⟩
          · rintro i H' _ ⟨zs, hz, hzd, s⟩
            exact SqT.of (s _ _ hq2)
          · rintro i x H' hi ⟨zs, hz, hzd, s⟩
            obtain ⟨d, hdi, hdx⟩ := ((hy2.drop (tk - first)).mono (sameTups s2)).get i x hi
            have hil := (List.getElem?_eq_some_iff.mp hdi).1
            have hdr := hnew d (List.mem_of_mem_drop (List.mem_of_getElem? hdi))
            rw [List.length_drop] at hil
            refine ⟨rfl, _, rfl, x, d, rfl, hdx.mono (sameTups s), hdr.lay.2, few_row hdr, fun v' H3 hv s3 => ?_⟩
            have tt : Tups H3 (upd H3 D (.lst (zs ++ [v']))) := (Tups.refl _).mut (s3 _ _ hz) (by intro _ z; cases z)
            refine ⟨_, s3 _ _ hz, small1000 (by rw [hzd.length, List.length_take]; omega), _, upd_same, ?_, same_mut (s.trans s3) hD⟩
            rw [List.take_add_one, hdi]
            exact ((hzd.mono (sameTups s3)).app (.cons hv .nil)).mono tt
          · rintro H' ⟨zs, hz, hzd, s⟩
            have el : (ys.drop (tk - first)).length = (new.drop (tk - first)).length := (hy.drop _).length
            rw [el, List.take_length] at hzd
            obtain ⟨f1, f2, f3⟩ := fresh D (s2.free hD)
            exact ⟨D, zs, f1, f2, f3, rfl, hz, hzd, s2.trans s⟩
      · rintro σ3 H3 ⟨m, us, hm0, nmw, nml, rfl, hm, hud, s3⟩
        have hw3 := s3 _ _ hw2
        refine ⟨_, rfl, w, C, dx, _, _, rfl, hw3, T.cl, T.nT, wf_t _ _ _, _, rfl, m, _, rfl, .inl (SqL.of hm), _, _, rfl, rfl, dx, _, hw3, (by show 3 < 1000; decide), ?_⟩
        have ez : (tk : Int) + (us.length : Nat) = ((tk + (new.drop (tk - first)).length : Nat) : Int) := by
          rw [hud.length]
          omega
        have hw4 : upd H3 w (.ins C dx (putF "_taken" (.int ((tk : Int) + (us.length : Nat))) (wf l2 put tk))) w = some (.ins C dx (wf l2 put ((tk + (new.drop (tk - first)).length : Nat) : Int))) := by
          rw [upd_same, wf_pt, ez]
        have hl4 : upd H3 w (.ins C dx (putF "_taken" (.int ((tk : Int) + (us.length : Nat))) (wf l2 put tk))) l2 = some (.lst zs) := by rw [upd_ne nl2w]; exact s3 _ _ hl2
        have hm4 : upd H3 w (.ins C dx (putF "_taken" (.int ((tk : Int) + (us.length : Nat))) (wf l2 put tk))) m = some (.lst us) := by rw [upd_ne nmw]; exact hm
        have b4 : But (· ∈ [w, l]) H (upd H3 w (.ins C dx (putF "_taken" (.int ((tk : Int) + (us.length : Nat))) (wf l2 put tk)))) := (b2.trans (sameBut s3 _)).mut (by simp)
        have t4 : Tups H3 (upd H3 w (.ins C dx (putF "_taken" (.int ((tk : Int) + (us.length : Nat))) (wf l2 put tk)))) := (Tups.refl _).mut hw3 (by intro _ z; cases z)
        generalize upd H3 w (.ins C dx (putF "_taken" (.int ((tk : Int) + (us.length : Nat))) (wf l2 put tk))) = H4 at hw4 hl4 hm4 b4 t4 ⊢
        refine ⟨_, rfl, k m us [w, l2] H4 hm0 ?_ hm4 (hud.mono t4) ⟨dx, l2, zs, rfl, hw4, hl4, (hz2.mono (sameTups s3)).mono t4, fun d z => hR d (List.mem_of_mem_drop z), ?_⟩ (fun a z => ?_) b4⟩
        · simp only [List.mem_cons, List.not_mem_nil, or_false, not_or]
          exact ⟨nmw, nml⟩
        · rw [List.length_drop]
          omega
        · simp only [List.mem_cons, List.not_mem_nil, or_false] at z
          rcases z with rfl | rfl
          · exact .inl (by simp)
          · rcases hl20 with rfl | z0
            · exact .inl (by simp)
            · exact .inr z0
end
end K3
namespace GG
open PySem PySem.Spec PyProof.Rows L2
/-! ### o.m(e, ..) where what is let out is wished for at the caller's slots -/
section
variable {X : Cx} {CX : CXT} {k : Nat} {f C : Addr} {fd : FuncData} {ps : List Str} {sp : Sp} {E : L2.St → XK} {m : Str} {apos pos : Pos} {e o : Expr} {es : List Expr} {ta : TE} {t : TA}
def tMethX (C : Addr) (m : Str) (sp : Sp) (E : L2.St → XK) (ta : TE) (t : TA) : TE := fun σ H Q => tMeth C m sp [] (E σ) ta t σ H Q
theorem pe_methX {pl : Sem Bool} (he : PE X o ta) (c : Cls X.K C) (hm : Meth X.K C m f) (F : FnOk X.prog X.w X.K X.mg X.base CX k f fd ps sp) (hr : Room k X.A) (hb : Binds X.K fd ps []) (hx : ∀ σ, PassesAt CX X σ (E σ)) (ha : PA X (e :: es) t)
    (h1 : starEach (e :: es) X.env = (false, eval e X.env) :: starEach es X.env := by rfl) (h2 : (backTo pos (starEach es X.env)).any (·.1) = false := by rfl)
    (h3 : eval (.Call (.Attribute o m apos) (e :: es) [] pos) X.env = (do
      let ov ← eval o X.env
      standAt apos.atName
      let (f, first) ← holding [ov] (getMethod ov m pl)
      callWith pos f first (backTo pos (starEach (e :: es) X.env)) (backToKw pos (keywordEach [] X.env))) := by rfl) :
    PE X (.Call (.Attribute o m apos) (e :: es) [] pos) (tMethX C m sp E ta t) := by
  constructor
  intro pins s σ H Q I h
  refine PySem.W.methodCall_KW (pl := pl) (thn (he.run pins s σ H _ I h) ?_) h3
  rintro u s1 ⟨x, H1, I1, rx, a, dx, fs, rfl, ea, l, q⟩
  obtain rfl : u = Value.ref a := rx
  refine getmeth_ok I1 ea c hm l (PySem.W.callWith_K (first := [.ref a]) (h₀ := X.base) I.ok.mod.kin hm.kp (thn (ha.run pos pins s1 σ H1 _ I1 q) ?_) h1 h2)
  rintro us s2 ⟨vs, H2, I2, r, q2⟩
  rw [List.append_nil] at q2
  exact ⟨I2.kIn, run_fnS (us := .ref a :: us) (vs := .ref a :: vs) F hr hb (hx σ) I2 (.cons rfl r) q2⟩
end
end GG
namespace K3
open PySem PySem.Spec PyProof.Rows L2 GG
/-! ### what is a letter -/
def isNum : PyData → Bool
  | .int i => decide (0 ≤ i)
  | _ => false
def isTupD : PyData → Bool
  | .tuple _ => true
  | _ => false
def partsD : PyData → List PyData
  | .tuple ds => ds
  | _ => []
def leD (n : Nat) : PyData → Bool
  | .int i => decide (i ≤ (n : Int))
  | _ => false
def canTake (tk put : Nat) : PyData → Bool
  | .tuple [w, f, r, h] => isWd "rows" w && isNum f && isNum h && isTupD r && (partsD r).all isTupD && leD tk f && leD put h
  | _ => false
theorem ty_tup (d : PyData) : kitB (tyD d) "tuple" = some (isTupD d) := by
  cases d <;> first | rfl | decide +kernel
def isIntD : PyData → Bool
  | .int _ => true
  | .bool _ => true
  | _ => false
def isBoolD : PyData → Bool
  | .bool _ => true
  | _ => false
theorem ty_int (d : PyData) : kitB (tyD d) "int" = some (isIntD d) := by
  cases d <;> (simp only [tyD, isIntD]; decide +kernel)
theorem ty_bool (d : PyData) : kitB (tyD d) "bool" = some (isBoolD d) := by
  cases d <;> (simp only [tyD, isBoolD]; decide +kernel)
theorem iteNo {c A B : Prop} [Decidable c] (hc : ¬ c) (h : B) : if decide c = true then A else B := by
  rw [decide_eq_false hc]
  exact iteF h
theorem iteYes' {c A B : Prop} [Decidable c] (hc : ¬ c) (h : A) : if (!decide c) = true then A else B := by
  rw [decide_eq_false hc]
  exact iteT h
def spNumberX : Sp := fun vs H Q _ => ∃ (M : Addr → Prop) (v : V) (d : PyData), vs = [v] ∧ Dx M H v d ∧ Q (.bl (isNum d)) H
section
variable {P : Program} {w : World} {K : PySem.W.Frag} {mg : Str → Option Value} {base : Heap} {C : Addr}
theorem ok_numberX {f : Addr} {fd : FuncData} (F : Fun K "is_number" "is_number" sNumber f fd) (T : Txt mg) (zb : mg "bool" = none) : FnOk P w K mg base CX0 1 f fd ["thing"] spNumberX := by
  refine F.ok scNu (fun vs H Q E h => ?_) (fun cdv A outer s H vs Q E hr h => ?_)
  · obtain ⟨M, v, d, rfl, _⟩ := h
    rfl
  · obtain ⟨M, v, d, rfl, hd, k⟩ := h
    refine ⟨_, pss_one (ps_ret (pe_and (pe_callB call_isi (by rfl) T.isinstance (by decide +kernel) (pa_cons (pv 0) (pa_cons (pe_bltn (v := V.ty "int") (by rfl) T.int (by decide +kernel) rfl) pa_nil)))
      (pe_and (pe_not (pe_callB call_isi (by rfl) T.isinstance (by decide +kernel) (pa_cons (pv 0) (pa_cons (pe_bltn (v := V.ty "bool") (by rfl) zb (by decide +kernel) rfl) pa_nil))))
      (pe_one (pe_cmpR op_ge (pv 0) pe_int (nomark _)))))), ?_⟩
    refine ⟨_, rfl, v, .ty "int", .type (tyD d), .type "int", isIntD d, rfl, .ty _, hd.type, kit_ty (ty_int d), isIntD d, rfl, ?_⟩
    by_cases hi : isIntD d = true
    · rw [hi]
      refine iteT ?_
      refine ⟨_, rfl, v, .ty "bool", .type (tyD d), .type "bool", isBoolD d, rfl, .ty _, hd.type, kit_ty (ty_bool d), isBoolD d, rfl, !isBoolD d, rfl, ?_⟩
      cases hd with
      | int i =>
        refine iteT ⟨_, rfl, _, _, rfl, rfl, ?_⟩
        exact k
      | bl b => exact iteF k
      | non => cases hi
      | str z => cases hi
      | lst _ _ _ => cases hi
      | tup _ _ _ => cases hi
      | dic _ _ _ => cases hi
    · have hf : isIntD d = false := by simpa using hi
      rw [hf]
      refine iteF ?_
      have e : isNum d = false := by
        cases d <;> first | rfl | cases hf
      rw [e] at k
      exact k
def spWCanX (C : Addr) : Sp := fun vs H Q _ => ∃ (M : Addr → Prop) (w : Addr) (v : V) (d : PyData) (fp : List Addr) (rows : List PyData) (put tk : Nat), vs = [.ref w, v] ∧ WAtS C H fp w rows put tk ∧ Dx M H v d ∧ (partsD d).length ≤ 1000 ∧ (∀ e ∈ partsD d, (partsD e).length ≤ 1000) ∧
  ∀ H', Same H H' → Q (.bl (canTake tk put d)) H'
theorem ok_wcanX {f fn : Addr} {fd fdn : FuncData} (F : Fun K "_can_take" "Wire._can_take" sWCan f fd) (T : WTxt K mg C) (G : Txt mg) (za : mg "all" = none) (mW : ∃ t, mg "WORD" = some (.str "rows" t)) (m : mg "is_number" = some (.ref fn)) (kn : PySem.W.keepIn K (.ref fn) = true) (bn : Binds K fdn ["thing"] []) (Gn : FnOk P w K mg base CX0 1 fn fdn ["thing"] spNumberX) :
    FnOk P w K mg base CX0 2 f fd ["self", "letter"] (spWCanX C) := by
  obtain ⟨tW, mW⟩ := mW
  refine F.ok scW8 (fun vs H Q E h => ?_) (fun cdv A outer s H vs Q E hr h => ?_)
  · obtain ⟨M, w, v, d, fp, rows, put, tk, rfl, _⟩ := h
    rfl
  · obtain ⟨M, w, v, d, fp, rows, put, tk, rfl, ⟨dx, l, xs, rfl, hw, hl, hx, hR, hp⟩, hd, hlen, hlen2, k⟩ := h
    have nd := scW8.nd
    refine ⟨_, pss_cons (ps_if (PW.pt (pw_or (pt_not (pt_val (pe_callB call_isi (by rfl) G.isinstance (by decide +kernel) (pa_cons (pv 1) (pa_cons (pe_bltn (v := V.ty "tuple") (by rfl) G.tuple (by decide +kernel) rfl) pa_nil)))))
          (pw_or1 (pt_cmpR op_ne (pe_callB call_len_seq (by rfl) G.len PySem.boot_len (pa_cons (pv 1) pa_nil)) pe_int (nomark _))))) (pss_one (ps_ret pe_bl)) pss_nil)
      (pss_cons (ps_asg (pv 1) (pg_tup rfl (pgs_cons (pg_name (i := 2) nd rfl (Or.inl rfl)) (pgs_cons (pg_name (i := 3) nd rfl (Or.inl rfl)) (pgs_cons (pg_name (i := 4) nd rfl (Or.inl rfl)) (pgs_cons (pg_name (i := 5) nd rfl (Or.inl rfl)) pgs_nil))))))
      (pss_cons (ps_if (PW.pt (pw_or (pt_cmpR (op_neXs (M := M) hr.units) (pv 2) (pe_glob (v := V.str "rows") rfl mW ⟨_, rfl⟩) (nomark _))
          (pw_or (pt_not (pt_val (pe_call Gn hr (by rfl) m kn bn .nil pass0 (pa_cons (pv 3) pa_nil))))
          (pw_or1 (pt_not (pt_val (pe_call Gn hr (by rfl) m kn bn .nil pass0 (pa_cons (pv 5) pa_nil)))))))) (pss_one (ps_ret pe_bl)) pss_nil)
      (pss_cons (ps_if (PW.pt (pw_or (pt_not (pt_val (pe_callB call_isi (by rfl) G.isinstance (by decide +kernel) (pa_cons (pv 4) (pa_cons (pe_bltn (v := V.ty "tuple") (by rfl) G.tuple (by decide +kernel) rfl) pa_nil)))))
          (pw_or1 (pt_not (pt_val (pe_callB (cr_all rfl) (by rfl) za (by decide +kernel) (pa_cons (pe_lc (own := [("row", 6)]) (g := gName 6) (tt := tYes) rfl nd (pi_tup (pv 4))
          (blkOk_by (N := ["self", "letter", "word", "first", "rows", "heard", "row"]) (sc := defScope sWCan) (by decide +kernel)) (fun _ _ _ _ _ => pg_name (i := 6) nd rfl (Or.inl rfl)) (fun _ _ _ _ _ => pts_nil)
          (fun _ _ _ _ _ => pe_callB (id := "isinstance") (r := rIsi K) call_isi (by rfl) G.isinstance (by decide +kernel) (pa_cons (pv 6) (pa_cons (pe_bltn (v := V.ty "tuple") (by rfl) G.tuple (by decide +kernel) rfl) pa_nil)))) pa_nil))))))) (pss_one (ps_ret pe_bl)) pss_nil)
      (pss_one (ps_ret (pe_and (pe_cmpR op_le (pv 3) (pe_fld (pv 0) rfl) (nomark _)) (pe_one (pe_cmpR op_le (pv 5) (pe_fld (pv 0) rfl) (nomark _))))))))), ?_⟩
    have no : ∀ b : Bool, canTake tk put d = b → ∀ H', Same H H' → Q (.bl b) H' := fun b e H' s => e ▸ k H' s
    refine ⟨_, rfl, v, .ty "tuple", .type (tyD d), .type "tuple", isTupD d, rfl, .ty _, hd.type, kit_ty (ty_tup d), isTupD d, rfl, ?_⟩
    cases hd with
    | non => exact iteT (no false rfl H (Same.refl _))
    | bl b => exact iteT (no false rfl H (Same.refl _))
    | int i => exact iteT (no false rfl H (Same.refl _))
    | str z => exact iteT (no false rfl H (Same.refl _))
    | lst _ _ _ => exact iteT (no false rfl H (Same.refl _))
    | dic _ _ _ => exact iteT (no false rfl H (Same.refl _))
    | @tup t ys ds nt ht hA =>
    refine iteF ⟨_, rfl, t, _, rfl, .inr (SqT.of ht), rfl, _, rfl, ?_⟩
    have hl4 := hA.length
    by_cases h4 : ds.length = 4
    · refine iteNS (by rw [hl4, h4]; rfl) ?_
      obtain ⟨dw, df, dr, dh, rfl⟩ : ∃ a b c d, ds = [a, b, c, d] := by
        match ds, h4 with
        | [a, b, c, d], _ => exact ⟨a, b, c, d, rfl⟩
      cases hA with
      | @cons vw _ _ _ h0 hA =>
      cases hA with
      | @cons vf _ _ _ h1 hA =>
      cases hA with
      | @cons vr _ _ _ h2 hA =>
      cases hA with
      | @cons vh _ _ _ h3 hA =>
      cases hA
      refine ⟨_, rfl, t, _, rfl, SqT.of ht, rfl, _, _, rfl, _, _, rfl, _, _, rfl, _, _, rfl, rfl, ?_⟩
      refine ⟨_, rfl, dw, "rows", h0, rfl, _, rfl, ?_⟩
      by_cases e0 : isWd "rows" dw = true
      rotate_left
      · rw [Bool.not_eq_true] at e0
        rw [e0]
        exact iteT (no false (by simp [canTake, e0]) H (Same.refl _))
      rw [e0]
      refine iteF ⟨_, rfl, _, vf, df, rfl, h1, isNum df, rfl, ?_⟩
      by_cases e1 : isNum df = true
      rotate_left
      · rw [Bool.not_eq_true] at e1
        rw [e1]
        exact iteT (no false (by simp [canTake, e1]) H (Same.refl _))
      rw [e1]
      refine iteF ⟨_, rfl, _, vh, dh, rfl, h3, isNum dh, rfl, ?_⟩
      by_cases e3 : isNum dh = true
      rotate_left
      · rw [Bool.not_eq_true] at e3
        rw [e3]
        exact iteT (no false (by simp [canTake, e3]) H (Same.refl _))
      rw [e3]
      refine iteF ⟨_, rfl, vr, .ty "tuple", .type (tyD dr), .type "tuple", isTupD dr, rfl, .ty _, h2.type, kit_ty (ty_tup dr), isTupD dr, rfl, ?_⟩
      by_cases e2 : isTupD dr = true
      rotate_left
      · rw [Bool.not_eq_true] at e2
        rw [e2]
        exact iteT (no false (by simp [canTake, e2]) H (Same.refl _))
      rw [e2]
      obtain ⟨rs, rfl⟩ : ∃ rs, dr = .tuple rs := by
        cases dr <;> first | exact ⟨_, rfl⟩ | cases e2
      obtain ⟨r, rfl⟩ := h2.ref_of
      obtain ⟨zs, hr', hz⟩ := h2.tupI
      obtain ⟨i1, rfl, q1⟩ : ∃ i, df = .int i ∧ 0 ≤ i := by
        cases df <;> first | exact ⟨_, rfl, of_decide_eq_true e1⟩ | cases e1
      obtain ⟨i3, rfl, q3⟩ : ∃ i, dh = .int i ∧ 0 ≤ i := by
        cases dh <;> first | exact ⟨_, rfl, of_decide_eq_true e3⟩ | cases e3
      cases h1
      cases h3
      have rs1000 : rs.length ≤ 1000 := hlen2 (.tuple rs) (by show _ ∈ [dw, .int i1, .tuple rs, .int i3]; simp)
      refine iteF ⟨_, rfl, r, rfl, ⟨zs, SqT.of hr'⟩, fun D hD => ?_⟩
      refine lc_tup (K := K) (a := r) (xs := zs) (fun i H' => H' D = some (.lst (((rs.take i).map isTupD).map V.bl)) ∧ Same H H') ?_ ?_ ?_ ?_
      · exact ⟨upd_same, same_new (Same.refl _) hD⟩
      · rintro i H' _ ⟨hDl, s⟩
        exact SqT.of (s _ _ hr')
      · rintro i x H' hi ⟨hDl, s⟩
        obtain ⟨d, hdi, hdx⟩ := hz.get i x hi
        have hil : i < rs.length := (List.getElem?_eq_some_iff.mp hdi).1
        refine ⟨rfl, _, rfl, x, .ty "tuple", .type (tyD d), .type "tuple", isTupD d, rfl, .ty _, (hdx.mono (sameBut s _)).type, kit_ty (ty_tup d), _, hDl, ?_, ?_, same_mut s hD⟩
        · rw [List.length_map, List.length_map, List.length_take]
          exact small1000 (by omega)
        · rw [upd_same, List.take_add_one, hdi, List.map_append, List.map_append]
          rfl
      · rintro H' ⟨hDl, s⟩
        rw [hz.length, List.take_length] at hDl
        refine ⟨D, _, rfl, SqL.of hDl, ?_⟩
        have ea : (rs.map isTupD).all id = rs.all isTupD := by rw [List.all_map]; rfl
        rw [ea]
        by_cases e4 : rs.all isTupD = true
        rotate_left
        · rw [Bool.not_eq_true] at e4
          rw [e4]
          exact ⟨_, rfl, iteT (no false (by simp [canTake, partsD, e4]) H' s)⟩
        rw [e4]
        refine ⟨_, rfl, iteF ?_⟩
        refine ⟨_, rfl, _, rfl, w, C, dx, _, _, rfl, s _ _ hw, T.cl, T.nT, wf_t _ _ _, _, _, rfl, rfl, ?_⟩
        by_cases e5 : i1 ≤ (tk : Int)
        rotate_left
        · exact ⟨_, rfl, iteNo e5 (no false (by simp [canTake, leD, e5]) H' s)⟩
        refine ⟨_, rfl, iteYes e5 ⟨_, rfl, _, rfl, w, C, dx, _, _, rfl, s _ _ hw, T.cl, T.nK, wf_k _ _ _, _, _, rfl, rfl, ?_⟩⟩
        refine no _ ?_ H' s
        simp only [canTake, e0, e1, e3, e2, e4, partsD, leD, Bool.true_and, decide_eq_true e5]
    · refine iteYes' ?_ (no false ?_ H (Same.refl _))
      · rw [hl4]
        simpa using fun z : (ds.length : Int) = 4 => h4 (by omega)
      · match ds, h4 with
        | [], _ => rfl
        | [_], _ => rfl
        | [_, _], _ => rfl
        | [_, _, _], _ => rfl
        | [_, _, _, _], z => exact absurd rfl z
        | _ :: _ :: _ :: _ :: _ :: _, _ => rfl
end
end K3
namespace K3
open PySem PySem.Spec PyProof.Rows L2 GG
/-! ### NoLetter, made; a wire that takes no letter -/
abbrev sNLInit : Stmt := inClass (top 4) 0
theorem scNL : FnScope ["self", "asked"] ["self", "asked"] (defScope sNLInit) := ⟨rfl, rfl, rfl, by decide +kernel, rfl, by decide +kernel, by decide +kernel⟩
/-- what the written part says of an exception's class at D with one field -/
structure ExT (K : PySem.W.Frag) (D : Addr) (f : Str) : Prop where
  ox : OexC K D
  ek : ExkC K D
  no : PySem.W.findIn K (.ref D) f = some none
def spXInit (D : Addr) (f : Str) : Sp := fun vs H Q _ => ∃ (a : Addr) (v : V), vs = [.ref a, v] ∧ H a = some (exo a D none) ∧ ∀ dx, H dx = none → dx ≠ a → Q .non (upd (upd H dx (exd dx [(f, v)])) a (exo a D (some dx)))
/-- data of which copied knows -/
structure Cp (M : Addr → Prop) (H : Hp) (v : V) (d : PyData) (n : Nat) : Prop where
  dx : Dx M H v d
  deep : d.depth ≤ n
  few : FewX n d
def spWTakeR (W : WK) (D : Addr) : Sp := fun vs H Q E => ∃ (M : Addr → Prop) (w : Addr) (v : V) (d : PyData) (fp : List Addr) (rows : List PyData) (put tk : Nat), vs = [.ref w, v] ∧ W.At H fp w rows put tk ∧ Cp M H v d 7 ∧ canTake tk put d = false ∧ (∀ b, M b → H b ≠ none) ∧
  ∀ (dd : Addr) (v' : V) (H' : Hp), Dx M H' v' d → H' dd = some (.xd [("asked", v')]) → Same H H' → E (.ref D) (some dd) H'
section
variable {P : Program} {w : World} {K : PySem.W.Frag} {mg : Str → Option Value} {base : Heap} {C : Addr}
theorem ok_nlInit {D f : Addr} {fd : FuncData} (F : Fun K "__init__" "NoLetter.__init__" sNLInit f fd) (T : ExT K D "asked") : FnOk P w K mg base CX0 1 f fd ["self", "asked"] (spXInit D "asked") := by
  refine F.ok scNL (fun vs H Q E h => ?_) (fun cdv A outer s H vs Q E hr h => ?_)
  · obtain ⟨a, v, rfl, _⟩ := h
    rfl
  · obtain ⟨a, v, rfl, ha, k⟩ := h
    refine ⟨_, pss_one (ps_ost (pv 0) (pv 1)), ?_⟩
    exact ⟨_, rfl, _, rfl, a, D, rfl, T.ox, T.no, .inl ⟨ha, fun dx h1 h2 => k dx h1 h2⟩⟩
theorem few_parts {n : Nat} {d : PyData} (h : FewX (n + 2) d) : (partsD d).length ≤ 1000 ∧ ∀ e ∈ partsD d, (partsD e).length ≤ 1000 := by
  cases d with
  | tuple ds =>
    obtain ⟨h1, h2⟩ := h.1 ds (.inr rfl)
    refine ⟨h1, fun e he => ?_⟩
    cases e with
    | tuple es => exact ((h2 _ he).1 es (.inr rfl)).1
    | _ => exact Nat.zero_le _
  | _ => exact ⟨Nat.zero_le _, fun e he => absurd he (by simp [partsD])⟩
theorem ok_wtakeR {D f fi fc fI : Addr} {fd fdi fdc fdI : FuncData} (F : Fun K "take" "Wire.take" sWTake f fd) (T : WTxt K mg C) (G : Txt mg) (mi : Meth K C "_can_take" fi) (bi : Binds K fdi ["self", "letter"] []) (Gi : FnOk P w K mg base CX0 2 fi fdi ["self", "letter"] (spWCanX C))
    (m : mg "copied" = some (.ref fc)) (kc : PySem.W.keepIn K (.ref fc) = true) (bc : Binds K fdc ["thing"] []) (Gc : FnOk P w K mg base CX0 8 fc fdc ["thing"] (spCopiedA 7))
    (TD : ExT K D "asked") (mD : mg "NoLetter" = some (.ref D)) (iD : PySem.W.findIn K (.ref D) "__init__" = some (some (.ref fI))) (tI : PySem.W.typeIn K (.ref fI) = some (.type "function")) (bI : Binds K fdI ["self", "asked"] []) (GI : FnOk P w K mg base CX0 1 fI fdI ["self", "asked"] (spXInit D "asked")) :
    FnOk P w K mg base (L2.CX P w) 9 f fd ["self", "letter"] (spWTakeR (wk C) D) := by
  refine F.okX scW5 (fun vs H Q E h => ?_) (fun cdv A outer s H vs Q E hr h => ?_)
  · obtain ⟨M, w, v, d, fp, rows, put, tk, rfl, _⟩ := h
    rfl
  · obtain ⟨M, w, v, d, fp, rows, put, tk, rfl, hW, hd, hno, hM, k⟩ := h
    have hr2 : Room 2 _ := hr.mono (by decide)
    have nd := scW5.nd
    refine ⟨_, pss_cons (ps_if (pt_not (pt_val (pe_meth (pv 0) T.cl mi Gi hr2 bi .nil pass0 (pa_cons (pv 1) pa_nil))))
        (pss_one (ps_raise rfl (takes_of rfl rfl rfl rfl) (pmk_oex TD.ox iD tI GI hr2 bI .nil pass0 rfl mD (pa_cons (pe_call Gc hr (by rfl) m kc bc .nil pass0 (pa_cons (pv 1) pa_nil)) pa_nil)))) pss_nil)
      (pss_cons ps_never (pss_cons ps_never (pss_cons ps_never (pss_cons ps_never (pss_cons ps_never (pss_one ps_never)))))), ?_⟩
    obtain ⟨dx, l, xs, rfl, hw, hl, hx, hR, hp⟩ := id hW
    obtain ⟨f1, f2⟩ := few_parts (n := 5) hd.few
    refine ⟨_, rfl, w, dx, _, rfl, hw, wf_no _ _ _ _ (by simp), _, rfl, M, w, v, d, [w, l], rows, put, tk, rfl, hW, hd.dx, f1, f2, fun H1 s1 => ?_⟩
    rw [hno]
    refine ⟨_, rfl, iteT ?_⟩
    refine ⟨_, rfl, M, v, d, rfl, hd.dx.mono (sameBut s1 _), hd.deep, hd.few, fun b mb z => hM b mb (s1.free z), fun v' H2 hv s2 => ⟨by show 1 ≤ 1000; decide, fun a ha => ?_⟩⟩
    refine ⟨a, v', rfl, upd_same, fun e h1 h2 => ⟨rfl, e, [("asked", v')], upd_same, by rw [upd_ne h2, upd_same], (by rw [upd_ne h2] at h1; exact h1), ?_⟩⟩
    have h3 : H2 e = none := by rw [upd_ne h2] at h1; exact h1
    have s3 : Same H2 (upd (del (upd (upd (upd H2 a (exo a D none)) e (exd e [("asked", v')])) a (exo a D (some e))) a) e (.xd [("asked", v')])) := fun b o z => by
      have n1 := ne_of_none z ha
      have n2 := ne_of_none z h3
      rw [upd_ne n2, del_ne n1, upd_ne n1, upd_ne n2, upd_ne n1]
      exact z
    exact k e v' _ (hv.mono (sameBut s3 _)) upd_same ((s1.trans s2).trans s3)
end
end K3
namespace K3
open PySem PySem.Spec PyProof.Rows L2 GG
abbrev sRefused : Stmt := top 26
theorem scRf : FnScope ["_law_wire", "_law_thing", "_law_caught", "e"] ["_law_wire", "_law_thing"] (defScope sRefused) := ⟨rfl, rfl, rfl, by decide +kernel, rfl, by decide +kernel, by decide +kernel⟩
/-- the classes that _law_refused asks for -/
structure RefT (K : PySem.W.Frag) (mg : Str → Option Value) (D A1 A2 A3 : Addr) : Prop where
  gD : mg "NoLetter" = some (.ref D)
  g1 : mg "BadArgs" = some (.ref A1)
  g2 : mg "BadPlan" = some (.ref A2)
  g3 : mg "BadText" = some (.ref A3)
  gV : mg "ValueError" = none
  any : PySem.W.kitAny K (.ref D) [.ref A1, .ref A2, .ref A3] = some false
  one : PySem.W.kitOne K (.ref D) (.type "ValueError") = some true
  exm : PySem.W.exmOne K (.ref D) (.ref D) = some true
  ext : ExT K D "asked"
def spRefused (W : WK) : Sp := fun vs H Q _ => ∃ (M : Addr → Prop) (w : Addr) (v : V) (d : PyData) (fp : List Addr) (rows : List PyData) (put tk : Nat), vs = [.ref w, v] ∧ W.At H fp w rows put tk ∧ Cp M H v d 7 ∧ canTake tk put d = false ∧ (∀ b, M b → H b ≠ none) ∧ ShowX d ∧ ∀ H', Same H H' → Q (.bl true) H'
section
variable {P : Program} {w : World} {K : PySem.W.Frag} {mg : Str → Option Value} {base : Heap} {W : WK}
theorem ok_refused {D A1 A2 A3 f ft : Addr} {fd fdt : FuncData} (F : Fun K "_law_refused" "_law_refused" sRefused f fd) (T : Txt mg) (R : RefT K mg D A1 A2 A3) (cl : Cls K W.C)
    (mt : Meth K W.C "take" ft) (bt : Binds K fdt ["self", "letter"] []) (Gt : FnOk P w K mg base (L2.CX P w) 9 ft fdt ["self", "letter"] (spWTakeR W D)) : FnG P w K mg base CX0 10 f fd ["_law_wire", "_law_thing"] (spRefused W) := by
  refine fun_okG F scRf (fun vs H Q E h => ?_) (fun cdv A0 outer s0 H vs Q E hg hr h => ?_)
  · obtain ⟨M, w, v, d, fp, rows, put, tk, rfl, _⟩ := h
    rfl
  · obtain ⟨M, w, v, d, fp, rows, put, tk, rfl, hW, hd, hno, hM, hsh, k⟩ := h
    have nd := scRf.nd
    refine ⟨_, pss_cons (ps_set (i := 2) nd rfl (.inl rfl) pe_non)
      (pss_cons (ps_try_keep (i := 3) rfl rfl rfl nd rfl rfl ⟨rfl, by decide, .inl R.gD⟩ takes0
          (fun Wx pn xe tk _ => pss_one (ps_expr (pe_methX (pv 0) cl mt Gt hr bt (fun σ => passAt tk σ) (pa_cons (pv 1) pa_nil))))
          (fun a oe cls d pn hz hf => pss_one (ps_set (i := 2) nd rfl (.inl rfl) (pv 3))))
      (pss_cons (ps_if (PW.pt (pw_or (pt_cmpR op_isN (pv 2) pe_non (nomark _)) (pw_or (pt_val (pe_callB (id := "isinstance") (r := rIsiKT K) call_isiKT (by rfl) T.isinstance (by decide +kernel) (pa_cons (pv 2) (pa_cons (pe_tup (pa_cons (pe_glob (v := .ref A1) rfl R.g1 rfl) (pa_cons (pe_glob (v := .ref A2) rfl R.g2 rfl) (pa_cons (pe_glob (v := .ref A3) rfl R.g3 rfl) pa_nil)))) pa_nil))))
          (pw_or1 (pt_not (pt_val (pe_callB (id := "isinstance") (r := rIsiK1 K) call_isiK1 (by rfl) T.isinstance (by decide +kernel) (pa_cons (pv 2) (pa_cons (pe_bltn (v := V.ty "ValueError") (by rfl) R.gV (by decide +kernel) rfl) pa_nil))))))))) (pss_one (ps_ret pe_bl)) pss_nil)
      (pss_one (ps_ret (pe_cmpR op_eq (pe_callB (id := "repr") (r := rReprX M) (call_reprX hg hr.units) (by rfl) T.repr (by decide +kernel) (pa_cons (pe_exf (pv 2)) pa_nil)) (pe_callB (id := "repr") (r := rReprX M) (call_reprX hg hr.units) (by rfl) T.repr (by decide +kernel) (pa_cons (pv 1) pa_nil)) (nomark _)))))), ?_⟩
    obtain ⟨dx, fs, hins, hfs⟩ := W.ins hW
    refine ⟨_, rfl, w, dx, fs, rfl, hins, hfs _ (by simp), _, rfl, M, w, v, d, fp, rows, put, tk, rfl, hW, hd, hno, hM, fun dd v' H1 hv hdd s1 => ?_⟩
    refine ⟨true, R.exm, fun _ a ha => ?_, fun z => nomatch z⟩
    refine ⟨_, rfl, fun ha2 => ?_⟩
    have s2 := same_new (Same.refl H1) ha2 (o := exk a (.ref D) (some dd))
    have a2 := upd_same (H := H1) (a := a) (o := exk a (.ref D) (some dd))
    generalize upd H1 a (exk a (.ref D) (some dd)) = H2 at s2 a2 ⊢
    refine ⟨_, rfl, rfl, _, rfl, iteNo (fun z => nomatch z) ?_⟩
    refine ⟨_, rfl, (by show 3 ≤ sizeLine; decide), fun tp htp => ?_⟩
    have s3 := same_new (Same.refl H2) htp (o := .tup [.ref A1, .ref A2, .ref A3])
    have a3 := upd_same (H := H2) (a := tp) (o := .tup [.ref A1, .ref A2, .ref A3])
    generalize upd H2 tp (.tup [.ref A1, .ref A2, .ref A3]) = H3 at s3 a3 ⊢
    refine ⟨a, D, dd, tp, _, _, _, false, rfl, a3, .cons (.own _) (.cons (.own _) (.cons (.own _) .nil)), s3 _ _ a2, s3 _ _ (s2 _ _ hdd), R.ext.ek, R.any, false, rfl, iteF ?_⟩
    refine ⟨_, rfl, a, D, dd, _, _, _, true, rfl, .ty _, s3 _ _ a2, s3 _ _ (s2 _ _ hdd), R.ext.ek, R.one, true, rfl, iteF ?_⟩
    refine ⟨_, rfl, a, D, dd, _, v', rfl, s3 _ _ a2, s3 _ _ (s2 _ _ hdd), R.ext.ek, R.ext.no, rfl, v', d, rfl, (hv.mono (sameBut s2 _)).mono (sameBut s3 _), hsh, ?_⟩
    refine ⟨_, rfl, v, d, rfl, hd.dx.mono (sameBut ((s1.trans s2).trans s3) _), hsh, rfl, ?_⟩
    show Q (V.bl (decide (V.str d.shown = V.str d.shown))) H3
    rw [decide_eq_true rfl]
    exact k H3 ((s1.trans s2).trans s3)
end
end K3
namespace K3
open PySem L2 GG
abbrev sEnd : Stmt := top 18
abbrev sLetOf : Stmt := top 19
abbrev sFresh : Stmt := top 20
abbrev sRight : Stmt := top 21
def endK (q : Addr) (kn tk : Nat) : List (Key × V) := [(Sum.inr "put", .ref q), (Sum.inr "known", .int kn), (Sum.inr "taken", .int tk)]
theorem end_gp {H : Hp} {e q : Addr} {kn tk : Nat} (h : H e = some (.dK (endK q kn tk))) : DGet H e (.str "put") (some (.ref q)) := DGet.k (k := Sum.inr "put") h
theorem end_gk {H : Hp} {e q : Addr} {kn tk : Nat} (h : H e = some (.dK (endK q kn tk))) : DGet H e (.str "known") (some (.int kn)) := DGet.k (k := Sum.inr "known") h
theorem end_gt {H : Hp} {e q : Addr} {kn tk : Nat} (h : H e = some (.dK (endK q kn tk))) : DGet H e (.str "taken") (some (.int tk)) := DGet.k (k := Sum.inr "taken") h
theorem end_pt {H : Hp} {e q : Addr} {kn tk n : Nat} (h : H e = some (.dK (endK q kn tk))) : DPut H e (.str "taken") (.int (n : Int)) (upd H e (.dK (endK q kn n))) := DPut.k (k := Sum.inr "taken") h (by show 3 < sizeLine; decide)
theorem end_pk {H : Hp} {e q : Addr} {kn tk n : Nat} (h : H e = some (.dK (endK q kn tk))) : DPut H e (.str "known") (.int (n : Int)) (upd H e (.dK (endK q n tk))) := DPut.k (k := Sum.inr "known") h (by show 3 < sizeLine; decide)
/-- an end of the law's own -/
def EndAt (H : Hp) (e q : Addr) (rows : List PyData) (kn tk : Nat) : Prop := H e = some (.dK (endK q kn tk)) ∧ (∃ xs, H q = some (.lst xs) ∧ DtAll H xs rows) ∧ kn ≤ rows.length ∧ rows.length ≤ 1000 ∧ (∀ d ∈ rows, RowD d)
def spEnd : Sp := fun vs H Q _ => vs = [] ∧ ∀ (e q : Addr) (H' : Hp), H e = none → H q = none → e ≠ q → H' e = some (.dK (endK q 0 0)) → H' q = some (.lst []) → Same H H' → Q (.ref e) H'
def spLetOf : Sp := fun vs H Q _ => ∃ (e q : Addr) (rows : List PyData) (kn tk : Nat), vs = [.ref e] ∧ EndAt H e q rows kn tk ∧
  ∀ (t : Addr) (H' : Hp), H t = none → Dt H' (.ref t) (LetD kn (rows.drop kn) tk) → Same H H' → Q (.ref t) H'
def spFresh : Sp := fun vs H Q _ => ∃ (e t q : Addr) (new : List PyData) (kn tk first heard : Nat), vs = [.ref e, .ref t] ∧ H e = some (.dK (endK q kn tk)) ∧ Dt H (.ref t) (LetD first new heard) ∧ new.length ≤ 1000 ∧ tk ≤ 1000 ∧ first ≤ tk ∧
  ∀ (l : Addr) (xs : List V) (H' : Hp), H l = none → H' l = some (.lst xs) → DtAll H' xs (new.drop (tk - first)) → H' e = some (.dK (endK q (max kn heard) (tk + (new.drop (tk - first)).length))) → But (· = e) H H' → Q (.ref l) H'
theorem scE : FnScope [] [] (defScope sEnd) := ⟨rfl, rfl, rfl, by decide +kernel, rfl, by decide +kernel, by decide +kernel⟩
theorem scLO : FnScope ["_law_end_here"] ["_law_end_here"] (defScope sLetOf) := ⟨rfl, rfl, rfl, by decide +kernel, rfl, by decide +kernel, by decide +kernel⟩
theorem scFr : FnScope ["_law_end_here", "_law_letter", "_law_fresh"] ["_law_end_here", "_law_letter"] (defScope sFresh) := ⟨rfl, rfl, rfl, by decide +kernel, rfl, by decide +kernel, by decide +kernel⟩
section
variable {P : Program} {w : World} {K : PySem.W.Frag} {mg : Str → Option Value} {base : Heap}
theorem ok_end {f : Addr} {fd : FuncData} (F : Fun K "_law_end" "_law_end" sEnd f fd) : FnOk P w K mg base CX0 1 f fd [] spEnd := by
  refine F.ok scE (fun vs H Q E h => ?_) (fun cdv A outer s H vs Q E hr h => ?_)
  · obtain ⟨rfl, _⟩ := h
    rfl
  · obtain ⟨rfl, k⟩ := h
    refine ⟨_, pss_one (ps_ret (pe_disp (pps_cons pe_str (pe_lst pa_nil) (pps_cons pe_str pe_int (pps_cons pe_str pe_int pps_nil))) (by rfl) (by rfl) (fun z => by cases z) (by decide))), ?_⟩
    intro e he
    refine ⟨Nat.zero_le _, fun q hq => ?_⟩
    have ne : e ≠ q := ne_of_none upd_same hq
    have hq0 : H q = none := by rw [upd_ne ne.symm] at hq; exact hq
    refine ⟨by rw [upd_ne ne, upd_same], [(Sum.inr "put", .ref q), (Sum.inr "known", .int 0), (Sum.inr "taken", .int 0)], rfl, (by show 3 ≤ 15; decide), ?_⟩
    refine k e q _ he hq0 ne upd_same (by rw [upd_ne ne.symm, upd_same]) (fun b o z => ?_)
    rw [upd_ne (ne_of_none z he), upd_ne (ne_of_none z hq0), upd_ne (ne_of_none z he)]
    exact z
theorem ok_letOf {f : Addr} {fd : FuncData} (F : Fun K "_law_letter_of" "_law_letter_of" sLetOf f fd) (T : Txt mg) : FnOk P w K mg base CX0 1 f fd ["_law_end_here"] spLetOf := by
  refine F.ok scLO (fun vs H Q E h => ?_) (fun cdv A outer s H vs Q E hr h => ?_)
  · obtain ⟨e, q, rows, kn, tk, rfl, _⟩ := h
    rfl
  · obtain ⟨e, q, rows, kn, tk, rfl, ⟨he, ⟨xs, hq, hx⟩, hk, h1000, hrow⟩, k⟩ := h
    have hu := hu_of hr
    refine ⟨_, pss_one (ps_ret (pe_tup (pa_cons pe_str (pa_cons (pe_dget hu (pv 0) pe_str (fun _ _ => rfl))
      (pa_cons (pe_callTy call_tuple_of (by rfl) T.tuple (by decide +kernel) (pa_cons (pe_slice sl_list (pe_dget hu (pv 0) pe_str (fun _ _ => rfl)) (po_some (pe_dget hu (pv 0) pe_str (fun _ _ => rfl))) po_none) pa_nil))
      (pa_cons (pe_dget hu (pv 0) pe_str (fun _ _ => rfl)) pa_nil)))))), ?_⟩
    refine ⟨_, rfl, e, _, rfl, end_gk he, _, rfl, e, _, rfl, end_gp he, _, rfl, e, _, rfl, end_gk he, _, rfl, q, _, rfl, SqL.of hq, fun l hl => ?_⟩
    rw [cutV_drop]
    refine ⟨l, _, rfl, .inl ⟨SqL.of upd_same, fun t ht => ?_⟩⟩
    have nel : e ≠ l := ne_of_none he hl
    have net : e ≠ t := ne_of_none (show upd H l (.lst (xs.drop kn)) e = some (.dK (endK q kn tk)) by rw [upd_ne nel]; exact he) ht
    refine ⟨_, rfl, e, _, rfl, end_gt (q := q) (kn := kn) (tk := tk) (by rw [upd_ne net, upd_ne nel]; exact he), (by show 4 ≤ sizeLine; decide), fun u hu2 => ?_⟩
    have s1 : Same H (upd H l (.lst (xs.drop kn))) := fun b o z => by rw [upd_ne (ne_of_none z hl)]; exact z
    have s2 : Same H (upd (upd H l (.lst (xs.drop kn))) t (.tup (xs.drop kn))) := fun b o z => by rw [upd_ne (ne_of_none (s1 _ _ z) ht)]; exact s1 _ _ z
    have s3 : Same (upd (upd H l (.lst (xs.drop kn))) t (.tup (xs.drop kn))) (upd (upd (upd H l (.lst (xs.drop kn))) t (.tup (xs.drop kn))) u (.tup [.str "rows", .int kn, .ref t, .int tk])) := fun b o z => by rw [upd_ne (ne_of_none z hu2)]; exact z
    have s4 := s2.trans s3
    refine k u _ (s2.free hu2) (.tup upd_same (.cons (.str _) (.cons (.int _) (.cons (.tup (s3 _ _ upd_same) ((hx.drop kn).mono (sameTups s4))) (.cons (.int _) .nil))))) s4
theorem ok_fresh {f : Addr} {fd : FuncData} (F : Fun K "_law_fresh_by" "_law_fresh_by" sFresh f fd) (T : Txt mg) : FnOk P w K mg base CX0 1 f fd ["_law_end_here", "_law_letter"] spFresh := by
  refine F.ok scFr (fun vs H Q E h => ?_) (fun cdv A outer s H vs Q E hr h => ?_)
  · obtain ⟨e, t, q, new, kn, tk, first, heard, rfl, _⟩ := h
    rfl
  · obtain ⟨e, t, q, new, kn, tk, first, heard, rfl, he, hL, hn, htk, hft, k⟩ := h
    have hu := hu_of hr
    obtain ⟨ls, ht, hls⟩ := hL.tupI
    cases hls with
    | cons h0 hls =>
    cases hls with
    | cons h1 hls =>
    cases hls with
    | cons h2 hls =>
    cases hls with
    | cons h3 hls =>
    cases hls
    cases h0
    cases h1
    cases h3
    obtain ⟨r, rfl⟩ := h2.ref_of
    obtain ⟨ys, hR, hy⟩ := h2.tupI
    refine ⟨_, C8.pss_cut (ps_set (i := 2) scFr.nd rfl (.inl rfl) (pe_slice sl_list (pe_callTy call_list_of (by rfl) T.list (by decide +kernel) (pa_cons (pe_ix ix_tup (pv 1) pe_int (fun _ _ => rfl)) pa_nil))
        (po_some (pe_callB (call_max2 rfl) (by rfl) T.max (by decide +kernel) (pa_cons pe_int (pa_cons (pe_op op_sub (pe_dget hu (pv 0) pe_str (fun _ _ => rfl)) (pe_ix ix_tup (pv 1) pe_int (fun _ _ => rfl))) pa_nil)))) po_none))
      (pss_cons (ps_dput hu (pv 0) pe_str (pe_op op_add (pe_dget hu (pv 0) pe_str (fun _ _ => rfl)) (pe_callB call_len_seq (by rfl) T.len PySem.boot_len (pa_cons (pv 2) pa_nil))) rfl)
      (pss_cons (ps_dput hu (pv 0) pe_str (pe_callB (call_max2 rfl) (by rfl) T.max (by decide +kernel) (pa_cons (pe_dget hu (pv 0) pe_str (fun _ _ => rfl)) (pa_cons (pe_ix ix_tup (pv 1) pe_int (fun _ _ => rfl)) pa_nil))) rfl)
      (pss_one (ps_ret (pv 2))))), ?_⟩
    have hlen := hy.length
    refine ⟨fun σ' H' => ∃ l : Addr, H l = none ∧ l ≠ e ∧ σ' = [some (.ref e), some (.ref t), some (.ref l)] ∧ H' l = some (.lst (ys.drop (tk - first))) ∧ Same H H', ?_, ?_⟩
    · refine ⟨_, rfl, t, _, _, _, rfl, rfl, SqT.of ht, atI_int (by decide) rfl, r, _, rfl, .inr (SqT.of hR), fun l hl => ?_⟩
      have s1 : Same H (upd H l (.lst ys)) := fun b o z => by rw [upd_ne (ne_of_none z hl)]; exact z
      refine ⟨_, rfl, e, _, rfl, end_gt (s1 _ _ he), _, rfl, t, _, _, _, rfl, rfl, SqT.of (s1 _ _ ht), atI_int (by decide) rfl, _, _, rfl, rfl, _, _, rfl, _, rfl, l, _, rfl, SqL.of upd_same, fun l2 hl2 => ?_⟩
      have em : (if (tk : Int) - (first : Int) > 0 then (tk : Int) - (first : Int) else 0) = ((tk - first : Nat) : Int) := by split <;> omega
      rw [em, cutV_drop]
      exact ⟨l2, s1.free hl2, (ne_of_none (s1 _ _ he) hl2).symm, rfl, upd_same, fun b o z => by rw [upd_ne (ne_of_none (s1 _ _ z) hl2)]; exact s1 _ _ z⟩
    · rintro σ1 H1 ⟨l, hl, nle, rfl, hL1, s1⟩
      have hl5 : (ys.drop (tk - first)).length = (new.drop (tk - first)).length := (hy.drop _).length
      refine ⟨_, rfl, e, _, rfl, end_gt (s1 _ _ he), _, rfl, l, _, rfl, .inl (SqL.of hL1), _, _, rfl, rfl, _, rfl, e, _, rfl, end_pt (n := tk + (ys.drop (tk - first)).length) (s1 _ _ he), ?_⟩
      have he2 : upd H1 e (.dK (endK q kn (tk + (ys.drop (tk - first)).length))) e = some (.dK (endK q kn (tk + (ys.drop (tk - first)).length))) := upd_same
      have net : t ≠ e := ne_of ht he (by intro z; cases z)
      have ht2 : upd H1 e (.dK (endK q kn (tk + (ys.drop (tk - first)).length))) t = some (.tup [.str "rows", .int first, .ref r, .int heard]) := by rw [upd_ne net]; exact s1 _ _ ht
      have hL2 : upd H1 e (.dK (endK q kn (tk + (ys.drop (tk - first)).length))) l = some (.lst (ys.drop (tk - first))) := by rw [upd_ne nle]; exact hL1
      have b2 : But (· = e) H (upd H1 e (.dK (endK q kn (tk + (ys.drop (tk - first)).length)))) := (sameBut s1 _).mut rfl
      have em : (if (heard : Int) > (kn : Int) then (heard : Int) else (kn : Int)) = ((max kn heard : Nat) : Int) := by split <;> omega
      have hd : DPut (upd H1 e (.dK (endK q kn (tk + (ys.drop (tk - first)).length)))) e (.str "known") (.int (if (heard : Int) > (kn : Int) then (heard : Int) else (kn : Int)))
          (upd (upd H1 e (.dK (endK q kn (tk + (ys.drop (tk - first)).length)))) e (.dK (endK q (max kn heard) (tk + (ys.drop (tk - first)).length)))) := by
        rw [em]
        exact end_pk he2
      refine ⟨_, rfl, e, _, rfl, end_gk he2, _, rfl, t, _, _, _, rfl, rfl, SqT.of ht2, atI_int (by decide) rfl, _, _, rfl, _, rfl, e, _, rfl, hd, _, rfl, ?_⟩
      have b3 : But (· = e) H (upd (upd H1 e (.dK (endK q kn (tk + (ys.drop (tk - first)).length)))) e (.dK (endK q (max kn heard) (tk + (ys.drop (tk - first)).length)))) := b2.mut rfl
      have T3 := b3.tups fun a xs z y => by
        rw [z, he] at y
        cases y
      rw [hl5] at b3 T3 ⊢
      exact k l _ _ hl (by rw [upd_ne nle, ← hl5]; exact hL2) ((hy.drop _).mono T3) upd_same b3
end
end K3
namespace K3
open PySem L2 GG
theorem scRi : FnScope ["_law_wire", "_law_end_here", "_law_told", "_law_good"] ["_law_wire", "_law_end_here"] (defScope sRight) := ⟨rfl, rfl, rfl, by decide +kernel, rfl, by decide +kernel, by decide +kernel⟩
def spRight (W : WK) : Sp := fun vs H Q _ => ∃ (w e q : Addr) (fp : List Addr) (rows : List PyData) (kn tk : Nat), vs = [.ref w, .ref e] ∧ W.At H fp w (rows.drop kn) rows.length tk ∧ EndAt H e q rows kn tk ∧ tk ≤ 1000 ∧
  ∀ H', Same H H' → Q (.bl true) H'
theorem EndAt.but {M : Addr → Prop} {H H' : Hp} {e q : Addr} {rows : List PyData} {kn tk : Nat} (h : EndAt H e q rows kn tk) (b : But M H H') (n1 : ¬ M e) (n2 : ¬ M q) (t : Tups H H') : EndAt H' e q rows kn tk := by
  obtain ⟨h1, ⟨xs, h2, h3⟩, h4⟩ := h
  exact ⟨b _ _ n1 h1, ⟨xs, b _ _ n2 h2, h3.mono t⟩, h4⟩
theorem EndAt.same {H H' : Hp} {e q : Addr} {rows : List PyData} {kn tk : Nat} (h : EndAt H e q rows kn tk) (s : Same H H') : EndAt H' e q rows kn tk := h.but (sameBut s fun _ => False) (fun z => z) (fun z => z) (sameTups s)
section
variable {P : Program} {w : World} {K : PySem.W.Frag} {mg : Str → Option Value} {base : Heap} {W : WK}
theorem ok_right {f : Addr} {fd : FuncData} (F : Fun K "_law_end_right" "_law_end_right" sRight f fd) (T : Txt mg) (CW : Wires W P w K mg base 9) (CL : Cal P w K mg base "_law_letter_of" 1 ["_law_end_here"] spLetOf) :
    FnG P w K mg base CX0 11 f fd ["_law_wire", "_law_end_here"] (spRight W) := by
  obtain ⟨fL, fdL, mL, kL, bL, GL⟩ := CL
  obtain ⟨f1, fd1, ps1, m1, b1, G1⟩ := CW.letter
  obtain ⟨f2, fd2, ps2, m2, b2, G2⟩ := CW.heard
  obtain ⟨f3, fd3, ps3, m3, b3, G3⟩ := CW.unheard
  obtain ⟨f4, fd4, ps4, i4, n4, b4, G4⟩ := CW.len
  refine fun_okG F scRi (fun vs H Q E h => ?_) (fun cdv A outer s H vs Q E hg hr h => ?_)
  · obtain ⟨w, e, q, fp, rows, kn, tk, rfl, _⟩ := h
    rfl
  · obtain ⟨w, e, q, fp, rows, kn, tk, rfl, hW, hE, htk, k⟩ := h
    have hu := hu_of hr
    have hr1 : Room 1 _ := hr.mono (by decide)
    have hr9 : Room 9 _ := hr.mono (by decide)
    obtain ⟨he, ⟨xs, hq, hx⟩, hk, h1000, hrow⟩ := id hE
    have hd : ∀ d ∈ rows.drop kn, RowD d := fun d hd => hrow d (List.mem_of_mem_drop hd)
    have hdl : (rows.drop kn).length ≤ 1000 := by rw [List.length_drop]; omega
    have hkn : rows.length - (rows.drop kn).length = kn := by rw [List.length_drop]; omega
    have shL : Sh 1300000 5 (LetD kn (rows.drop kn) tk) := let_sh hd hdl (by omega) (by omega)
    have shR : Sh 1300000 4 (.list (rows.drop kn)) := (rows_sh hd hdl).mono (by decide) (Nat.le_refl _)
    have okL := shL.okT (by decide)
    have okR := shR.okL (by decide)
    refine ⟨_, pss_cons (ps_if (PW.pt (pw_or (pt_cmpR op_ne (pe_callB (call_repr hg hr.units) (by rfl) T.repr (by decide +kernel) (pa_cons (pe_meth0 (pv 0) CW.cls m1 G1 hr9 b1 .nil pass0) pa_nil))
          (pe_callB (call_repr hg hr.units) (by rfl) T.repr (by decide +kernel) (pa_cons (pe_call GL hr1 (by rfl) mL kL bL .nil pass0 (pa_cons (pv 1) pa_nil)) pa_nil)) (nomark _))
          (pw_or1 (pt_cmpR op_ne (pe_meth0 (pv 0) CW.cls m2 G2 hr9 b2 .nil pass0) (pe_dget hu (pv 1) pe_str (fun _ _ => rfl)) (nomark _))))) (pss_one (ps_ret pe_bl)) pss_nil)
      (pss_cons (ps_set (i := 2) scRi.nd rfl (.inl rfl) (pe_meth0 (pv 0) CW.cls m3 G3 hr9 b3 .nil pass0))
      (C8.pss_cut (ps_set (i := 3) scRi.nd rfl (.inl rfl) (pe_and (pe_cmpR op_eq (pe_callB (call_repr hg hr.units) (by rfl) T.repr (by decide +kernel) (pa_cons (pv 2) pa_nil))
          (pe_callB (call_repr hg hr.units) (by rfl) T.repr (by decide +kernel) (pa_cons (pe_slice sl_list (pe_dget hu (pv 1) pe_str (fun _ _ => rfl)) (po_some (pe_dget hu (pv 1) pe_str (fun _ _ => rfl))) po_none) pa_nil)) (nomark _))
          (pe_one (pe_cmpR op_eq (pe_callB (call_lenO (C := W.C) G4 hr b4 i4 n4) (by rfl) T.len PySem.boot_len (pa_cons (pv 0) pa_nil)) (pe_callB call_len_seq (by rfl) T.len PySem.boot_len (pa_cons (pv 2) pa_nil)) (nomark _)))))
      (pss_cons (ps_expr (pe_bm PySem.F.plainAttrs_list PySem.F.slot_list_append PySem.F.type_list_append mt_append (pv 2) (pa_cons (pe_tup (pa_cons pe_str pa_nil)) pa_nil)))
      (pss_cons (ps_expr (pe_bm0 PySem.F.plainAttrs_list PySem.F.slot_list_reverse PySem.F.type_list_reverse mt_reverse (pv 2)))
      (pss_one (ps_ret (pe_and (pv 3) (pe_one (pe_cmpR op_eq (pe_callB (call_repr hg hr.units) (by rfl) T.repr (by decide +kernel) (pa_cons (pe_meth0 (pv 0) CW.cls m1 G1 hr9 b1 .nil pass0) pa_nil))
          (pe_callB (call_repr hg hr.units) (by rfl) T.repr (by decide +kernel) (pa_cons (pe_call GL hr1 (by rfl) mL kL bL .nil pass0 (pa_cons (pv 1) pa_nil)) pa_nil)) (nomark _)))))))))), ?_⟩
    have step1 : ∀ {H1 : Hp}, Same H H1 → ∃ dx fs, H1 w = some (.ins W.C dx fs) ∧ ∀ m ∈ ([("put" : Str), "letter", "take", "heard", "unheard"] : List Str), fs.lookup m = none := fun s => W.ins (WK.same hW s)
    obtain ⟨dx, fs, hins, hno⟩ := step1 (Same.refl H)
    refine ⟨_, rfl, w, dx, fs, rfl, hins, hno _ (by simp), w, fp, _, _, _, rfl, hW, h1000, fun t1 H1 ht1 hd1 s1 => ?_⟩
    rw [hkn] at hd1
    refine ⟨_, _, rfl, hd1.dp, okL, _, rfl, e, q, rows, kn, tk, rfl, hE.same s1, fun t2 H2 ht2 hd2 s2 => ?_⟩
    refine ⟨_, _, rfl, hd2.dp, okL, rfl, _, rfl, iteNS rfl ?_⟩
    have s12 := s1.trans s2
    obtain ⟨dx, fs, hins, hno⟩ := step1 s12
    refine ⟨_, rfl, w, dx, fs, rfl, hins, hno _ (by simp), w, fp, _, _, _, rfl, WK.same hW s12, fun H3 s3 => ?_⟩
    have s13 := s12.trans s3
    refine ⟨_, rfl, e, _, rfl, end_gt (s13 _ _ he), rfl, _, rfl, iteNS rfl ?_⟩
    -- told
    obtain ⟨dx, fs, hins, hno⟩ := step1 s13
    refine ⟨_, rfl, w, dx, fs, rfl, hins, hno _ (by simp), w, fp, _, _, _, rfl, WK.same hW s13, h1000, fun l ys H4 hl hL hy s4 => ?_⟩
    have s14 := s13.trans s4
    have hl0 : H l = none := s13.free hl
    -- good
    refine ⟨fun σ' H' => σ' = [some (.ref w), some (.ref e), some (.ref l), some (.bl true)] ∧ H' l = some (.lst ys) ∧ Same H H', ?_, ?_⟩
    · refine ⟨_, rfl, _, _, rfl, .lst (SqL.of hL) hy.dp, okR, _, rfl, e, _, rfl, end_gp (s14 _ _ he), _, rfl, e, _, rfl, end_gk (s14 _ _ he), _, rfl, q, _, rfl, SqL.of (s14 _ _ hq), fun l2 hl2 => ?_⟩
      rw [cutV_drop]
      have s5 : Same H4 (upd H4 l2 (.lst (xs.drop kn))) := same_new (Same.refl _) hl2
      have s15 := s14.trans s5
      obtain ⟨dx, fs, hins, hno⟩ := step1 s15
      refine ⟨_, _, rfl, .lst (SqL.of upd_same) ((hx.drop kn).mono (sameTups s15)).dp, okR, rfl, _, rfl, iteYes rfl ?_⟩
      refine ⟨_, rfl, w, dx, fs, rfl, hins, w, fp, _, _, _, rfl, WK.same hW s15, h1000, fun H6 s6 => ⟨_, rfl, Int.natCast_nonneg _, Int.lt_of_le_of_lt (Int.ofNat_le.mpr hdl) (by decide), ?_⟩⟩
      refine ⟨_, rfl, l, _, rfl, .inl (SqL.of (s6 _ _ (s5 _ _ hL))), rfl, ?_⟩
      refine ⟨?_, s6 _ _ (s5 _ _ hL), s15.trans s6⟩
      have el := hy.length
      rw [el, decide_eq_true rfl]
      rfl
    rintro σ5 H5 ⟨rfl, hL5, s5⟩
    -- told.append(("more",)), told.reverse()
    have hys : ys.length ≤ 1000 := by rw [hy.length]; exact hdl
    refine ⟨_, rfl, .inl ⟨rfl, _, SqL.of hL5⟩, (by show 1 ≤ sizeLine; decide), fun t ht => ?_⟩
    have hLt : upd H5 t (.tup [.str "more"]) l = some (.lst ys) := by rw [upd_ne (ne_of_none hL5 ht)]; exact hL5
    have s6 := same_new s5 ht (o := .tup [.str "more"])
    generalize upd H5 t (.tup [.str "more"]) = H6 at hLt s6 ⊢
    refine ⟨l, _, _, rfl, rfl, hLt, small1000 hys, ?_⟩
    have s7 := same_mut s6 hl0 (o := .lst (ys ++ [V.ref t]))
    have hL7 : upd H6 l (.lst (ys ++ [V.ref t])) l = some (.lst (ys ++ [V.ref t])) := upd_same
    generalize upd H6 l (.lst (ys ++ [V.ref t])) = H7 at hL7 s7 ⊢
    refine ⟨_, rfl, .inl ⟨rfl, _, SqL.of hL7⟩, l, _, rfl, rfl, hL7, ?_⟩
    have s8 := same_mut s7 hl0 (o := .lst (ys ++ [V.ref t]).reverse)
    generalize upd H7 l (.lst (ys ++ [V.ref t]).reverse) = H8 at s8 ⊢
    obtain ⟨dx, fs, hins, hno⟩ := step1 s8
    refine ⟨_, rfl, true, rfl, iteT ?_⟩
    refine ⟨_, rfl, w, dx, fs, rfl, hins, hno _ (by simp), w, fp, _, _, _, rfl, WK.same hW s8, h1000, fun t1 H1 ht1 hd1 s9 => ?_⟩
    rw [hkn] at hd1
    have s19 := s8.trans s9
    refine ⟨_, _, rfl, hd1.dp, okL, _, rfl, e, q, rows, kn, tk, rfl, hE.same s19, fun t2 H2 ht2 hd2 s2 => ?_⟩
    refine ⟨_, _, rfl, hd2.dp, okL, rfl, ?_⟩
    have fin := k H2 (s19.trans s2)
    show Q (V.bl (decide (V.str _ = V.str _))) H2
    rw [decide_eq_true rfl]
    exact fin
end
end K3
namespace GG
open PySem PySem.Spec PyProof.Rows L2
/-! ### a list beside [] -/
def rEqL0 (K : PySem.W.Frag) : R2 := fun x y H Q => ∃ (a b : Addr) (xs : List V), x = .ref a ∧ y = .ref b ∧ SqL K H a xs ∧ SqL K H b [] ∧ Q (.bl xs.isEmpty) H
theorem op_eqL0 {X : Cx} (hu : X.A.units + 64 < cLine) : OpR X (compareOp .Eq) (rEqL0 X.K) := by
  intro pins s σ H x y v u Q I rx ry h
  obtain ⟨a, b, xs, rfl, rfl, ha, hb, q⟩ := h
  obtain rfl : v = Value.ref a := rx
  obtain rfl : u = Value.ref b := ry
  obtain ⟨its, r1, h1, _⟩ := I.list ha
  obtain ⟨its2, r2, h2, _⟩ := I.list hb
  cases r2
  cases xs with
  | nil =>
    cases r1
    exact SeqAt.RcAt.lists (e := fun _ => true) h1.isList h2.isList rfl (by omega) (fun j z => absurd z (by simp)) _ _ _ _ ⟨.bl _, H, I, rfl, q⟩
  | cons x xs =>
    cases r1
    exact SeqAt.RcAt.lists_lengths h1.isList h2.isList (by simp) (by omega) _ _ _ _ ⟨.bl _, H, I, rfl, q⟩
end GG
namespace K3
open PySem PySem.Spec PyProof.Rows L2 GG
abbrev sCount : Stmt := top 23
abbrev sIsLet : Stmt := top 24
theorem scCt : FnScope ["_law_thing"] ["_law_thing"] (defScope sCount) := ⟨rfl, rfl, rfl, by decide +kernel, rfl, by decide +kernel, by decide +kernel⟩
theorem scIL : FnScope ["_law_end_here", "_law_thing", "_law_row"] ["_law_end_here", "_law_thing"] (defScope sIsLet) := ⟨rfl, rfl, rfl, by decide +kernel, rfl, by decide +kernel, by decide +kernel⟩
def spIsLet : Sp := fun vs H Q _ => ∃ (M : Addr → Prop) (e q : Addr) (v : V) (d : PyData) (rows : List V) (kn tk : Nat), vs = [.ref e, v] ∧ H e = some (.dK (endK q kn tk)) ∧ H q = some (.lst rows) ∧ Dx M H v d ∧ (∀ c ∈ partsD d, (partsD c).length ≤ 1000) ∧
  ∀ H', Same H H' → Q (.bl (canTake tk rows.length d)) H'
section
variable {P : Program} {w : World} {K : PySem.W.Frag} {mg : Str → Option Value} {base : Heap}
theorem ok_count {f : Addr} {fd : FuncData} (F : Fun K "_law_is_count" "_law_is_count" sCount f fd) (T : Txt mg) (zb : mg "bool" = none) : FnOk P w K mg base CX0 1 f fd ["_law_thing"] spNumberX := by
  refine F.ok scCt (fun vs H Q E h => ?_) (fun cdv A outer s H vs Q E hr h => ?_)
  · obtain ⟨M, v, d, rfl, _⟩ := h
    rfl
  · obtain ⟨M, v, d, rfl, hd, k⟩ := h
    refine ⟨_, pss_one (ps_ret (pe_and (pe_callB call_isi (by rfl) T.isinstance (by decide +kernel) (pa_cons (pv 0) (pa_cons (pe_bltn (v := V.ty "int") (by rfl) T.int (by decide +kernel) rfl) pa_nil)))
      (pe_and (pe_not (pe_callB call_isi (by rfl) T.isinstance (by decide +kernel) (pa_cons (pv 0) (pa_cons (pe_bltn (v := V.ty "bool") (by rfl) zb (by decide +kernel) rfl) pa_nil))))
      (pe_one (pe_cmpR op_ge (pv 0) pe_int (nomark _)))))), ?_⟩
    refine ⟨_, rfl, v, .ty "int", .type (tyD d), .type "int", isIntD d, rfl, .ty _, hd.type, kit_ty (ty_int d), isIntD d, rfl, ?_⟩
    by_cases hi : isIntD d = true
    · rw [hi]
      refine iteT ?_
      refine ⟨_, rfl, v, .ty "bool", .type (tyD d), .type "bool", isBoolD d, rfl, .ty _, hd.type, kit_ty (ty_bool d), isBoolD d, rfl, !isBoolD d, rfl, ?_⟩
      cases hd with
      | int i =>
        refine iteT ⟨_, rfl, _, _, rfl, rfl, ?_⟩
        exact k
      | bl b => exact iteF k
      | non => cases hi
      | str z => cases hi
      | lst _ _ _ => cases hi
      | tup _ _ _ => cases hi
      | dic _ _ _ => cases hi
    · have hf : isIntD d = false := by simpa using hi
      rw [hf]
      refine iteF ?_
      have e : isNum d = false := by
        cases d <;> first | rfl | cases hf
      rw [e] at k
      exact k
theorem ok_isLet {f : Addr} {fd : FuncData} (F : Fun K "_law_is_letter" "_law_is_letter" sIsLet f fd) (T : Txt mg) (CC : Cal P w K mg base "_law_is_count" 1 ["_law_thing"] spNumberX) : FnOk P w K mg base CX0 2 f fd ["_law_end_here", "_law_thing"] spIsLet := by
  obtain ⟨fn, fdn, m, kn', bn, Gn⟩ := CC
  refine F.ok scIL (fun vs H Q E h => ?_) (fun cdv A outer s H vs Q E hr h => ?_)
  · obtain ⟨M, e, q, v, d, rows, kn, tk, rfl, _⟩ := h
    rfl
  · obtain ⟨M, e, q, v, d, rows, kn, tk, rfl, he, hq, hd, hlen2, k⟩ := h
    have nd := scIL.nd
    have hu := hu_of hr
    refine ⟨_, pss_cons (ps_if (PW.pt (pw_or (pt_not (pt_val (pe_callB call_isi (by rfl) T.isinstance (by decide +kernel) (pa_cons (pv 1) (pa_cons (pe_bltn (v := V.ty "tuple") (by rfl) T.tuple (by decide +kernel) rfl) pa_nil)))))
          (pw_or (pt_cmpR op_ne (pe_callB call_len_seq (by rfl) T.len PySem.boot_len (pa_cons (pv 1) pa_nil)) pe_int (nomark _))
          (pw_or (pt_cmpR (op_neXs (M := M) hr.units) (pe_ix ix_tup (pv 1) pe_int (fun _ _ => rfl)) pe_str (nomark _))
          (pw_or1 (pt_not (pt_val (pe_callB call_isi (by rfl) T.isinstance (by decide +kernel) (pa_cons (pe_ix ix_tup (pv 1) pe_int (fun _ _ => rfl)) (pa_cons (pe_bltn (v := V.ty "tuple") (by rfl) T.tuple (by decide +kernel) rfl) pa_nil)))))))))) (pss_one (ps_ret pe_bl)) pss_nil)
      (pss_cons (ps_if (PW.pt (pw_or (pt_not (pt_val (pe_call Gn hr (by rfl) m kn' bn .nil pass0 (pa_cons (pe_ix ix_tup (pv 1) pe_int (fun _ _ => rfl)) pa_nil))))
          (pw_or (pt_not (pt_val (pe_call Gn hr (by rfl) m kn' bn .nil pass0 (pa_cons (pe_ix ix_tup (pv 1) pe_int (fun _ _ => rfl)) pa_nil))))
          (pw_or1 (pt_cmpR op_gt (pe_ix ix_tup (pv 1) pe_int (fun _ _ => rfl)) (pe_dget hu (pv 0) pe_str (fun _ _ => rfl)) (nomark _)))))) (pss_one (ps_ret pe_bl)) pss_nil)
      (pss_one (ps_ret (pe_and (pe_cmpR op_le (pe_ix ix_tup (pv 1) pe_int (fun _ _ => rfl)) (pe_callB call_len_seq (by rfl) T.len PySem.boot_len (pa_cons (pe_dget hu (pv 0) pe_str (fun _ _ => rfl)) pa_nil)) (nomark _))
        (pe_one (pe_cmpR (op_eqL0 hr.units) (pe_lc (own := [("_law_row", 2)]) (g := gName 2) rfl nd (pi_tup (pe_ix ix_tup (pv 1) pe_int (fun _ _ => rfl)))
          (blkOk_by (N := ["_law_end_here", "_law_thing", "_law_row"]) (sc := defScope sIsLet) (by decide +kernel)) (fun _ _ _ _ _ => pg_name (i := 2) nd rfl (Or.inl rfl))
          (fun _ _ _ _ _ => pts_one (pt_not (pt_val (pe_callB (id := "isinstance") (r := rIsi K) call_isi (by rfl) T.isinstance (by decide +kernel) (pa_cons (pv 2) (pa_cons (pe_bltn (v := V.ty "tuple") (by rfl) T.tuple (by decide +kernel) rfl) pa_nil))))))
          (fun _ _ _ _ _ => pv 2)) (pe_lst pa_nil) (nomark _))))))), ?_⟩
    have no : ∀ b : Bool, canTake tk rows.length d = b → ∀ H', Same H H' → Q (.bl b) H' := fun b e H' s => e ▸ k H' s
    refine ⟨_, rfl, v, .ty "tuple", .type (tyD d), .type "tuple", isTupD d, rfl, .ty _, hd.type, kit_ty (ty_tup d), isTupD d, rfl, ?_⟩
    cases hd with
    | non => exact iteT (no false rfl H (Same.refl _))
    | bl b => exact iteT (no false rfl H (Same.refl _))
    | int i => exact iteT (no false rfl H (Same.refl _))
    | str z => exact iteT (no false rfl H (Same.refl _))
    | lst _ _ _ => exact iteT (no false rfl H (Same.refl _))
    | dic _ _ _ => exact iteT (no false rfl H (Same.refl _))
    | @tup t ys ds nt ht hA =>
    refine iteF ⟨_, rfl, t, _, rfl, .inr (SqT.of ht), rfl, _, rfl, ?_⟩
    have hl4 := hA.length
    by_cases h4 : ds.length = 4
    · refine iteNS (by rw [hl4, h4]; rfl) ?_
      obtain ⟨dw, df, dr, dh, rfl⟩ : ∃ a b c d, ds = [a, b, c, d] := by
        match ds, h4 with
        | [a, b, c, d], _ => exact ⟨a, b, c, d, rfl⟩
      cases hA with
      | @cons vw _ _ _ h0 hA =>
      cases hA with
      | @cons vf _ _ _ h1 hA =>
      cases hA with
      | @cons vr _ _ _ h2 hA =>
      cases hA with
      | @cons vh _ _ _ h3 hA =>
      cases hA
      have at0 : atI [vw, vf, vr, vh] 0 = some vw := atI_int (by decide) rfl
      have at1 : atI [vw, vf, vr, vh] 1 = some vf := atI_int (by decide) rfl
      have at2 : atI [vw, vf, vr, vh] 2 = some vr := atI_int (by decide) rfl
      have at3 : atI [vw, vf, vr, vh] 3 = some vh := atI_int (by decide) rfl
      refine ⟨_, rfl, t, _, _, _, rfl, rfl, SqT.of ht, at0, dw, "rows", h0, rfl, _, rfl, ?_⟩
      by_cases e0 : isWd "rows" dw = true
      rotate_left
      · rw [Bool.not_eq_true] at e0
        rw [e0]
        exact iteT (no false (by simp [canTake, e0]) H (Same.refl _))
      rw [e0]
      refine iteF ⟨_, rfl, t, _, _, _, rfl, rfl, SqT.of ht, at2, vr, .ty "tuple", .type (tyD dr), .type "tuple", isTupD dr, rfl, .ty _, h2.type, kit_ty (ty_tup dr), isTupD dr, rfl, ?_⟩
      by_cases e2 : isTupD dr = true
      rotate_left
      · rw [Bool.not_eq_true] at e2
        rw [e2]
        exact iteT (no false (by simp [canTake, e2]) H (Same.refl _))
      rw [e2]
      refine iteF ⟨_, rfl, t, _, _, _, rfl, rfl, SqT.of ht, at1, _, vf, df, rfl, h1, isNum df, rfl, ?_⟩
      by_cases e1 : isNum df = true
      rotate_left
      · rw [Bool.not_eq_true] at e1
        rw [e1]
        exact iteT (no false (by simp [canTake, e1]) H (Same.refl _))
      rw [e1]
      refine iteF ⟨_, rfl, t, _, _, _, rfl, rfl, SqT.of ht, at3, _, vh, dh, rfl, h3, isNum dh, rfl, ?_⟩
      by_cases e3 : isNum dh = true
      rotate_left
      · rw [Bool.not_eq_true] at e3
        rw [e3]
        exact iteT (no false (by simp [canTake, e3]) H (Same.refl _))
      rw [e3]
      obtain ⟨rs, rfl⟩ : ∃ rs, dr = .tuple rs := by
        cases dr <;> first | exact ⟨_, rfl⟩ | cases e2
      obtain ⟨r, rfl⟩ := h2.ref_of
      obtain ⟨zs, hr', hz⟩ := h2.tupI
      obtain ⟨i1, rfl, q1⟩ : ∃ i, df = .int i ∧ 0 ≤ i := by
        cases df <;> first | exact ⟨_, rfl, of_decide_eq_true e1⟩ | cases e1
      obtain ⟨i3, rfl, q3⟩ : ∃ i, dh = .int i ∧ 0 ≤ i := by
        cases dh <;> first | exact ⟨_, rfl, of_decide_eq_true e3⟩ | cases e3
      cases h1
      cases h3
      have rs1000 : rs.length ≤ 1000 := hlen2 (.tuple rs) (by show _ ∈ [dw, .int i1, .tuple rs, .int i3]; simp)
      refine iteF ⟨_, rfl, t, _, _, _, rfl, rfl, SqT.of ht, at1, _, rfl, e, _, rfl, end_gt he, _, _, rfl, rfl, _, rfl, ?_⟩
      by_cases e5 : i1 ≤ (tk : Int)
      rotate_left
      · exact iteYes (by omega) (no false (by simp [canTake, leD, e5]) H (Same.refl _))
      refine iteNo (by omega) ?_
      refine ⟨_, rfl, t, _, _, _, rfl, rfl, SqT.of ht, at3, _, rfl, e, _, rfl, end_gp he, q, _, rfl, .inl (SqL.of hq), _, _, rfl, rfl, ?_⟩
      by_cases e6 : i3 ≤ (rows.length : Int)
      rotate_left
      · exact ⟨_, rfl, iteNo e6 (no false (by simp [canTake, leD, e6]) H (Same.refl _))⟩
      refine ⟨_, rfl, iteYes e6 ?_⟩
      refine ⟨_, rfl, t, _, _, _, rfl, rfl, SqT.of ht, at2, r, rfl, ⟨zs, SqT.of hr'⟩, fun D hD => ?_⟩
      refine lc_tup (K := K) (a := r) (xs := zs) (fun i H' => ∃ acc : List V, H' D = some (.lst acc) ∧ acc.isEmpty = (rs.take i).all isTupD ∧ acc.length ≤ i ∧ Same H H') ?_ ?_ ?_ ?_
      · exact ⟨[], upd_same, rfl, Nat.le_refl _, same_new (Same.refl _) hD⟩
      · rintro i H' _ ⟨acc, hDl, _, _, s⟩
        exact SqT.of (s _ _ hr')
      · rintro i x H' hi ⟨acc, hDl, hacc, hal, s⟩
        obtain ⟨d, hdi, hdx⟩ := hz.get i x hi
        have hil : i < rs.length := (List.getElem?_eq_some_iff.mp hdi).1
        refine ⟨rfl, _, rfl, x, .ty "tuple", .type (tyD d), .type "tuple", isTupD d, rfl, .ty _, (hdx.mono (sameBut s _)).type, kit_ty (ty_tup d), isTupD d, rfl, ?_⟩
        by_cases ed : isTupD d = true
        · rw [ed]
          refine iteF ⟨acc, hDl, ?_, by omega, s⟩
          rw [hacc, List.take_add_one, hdi, List.all_append]
          simp [ed]
        · rw [Bool.not_eq_true] at ed
          rw [ed]
          refine iteT ⟨_, rfl, acc, hDl, small1000 (by omega), _, upd_same, ?_, by rw [List.length_append]; show acc.length + 1 ≤ _; omega, same_mut s hD⟩
          rw [List.take_add_one, hdi, List.all_append]
          simp [ed]
      · rintro H' ⟨acc, hDl, hacc, hal, s⟩
        rw [hz.length, List.take_length] at hacc
        refine ⟨Nat.zero_le _, fun o ho => ?_⟩
        have s9 := same_new (Same.refl H') ho (o := .lst [])
        refine ⟨D, o, acc, rfl, rfl, SqL.of (s9 _ _ hDl), SqL.of upd_same, ?_⟩
        refine no _ ?_ _ (s.trans s9)
        rw [hacc]
        simp only [canTake, e0, e1, e3, e2, partsD, leD, Bool.true_and, decide_eq_true e5, decide_eq_true e6, Bool.and_true]
    · refine iteYes' ?_ (no false ?_ H (Same.refl _))
      · rw [hl4]
        simpa using fun z : (ds.length : Int) = 4 => h4 (by omega)
      · match ds, h4 with
        | [], _ => rfl
        | [_], _ => rfl
        | [_, _], _ => rfl
        | [_, _, _], _ => rfl
        | [_, _, _, _], z => exact absurd rfl z
        | _ :: _ :: _ :: _ :: _ :: _, _ => rfl
end
end K3
namespace K3
open PySem PySem.Spec PyProof.Rows L2 GG
abbrev sOdd : Stmt := top 22
theorem scOd : FnScope ["_law_pen_here", "_law_some"] ["_law_pen_here"] (defScope sOdd) := ⟨rfl, rfl, rfl, by decide +kernel, rfl, by decide +kernel, by decide +kernel⟩
def oddA : List PyData := [.none, .bool true, .bool false, .int 0, .int (-1), .int 7, .int 6, .str "", .str "A", .str "a", .str "0#0", .str "9:0", .tuple [], .list [], .dict [], .tuple [.str "to"], .tuple [.str "to", .str "a"], .str "1:00"]
def oddB : List PyData := [.list [.tuple [.str "to", .str "0#0"]], .dict [(.str "a", .int 1)], .tuple [.str "rows", .int 0, .tuple [], .int 0], .str "abcdefghi", .int 1000000000000, .tuple [.tuple [], .tuple []], .list [.str "a"]]
/-- an odd thing -/
def OddD (d : PyData) : Prop := d ∈ oddA ++ oddB
def spOdd : Sp := fun vs H Q _ => ∃ (p c : Addr) (ns : List Int) (n : Nat), vs = [.ref p] ∧ Pen H p c ns n ∧ n + 1 ≤ 1000000000 ∧
  ∀ (v : V) (d : PyData) (H' : Hp), Dx (· = p) H' v d → OddD d → Pen H' p c ns (n + 1) → But (· = p) H H' → Q v H'
theorem upd2 {H : Hp} {a : Addr} {o u : HO} : upd (upd H a u) a o = upd H a o := by
  funext b
  by_cases h : b = a
  · rw [h, upd_same, upd_same]
  · rw [upd_ne h, upd_ne h, upd_ne h]
theorem DxAll.mem {M : Addr → Prop} {H : Hp} : ∀ {ds : List PyData} {vs : List V}, DxAll M H vs ds → ∀ v, v ∈ vs → ∃ d, d ∈ ds ∧ Dx M H v d
  | _, _, .nil, v, e => absurd e (by simp)
  | _, _, .cons h a, v, e => by
    rcases List.mem_cons.mp e with rfl | e
    · exact ⟨_, List.mem_cons_self .., h⟩
    · obtain ⟨d, h1, h2⟩ := DxAll.mem a v e
      exact ⟨d, List.mem_cons_of_mem _ h1, h2⟩
section
variable {P : Program} {w : World} {K : PySem.W.Frag} {mg : Str → Option Value} {base : Heap}
theorem ok_odd {f : Addr} {fd : FuncData} (F : Fun K "_law_odd" "_law_odd" sOdd f fd) (T : Txt mg) (CP : Cal P w K mg base "_law_pick" 2 ["_law_pen_here", "_law_some"] spPick) : FnOk P w K mg base CX0 3 f fd ["_law_pen_here"] spOdd := by
  obtain ⟨fP, fdP, mP, kP, bP, GP⟩ := CP
  refine F.ok scOd (fun vs H Q E h => ?_) (fun cdv A outer s H vs Q E hr h => ?_)
  · obtain ⟨p, c, ns, n, rfl, _⟩ := h
    rfl
  · obtain ⟨p, c, ns, n, rfl, hP, hn, k⟩ := h
    have nd := scOd.nd
    refine ⟨_, pss_cons (ps_set (i := 1) nd rfl (.inl rfl) (pe_lst (pa_cons pe_non (pa_cons pe_bl (pa_cons pe_bl (pa_cons pe_int (pa_cons (pe_un un_neg pe_int) (pa_cons pe_int (pa_cons pe_int (pa_cons pe_str (pa_cons pe_str (pa_cons pe_str (pa_cons pe_str (pa_cons pe_str
          (pa_cons (pe_tup pa_nil) (pa_cons (pe_lst pa_nil) (pa_cons pe_dnewK (pa_cons (pe_tup (pa_cons pe_str pa_nil)) (pa_cons (pe_tup (pa_cons pe_str (pa_cons pe_str pa_nil))) (pa_cons pe_str pa_nil))))))))))))))))))))
      (pss_cons (ps_set (i := 1) nd rfl (.inl rfl) (pe_op op_cat (pv 1) (pe_lst (pa_cons (pe_lst (pa_cons (pe_tup (pa_cons pe_str (pa_cons pe_str pa_nil))) pa_nil))
          (pa_cons (pe_disp (pps_cons pe_str pe_int pps_nil) (by rfl) (by rfl) (fun z => by cases z) (by decide))
          (pa_cons (pe_tup (pa_cons pe_str (pa_cons pe_int (pa_cons (pe_tup pa_nil) (pa_cons pe_int pa_nil)))))
          (pa_cons pe_str (pa_cons (pe_op op_pow pe_int pe_int) (pa_cons (pe_tup (pa_cons (pe_tup pa_nil) (pa_cons (pe_tup pa_nil) pa_nil))) (pa_cons (pe_lst (pa_cons pe_str pa_nil)) pa_nil))))))))))
      (pss_one (ps_ret (pe_call GP hr (by rfl) mP kP bP .nil pass0 (pa_cons (pv 0) (pa_cons (pv 1) pa_nil)))))), ?_⟩
    have b0 := But.refl (· = p) H
    refine ⟨_, rfl, Nat.zero_le _, fun t1 ht1 => ?_⟩
    have ft1 := hP.fresh ht1
    have s1 := same_new (Same.refl H) ht1 (o := .tup [])
    have et1 := upd_same (H := H) (a := t1) (o := .tup [])
    replace hP := hP.new ht1 (o := .tup [])
    replace b0 := b0.new ht1 (o := .tup [])
    generalize upd H t1 (.tup []) = H1 at s1 et1 hP b0  ⊢
    clear s1 ht1
    refine ⟨Nat.zero_le _, fun l1 hl1 => ?_⟩
    have fl1 := hP.fresh hl1
    have s2 := same_new (Same.refl H1) hl1 (o := .lst [])
    have el1 := upd_same (H := H1) (a := l1) (o := .lst [])
    replace hP := hP.new hl1 (o := .lst [])
    replace b0 := b0.new hl1 (o := .lst [])
    replace et1 := s2 _ _ et1
    generalize upd H1 l1 (.lst []) = H2 at s2 el1 hP b0 et1 ⊢
    clear s2 hl1
    refine fun d1 hd1 => ?_
    have fd1 := hP.fresh hd1
    have s3 := same_new (Same.refl H2) hd1 (o := .dK [])
    have ed1 := upd_same (H := H2) (a := d1) (o := .dK [])
    replace hP := hP.new hd1 (o := .dK [])
    replace b0 := b0.new hd1 (o := .dK [])
    replace et1 := s3 _ _ et1
    replace el1 := s3 _ _ el1
    generalize upd H2 d1 (.dK []) = H3 at s3 ed1 hP b0 et1 el1 ⊢
    clear s3 hd1
    refine ⟨(by show 1 ≤ sizeLine; decide), fun t2 ht2 => ?_⟩
    have ft2 := hP.fresh ht2
    have s4 := same_new (Same.refl H3) ht2 (o := .tup [.str "to"])
    have et2 := upd_same (H := H3) (a := t2) (o := .tup [.str "to"])
    replace hP := hP.new ht2 (o := .tup [.str "to"])
    replace b0 := b0.new ht2 (o := .tup [.str "to"])
    replace et1 := s4 _ _ et1
    replace el1 := s4 _ _ el1
    replace ed1 := s4 _ _ ed1
    generalize upd H3 t2 (.tup [.str "to"]) = H4 at s4 et2 hP b0 et1 el1 ed1 ⊢
    clear s4 ht2
    refine ⟨(by show 2 ≤ sizeLine; decide), fun t3 ht3 => ?_⟩
    have ft3 := hP.fresh ht3
    have s5 := same_new (Same.refl H4) ht3 (o := .tup [.str "to", .str "a"])
    have et3 := upd_same (H := H4) (a := t3) (o := .tup [.str "to", .str "a"])
    replace hP := hP.new ht3 (o := .tup [.str "to", .str "a"])
    replace b0 := b0.new ht3 (o := .tup [.str "to", .str "a"])
    replace et1 := s5 _ _ et1
    replace el1 := s5 _ _ el1
    replace ed1 := s5 _ _ ed1
    replace et2 := s5 _ _ et2
    generalize upd H4 t3 (.tup [.str "to", .str "a"]) = H5 at s5 et3 hP b0 et1 el1 ed1 et2 ⊢
    clear s5 ht3
    refine ⟨(by show 18 ≤ sizeLine; decide), fun LA hLA => ?_⟩
    have fLA := hP.fresh hLA
    have s6 := same_new (Same.refl H5) hLA (o := .lst [.non, .bl true, .bl false, .int 0, .int (-1), .int 7, .int 6, .str "", .str "A", .str "a", .str "0#0", .str "9:0", .ref t1, .ref l1, .ref d1, .ref t2, .ref t3, .str "1:00"])
    have eLA := upd_same (H := H5) (a := LA) (o := .lst [.non, .bl true, .bl false, .int 0, .int (-1), .int 7, .int 6, .str "", .str "A", .str "a", .str "0#0", .str "9:0", .ref t1, .ref l1, .ref d1, .ref t2, .ref t3, .str "1:00"])
    replace hP := hP.new hLA (o := .lst [.non, .bl true, .bl false, .int 0, .int (-1), .int 7, .int 6, .str "", .str "A", .str "a", .str "0#0", .str "9:0", .ref t1, .ref l1, .ref d1, .ref t2, .ref t3, .str "1:00"])
    replace b0 := b0.new hLA (o := .lst [.non, .bl true, .bl false, .int 0, .int (-1), .int 7, .int 6, .str "", .str "A", .str "a", .str "0#0", .str "9:0", .ref t1, .ref l1, .ref d1, .ref t2, .ref t3, .str "1:00"])
    replace et1 := s6 _ _ et1
    replace el1 := s6 _ _ el1
    replace ed1 := s6 _ _ ed1
    replace et2 := s6 _ _ et2
    replace et3 := s6 _ _ et3
    generalize upd H5 LA (.lst [.non, .bl true, .bl false, .int 0, .int (-1), .int 7, .int 6, .str "", .str "A", .str "a", .str "0#0", .str "9:0", .ref t1, .ref l1, .ref d1, .ref t2, .ref t3, .str "1:00"]) = H6 at s6 eLA hP b0 et1 el1 ed1 et2 et3 ⊢
    clear s6 hLA
    refine ⟨_, rfl, ?_⟩
    refine ⟨(by show 2 ≤ sizeLine; decide), fun t4 ht4 => ?_⟩
    have ft4 := hP.fresh ht4
    have s7 := same_new (Same.refl H6) ht4 (o := .tup [.str "to", .str "0#0"])
    have et4 := upd_same (H := H6) (a := t4) (o := .tup [.str "to", .str "0#0"])
    replace hP := hP.new ht4 (o := .tup [.str "to", .str "0#0"])
    replace b0 := b0.new ht4 (o := .tup [.str "to", .str "0#0"])
    replace et1 := s7 _ _ et1
    replace el1 := s7 _ _ el1
    replace ed1 := s7 _ _ ed1
    replace et2 := s7 _ _ et2
    replace et3 := s7 _ _ et3
    replace eLA := s7 _ _ eLA
    generalize upd H6 t4 (.tup [.str "to", .str "0#0"]) = H7 at s7 et4 hP b0 et1 el1 ed1 et2 et3 eLA ⊢
    clear s7 ht4
    refine ⟨(by show 1 ≤ sizeLine; decide), fun l2 hl2 => ?_⟩
    have fl2 := hP.fresh hl2
    have s8 := same_new (Same.refl H7) hl2 (o := .lst [.ref t4])
    have el2 := upd_same (H := H7) (a := l2) (o := .lst [.ref t4])
    replace hP := hP.new hl2 (o := .lst [.ref t4])
    replace b0 := b0.new hl2 (o := .lst [.ref t4])
    replace et1 := s8 _ _ et1
    replace el1 := s8 _ _ el1
    replace ed1 := s8 _ _ ed1
    replace et2 := s8 _ _ et2
    replace et3 := s8 _ _ et3
    replace eLA := s8 _ _ eLA
    replace et4 := s8 _ _ et4
    generalize upd H7 l2 (.lst [.ref t4]) = H8 at s8 el2 hP b0 et1 el1 ed1 et2 et3 eLA et4 ⊢
    clear s8 hl2
    refine fun d2 hd2 => ?_
    refine ⟨upd_same, [(Sum.inr "a", .int 1)], rfl, (by show 1 ≤ 15; decide), ?_⟩
    rw [show mergeK ([] : List (Key × V)) [(Sum.inr "a", V.int 1)] = ([(Sum.inr "a", V.int 1)] : List (Key × V)) from rfl, upd2]
    have fd2 := hP.fresh hd2
    have s9 := same_new (Same.refl H8) hd2 (o := .dK [(Sum.inr "a", .int 1)])
    have ed2 := upd_same (H := H8) (a := d2) (o := .dK [(Sum.inr "a", .int 1)])
    replace hP := hP.new hd2 (o := .dK [(Sum.inr "a", .int 1)])
    replace b0 := b0.new hd2 (o := .dK [(Sum.inr "a", .int 1)])
    replace et1 := s9 _ _ et1
    replace el1 := s9 _ _ el1
    replace ed1 := s9 _ _ ed1
    replace et2 := s9 _ _ et2
    replace et3 := s9 _ _ et3
    replace eLA := s9 _ _ eLA
    replace et4 := s9 _ _ et4
    replace el2 := s9 _ _ el2
    generalize upd H8 d2 (.dK [(Sum.inr "a", .int 1)]) = H9 at s9 ed2 hP b0 et1 el1 ed1 et2 et3 eLA et4 el2 ⊢
    clear s9 hd2
    refine ⟨Nat.zero_le _, fun t5 ht5 => ?_⟩
    have ft5 := hP.fresh ht5
    have s10 := same_new (Same.refl H9) ht5 (o := .tup [])
    have et5 := upd_same (H := H9) (a := t5) (o := .tup [])
    replace hP := hP.new ht5 (o := .tup [])
    replace b0 := b0.new ht5 (o := .tup [])
    replace et1 := s10 _ _ et1
    replace el1 := s10 _ _ el1
    replace ed1 := s10 _ _ ed1
    replace et2 := s10 _ _ et2
    replace et3 := s10 _ _ et3
    replace eLA := s10 _ _ eLA
    replace et4 := s10 _ _ et4
    replace el2 := s10 _ _ el2
    replace ed2 := s10 _ _ ed2
    generalize upd H9 t5 (.tup []) = H10 at s10 et5 hP b0 et1 el1 ed1 et2 et3 eLA et4 el2 ed2 ⊢
    clear s10 ht5
    refine ⟨(by show 4 ≤ sizeLine; decide), fun t6 ht6 => ?_⟩
    have ft6 := hP.fresh ht6
    have s11 := same_new (Same.refl H10) ht6 (o := .tup [.str "rows", .int 0, .ref t5, .int 0])
    have et6 := upd_same (H := H10) (a := t6) (o := .tup [.str "rows", .int 0, .ref t5, .int 0])
    replace hP := hP.new ht6 (o := .tup [.str "rows", .int 0, .ref t5, .int 0])
    replace b0 := b0.new ht6 (o := .tup [.str "rows", .int 0, .ref t5, .int 0])
    replace et1 := s11 _ _ et1
    replace el1 := s11 _ _ el1
    replace ed1 := s11 _ _ ed1
    replace et2 := s11 _ _ et2
    replace et3 := s11 _ _ et3
    replace eLA := s11 _ _ eLA
    replace et4 := s11 _ _ et4
    replace el2 := s11 _ _ el2
    replace ed2 := s11 _ _ ed2
    replace et5 := s11 _ _ et5
    generalize upd H10 t6 (.tup [.str "rows", .int 0, .ref t5, .int 0]) = H11 at s11 et6 hP b0 et1 el1 ed1 et2 et3 eLA et4 el2 ed2 et5 ⊢
    clear s11 ht6
    refine ⟨10, 12, rfl, rfl, ⟨by decide, by decide, by decide⟩, ?_⟩
    refine ⟨Nat.zero_le _, fun t7 ht7 => ?_⟩
    have ft7 := hP.fresh ht7
    have s12 := same_new (Same.refl H11) ht7 (o := .tup [])
    have et7 := upd_same (H := H11) (a := t7) (o := .tup [])
    replace hP := hP.new ht7 (o := .tup [])
    replace b0 := b0.new ht7 (o := .tup [])
    replace et1 := s12 _ _ et1
    replace el1 := s12 _ _ el1
    replace ed1 := s12 _ _ ed1
    replace et2 := s12 _ _ et2
    replace et3 := s12 _ _ et3
    replace eLA := s12 _ _ eLA
    replace et4 := s12 _ _ et4
    replace el2 := s12 _ _ el2
    replace ed2 := s12 _ _ ed2
    replace et5 := s12 _ _ et5
    replace et6 := s12 _ _ et6
    generalize upd H11 t7 (.tup []) = H12 at s12 et7 hP b0 et1 el1 ed1 et2 et3 eLA et4 el2 ed2 et5 et6 ⊢
    clear s12 ht7
    refine ⟨Nat.zero_le _, fun t8 ht8 => ?_⟩
    have ft8 := hP.fresh ht8
    have s13 := same_new (Same.refl H12) ht8 (o := .tup [])
    have et8 := upd_same (H := H12) (a := t8) (o := .tup [])
    replace hP := hP.new ht8 (o := .tup [])
    replace b0 := b0.new ht8 (o := .tup [])
    replace et1 := s13 _ _ et1
    replace el1 := s13 _ _ el1
    replace ed1 := s13 _ _ ed1
    replace et2 := s13 _ _ et2
    replace et3 := s13 _ _ et3
    replace eLA := s13 _ _ eLA
    replace et4 := s13 _ _ et4
    replace el2 := s13 _ _ el2
    replace ed2 := s13 _ _ ed2
    replace et5 := s13 _ _ et5
    replace et6 := s13 _ _ et6
    replace et7 := s13 _ _ et7
    generalize upd H12 t8 (.tup []) = H13 at s13 et8 hP b0 et1 el1 ed1 et2 et3 eLA et4 el2 ed2 et5 et6 et7 ⊢
    clear s13 ht8
    refine ⟨(by show 2 ≤ sizeLine; decide), fun t9 ht9 => ?_⟩
    have ft9 := hP.fresh ht9
    have s14 := same_new (Same.refl H13) ht9 (o := .tup [.ref t7, .ref t8])
    have et9 := upd_same (H := H13) (a := t9) (o := .tup [.ref t7, .ref t8])
    replace hP := hP.new ht9 (o := .tup [.ref t7, .ref t8])
    replace b0 := b0.new ht9 (o := .tup [.ref t7, .ref t8])
    replace et1 := s14 _ _ et1
    replace el1 := s14 _ _ el1
    replace ed1 := s14 _ _ ed1
    replace et2 := s14 _ _ et2
    replace et3 := s14 _ _ et3
    replace eLA := s14 _ _ eLA
    replace et4 := s14 _ _ et4
    replace el2 := s14 _ _ el2
    replace ed2 := s14 _ _ ed2
    replace et5 := s14 _ _ et5
    replace et6 := s14 _ _ et6
    replace et7 := s14 _ _ et7
    replace et8 := s14 _ _ et8
    generalize upd H13 t9 (.tup [.ref t7, .ref t8]) = H14 at s14 et9 hP b0 et1 el1 ed1 et2 et3 eLA et4 el2 ed2 et5 et6 et7 et8 ⊢
    clear s14 ht9
    refine ⟨(by show 1 ≤ sizeLine; decide), fun l3 hl3 => ?_⟩
    have fl3 := hP.fresh hl3
    have s15 := same_new (Same.refl H14) hl3 (o := .lst [.str "a"])
    have el3 := upd_same (H := H14) (a := l3) (o := .lst [.str "a"])
    replace hP := hP.new hl3 (o := .lst [.str "a"])
    replace b0 := b0.new hl3 (o := .lst [.str "a"])
    replace et1 := s15 _ _ et1
    replace el1 := s15 _ _ el1
    replace ed1 := s15 _ _ ed1
    replace et2 := s15 _ _ et2
    replace et3 := s15 _ _ et3
    replace eLA := s15 _ _ eLA
    replace et4 := s15 _ _ et4
    replace el2 := s15 _ _ el2
    replace ed2 := s15 _ _ ed2
    replace et5 := s15 _ _ et5
    replace et6 := s15 _ _ et6
    replace et7 := s15 _ _ et7
    replace et8 := s15 _ _ et8
    replace et9 := s15 _ _ et9
    generalize upd H14 l3 (.lst [.str "a"]) = H15 at s15 el3 hP b0 et1 el1 ed1 et2 et3 eLA et4 el2 ed2 et5 et6 et7 et8 et9 ⊢
    clear s15 hl3
    refine ⟨(by show 7 ≤ sizeLine; decide), fun LB hLB => ?_⟩
    have fLB := hP.fresh hLB
    have s16 := same_new (Same.refl H15) hLB (o := .lst [.ref l2, .ref d2, .ref t6, .str "abcdefghi", .int (10 ^ (12 : Int).toNat), .ref t9, .ref l3])
    have eLB := upd_same (H := H15) (a := LB) (o := .lst [.ref l2, .ref d2, .ref t6, .str "abcdefghi", .int (10 ^ (12 : Int).toNat), .ref t9, .ref l3])
    replace hP := hP.new hLB (o := .lst [.ref l2, .ref d2, .ref t6, .str "abcdefghi", .int (10 ^ (12 : Int).toNat), .ref t9, .ref l3])
    replace b0 := b0.new hLB (o := .lst [.ref l2, .ref d2, .ref t6, .str "abcdefghi", .int (10 ^ (12 : Int).toNat), .ref t9, .ref l3])
    replace et1 := s16 _ _ et1
    replace el1 := s16 _ _ el1
    replace ed1 := s16 _ _ ed1
    replace et2 := s16 _ _ et2
    replace et3 := s16 _ _ et3
    replace eLA := s16 _ _ eLA
    replace et4 := s16 _ _ et4
    replace el2 := s16 _ _ el2
    replace ed2 := s16 _ _ ed2
    replace et5 := s16 _ _ et5
    replace et6 := s16 _ _ et6
    replace et7 := s16 _ _ et7
    replace et8 := s16 _ _ et8
    replace et9 := s16 _ _ et9
    replace el3 := s16 _ _ el3
    generalize upd H15 LB (.lst [.ref l2, .ref d2, .ref t6, .str "abcdefghi", .int (10 ^ (12 : Int).toNat), .ref t9, .ref l3]) = H16 at s16 eLB hP b0 et1 el1 ed1 et2 et3 eLA et4 el2 ed2 et5 et6 et7 et8 et9 el3 ⊢
    clear s16 hLB
    refine ⟨LA, LB, _, _, rfl, rfl, eLA, eLB, (by show 25 ≤ sizeLine; decide), fun LC hLC => ?_⟩
    have fLC := hP.fresh hLC
    have s17 := same_new (Same.refl H16) hLC (o := .lst ([.non, .bl true, .bl false, .int 0, .int (-1), .int 7, .int 6, .str "", .str "A", .str "a", .str "0#0", .str "9:0", .ref t1, .ref l1, .ref d1, .ref t2, .ref t3, .str "1:00"] ++ [.ref l2, .ref d2, .ref t6, .str "abcdefghi", .int (10 ^ (12 : Int).toNat), .ref t9, .ref l3]))
    have eLC := upd_same (H := H16) (a := LC) (o := .lst ([.non, .bl true, .bl false, .int 0, .int (-1), .int 7, .int 6, .str "", .str "A", .str "a", .str "0#0", .str "9:0", .ref t1, .ref l1, .ref d1, .ref t2, .ref t3, .str "1:00"] ++ [.ref l2, .ref d2, .ref t6, .str "abcdefghi", .int (10 ^ (12 : Int).toNat), .ref t9, .ref l3]))
    replace hP := hP.new hLC (o := .lst ([.non, .bl true, .bl false, .int 0, .int (-1), .int 7, .int 6, .str "", .str "A", .str "a", .str "0#0", .str "9:0", .ref t1, .ref l1, .ref d1, .ref t2, .ref t3, .str "1:00"] ++ [.ref l2, .ref d2, .ref t6, .str "abcdefghi", .int (10 ^ (12 : Int).toNat), .ref t9, .ref l3]))
    replace b0 := b0.new hLC (o := .lst ([.non, .bl true, .bl false, .int 0, .int (-1), .int 7, .int 6, .str "", .str "A", .str "a", .str "0#0", .str "9:0", .ref t1, .ref l1, .ref d1, .ref t2, .ref t3, .str "1:00"] ++ [.ref l2, .ref d2, .ref t6, .str "abcdefghi", .int (10 ^ (12 : Int).toNat), .ref t9, .ref l3]))
    replace et1 := s17 _ _ et1
    replace el1 := s17 _ _ el1
    replace ed1 := s17 _ _ ed1
    replace et2 := s17 _ _ et2
    replace et3 := s17 _ _ et3
    replace eLA := s17 _ _ eLA
    replace et4 := s17 _ _ et4
    replace el2 := s17 _ _ el2
    replace ed2 := s17 _ _ ed2
    replace et5 := s17 _ _ et5
    replace et6 := s17 _ _ et6
    replace et7 := s17 _ _ et7
    replace et8 := s17 _ _ et8
    replace et9 := s17 _ _ et9
    replace el3 := s17 _ _ el3
    replace eLB := s17 _ _ eLB
    generalize upd H16 LC (.lst ([.non, .bl true, .bl false, .int 0, .int (-1), .int 7, .int 6, .str "", .str "A", .str "a", .str "0#0", .str "9:0", .ref t1, .ref l1, .ref d1, .ref t2, .ref t3, .str "1:00"] ++ [.ref l2, .ref d2, .ref t6, .str "abcdefghi", .int (10 ^ (12 : Int).toNat), .ref t9, .ref l3])) = H17 at s17 eLC hP b0 et1 el1 ed1 et2 et3 eLA et4 el2 ed2 et5 et6 et7 et8 et9 el3 eLB ⊢
    clear s17 hLC
    have hD : DxAll (· = p) H17 [.non, .bl true, .bl false, .int 0, .int (-1), .int 7, .int 6, .str "", .str "A", .str "a", .str "0#0", .str "9:0", .ref t1, .ref l1, .ref d1, .ref t2, .ref t3, .str "1:00", .ref l2, .ref d2, .ref t6, .str "abcdefghi", .int (10 ^ (12 : Int).toNat), .ref t9, .ref l3] (oddA ++ oddB) :=
      .cons .non (.cons (.bl _) (.cons (.bl _) (.cons (.int _) (.cons (.int _) (.cons (.int _) (.cons (.int _) (.cons (.str _) (.cons (.str _) (.cons (.str _) (.cons (.str _) (.cons (.str _)
        (.cons (.tup ft1.1 et1 .nil) (.cons (.lst fl1.1 el1 .nil) (.cons (.dic fd1.1 ed1 .nil) (.cons (.tup ft2.1 et2 (.cons (.str _) .nil)) (.cons (.tup ft3.1 et3 (.cons (.str _) (.cons (.str _) .nil))) (.cons (.str _)
        (.cons (.lst fl2.1 el2 (.cons (.tup ft4.1 et4 (.cons (.str _) (.cons (.str _) .nil))) .nil)) (.cons (.dic fd2.1 ed2 (.cons (k := Sum.inr "a") (.int _) .nil))
        (.cons (.tup ft6.1 et6 (.cons (.str _) (.cons (.int _) (.cons (.tup ft5.1 et5 .nil) (.cons (.int _) .nil))))) (.cons (.str _) (.cons (.int _) (.cons (.tup ft9.1 et9 (.cons (.tup ft7.1 et7 .nil) (.cons (.tup ft8.1 et8 .nil) .nil))) (.cons (.lst fl3.1 el3 (.cons (.str _) .nil)) .nil))))))))))))))))))))))))
    refine ⟨_, rfl, _, rfl, p, c, ns, n, _, [.non, .bl true, .bl false, .int 0, .int (-1), .int 7, .int 6, .str "", .str "A", .str "a", .str "0#0", .str "9:0", .ref t1, .ref l1, .ref d1, .ref t2, .ref t3, .str "1:00", .ref l2, .ref d2, .ref t6, .str "abcdefghi", .int (10 ^ (12 : Int).toNat), .ref t9, .ref l3], rfl, hP, by omega, ⟨by show 1 ≤ 25; decide, by show 25 ≤ 1000; decide, .inl ⟨LC, rfl, .inl eLC⟩⟩, fun v H' hv hP' b' => ?_⟩
    obtain ⟨d, hd, hx⟩ := hD.mem v hv
    exact k v d H' (hx.mono b') hd hP' (b0.trans b')
end
end K3
namespace K3
open PySem PySem.Spec PyProof.Rows L2 GG
/-! ### how much data show at most -/
mutual
def sz : PyData → Nat
  | .none => 4
  | .bool _ => 5
  | .int _ => 16
  | .str z => (reprText z).length
  | .list xs => szAll xs + 3
  | .tuple xs => szAll xs + 3
  | .dict es => szKv es + 3
def szAll : List PyData → Nat
  | [] => 0
  | x :: xs => sz x + 2 + szAll xs
def szKv : List (PyData × PyData) → Nat
  | [] => 0
  | (k, v) :: r => sz k + sz v + 6 + szKv r
end
mutual
/-- small numbers; dicts of at most one entry -/
def okd : PyData → Bool
  | .int i => decide (i.natAbs < 10 ^ 13)
  | .list xs => okAll xs
  | .tuple xs => okAll xs
  | .dict es => decide (es.length ≤ 1) && okKv es
  | _ => true
def okAll : List PyData → Bool
  | [] => true
  | x :: xs => okd x && okAll xs
def okKv : List (PyData × PyData) → Bool
  | [] => true
  | (k, v) :: r => okd k && okd v && okKv r
end
theorem szAll_app : ∀ a b : List PyData, szAll (a ++ b) = szAll a + szAll b
  | [], b => by simp [szAll]
  | x :: a, b => by
    have := szAll_app a b
    simp only [List.cons_append, szAll, this]
    omega
theorem okAll_app : ∀ a b : List PyData, okAll (a ++ b) = (okAll a && okAll b)
  | [], b => by simp [okAll]
  | x :: a, b => by
    have := okAll_app a b
    simp only [List.cons_append, okAll, this, Bool.and_assoc]
theorem szAll_len : ∀ a : List PyData, 2 * a.length ≤ szAll a
  | [] => Nat.le_refl _
  | x :: a => by
    have := szAll_len a
    simp only [szAll, List.length_cons]
    omega
theorem szAll_mem : ∀ {a : List PyData} {d : PyData}, d ∈ a → sz d ≤ szAll a
  | x :: a, d, h => by
    simp only [szAll]
    rcases List.mem_cons.mp h with rfl | h
    · omega
    · have := szAll_mem h
      omega
theorem okAll_mem : ∀ {a : List PyData} {d : PyData}, d ∈ a → okAll a = true → okd d = true
  | x :: a, d, h, k => by
    simp only [okAll, Bool.and_eq_true] at k
    rcases List.mem_cons.mp h with rfl | h
    · exact k.1
    · exact okAll_mem h k.2
theorem dictText_le (ts : List Str) : (dictText ts).length ≤ piled ts + 3 := by
  unfold dictText
  rw [strLen_append, strLen_append]
  have e1 : (("{" : String) : Str).length = 1 := rfl
  have e2 : (("}" : String) : Str).length = 1 := rfl
  cases ts with
  | nil =>
    have e3 : (Str.join ", " []).length = 0 := rfl
    rw [e1, e2, e3]
    omega
  | cons t r =>
    have e3 := join_length_add (t :: r) (by simp)
    rw [e1, e2]
    omega
theorem int_shown {i : Int} (h : i.natAbs < 10 ^ 13) : (PyData.int i).showable = true ∧ (PyData.int i).shown.length ≤ 16 := by
  refine ⟨?_, ?_⟩
  · simp only [PyData.showable]
    refine decide_eq_true ?_
    by_cases h0 : i.natAbs = 0
    · rw [h0]; decide
    · refine (Nat.log2_lt h0).mpr (Nat.lt_of_lt_of_le h ?_)
      calc (10 : Nat) ^ 13 ≤ 2 ^ 60 := by decide
        _ ≤ 2 ^ 1920 := Nat.pow_le_pow_right (by decide) (by decide)
  · show (Str.ofString (toString i)).length ≤ 16
    rw [PySem.ofString_length]
    exact Nat.le_trans (int_text_length_le10 (k := 13) (by decide) h) (by decide)
mutual
theorem shown_sz : ∀ d : PyData, okd d = true → d.showable = true ∧ d.shown.length ≤ sz d
  | .none, _ => ⟨rfl, by decide +kernel⟩
  | .bool b, _ => ⟨rfl, by cases b <;> decide +kernel⟩
  | .int i, h => by
    have := int_shown (i := i) (of_decide_eq_true h)
    exact ⟨this.1, by simpa only [sz] using this.2⟩
  | .str z, _ => ⟨rfl, by simp only [PyData.shown, sz]; exact Nat.le_refl _⟩
  | .list xs, h => by
    obtain ⟨a, b⟩ := shown_szAll xs (by simpa only [okd] using h)
    refine ⟨by simpa only [PyData.showable] using a, ?_⟩
    simp only [PyData.shown, sz]
    exact Nat.le_trans (textFrom_le _) (by omega)
  | .tuple xs, h => by
    obtain ⟨a, b⟩ := shown_szAll xs (by simpa only [okd] using h)
    refine ⟨by simpa only [PyData.showable] using a, ?_⟩
    simp only [PyData.shown, sz]
    exact Nat.le_trans (tupleText_le _) (by omega)
  | .dict es, h => by
    simp only [okd, Bool.and_eq_true] at h
    obtain ⟨a, b⟩ := shown_szKv es h.2
    refine ⟨by simpa only [PyData.showable] using a, ?_⟩
    simp only [PyData.shown, sz]
    exact Nat.le_trans (dictText_le _) (by omega)
theorem shown_szAll : ∀ ds : List PyData, okAll ds = true → PyData.showableAll ds = true ∧ piled (PyData.shownAll ds) ≤ szAll ds
  | [], _ => ⟨rfl, Nat.le_refl _⟩
  | d :: ds, h => by
    simp only [okAll, Bool.and_eq_true] at h
    obtain ⟨a, b⟩ := shown_sz d h.1
    obtain ⟨c, e⟩ := shown_szAll ds h.2
    refine ⟨by simp only [PyData.showableAll, a, c, Bool.and_self], ?_⟩
    simp only [PyData.shownAll, piled_cons, szAll]
    omega
theorem shown_szKv : ∀ es : List (PyData × PyData), okKv es = true → PyData.showableKv es = true ∧ piled (PyData.shownKv es) ≤ szKv es
  | [], _ => ⟨rfl, Nat.le_refl _⟩
  | (k, v) :: es, h => by
    simp only [okKv, Bool.and_eq_true] at h
    obtain ⟨a, b⟩ := shown_sz k h.1.1
    obtain ⟨a', b'⟩ := shown_sz v h.1.2
    obtain ⟨c, e⟩ := shown_szKv es h.2
    refine ⟨by simp only [PyData.showableKv, a, a', c, Bool.and_self], ?_⟩
    simp only [PyData.shownKv, piled_cons, szKv]
    rw [strLen_append, strLen_append]
    have e2 : ((": " : String) : Str).length = 2 := rfl
    omega
end
mutual
theorem few_of : ∀ (n : Nat) (d : PyData), okd d = true → sz d ≤ 2000 → FewX n d
  | 0, _, _, _ => trivial
  | n + 1, d, h, k => by
    refine ⟨fun ds e => ?_, fun es e => ?_⟩
    · have q : okAll ds = true ∧ szAll ds ≤ 2000 := by
        rcases e with rfl | rfl
        · simp only [okd, sz] at h k
          exact ⟨h, by omega⟩
        · simp only [okd, sz] at h k
          exact ⟨h, by omega⟩
      have l := szAll_len ds
      exact ⟨by omega, fun e he => few_of n e (okAll_mem he q.1) (Nat.le_trans (szAll_mem he) q.2)⟩
    · subst e
      simp only [okd, sz, Bool.and_eq_true] at h k
      have l := of_decide_eq_true h.1
      match es, l, h.2, k with
      | [], _, _, _ => exact ⟨by decide, .nil, fun e he => absurd he (by simp)⟩
      | [(a, b)], _, h2, k2 =>
        simp only [okKv, szKv, Bool.and_eq_true] at h2 k2
        refine ⟨by show 1 ≤ 1000; decide, by simp, fun e he => ?_⟩
        rw [List.mem_singleton.mp he]
        exact few_of n b h2.1.2 (by omega)
end
/-- data of bounded size -/
structure Sx (n k : Nat) (d : PyData) : Prop where
  ok : okd d = true
  le : sz d ≤ n
  deep : d.depth ≤ k
theorem Sx.mono {n m k l : Nat} {d : PyData} (h : Sx n k d) (a : n ≤ m) (b : k ≤ l) : Sx m l d := ⟨h.ok, Nat.le_trans h.le a, Nat.le_trans h.deep b⟩
theorem Sx.showX {n k : Nat} {d : PyData} (h : Sx n k d) (a : n ≤ 2000) (b : k ≤ 60) : ShowX d := by
  obtain ⟨q1, q2⟩ := shown_sz d h.ok
  exact ⟨q1, Nat.le_trans h.deep b, Nat.le_trans q2 (Nat.le_trans h.le (Nat.le_trans a (by decide)))⟩
theorem Sx.cp {M : Addr → Prop} {H : Hp} {v : V} {n k j : Nat} {d : PyData} (h : Sx n k d) (a : n ≤ 2000) (b : k ≤ j) (dx : Dx M H v d) : Cp M H v d j := ⟨dx, Nat.le_trans h.deep b, few_of _ _ h.ok (Nat.le_trans h.le a)⟩
theorem odd_sx {d : PyData} (h : OddD d) : Sx 80 3 d := by
  have all : ∀ d ∈ oddA ++ oddB, okd d = true ∧ sz d ≤ 80 ∧ d.depth ≤ 3 := by decide +kernel
  obtain ⟨a, b, c⟩ := all d h
  exact ⟨a, b, c⟩
theorem plain_sx {d : PyData} (h : PlainD d) : Sx 40 2 d := by
  rcases h with rfl | ⟨i, h1, h2, rfl⟩ | ⟨z, hz, rfl⟩ | rfl | rfl | rfl
  · exact ⟨rfl, by decide +kernel, by decide⟩
  · exact ⟨decide_eq_true (by omega), by simp [sz], by simp [PyData.depth]⟩
  · refine ⟨rfl, ?_, by simp [PyData.depth]⟩
    simp only [List.mem_cons, List.not_mem_nil, or_false] at hz
    rcases hz with rfl | rfl | rfl | rfl | rfl | rfl <;> decide +kernel
  · exact ⟨by decide +kernel, by decide +kernel, by decide +kernel⟩
  · exact ⟨by decide +kernel, by decide +kernel, by decide +kernel⟩
  · exact ⟨by decide +kernel, by decide +kernel, by decide +kernel⟩
theorem sx_all {n k : Nat} : ∀ {ds : List PyData}, (∀ d ∈ ds, Sx n k d) → okAll ds = true ∧ szAll ds ≤ ds.length * (n + 2) ∧ PyData.depthAll ds ≤ k
  | [], _ => ⟨rfl, Nat.zero_le _, Nat.zero_le _⟩
  | d :: ds, h => by
    obtain ⟨a, b, c⟩ := sx_all (ds := ds) fun x hx => h x (List.mem_cons_of_mem _ hx)
    have q := h d (List.mem_cons_self ..)
    refine ⟨by simp only [okAll, q.ok, a, Bool.and_self], ?_, ?_⟩
    · have := q.le
      simp only [szAll, List.length_cons, Nat.add_mul, Nat.one_mul]
      omega
    · have := q.deep
      simp only [PyData.depthAll]
      omega
theorem row_sx {d : PyData} (h : RowD d) : Sx 180 3 d := by
  obtain ⟨ds, rfl, h4, hp⟩ := h
  obtain ⟨a, b, c⟩ := sx_all fun e he => plain_sx (hp e he)
  refine ⟨by simpa only [okd] using a, ?_, by simp only [PyData.depth]; omega⟩
  simp only [sz]
  have : ds.length * (40 + 2) ≤ 4 * 42 := Nat.mul_le_mul_right _ h4
  omega
end K3
namespace K3
open PySem PySem.Spec PyProof.Rows L2 GG
abbrev sBent : Stmt := top 25
abbrev bentN : List Str := ["_law_pen_here", "_law_end_here", "_law_letter", "_law_term", "_law_first", "_law_rows", "_law_heard", "_law_odd_here", "_law_number", "_law_some"]
theorem scBe : FnScope bentN ["_law_pen_here", "_law_end_here", "_law_letter"] (defScope sBent) := ⟨rfl, rfl, rfl, by decide +kernel, rfl, by decide +kernel, by decide +kernel⟩
def spBent : Sp := fun vs H Q _ => ∃ (p c e q t : Addr) (ns : List Int) (n N kn tk : Nat) (put : List V) (dt df dh : PyData) (rs : List PyData), vs = [.ref p, .ref e, .ref t] ∧ Pen H p c ns n ∧ n + 5 ≤ 1000000000 ∧ H e = some (.dK (endK q kn tk)) ∧ H q = some (.lst put) ∧ e ≠ p ∧ put.length ≤ 1000 ∧ tk ≤ 1000 ∧
  Dx (· = p) H (.ref t) (.tuple [dt, df, .tuple rs, dh]) ∧ Sx N 5 (.tuple [dt, df, .tuple rs, dh]) ∧ N ≤ 1800 ∧
  ∀ (v : V) (d : PyData) (H' : Hp), Dx (· = p) H' v d → Sx (N + 100) 5 d → Pen H' p c ns (n + 5) → But (· = p) H H' → Q v H'
theorem Sx.tup4 {n k : Nat} {a b c d : PyData} (h : Sx n (k + 1) (.tuple [a, b, c, d])) : okd a = true ∧ okd b = true ∧ okd c = true ∧ okd d = true ∧ sz a + sz b + sz c + sz d + 11 ≤ n ∧ a.depth ≤ k ∧ b.depth ≤ k ∧ c.depth ≤ k ∧ d.depth ≤ k := by
  obtain ⟨h1, h2, h3⟩ := h
  simp only [okd, okAll, Bool.and_eq_true, Bool.and_true] at h1
  simp only [sz, szAll] at h2
  simp only [PyData.depth, PyData.depthAll] at h3
  refine ⟨h1.1, h1.2.1, h1.2.2.1, h1.2.2.2, ?_, ?_, ?_, ?_, ?_⟩ <;> omega
theorem Sx.of_list {n k : Nat} {ds : List PyData} (a : okAll ds = true) (b : szAll ds + 3 ≤ n) (c : PyData.depthAll ds ≤ k) : Sx n (k + 1) (.tuple ds) ∧ Sx n (k + 1) (.list ds) :=
  ⟨⟨by simpa only [okd] using a, by simpa only [sz] using b, by simp only [PyData.depth]; omega⟩, ⟨by simpa only [okd] using a, by simpa only [sz] using b, by simp only [PyData.depth]; omega⟩⟩
theorem sx4 {n k : Nat} {a b c d : PyData} (o1 : okd a = true) (o2 : okd b = true) (o3 : okd c = true) (o4 : okd d = true) (h : sz a + sz b + sz c + sz d + 11 ≤ n) (p1 : a.depth ≤ k) (p2 : b.depth ≤ k) (p3 : c.depth ≤ k) (p4 : d.depth ≤ k) :
    Sx n (k + 1) (.tuple [a, b, c, d]) ∧ Sx n (k + 1) (.list [a, b, c, d]) := by
  refine Sx.of_list ?_ ?_ ?_
  · simp only [okAll, o1, o2, o3, o4, Bool.and_self]
  · simp only [szAll]
    omega
  · simp only [PyData.depthAll]
    omega
theorem depthAll_app : ∀ a b : List PyData, PyData.depthAll (a ++ b) = max (PyData.depthAll a) (PyData.depthAll b)
  | [], b => by simp [PyData.depthAll]
  | x :: a, b => by
    have := depthAll_app a b
    simp only [List.cons_append, PyData.depthAll, this]
    omega
section
variable {P : Program} {w : World} {K : PySem.W.Frag} {mg : Str → Option Value} {base : Heap}
theorem ok_bent {f : Addr} {fd : FuncData} (F : Fun K "_law_bent" "_law_bent" sBent f fd) (T : Txt mg) (CD : Cal P w K mg base "_law_draw" 1 ["_law_pen_here", "_law_many"] spDraw) (CP : Cal P w K mg base "_law_pick" 2 ["_law_pen_here", "_law_some"] spPick) (CO : Cal P w K mg base "_law_odd" 3 ["_law_pen_here"] spOdd) :
    FnOk P w K mg base CX0 4 f fd ["_law_pen_here", "_law_end_here", "_law_letter"] spBent := by
  obtain ⟨fD, fdD, mD, kD, bD, GD⟩ := CD
  obtain ⟨fP, fdP, mP, kP, bP, GP⟩ := CP
  obtain ⟨fO, fdO, mO, kO, bO, GO⟩ := CO
  refine F.ok scBe (fun vs H Q E h => ?_) (fun cdv A outer s H vs Q E hr h => ?_)
  · obtain ⟨p, c, e, q, t, ns, n, N, kn, tk, put, dt, df, dh, rs, rfl, _⟩ := h
    rfl
  · obtain ⟨p, c, e, q, t, ns, n, N, kn, tk, put, dt, df, dh, rs, rfl, hP, hn, he, hq, nep, hput, htk, dxt, hsx, hN, k⟩ := h
    have nd := scBe.nd
    have hu := hu_of hr
    have r1 : Room 1 _ := hr.mono (by decide)
    have r2 : Room 2 _ := hr.mono (by decide)
    refine ⟨_, pss_cons (ps_asg (pv 2) (pg_tup rfl (pgs_cons (pg_name (i := 3) nd rfl (Or.inl rfl)) (pgs_cons (pg_name (i := 4) nd rfl (Or.inl rfl)) (pgs_cons (pg_name (i := 5) nd rfl (Or.inl rfl)) (pgs_cons (pg_name (i := 6) nd rfl (Or.inl rfl)) pgs_nil))))))
      (pss_cons (ps_set (i := 7) nd rfl (.inl rfl) (pe_call GO hr (by rfl) mO kO bO .nil pass0 (pa_cons (pv 0) pa_nil)))
      (pss_cons (ps_set (i := 8) nd rfl (.inl rfl) (pe_ix ix_list (pe_lst (pa_cons pe_bl (pa_cons pe_bl (pa_cons (pe_un un_neg pe_int) (pa_cons pe_str (pa_cons pe_non (pa_cons (pe_op op_add (pe_dget hu (pv 1) pe_str (fun _ _ => rfl)) pe_int)
          (pa_cons (pe_op op_add (pe_callB call_len_seq (by rfl) T.len PySem.boot_len (pa_cons (pe_dget hu (pv 1) pe_str (fun _ _ => rfl)) pa_nil)) pe_int) (pa_cons (pv 7) pa_nil)))))))))
          (pe_call GD r1 (by rfl) mD kD bD .nil pass0 (pa_cons (pv 0) (pa_cons pe_int pa_nil))) (fun _ _ => rfl)))
      (pss_cons (ps_set (i := 9) nd rfl (.inl rfl) (pe_lst (pa_cons (pe_tup (pa_cons (pv 3) (pa_cons (pv 8) (pa_cons (pv 5) (pa_cons (pv 6) pa_nil))))) (pa_cons (pe_tup (pa_cons (pv 3) (pa_cons (pv 4) (pa_cons (pv 5) (pa_cons (pv 8) pa_nil)))))
          (pa_cons (pe_tup (pa_cons (pv 3) (pa_cons (pv 4) (pa_cons (pe_callTy call_list_of (by rfl) T.list (by decide +kernel) (pa_cons (pv 5) pa_nil)) (pa_cons (pv 6) pa_nil))))) pa_nil)))))
      (pss_cons (ps_expr (pe_bm PySem.F.plainAttrs_list PySem.F.slot_list_append PySem.F.type_list_append mt_append (pv 9) (pa_cons (pe_tup (pa_cons (pe_call GP r2 (by rfl) mP kP bP .nil pass0 (pa_cons (pv 0) (pa_cons (pe_lst (pa_cons pe_str (pa_cons pe_str (pa_cons pe_non (pa_cons pe_str (pa_cons pe_int pa_nil)))))) pa_nil)))
          (pa_cons (pv 4) (pa_cons (pv 5) (pa_cons (pv 6) pa_nil))))) pa_nil)))
      (pss_cons (ps_expr (pe_bm PySem.F.plainAttrs_list PySem.F.slot_list_append PySem.F.type_list_append mt_append (pv 9) (pa_cons (pe_tup (pa_cons (pv 3) (pa_cons (pv 4) (pa_cons (pe_op op_catA (pv 5) (pe_tup (pa_cons (pv 7) pa_nil))) (pa_cons (pv 6) pa_nil))))) pa_nil)))
      (pss_cons (ps_set (i := 9) nd rfl (.inl rfl) (pe_op op_cat (pv 9) (pe_lst (pa_cons (pe_slice sl_tupA (pv 2) po_none (po_some pe_int)) (pa_cons (pe_op op_catA (pv 2) (pe_tup (pa_cons pe_int pa_nil))) (pa_cons (pe_callTy call_list_of (by rfl) T.list (by decide +kernel) (pa_cons (pv 2) pa_nil))
          (pa_cons (pe_revT (pv 2)) (pa_cons (pe_tup (pa_cons (pv 3) (pa_cons (pv 4) (pa_cons (pv 7) (pa_cons (pv 6) pa_nil))))) (pa_cons (pv 7) pa_nil)))))))))
      (pss_one (ps_ret (pe_call GP r2 (by rfl) mP kP bP .nil pass0 (pa_cons (pv 0) (pa_cons (pv 9) pa_nil))))))))))), ?_⟩
    obtain ⟨o1, o2, o3, o4, osz, p1, p2, p3, p4⟩ := hsx.tup4 (k := 4)
    have b0 := But.refl (· = p) H
    obtain ⟨ls, ht, hls⟩ := dxt.tupI
    cases hls with
    | @cons vt _ _ _ h1 hls =>
    cases hls with
    | @cons vf _ _ _ h2 hls =>
    cases hls with
    | @cons vr _ _ _ h3 hls =>
    cases hls with
    | @cons vh _ _ _ h4 hls =>
    cases hls
    obtain ⟨r, rfl⟩ := h3.ref_of
    have nqp : q ≠ p := hP.ne hq
    refine ⟨_, rfl, t, _, rfl, SqT.of ht, rfl, _, _, rfl, _, _, rfl, _, _, rfl, _, _, rfl, rfl, ?_⟩
    refine ⟨_, rfl, p, c, ns, n, rfl, hP, by omega, fun vo do' H1 hvo hod hP1 b1 => ?_⟩
    have htp : t ≠ p := hP.neT ht
    have nrp : r ≠ p := by
      obtain ⟨zs, hz, _⟩ := h3.tupI
      exact hP.neT hz
    have bs := b1
    replace h1 := h1.mono bs
    replace h2 := h2.mono bs
    replace h3 := h3.mono bs
    replace h4 := h4.mono bs
    replace he := b1 _ _ nep he
    replace hq := b1 _ _ nqp hq
    replace ht := b1 _ _ htp ht
    replace b0 := b0.trans b1
    clear bs
    clear hP; have hP := hP1; clear hP1 b1
    have hos := odd_sx hod
    refine ⟨_, rfl, _, rfl, e, _, rfl, end_gt he, _, _, rfl, rfl, ?_⟩
    refine ⟨_, rfl, e, _, rfl, end_gp he, q, _, rfl, .inl (SqL.of hq), _, _, rfl, rfl, _, rfl, ?_⟩
    refine ⟨(by show 8 ≤ sizeLine; decide), fun ln hln => ?_⟩
    have fln := hP.fresh hln
    have s1 := same_new (Same.refl H1) hln (o := .lst [.bl true, .bl false, .int (-1), .str "0", .non, .int ((tk : Int) + 1), .int ((put.length : Int) + 1), vo])
    have bs : But (· = p) H1 (upd H1 ln (.lst [.bl true, .bl false, .int (-1), .str "0", .non, .int ((tk : Int) + 1), .int ((put.length : Int) + 1), vo])) := sameBut s1 _
    have eln := upd_same (H := H1) (a := ln) (o := .lst [.bl true, .bl false, .int (-1), .str "0", .non, .int ((tk : Int) + 1), .int ((put.length : Int) + 1), vo])
    replace hP := hP.new hln (o := .lst [.bl true, .bl false, .int (-1), .str "0", .non, .int ((tk : Int) + 1), .int ((put.length : Int) + 1), vo])
    replace b0 := b0.new hln (o := .lst [.bl true, .bl false, .int (-1), .str "0", .non, .int ((tk : Int) + 1), .int ((put.length : Int) + 1), vo])
    replace h1 := h1.mono bs
    replace h2 := h2.mono bs
    replace h3 := h3.mono bs
    replace h4 := h4.mono bs
    replace hvo := hvo.mono bs
    replace he := s1 _ _ he
    replace hq := s1 _ _ hq
    replace ht := s1 _ _ ht
    generalize upd H1 ln (.lst [.bl true, .bl false, .int (-1), .str "0", .non, .int ((tk : Int) + 1), .int ((put.length : Int) + 1), vo]) = H1 at s1 eln hP b0 h1 h2 h3 h4 hvo he hq ht ⊢
    clear s1 bs
    refine ⟨_, rfl, p, c, ns, n + 1, 8, rfl, hP, by omega, by decide, by decide, fun r0 H2 r00 r01 hP2 b2 => ?_⟩
    have bs := b2
    replace h1 := h1.mono bs
    replace h2 := h2.mono bs
    replace h3 := h3.mono bs
    replace h4 := h4.mono bs
    replace hvo := hvo.mono bs
    replace he := b2 _ _ nep he
    replace hq := b2 _ _ nqp hq
    replace ht := b2 _ _ htp ht
    replace eln := b2 _ _ fln.1 eln
    replace b0 := b0.trans b2
    clear bs
    clear hP; have hP := hP2; clear hP2 b2
    obtain ⟨vn, dn, hvn, hns, hatn⟩ : ∃ (vn : V) (dn : PyData), Dx (· = p) H2 vn dn ∧ Sx 80 3 dn ∧ atI [.bl true, .bl false, .int (-1), .str "0", .non, .int ((tk : Int) + 1), .int ((put.length : Int) + 1), vo] r0 = some vn := by
      have lt : r0.toNat < 8 := by omega
      have key : ∀ j : Nat, j < 8 → ∃ (vn : V) (dn : PyData), Dx (· = p) H2 vn dn ∧ Sx 80 3 dn ∧ ([.bl true, .bl false, .int (-1), .str "0", .non, .int ((tk : Int) + 1), .int ((put.length : Int) + 1), vo] : List V)[j]? = some vn := by
        intro j hj
        match j, hj with
        | 0, _ => exact ⟨_, _, .bl _, ⟨rfl, by decide, by decide⟩, rfl⟩
        | 1, _ => exact ⟨_, _, .bl _, ⟨rfl, by decide, by decide⟩, rfl⟩
        | 2, _ => exact ⟨_, _, .int _, ⟨by decide, by simp [sz], by simp [PyData.depth]⟩, rfl⟩
        | 3, _ => exact ⟨_, _, .str _, ⟨rfl, by decide +kernel, by simp [PyData.depth]⟩, rfl⟩
        | 4, _ => exact ⟨_, _, .non, ⟨rfl, by decide, by decide⟩, rfl⟩
        | 5, _ => exact ⟨_, _, .int _, ⟨by simp only [okd]; exact decide_eq_true (by omega), by simp [sz], by simp [PyData.depth]⟩, rfl⟩
        | 6, _ => exact ⟨_, _, .int _, ⟨by simp only [okd]; exact decide_eq_true (by omega), by simp [sz], by simp [PyData.depth]⟩, rfl⟩
        | 7, _ => exact ⟨_, _, hvo, hos, rfl⟩
      obtain ⟨vn, dn, a, b, e⟩ := key r0.toNat lt
      exact ⟨vn, dn, a, b, atI_int r00 e⟩
    refine ⟨ln, _, _, vn, rfl, rfl, SqL.of eln, hatn, ?_⟩
    clear hatn
    clear eln hln fln r00 r01
    refine ⟨_, rfl, _, rfl, _, rfl, _, rfl, (by show 4 ≤ sizeLine; decide), fun u1 hu1 => ?_⟩
    have fu1 := hP.fresh hu1
    have s2 := same_new (Same.refl H2) hu1 (o := .tup [vt, vn, .ref r, vh])
    have bs : But (· = p) H2 (upd H2 u1 (.tup [vt, vn, .ref r, vh])) := sameBut s2 _
    have eu1 := upd_same (H := H2) (a := u1) (o := .tup [vt, vn, .ref r, vh])
    replace hP := hP.new hu1 (o := .tup [vt, vn, .ref r, vh])
    replace b0 := b0.new hu1 (o := .tup [vt, vn, .ref r, vh])
    replace h1 := h1.mono bs
    replace h2 := h2.mono bs
    replace h3 := h3.mono bs
    replace h4 := h4.mono bs
    replace hvo := hvo.mono bs
    replace hvn := hvn.mono bs
    replace he := s2 _ _ he
    replace hq := s2 _ _ hq
    replace ht := s2 _ _ ht
    generalize upd H2 u1 (.tup [vt, vn, .ref r, vh]) = H2 at s2 eu1 hP b0 h1 h2 h3 h4 hvo hvn he hq ht ⊢
    clear s2 bs
    have g1 : Dx (· = p) H2 (.ref u1) (.tuple [dt, dn, .tuple rs, dh]) := .tup fu1.1 eu1 (.cons h1 (.cons hvn (.cons h3 (.cons h4 .nil))))
    clear eu1 hu1
    refine ⟨_, rfl, _, rfl, _, rfl, _, rfl, (by show 4 ≤ sizeLine; decide), fun u2 hu2 => ?_⟩
    have fu2 := hP.fresh hu2
    have s3 := same_new (Same.refl H2) hu2 (o := .tup [vt, vf, .ref r, vn])
    have bs : But (· = p) H2 (upd H2 u2 (.tup [vt, vf, .ref r, vn])) := sameBut s3 _
    have eu2 := upd_same (H := H2) (a := u2) (o := .tup [vt, vf, .ref r, vn])
    replace hP := hP.new hu2 (o := .tup [vt, vf, .ref r, vn])
    replace b0 := b0.new hu2 (o := .tup [vt, vf, .ref r, vn])
    replace h1 := h1.mono bs
    replace h2 := h2.mono bs
    replace h3 := h3.mono bs
    replace h4 := h4.mono bs
    replace hvo := hvo.mono bs
    replace hvn := hvn.mono bs
    replace g1 := g1.mono bs
    replace he := s3 _ _ he
    replace hq := s3 _ _ hq
    replace ht := s3 _ _ ht
    generalize upd H2 u2 (.tup [vt, vf, .ref r, vn]) = H3 at s3 eu2 hP b0 h1 h2 h3 h4 hvo hvn g1 he hq ht ⊢
    clear s3 bs
    have g2 : Dx (· = p) H3 (.ref u2) (.tuple [dt, df, .tuple rs, dn]) := .tup fu2.1 eu2 (.cons h1 (.cons h2 (.cons h3 (.cons hvn .nil))))
    clear eu2 hu2
    obtain ⟨zs, hz, hzs⟩ := h3.tupI
    refine ⟨_, rfl, _, rfl, _, rfl, r, _, rfl, .inr (SqT.of hz), fun u3 hu3 => ?_⟩
    have fu3 := hP.fresh hu3
    have s4 := same_new (Same.refl H3) hu3 (o := .lst zs)
    have bs : But (· = p) H3 (upd H3 u3 (.lst zs)) := sameBut s4 _
    have eu3 := upd_same (H := H3) (a := u3) (o := .lst zs)
    replace hP := hP.new hu3 (o := .lst zs)
    replace b0 := b0.new hu3 (o := .lst zs)
    replace h1 := h1.mono bs
    replace h2 := h2.mono bs
    replace h3 := h3.mono bs
    replace h4 := h4.mono bs
    replace hvo := hvo.mono bs
    replace hvn := hvn.mono bs
    replace g1 := g1.mono bs
    replace g2 := g2.mono bs
    replace hzs := hzs.mono bs
    replace he := s4 _ _ he
    replace hq := s4 _ _ hq
    replace ht := s4 _ _ ht
    replace hz := s4 _ _ hz
    generalize upd H3 u3 (.lst zs) = H4 at s4 eu3 hP b0 h1 h2 h3 h4 hvo hvn g1 g2 hzs he hq ht hz ⊢
    clear s4 bs
    have g3 : Dx (· = p) H4 (.ref u3) (.list rs) := .lst fu3.1 eu3 hzs
    clear eu3 hu3
    refine ⟨_, rfl, (by show 4 ≤ sizeLine; decide), fun u4 hu4 => ?_⟩
    have fu4 := hP.fresh hu4
    have s5 := same_new (Same.refl H4) hu4 (o := .tup [vt, vf, .ref u3, vh])
    have bs : But (· = p) H4 (upd H4 u4 (.tup [vt, vf, .ref u3, vh])) := sameBut s5 _
    have eu4 := upd_same (H := H4) (a := u4) (o := .tup [vt, vf, .ref u3, vh])
    replace hP := hP.new hu4 (o := .tup [vt, vf, .ref u3, vh])
    replace b0 := b0.new hu4 (o := .tup [vt, vf, .ref u3, vh])
    replace h1 := h1.mono bs
    replace h2 := h2.mono bs
    replace h3 := h3.mono bs
    replace h4 := h4.mono bs
    replace hvo := hvo.mono bs
    replace hvn := hvn.mono bs
    replace g1 := g1.mono bs
    replace g2 := g2.mono bs
    replace hzs := hzs.mono bs
    replace g3 := g3.mono bs
    replace he := s5 _ _ he
    replace hq := s5 _ _ hq
    replace ht := s5 _ _ ht
    replace hz := s5 _ _ hz
    generalize upd H4 u4 (.tup [vt, vf, .ref u3, vh]) = H5 at s5 eu4 hP b0 h1 h2 h3 h4 hvo hvn g1 g2 hzs g3 he hq ht hz ⊢
    clear s5 bs
    have g4 : Dx (· = p) H5 (.ref u4) (.tuple [dt, df, .list rs, dh]) := .tup fu4.1 eu4 (.cons h1 (.cons h2 (.cons g3 (.cons h4 .nil))))
    clear eu4 hu4 g3
    have gi : DxAll (· = p) H5 [.ref u1, .ref u2, .ref u4] [.tuple [dt, dn, .tuple rs, dh], .tuple [dt, df, .tuple rs, dn], .tuple [dt, df, .list rs, dh]] := .cons g1 (.cons g2 (.cons g4 .nil))
    clear g1 g2 g4
    refine ⟨(by show 3 ≤ sizeLine; decide), fun l9 h9 => ?_⟩
    have f9 := hP.fresh h9
    have f90 : H l9 = none := b0.free h9 f9.1
    replace h1 := h1.apart h9
    replace h2 := h2.apart h9
    replace h3 := h3.apart h9
    replace h4 := h4.apart h9
    replace hvo := hvo.apart h9
    replace hvn := hvn.apart h9
    replace hzs := hzs.apart h9
    replace gi := gi.apart h9
    have n9he : e ≠ l9 := ne_of_none he h9
    have n9hq : q ≠ l9 := ne_of_none hq h9
    have n9ht : t ≠ l9 := ne_of_none ht h9
    have n9hz : r ≠ l9 := ne_of_none hz h9
    have s6 := same_new (Same.refl H5) h9 (o := .lst [.ref u1, .ref u2, .ref u4])
    have e9 := upd_same (H := H5) (a := l9) (o := .lst [.ref u1, .ref u2, .ref u4])
    replace hP := hP.new h9 (o := .lst [.ref u1, .ref u2, .ref u4])
    replace b0 := b0.new h9 (o := .lst [.ref u1, .ref u2, .ref u4])
    replace h1 := h1.mono (sameBut s6 _)
    replace h2 := h2.mono (sameBut s6 _)
    replace h3 := h3.mono (sameBut s6 _)
    replace h4 := h4.mono (sameBut s6 _)
    replace hvo := hvo.mono (sameBut s6 _)
    replace hvn := hvn.mono (sameBut s6 _)
    replace hzs := hzs.mono (sameBut s6 _)
    replace gi := gi.mono (sameBut s6 _)
    replace he := s6 _ _ he
    replace hq := s6 _ _ hq
    replace ht := s6 _ _ ht
    replace hz := s6 _ _ hz
    generalize upd H5 l9 (.lst [.ref u1, .ref u2, .ref u4]) = H6 at s6 e9 hP b0 h1 h2 h3 h4 hvo hvn hzs gi he hq ht hz ⊢
    clear s6 h9
    refine ⟨_, rfl, .inl ⟨rfl, _, SqL.of e9⟩, _, rfl, ?_⟩
    refine ⟨(by show 5 ≤ sizeLine; decide), fun lw hlw => ?_⟩
    have flw := hP.fresh hlw
    have s7 := same_new (Same.refl H6) hlw (o := .lst [.str "row", .str "", .non, .str "Rows", .int 0])
    have bs : But (fun b => b = p ∨ b = l9) H6 (upd H6 lw (.lst [.str "row", .str "", .non, .str "Rows", .int 0])) := sameBut s7 _
    have elw := upd_same (H := H6) (a := lw) (o := .lst [.str "row", .str "", .non, .str "Rows", .int 0])
    replace hP := hP.new hlw (o := .lst [.str "row", .str "", .non, .str "Rows", .int 0])
    replace b0 := b0.new hlw (o := .lst [.str "row", .str "", .non, .str "Rows", .int 0])
    have nlw : lw ≠ l9 := fun z => by rw [z, e9] at hlw; cases hlw
    replace h1 := h1.mono bs
    replace h2 := h2.mono bs
    replace h3 := h3.mono bs
    replace h4 := h4.mono bs
    replace hvo := hvo.mono bs
    replace hvn := hvn.mono bs
    replace hzs := hzs.mono bs
    replace gi := gi.mono bs
    replace he := s7 _ _ he
    replace hq := s7 _ _ hq
    replace ht := s7 _ _ ht
    replace hz := s7 _ _ hz
    replace e9 := s7 _ _ e9
    generalize upd H6 lw (.lst [.str "row", .str "", .non, .str "Rows", .int 0]) = H7 at s7 elw hP b0 h1 h2 h3 h4 hvo hvn hzs gi he hq ht hz e9 ⊢
    clear s7 bs
    refine ⟨p, c, ns, n + 2, _, _, rfl, hP, by omega, ⟨by show 1 ≤ 5; decide, by show 5 ≤ 1000; decide, .inl ⟨lw, rfl, .inl elw⟩⟩, fun vw H9' hvw hPw bw => ?_⟩
    clear elw hlw flw nlw
    have bs : But (fun b => b = p ∨ b = l9) H7 H9' := bw.mono fun b z => .inl z
    replace h1 := h1.mono bs
    replace h2 := h2.mono bs
    replace h3 := h3.mono bs
    replace h4 := h4.mono bs
    replace hvo := hvo.mono bs
    replace hvn := hvn.mono bs
    replace hzs := hzs.mono bs
    replace gi := gi.mono bs
    replace he := bw _ _ nep he
    replace hq := bw _ _ nqp hq
    replace ht := bw _ _ htp ht
    replace hz := bw _ _ nrp hz
    replace e9 := bw _ _ f9.1 e9
    replace b0 := b0.trans bw
    clear bs
    clear hP; have hP := hPw; clear hPw bw
    obtain ⟨dw, hdw, hws⟩ : ∃ dw : PyData, Dx (fun b => b = p ∨ b = l9) H9' vw dw ∧ Sx 80 3 dw := by
      have z : vw ∈ ([.str "row", .str "", .non, .str "Rows", .int 0] : List V) := hvw
      simp only [List.mem_cons, List.not_mem_nil, or_false] at z
      rcases z with rfl | rfl | rfl | rfl | rfl
      · exact ⟨_, .str _, rfl, by decide +kernel, by simp [PyData.depth]⟩
      · exact ⟨_, .str _, rfl, by decide +kernel, by simp [PyData.depth]⟩
      · exact ⟨_, .non, rfl, by decide, by decide⟩
      · exact ⟨_, .str _, rfl, by decide +kernel, by simp [PyData.depth]⟩
      · exact ⟨_, .int _, by decide, by simp [sz], by simp [PyData.depth]⟩
    clear hvw
    refine ⟨_, rfl, _, rfl, _, rfl, (by show 4 ≤ sizeLine; decide), fun u5 hu5 => ?_⟩
    have fu5 := hP.fresh hu5
    have s8 := same_new (Same.refl H9') hu5 (o := .tup [vw, vf, .ref r, vh])
    have bs : But (fun b => b = p ∨ b = l9) H9' (upd H9' u5 (.tup [vw, vf, .ref r, vh])) := sameBut s8 _
    have eu5 := upd_same (H := H9') (a := u5) (o := .tup [vw, vf, .ref r, vh])
    replace hP := hP.new hu5 (o := .tup [vw, vf, .ref r, vh])
    replace b0 := b0.new hu5 (o := .tup [vw, vf, .ref r, vh])
    have nu5 : u5 ≠ l9 := fun z => by rw [z, e9] at hu5; cases hu5
    replace h1 := h1.mono bs
    replace h2 := h2.mono bs
    replace h3 := h3.mono bs
    replace h4 := h4.mono bs
    replace hvo := hvo.mono bs
    replace hvn := hvn.mono bs
    replace hzs := hzs.mono bs
    replace gi := gi.mono bs
    replace hdw := hdw.mono bs
    replace he := s8 _ _ he
    replace hq := s8 _ _ hq
    replace ht := s8 _ _ ht
    replace hz := s8 _ _ hz
    replace e9 := s8 _ _ e9
    generalize upd H9' u5 (.tup [vw, vf, .ref r, vh]) = H8 at s8 eu5 hP b0 h1 h2 h3 h4 hvo hvn hzs gi hdw he hq ht hz e9 ⊢
    clear s8 bs
    replace gi : DxAll _ H8 [.ref u1, .ref u2, .ref u4, .ref u5] [.tuple [dt, dn, .tuple rs, dh], .tuple [dt, df, .tuple rs, dn], .tuple [dt, df, .list rs, dh], .tuple [dw, df, .tuple rs, dh]] := gi.app (.cons (.tup (fun z => z.elim fu5.1 nu5) eu5 (.cons hdw (.cons h2 (.cons h3 (.cons h4 .nil))))) .nil)
    clear eu5 hu5 hdw
    refine ⟨l9, _, _, rfl, rfl, e9, (by show 3 < sizeLine; decide), ?_⟩
    have bs : But (fun b => b = p ∨ b = l9) H8 (upd H8 l9 (.lst ([.ref u1, .ref u2, .ref u4] ++ [.ref u5]))) := (But.refl _ _).mut (.inr rfl)
    replace h1 := h1.mono bs
    replace h2 := h2.mono bs
    replace h3 := h3.mono bs
    replace h4 := h4.mono bs
    replace hvo := hvo.mono bs
    replace hvn := hvn.mono bs
    replace hzs := hzs.mono bs
    replace gi := gi.mono bs
    replace he := (upd_ne (H := H8) (o := .lst ([.ref u1, .ref u2, .ref u4] ++ [.ref u5])) n9he).trans he
    replace hq := (upd_ne (H := H8) (o := .lst ([.ref u1, .ref u2, .ref u4] ++ [.ref u5])) n9hq).trans hq
    replace ht := (upd_ne (H := H8) (o := .lst ([.ref u1, .ref u2, .ref u4] ++ [.ref u5])) n9ht).trans ht
    replace hz := (upd_ne (H := H8) (o := .lst ([.ref u1, .ref u2, .ref u4] ++ [.ref u5])) n9hz).trans hz
    replace hP := hP.mut (l := l9) (o := .lst ([.ref u1, .ref u2, .ref u4] ++ [.ref u5])) f9.1 f9.2
    replace b0 := b0.mutNew (o := .lst ([.ref u1, .ref u2, .ref u4] ++ [.ref u5])) f90
    replace e9 := upd_same (H := H8) (a := l9) (o := .lst ([.ref u1, .ref u2, .ref u4] ++ [.ref u5]))
    generalize upd H8 l9 (.lst ([.ref u1, .ref u2, .ref u4] ++ [.ref u5])) = H9 at bs e9 hP b0 h1 h2 h3 h4 hvo hvn hzs gi he hq ht hz ⊢
    clear bs
    refine ⟨_, rfl, .inl ⟨rfl, _, SqL.of e9⟩, _, rfl, _, rfl, _, rfl, _, rfl, ?_⟩
    refine ⟨(by show 1 ≤ sizeLine; decide), fun u6 hu6 => ?_⟩
    have fu6 := hP.fresh hu6
    have s10 := same_new (Same.refl H9) hu6 (o := .tup [vo])
    have bs : But (fun b => b = p ∨ b = l9) H9 (upd H9 u6 (.tup [vo])) := sameBut s10 _
    have eu6 := upd_same (H := H9) (a := u6) (o := .tup [vo])
    replace hP := hP.new hu6 (o := .tup [vo])
    replace b0 := b0.new hu6 (o := .tup [vo])
    have nu6 : u6 ≠ l9 := fun z => by rw [z, e9] at hu6; cases hu6
    replace h1 := h1.mono bs
    replace h2 := h2.mono bs
    replace h3 := h3.mono bs
    replace h4 := h4.mono bs
    replace hvo := hvo.mono bs
    replace hvn := hvn.mono bs
    replace hzs := hzs.mono bs
    replace gi := gi.mono bs
    replace he := s10 _ _ he
    replace hq := s10 _ _ hq
    replace ht := s10 _ _ ht
    replace hz := s10 _ _ hz
    replace e9 := s10 _ _ e9
    generalize upd H9 u6 (.tup [vo]) = H10 at s10 eu6 hP b0 h1 h2 h3 h4 hvo hvn hzs gi he hq ht hz e9 ⊢
    clear s10 bs
    have zl : zs.length + 1 ≤ sizeLine := by
      have a1 := hzs.length
      have a2 := szAll_len rs
      simp only [sz] at osz
      rw [show sizeLine = 16777216 from sizeLine_eq]
      omega
    obtain hcat : ∀ {Q2 : V → Hp → Prop}, (∀ (u7 : Addr) (H' : Hp), Dx (fun b => b = p ∨ b = l9) H' (.ref u7) (.tuple (rs ++ [do'])) → Same H10 H' → Pen H' p c ns (n + 3) → But (· = p) H H' → Q2 (.ref u7) H') → rCatA K (.ref r) (.ref u6) H10 Q2 := by
      intro Q2 kk
      refine ⟨r, u6, _, _, rfl, rfl, SqT.of hz, SqT.of eu6, zl, fun z => ?_, (fun _ z => nomatch z), fun _ _ u7 hu7 => ?_⟩
      · subst z
        cases hzs
        exact kk u6 _ (.tup (fun z => z.elim fu6.1 nu6) eu6 (.cons hvo .nil)) (Same.refl _) hP b0
      · have s7 := same_new (Same.refl H10) hu7 (o := .tup (zs ++ [vo]))
        exact kk u7 _ (.tup (fun z => z.elim (hP.fresh hu7).1 fun z => by rw [z, e9] at hu7; cases hu7) upd_same ((hzs.app (.cons hvo .nil)).mono (sameBut s7 _))) s7 (hP.new hu7) (b0.new hu7)
    refine hcat fun u7 Hc g7 sc hPc bc => ?_
    clear hcat hP b0; have hP := hPc; have b0 := bc; clear hPc bc eu6 hu6 nu6 fu6
    replace h1 := h1.mono (sameBut sc _)
    replace h2 := h2.mono (sameBut sc _)
    replace h3 := h3.mono (sameBut sc _)
    replace h4 := h4.mono (sameBut sc _)
    replace hvo := hvo.mono (sameBut sc _)
    replace hvn := hvn.mono (sameBut sc _)
    replace hzs := hzs.mono (sameBut sc _)
    replace gi := gi.mono (sameBut sc _)
    replace he := sc _ _ he
    replace hq := sc _ _ hq
    replace ht := sc _ _ ht
    replace hz := sc _ _ hz
    replace e9 := sc _ _ e9
    clear sc
    refine ⟨_, rfl, (by show 4 ≤ sizeLine; decide), fun u8 hu8 => ?_⟩
    have fu8 := hP.fresh hu8
    have s11 := same_new (Same.refl Hc) hu8 (o := .tup [vt, vf, .ref u7, vh])
    have bs : But (fun b => b = p ∨ b = l9) Hc (upd Hc u8 (.tup [vt, vf, .ref u7, vh])) := sameBut s11 _
    have eu8 := upd_same (H := Hc) (a := u8) (o := .tup [vt, vf, .ref u7, vh])
    replace hP := hP.new hu8 (o := .tup [vt, vf, .ref u7, vh])
    replace b0 := b0.new hu8 (o := .tup [vt, vf, .ref u7, vh])
    have nu8 : u8 ≠ l9 := fun z => by rw [z, e9] at hu8; cases hu8
    replace h1 := h1.mono bs
    replace h2 := h2.mono bs
    replace h3 := h3.mono bs
    replace h4 := h4.mono bs
    replace hvo := hvo.mono bs
    replace hvn := hvn.mono bs
    replace hzs := hzs.mono bs
    replace gi := gi.mono bs
    replace g7 := g7.mono bs
    replace he := s11 _ _ he
    replace hq := s11 _ _ hq
    replace ht := s11 _ _ ht
    replace hz := s11 _ _ hz
    replace e9 := s11 _ _ e9
    generalize upd Hc u8 (.tup [vt, vf, .ref u7, vh]) = H11 at s11 eu8 hP b0 h1 h2 h3 h4 hvo hvn hzs gi g7 he hq ht hz e9 ⊢
    clear s11 bs
    replace gi : DxAll _ H11 [.ref u1, .ref u2, .ref u4, .ref u5, .ref u8] [.tuple [dt, dn, .tuple rs, dh], .tuple [dt, df, .tuple rs, dn], .tuple [dt, df, .list rs, dh], .tuple [dw, df, .tuple rs, dh], .tuple [dt, df, .tuple (rs ++ [do']), dh]] := gi.app (.cons (.tup (fun z => z.elim fu8.1 nu8) eu8 (.cons h1 (.cons h2 (.cons g7 (.cons h4 .nil))))) .nil)
    clear eu8 hu8 g7
    refine ⟨l9, _, _, rfl, rfl, e9, (by show 4 < sizeLine; decide), ?_⟩
    have bs : But (fun b => b = p ∨ b = l9) H11 (upd H11 l9 (.lst ([.ref u1, .ref u2, .ref u4] ++ [.ref u5] ++ [.ref u8]))) := (But.refl _ _).mut (.inr rfl)
    replace h1 := h1.mono bs
    replace h2 := h2.mono bs
    replace h3 := h3.mono bs
    replace h4 := h4.mono bs
    replace hvo := hvo.mono bs
    replace hvn := hvn.mono bs
    replace hzs := hzs.mono bs
    replace gi := gi.mono bs
    replace he := (upd_ne (H := H11) (o := .lst ([.ref u1, .ref u2, .ref u4] ++ [.ref u5] ++ [.ref u8])) n9he).trans he
    replace hq := (upd_ne (H := H11) (o := .lst ([.ref u1, .ref u2, .ref u4] ++ [.ref u5] ++ [.ref u8])) n9hq).trans hq
    replace ht := (upd_ne (H := H11) (o := .lst ([.ref u1, .ref u2, .ref u4] ++ [.ref u5] ++ [.ref u8])) n9ht).trans ht
    replace hz := (upd_ne (H := H11) (o := .lst ([.ref u1, .ref u2, .ref u4] ++ [.ref u5] ++ [.ref u8])) n9hz).trans hz
    replace hP := hP.mut (l := l9) (o := .lst ([.ref u1, .ref u2, .ref u4] ++ [.ref u5] ++ [.ref u8])) f9.1 f9.2
    replace b0 := b0.mutNew (o := .lst ([.ref u1, .ref u2, .ref u4] ++ [.ref u5] ++ [.ref u8])) f90
    replace e9 := upd_same (H := H11) (a := l9) (o := .lst ([.ref u1, .ref u2, .ref u4] ++ [.ref u5] ++ [.ref u8]))
    generalize upd H11 l9 (.lst ([.ref u1, .ref u2, .ref u4] ++ [.ref u5] ++ [.ref u8])) = H12 at bs e9 hP b0 h1 h2 h3 h4 hvo hvn hzs gi he hq ht hz ⊢
    clear bs
    refine ⟨_, rfl, _, rfl, _, rfl, t, _, rfl, SqT.of ht, (fun hw => absurd hw.2 (by show ¬ HT.sIx 4 4 (some 3) = 4; decide)), fun _ v0 hv0 => ?_⟩
    have fv0 := hP.fresh hv0
    have nv0 : v0 ≠ l9 := fun z => by rw [z, e9] at hv0; cases hv0
    have sn := same_new (Same.refl H12) hv0 (o := .tup (cutV [vt, vf, .ref r, vh] none (some 3)))
    have ev0 := upd_same (H := H12) (a := v0) (o := .tup (cutV [vt, vf, .ref r, vh] none (some 3)))
    replace hP := hP.new hv0 (o := .tup (cutV [vt, vf, .ref r, vh] none (some 3)))
    replace b0 := b0.new hv0 (o := .tup (cutV [vt, vf, .ref r, vh] none (some 3)))
    replace h1 := h1.mono (sameBut sn _)
    replace h2 := h2.mono (sameBut sn _)
    replace h3 := h3.mono (sameBut sn _)
    replace h4 := h4.mono (sameBut sn _)
    replace hvo := hvo.mono (sameBut sn _)
    replace hvn := hvn.mono (sameBut sn _)
    replace hzs := hzs.mono (sameBut sn _)
    replace gi := gi.mono (sameBut sn _)
    replace he := sn _ _ he
    replace hq := sn _ _ hq
    replace ht := sn _ _ ht
    replace hz := sn _ _ hz
    replace e9 := sn _ _ e9
    generalize upd H12 v0 (.tup (cutV [vt, vf, .ref r, vh] none (some 3))) = H13 at sn ev0 hP b0 h1 h2 h3 h4 hvo hvn hzs gi he hq ht hz e9 ⊢
    clear sn hv0
    have g0 : Dx (fun b => b = p ∨ b = l9) H13 (.ref v0) (.tuple [dt, df, .tuple rs]) := .tup (fun z => z.elim fv0.1 nv0) ev0 (.cons h1 (.cons h2 (.cons h3 .nil)))
    refine ⟨_, rfl, (by show 1 ≤ sizeLine; decide), fun v1 hv1 => ?_⟩
    have fv1 := hP.fresh hv1
    have nv1 : v1 ≠ l9 := fun z => by rw [z, e9] at hv1; cases hv1
    have sn := same_new (Same.refl H13) hv1 (o := .tup [.int 0])
    have ev1 := upd_same (H := H13) (a := v1) (o := .tup [.int 0])
    replace hP := hP.new hv1 (o := .tup [.int 0])
    replace b0 := b0.new hv1 (o := .tup [.int 0])
    replace h1 := h1.mono (sameBut sn _)
    replace h2 := h2.mono (sameBut sn _)
    replace h3 := h3.mono (sameBut sn _)
    replace h4 := h4.mono (sameBut sn _)
    replace hvo := hvo.mono (sameBut sn _)
    replace hvn := hvn.mono (sameBut sn _)
    replace hzs := hzs.mono (sameBut sn _)
    replace gi := gi.mono (sameBut sn _)
    replace g0 := g0.mono (sameBut sn _)
    replace he := sn _ _ he
    replace hq := sn _ _ hq
    replace ht := sn _ _ ht
    replace hz := sn _ _ hz
    replace e9 := sn _ _ e9
    generalize upd H13 v1 (.tup [.int 0]) = H14 at sn ev1 hP b0 h1 h2 h3 h4 hvo hvn hzs gi g0 he hq ht hz e9 ⊢
    clear sn hv1
    refine ⟨t, v1, _, _, rfl, rfl, SqT.of ht, SqT.of ev1, (by show 5 ≤ sizeLine; decide), (fun z => nomatch z), (fun _ z => nomatch z), fun _ _ v2 hv2 => ?_⟩
    have fv2 := hP.fresh hv2
    have nv2 : v2 ≠ l9 := fun z => by rw [z, e9] at hv2; cases hv2
    have sn := same_new (Same.refl H14) hv2 (o := .tup ([vt, vf, .ref r, vh] ++ [.int 0]))
    have ev2 := upd_same (H := H14) (a := v2) (o := .tup ([vt, vf, .ref r, vh] ++ [.int 0]))
    replace hP := hP.new hv2 (o := .tup ([vt, vf, .ref r, vh] ++ [.int 0]))
    replace b0 := b0.new hv2 (o := .tup ([vt, vf, .ref r, vh] ++ [.int 0]))
    replace h1 := h1.mono (sameBut sn _)
    replace h2 := h2.mono (sameBut sn _)
    replace h3 := h3.mono (sameBut sn _)
    replace h4 := h4.mono (sameBut sn _)
    replace hvo := hvo.mono (sameBut sn _)
    replace hvn := hvn.mono (sameBut sn _)
    replace hzs := hzs.mono (sameBut sn _)
    replace gi := gi.mono (sameBut sn _)
    replace g0 := g0.mono (sameBut sn _)
    replace he := sn _ _ he
    replace hq := sn _ _ hq
    replace ht := sn _ _ ht
    replace hz := sn _ _ hz
    replace e9 := sn _ _ e9
    generalize upd H14 v2 (.tup ([vt, vf, .ref r, vh] ++ [.int 0])) = H15 at sn ev2 hP b0 h1 h2 h3 h4 hvo hvn hzs gi g0 he hq ht hz e9 ⊢
    clear sn hv2
    have g2 : Dx (fun b => b = p ∨ b = l9) H15 (.ref v2) (.tuple [dt, df, .tuple rs, dh, .int 0]) := .tup (fun z => z.elim fv2.1 nv2) ev2 (.cons h1 (.cons h2 (.cons h3 (.cons h4 (.cons (.int _) .nil)))))
    refine ⟨_, rfl, t, _, rfl, .inr (SqT.of ht), fun v3 hv3 => ?_⟩
    have fv3 := hP.fresh hv3
    have nv3 : v3 ≠ l9 := fun z => by rw [z, e9] at hv3; cases hv3
    have sn := same_new (Same.refl H15) hv3 (o := .lst [vt, vf, .ref r, vh])
    have ev3 := upd_same (H := H15) (a := v3) (o := .lst [vt, vf, .ref r, vh])
    replace hP := hP.new hv3 (o := .lst [vt, vf, .ref r, vh])
    replace b0 := b0.new hv3 (o := .lst [vt, vf, .ref r, vh])
    replace h1 := h1.mono (sameBut sn _)
    replace h2 := h2.mono (sameBut sn _)
    replace h3 := h3.mono (sameBut sn _)
    replace h4 := h4.mono (sameBut sn _)
    replace hvo := hvo.mono (sameBut sn _)
    replace hvn := hvn.mono (sameBut sn _)
    replace hzs := hzs.mono (sameBut sn _)
    replace gi := gi.mono (sameBut sn _)
    replace g0 := g0.mono (sameBut sn _)
    replace g2 := g2.mono (sameBut sn _)
    replace he := sn _ _ he
    replace hq := sn _ _ hq
    replace ht := sn _ _ ht
    replace hz := sn _ _ hz
    replace e9 := sn _ _ e9
    generalize upd H15 v3 (.lst [vt, vf, .ref r, vh]) = H16 at sn ev3 hP b0 h1 h2 h3 h4 hvo hvn hzs gi g0 g2 he hq ht hz e9 ⊢
    clear sn hv3
    have g3 : Dx (fun b => b = p ∨ b = l9) H16 (.ref v3) (.list [dt, df, .tuple rs, dh]) := .lst (fun z => z.elim fv3.1 nv3) ev3 (.cons h1 (.cons h2 (.cons h3 (.cons h4 .nil))))
    refine ⟨_, rfl, t, _, rfl, SqT.of ht, fun v4 hv4 => ?_⟩
    have fv4 := hP.fresh hv4
    have nv4 : v4 ≠ l9 := fun z => by rw [z, e9] at hv4; cases hv4
    have sn := same_new (Same.refl H16) hv4 (o := .tup [vt, vf, .ref r, vh].reverse)
    have ev4 := upd_same (H := H16) (a := v4) (o := .tup [vt, vf, .ref r, vh].reverse)
    replace hP := hP.new hv4 (o := .tup [vt, vf, .ref r, vh].reverse)
    replace b0 := b0.new hv4 (o := .tup [vt, vf, .ref r, vh].reverse)
    replace h1 := h1.mono (sameBut sn _)
    replace h2 := h2.mono (sameBut sn _)
    replace h3 := h3.mono (sameBut sn _)
    replace h4 := h4.mono (sameBut sn _)
    replace hvo := hvo.mono (sameBut sn _)
    replace hvn := hvn.mono (sameBut sn _)
    replace hzs := hzs.mono (sameBut sn _)
    replace gi := gi.mono (sameBut sn _)
    replace g0 := g0.mono (sameBut sn _)
    replace g2 := g2.mono (sameBut sn _)
    replace g3 := g3.mono (sameBut sn _)
    replace he := sn _ _ he
    replace hq := sn _ _ hq
    replace ht := sn _ _ ht
    replace hz := sn _ _ hz
    replace e9 := sn _ _ e9
    generalize upd H16 v4 (.tup [vt, vf, .ref r, vh].reverse) = H17 at sn ev4 hP b0 h1 h2 h3 h4 hvo hvn hzs gi g0 g2 g3 he hq ht hz e9 ⊢
    clear sn hv4
    have g4 : Dx (fun b => b = p ∨ b = l9) H17 (.ref v4) (.tuple [dh, .tuple rs, df, dt]) := .tup (fun z => z.elim fv4.1 nv4) ev4 (.cons h4 (.cons h3 (.cons h2 (.cons h1 .nil))))
    refine ⟨_, rfl, _, rfl, _, rfl, _, rfl, (by show 4 ≤ sizeLine; decide), fun v5 hv5 => ?_⟩
    have fv5 := hP.fresh hv5
    have nv5 : v5 ≠ l9 := fun z => by rw [z, e9] at hv5; cases hv5
    have sn := same_new (Same.refl H17) hv5 (o := .tup [vt, vf, vo, vh])
    have ev5 := upd_same (H := H17) (a := v5) (o := .tup [vt, vf, vo, vh])
    replace hP := hP.new hv5 (o := .tup [vt, vf, vo, vh])
    replace b0 := b0.new hv5 (o := .tup [vt, vf, vo, vh])
    replace h1 := h1.mono (sameBut sn _)
    replace h2 := h2.mono (sameBut sn _)
    replace h3 := h3.mono (sameBut sn _)
    replace h4 := h4.mono (sameBut sn _)
    replace hvo := hvo.mono (sameBut sn _)
    replace hvn := hvn.mono (sameBut sn _)
    replace hzs := hzs.mono (sameBut sn _)
    replace gi := gi.mono (sameBut sn _)
    replace g0 := g0.mono (sameBut sn _)
    replace g2 := g2.mono (sameBut sn _)
    replace g3 := g3.mono (sameBut sn _)
    replace g4 := g4.mono (sameBut sn _)
    replace he := sn _ _ he
    replace hq := sn _ _ hq
    replace ht := sn _ _ ht
    replace hz := sn _ _ hz
    replace e9 := sn _ _ e9
    generalize upd H17 v5 (.tup [vt, vf, vo, vh]) = H18 at sn ev5 hP b0 h1 h2 h3 h4 hvo hvn hzs gi g0 g2 g3 g4 he hq ht hz e9 ⊢
    clear sn hv5
    have g5 : Dx (fun b => b = p ∨ b = l9) H18 (.ref v5) (.tuple [dt, df, do', dh]) := .tup (fun z => z.elim fv5.1 nv5) ev5 (.cons h1 (.cons h2 (.cons hvo (.cons h4 .nil))))
    refine ⟨_, rfl, (by show 6 ≤ sizeLine; decide), fun v6 hv6 => ?_⟩
    have fv6 := hP.fresh hv6
    have nv6 : v6 ≠ l9 := fun z => by rw [z, e9] at hv6; cases hv6
    have sn := same_new (Same.refl H18) hv6 (o := .lst [.ref v0, .ref v2, .ref v3, .ref v4, .ref v5, vo])
    have ev6 := upd_same (H := H18) (a := v6) (o := .lst [.ref v0, .ref v2, .ref v3, .ref v4, .ref v5, vo])
    replace hP := hP.new hv6 (o := .lst [.ref v0, .ref v2, .ref v3, .ref v4, .ref v5, vo])
    replace b0 := b0.new hv6 (o := .lst [.ref v0, .ref v2, .ref v3, .ref v4, .ref v5, vo])
    replace h1 := h1.mono (sameBut sn _)
    replace h2 := h2.mono (sameBut sn _)
    replace h3 := h3.mono (sameBut sn _)
    replace h4 := h4.mono (sameBut sn _)
    replace hvo := hvo.mono (sameBut sn _)
    replace hvn := hvn.mono (sameBut sn _)
    replace hzs := hzs.mono (sameBut sn _)
    replace gi := gi.mono (sameBut sn _)
    replace g0 := g0.mono (sameBut sn _)
    replace g2 := g2.mono (sameBut sn _)
    replace g3 := g3.mono (sameBut sn _)
    replace g4 := g4.mono (sameBut sn _)
    replace g5 := g5.mono (sameBut sn _)
    replace he := sn _ _ he
    replace hq := sn _ _ hq
    replace ht := sn _ _ ht
    replace hz := sn _ _ hz
    replace e9 := sn _ _ e9
    generalize upd H18 v6 (.lst [.ref v0, .ref v2, .ref v3, .ref v4, .ref v5, vo]) = H19 at sn ev6 hP b0 h1 h2 h3 h4 hvo hvn hzs gi g0 g2 g3 g4 g5 he hq ht hz e9 ⊢
    clear sn hv6
    replace gi := gi.app (.cons g0 (.cons g2 (.cons g3 (.cons g4 (.cons g5 (.cons hvo .nil))))))
    refine ⟨l9, v6, _, _, rfl, rfl, e9, ev6, (by show 11 ≤ sizeLine; decide), fun v7 hv7 => ?_⟩
    have s7 := same_new (Same.refl H19) hv7 (o := .lst ([.ref u1, .ref u2, .ref u4] ++ [.ref u5] ++ [.ref u8] ++ [.ref v0, .ref v2, .ref v3, .ref v4, .ref v5, vo]))
    have e7 := upd_same (H := H19) (a := v7) (o := .lst ([.ref u1, .ref u2, .ref u4] ++ [.ref u5] ++ [.ref u8] ++ [.ref v0, .ref v2, .ref v3, .ref v4, .ref v5, vo]))
    refine ⟨_, rfl, _, rfl, p, c, ns, n + 3, _, _, rfl, hP.new hv7, by omega, ⟨by show 1 ≤ 11; decide, by show 11 ≤ 1000; decide, .inl ⟨v7, rfl, .inl e7⟩⟩, fun v H' hv hP' b' => ?_⟩
    obtain ⟨d, hd, hx⟩ := (gi.mono (sameBut s7 _)).mem v hv
    have z3 : sz (.list rs) = sz (.tuple rs) := by simp only [sz]
    have w3 : okd (.list rs) = true := by simpa only [okd] using o3
    have y3 : (PyData.list rs).depth = (PyData.tuple rs).depth := by simp only [PyData.depth]
    have z4 : sz (.tuple (rs ++ [do'])) = sz (.tuple rs) + sz do' + 2 := by
      simp only [sz, szAll_app, szAll]
      omega
    have w4 : okd (.tuple (rs ++ [do'])) = true := by
      simp only [okd, okAll_app, okAll, Bool.and_true] at o3 ⊢
      rw [o3, hos.ok]
      rfl
    have y4 : (PyData.tuple (rs ++ [do'])).depth ≤ 4 := by
      have q1 := hos.deep
      simp only [PyData.depth, depthAll_app, PyData.depthAll] at p3 ⊢
      omega
    have a1 := hns.ok
    have a2 := hns.le
    have a3 := hns.deep
    have b1 := hos.ok
    have b2 := hos.le
    have b3 := hos.deep
    have c1 := hws.ok
    have c2 := hws.le
    have c3 := hws.deep
    have i1 : okd (.int 0) = true := by decide
    have i2 : sz (.int 0) = 16 := by simp only [sz]
    have i3 : (PyData.int 0).depth = 0 := by simp only [PyData.depth]
    refine k v d H' ((hx.weak (N := (· = p)) fun b z => .inl z).mono b') ?_ (hP'.mono (by omega)) ((b0.new hv7).trans b')
    have hd' : d ∈ ([.tuple [dt, dn, .tuple rs, dh], .tuple [dt, df, .tuple rs, dn], .tuple [dt, df, .list rs, dh], .tuple [dw, df, .tuple rs, dh], .tuple [dt, df, .tuple (rs ++ [do']), dh], .tuple [dt, df, .tuple rs], .tuple [dt, df, .tuple rs, dh, .int 0], .list [dt, df, .tuple rs, dh], .tuple [dh, .tuple rs, df, dt], .tuple [dt, df, do', dh], do'] : List PyData) := hd
    simp only [List.mem_cons, List.not_mem_nil, or_false] at hd'
    clear hd hx gi g0 g2 g3 g4 g5 hP hP' b0 b' k
    rcases hd' with rfl | rfl | rfl | rfl | rfl | rfl | rfl | rfl | rfl | rfl | rfl
    · exact (sx4 o1 a1 o3 o4 (by omega) p1 (by omega) p3 p4).1
    · exact (sx4 o1 o2 o3 a1 (by omega) p1 p2 p3 (by omega)).1
    · exact (sx4 o1 o2 w3 o4 (by omega) p1 p2 (by omega) p4).1
    · exact (sx4 c1 o2 o3 o4 (by omega) (by omega) p2 p3 p4).1
    · exact (sx4 o1 o2 w4 o4 (by omega) p1 p2 y4 p4).1
    · refine (Sx.of_list (n := N + 100) (k := 4) (ds := [dt, df, .tuple rs]) ?_ ?_ ?_).1
      · simp only [okAll, o1, o2, o3, Bool.and_self]
      · simp only [szAll]
        omega
      · simp only [PyData.depthAll]
        omega
    · refine (Sx.of_list (n := N + 100) (k := 4) (ds := [dt, df, .tuple rs, dh, .int 0]) ?_ ?_ ?_).1
      · simp only [okAll, o1, o2, o3, o4, i1, Bool.and_self]
      · simp only [szAll, i2]
        omega
      · simp only [PyData.depthAll, i3]
        omega
    · exact (sx4 o1 o2 o3 o4 (by omega) p1 p2 p3 p4).2
    · exact (sx4 o4 o3 o2 o1 (by omega) p4 p3 p2 p1).1
    · exact (sx4 o1 o2 b1 o4 (by omega) p1 p2 (by omega) p4).1
    · exact hos.mono (by omega) (by decide)
end
end K3
namespace K3
open PySem PySem.Spec PyProof.Rows L2 GG
/-- a wire and a law's own end of it, beside the pen -/
structure L6 (W : WK) (H : Hp) (p c e q w : Addr) (ns : List Int) (n : Nat) (fp : List Addr) (rows : List PyData) (kn tk : Nat) : Prop where
  pen : Pen H p c ns n
  hE : EndAt H e q rows kn tk
  hW : W.At H fp w (rows.drop kn) rows.length tk
  nep : e ≠ p
  nqc : q ≠ c
  off : ∀ a ∈ fp, a ≠ p ∧ a ≠ c ∧ a ≠ e ∧ a ≠ q
section
variable {W : WK} {H H' : Hp} {p c e q w : Addr} {ns : List Int} {n m : Nat} {fp : List Addr} {rows : List PyData} {kn tk : Nat}
theorem L6.nqp (h : L6 W H p c e q w ns n fp rows kn tk) : q ≠ p := by
  obtain ⟨_, ⟨xs, hq, _⟩, _⟩ := h.hE
  exact h.pen.ne hq
theorem L6.nqe (h : L6 W H p c e q w ns n fp rows kn tk) : q ≠ e := by
  obtain ⟨he, ⟨xs, hq, _⟩, _⟩ := h.hE
  exact ne_of hq he (by intro z; cases z)
theorem L6.nec (h : L6 W H p c e q w ns n fp rows kn tk) : e ≠ c := by
  obtain ⟨he, _⟩ := h.hE
  obtain ⟨_, _, _, _, _, _, hc, _⟩ := h.pen
  exact ne_of he hc (by intro z; cases z)
theorem L6.same (h : L6 W H p c e q w ns n fp rows kn tk) (s : Same H H') : L6 W H' p c e q w ns n fp rows kn tk :=
  ⟨h.pen.but (sameBut s fun _ => False) (fun z => z) (fun z => z), h.hE.same s, WK.same h.hW s, h.nep, h.nqc, h.off⟩
theorem L6.draw (h : L6 W H p c e q w ns n fp rows kn tk) (b : But (· = p) H H') (hP : Pen H' p c ns m) : L6 W H' p c e q w ns m fp rows kn tk :=
  ⟨hP, h.hE.but b h.nep h.nqp (h.pen.tups b), WK.but h.hW b (fun a ha z => (h.off a ha).1 z) (h.pen.tups b), h.nep, h.nqc, h.off⟩
theorem L6.more (h : L6 W H p c e q w ns n fp rows kn tk) (le : n ≤ m) : L6 W H p c e q w ns m fp rows kn tk := ⟨h.pen.mono le, h.hE, h.hW, h.nep, h.nqc, h.off⟩
/-- the wire changed by itself -/
theorem L6.wire {fp' : List Addr} (h : L6 W H p c e q w ns n fp rows kn tk) (b : But (· ∈ fp) H H') (hf : ∀ a ∈ fp', a ∈ fp ∨ H a = none) (t : Tups H H') :
    Pen H' p c ns n ∧ EndAt H' e q rows kn tk ∧ ∀ a ∈ fp', a ≠ p ∧ a ≠ c ∧ a ≠ e ∧ a ≠ q := by
  have np : p ∉ fp := fun z => (h.off p z).1 rfl
  have nc : c ∉ fp := fun z => (h.off c z).2.1 rfl
  have ne : e ∉ fp := fun z => (h.off e z).2.2.1 rfl
  have nq : q ∉ fp := fun z => (h.off q z).2.2.2 rfl
  refine ⟨h.pen.but b np nc, h.hE.but b ne nq t, fun a ha => ?_⟩
  rcases hf a ha with z | z
  · exact h.off a z
  · obtain ⟨he, ⟨xs, hq, _⟩, _⟩ := h.hE
    exact ⟨(h.pen.fresh z).1, (h.pen.fresh z).2, (ne_of_none he z).symm, (ne_of_none hq z).symm⟩
/-- an object beside it changes -/
theorem L6.aside {D : Addr} (h : L6 W H p c e q w ns n fp rows kn tk) (hD : ∀ x, (x = p ∨ x = c ∨ x = e ∨ x = q ∨ x ∈ fp) → x ≠ D) (b : But (· = D) H H') (t : Tups H H') : L6 W H' p c e q w ns n fp rows kn tk :=
  ⟨h.pen.but b (hD p (.inl rfl)) (hD c (.inr (.inl rfl))), h.hE.but b (hD e (.inr (.inr (.inl rfl)))) (hD q (.inr (.inr (.inr (.inl rfl))))) t, WK.but h.hW b (fun a ha => hD a (.inr (.inr (.inr (.inr ha))))) t, h.nep, h.nqc, h.off⟩
theorem L6.fresh {D : Addr} (h : L6 W H p c e q w ns n fp rows kn tk) (hD : H D = none) : ∀ x, (x = p ∨ x = c ∨ x = e ∨ x = q ∨ x ∈ fp) → x ≠ D := by
  obtain ⟨he, ⟨xs, hq, _⟩, _⟩ := h.hE
  rintro x (rfl | rfl | rfl | rfl | m)
  · exact (h.pen.fresh hD).1.symm
  · exact (h.pen.fresh hD).2.symm
  · exact ne_of_none he hD
  · exact ne_of_none hq hD
  · obtain ⟨u, hu, _⟩ := W.there h.hW x m
    exact ne_of_none hu hD
theorem drop_max6 {rows : List PyData} {kn heard : Nat} (h : kn ≤ rows.length) : (rows.drop kn).drop (heard - (rows.length - (rows.drop kn).length)) = rows.drop (max kn heard) := by
  rw [List.drop_drop, List.length_drop]
  congr 1
  omega
/-- a letter was taken, and the law's end told so -/
theorem L6.taken {H2 : Hp} {fp' : List Addr} {heard tk' : Nat} (h : L6 W H p c e q w ns n fp rows kn tk) (hh : heard ≤ rows.length)
    (hW : W.At H' fp' w ((rows.drop kn).drop (heard - (rows.length - (rows.drop kn).length))) rows.length tk') (hf : ∀ a ∈ fp', a ∈ fp ∨ H a = none) (b : But (· ∈ fp) H H') (he : H2 e = some (.dK (endK q (max kn heard) tk'))) (b2 : But (· = e) H' H2) :
    L6 W H2 p c e q w ns n fp' rows (max kn heard) tk' := by
  have t := WK.tups h.hW b
  obtain ⟨hP, hE, off⟩ := h.wire b hf t
  obtain ⟨he1, ⟨xs, hq, hqd⟩, g3, g4, g5⟩ := hE
  have t2 : Tups H' H2 := b2.tups fun a xs z q => by
    rw [z, he1] at q
    cases q
  rw [drop_max6 g3] at hW
  exact ⟨hP.but b2 h.nep.symm h.nec.symm, ⟨he, ⟨xs, b2 _ _ h.nqe hq, hqd.mono t2⟩, Nat.max_le.mpr ⟨g3, hh⟩, g4, g5⟩, WK.but hW b2 (fun a ha z => (off a ha).2.2.1 z) t2, h.nep, h.nqc, off⟩
end
abbrev sLaw : Stmt := top 27
abbrev lawN : List Str := ["_law_script", "_law_pen_here", "_law_bout", "_law_wire", "_law_end_here", "_law_k", "_law_rows", "_law_letter", "_law_more", "_law_first", "_law_turn", "_law_thing"]
theorem scLaw : FnScope lawN ["_law_script"] (defScope sLaw) := ⟨rfl, rfl, rfl, by decide +kernel, rfl, by decide +kernel, by decide +kernel⟩
def spLaw (K : PySem.W.Frag) : Sp := fun vs H Q _ => ∃ (a : Addr) (ns : List Int), vs = [.ref a] ∧ SqL K H a (ns.map V.int) ∧ ns.length ≤ 63 ∧ ∀ H', Q (.bl true) H'
section
variable {P : Program} {w : World} {K : PySem.W.Frag} {mg : Str → Option Value} {base : Heap} {W : WK}
theorem ok_law {f : Addr} {fd : FuncData} (F : Fun K "law" "law" sLaw f fd) (T : Txt mg) (CW : Wires W P w K mg base 9)
    (CPen : Cal P w K mg base "_law_pen" 1 ["_law_script"] (spPen K)) (CD : Cal P w K mg base "_law_draw" 1 ["_law_pen_here", "_law_many"] spDraw)
    (CR : Cal P w K mg base "_law_row_of" 4 ["_law_pen_here"] spRow) (CE : Cal P w K mg base "_law_end" 1 [] spEnd) (CF : Cal P w K mg base "_law_fresh_by" 1 ["_law_end_here", "_law_letter"] spFresh)
    (CB : Cal P w K mg base "_law_bent" 4 ["_law_pen_here", "_law_end_here", "_law_letter"] spBent) (CL : Cal P w K mg base "_law_is_letter" 2 ["_law_end_here", "_law_thing"] spIsLet)
    (CX : ∃ f fd, mg "_law_refused" = some (.ref f) ∧ PySem.W.keepIn K (.ref f) = true ∧ Binds K fd ["_law_wire", "_law_thing"] [] ∧ FnG P w K mg base CX0 10 f fd ["_law_wire", "_law_thing"] (spRefused W))
    (CT : ∃ f fd, mg "_law_end_right" = some (.ref f) ∧ PySem.W.keepIn K (.ref f) = true ∧ Binds K fd ["_law_wire", "_law_end_here"] [] ∧ FnG P w K mg base CX0 11 f fd ["_law_wire", "_law_end_here"] (spRight W)) :
    FnG P w K mg base CX0 12 f fd ["_law_script"] (spLaw K) := by
  obtain ⟨f1, fd1, m1, k1, b1, G1⟩ := CPen
  obtain ⟨f2, fd2, m2, k2, b2, G2⟩ := CD
  obtain ⟨f4, fd4, m4, k4, b4, G4⟩ := CR
  obtain ⟨f5, fd5, m5, k5, b5, G5⟩ := CE
  obtain ⟨f6, fd6, m6, k6, b6, G6⟩ := CF
  obtain ⟨fg, fdg, mg', kg, bg, Gg⟩ := CB
  obtain ⟨fi, fdi, mi, ki, bi, Gi⟩ := CL
  obtain ⟨fx, fdx, mx, kx, bx, Gx⟩ := CX
  obtain ⟨f7, fd7, m7, k7, b7, G7⟩ := CT
  obtain ⟨f8, fd8, ps8, m8, b8, G8⟩ := CW.put
  obtain ⟨fa, fda, psa, ma, ba, Ga⟩ := CW.take
  obtain ⟨fc, fdc, psc, mc, bc, Gc⟩ := CW.new
  refine fun_okG F scLaw (fun vs H Q E h => ?_) (fun cdv A outer s H vs Q E hg hr h => ?_)
  · obtain ⟨a, ns, rfl, _⟩ := h
    rfl
  · obtain ⟨a, ns, rfl, hS, h63, k⟩ := h
    have hu := hu_of hr
    have nd := scLaw.nd
    have r1 : Room 1 _ := hr.mono (by decide)
    have r2 : Room 2 _ := hr.mono (by decide)
    have r4 : Room 4 _ := hr.mono (by decide)
    have r9 : Room 9 _ := hr.mono (by decide)
    have r10 : Room 10 _ := hr.mono (by decide)
    refine ⟨_, pss_cons (ps_set (i := 1) nd rfl (.inr rfl) (pe_call G1 r1 (by rfl) m1 k1 b1 .nil pass0 (pa_cons (pv 0) pa_nil)))
      (C8.pss_cut (ps_for PassesOwn.never rfl (pi_range1 rfl T.range (pa_cons pe_int pa_nil)) (pg_name (i := 2) nd rfl (Or.inl rfl))
        (C8.pss_cut (ps_par (i := 3) (j := 4) rfl nd rfl rfl (by decide) rfl rfl (pa_cons (pe_make0 mc Gc r10 rfl CW.glob bc .nil pass0) (pa_cons (pe_call0 G5 r1 (by rfl) m5 k5 b5 .nil pass0) pa_nil)) (by rfl))
        (C8.pss_cut (ps_for PassesOwn.never rfl (pi_range1 rfl T.range (pa_cons (pe_call G2 r1 (by rfl) m2 k2 b2 .nil pass0 (pa_cons (pv 1) (pa_cons pe_int pa_nil))) pa_nil)) (pg_name (i := 5) nd rfl (Or.inl rfl))
          (pss_cons (ps_expr (pe_bm PySem.F.plainAttrs_list PySem.F.slot_list_append PySem.F.type_list_append mt_append (pe_dget hu (pv 4) pe_str (fun _ _ => rfl)) (pa_cons (pe_call G4 r4 (by rfl) m4 k4 b4 .nil pass0 (pa_cons (pv 1) pa_nil)) pa_nil)))
          (pss_one (ps_expr (pe_meth (pv 3) CW.cls m8 G8 r9 b8 .nil pass0 (pa_cons (pe_ix ix_list (pe_dget hu (pv 4) pe_str (fun _ _ => rfl)) (pe_un un_neg pe_int) (fun _ _ => rfl)) pa_nil))))))
        (C8.pss_cut (ps_set (i := 6) nd rfl (.inl rfl) (pe_callTy call_tuple_of (by rfl) T.tuple (by decide +kernel) (pa_cons (pe_lc (own := [("_law_k", 5)]) (g := gName 5) (tt := tYes) rfl nd (pi_range1 rfl T.range (pa_cons (pe_call G2 r1 (by rfl) m2 k2 b2 .nil pass0 (pa_cons (pv 1) (pa_cons pe_int pa_nil))) pa_nil))
            (blkOk_by (N := lawN) (sc := defScope sLaw) (by decide +kernel)) (fun _ _ _ _ _ => pg_name (i := 5) nd rfl (Or.inl rfl)) (fun _ _ _ _ _ => pts_nil) (fun _ _ _ _ _ => pe_call G4 r4 (by rfl) m4 k4 b4 .nil pass0 (pa_cons (pv 1) pa_nil))) pa_nil)))
        (C8.pss_cut (ps_set (i := 7) nd rfl (.inl rfl) (pe_tup (pa_cons pe_str (pa_cons pe_int (pa_cons (pv 6) (pa_cons (pe_call G2 r1 (by rfl) m2 k2 b2 .nil pass0 (pa_cons (pv 1) (pa_cons (pe_op op_add (pe_callB call_len_seq (by rfl) T.len PySem.boot_len (pa_cons (pe_dget hu (pv 4) pe_str (fun _ _ => rfl)) pa_nil)) pe_int) pa_nil))) pa_nil))))))
        (C8.pss_cut (ps_if (PW.pt (pw_and (pt_cmpR op_eq (pe_call G2 r1 (by rfl) m2 k2 b2 .nil pass0 (pa_cons (pv 1) (pa_cons pe_int pa_nil))) pe_int (nomark _))
            (pw_and1 (pt_cmpR op_ne (pe_callB (call_repr hg hr.units) (by rfl) T.repr (by decide +kernel) (pa_cons (pe_meth (pv 3) CW.cls ma Ga r9 ba .nil pass0 (pa_cons (pv 7) pa_nil)) pa_nil)) (pe_callB (call_repr hg hr.units) (by rfl) T.repr (by decide +kernel) (pa_cons (pe_call G6 r1 (by rfl) m6 k6 b6 .nil pass0 (pa_cons (pv 4) (pa_cons (pv 7) pa_nil))) pa_nil)) (nomark _))))) (pss_one (ps_ret pe_bl)) pss_nil)
        (C8.pss_cut (ps_set (i := 8) nd rfl (.inl rfl) (pe_op op_catA (pv 6) (pe_callTy call_tuple_of (by rfl) T.tuple (by decide +kernel) (pa_cons (pe_lc (own := [("_law_k", 5)]) (g := gName 5) (tt := tYes) rfl nd (pi_range1 rfl T.range (pa_cons (pe_call G2 r1 (by rfl) m2 k2 b2 .nil pass0 (pa_cons (pv 1) (pa_cons pe_int pa_nil))) pa_nil))
            (blkOk_by (N := lawN) (sc := defScope sLaw) (by decide +kernel)) (fun _ _ _ _ _ => pg_name (i := 5) nd rfl (Or.inl rfl)) (fun _ _ _ _ _ => pts_nil) (fun _ _ _ _ _ => pe_call G4 r4 (by rfl) m4 k4 b4 .nil pass0 (pa_cons (pv 1) pa_nil))) pa_nil))))
        (C8.pss_cut (ps_set (i := 9) nd rfl (.inl rfl) (pe_call G2 r1 (by rfl) m2 k2 b2 .nil pass0 (pa_cons (pv 1) (pa_cons (pe_op op_add (pe_dget hu (pv 4) pe_str (fun _ _ => rfl)) pe_int) pa_nil))))
        (C8.pss_cut (ps_set (i := 7) nd rfl (.inl rfl) (pe_tup (pa_cons pe_str (pa_cons (pv 9) (pa_cons (pe_slice sl_tupA (pv 8) (po_some (pv 9)) po_none) (pa_cons (pe_op op_add (pe_dget hu (pv 4) pe_str (fun _ _ => rfl))
            (pe_call G2 r1 (by rfl) m2 k2 b2 .nil pass0 (pa_cons (pv 1) (pa_cons (pe_op op_add (pe_op op_sub (pe_callB call_len_seq (by rfl) T.len PySem.boot_len (pa_cons (pe_dget hu (pv 4) pe_str (fun _ _ => rfl)) pa_nil)) (pe_dget hu (pv 4) pe_str (fun _ _ => rfl))) pe_int) pa_nil)))) pa_nil))))))
        (C8.pss_cut (ps_for PassesOwn.never rfl (pi_range1 rfl T.range (pa_cons pe_int pa_nil)) (pg_name (i := 10) nd rfl (Or.inl rfl))
          (C8.pss_cut (ps_set (i := 11) nd rfl (.inl rfl) (pe_call Gg r4 (by rfl) mg' kg bg .nil pass0 (pa_cons (pv 1) (pa_cons (pv 4) (pa_cons (pv 7) pa_nil)))))
          (C8.pss_cut (ps_if (PW.pt (pw_and (pt_val (pe_callB call_isi (by rfl) T.isinstance (by decide +kernel) (pa_cons (pv 11) (pa_cons (pe_bltn (v := V.ty "tuple") (by rfl) T.tuple (by decide +kernel) rfl) pa_nil))))
              (pw_and (pt_cmpR op_eq (pe_callB call_len_seq (by rfl) T.len PySem.boot_len (pa_cons (pv 11) pa_nil)) pe_int (nomark _))
              (pw_and (pt_val (pe_callB call_isi (by rfl) T.isinstance (by decide +kernel) (pa_cons (pe_ix ix_tup (pv 11) pe_int (fun _ _ => rfl)) (pa_cons (pe_bltn (v := V.ty "tuple") (by rfl) T.tuple (by decide +kernel) rfl) pa_nil))))
              (pw_and1 (pt_cmpR op_eq (pe_call G2 r1 (by rfl) m2 k2 b2 .nil pass0 (pa_cons (pv 1) (pa_cons pe_int pa_nil))) pe_int (nomark _)))))))
              (pss_one (ps_set (i := 11) nd rfl (.inl rfl) (pe_call Gg r4 (by rfl) mg' kg bg .nil pass0 (pa_cons (pv 1) (pa_cons (pv 4) (pa_cons (pv 11) pa_nil)))))) pss_nil)
          (pss_one (ps_if (PW.pt (pw_and (pt_not (pt_val (pe_call Gi r2 (by rfl) mi ki bi .nil pass0 (pa_cons (pv 4) (pa_cons (pv 11) pa_nil)))))
              (pw_and1 (PW.pt (pw_or (pt_not (pt_val (pe_callG Gx hg r10 (by rfl) mx kx bx .nil pass0 (pa_cons (pv 3) (pa_cons (pv 11) pa_nil)))))
                (pw_or1 (pt_not (pt_val (pe_callG G7 hg hr (by rfl) m7 k7 b7 .nil pass0 (pa_cons (pv 3) (pa_cons (pv 4) pa_nil))))))))))) (pss_one (ps_ret pe_bl)) pss_nil)))))
        (pss_one (ps_if (PW.pt (pw_or (pt_cmpR op_ne (pe_callB (call_repr hg hr.units) (by rfl) T.repr (by decide +kernel) (pa_cons (pe_meth (pv 3) CW.cls ma Ga r9 ba .nil pass0 (pa_cons (pv 7) pa_nil)) pa_nil)) (pe_callB (call_repr hg hr.units) (by rfl) T.repr (by decide +kernel) (pa_cons (pe_call G6 r1 (by rfl) m6 k6 b6 .nil pass0 (pa_cons (pv 4) (pa_cons (pv 7) pa_nil))) pa_nil)) (nomark _))
            (pw_or1 (pt_not (pt_val (pe_callG G7 hg hr (by rfl) m7 k7 b7 .nil pass0 (pa_cons (pv 3) (pa_cons (pv 4) pa_nil)))))))) (pss_one (ps_ret pe_bl)) pss_nil))))))))))))
      (pss_one (ps_ret pe_bl))), ?_⟩
    refine ⟨_, rfl, a, ns, rfl, hS, h63, fun p c H1 hp hc hP s1 => ?_⟩
    have mk : ∀ {H : Hp} {w dx : Addr}, H w = none → H dx = none → Same H (upd (upd H dx (.own w)) w (.ins W.C dx [])) := fun {H w dx} h1 h2 b o z => by
      rw [upd_ne (ne_of_none z h1), upd_ne (ne_of_none z h2)]
      exact z
    refine ⟨fun _ _ => True, ?_, fun _ H' _ => k H'⟩
    refine ⟨4, rfl, by decide, by decide, for_range (lo := 0) (n := 4) (fun i σ' H' => (∃ v2 v3 v4 v5 v6 v7 v8 v9 va vb : Option V, σ' = [some (.ref a), some (.ref p), v2, v3, v4, v5, v6, v7, v8, v9, va, vb]) ∧ Pen H' p c ns (10000 * i)) ?_ ?_ fun _ _ _ => trivial⟩
    · exact ⟨⟨_, _, _, _, _, _, _, _, _, _, rfl⟩, hP⟩
    rintro i σ' H0 hi ⟨⟨v2, v3, v4, v5, v6, v7, v8, v9, va, vb, rfl⟩, hP0⟩
    clear hP s1 hS
    -- a wire, an end
    refine ⟨fun σ' H' => ∃ (w e q : Addr) (fp : List Addr) (v2 : Option V), σ' = [some (.ref a), some (.ref p), v2, some (.ref w), some (.ref e), v5, v6, v7, v8, v9, va, vb] ∧ L6 W H' p c e q w ns (10000 * i) fp [] 0 0, ?_, ?_⟩
    · refine fun w1 d1 hw1 hd1 nd1 => ⟨H0, w1, d1, rfl, mk hw1 hd1, hw1, upd_same, fun fp1 H2 W1 n1 s2 => ⟨rfl, ?_⟩⟩
      refine ⟨rfl, fun e q H3 he hq neq hE hQ s3 => ⟨_, _, rfl, w1, e, q, fp1, _, rfl, ?_⟩⟩
      have hP2 : Pen H2 p c ns (10000 * i) := hP0.but (sameBut s2 fun _ => False) (fun z => z) (fun z => z)
      refine ⟨hP2.but (sameBut s3 fun _ => False) (fun z => z) (fun z => z), ⟨hE, ⟨[], hQ, .nil⟩, Nat.le_refl _, Nat.zero_le _, fun d m => absurd m (by simp)⟩, WK.same W1 s3, (hP2.fresh he).1, (hP2.fresh hq).2, fun b m => ?_⟩
      obtain ⟨u, hu, _⟩ := W.there W1 b m
      exact ⟨(hP0.fresh (n1 b m)).1, (hP0.fresh (n1 b m)).2, ne_of_none hu he, ne_of_none hu hq⟩
    rintro σ1 H1 ⟨w, e, q, fp0, v2, rfl, hC0⟩
    clear hP0
    -- rows put
    refine ⟨fun σ' H' => ∃ (fp : List Addr) (rows : List PyData) (v2 v5 : Option V), σ' = [some (.ref a), some (.ref p), v2, some (.ref w), some (.ref e), v5, v6, v7, v8, v9, va, vb] ∧ L6 W H' p c e q w ns (10000 * i + 200) fp rows 0 0 ∧ rows.length ≤ 6, ?_, ?_⟩
    · refine ⟨_, rfl, p, c, ns, 10000 * i, 6, rfl, hC0.pen, by omega, by decide, by decide, fun r H2 r0 r1' hP2 b2 => ⟨_, rfl, by omega, by omega, ?_⟩⟩
      refine for_range (lo := 0) (n := r.toNat) (fun j σ' H' => ∃ (fp : List Addr) (rows : List PyData) (v2 v5 : Option V), σ' = [some (.ref a), some (.ref p), v2, some (.ref w), some (.ref e), v5, v6, v7, v8, v9, va, vb] ∧ L6 W H' p c e q w ns (10000 * i + 1 + 25 * j) fp rows 0 0 ∧ rows.length = j) ?_ ?_ ?_
      · exact ⟨fp0, [], _, _, rfl, hC0.draw b2 hP2, rfl⟩
      · clear hC0 b2 hP2
        rintro j σ' H3 hj ⟨fp, rows, v2, v5, rfl, hC, hl⟩
        obtain ⟨he, ⟨xs, hq, hqd⟩, g3, g4, g5⟩ := id hC.hE
        refine ⟨_, rfl, e, _, rfl, end_gp he, .inl ⟨rfl, _, SqL.of hq⟩, _, rfl, p, c, ns, _, rfl, hC.pen, by omega, fun t ys ds H4 ht0 hT hD hdl hpl hP4 b4 => ?_⟩
        have hC4 := hC.draw b4 hP4
        have t4 := hC.pen.tups b4
        obtain ⟨he4, _⟩ := id hC4.hE
        have hq4 := b4 _ _ hC.nqp hq
        have hqd4 := hqd.mono t4
        have lx := hqd.length
        refine ⟨q, _, _, rfl, rfl, hq4, small1000 (by omega), ?_⟩
        have b5 : But (· = q) H4 (upd H4 q (.lst (xs ++ [.ref t]))) := (But.refl _ _).mut rfl
        have t5 : Tups H4 (upd H4 q (.lst (xs ++ [.ref t]))) := (Tups.refl _).mut hq4 (by intro _ z; cases z)
        have hq5 := upd_same (H := H4) (a := q) (o := .lst (xs ++ [.ref t]))
        generalize upd H4 q (.lst (xs ++ [.ref t])) = H5 at b5 t5 hq5 ⊢
        have he5 := b5 _ _ hC.nqe.symm he4
        have hP5 := hP4.but b5 hC.nqp.symm hC.nqc.symm
        have hW5 := WK.but hC4.hW b5 (fun b m z => (hC.off b m).2.2.2 z) t5
        have hdt5 : Dt H5 (.ref t) (.tuple ds) := (Dt.tup hT hD).mono t5
        have hrow : RowD (.tuple ds) := ⟨ds, rfl, by omega, hpl⟩
        obtain ⟨dx, fs, hins, hno⟩ := W.ins hW5
        refine ⟨_, rfl, w, dx, fs, rfl, hins, hno _ (by simp), _, rfl, e, _, rfl, end_gp he5, _, rfl, q, _, _, _, rfl, rfl, SqL.of hq5, atI_last _ _, w, t, .tuple ds, fp, _, _, _, rfl, hW5, hdt5, hrow, by omega, fun fp' H6 hW6 hf6 b6 => ?_⟩
        have t6 := WK.tups hW5 b6
        have np : p ∉ fp := fun z => (hC.off p z).1 rfl
        have nc : c ∉ fp := fun z => (hC.off c z).2.1 rfl
        have ne : e ∉ fp := fun z => (hC.off e z).2.2.1 rfl
        have nq : q ∉ fp := fun z => (hC.off q z).2.2.2 rfl
        refine ⟨fp', rows ++ [.tuple ds], _, _, rfl, ⟨(hP5.but b6 np nc).mono (by omega), ⟨b6 _ _ ne he5, ⟨_, b6 _ _ nq hq5, ((hqd4.mono t5).app (.cons hdt5 .nil)).mono t6⟩, Nat.zero_le _, by rw [List.length_append, hl]; show j + 1 ≤ 1000; omega, fun d m => ?_⟩, ?_, hC.nep, hC.nqc, fun b m => ?_⟩, by rw [List.length_append, hl]; rfl⟩
        · rcases List.mem_append.mp m with m | m
          · exact g5 d m
          · rw [List.mem_singleton.mp m]
            exact hrow
        · rw [List.length_append]
          exact hW6
        · rcases hf6 b m with z | z
          · exact hC.off b z
          · exact ⟨(hP5.fresh z).1, (hP5.fresh z).2, (ne_of_none he5 z).symm, (ne_of_none hq5 z).symm⟩
      · rintro σ' H3 ⟨fp, rows, v2, v5, rfl, hC, hl⟩
        exact ⟨fp, rows, _, _, rfl, hC.more (by omega), by omega⟩
    rintro σ2 H2 ⟨fp, rows, v2, v5, rfl, hC, hl6⟩
    clear hC0
    -- rows that come
    refine ⟨fun σ' H' => ∃ (R : Addr) (zs : List V) (rs : List PyData) (v2 v5 : Option V), σ' = [some (.ref a), some (.ref p), v2, some (.ref w), some (.ref e), v5, some (.ref R), v7, v8, v9, va, vb] ∧ L6 W H' p c e q w ns (10000 * i + 400) fp rows 0 0 ∧ H' R = some (.tup zs) ∧ DtAll H' zs rs ∧ rs.length ≤ 4 ∧ (∀ d ∈ rs, RowD d), ?_, ?_⟩
    · refine ⟨_, rfl, p, c, ns, _, 5, rfl, hC.pen, by omega, by decide, by decide, fun r H3 r0 r1' hP3 b3 => ⟨_, rfl, by omega, by omega, fun D hD => ?_⟩⟩
      have hC3 := hC.draw b3 hP3
      have fD := hC3.fresh hD
      refine lc_range (lo := 0) (n := r.toNat) (fun j H' => ∃ (zs : List V) (rs : List PyData), H' D = some (.lst zs) ∧ DtAll H' zs rs ∧ rs.length = j ∧ (∀ d ∈ rs, RowD d) ∧ L6 W H' p c e q w ns (10000 * i + 201 + 25 * j) fp rows 0 0 ∧ Tups H3 H') ?_ ?_ ?_
      · exact ⟨[], [], upd_same, .nil, rfl, fun d m => absurd m (by simp), (hC3.same (same_new (Same.refl _) hD)).more (by omega), sameTups (same_new (Same.refl _) hD)⟩
      · rintro j H4 hj ⟨zs, rs, hL, hd, hlj, hrr, hC4, t34⟩
        refine ⟨rfl, _, rfl, p, c, ns, _, rfl, hC4.pen, by omega, fun t ys ds H5 ht0 hT hDs hdl hpl hP5 b5 => ?_⟩
        have hC5 := hC4.draw b5 hP5
        have t5 := hC4.pen.tups b5
        have hL5 := b5 _ _ (fD p (.inl rfl)).symm hL
        have b6 : But (· = D) H5 (upd H5 D (.lst (zs ++ [.ref t]))) := (But.refl _ _).mut rfl
        have t6 : Tups H5 (upd H5 D (.lst (zs ++ [.ref t]))) := (Tups.refl _).mut hL5 (by intro _ z; cases z)
        refine ⟨_, hL5, ?_, zs ++ [.ref t], rs ++ [.tuple ds], upd_same, ((hd.mono t5).app (.cons (.tup hT hDs) .nil)).mono t6, by rw [List.length_append, hlj]; rfl, fun d m => ?_, (hC5.aside fD b6 t6).more (by omega), (t34.trans t5).trans t6⟩
        · rw [hd.length]
          exact small1000 (by omega)
        · rcases List.mem_append.mp m with m | m
          · exact hrr d m
          · rw [List.mem_singleton.mp m]
            exact ⟨ds, rfl, by omega, hpl⟩
      · rintro H4 ⟨zs, rs, hL, hd, hlj, hrr, hC4, t34⟩
        refine ⟨D, _, rfl, .inl ⟨SqL.of hL, fun t ht => ?_⟩⟩
        have s5 := same_new (Same.refl H4) ht (o := .tup zs)
        exact ⟨t, zs, rs, _, _, rfl, (hC4.same s5).more (by omega), upd_same, hd.mono (sameTups s5), by omega, hrr⟩
    rintro σ3 H3 ⟨R, zs, rs, v2, v5, rfl, hC', hR, hRd, hrl, hrr⟩
    clear hC
    -- the first letter
    refine ⟨fun σ' H' => ∃ (t : Addr) (hd : Nat), σ' = [some (.ref a), some (.ref p), v2, some (.ref w), some (.ref e), v5, some (.ref R), some (.ref t), v8, v9, va, vb] ∧ L6 W H' p c e q w ns (10000 * i + 401) fp rows 0 0 ∧ H' R = some (.tup zs) ∧ DtAll H' zs rs ∧ Dt H' (.ref t) (LetD 0 rs hd) ∧ hd ≤ rows.length, ?_, ?_⟩
    · obtain ⟨he, ⟨xs, hq, hqd⟩, g3, g4, g5⟩ := id hC'.hE
      have lx := hqd.length
      refine ⟨_, rfl, _, rfl, _, rfl, e, _, rfl, end_gp he, q, _, rfl, .inl (SqL.of hq), _, _, rfl, rfl, p, c, ns, _, _, rfl, hC'.pen, by omega, by omega, by omega, fun r H4 r0 r1' hP4 b4 => ⟨(by show 4 ≤ sizeLine; decide), fun t ht => ?_⟩⟩
      have hC4 := hC'.draw b4 hP4
      have t4 := hC'.pen.tups b4
      have s5 := same_new (Same.refl H4) ht (o := .tup [.str "rows", .int 0, .ref R, .int r])
      have e5 := upd_same (H := H4) (a := t) (o := .tup [.str "rows", .int 0, .ref R, .int r])
      have R4 := t4 _ _ hR
      obtain ⟨hd, rfl⟩ : ∃ hd : Nat, r = (hd : Int) := ⟨r.toNat, by omega⟩
      exact ⟨t, hd, rfl, hC4.same s5, s5 _ _ R4, (hRd.mono t4).mono (sameTups s5), .tup e5 (.cons (.str _) (.cons (.int _) (.cons (.tup (s5 _ _ R4) ((hRd.mono t4).mono (sameTups s5))) (.cons (.int _) .nil)))), by omega⟩
    clear hC' hR hRd
    rintro σ4 H4 ⟨t0, hd0, rfl, hC, hR, hRd, ht0, hhd⟩
    -- taken, or not
    refine ⟨fun σ' H' => ∃ (fp : List Addr) (kn tk : Nat), σ' = [some (.ref a), some (.ref p), v2, some (.ref w), some (.ref e), v5, some (.ref R), some (.ref t0), v8, v9, va, vb] ∧ L6 W H' p c e q w ns (10000 * i + 402) fp rows kn tk ∧ H' R = some (.tup zs) ∧ DtAll H' zs rs ∧ tk ≤ 4, ?_, ?_⟩
    · refine ⟨_, rfl, p, c, ns, _, 2, rfl, hC.pen, by omega, by decide, by decide, fun r H5 r0 r1' hP5 b5 => ⟨rfl, _, rfl, ite2 (fun _ => ?_) (fun _ => ?_)⟩⟩
      · have hC5 := hC.draw b5 hP5
        have t5 := hC.pen.tups b5
        have ht5 := ht0.mono t5
        obtain ⟨dx, fs, hins, hno⟩ := W.ins hC5.hW
        have g4 := hC5.hE.2.2.2.1
        refine ⟨_, rfl, w, dx, fs, rfl, hins, hno _ (by simp), _, rfl, w, t0, fp, _, rs, rows.length, 0, 0, hd0, rfl, hC5.hW, ht5, Nat.le_refl _, hhd, hrr, by omega, g4, by omega, fun l us fp' H6 hl0 nl hL hLd hW6 hf6 b6 => ?_⟩
        have t6 := WK.tups hC5.hW b6
        obtain ⟨hP6, hE6, off6⟩ := hC5.wire b6 hf6 t6
        have okD := ((rows_sh (ds := rs.drop (0 - 0)) (fun d m => hrr d (List.mem_of_mem_drop m)) (by rw [List.length_drop]; omega)).mono (by decide : 300000 ≤ 1300000) (Nat.le_refl 4)).okL (by decide)
        refine ⟨_, _, rfl, .lst (SqL.of hL) hLd.dp, okD, ?_⟩
        refine ⟨_, rfl, _, rfl, e, t0, q, rs, 0, 0, 0, hd0, rfl, hE6.1, ht5.mono t6, by omega, by omega, Nat.le_refl _, fun l2 us2 H7 hl2 hL2 hLd2 he7 b7 => ?_⟩
        refine ⟨_, _, rfl, .lst (SqL.of hL2) hLd2.dp, okD, rfl, _, rfl, iteNS rfl ?_⟩
        have hC7 := hC5.taken hhd hW6 hf6 b6 he7 b7
        have t7 : Tups H6 H7 := b7.tups fun a xs z q => by
          rw [z, hE6.1] at q
          cases q
        exact ⟨fp', _, _, rfl, hC7, t7 _ _ (t6 _ _ (t5 _ _ hR)), ((hRd.mono t5).mono t6).mono t7, by rw [List.length_drop]; omega⟩
      · exact ⟨fp, 0, 0, rfl, hC.draw b5 hP5, hC.pen.tups b5 _ _ hR, hRd.mono (hC.pen.tups b5), by omega⟩
    clear hC hR hRd ht0
    rintro σ5 H5 ⟨fp, kn, tk, rfl, hC, hR, hRd, htk⟩
    -- more rows
    refine ⟨fun σ' H' => ∃ (Mr : Addr) (zs : List V) (rs : List PyData) (v5 : Option V), σ' = [some (.ref a), some (.ref p), v2, some (.ref w), some (.ref e), v5, some (.ref R), some (.ref t0), some (.ref Mr), v9, va, vb] ∧ L6 W H' p c e q w ns (10000 * i + 600) fp rows kn tk ∧ H' Mr = some (.tup zs) ∧ DtAll H' zs rs ∧ rs.length ≤ 6 ∧ (∀ d ∈ rs, RowD d), ?_, ?_⟩
    · refine ⟨_, rfl, _, rfl, p, c, ns, _, 3, rfl, hC.pen, by omega, by decide, by decide, fun r H6 r0 r1' hP6 b6 => ⟨_, rfl, by omega, by omega, fun D hD => ?_⟩⟩
      have hC6 := hC.draw b6 hP6
      have t6 := hC.pen.tups b6
      have fD := hC6.fresh hD
      refine lc_range (lo := 0) (n := r.toNat) (fun j H' => ∃ (zs : List V) (rs : List PyData), H' D = some (.lst zs) ∧ DtAll H' zs rs ∧ rs.length = j ∧ (∀ d ∈ rs, RowD d) ∧ L6 W H' p c e q w ns (10000 * i + 403 + 25 * j) fp rows kn tk ∧ Tups H6 H') ?_ ?_ ?_
      · exact ⟨[], [], upd_same, .nil, rfl, fun d m => absurd m (by simp), (hC6.same (same_new (Same.refl _) hD)).more (by omega), sameTups (same_new (Same.refl _) hD)⟩
      · rintro j H7 hj ⟨zs, rs, hL, hd, hlj, hrr, hC7, t67⟩
        refine ⟨rfl, _, rfl, p, c, ns, _, rfl, hC7.pen, by omega, fun t ys ds H8 ht0 hT hDs hdl hpl hP8 b8 => ?_⟩
        have hC8 := hC7.draw b8 hP8
        have t8 := hC7.pen.tups b8
        have hL8 := b8 _ _ (fD p (.inl rfl)).symm hL
        have b9 : But (· = D) H8 (upd H8 D (.lst (zs ++ [.ref t]))) := (But.refl _ _).mut rfl
        have t9 : Tups H8 (upd H8 D (.lst (zs ++ [.ref t]))) := (Tups.refl _).mut hL8 (by intro _ z; cases z)
        refine ⟨_, hL8, ?_, zs ++ [.ref t], rs ++ [.tuple ds], upd_same, ((hd.mono t8).app (.cons (.tup hT hDs) .nil)).mono t9, by rw [List.length_append, hlj]; rfl, fun d m => ?_, (hC8.aside fD b9 t9).more (by omega), (t67.trans t8).trans t9⟩
        · rw [hd.length]
          exact small1000 (by omega)
        · rcases List.mem_append.mp m with m | m
          · exact hrr d m
          · rw [List.mem_singleton.mp m]
            exact ⟨ds, rfl, by omega, hpl⟩
      · rintro H7 ⟨zs2, rs2, hL, hd, hlj, hrr2, hC7, t67⟩
        refine ⟨D, _, rfl, .inl ⟨SqL.of hL, fun t ht => ?_⟩⟩
        have s8 := same_new (Same.refl H7) ht (o := .tup zs2)
        have e8 := upd_same (H := H7) (a := t) (o := .tup zs2)
        have R7 := t67 _ _ (t6 _ _ hR)
        have Rd7 := (hRd.mono t6).mono t67
        have hall : ∀ d ∈ rs ++ rs2, RowD d := fun d m => (List.mem_append.mp m).elim (hrr d) (hrr2 d)
        have l1 := hRd.length
        have l2 := hd.length
        generalize upd H7 t (.tup zs2) = H8 at s8 e8 ⊢
        have hC8 := hC7.same s8
        have dd := (Rd7.mono (sameTups s8)).app (hd.mono (sameTups s8))
        refine ⟨R, t, zs, zs2, rfl, rfl, SqT.of (s8 _ _ R7), SqT.of e8, (by rw [show sizeLine = 16777216 from sizeLine_eq]; omega), fun z => ?_, fun _ z => ?_, fun _ _ p2 hp2 => ?_⟩
        · subst z
          exact ⟨t, _, _, _, rfl, hC8.more (by omega), e8, dd, by rw [List.length_append]; omega, hall⟩
        · subst z
          rw [List.append_nil] at dd
          exact ⟨R, _, _, _, rfl, hC8.more (by omega), s8 _ _ R7, dd, by rw [List.length_append]; omega, hall⟩
        · have s9 := same_new (Same.refl H8) hp2 (o := .tup (zs ++ zs2))
          exact ⟨p2, _, _, _, rfl, (hC8.same s9).more (by omega), upd_same, dd.mono (sameTups s9), by rw [List.length_append]; omega, hall⟩
    clear hC hR hRd hrr hrl
    rintro σ6 H6 ⟨Mr, zs, rs, v5, rfl, hC, hM, hMd, hrl, hrr⟩
    -- the first of its rows
    refine ⟨fun σ' H' => ∃ (ft : Nat), σ' = [some (.ref a), some (.ref p), v2, some (.ref w), some (.ref e), v5, some (.ref R), some (.ref t0), some (.ref Mr), some (.int (ft : Int)), va, vb] ∧ L6 W H' p c e q w ns (10000 * i + 601) fp rows kn tk ∧ H' Mr = some (.tup zs) ∧ DtAll H' zs rs ∧ ft ≤ tk, ?_, ?_⟩
    · refine ⟨_, rfl, _, rfl, e, _, rfl, end_gt hC.hE.1, _, _, rfl, rfl, p, c, ns, _, _, rfl, hC.pen, by omega, by omega, by omega, fun r H7 r0 r1' hP7 b7 => ?_⟩
      have t7 := hC.pen.tups b7
      obtain ⟨ft, rfl⟩ : ∃ ft : Nat, r = (ft : Int) := ⟨r.toNat, by omega⟩
      exact ⟨ft, rfl, hC.draw b7 hP7, t7 _ _ hM, hMd.mono t7, by omega⟩
    clear hC hM hMd
    rintro σ7 H7 ⟨ft, rfl, hC, hM, hMd, hft⟩
    -- the letter
    refine ⟨fun σ' H' => ∃ (t : Addr) (hd : Nat), σ' = [some (.ref a), some (.ref p), v2, some (.ref w), some (.ref e), v5, some (.ref R), some (.ref t), some (.ref Mr), some (.int (ft : Int)), va, vb] ∧ L6 W H' p c e q w ns (10000 * i + 602) fp rows kn tk ∧ Dt H' (.ref t) (LetD ft (rs.drop ft) hd) ∧ hd ≤ rows.length, ?_, ?_⟩
    · obtain ⟨he, ⟨xs, hq, hqd⟩, g3, g4, g5⟩ := id hC.hE
      have lx := hqd.length
      have hsl : ∀ {Q2 : V → Hp → Prop}, (∀ (M' : Addr) (H' : Hp), H' M' = some (.tup (zs.drop ft)) → DtAll H' (zs.drop ft) (rs.drop ft) → Same H7 H' → Q2 (.ref M') H') → rSlA K (.ref Mr) (some (ft : Int)) none H7 Q2 := by
        intro Q2 kk
        refine ⟨Mr, zs, rfl, SqT.of hM, fun hwh => ?_, fun _ M' hM' => ?_⟩
        · have ew : zs.drop ft = zs := by
            have z := hwh.1
            rw [HT.sIx_nat] at z
            by_cases h0 : ft = 0
            · rw [h0]; rfl
            · have : zs.length = 0 := by omega
              rw [List.length_eq_zero_iff.mp this]
              exact List.drop_nil
          exact kk Mr H7 (by rw [ew]; exact hM) (hMd.drop ft) (Same.refl _)
        · rw [cutV_drop]
          have s8 := same_new (Same.refl H7) hM' (o := .tup (zs.drop ft))
          exact kk M' _ upd_same ((hMd.drop ft).mono (sameTups s8)) s8
      refine ⟨_, rfl, _, rfl, _, rfl, _, rfl, ?_⟩
      dsimp only [tNoPart]
      refine hsl fun M' H8 hM' hMd' s8 => ?_
      have hC8 := hC.same s8
      have he8 := s8 _ _ he
      have hq8 := s8 _ _ hq
      refine ⟨_, rfl, e, _, rfl, end_gk he8, ?_⟩
      refine ⟨_, rfl, _, rfl, e, _, rfl, end_gp he8, q, _, rfl, .inl (SqL.of hq8), _, rfl, e, _, rfl, end_gk he8, _, _, rfl, rfl, _, _, rfl, rfl, p, c, ns, _, _, rfl, hC8.pen, by omega, by omega, by omega, fun r H9 r0 r1' hP9 b9 => ⟨_, _, rfl, rfl, (by show 4 ≤ sizeLine; decide), fun t ht => ?_⟩⟩
      have t9 := hC8.pen.tups b9
      have hC9 := hC8.draw b9 hP9
      obtain ⟨r', rfl⟩ : ∃ r' : Nat, r = (r' : Int) := ⟨r.toNat, by omega⟩
      have s10 := same_new (Same.refl H9) ht (o := .tup [.str "rows", .int (ft : Int), .ref M', .int ((kn : Int) + (r' : Int))])
      have e10 := upd_same (H := H9) (a := t) (o := .tup [.str "rows", .int (ft : Int), .ref M', .int ((kn : Int) + (r' : Int))])
      have hC10 := hC9.same s10
      have hM10 := s10 _ _ (t9 _ _ hM')
      have hd10 := (hMd'.mono t9).mono (sameTups s10)
      refine ⟨t, kn + r', rfl, hC10, .tup e10 (.cons (.str _) (.cons (.int _) (.cons (.tup hM10 hd10) (.cons ?_ .nil)))), by omega⟩
      rw [← Int.natCast_add]
      exact .int _
    clear hC hM hMd
    rintro σ8 H8 ⟨t1, hd, rfl, hC, ht1, hhd⟩
    have hlet : Sx 1200 5 (LetD ft (rs.drop ft) hd) := by
      obtain ⟨a1, a2, a3⟩ := sx_all (ds := rs.drop ft) (n := 180) (k := 3) fun d m => row_sx (hrr d (List.mem_of_mem_drop m))
      have l6 : (rs.drop ft).length * (180 + 2) ≤ 6 * 182 := Nat.mul_le_mul_right _ (by rw [List.length_drop]; omega)
      have g4 := hC.hE.2.2.2.1
      have w1 : sz (.str "rows") = 6 := by decide +kernel
      have w2 : okd (.int (ft : Int)) = true := decide_eq_true (by omega)
      have w3 : okd (.int (hd : Int)) = true := decide_eq_true (by omega)
      refine ⟨?_, ?_, ?_⟩
      · simp only [LetD, okd, okAll, a1, Bool.and_true, Bool.true_and] at w2 w3 ⊢
        rw [w2, w3]
        rfl
      · simp only [LetD, sz, szAll] at w1 ⊢
        omega
      · simp only [LetD, PyData.depth, PyData.depthAll]
        omega
    refine ⟨fun σ' H' => ∃ (va vb : Option V), σ' = [some (.ref a), some (.ref p), v2, some (.ref w), some (.ref e), v5, some (.ref R), some (.ref t1), some (.ref Mr), some (.int (ft : Int)), va, vb] ∧ L6 W H' p c e q w ns (10000 * i + 800) fp rows kn tk ∧ Dt H' (.ref t1) (LetD ft (rs.drop ft) hd), ?_, ?_⟩
    · refine ⟨10, rfl, by decide, by decide, for_range (lo := 0) (n := 10) (fun j σ' H' => ∃ (va vb : Option V), σ' = [some (.ref a), some (.ref p), v2, some (.ref w), some (.ref e), v5, some (.ref R), some (.ref t1), some (.ref Mr), some (.int (ft : Int)), va, vb] ∧ L6 W H' p c e q w ns (10000 * i + 602 + 15 * j) fp rows kn tk ∧ Dt H' (.ref t1) (LetD ft (rs.drop ft) hd)) ?_ ?_ ?_⟩
      · exact ⟨_, _, rfl, hC, ht1⟩
      · clear hC ht1
        rintro j σ' H9 hj ⟨va, vb, rfl, hC, ht1⟩
        refine ⟨fun σ' H' => ∃ (v : V) (d : PyData) (va : Option V), σ' = [some (.ref a), some (.ref p), v2, some (.ref w), some (.ref e), v5, some (.ref R), some (.ref t1), some (.ref Mr), some (.int (ft : Int)), va, some v] ∧ Dx (· = p) H' v d ∧ Sx 1300 5 d ∧ L6 W H' p c e q w ns (10000 * i + 602 + 15 * j + 5) fp rows kn tk ∧ Dt H' (.ref t1) (LetD ft (rs.drop ft) hd), ?_, ?_⟩
        · obtain ⟨he, ⟨xs, hq, hqd⟩, g3, g4, g5⟩ := id hC.hE
          have lx := hqd.length
          have dxl : Dx (· = p) H9 (.ref t1) (LetD ft (rs.drop ft) hd) := ht1.dx fun b ys z y => by
            obtain ⟨_, _, _, _, _, hp, _, _⟩ := hC.pen
            rw [show b = p from z, hp] at y
            cases y
          refine ⟨_, rfl, _, rfl, _, rfl, p, c, e, q, t1, ns, _, 1200, kn, tk, xs, .str "rows", .int (ft : Int), .int (hd : Int), rs.drop ft, rfl, hC.pen, by omega, he, hq, hC.nep, by omega, by omega, dxl, hlet, by decide, fun v d H10 hv hd10 hP10 b10 => ?_⟩
          exact ⟨v, d, _, rfl, hv, hd10, hC.draw b10 hP10, ht1.mono (hC.pen.tups b10)⟩
        clear hC ht1
        rintro σ1 H10 ⟨v, d, va, rfl, hv, hsx, hC, ht1⟩
        refine ⟨fun σ' H' => ∃ (v : V) (d : PyData) (va : Option V), σ' = [some (.ref a), some (.ref p), v2, some (.ref w), some (.ref e), v5, some (.ref R), some (.ref t1), some (.ref Mr), some (.int (ft : Int)), va, some v] ∧ Dx (· = p) H' v d ∧ Sx 1400 5 d ∧ L6 W H' p c e q w ns (10000 * i + 602 + 15 * j + 11) fp rows kn tk ∧ Dt H' (.ref t1) (LetD ft (rs.drop ft) hd), ?_, ?_⟩
        · have stay : ∃ (v' : V) (d : PyData) (va' : Option V), [some (.ref a), some (.ref p), v2, some (.ref w), some (.ref e), v5, some (.ref R), some (.ref t1), some (.ref Mr), some (.int (ft : Int)), va, some v] = [some (.ref a), some (.ref p), v2, some (.ref w), some (.ref e), v5, some (.ref R), some (.ref t1), some (.ref Mr), some (.int (ft : Int)), va', some v'] ∧ Dx (· = p) H10 v' d ∧ Sx 1400 5 d ∧ L6 W H10 p c e q w ns (10000 * i + 602 + 15 * j + 11) fp rows kn tk ∧ Dt H10 (.ref t1) (LetD ft (rs.drop ft) hd) :=
            ⟨v, d, va, rfl, hv, hsx.mono (by decide) (by decide), hC.more (by omega), ht1⟩
          refine ⟨_, rfl, v, .ty "tuple", .type (tyD d), .type "tuple", isTupD d, rfl, .ty _, hv.type, kit_ty (ty_tup d), isTupD d, rfl, ?_⟩
          by_cases e0 : isTupD d = true
          rotate_left
          · rw [Bool.not_eq_true] at e0
            rw [e0]
            exact iteF stay
          rw [e0]
          refine iteT ?_
          obtain ⟨ds, rfl⟩ : ∃ ds, d = .tuple ds := by
            cases d <;> first | exact ⟨_, rfl⟩ | cases e0
          obtain ⟨t2, rfl⟩ := hv.ref_of
          obtain ⟨ys, ht2, hA⟩ := hv.tupI
          have hl4 := hA.length
          refine ⟨_, rfl, t2, _, rfl, .inr (SqT.of ht2), rfl, _, rfl, ?_⟩
          by_cases h4 : ds.length = 4
          rotate_left
          · refine iteNo (fun z => h4 ?_) stay
            rw [hl4] at z
            have z' := V.int.inj z
            omega
          refine iteYes (by rw [hl4, h4]; rfl) ?_
          obtain ⟨dw, df, dr, dh, rfl⟩ : ∃ a b c d, ds = [a, b, c, d] := by
            match ds, h4 with
            | [a, b, c, d], _ => exact ⟨a, b, c, d, rfl⟩
          cases hA with
          | @cons vw _ _ _ h0 hA =>
          cases hA with
          | @cons vf _ _ _ h1 hA =>
          cases hA with
          | @cons vr _ _ _ h2 hA =>
          cases hA with
          | @cons vh _ _ _ h3 hA =>
          cases hA
          have at2 : atI [vw, vf, vr, vh] 2 = some vr := atI_int (by decide) rfl
          refine ⟨_, rfl, t2, _, _, _, rfl, rfl, SqT.of ht2, at2, vr, .ty "tuple", .type (tyD dr), .type "tuple", isTupD dr, rfl, .ty _, h2.type, kit_ty (ty_tup dr), isTupD dr, rfl, ?_⟩
          by_cases e2 : isTupD dr = true
          rotate_left
          · rw [Bool.not_eq_true] at e2
            rw [e2]
            exact iteF stay
          rw [e2]
          obtain ⟨rss, rfl⟩ : ∃ rss, dr = .tuple rss := by
            cases dr <;> first | exact ⟨_, rfl⟩ | cases e2
          refine iteT ⟨_, rfl, p, c, ns, _, 3, rfl, hC.pen, by omega, by decide, by decide, fun r H11 r0 r1' hP11 b11 => ⟨rfl, _, rfl, ite2 (fun _ => ?_) (fun _ => ?_)⟩⟩
          · have hC11 := hC.draw b11 hP11
            have ht11 := ht1.mono (hC.pen.tups b11)
            obtain ⟨he, ⟨xs, hq, hqd⟩, g3, g4, g5⟩ := id hC11.hE
            have lx := hqd.length
            refine ⟨_, rfl, _, rfl, _, rfl, p, c, e, q, t2, ns, _, 1300, kn, tk, xs, dw, df, dh, rss, rfl, hC11.pen, by omega, he, hq, hC.nep, by omega, by omega, hv.mono b11, hsx, by decide, fun v d H12 hv hd12 hP12 b12 => ?_⟩
            exact ⟨v, d, _, rfl, hv, hd12, (hC11.draw b12 hP12).more (by omega), ht11.mono (hC11.pen.tups b12)⟩
          · exact ⟨_, _, _, rfl, hv.mono b11, hsx.mono (by decide) (by decide), (hC.draw b11 hP11).more (by omega), ht1.mono (hC.pen.tups b11)⟩
        clear hC ht1 hv hsx
        rintro σ2 H11 ⟨v, d, va, rfl, hv, hsx, hC, ht1⟩
        obtain ⟨he, ⟨xs, hq, hqd⟩, g3, g4, g5⟩ := id hC.hE
        have el := hqd.length
        have hcp := hsx.cp (j := 7) (by decide) (by decide) hv
        refine ⟨_, rfl, _, rfl, (· = p), e, q, v, d, xs, kn, tk, rfl, he, hq, hv, (few_parts (n := 5) hcp.few).2, fun H12 s12 => ⟨_, rfl, ?_⟩⟩
        rw [el]
        have hC12 := hC.same s12
        have ht12 := ht1.mono (sameTups s12)
        by_cases ec : canTake tk rows.length d = true
        · rw [ec]
          exact iteF ⟨_, _, rfl, hC12.more (by omega), ht12⟩
        · rw [Bool.not_eq_true] at ec
          rw [ec]
          refine iteT ?_
          have alive : ∀ b, b = p → H12 b ≠ none := fun b z y => by
            obtain ⟨_, _, _, _, _, hp, _, _⟩ := hC12.pen
            rw [z, hp] at y
            cases y
          refine ⟨_, rfl, _, rfl, (· = p), w, v, d, fp, _, rows.length, tk, rfl, hC12.hW, ⟨hv.mono (sameBut s12 _), hcp.deep, hcp.few⟩, ec, alive, hsx.showX (by decide) (by decide), fun H13 s13 => ⟨true, rfl, iteF ?_⟩⟩
          have hC13 := hC12.same s13
          refine ⟨_, rfl, _, rfl, w, e, q, fp, rows, kn, tk, rfl, hC13.hW, hC13.hE, by omega, fun H14 s14 => ⟨true, rfl, iteF ?_⟩⟩
          exact ⟨_, _, rfl, (hC13.same s14).more (by omega), (ht12.mono (sameTups s13)).mono (sameTups s14)⟩
      · rintro σ' H9 ⟨va, vb, rfl, hC, ht1⟩
        exact ⟨_, _, rfl, hC.more (by omega), ht1⟩
    clear hC ht1
    rintro σ9 H9 ⟨va, vb, rfl, hC, ht1⟩
    obtain ⟨dx, fs, hins, hno⟩ := W.ins hC.hW
    have g4 := hC.hE.2.2.2.1
    have hrr' : ∀ d ∈ rs.drop ft, RowD d := fun d m => hrr d (List.mem_of_mem_drop m)
    have l6 : (rs.drop ft).length ≤ 6 := by rw [List.length_drop]; omega
    refine ⟨_, rfl, w, dx, fs, rfl, hins, hno _ (by simp), _, rfl, w, t1, fp, _, rs.drop ft, rows.length, tk, ft, hd, rfl, hC.hW, ht1, hft, hhd, hrr', by omega, g4, by omega, fun l us fp' H10 hl0 nl hL hLd hW10 hf10 b10 => ?_⟩
    have t10 := WK.tups hC.hW b10
    obtain ⟨hP10, hE10, off10⟩ := hC.wire b10 hf10 t10
    have okD := ((rows_sh (ds := (rs.drop ft).drop (tk - ft)) (fun d m => hrr' d (List.mem_of_mem_drop m)) (by rw [List.length_drop]; omega)).mono (by decide : 300000 ≤ 1300000) (Nat.le_refl 4)).okL (by decide)
    refine ⟨_, _, rfl, .lst (SqL.of hL) hLd.dp, okD, ?_⟩
    refine ⟨_, rfl, _, rfl, e, t1, q, rs.drop ft, kn, tk, ft, hd, rfl, hE10.1, ht1.mono t10, by omega, by omega, hft, fun l2 us2 H11 hl2 hL2 hLd2 he11 b11 => ?_⟩
    refine ⟨_, _, rfl, .lst (SqL.of hL2) hLd2.dp, okD, rfl, _, rfl, iteNS rfl ?_⟩
    have hC11 := hC.taken hhd hW10 hf10 b10 he11 b11
    refine ⟨_, rfl, _, rfl, w, e, q, fp', rows, _, _, rfl, hC11.hW, hC11.hE, by rw [List.length_drop]; omega, fun H12 s12 => ⟨true, rfl, iteF ?_⟩⟩
    exact ⟨⟨_, _, _, _, _, _, _, _, _, _, rfl⟩, (hC11.same s12).pen.mono (by omega)⟩
end
end K3
namespace K3
open PySem L2 GG
theorem exm_own {K : PySem.W.Frag} {S : Addr} (h1 : PySem.W.subIn K (.ref S) (.type "BaseException") = some true) (h2 : PySem.W.isClsIn K S = true) (h3 : PySem.W.typeIn K (.ref S) = some (.type "type")) (h4 : PySem.W.subIn K (.ref S) (.ref S) = some true) :
    PySem.W.exmOne K (.ref S) (.ref S) = some true := by
  have a1 : (PySem.W.subIn K (.ref S) (.type "BaseException") == some true) = true := by rw [h1] <;> rfl
  have a2 : ((PySem.W.clsIn K S).isSome && PySem.W.typeIn K (.ref S) == some (.type "type")) = true := by
    have h2' : (PySem.W.clsIn K S).isSome = true := h2
    rw [h2', h3] <;> rfl
  unfold PySem.W.exmOne
  rw [if_pos a1]
  show (if ((PySem.W.clsIn K S).isSome && PySem.W.typeIn K (.ref S) == some (.type "type")) = true then PySem.W.subIn K (.ref S) (.ref S) else none) = some true
  rw [if_pos a2]
  exact h4
theorem all_mk {l : PySem.W.OpenLaw} {w : World} {K : PySem.W.Frag} {h : Heap} {mg : Str → Option Value} {fa C f1 f2 f3 f4 f5 f6 f7 f8 f9 f10 f11 f12 f13 f14 f15 f16 f17 f18 f19 f20 f21 f22 f23 f24 f25 f26 : Addr} (X : K.In h) (G : h.Ns mainGlobals mg) (hfa : mg "law" = some (.ref fa)) {tW : Tok} {D A1 A2 A3 fI NN : Addr} {nm qn : Str} {bs sub : List Value} {sn : List Str} {ab : Bool} {col : Option Bool} {dd : Option Addr} {mm0 mm1 mm2 mm3 mm5 : Option Value} {odI anI : Option Addr} {slI : Array (Option Value)} {ocI kVI dcI pmI cdI ctI : Value} {od1 an1 od2 an2 od3 an3 od4 an4 od5 an5 od6 an6 od7 an7 od8 an8 od9 an9 od10 an10 od11 an11 od12 an12 od13 an13 od14 an14 od15 an15 od16 an16 od17 an17 od18 an18 od19 an19 od20 an20 od21 an21 od22 an22 od23 an23 od24 an24 od25 an25 od26 an26 : Option Addr} {sl1 sl2 sl3 sl4 sl5 sl6 sl7 sl8 sl9 sl10 sl11 sl12 sl13 sl14 sl15 sl16 sl17 sl18 sl19 sl20 sl21 sl22 sl23 sl24 sl25 sl26 : Array (Option Value)}
    {oc1 kV1 dc1 pm1 cd1 ct1 oc2 kV2 dc2 pm2 cd2 ct2 oc3 kV3 dc3 pm3 cd3 ct3 oc4 kV4 dc4 pm4 cd4 ct4 oc5 kV5 dc5 pm5 cd5 ct5 oc6 kV6 dc6 pm6 cd6 ct6 oc7 kV7 dc7 pm7 cd7 ct7 oc8 kV8 dc8 pm8 cd8 ct8 oc9 kV9 dc9 pm9 cd9 ct9 oc10 kV10 dc10 pm10 cd10 ct10 oc11 kV11 dc11 pm11 cd11 ct11 oc12 kV12 dc12 pm12 cd12 ct12 oc13 kV13 dc13 pm13 cd13 ct13 oc14 kV14 dc14 pm14 cd14 ct14 oc15 kV15 dc15 pm15 cd15 ct15 oc16 kV16 dc16 pm16 cd16 ct16 oc17 kV17 dc17 pm17 cd17 ct17 oc18 kV18 dc18 pm18 cd18 ct18 oc19 kV19 dc19 pm19 cd19 ct19 oc20 kV20 dc20 pm20 cd20 ct20 oc21 kV21 dc21 pm21 cd21 ct21 oc22 kV22 dc22 pm22 cd22 ct22 oc23 kV23 dc23 pm23 cd23 ct23 oc24 kV24 dc24 pm24 cd24 ct24 oc25 kV25 dc25 pm25 cd25 ct25 oc26 kV26 dc26 pm26 cd26 ct26 : Value}
    (a1 : PySem.W.nsIn K mainGlobals "_law_pen" = some (some (.ref f1))) (l1 : K.lookup f1 = some ⟨oc1, od1, .func (PySem.W.fnOf "_law_pen" "_law_pen" (defArgs sPen) (defBody sPen) (defScope sPen) .none kV1 dc1 pm1 an1 cd1 ct1), sl1⟩) (c1 : PySem.W.codeIn K cd1 "_law_pen" = true) (k1 : PySem.W.keepIn K (.ref f1) = true)
    (a2 : PySem.W.nsIn K mainGlobals "_law_draw" = some (some (.ref f2))) (l2 : K.lookup f2 = some ⟨oc2, od2, .func (PySem.W.fnOf "_law_draw" "_law_draw" (defArgs sDraw) (defBody sDraw) (defScope sDraw) .none kV2 dc2 pm2 an2 cd2 ct2), sl2⟩) (c2 : PySem.W.codeIn K cd2 "_law_draw" = true) (k2 : PySem.W.keepIn K (.ref f2) = true)
    (a3 : PySem.W.nsIn K mainGlobals "_law_pick" = some (some (.ref f3))) (l3 : K.lookup f3 = some ⟨oc3, od3, .func (PySem.W.fnOf "_law_pick" "_law_pick" (defArgs sPick) (defBody sPick) (defScope sPick) .none kV3 dc3 pm3 an3 cd3 ct3), sl3⟩) (c3 : PySem.W.codeIn K cd3 "_law_pick" = true) (k3 : PySem.W.keepIn K (.ref f3) = true)
    (a4 : PySem.W.nsIn K mainGlobals "_law_plain" = some (some (.ref f4))) (l4 : K.lookup f4 = some ⟨oc4, od4, .func (PySem.W.fnOf "_law_plain" "_law_plain" (defArgs sPlain) (defBody sPlain) (defScope sPlain) .none kV4 dc4 pm4 an4 cd4 ct4), sl4⟩) (c4 : PySem.W.codeIn K cd4 "_law_plain" = true) (k4 : PySem.W.keepIn K (.ref f4) = true)
    (a5 : PySem.W.nsIn K mainGlobals "_law_row_of" = some (some (.ref f5))) (l5 : K.lookup f5 = some ⟨oc5, od5, .func (PySem.W.fnOf "_law_row_of" "_law_row_of" (defArgs sRow) (defBody sRow) (defScope sRow) .none kV5 dc5 pm5 an5 cd5 ct5), sl5⟩) (c5 : PySem.W.codeIn K cd5 "_law_row_of" = true) (k5 : PySem.W.keepIn K (.ref f5) = true)
    (a6 : PySem.W.nsIn K mainGlobals "_law_end" = some (some (.ref f6))) (l6 : K.lookup f6 = some ⟨oc6, od6, .func (PySem.W.fnOf "_law_end" "_law_end" (defArgs sEnd) (defBody sEnd) (defScope sEnd) .none kV6 dc6 pm6 an6 cd6 ct6), sl6⟩) (c6 : PySem.W.codeIn K cd6 "_law_end" = true) (k6 : PySem.W.keepIn K (.ref f6) = true)
    (a7 : PySem.W.nsIn K mainGlobals "_law_letter_of" = some (some (.ref f7))) (l7 : K.lookup f7 = some ⟨oc7, od7, .func (PySem.W.fnOf "_law_letter_of" "_law_letter_of" (defArgs sLetOf) (defBody sLetOf) (defScope sLetOf) .none kV7 dc7 pm7 an7 cd7 ct7), sl7⟩) (c7 : PySem.W.codeIn K cd7 "_law_letter_of" = true) (k7 : PySem.W.keepIn K (.ref f7) = true)
    (a8 : PySem.W.nsIn K mainGlobals "_law_fresh_by" = some (some (.ref f8))) (l8 : K.lookup f8 = some ⟨oc8, od8, .func (PySem.W.fnOf "_law_fresh_by" "_law_fresh_by" (defArgs sFresh) (defBody sFresh) (defScope sFresh) .none kV8 dc8 pm8 an8 cd8 ct8), sl8⟩) (c8 : PySem.W.codeIn K cd8 "_law_fresh_by" = true) (k8 : PySem.W.keepIn K (.ref f8) = true)
    (a9 : PySem.W.nsIn K mainGlobals "_law_end_right" = some (some (.ref f9))) (l9 : K.lookup f9 = some ⟨oc9, od9, .func (PySem.W.fnOf "_law_end_right" "_law_end_right" (defArgs sRight) (defBody sRight) (defScope sRight) .none kV9 dc9 pm9 an9 cd9 ct9), sl9⟩) (c9 : PySem.W.codeIn K cd9 "_law_end_right" = true) (k9 : PySem.W.keepIn K (.ref f9) = true)
    (a10 : PySem.W.nsIn K mainGlobals "_law_odd" = some (some (.ref f10))) (l10 : K.lookup f10 = some ⟨oc10, od10, .func (PySem.W.fnOf "_law_odd" "_law_odd" (defArgs sOdd) (defBody sOdd) (defScope sOdd) .none kV10 dc10 pm10 an10 cd10 ct10), sl10⟩) (c10 : PySem.W.codeIn K cd10 "_law_odd" = true) (k10 : PySem.W.keepIn K (.ref f10) = true)
    (a11 : PySem.W.nsIn K mainGlobals "_law_is_count" = some (some (.ref f11))) (l11 : K.lookup f11 = some ⟨oc11, od11, .func (PySem.W.fnOf "_law_is_count" "_law_is_count" (defArgs sCount) (defBody sCount) (defScope sCount) .none kV11 dc11 pm11 an11 cd11 ct11), sl11⟩) (c11 : PySem.W.codeIn K cd11 "_law_is_count" = true) (k11 : PySem.W.keepIn K (.ref f11) = true)
    (a12 : PySem.W.nsIn K mainGlobals "_law_is_letter" = some (some (.ref f12))) (l12 : K.lookup f12 = some ⟨oc12, od12, .func (PySem.W.fnOf "_law_is_letter" "_law_is_letter" (defArgs sIsLet) (defBody sIsLet) (defScope sIsLet) .none kV12 dc12 pm12 an12 cd12 ct12), sl12⟩) (c12 : PySem.W.codeIn K cd12 "_law_is_letter" = true) (k12 : PySem.W.keepIn K (.ref f12) = true)
    (a13 : PySem.W.nsIn K mainGlobals "_law_bent" = some (some (.ref f13))) (l13 : K.lookup f13 = some ⟨oc13, od13, .func (PySem.W.fnOf "_law_bent" "_law_bent" (defArgs sBent) (defBody sBent) (defScope sBent) .none kV13 dc13 pm13 an13 cd13 ct13), sl13⟩) (c13 : PySem.W.codeIn K cd13 "_law_bent" = true) (k13 : PySem.W.keepIn K (.ref f13) = true)
    (a14 : PySem.W.nsIn K mainGlobals "_law_refused" = some (some (.ref f14))) (l14 : K.lookup f14 = some ⟨oc14, od14, .func (PySem.W.fnOf "_law_refused" "_law_refused" (defArgs sRefused) (defBody sRefused) (defScope sRefused) .none kV14 dc14 pm14 an14 cd14 ct14), sl14⟩) (c14 : PySem.W.codeIn K cd14 "_law_refused" = true) (k14 : PySem.W.keepIn K (.ref f14) = true)
    (a15 : PySem.W.nsIn K mainGlobals "law" = some (some (.ref f15))) (l15 : K.lookup f15 = some ⟨oc15, od15, .func (PySem.W.fnOf "law" "law" (defArgs sLaw) (defBody sLaw) (defScope sLaw) .none kV15 dc15 pm15 an15 cd15 ct15), sl15⟩) (c15 : PySem.W.codeIn K cd15 "law" = true) (k15 : PySem.W.keepIn K (.ref f15) = true)
    (a16 : PySem.W.nsIn K mainGlobals "copied" = some (some (.ref f16))) (l16 : K.lookup f16 = some ⟨oc16, od16, .func (PySem.W.fnOf "copied" "copied" (defArgs sCopied) (defBody sCopied) (defScope sCopied) .none kV16 dc16 pm16 an16 cd16 ct16), sl16⟩) (c16 : PySem.W.codeIn K cd16 "copied" = true) (k16 : PySem.W.keepIn K (.ref f16) = true)
    (a17 : PySem.W.nsIn K mainGlobals "is_number" = some (some (.ref f17))) (l17 : K.lookup f17 = some ⟨oc17, od17, .func (PySem.W.fnOf "is_number" "is_number" (defArgs sNumber) (defBody sNumber) (defScope sNumber) .none kV17 dc17 pm17 an17 cd17 ct17), sl17⟩) (c17 : PySem.W.codeIn K cd17 "is_number" = true) (k17 : PySem.W.keepIn K (.ref f17) = true)
    (a18 : PySem.W.nsIn K mainGlobals "is_fixed" = some (some (.ref f18))) (l18 : K.lookup f18 = some ⟨oc18, od18, .func (PySem.W.fnOf "is_fixed" "is_fixed" (defArgs sFixed) (defBody sFixed) (defScope sFixed) .none kV18 dc18 pm18 an18 cd18 ct18), sl18⟩) (c18 : PySem.W.codeIn K cd18 "is_fixed" = true) (k18 : PySem.W.keepIn K (.ref f18) = true)
    (aC : PySem.W.nsIn K mainGlobals "Wire" = some (some (.ref C)))
    (a19 : PySem.W.findIn K (.ref C) "__init__" = some (some (.ref f19))) (i19 : PySem.W.isFn K (.ref f19) = true) (l19 : K.lookup f19 = some ⟨oc19, od19, .func (PySem.W.fnOf "__init__" "Wire.__init__" (defArgs sWInit) (defBody sWInit) (defScope sWInit) .none kV19 dc19 pm19 an19 cd19 ct19), sl19⟩) (c19 : PySem.W.codeIn K cd19 "Wire.__init__" = true) (k19 : PySem.W.keepIn K (.ref f19) = true)
    (a20 : PySem.W.findIn K (.ref C) "__len__" = some (some (.ref f20))) (i20 : PySem.W.isFn K (.ref f20) = true) (l20 : K.lookup f20 = some ⟨oc20, od20, .func (PySem.W.fnOf "__len__" "Wire.__len__" (defArgs sWLen) (defBody sWLen) (defScope sWLen) .none kV20 dc20 pm20 an20 cd20 ct20), sl20⟩) (c20 : PySem.W.codeIn K cd20 "Wire.__len__" = true) (k20 : PySem.W.keepIn K (.ref f20) = true)
    (a21 : PySem.W.findIn K (.ref C) "put" = some (some (.ref f21))) (i21 : PySem.W.isFn K (.ref f21) = true) (l21 : K.lookup f21 = some ⟨oc21, od21, .func (PySem.W.fnOf "put" "Wire.put" (defArgs sWPut) (defBody sWPut) (defScope sWPut) .none kV21 dc21 pm21 an21 cd21 ct21), sl21⟩) (c21 : PySem.W.codeIn K cd21 "Wire.put" = true) (k21 : PySem.W.keepIn K (.ref f21) = true)
    (a22 : PySem.W.findIn K (.ref C) "letter" = some (some (.ref f22))) (i22 : PySem.W.isFn K (.ref f22) = true) (l22 : K.lookup f22 = some ⟨oc22, od22, .func (PySem.W.fnOf "letter" "Wire.letter" (defArgs sWLetter) (defBody sWLetter) (defScope sWLetter) .none kV22 dc22 pm22 an22 cd22 ct22), sl22⟩) (c22 : PySem.W.codeIn K cd22 "Wire.letter" = true) (k22 : PySem.W.keepIn K (.ref f22) = true)
    (a23 : PySem.W.findIn K (.ref C) "take" = some (some (.ref f23))) (i23 : PySem.W.isFn K (.ref f23) = true) (l23 : K.lookup f23 = some ⟨oc23, od23, .func (PySem.W.fnOf "take" "Wire.take" (defArgs sWTake) (defBody sWTake) (defScope sWTake) .none kV23 dc23 pm23 an23 cd23 ct23), sl23⟩) (c23 : PySem.W.codeIn K cd23 "Wire.take" = true) (k23 : PySem.W.keepIn K (.ref f23) = true)
    (a24 : PySem.W.findIn K (.ref C) "heard" = some (some (.ref f24))) (i24 : PySem.W.isFn K (.ref f24) = true) (l24 : K.lookup f24 = some ⟨oc24, od24, .func (PySem.W.fnOf "heard" "Wire.heard" (defArgs sWHeard) (defBody sWHeard) (defScope sWHeard) .none kV24 dc24 pm24 an24 cd24 ct24), sl24⟩) (c24 : PySem.W.codeIn K cd24 "Wire.heard" = true) (k24 : PySem.W.keepIn K (.ref f24) = true)
    (a25 : PySem.W.findIn K (.ref C) "unheard" = some (some (.ref f25))) (i25 : PySem.W.isFn K (.ref f25) = true) (l25 : K.lookup f25 = some ⟨oc25, od25, .func (PySem.W.fnOf "unheard" "Wire.unheard" (defArgs sWUnheard) (defBody sWUnheard) (defScope sWUnheard) .none kV25 dc25 pm25 an25 cd25 ct25), sl25⟩) (c25 : PySem.W.codeIn K cd25 "Wire.unheard" = true) (k25 : PySem.W.keepIn K (.ref f25) = true)
    (a26 : PySem.W.findIn K (.ref C) "_can_take" = some (some (.ref f26))) (i26 : PySem.W.isFn K (.ref f26) = true) (l26 : K.lookup f26 = some ⟨oc26, od26, .func (PySem.W.fnOf "_can_take" "Wire._can_take" (defArgs sWCan) (defBody sWCan) (defScope sWCan) .none kV26 dc26 pm26 an26 cd26 ct26), sl26⟩) (c26 : PySem.W.codeIn K cd26 "Wire._can_take" = true) (k26 : PySem.W.keepIn K (.ref f26) = true)
    (pg : PySem.W.plainGet K C Str.empty = true) (hd : PySem.W.hasDictIn K C = true) (po : PySem.W.plainOver K C = true) (sa : PySem.W.findIn K (.ref C) "__setattr__" = some (some (.builtin "object.__setattr__"))) (mk : PySem.W.makesIn K C = true) (kc : PySem.W.keepIn K (.ref C) = true)
    (nR : PySem.W.findIn K (.ref C) "_rows" = some none) (nK : PySem.W.findIn K (.ref C) "_many" = some none) (nT : PySem.W.findIn K (.ref C) "_taken" = some none)
    (aW : PySem.W.nsIn K mainGlobals "WORD" = some (some (.str "rows" tW)))
    (aD : PySem.W.nsIn K mainGlobals "NoLetter" = some (some (.ref D)))
    (aA1 : PySem.W.nsIn K mainGlobals "BadArgs" = some (some (.ref A1)))
    (aA2 : PySem.W.nsIn K mainGlobals "BadPlan" = some (some (.ref A2)))
    (aA3 : PySem.W.nsIn K mainGlobals "BadText" = some (some (.ref A3)))
    (zVE : PySem.W.nsIn K mainGlobals "ValueError" = some none)
    (xL : K.lookup D = some (excClassObj nm qn D NN bs [.type "ValueError", .type "Exception", .type "BaseException", .type "object"] true sn sub ab col dd mm0 mm1 mm2 mm3 mm5 "ValueError.__new__"))
    (dsa : PySem.W.findIn K (.ref D) "__setattr__" = some (some (.builtin "object.__setattr__")))
    (dga : PySem.W.findIn K (.ref D) "__getattribute__" = some (some (.builtin "BaseException.__getattribute__")))
    (dgg : PySem.W.findIn K (.ref D) "__getattr__" = some none)
    (dna : PySem.W.findIn K (.ref D) "asked" = some none)
    (diC : PySem.W.findIn K (.ref D) "__init__" = some (some (.ref fI)))
    (dtI : PySem.W.typeIn K (.ref fI) = some (.type "function"))
    (lI : K.lookup fI = some ⟨ocI, odI, .func (PySem.W.fnOf "__init__" "NoLetter.__init__" (defArgs sNLInit) (defBody sNLInit) (defScope sNLInit) .none kVI dcI pmI anI cdI ctI), slI⟩)
    (cI : PySem.W.codeIn K cdI "NoLetter.__init__" = true)
    (kI : PySem.W.keepIn K (.ref fI) = true)
    (dkC : PySem.W.keepIn K (.ref D) = true)
    (deC : PySem.W.subIn K (.ref D) (.type "BaseException") = some true)
    (dtC : PySem.W.typeIn K (.ref D) = some (.type "type"))
    (dhC : PySem.W.hasDictIn K D = true)
    (dic : PySem.W.isClsIn K D = true)
    (dsd : PySem.W.subIn K (.ref D) (.ref D) = some true)
    (dca : PySem.W.findIn K (.ref D) "__class__" = some (some (.builtin "object.__class__")))
    (dcg : PySem.W.specialIn K (.builtin "object.__class__") "__get__" = some (some (.builtin "getset_descriptor.__get__")))
    (dct : PySem.W.takesIn K (.builtin "object.__class__") = some true)
    (dmr : PySem.W.mroIn K D (.type "object") = some true)
    (kitA : PySem.W.kitAny K (.ref D) [.ref A1, .ref A2, .ref A3] = some false)
    (kitV : PySem.W.kitOne K (.ref D) (.type "ValueError") = some true)
    (z_len : PySem.W.nsIn K mainGlobals "len" = some none) (z_abs : PySem.W.nsIn K mainGlobals "abs" = some none) (z_list : PySem.W.nsIn K mainGlobals "list" = some none) (z_tuple : PySem.W.nsIn K mainGlobals "tuple" = some none) (z_dict : PySem.W.nsIn K mainGlobals "dict" = some none) (z_range : PySem.W.nsIn K mainGlobals "range" = some none) (z_int : PySem.W.nsIn K mainGlobals "int" = some none) (z_max : PySem.W.nsIn K mainGlobals "max" = some none) (z_sorted : PySem.W.nsIn K mainGlobals "sorted" = some none) (z_repr : PySem.W.nsIn K mainGlobals "repr" = some none) (z_isinstance : PySem.W.nsIn K mainGlobals "isinstance" = some none) (z_bool : PySem.W.nsIn K mainGlobals "bool" = some none) (z_all : PySem.W.nsIn K mainGlobals "all" = some none) :
    ∃ fd : FuncData, (∀ (s : Shared) (v : Value), BindsTo s fd ⟨[v], []⟩ [("_law_script", v)]) ∧ ∀ base : Heap, K.In base → base.Ns mainGlobals mg → FnG l.prog w K mg base CX0 12 fa fd ["_law_script"] (spLaw K) := by
  have e := hfa.symm.trans (PySem.W.mg_of X G a15)
  cases e
  have T : Txt mg := ⟨PySem.W.mg_none_of X G z_len, PySem.W.mg_none_of X G z_abs, PySem.W.mg_none_of X G z_list, PySem.W.mg_none_of X G z_tuple, PySem.W.mg_none_of X G z_dict, PySem.W.mg_none_of X G z_range, PySem.W.mg_none_of X G z_int, PySem.W.mg_none_of X G z_max, PySem.W.mg_none_of X G z_sorted, PySem.W.mg_none_of X G z_repr, PySem.W.mg_none_of X G z_isinstance⟩
  have TW : WTxt K mg C := ⟨⟨pg, hd, po, sa⟩, nR, nK, nT⟩
  have F1 := fun_mk (st := sPen) l1 c1 k1
  have b1 := F1.binds (ps := ["_law_script"]) fun _ _ _ _ _ _ us hl => match us, hl with | [_], _ => rfl
  have F2 := fun_mk (st := sDraw) l2 c2 k2
  have b2 := F2.binds (ps := ["_law_pen_here", "_law_many"]) fun _ _ _ _ _ _ us hl => match us, hl with | [_, _], _ => rfl
  have F3 := fun_mk (st := sPick) l3 c3 k3
  have b3 := F3.binds (ps := ["_law_pen_here", "_law_some"]) fun _ _ _ _ _ _ us hl => match us, hl with | [_, _], _ => rfl
  have F4 := fun_mk (st := sPlain) l4 c4 k4
  have b4 := F4.binds (ps := ["_law_pen_here"]) fun _ _ _ _ _ _ us hl => match us, hl with | [_], _ => rfl
  have F5 := fun_mk (st := sRow) l5 c5 k5
  have b5 := F5.binds (ps := ["_law_pen_here"]) fun _ _ _ _ _ _ us hl => match us, hl with | [_], _ => rfl
  have F6 := fun_mk (st := sEnd) l6 c6 k6
  have b6 := F6.binds (ps := []) fun _ _ _ _ _ _ us hl => match us, hl with | [], _ => rfl
  have F7 := fun_mk (st := sLetOf) l7 c7 k7
  have b7 := F7.binds (ps := ["_law_end_here"]) fun _ _ _ _ _ _ us hl => match us, hl with | [_], _ => rfl
  have F8 := fun_mk (st := sFresh) l8 c8 k8
  have b8 := F8.binds (ps := ["_law_end_here", "_law_letter"]) fun _ _ _ _ _ _ us hl => match us, hl with | [_, _], _ => rfl
  have F9 := fun_mk (st := sRight) l9 c9 k9
  have b9 := F9.binds (ps := ["_law_wire", "_law_end_here"]) fun _ _ _ _ _ _ us hl => match us, hl with | [_, _], _ => rfl
  have F10 := fun_mk (st := sOdd) l10 c10 k10
  have b10 := F10.binds (ps := ["_law_pen_here"]) fun _ _ _ _ _ _ us hl => match us, hl with | [_], _ => rfl
  have F11 := fun_mk (st := sCount) l11 c11 k11
  have b11 := F11.binds (ps := ["_law_thing"]) fun _ _ _ _ _ _ us hl => match us, hl with | [_], _ => rfl
  have F12 := fun_mk (st := sIsLet) l12 c12 k12
  have b12 := F12.binds (ps := ["_law_end_here", "_law_thing"]) fun _ _ _ _ _ _ us hl => match us, hl with | [_, _], _ => rfl
  have F13 := fun_mk (st := sBent) l13 c13 k13
  have b13 := F13.binds (ps := ["_law_pen_here", "_law_end_here", "_law_letter"]) fun _ _ _ _ _ _ us hl => match us, hl with | [_, _, _], _ => rfl
  have F14 := fun_mk (st := sRefused) l14 c14 k14
  have b14 := F14.binds (ps := ["_law_wire", "_law_thing"]) fun _ _ _ _ _ _ us hl => match us, hl with | [_, _], _ => rfl
  have F15 := fun_mk (st := sLaw) l15 c15 k15
  have F16 := fun_mk (st := sCopied) l16 c16 k16
  have b16 := F16.binds (ps := ["thing"]) fun _ _ _ _ _ _ us hl => match us, hl with | [_], _ => rfl
  have F17 := fun_mk (st := sNumber) l17 c17 k17
  have b17 := F17.binds (ps := ["thing"]) fun _ _ _ _ _ _ us hl => match us, hl with | [_], _ => rfl
  have F18 := fun_mk (st := sFixed) l18 c18 k18
  have b18 := F18.binds (ps := ["thing"]) fun _ _ _ _ _ _ us hl => match us, hl with | [_], _ => rfl
  have F19 := fun_mk (st := sWInit) l19 c19 k19
  have b19 := F19.binds (ps := ["self"]) fun _ _ _ _ _ _ us hl => match us, hl with | [_], _ => rfl
  have F20 := fun_mk (st := sWLen) l20 c20 k20
  have b20 := F20.binds (ps := ["self"]) fun _ _ _ _ _ _ us hl => match us, hl with | [_], _ => rfl
  have F21 := fun_mk (st := sWPut) l21 c21 k21
  have b21 := F21.binds (ps := ["self", "row"]) fun _ _ _ _ _ _ us hl => match us, hl with | [_, _], _ => rfl
  have F22 := fun_mk (st := sWLetter) l22 c22 k22
  have b22 := F22.binds (ps := ["self"]) fun _ _ _ _ _ _ us hl => match us, hl with | [_], _ => rfl
  have F23 := fun_mk (st := sWTake) l23 c23 k23
  have b23 := F23.binds (ps := ["self", "letter"]) fun _ _ _ _ _ _ us hl => match us, hl with | [_, _], _ => rfl
  have F24 := fun_mk (st := sWHeard) l24 c24 k24
  have b24 := F24.binds (ps := ["self"]) fun _ _ _ _ _ _ us hl => match us, hl with | [_], _ => rfl
  have F25 := fun_mk (st := sWUnheard) l25 c25 k25
  have b25 := F25.binds (ps := ["self"]) fun _ _ _ _ _ _ us hl => match us, hl with | [_], _ => rfl
  have F26 := fun_mk (st := sWCan) l26 c26 k26
  have b26 := F26.binds (ps := ["self", "letter"]) fun _ _ _ _ _ _ us hl => match us, hl with | [_, _], _ => rfl
  refine ⟨PySem.W.fnOf "law" "law" (defArgs sLaw) (defBody sLaw) (defScope sLaw) .none kV15 dc15 pm15 an15 cd15 ct15, fun s v => .of_eq rfl, fun base hb hn => ?_⟩
  have C1 : Cal l.prog w K mg base "_law_pen" 1 ["_law_script"] (spPen K) := ⟨_, _, PySem.W.mg_of X G a1, k1, b1, ok_pen F1 T⟩
  have C2 : Cal l.prog w K mg base "_law_draw" 1 ["_law_pen_here", "_law_many"] spDraw := ⟨_, _, PySem.W.mg_of X G a2, k2, b2, ok_draw F2 T⟩
  have C3 : Cal l.prog w K mg base "_law_pick" 2 ["_law_pen_here", "_law_some"] spPick := ⟨_, _, PySem.W.mg_of X G a3, k3, b3, ok_pick F3 T C2⟩
  have C4 : Cal l.prog w K mg base "_law_plain" 3 ["_law_pen_here"] spPlain := ⟨_, _, PySem.W.mg_of X G a4, k4, b4, ok_plain F4 T C2 C3⟩
  have C5 : Cal l.prog w K mg base "_law_row_of" 4 ["_law_pen_here"] spRow := ⟨_, _, PySem.W.mg_of X G a5, k5, b5, ok_row F5 T C2 C4⟩
  have C6 : Cal l.prog w K mg base "_law_end" 1 [] spEnd := ⟨_, _, PySem.W.mg_of X G a6, k6, b6, ok_end F6⟩
  have C7 : Cal l.prog w K mg base "_law_letter_of" 1 ["_law_end_here"] spLetOf := ⟨_, _, PySem.W.mg_of X G a7, k7, b7, ok_letOf F7 T⟩
  have C8' : Cal l.prog w K mg base "_law_fresh_by" 1 ["_law_end_here", "_law_letter"] spFresh := ⟨_, _, PySem.W.mg_of X G a8, k8, b8, ok_fresh F8 T⟩
  have CO : Cal l.prog w K mg base "_law_odd" 3 ["_law_pen_here"] spOdd := ⟨_, _, PySem.W.mg_of X G a10, k10, b10, ok_odd F10 T C3⟩
  have CC : Cal l.prog w K mg base "_law_is_count" 1 ["_law_thing"] spNumberX := ⟨_, _, PySem.W.mg_of X G a11, k11, b11, ok_count F11 T (PySem.W.mg_none_of X G z_bool)⟩
  have CL : Cal l.prog w K mg base "_law_is_letter" 2 ["_law_end_here", "_law_thing"] spIsLet := ⟨_, _, PySem.W.mg_of X G a12, k12, b12, ok_isLet F12 T CC⟩
  have CB : Cal l.prog w K mg base "_law_bent" 4 ["_law_pen_here", "_law_end_here", "_law_letter"] spBent := ⟨_, _, PySem.W.mg_of X G a13, k13, b13, ok_bent F13 T C2 C3 CO⟩
  have mW : ∃ t, mg "WORD" = some (.str "rows" t) := ⟨_, PySem.W.mg_of X G aW⟩
  have za := PySem.W.mg_none_of X G z_all
  have mc := PySem.W.mg_of X G a16
  have Gc : FnOk l.prog w K mg base CX0 5 f16 _ ["thing"] (spCopied 4) := ok_copied F16 T mc b16 4
  have Gx : FnOk l.prog w K mg base CX0 5 f18 _ ["thing"] (spFixed 4) := ok_fixed F18 T za (PySem.W.mg_of X G a18) b18 4
  have Gn : FnOk l.prog w K mg base CX0 1 f17 _ ["thing"] spNumber := ok_number F17 T (PySem.W.mg_none_of X G z_bool)
  have Gi := ok_wcan (P := l.prog) (w := w) (base := base) (C := C) F26 TW T za mW (PySem.W.mg_of X G a17) k17 b17 Gn
  have Gu := ok_wunheard (P := l.prog) (w := w) (base := base) (C := C) F25 TW mc k16 b16 Gc
  have hW : Wires (wk C) l.prog w K mg base 9 :=
    { cls := TW.cl
      glob := PySem.W.mg_of X G aC
      new := ⟨_, _, _, ⟨mk, a19, i19, kc⟩, b19, (ok_winit F19 TW).mono (by decide)⟩
      put := ⟨_, _, _, ⟨a21, i21, k21⟩, b21, (ok_wput F21 TW mc k16 b16 Gc (PySem.W.mg_of X G a18) k18 b18 Gx).mono (by decide)⟩
      letter := ⟨_, _, _, ⟨a22, i22, k22⟩, b22, (ok_wletter F22 TW T mW ⟨a25, i25, k25⟩ b25 Gu).mono (by decide)⟩
      take := ⟨_, _, _, ⟨a23, i23, k23⟩, b23, (ok_wtake F23 TW T ⟨a26, i26, k26⟩ b26 Gi mc k16 b16 Gc).mono (by decide)⟩
      heard := ⟨_, _, _, ⟨a24, i24, k24⟩, b24, (ok_wheard F24 TW).mono (by decide)⟩
      unheard := ⟨_, _, _, ⟨a25, i25, k25⟩, b25, Gu.mono (by decide)⟩
      len := ⟨_, _, _, a20, i20, b20, (ok_wlen F20 TW T).mono (by decide)⟩ }
  have mD := PySem.W.mg_of X G aD
  have TD : ExT K D "asked" := ⟨⟨⟨_, _, _, _, _, _, _, _, _, _, _, _, _, _, _, xL, by decide +kernel⟩, dsa, deC, dtC, dkC⟩, ⟨dga, dgg, deC, dhC, dca, dcg, dct, dmr⟩, dna⟩
  have FI := fun_mk (st := sNLInit) lI cI kI
  have bI := FI.binds (ps := ["self", "asked"]) fun _ _ _ _ _ _ us hl => match us, hl with | [_, _], _ => rfl
  have GI : FnOk l.prog w K mg base CX0 1 fI _ ["self", "asked"] (spXInit D "asked") := ok_nlInit FI TD
  have GcX : FnOk l.prog w K mg base CX0 8 f16 _ ["thing"] (spCopiedA 7) := ok_copiedX F16 T mc b16 7
  have GnX : FnOk l.prog w K mg base CX0 1 f17 _ ["thing"] spNumberX := ok_numberX F17 T (PySem.W.mg_none_of X G z_bool)
  have GiX := ok_wcanX (P := l.prog) (w := w) (base := base) (C := C) F26 TW T za mW (PySem.W.mg_of X G a17) k17 b17 GnX
  have GtR := ok_wtakeR (P := l.prog) (w := w) (base := base) (C := C) F23 TW T ⟨a26, i26, k26⟩ b26 GiX mc k16 b16 GcX TD mD diC dtI bI GI
  have R : RefT K mg D A1 A2 A3 := ⟨mD, PySem.W.mg_of X G aA1, PySem.W.mg_of X G aA2, PySem.W.mg_of X G aA3, PySem.W.mg_none_of X G zVE, kitA, kitV, exm_own deC dic dtC dsd, TD⟩
  have GX := ok_refused F14 T R TW.cl ⟨a23, i23, k23⟩ b23 GtR
  exact ok_law F15 T hW C1 C2 C5 C6 C8' CB CL ⟨_, _, PySem.W.mg_of X G a14, k14, b14, GX⟩ ⟨_, _, PySem.W.mg_of X G a9, k9, b9, ok_right F9 T hW C7⟩
theorem walk {l : PySem.W.OpenLaw} {q : Program} {loose : List Str} {XP : (Str → Option Value) → Heap → Prop} {YP : World → Heap → Prop} {d : DefRec} {K : Params → PySem.W.Frag} (hn : l.most = some 63) (hd : d.params.defaults = [])
    (hY : ∀ (w : World) (h : Heap), YP w h → (K w.params).In h)
    (F : ∀ (w : World) (mg : Str → Option Value) (fa : Addr) (h : Heap), (K w.params).In h → h.Ns mainGlobals mg → mg d.name = some (.ref fa) → ∃ fd : FuncData, (∀ (s : Shared) (u : Value), BindsTo s fd ⟨[u], []⟩ [("_law_script", u)]) ∧
      ∀ b : Heap, (K w.params).In b → b.Ns mainGlobals mg → FnG l.prog w (K w.params) mg b CX0 12 fa fd ["_law_script"] (spLaw (K w.params))) :
    PySem.W.WalkO q loose XP YP l.row.toRowW d [] (fun f vs => PySem.call f vs) :=
  walk_ofG (n := 63) (k := 12) (x := "_law_script") (sp := fun K => spLaw K) hn (by decide) hd ⟨rfl, by decide, by decide⟩ hY F (fun _ _ a ns hl _ hS => ⟨a, ns, rfl, hS, hl, fun _ => rfl⟩)
end K3
open PySem PySem.W PyProof.Rows in
set_option maxRecDepth 100000 in
set_option maxHeartbeats 0 in
theorem PySem.Challenge.cw_farcalls_k26_letters_refused_holds : PySem.Challenge.rw_farcalls_k26_letters_refused.Holds := by
  w_on; o_law; k_head; (case hw => w_witness2)
  k_fill
  refine K3.walk (l := PySem.Challenge.rw_farcalls_k26_letters_refused) rfl rfl (fun w h Y => PySem.W.kIn_of Y) ?F
  case F =>
    intro w mg fa h KX G hmg
    refine' K3.all_mk KX G hmg ?a1 ?l1 ?c1 ?k1 ?a2 ?l2 ?c2 ?k2 ?a3 ?l3 ?c3 ?k3 ?a4 ?l4 ?c4 ?k4 ?a5 ?l5 ?c5 ?k5 ?a6 ?l6 ?c6 ?k6 ?a7 ?l7 ?c7 ?k7 ?a8 ?l8 ?c8 ?k8 ?a9 ?l9 ?c9 ?k9 ?a10 ?l10 ?c10 ?k10 ?a11 ?l11 ?c11 ?k11 ?a12 ?l12 ?c12 ?k12 ?a13 ?l13 ?c13 ?k13 ?a14 ?l14 ?c14 ?k14 ?a15 ?l15 ?c15 ?k15 ?a16 ?l16 ?c16 ?k16 ?a17 ?l17 ?c17 ?k17 ?a18 ?l18 ?c18 ?k18 ?aC ?a19 ?i19 ?l19 ?c19 ?k19 ?a20 ?i20 ?l20 ?c20 ?k20 ?a21 ?i21 ?l21 ?c21 ?k21 ?a22 ?i22 ?l22 ?c22 ?k22 ?a23 ?i23 ?l23 ?c23 ?k23 ?a24 ?i24 ?l24 ?c24 ?k24 ?a25 ?i25 ?l25 ?c25 ?k25 ?a26 ?i26 ?l26 ?c26 ?k26 ?pg ?hd ?po ?sa ?mk ?kc ?nR ?nK ?nT ?aW ?aD ?aA1 ?aA2 ?aA3 ?zVE ?xL ?dsa ?dga ?dgg ?dna ?diC ?dtI ?lI ?cI ?kI ?dkC ?deC ?dtC ?dhC ?dic ?dsd ?dca ?dcg ?dct ?dmr ?kitA ?kitV ?z_len ?z_abs ?z_list ?z_tuple ?z_dict ?z_range ?z_int ?z_max ?z_sorted ?z_repr ?z_isinstance ?z_bool ?z_all
    (case a1 => k_is)
    (case l1 => k_is)
    (case c1 => k_is)
    (case k1 => k_is)
    (case a2 => k_is)
    (case l2 => k_is)
    (case c2 => k_is)
    (case k2 => k_is)
    (case a3 => k_is)
    (case l3 => k_is)
    (case c3 => k_is)
    (case k3 => k_is)
    (case a4 => k_is)
    (case l4 => k_is)
    (case c4 => k_is)
    (case k4 => k_is)
    (case a5 => k_is)
    (case l5 => k_is)
    (case c5 => k_is)
    (case k5 => k_is)
    (case a6 => k_is)
    (case l6 => k_is)
    (case c6 => k_is)
    (case k6 => k_is)
    (case a7 => k_is)
    (case l7 => k_is)
    (case c7 => k_is)
    (case k7 => k_is)
    (case a8 => k_is)
    (case l8 => k_is)
    (case c8 => k_is)
    (case k8 => k_is)
    (case a9 => k_is)
    (case l9 => k_is)
    (case c9 => k_is)
    (case k9 => k_is)
    (case a10 => k_is)
    (case l10 => k_is)
    (case c10 => k_is)
    (case k10 => k_is)
    (case a11 => k_is)
    (case l11 => k_is)
    (case c11 => k_is)
    (case k11 => k_is)
    (case a12 => k_is)
    (case l12 => k_is)
    (case c12 => k_is)
    (case k12 => k_is)
    (case a13 => k_is)
    (case l13 => k_is)
    (case c13 => k_is)
    (case k13 => k_is)
    (case a14 => k_is)
    (case l14 => k_is)
    (case c14 => k_is)
    (case k14 => k_is)
    (case a15 => k_is)
    (case l15 => k_is)
    (case c15 => k_is)
    (case k15 => k_is)
    (case a16 => k_is)
    (case l16 => k_is)
    (case c16 => k_is)
    (case k16 => k_is)
    (case a17 => k_is)
    (case l17 => k_is)
    (case c17 => k_is)
    (case k17 => k_is)
    (case a18 => k_is)
    (case l18 => k_is)
    (case c18 => k_is)
    (case k18 => k_is)
    (case aC => k_is)
    (case a19 => k_is)
    (case i19 => k_is)
    (case l19 => k_is)
    (case c19 => k_is)
    (case k19 => k_is)
    (case a20 => k_is)
    (case i20 => k_is)
    (case l20 => k_is)
    (case c20 => k_is)
    (case k20 => k_is)
    (case a21 => k_is)
    (case i21 => k_is)
    (case l21 => k_is)
    (case c21 => k_is)
    (case k21 => k_is)
    (case a22 => k_is)
    (case i22 => k_is)
    (case l22 => k_is)
    (case c22 => k_is)
    (case k22 => k_is)
    (case a23 => k_is)
    (case i23 => k_is)
    (case l23 => k_is)
    (case c23 => k_is)
    (case k23 => k_is)
    (case a24 => k_is)
    (case i24 => k_is)
    (case l24 => k_is)
    (case c24 => k_is)
    (case k24 => k_is)
    (case a25 => k_is)
    (case i25 => k_is)
    (case l25 => k_is)
    (case c25 => k_is)
    (case k25 => k_is)
    (case a26 => k_is)
    (case i26 => k_is)
    (case l26 => k_is)
    (case c26 => k_is)
    (case k26 => k_is)
    (case pg => k_is)
    (case hd => k_is)
    (case po => k_is)
    (case sa => k_is)
    (case mk => k_is)
    (case kc => k_is)
    (case nR => k_is)
    (case nK => k_is)
    (case nT => k_is)
    (case aW => k_is)
    (case aD => k_is)
    (case aA1 => k_is)
    (case aA2 => k_is)
    (case aA3 => k_is)
    (case zVE => k_is)
    (case xL => k_is)
    (case dsa => k_is)
    (case dga => k_is)
    (case dgg => k_is)
    (case dna => k_is)
    (case diC => k_is)
    (case dtI => k_is)
    (case lI => k_is)
    (case cI => k_is)
    (case kI => k_is)
    (case dkC => k_is)
    (case deC => k_is)
    (case dtC => k_is)
    (case dhC => k_is)
    (case dic => k_is)
    (case dsd => first | rfl | k_is)
    (case dca => k_is)
    (case dcg => k_is)
    (case dct => k_is)
    (case dmr => k_is)
    (case kitA => kit_is)
    (case kitV => kit_is)
    (case z_len => k_is)
    (case z_abs => k_is)
    (case z_list => k_is)
    (case z_tuple => k_is)
    (case z_dict => k_is)
    (case z_range => k_is)
    (case z_int => k_is)
    (case z_max => k_is)
    (case z_sorted => k_is)
    (case z_repr => k_is)
    (case z_isinstance => k_is)
    (case z_bool => k_is)
    (case z_all => k_is)
