import PyProof.Rows.All
import Wide.All
import OpenK.AllK
import Wide.FinOn
import HandS.ForMost
import HandS.Wide
import HandS.Style
import HandS.Codes
import HandS.Conv
import HandS.OwnEq
import HandS.TupAny
import HandS.Flow
import HandS.IsInst
import HandS.Deep
import HandS.ForExc
import HandS.ExcInit
import HandS.ExcIs
import HandS.StrMore
import HandS.Text
import HandS.Defaults
import HandS.Iter
import KE.KExcIs
import KE.GoesComp
import KE.GoesRaise
import HandS.Walk
import HandS.ExcSuper
import HandS.ExcCtx
import HandS.HotCalls
import HandS.ExcField
import HandS.CallLocal
import HandS.TupMul
import HandS.MethStar
import HandS.DeepEq
import HandS.DictEq
import HandS.DictComp
import HandS.Zip
import HandS.MakeKwOnly
import HandS.MakeKw
import KE.KDictZip
import HandS.FStr
import PySem.Challenge.RW_farcalls_k07_many_made_and_put
set_option Elab.async false
set_option maxRecDepth 100000
set_option maxHeartbeats 4000000
namespace K3
open PySem L2
def top (i : Nat) : Stmt := PySem.Challenge.pw_farcalls_k07_many_made_and_put.main.body.getD i (.Pass ⟨0, 0, 0, 0⟩)
abbrev sPen : Stmt := top 49
abbrev sDraw : Stmt := top 50
abbrev sPick : Stmt := top 51
/-! ### frames -/
/-- all that stood stands as it stood, but at M -/
def But (M : Addr → Prop) (H H' : Hp) : Prop := ∀ b o, ¬ M b → H b = some o → H' b = some o
theorem But.refl (M : Addr → Prop) (H : Hp) : But M H H := fun _ _ _ h => h
theorem But.trans {M : Addr → Prop} {H H1 H2 : Hp} (a : But M H H1) (b : But M H1 H2) : But M H H2 := fun c o m h => b c o m (a c o m h)
theorem But.new {M : Addr → Prop} {H H' : Hp} (a : But M H H') {p : Addr} {o : HO} (h : H' p = none) : But M H (upd H' p o) := fun c u m e => by
  have e1 := a c u m e
  rw [upd_ne (ne_of_none e1 h)]
  exact e1
theorem But.mut {M : Addr → Prop} {H H' : Hp} (a : But M H H') {p : Addr} {o : HO} (h : M p) : But M H (upd H' p o) := fun c u m e => by
  have e1 := a c u m e
  rw [upd_ne (fun z => m (by rw [z]; exact h))]
  exact e1
theorem But.mono {M N : Addr → Prop} {H H' : Hp} (a : But M H H') (h : ∀ b, M b → N b) : But N H H' := fun c o m e => a c o (fun z => m (h c z)) e
/-- what was new and is not M is new or .. (used for new objects made on the way) -/
theorem But.mutNew {M : Addr → Prop} {H H' : Hp} (a : But M H H') {p : Addr} {o : HO} (h : H p = none) : But M H (upd H' p o) := fun c u m e => by
  have e1 := a c u m e
  rw [upd_ne (ne_of_none e h)]
  exact e1
theorem But.free {M : Addr → Prop} {H H' : Hp} (a : But M H H') {l : Addr} (h : H' l = none) (n : ¬ M l) : H l = none := by
  cases q : H l with
  | none => rfl
  | some o =>
    rw [a l o n q] at h
    cases h
/-! ### the pen -/
def penK (c : Addr) (at' lf : Int) : List (Key × V) := [(Sum.inr "cells", .ref c), (Sum.inr "at", .int at'), (Sum.inr "left", .int lf)]
/-- the pen at p, its cells the list at c; at most n were begun -/
def Pen (H : Hp) (p c : Addr) (ns : List Int) (n : Nat) : Prop :=
  ∃ at' lf : Int, 0 ≤ at' ∧ at' ≤ (n : Int) ∧ 0 ≤ lf ∧ H p = some (.dK (penK c at' lf)) ∧ H c = some (.lst (ns.map V.int)) ∧ ns.length ≤ 63
theorem pen_cells (c : Addr) (a l : Int) : valV (penK c a l) (Sum.inr "cells") = some (.ref c) := rfl
theorem pen_at (c : Addr) (a l : Int) : valV (penK c a l) (Sum.inr "at") = some (.int a) := rfl
theorem pen_left (c : Addr) (a l : Int) : valV (penK c a l) (Sum.inr "left") = some (.int l) := rfl
theorem pen_put_at (c : Addr) (a l b : Int) : putK (penK c a l) (Sum.inr "at") (.int b) = penK c b l := rfl
theorem pen_put_left (c : Addr) (a l b : Int) : putK (penK c a l) (Sum.inr "left") (.int b) = penK c a b := rfl
theorem pen_gl {H : Hp} {p c : Addr} {a l : Int} (h : H p = some (.dK (penK c a l))) : DGet H p (.str "left") (some (.int l)) := DGet.k (k := Sum.inr "left") h
theorem pen_ga {H : Hp} {p c : Addr} {a l : Int} (h : H p = some (.dK (penK c a l))) : DGet H p (.str "at") (some (.int a)) := DGet.k (k := Sum.inr "at") h
theorem pen_gc {H : Hp} {p c : Addr} {a l : Int} (h : H p = some (.dK (penK c a l))) : DGet H p (.str "cells") (some (.ref c)) := DGet.k (k := Sum.inr "cells") h
theorem pen_pl {H : Hp} {p c : Addr} {a l b : Int} (h : H p = some (.dK (penK c a l))) : DPut H p (.str "left") (.int b) (upd H p (.dK (penK c a b))) := DPut.k (k := Sum.inr "left") h (by show 3 < sizeLine; decide)
theorem pen_pa {H : Hp} {p c : Addr} {a l b : Int} (h : H p = some (.dK (penK c a l))) : DPut H p (.str "at") (.int b) (upd H p (.dK (penK c b l))) := DPut.k (k := Sum.inr "at") h (by show 3 < sizeLine; decide)
theorem dp_ints {K : PySem.W.Frag} {H : Hp} : ∀ ns : List Int, DpAll K H (ns.map V.int) (ns.map PyData.int)
  | [] => .nil
  | n :: r => .cons (.int n) (dp_ints r)
theorem lay_ints : ∀ ns : List Int, PyData.canLayAll0 (ns.map PyData.int) = true ∧ PyData.depthAll (ns.map PyData.int) ≤ 1
  | [] => ⟨rfl, Nat.zero_le _⟩
  | n :: r => by
    obtain ⟨a, b⟩ := lay_ints r
    simp only [List.map_cons, PyData.canLayAll0, PyData.canLay0, PyData.depthAll, PyData.depth, a, Bool.and_self, true_and]
    omega
theorem shaped_ints (ns : List Int) : SeqAt.shaped (.list (ns.map PyData.int)) = true := by
  obtain ⟨a, b⟩ := lay_ints ns
  unfold SeqAt.shaped
  simp only [PyData.canLay0, PyData.depth, a, Bool.true_and]
  exact decide_eq_true (by omega)
theorem eqv_ints (ns : List Int) : PyData.eqv (.list (ns.map PyData.int)) (.list []) = ns.isEmpty := by
  cases ns <;> rfl
theorem atI_int {α : Type} {xs : List α} {i : Int} {v : α} (h0 : 0 ≤ i) (h : xs[i.toNat]? = some v) : atI xs i = some v := by
  have e : ((i.toNat : Nat) : Int) = i := Int.toNat_of_nonneg h0
  rw [← e]
  exact atI_nat h
theorem get_map_int {ns : List Int} {j : Nat} (h : j < ns.length) : (ns.map V.int)[j]? = some (V.int ns[j]) := by
  rw [List.getElem?_map, List.getElem?_eq_getElem h]
  rfl
structure Txt (mg : Str → Option Value) : Prop where
  len : mg "len" = none
  abs : mg "abs" = none
  list : mg "list" = none
  tuple : mg "tuple" = none
  dict : mg "dict" = none
  range : mg "range" = none
  int : mg "int" = none
  max : mg "max" = none
  sorted : mg "sorted" = none
  repr : mg "repr" = none
  isinstance : mg "isinstance" = none
def spDraw : Sp := fun vs H Q _ => ∃ (p c : Addr) (ns : List Int) (n : Nat) (m : Int), vs = [.ref p, .int m] ∧ Pen H p c ns n ∧ n ≤ 1000000000 ∧ 1 ≤ m ∧ m ≤ 1000000 ∧
  ∀ (r : Int) (H' : Hp), 0 ≤ r → r < m → Pen H' p c ns (n + 1) → But (· = p) H H' → Q (.int r) H'
end K3
namespace K3
open PySem L2
section
variable {P : Program} {w : World} {K : PySem.W.Frag} {mg : Str → Option Value} {base : Heap}
theorem scD : FnScope ["_law_pen_here", "_law_many", "_law_digit", "_law_at", "_law_cell", "_law_number"] ["_law_pen_here", "_law_many"] (defScope sDraw) := ⟨rfl, rfl, rfl, by decide +kernel, rfl, by decide +kernel, by decide +kernel⟩
theorem ok_draw {f : Addr} {fd : FuncData} (F : Fun K "_law_draw" "_law_draw" sDraw f fd) (T : Txt mg) : FnOk P w K mg base CX0 1 f fd ["_law_pen_here", "_law_many"] spDraw := by
  refine F.ok scD (fun vs H Q E h => ?_) (fun cdv A outer s H vs Q E hr h => ?_)
  · obtain ⟨p, c, ns, n, m, rfl, _⟩ := h
    rfl
  · obtain ⟨p, c, ns, n, m, rfl, ⟨at', lf, a0, a1, l0, hp, hc, h63⟩, hn, m1, m2, k⟩ := h
    have hu := hu_of hr
    refine ⟨_, pss_cons (ps_if (pt_cmpR op_gt (pe_dget hu (pv 0) pe_str (fun _ _ => rfl)) pe_int (nomark _))
        (pss_cons (ps_set (i := 2) scD.nd rfl (.inl rfl) (pe_op op_modN (pe_dget hu (pv 0) pe_str (fun _ _ => rfl)) (pv 1)))
        (pss_cons (ps_dput hu (pv 0) pe_str (pe_op op_fdivN (pe_dget hu (pv 0) pe_str (fun _ _ => rfl)) (pv 1)) rfl)
        (pss_one (ps_ret (pv 2))))) pss_nil)
      (pss_cons (ps_set (i := 3) scD.nd rfl (.inl rfl) (pe_dget hu (pv 0) pe_str (fun _ _ => rfl)))
      (pss_cons (ps_dput hu (pv 0) pe_str (pe_op op_add (pv 3) pe_int) rfl)
      (pss_cons (ps_set (i := 4) scD.nd rfl (.inl rfl) pe_int)
      (C8.pss_cut (ps_if (pt_cmpR (op_neD hr.units) (pe_dget hu (pv 0) pe_str (fun _ _ => rfl)) (pe_lst pa_nil) (nomark _))
        (pss_one (ps_set (i := 4) scD.nd rfl (.inl rfl) (pe_ix ix_list (pe_dget hu (pv 0) pe_str (fun _ _ => rfl)) (pe_op op_modN (pv 3) (pe_callB call_len_seq (by rfl) T.len PySem.boot_len (pa_cons (pe_dget hu (pv 0) pe_str (fun _ _ => rfl)) pa_nil))) (fun _ _ => rfl)))) pss_nil)
      (C8.pss_cut (ps_if (PW.pt (pw_and (pt_cmpR op_lt (pv 3) (pe_callB call_len_seq (by rfl) T.len PySem.boot_len (pa_cons (pe_dget hu (pv 0) pe_str (fun _ _ => rfl)) pa_nil)) (nomark _)) (pw_and1 (pt_cmpR op_ge (pe_callB call_abs (by rfl) T.abs (by decide +kernel) (pa_cons (pv 4) pa_nil)) (pe_op op_pow pe_int pe_int) (nomark _)))))
        (pss_cons (ps_dput hu (pv 0) pe_str (pe_op op_fdivN (pe_op op_sub (pe_callB call_abs (by rfl) T.abs (by decide +kernel) (pa_cons (pv 4) pa_nil)) (pe_op op_pow pe_int pe_int)) (pv 1)) rfl)
        (pss_one (ps_ret (pe_op op_modN (pe_op op_sub (pe_callB call_abs (by rfl) T.abs (by decide +kernel) (pa_cons (pv 4) pa_nil)) (pe_op op_pow pe_int pe_int)) (pv 1))))) pss_nil)
      (pss_cons (ps_set (i := 5) scD.nd rfl (.inl rfl) (pe_op op_add (pe_op op_add (pe_op op_add (pe_op op_modN (pv 4) pe_int) (pe_op op_mul (pe_op op_mul pe_int (pv 3)) (pv 3))) (pe_op op_mul pe_int (pv 3))) pe_int))
      (C8.pss_cut (ps_set (i := 5) scD.nd rfl (.inl rfl) (pe_op op_modN (pe_op op_mul (pv 5) pe_int) pe_int))
      (C8.pss_cut (ps_set (i := 5) scD.nd rfl (.inl rfl) (pe_op op_modN (pe_op op_add (pe_op op_add (pe_op op_mul (pv 5) (pv 5)) (pe_op op_mul pe_int (pv 5))) (pv 3)) pe_int))
      (pss_one (ps_ret (pe_op op_modN (pe_op op_fdivN (pe_op op_modN (pe_op op_mul (pv 5) (pe_op op_add (pv 5) pe_int)) pe_int) pe_int) (pv 1)))))))))))), ?_⟩
    have npc : p ≠ c := ne_of hp hc (by intro z; cases z)
    have nm : m ≠ 0 := by omega
    have dm : CDivN 0 m := ⟨nm, by omega⟩
    refine ⟨_, rfl, p, _, rfl, pen_gl hp, lf, 0, rfl, rfl, _, rfl, ?_⟩
    refine ite2 (fun hl => ?_) (fun hl => ?_)
    · -- a great one's next digit
      refine ⟨_, rfl, p, _, rfl, pen_gl hp, _, rfl, _, _, rfl, rfl, nm, ?_⟩
      refine ⟨_, rfl, p, _, rfl, pen_gl hp, _, rfl, _, _, rfl, rfl, dm, _, rfl, p, _, rfl, pen_pl hp, ?_⟩
      refine ⟨_, rfl, ?_⟩
      refine k _ _ (Int.fmod_nonneg_of_pos _ (by omega)) (Int.fmod_lt_of_pos _ (by omega)) ⟨at', _, a0, by omega, ?_, upd_same, by rw [upd_ne npc.symm]; exact hc, h63⟩ ((But.refl _ H).mut rfl)
      rw [Int.fdiv_eq_ediv_of_nonneg _ (by omega)]
      exact Int.ediv_nonneg l0 (by omega)
    · -- the cell, mixed
      refine ⟨_, rfl, p, _, rfl, pen_ga hp, ?_⟩
      refine ⟨_, rfl, _, _, rfl, rfl, _, rfl, p, _, rfl, pen_pa hp, ?_⟩
      have hp1 : upd H p (HO.dK (penK c (at' + 1) lf)) p = some (.dK (penK c (at' + 1) lf)) := upd_same
      have hc1 : upd H p (HO.dK (penK c (at' + 1) lf)) c = some (.lst (ns.map V.int)) := by rw [upd_ne npc.symm]; exact hc
      have b1 : But (· = p) H (upd H p (HO.dK (penK c (at' + 1) lf))) := (But.refl _ H).mut rfl
      generalize upd H p (HO.dK (penK c (at' + 1) lf)) = H1 at hp1 hc1 b1 ⊢
      refine ⟨fun σ' H' => (∃ cell : Int, σ' = [some (.ref p), some (.int m), none, some (.int at'), some (.int cell), none]) ∧ H' p = some (.dK (penK c (at' + 1) lf)) ∧ H' c = some (.lst (ns.map V.int)) ∧ But (· = p) H H', ?_, ?_⟩
      · refine ⟨_, rfl, p, _, rfl, pen_gc hp1, Nat.zero_le _, fun l hl => ?_⟩
        have hp2 : upd H1 l (.lst []) p = some (.dK (penK c (at' + 1) lf)) := by rw [upd_ne (ne_of_none hp1 hl)]; exact hp1
        have hc2 : upd H1 l (.lst []) c = some (.lst (ns.map V.int)) := by rw [upd_ne (ne_of_none hc1 hl)]; exact hc1
        have hl2 : upd H1 l (.lst []) l = some (.lst []) := upd_same
        have b2 : But (· = p) H (upd H1 l (.lst [])) := b1.new hl
        generalize upd H1 l (.lst []) = H2 at hp2 hc2 hl2 b2 ⊢
        refine ⟨_, _, .lst (SqL.of hc2) (dp_ints ns), .lst (SqL.of hl2) .nil, shaped_ints ns, by decide +kernel, _, rfl, ?_⟩
        rw [eqv_ints]
        cases he : ns.isEmpty with
        | true => exact iteF ⟨⟨_, rfl⟩, hp2, hc2, b2⟩
        | false =>
          have hlen : 1 ≤ ns.length := by
            cases ns with
            | nil => cases he
            | cons _ _ => exact Nat.le_add_left _ _
          have hm1 := Int.fmod_nonneg_of_pos at' (b := ((ns.map V.int).length : Int)) (by rw [List.length_map]; omega)
          have hm2 := Int.fmod_lt_of_pos at' (b := ((ns.map V.int).length : Int)) (by rw [List.length_map]; omega)
          have hidx : (at'.fmod ((ns.map V.int).length : Int)).toNat < ns.length := by rw [List.length_map] at hm1 hm2 ⊢; omega
          have hat := atI_int hm1 (get_map_int hidx)
          refine iteT ?_
          refine ⟨_, rfl, p, _, rfl, pen_gc hp2, _, rfl, _, rfl, p, _, rfl, pen_gc hp2, c, _, rfl, .inl (SqL.of hc2), _, _, rfl, rfl, (by rw [List.length_map]; omega), c, _, _, _, rfl, rfl, SqL.of hc2, hat, ?_⟩
          exact ⟨⟨_, rfl⟩, hp2, hc2, b2⟩
      · rintro σ' H2 ⟨⟨cell, rfl⟩, hp2, hc2, b2⟩
        have ab : ∀ x : Int, 0 ≤ (if x < 0 then -x else x) := fun x => by split <;> omega
        refine ⟨fun σ' H' => σ' = [some (.ref p), some (.int m), none, some (.int at'), some (.int cell), none] ∧ H' p = some (.dK (penK c (at' + 1) lf)) ∧ H' c = some (.lst (ns.map V.int)) ∧ But (· = p) H H', ?_, ?_⟩
        · refine ⟨_, rfl, _, rfl, p, _, rfl, pen_gc hp2, c, _, rfl, .inl (SqL.of hc2), _, _, rfl, rfl, _, rfl, ?_⟩
          refine ite2 (fun ha => ?_) (fun ha => ?_)
          · refine ⟨_, rfl, _, rfl, _, _, rfl, rfl, ⟨by decide, by decide, by decide⟩, _, _, rfl, rfl, _, rfl, ?_⟩
            refine ite2 (fun hg => ?_) (fun hg => ?_)
            · have hge : (10 : Int) ^ (Int.toNat 18) ≤ (if cell < 0 then -cell else cell) := of_decide_eq_true hg
              refine ⟨_, rfl, _, rfl, _, _, rfl, rfl, ⟨by decide, by decide, by decide⟩, _, _, rfl, rfl, _, rfl, _, _, rfl, rfl, dm, _, rfl, p, _, rfl, pen_pl hp2, ?_⟩
              refine ⟨_, rfl, _, rfl, _, _, rfl, rfl, ⟨by decide, by decide, by decide⟩, _, _, rfl, rfl, _, rfl, _, _, rfl, rfl, nm, ?_⟩
              refine k _ _ (Int.fmod_nonneg_of_pos _ (by omega)) (Int.fmod_lt_of_pos _ (by omega)) ⟨at' + 1, _, by omega, by omega, ?_, upd_same, by rw [upd_ne npc.symm]; exact hc2, h63⟩ (b2.mut rfl)
              rw [Int.fdiv_eq_ediv_of_nonneg _ (by omega)]
              exact Int.ediv_nonneg (by omega) (by omega)
            · exact ⟨rfl, hp2, hc2, b2⟩
          · exact ⟨rfl, hp2, hc2, b2⟩
        · rintro σ' H3 ⟨rfl, hp3, hc3, b3⟩
          have sq : 0 ≤ at' * at' := Int.mul_nonneg a0 a0
          have at9 : at' ≤ 1000000000 := Int.le_trans a1 (Int.ofNat_le.mpr hn)
          refine ⟨_, rfl, _, _, rfl, rfl, (show (2147483629 : Int) ≠ 0 by decide), _, rfl, _, _, rfl, rfl, .inl ⟨by decide, by decide⟩, _, rfl, _, _, rfl, rfl, .inl ⟨by omega, by omega⟩, _, _, rfl, rfl, _, rfl, _, _, rfl, rfl, .inl ⟨by decide, by decide⟩, _, _, rfl, rfl, _, _, rfl, rfl, ?_⟩
          refine ⟨fun σ' H' => ∃ y : Int, 0 ≤ y ∧ y < 2147483647 ∧ σ' = [some (.ref p), some (.int m), none, some (.int at'), some (.int cell), some (.int y)] ∧ H' = H3, ?_, ?_⟩
          · exact ⟨_, rfl, _, _, rfl, rfl, .inr ⟨by decide, by decide⟩, _, _, rfl, rfl, (show (2147483647 : Int) ≠ 0 by decide), _, Int.fmod_nonneg_of_pos _ (by decide), Int.fmod_lt_of_pos _ (by decide), rfl, rfl⟩
          · rintro σ' H' ⟨y, y0, y1, rfl, rfl⟩
            refine ⟨fun σ2 H2 => ∃ y : Int, 0 ≤ y ∧ y < 2147483587 ∧ σ2 = [some (.ref p), some (.int m), none, some (.int at'), some (.int cell), some (.int y)] ∧ H2 = H', ?_, ?_⟩
            · exact ⟨_, rfl, _, rfl, _, _, rfl, rfl, .inl ⟨by omega, by omega⟩, _, rfl, _, _, rfl, rfl, .inl ⟨by decide, by decide⟩, _, _, rfl, rfl, _, rfl, _, _, rfl, rfl, _, _, rfl, rfl, (show (2147483587 : Int) ≠ 0 by decide), _, Int.fmod_nonneg_of_pos _ (by decide), Int.fmod_lt_of_pos _ (by decide), rfl, rfl⟩
            · rintro σ2 H2 ⟨z, z0, z1, rfl, rfl⟩
              refine ⟨_, rfl, _, rfl, _, _, rfl, rfl, _, _, rfl, rfl, .inl ⟨by omega, by omega⟩, _, _, rfl, rfl, (show (2147483563 : Int) ≠ 0 by decide), _, _, rfl, rfl, (show CDivN 0 64 from ⟨by decide, by decide⟩), _, rfl, _, _, rfl, rfl, nm, ?_⟩
              exact k _ _ (Int.fmod_nonneg_of_pos _ (by omega)) (Int.fmod_lt_of_pos _ (by omega)) ⟨at' + 1, lf, by omega, by omega, l0, hp3, hc3, h63⟩ b3
end
end K3
namespace K3
open PySem L2
/-- what a caller wants of a def by its name -/
def Cal (P : Program) (w : World) (K : PySem.W.Frag) (mg : Str → Option Value) (base : Heap) (x : Str) (k : Nat) (ps : List Str) (sp : Sp) : Prop :=
  ∃ f fd, mg x = some (.ref f) ∧ PySem.W.keepIn K (.ref f) = true ∧ Binds K fd ps [] ∧ FnOk P w K mg base CX0 k f fd ps sp
theorem But.seqL {K : PySem.W.Frag} {M : Addr → Prop} {H H' : Hp} {a : Addr} {xs : List V} (e : But M H H') (n : ¬ M a) (h : SqL K H a xs) : SqL K H' a xs := by
  rcases h with (h | ⟨o, h⟩) | h
  · exact .inl (.inl (e _ _ n h))
  · exact .inl (.inr ⟨o, e _ _ n h⟩)
  · exact .inr h
theorem But.seqT {K : PySem.W.Frag} {M : Addr → Prop} {H H' : Hp} {a : Addr} {xs : List V} (e : But M H H') (n : ¬ M a) (h : SqT K H a xs) : SqT K H' a xs := by
  rcases h with (h | ⟨o, h⟩) | h
  · exact .inl (.inl (e _ _ n h))
  · exact .inl (.inr ⟨o, e _ _ n h⟩)
  · exact .inr h
/-- the items of a text -/
def signs (z : Str) : List V := z.cps.toList.map fun c => V.str ⟨#[c]⟩
theorem signs_len (z : Str) : (signs z).length = z.length := by
  unfold signs
  rw [List.length_map]
  rfl
/-- x is a list or a tuple of ys that stands in H, or a text of these signs -/
def Menu (H : Hp) (x : V) (ys : List V) : Prop :=
  1 ≤ ys.length ∧ ys.length ≤ 1000 ∧ ((∃ l, x = .ref l ∧ (H l = some (.lst ys) ∨ H l = some (.tup ys))) ∨ ∃ z : Str, x = .str z ∧ ys = signs z)
theorem Menu.but {M : Addr → Prop} {H H' : Hp} {x : V} {ys : List V} (h : Menu H x ys) (e : But M H H') (n : ∀ l, M l → H l ≠ some (.lst ys) ∧ H l ≠ some (.tup ys)) : Menu H' x ys := by
  obtain ⟨h1, h2, h3⟩ := h
  refine ⟨h1, h2, ?_⟩
  rcases h3 with ⟨l, rfl, q | q⟩ | q
  · exact .inl ⟨l, rfl, .inl (e l _ (fun m => (n l m).1 q) q)⟩
  · exact .inl ⟨l, rfl, .inr (e l _ (fun m => (n l m).2 q) q)⟩
  · exact .inr q
def spPick : Sp := fun vs H Q _ => ∃ (p c : Addr) (ns : List Int) (n : Nat) (x : V) (ys : List V), vs = [.ref p, x] ∧ Pen H p c ns n ∧ n ≤ 1000000000 ∧ Menu H x ys ∧
  ∀ (v : V) (H' : Hp), v ∈ ys → Pen H' p c ns (n + 1) → But (· = p) H H' → Q v H'
theorem scP : FnScope ["_law_pen_here", "_law_some"] ["_law_pen_here", "_law_some"] (defScope sPick) := ⟨rfl, rfl, rfl, by decide +kernel, rfl, by decide +kernel, by decide +kernel⟩
section
variable {P : Program} {w : World} {K : PySem.W.Frag} {mg : Str → Option Value} {base : Heap}
theorem ok_pick {f : Addr} {fd : FuncData} (F : Fun K "_law_pick" "_law_pick" sPick f fd) (T : Txt mg) (CD : Cal P w K mg base "_law_draw" 1 ["_law_pen_here", "_law_many"] spDraw) : FnOk P w K mg base CX0 2 f fd ["_law_pen_here", "_law_some"] spPick := by
  obtain ⟨fD, fdD, mD, kD, bD, GD⟩ := CD
  refine F.ok scP (fun vs H Q E h => ?_) (fun cdv A outer s H vs Q E hr h => ?_)
  · obtain ⟨p, c, ns, n, x, ys, rfl, _⟩ := h
    rfl
  · obtain ⟨p, c, ns, n, x, ys, rfl, hP, hn, hM, k⟩ := h
    obtain ⟨_, _, _, _, _, hp, _, _⟩ := id hP
    refine ⟨_, pss_one (ps_ret (pe_ix ix_seq (pv 1) (pe_call GD hr (by rfl) mD kD bD .nil pass0 (pa_cons (pv 0) (pa_cons (pe_callB call_len (by rfl) T.len PySem.boot_len (pa_cons (pv 1) pa_nil)) pa_nil))) (fun _ _ => rfl))), ?_⟩
    have hL : LenV K x H ys.length := by
      obtain ⟨_, _, h3⟩ := id hM
      rcases h3 with ⟨l, rfl, q | q⟩ | ⟨z, rfl, rfl⟩
      · exact .inl ⟨_, SqL.of q, rfl⟩
      · exact .inr ⟨_, SqT.of q, rfl⟩
      · refine ⟨?_, signs_len z⟩
        have e := signs_len z
        have h1 := hM.2.1
        rw [e] at h1
        exact Nat.le_trans h1 (by decide)
    refine ⟨_, rfl, _, rfl, _, rfl, x, ys.length, rfl, hL, ?_⟩
    refine ⟨p, c, ns, n, _, rfl, hP, hn, Int.ofNat_le.mpr hM.1, ?_, fun r H' r0 r1 hP' b => ?_⟩
    · have := hM.2.1
      omega
    · have hM' := hM.but b (fun l q => by rw [q]; exact ⟨fun z => (by rw [hp] at z; cases z), fun z => (by rw [hp] at z; cases z)⟩)
      have hr' : r.toNat < ys.length := by omega
      have hv := List.getElem?_eq_getElem hr'
      have kk := k ys[r.toNat] H' (List.getElem_mem _) hP' b
      obtain ⟨_, h1000, h3⟩ := hM'
      rcases h3 with ⟨l, rfl, q | q⟩ | ⟨z, rfl, rfl⟩
      · exact .inl ⟨l, _, _, _, rfl, rfl, SqL.of q, atI_int r0 hv, kk⟩
      · exact .inr (.inl ⟨l, _, _, _, rfl, rfl, SqT.of q, atI_int r0 hv, kk⟩)
      · have hz : r.toNat < z.cps.toList.length := by
          have e : (signs z).length = z.cps.toList.length := List.length_map _
          rw [e] at hr'
          exact hr'
        refine .inr (.inr ⟨z, r, z.cps.toList[r.toNat], rfl, rfl, ?_, atI_int r0 (List.getElem?_eq_getElem hz), ?_⟩)
        · rw [signs_len z] at h1000
          exact Nat.le_trans h1000 (by decide)
        · have e : (signs z)[r.toNat] = V.str ⟨#[z.cps.toList[r.toNat]]⟩ := List.getElem_map _
          rw [e] at kk
          exact kk
end
end K3
namespace K3
open PySem L2
def spPen (K : PySem.W.Frag) : Sp := fun vs H Q _ => ∃ (a : Addr) (ns : List Int), vs = [.ref a] ∧ SqL K H a (ns.map V.int) ∧ ns.length ≤ 63 ∧
  ∀ (p c : Addr) (H' : Hp), H p = none → H c = none → Pen H' p c ns 0 → Same H H' → Q (.ref p) H'
theorem scN : FnScope ["_law_script"] ["_law_script"] (defScope sPen) := ⟨rfl, rfl, rfl, by decide +kernel, rfl, by decide +kernel, by decide +kernel⟩
theorem cut63 {xs : List V} (h : xs.length ≤ 63) : cutV xs none (some 63) = xs := by
  have e : HT.sIx xs.length xs.length (some 63) = xs.length := by
    unfold HT.sIx
    simp
    omega
  have e0 : HT.sIx xs.length 0 none = 0 := rfl
  unfold cutV
  rw [e, e0]
  simp
section
variable {P : Program} {w : World} {K : PySem.W.Frag} {mg : Str → Option Value} {base : Heap}
theorem ok_pen {f : Addr} {fd : FuncData} (F : Fun K "_law_pen" "_law_pen" sPen f fd) (T : Txt mg) : FnOk P w K mg base CX0 1 f fd ["_law_script"] (spPen K) := by
  refine F.ok scN (fun vs H Q E h => ?_) (fun cdv A outer s H vs Q E hr h => ?_)
  · obtain ⟨a, ns, rfl, _⟩ := h
    rfl
  · obtain ⟨a, ns, rfl, hS, h63, k⟩ := h
    refine ⟨_, pss_one (ps_ret (pe_disp (pps_cons pe_str (pe_callTy call_list_of (by rfl) T.list (by decide +kernel) (pa_cons (pe_slice sl_list (pv 0) po_none (po_some pe_int)) pa_nil)) (pps_cons pe_str pe_int (pps_cons pe_str pe_int pps_nil))) (by rfl) (by rfl) (fun z => by cases z) (by decide))), ?_⟩
    intro p hp
    refine ⟨_, rfl, _, rfl, a, _, rfl, (Same.seq (fun b o e => by rw [upd_ne (ne_of_none e hp)]; exact e) hS), fun t ht => ?_⟩
    rw [cut63 (by rw [List.length_map]; exact h63)]
    refine ⟨t, _, rfl, .inl (SqL.of upd_same), fun l hl => ?_⟩
    have ntl : t ≠ l := ne_of_none upd_same hl
    have hl1 : upd H p (HO.dK []) l = none := by rw [upd_ne ntl.symm] at hl; exact hl
    have npl : p ≠ l := ne_of_none upd_same hl1
    have hl0 : H l = none := by rw [upd_ne npl.symm] at hl1; exact hl1
    have npt : p ≠ t := ne_of_none upd_same ht
    refine ⟨by rw [upd_ne npl, upd_ne npt, upd_same], [(Sum.inr "cells", .ref l), (Sum.inr "at", .int 0), (Sum.inr "left", .int 0)], rfl, (by show 3 ≤ 15; decide), ?_⟩
    refine k p l _ hp hl0 ⟨0, 0, Int.le_refl _, Int.le_refl _, Int.le_refl _, upd_same, by rw [upd_ne npl.symm, upd_same], h63⟩ (fun b o e => ?_)
    have ht0 : H t = none := by rw [upd_ne npt.symm] at ht; exact ht
    rw [upd_ne (ne_of_none e hp), upd_ne (ne_of_none e hl0), upd_ne (ne_of_none e ht0), upd_ne (ne_of_none e hp)]
    exact e
end
end K3
namespace K3
open PySem L2
theorem Pen.but {M : Addr → Prop} {H H' : Hp} {p c : Addr} {ns : List Int} {n : Nat} (h : Pen H p c ns n) (e : But M H H') (n1 : ¬ M p) (n2 : ¬ M c) : Pen H' p c ns n := by
  obtain ⟨a, l, h1, h2, h3, h4, h5, h6⟩ := h
  exact ⟨a, l, h1, h2, h3, e _ _ n1 h4, e _ _ n2 h5, h6⟩
theorem Pen.new {H : Hp} {p c : Addr} {ns : List Int} {n : Nat} (h : Pen H p c ns n) {l : Addr} {o : HO} (hl : H l = none) : Pen (upd H l o) p c ns n :=
  h.but (M := fun _ => False) ((But.refl _ H).new hl) (fun z => z) (fun z => z)
theorem Pen.fresh {H : Hp} {p c : Addr} {ns : List Int} {n : Nat} (h : Pen H p c ns n) {l : Addr} (hl : H l = none) : l ≠ p ∧ l ≠ c := by
  obtain ⟨a, b, _, _, _, h4, h5, _⟩ := h
  exact ⟨(ne_of_none h4 hl).symm, (ne_of_none h5 hl).symm⟩
/-- an object beside the pen changes -/
theorem Pen.mut {H : Hp} {p c : Addr} {ns : List Int} {n : Nat} (h : Pen H p c ns n) {l : Addr} {o : HO} (n1 : l ≠ p) (n2 : l ≠ c) : Pen (upd H l o) p c ns n :=
  h.but (M := (· = l)) ((But.refl _ H).mut rfl) (fun z => n1 z.symm) (fun z => n2 z.symm)
theorem Pen.mono {H : Hp} {p c : Addr} {ns : List Int} {n m : Nat} (h : Pen H p c ns n) (hm : n ≤ m) : Pen H p c ns m := by
  obtain ⟨a, l, h1, h2, h3, h4, h5, h6⟩ := h
  exact ⟨a, l, h1, by omega, h3, h4, h5, h6⟩
theorem Pen.ne {H : Hp} {p c : Addr} {ns : List Int} {n : Nat} (h : Pen H p c ns n) {l : Addr} {xs : List V} (q : H l = some (.lst xs)) : l ≠ p := by
  obtain ⟨a, b, _, _, _, h4, _, _⟩ := h
  exact ne_of q h4 (by intro z; cases z)
theorem Pen.neT {H : Hp} {p c : Addr} {ns : List Int} {n : Nat} (h : Pen H p c ns n) {l : Addr} {xs : List V} (q : H l = some (.tup xs)) : l ≠ p := by
  obtain ⟨a, b, _, _, _, h4, _, _⟩ := h
  exact ne_of q h4 (by intro z; cases z)
end K3
namespace K3
open PySem L2
/-! ### data of tuples -/
def Tups (H H' : Hp) : Prop := ∀ a xs, H a = some (.tup xs) → H' a = some (.tup xs)
theorem Tups.refl (H : Hp) : Tups H H := fun _ _ h => h
theorem Tups.trans {H H1 H2 : Hp} (a : Tups H H1) (b : Tups H1 H2) : Tups H H2 := fun c o h => b c o (a c o h)
theorem But.tups {M : Addr → Prop} {H H' : Hp} (e : But M H H') (n : ∀ a xs, M a → H a ≠ some (.tup xs)) : Tups H H' := fun a xs h => e a _ (fun m => n a xs m h) h
theorem Tups.new {H H' : Hp} (e : Tups H H') {p : Addr} {o : HO} (h : H' p = none) : Tups H (upd H' p o) := fun a xs z => by
  have z1 := e a xs z
  rw [upd_ne (ne_of_none z1 h)]
  exact z1
theorem Tups.mut {H H' : Hp} (e : Tups H H') {p : Addr} {u o : HO} (h : H' p = some u) (n : ∀ xs, u ≠ .tup xs) : Tups H (upd H' p o) := fun a xs z => by
  have z1 := e a xs z
  rw [upd_ne (fun q => by rw [q, h] at z1; exact n xs (Option.some.inj z1))]
  exact z1
theorem Pen.tups {H H' : Hp} {p c : Addr} {ns : List Int} {n : Nat} (h : Pen H p c ns n) (e : But (· = p) H H') : Tups H H' := e.tups fun a xs q z => by
  obtain ⟨_, _, _, _, _, h4, _, _⟩ := h
  rw [q, h4] at z
  cases z
mutual
inductive Dt (H : Hp) : V → PyData → Prop
  | non : Dt H .non .none
  | int (i : Int) : Dt H (.int i) (.int i)
  | str (z : Str) : Dt H (.str z) (.str z)
  | tup {a : Addr} {xs : List V} {ds : List PyData} : H a = some (.tup xs) → DtAll H xs ds → Dt H (.ref a) (.tuple ds)
inductive DtAll (H : Hp) : List V → List PyData → Prop
  | nil : DtAll H [] []
  | cons {v : V} {vs : List V} {d : PyData} {ds : List PyData} : Dt H v d → DtAll H vs ds → DtAll H (v :: vs) (d :: ds)
end
mutual
theorem Dt.mono {H H' : Hp} (e : Tups H H') : ∀ {d : PyData} {v : V}, Dt H v d → Dt H' v d
  | _, _, .non => .non
  | _, _, .int i => .int i
  | _, _, .str z => .str z
  | _, _, .tup h a => .tup (e _ _ h) (DtAll.mono e a)
theorem DtAll.mono {H H' : Hp} (e : Tups H H') : ∀ {ds : List PyData} {vs : List V}, DtAll H vs ds → DtAll H' vs ds
  | _, _, .nil => .nil
  | _, _, .cons h a => .cons (Dt.mono e h) (DtAll.mono e a)
end
mutual
theorem Dt.dp {K : PySem.W.Frag} {H : Hp} : ∀ {d : PyData} {v : V}, Dt H v d → Dp K H v d
  | _, _, .non => .non
  | _, _, .int i => .int i
  | _, _, .str z => .str z
  | _, _, .tup h a => .tup (SqT.of h) (DtAll.dp a)
theorem DtAll.dp {K : PySem.W.Frag} {H : Hp} : ∀ {ds : List PyData} {vs : List V}, DtAll H vs ds → DpAll K H vs ds
  | _, _, .nil => .nil
  | _, _, .cons h a => .cons (Dt.dp h) (DtAll.dp a)
end
theorem DtAll.length {H : Hp} : ∀ {ds : List PyData} {vs : List V}, DtAll H vs ds → vs.length = ds.length
  | _, _, .nil => rfl
  | _, _, .cons _ a => by rw [List.length_cons, List.length_cons, DtAll.length a]
theorem DtAll.app {H : Hp} : ∀ {ds es : List PyData} {vs ws : List V}, DtAll H vs ds → DtAll H ws es → DtAll H (vs ++ ws) (ds ++ es)
  | _, _, _, _, .nil, b => b
  | _, _, _, _, .cons h a, b => .cons h (DtAll.app a b)
theorem DtAll.drop {H : Hp} : ∀ (n : Nat) {ds : List PyData} {vs : List V}, DtAll H vs ds → DtAll H (vs.drop n) (ds.drop n)
  | 0, _, _, h => h
  | n + 1, _, _, .nil => .nil
  | n + 1, _, _, .cons _ a => DtAll.drop n a
theorem DtAll.take {H : Hp} : ∀ (n : Nat) {ds : List PyData} {vs : List V}, DtAll H vs ds → DtAll H (vs.take n) (ds.take n)
  | 0, _, _, h => .nil
  | n + 1, _, _, .nil => .nil
  | n + 1, _, _, .cons h a => .cons h (DtAll.take n a)
theorem DtAll.get {H : Hp} : ∀ {ds : List PyData} {vs : List V}, DtAll H vs ds → ∀ (i : Nat) (v : V), vs[i]? = some v → ∃ d, ds[i]? = some d ∧ Dt H v d
  | _, _, .nil, i, v, e => by simp at e
  | _, _, .cons h a, 0, v, e => by
    cases e
    exact ⟨_, rfl, h⟩
  | _, _, .cons h a, i + 1, v, e => DtAll.get a i v e
theorem DtAll.mem {H : Hp} : ∀ {ds : List PyData} {vs : List V}, DtAll H vs ds → ∀ v, v ∈ vs → ∃ d, d ∈ ds ∧ Dt H v d
  | _, _, .nil, v, e => absurd e (by simp)
  | _, _, .cons h a, v, e => by
    rcases List.mem_cons.mp e with rfl | e
    · exact ⟨_, List.mem_cons_self .., h⟩
    · obtain ⟨d, h1, h2⟩ := DtAll.mem a v e
      exact ⟨d, List.mem_cons_of_mem _ h1, h2⟩
theorem Dt.tupI {H : Hp} {a : Addr} {ds : List PyData} (h : Dt H (.ref a) (.tuple ds)) : ∃ xs, H a = some (.tup xs) ∧ DtAll H xs ds := by
  cases h with
  | tup h1 h2 => exact ⟨_, h1, h2⟩
theorem Dt.ref_of {H : Hp} {v : V} {ds : List PyData} (h : Dt H v (.tuple ds)) : ∃ a, v = .ref a := by
  cases h with
  | tup h1 h2 => exact ⟨_, rfl⟩
theorem sameBut {H H' : Hp} (s : Same H H') (M : Addr → Prop) : But M H H' := fun b o _ e => s b o e
theorem sameTups {H H' : Hp} (s : Same H H') : Tups H H' := fun a xs e => s a _ e
end K3
namespace GG
open PySem PySem.Spec PyProof.Rows L2
/-! ### defs that are called where no repr is under way: the same promises, for such callers alone -/
section
variable {P : Program} {w : World} {K : PySem.W.Frag} {mg : Str → Option Value} {base : Heap} {CX : CXT} {k : Nat} {f : Addr} {fd : FuncData} {ps : List Str} {sp : Sp}
/-- nothing is being shown by the callers -/
abbrev Free (A : Around) : Prop := A.guards = some []
def FnG (P : Program) (w : World) (K : PySem.W.Frag) (mg : Str → Option Value) (base : Heap) (CX : CXT) (k : Nat) (f : Addr) (fd : FuncData) (ps : List Str) (sp : Sp) : Prop :=
  (∀ vs H Q E, sp vs H Q E → vs.length = ps.length) ∧
  ∀ (A : Around), Free A → Room k A → ∀ (outer : List Env) (s : Shared) (H : Hp), Env0 P w K mg base A outer s H →
    ∀ (args : Args) (us : List Value) (vs : List V), BindsTo s fd args (ps.zip us) → Vals vs us → ∀ (Q : VK) (E : XK), sp vs H Q E →
      codeAny (model P w) A (.call (.ref f) args) (CR CX outer P w H s Q E) s
theorem FnG.of (F : FnOk P w K mg base CX k f fd ps sp) : FnG P w K mg base CX k f fd ps sp :=
  ⟨F.len, fun A _ hr outer s H e0 args us vs hb hv Q E hs => F.run A outer s H args us vs Q E hr e0 hb hv hs⟩
end
theorem fng_fn {CX : CXT} {P : Program} {w : World} {K : PySem.W.Frag} {mg : Str → Option Value} {base : Heap} {k : Nat} {f : Addr} {nm qn : Str} {pa : Arguments} {bd : List Stmt} {sc : Scope} {dv kv doc pm cv ct oc : Value} {an od : Option Addr}
    {sl : Array (Option Value)} {N ps : List Str} {sp : Sp} (lk : K.lookup f = some ⟨oc, od, .func (PySem.W.fnOf nm qn pa bd sc dv kv doc pm an cv ct), sl⟩) (hc : PySem.W.codeIn K cv qn = true) (S : FnScope N ps sc)
    (ln : ∀ vs H Q E, sp vs H Q E → vs.length = ps.length)
    (hbd : ∀ (A : Around) (outer : List Env) (s : Shared) (H : Hp) (vs : List V) (Q : VK) (E : XK), Free A → Room k (A.deeper (envOfC qn sc s.heap.objs.size f cv)) → sp vs H Q E →
      ∃ t, PSs (cxOf CX P w K mg base N qn sc f cv A outer s H E) bd t ∧ t { nx := fun _ H' => Q .non H', rt := Q } (start N vs) H) :
    FnG P w K mg base CX (k + 1) f (PySem.W.fnOf nm qn pa bd sc dv kv doc pm an cv ct) ps sp := by
  refine ⟨ln, ?_⟩
  intro A hg hr outer s H e0 args us vs hb rv Q E hs
  have many := ln _ _ _ _ hs
  have stay : ∀ b o, base.get? b = some o → s.heap.get? b = some o := fun b o e => (e0.bs b o e).1
  have kin : K.In s.heap := e0.mod.kin.keeps stay
  have kinds : ∀ z ∈ ps.zip us, sc.names.lookup z.1 = some .local ∨ (sc.names.lookup z.1 = some .cell ∧ ((cellsFrom (s.heap.objs.size + 1) sc.names []).lookup z.1).isSome = true) := by
    rintro ⟨y, v⟩ hz
    rcases S.par y (List.of_mem_zip hz).1 with h | h
    · exact Or.inl h
    · exact Or.inr ⟨h, PySem.W.cellsFrom_some _ _ _ (Or.inl h)⟩
  refine codeAny_call_function hr.depth (kin _ _ lk) rfl S.co S.gen rfl (PySem.W.codeRec_of kin hc) (hb _ _ _ _ (wpAny_newFunctionEnv_cells S.kind kinds ?_))
  intro env eenv s1 x
  subst eenv
  refine ⟨(e0.mod.nolimit.keeps stay).keeps x.toInCall.keep, codeAny_func ?_⟩
  obtain ⟨t, ht, hq⟩ := hbd A outer s H vs Q E hg (hr.deeper _) hs
  have I0 := inv_start (CX := CX) (E := E) S hr.hd e0 many rv x
  refine wpAny_mono (ht.run [] s1 (start N vs) H _ I0 hq) ?_ (fun e s' z => z)
  intro fl s' z
  match fl, z with
  | .ret u, ⟨v, σ', H', J, r1, q1⟩ => exact ⟨v, H', J.os, J.bare, J.base, J.hok, r1, q1⟩
  | .next, ⟨σ', H', J, q1⟩ => exact ⟨V.non, H', J.os, J.bare, J.base, J.hok, rfl, q1⟩
  | .brk, ⟨_, _, _, q1⟩ => exact q1.elim
  | .cont, ⟨_, _, _, q1⟩ => exact q1.elim
theorem deeper_free {A : Around} {e : Env} (h : Free A) : Free (A.deeper e) := h
/-- a def of the text -/
theorem fun_okG {P : Program} {w : World} {K : PySem.W.Frag} {mg : Str → Option Value} {base : Heap} {x qn : Str} {st : Stmt} {f : Addr} {fd : FuncData} {N ps : List Str} {k : Nat} {sp : Sp} (F : Fun K x qn st f fd) (S : FnScope N ps (defScope st))
    (ln : ∀ vs H Q E, sp vs H Q E → vs.length = ps.length)
    (hbd : ∀ (cdv : Value) (A : Around) (outer : List Env) (s : Shared) (H : Hp) (vs : List V) (Q : VK) (E : XK), Free (A.deeper (envOfC qn (defScope st) s.heap.objs.size f cdv)) → Room k (A.deeper (envOfC qn (defScope st) s.heap.objs.size f cdv)) → sp vs H Q E →
      ∃ t, PSs (cxOf CX0 P w K mg base N qn (defScope st) f cdv A outer s H E).nox (defBody st) t ∧ t { nx := fun _ H' => Q .non H', rt := Q } (start N vs) H) : FnG P w K mg base CX0 (k + 1) f fd ps sp := by
  obtain ⟨_, _, _, _, _, _, cdv, _, _, rfl, lk, hc⟩ := F.ex
  refine fng_fn lk hc S ln ?_
  intro A outer s H vs Q E hg hr hs
  obtain ⟨t, h1, h2⟩ := hbd cdv A outer s H vs Q E (deeper_free hg) hr hs
  exact ⟨t, h1.nox, h2⟩
section
variable {X : Cx} {CX : CXT} {k : Nat} {f : Addr} {fd : FuncData} {ps : List Str} {sp : Sp} {dvs : List V} {ds : List Value} {E : XK} {x : Str} {p pos : Pos} {e : Expr} {es : List Expr} {t : TA}
/-- f(e, ..) of such a def -/
theorem pe_callG (F : FnG X.prog X.w X.K X.mg X.base CX k f fd ps sp) (hf : Free X.A) (hr : Room k X.A) (hg : Gl X x) (hm : X.mg x = some (.ref f)) (hk : PySem.W.keepIn X.K (.ref f) = true) (hb : Binds X.K fd ps ds) (hd : Vals dvs ds) (hx : Passes CX X E)
    (ha : PA X (e :: es) t) (h1 : (x == ("__debug__" : Str)) = false := by decide) (h2 : starEach (e :: es) X.env = (false, eval e X.env) :: starEach es X.env := by rfl) (h3 : (backTo pos (starEach es X.env)).any (·.1) = false := by rfl) :
    PE X (.Call (.Name x p) (e :: es) [] pos) (tCall sp dvs E t) := by
  constructor
  intro pins s σ H Q I h
  refine wpAny_Call_Name_kw (ld_glob I hg hm (PySem.W.callWith_K (h₀ := X.base) I.ok.mod.kin hk (thn (ha.run pos pins s σ H _ I h) ?_) h2 h3) h1)
  rintro us s1 ⟨vs, H1, I1, r, q⟩
  refine ⟨I1.kIn, ?_⟩
  have r2 := r.append hd
  have many : (us ++ ds).length = ps.length := r2.length.symm.trans (F.1 _ _ _ _ q)
  refine wpAny_call (codeAny_mono (F.2 X.A hf hr X.stack s1 H1 I1.env0 ⟨us, []⟩ (us ++ ds) (vs ++ dvs) (hb s1 us I1.kIn many) r2 Q E q) ?_)
  intro r s' z
  match r, z with
  | .error e, z => exact hx pins σ H1 s1 e s' I1 z
  | .ok (.ret u), z => exact I1.after z
  | .ok .next, z => exact z.elim
  | .ok .brk, z => exact z.elim
  | .ok .cont, z => exact z.elim
/-- repr of data without dicts -/
def ShowOk (d : PyData) : Prop := d.showable = true ∧ d.hasDict = false ∧ d.depth ≤ 60 ∧ d.shown.length ≤ sizeLine ∧ (∀ i, d = .int i → i.natAbs.log2 < 1920) ∧ (∀ b, d ≠ .bool b)
def rRepr (K : PySem.W.Frag) : List V → Hp → VK → Prop := fun xs H Q => ∃ (v : V) (d : PyData), xs = [v] ∧ Dp K H v d ∧ ShowOk d ∧ Q (.str d.shown) H
end
section
variable {X : Cx}
theorem call_repr (hf : Free X.A) (hu : X.A.units + 64 < cLine) : CallR X (.builtin "repr") (rRepr X.K) := by
  intro pins s σ H xs us Q I r h
  obtain ⟨v, d, rfl, hd, ⟨h1, h2, h3, h4, h5, h6⟩, q⟩ := h
  obtain ⟨u, rfl, rv⟩ := vals1 r
  obtain ⟨as, hr⟩ := Dp.reads I d v u hd rv
  cases hd with
  | non =>
    obtain rfl : u = Value.none := rv
    exact PySem.P.repr_of_none ⟨.str _, H, I.tok _, ⟨_, rfl⟩, q⟩
  | bl b => exact absurd rfl (h6 b)
  | int i =>
    obtain ⟨t, rfl⟩ := rv
    exact PySem.P.repr_of_int (h5 i rfl) ⟨.str _, H, I.tok _, ⟨_, rfl⟩, q⟩
  | str z =>
    obtain ⟨t, rfl⟩ := rv
    exact PySem.P.repr_of_str ⟨.str _, H, I.tok _, ⟨_, rfl⟩, q⟩ h4
  | lst _ _ =>
    cases rv
    exact repr_of_reads' hr h1 (fun z => by rw [h2] at z; cases z) hf (by omega) (fun _ _ e => e) (fun h' t tk hk => ⟨.str _, H, I.kept hk, ⟨_, rfl⟩, q⟩) h4
  | tup _ _ =>
    cases rv
    exact repr_of_reads' hr h1 (fun z => by rw [h2] at z; cases z) hf (by omega) (fun _ _ e => e) (fun h' t tk hk => ⟨.str _, H, I.kept hk, ⟨_, rfl⟩, q⟩) h4
end
end GG
namespace GG
open PySem PySem.Spec PyProof.Rows L2
/-- the law itself, where its own text shows things -/
theorem law_callG {P : Program} {w : World} {K : PySem.W.Frag} {mg mb : Str → Option Value} {k : Nat} {fa a : Addr} {fd : FuncData} {x : Str} {sp : Sp} {s₁ : Shared} {vs : List Value} {ns : List Int}
    (KX : K.In s₁.heap) (gN : s₁.heap.Ns mainGlobals mg) (bN : s₁.heap.Ns builtinsNs mb) (bB : ∀ x : Str, x ≠ "__name__" → mb x = bootBuiltins x) (lim : s₁.heap.NoLimit) (gen : s₁.gens = #[])
    (ha : s₁.heap.get? a = some { cls := .type "list", data := .seq vs.toArray }) (hi : IntsAre vs ns) (hl : ns.length ≤ sizeLine) (hr : Room k callerA)
    (F : ∀ b : Heap, K.In b → b.Ns mainGlobals mg → FnG P w K mg b CX0 k fa fd [x] sp) (hb : ∀ (s : Shared) (u : Value), BindsTo s fd ⟨[u], []⟩ [(x, u)])
    (hs : ∀ H : Hp, Only H → SqL K H a (ns.map V.int) → sp [.ref a] H (fun v _ => v = .bl true) fun _ _ _ => False) :
    codeAny (model P w) callerA (.call (.ref fa) ⟨[.ref a], []⟩) (fun r s' => r = .ok (.ret (.bool true)) ∧ OldK s₁.heap s'.heap ∧ s'.os = s₁.os ∧ AllBare s'.gens) s₁ := by
  have main : ∀ H : Hp, Only H → SqL K H a (ns.map V.int) → HOk P w H s₁.heap → (∀ b, H b ≠ none → b = a ∧ K.lookup a = none) →
      codeAny (model P w) callerA (.call (.ref fa) ⟨[.ref a], []⟩) (fun r s' => r = .ok (.ret (.bool true)) ∧ OldK s₁.heap s'.heap ∧ s'.os = s₁.os ∧ AllBare s'.gens) s₁ := by
    intro H hO hS ok only
    have dic : ∀ {b : Addr} {o : Obj} {es : Array DictEntry} {ep : Nat}, s₁.heap.get? b = some o → o.data = .dict es ep → H b = none := by
      intro b o es ep e d
      match q : H b with
      | none => rfl
      | some u =>
        obtain ⟨rfl, _⟩ := only b (by rw [q]; exact fun z => by cases z)
        rw [ha] at e
        cases e
        cases d
    have ns1 : ∀ {b : Addr} {m : Str → Option Value}, s₁.heap.Ns b m → (hidT s₁.heap H).Ns b m := by
      rintro b m ⟨o, es, ep, e, d, r⟩
      exact ⟨o, es, ep, hidT_get e (dic e d), d, r⟩
    have kin : K.In (hidT s₁.heap H) := by
      intro b o e
      refine hidT_get (KX b o e) ?_
      match q : H b with
      | none => rfl
      | some u =>
        obtain ⟨rfl, h2⟩ := only b (by rw [q]; exact fun z => by cases z)
        rw [h2] at e
        cases e
    obtain ⟨mc, l1, l2⟩ := lim
    have e0 : Env0 P w K mg (hidT s₁.heap H) callerA [] s₁ H :=
      { frames := rfl, mod := ⟨kin, ns1 gN, ⟨mb, ns1 bN, bB⟩, ⟨mc, ns1 l1, l2⟩⟩, bs := fun b o e => of_hidT e, bsz := Nat.le_of_eq (hidT_size _ _), funs := trivial, frf := fun b z => (List.not_mem_nil (show b ∈ ([] : List Addr) from z)).elim, hok := ok, bare := .of_eq gen }
    refine codeAny_mono ((F _ kin (ns1 gN)).2 callerA rfl hr [] s₁ H e0 ⟨[.ref a], []⟩ [.ref a] [.ref a] (hb s₁ (.ref a)) (.cons rfl .nil) _ _ (hs H hO hS)) ?_
    intro r s' z
    match r, z with
    | .error e, z => exact z.elim
    | .ok .next, z => exact z.elim
    | .ok .brk, z => exact z.elim
    | .ok .cont, z => exact z.elim
    | .ok (.ret u), ⟨v, H', os, bare, un, ok', rv, q⟩ =>
      have q' : v = .bl true := q
      subst q'
      have eu : u = Value.bool true := rv
      subst eu
      refine ⟨rfl, OldK.of_keep ?_, os, bare⟩
      intro b o e
      match q : H b with
      | none => exact un.keep b o e q (fun z => List.not_mem_nil (show b ∈ ([] : List Addr) from z)) (fun z => List.not_mem_nil (show b ∈ ([] : List Addr) from z))
      | some u =>
        rcases hO b with z | ⟨ob, xs, z⟩
        · rw [z] at q
          cases q
        · have i1 := (ok b _ z).1
          have i2 := (ok' b _ (un.frzs b ob _ z)).1
          rw [e] at i1
          cases i1
          exact i2
  have rv := vals_ints hi
  match hk : K.lookup a with
  | some o =>
    have e := KX a o hk
    rw [ha] at e
    cases e
    exact main (fun _ => none) (fun _ => .inl rfl) (.inr ⟨_, vs.toArray, _, hk, rfl, rfl, rfl, by rw [List.size_toArray, hi.length]; exact hl, by simpa using rv⟩) (fun b u z => nomatch z) (fun b z => absurd rfl z)
  | none =>
    have atA : ∀ {b : Addr} {u : HO}, (if b = a then some (HO.frz { cls := .type "list", data := .seq vs.toArray } (.lst (ns.map V.int))) else none) = some u → b = a ∧ u = HO.frz { cls := .type "list", data := .seq vs.toArray } (.lst (ns.map V.int)) := by
      intro b u z
      by_cases hb : b = a
      · rw [if_pos hb] at z
        exact ⟨hb, (Option.some.inj z).symm⟩
      · rw [if_neg hb] at z
        cases z
    refine main (fun b => if b = a then some (.frz { cls := .type "list", data := .seq vs.toArray } (.lst (ns.map V.int))) else none) ?_ (.inl (.inr ⟨{ cls := .type "list", data := .seq vs.toArray }, if_pos rfl⟩)) ?_ ?_
    · intro b
      by_cases hb : b = a
      · exact .inr ⟨_, _, if_pos hb⟩
      · exact .inl (if_neg hb)
    · intro b u z
      obtain ⟨rfl, rfl⟩ := atA z
      exact ⟨ha, by rw [List.length_map]; exact hl, vs, _, rv, ha⟩
    · intro b z
      refine ⟨?_, hk⟩
      by_cases hb : b = a
      · exact hb
      · exact absurd (if_neg hb) z
/-- the end of a law whose text shows things -/
theorem walk_ofG {l : PySem.W.OpenLaw} {n k : Nat} {q : Program} {loose : List Str} {XP : (Str → Option Value) → Heap → Prop} {YP : World → Heap → Prop} {d : DefRec} {K : Params → PySem.W.Frag} {sp : PySem.W.Frag → Sp} {x : Str}
    (hn : l.most = some n) (h2 : n ≤ sizeLine) (hd : d.params.defaults = []) (hr : Room k callerA) (hY : ∀ (w : World) (h : Heap), YP w h → (K w.params).In h)
    (F : ∀ (w : World) (mg : Str → Option Value) (fa : Addr) (h : Heap), (K w.params).In h → h.Ns mainGlobals mg → mg d.name = some (.ref fa) → ∃ fd : FuncData, (∀ (s : Shared) (u : Value), BindsTo s fd ⟨[u], []⟩ [(x, u)]) ∧
      ∀ b : Heap, (K w.params).In b → b.Ns mainGlobals mg → FnG l.prog w (K w.params) mg b CX0 k fa fd [x] (sp (K w.params)))
    (hs : ∀ (K : PySem.W.Frag) (H : Hp) (a : Addr) (ns : List Int), ns.length ≤ n → Only H → SqL K H a (ns.map V.int) → sp K [.ref a] H (fun v _ => v = .bl true) fun _ _ _ => False) :
    PySem.W.WalkO q loose XP YP l.row.toRowW d [] (fun f vs => PySem.call f vs) := by
  refine Att.attach_call hn hd ?_
  intro w s₀ s₁ mg mb fa o pm cd doc a vs ns G Y ho hod hcd hmg hobj hints hlen hg
  have KX := hY w _ Y
  obtain ⟨fd, hb, hF⟩ := F w mg fa _ KX G.T.g hmg
  exact law_callG KX G.T.g G.T.b G.T.builtins G.T.nolimit hg hobj hints (Nat.le_trans hlen h2) hr hF hb (fun H hO hS => hs (K w.params) H a ns hlen hO hS)
end GG
namespace K3
open PySem L2 GG
theorem cutV_drop {xs : List V} {k : Nat} : cutV xs (some (k : Int)) none = xs.drop k := by
  have e1 : HT.sIx xs.length 0 (some (k : Int)) = min k xs.length := HT.sIx_nat ..
  have e2 : HT.sIx xs.length xs.length none = xs.length := rfl
  unfold cutV
  rw [e1, e2]
  by_cases h : k ≤ xs.length
  · rw [Nat.min_eq_left h]
    apply List.take_of_length_le
    rw [List.length_drop]
    exact Nat.le_refl _
  · rw [Nat.min_eq_right (by omega), List.drop_eq_nil_of_le (Nat.le_refl _), List.drop_eq_nil_of_le (by omega)]
    simp
theorem same_new {H H' : Hp} (s : Same H H') {p : Addr} {o : HO} (h : H' p = none) : Same H (upd H' p o) := fun b u z => by
  have z1 := s _ _ z
  rw [upd_ne (ne_of_none z1 h)]
  exact z1
theorem same_mut {H H' : Hp} (s : Same H H') {p : Addr} {o : HO} (h : H p = none) : Same H (upd H' p o) := fun b u z => by
  rw [upd_ne (ne_of_none z h)]
  exact s _ _ z
theorem iteYes {c A B : Prop} [Decidable c] (hc : c) (h : A) : if decide c = true then A else B := by
  rw [decide_eq_true hc]
  exact iteT h
/-! ### objects made one behind the other -/
def Trk (H : Hp) (O : List Addr) : Prop := O.Nodup ∧ ∀ a ∈ O, ∃ u, H a = some u
theorem Trk.same {H H' : Hp} {O : List Addr} (h : Trk H O) (s : Same H H') : Trk H' O := ⟨h.1, fun a m => by
  obtain ⟨u, hu⟩ := h.2 a m
  exact ⟨u, s a u hu⟩⟩
theorem Trk.not {H : Hp} {O : List Addr} (h : Trk H O) {l : Addr} (hl : H l = none) : l ∉ O := fun m => by
  obtain ⟨v, hv⟩ := h.2 l m
  rw [hl] at hv
  cases hv
theorem Trk.add {H H' : Hp} {O : List Addr} (h : Trk H O) {l : Addr} {u : HO} (hl : H l = none) (s : Same H H') (e : H' l = some u) : Trk H' (l :: O) := by
  refine ⟨List.nodup_cons.mpr ⟨h.not hl, h.1⟩, fun a m => ?_⟩
  rcases List.mem_cons.mp m with rfl | m
  · exact ⟨u, e⟩
  · exact (h.same s).2 a m
theorem Trk.two {H H' : Hp} {O : List Addr} (h : Trk H O) {l m : Addr} {u v : HO} (hl : H l = none) (hm : H m = none) (n : l ≠ m) (s : Same H H') (e : H' l = some u) (f : H' m = some v) : Trk H' (m :: l :: O) := by
  refine ⟨List.nodup_cons.mpr ⟨fun z => ?_, (h.add hl s e).1⟩, fun a z => ?_⟩
  · rcases List.mem_cons.mp z with z | z
    · exact n z.symm
    · exact h.not hm z
  · rcases List.mem_cons.mp z with rfl | z
    · exact ⟨v, f⟩
    · exact (h.add hl s e).2 a z
/-- a wire's objects beside others -/
def Dj (H : Hp) (fp O : List Addr) : Prop := (∀ a ∈ fp, ∃ u, H a = some u) ∧ ∀ a ∈ fp, a ∉ O
theorem Dj.same {H H' : Hp} {fp O : List Addr} (h : Dj H fp O) (s : Same H H') : Dj H' fp O := ⟨fun a m => by
  obtain ⟨u, hu⟩ := h.1 a m
  exact ⟨u, s a u hu⟩, h.2⟩
theorem Dj.add {H H' : Hp} {fp O : List Addr} (h : Dj H fp O) {l : Addr} (hl : H l = none) (s : Same H H') : Dj H' fp (l :: O) := ⟨(h.same s).1, fun a m z => by
  rcases List.mem_cons.mp z with z | z
  · obtain ⟨u, hu⟩ := h.1 a m
    rw [z, hl] at hu
    cases hu
  · exact h.2 a m z⟩
theorem Dj.two {H H' : Hp} {fp O : List Addr} (h : Dj H fp O) {l m : Addr} (hl : H l = none) (hm : H m = none) (s : Same H H') : Dj H' fp (m :: l :: O) := ⟨(h.same s).1, fun a z q => by
  obtain ⟨u, hu⟩ := h.1 a z
  rcases List.mem_cons.mp q with q | q
  · rw [q, hm] at hu
    cases hu
  · rcases List.mem_cons.mp q with q | q
    · rw [q, hl] at hu
      cases hu
    · exact h.2 a z q⟩
end K3
namespace GG
open PySem PySem.Spec PyProof.Rows L2
/-! ### an exception that is kept behind its clause: from there on it is tracked -/
/-- at a stands an exception of the class cls, its own dict at d -/
def exk (a : Addr) (cls : Value) (d : Option Addr) : HO := .ext fun h => ∃ (oe : Obj) (vs : Array Value), h.get? a = some oe ∧ Zc cls d oe ∧ oe.data = .fields vs
section
variable {P : Program} {w : World} {H : Hp} {h : Heap} {a : Addr} {cls : Value} {d : Option Addr}
theorem exk_ok {oe : Obj} {vs : Array Value} (e : h.get? a = some oe) (z : Zc cls d oe) (hd : oe.data = .fields vs) : ObjOk P w H h a (exk a cls d) :=
  ⟨⟨oe, vs, e, z, hd⟩, ⟨oe, e⟩, fun h1 h2 ⟨o1, v1, e1, z1, d1⟩ k => ⟨o1, v1, k _ e1, z1, d1⟩⟩
theorem exk_at (ok : HOk P w H h) (e : H a = some (exk a cls d)) : ∃ (oe : Obj) (vs : Array Value), h.get? a = some oe ∧ Zc cls d oe ∧ oe.data = .fields vs :=
  (show ObjOk P w H h a (.ext fun h => ∃ (oe : Obj) (vs : Array Value), h.get? a = some oe ∧ Zc cls d oe ∧ oe.data = .fields vs) from ok a _ e).1
end
section
variable {X : Cx} {pins : List (Addr × Obj)} {σ : L2.St} {H : Hp} {s : Shared} {a : Addr}
/-- what is known of an object of the state may be tracked from now on, where it is new and nothing leans on it -/
theorem track (I : Inv X pins σ H s) {cls : Value} {d : Option Addr} {oe : Obj} {vs : Array Value} (e : s.heap.get? a = some oe) (z : Zc cls d oe) (hd : oe.data = .fields vs) (na : H a = none) (nl : a ≠ X.env.locals)
    (n0 : X.s_0.heap.get? a = none) (np : ∀ p ∈ X.pn ++ pins, p.1 ≠ a) : Inv X pins σ (upd H a (exk a cls d)) s := by
  have no : ∀ {b : Addr} {u : HO}, H b = some u → b ≠ a := fun {b u} q r => by
    rw [r, na] at q
    cases q
  refine { ok := I.ok, os := I.os, bare := I.bare, loc := I.loc, cell := I.cell, len := I.len, base := ⟨I.base.keep, I.base.slot, fun b o q n x => ?_, I.base.there, fun b xs q => ?_, fun b o u q => ?_, fun b ps q => ?_⟩, free := ?_, freeC := fun x c q => ?_, pin := fun p hp => ?_, hok := fun b u q => ?_ }
  · have ne : b ≠ a := fun r => by
      rw [r, n0] at q
      cases q
    rw [upd_ne ne]
    exact I.base.free b o q n x
  · have q' := I.base.tups b xs q
    rw [upd_ne (no q')]
    exact q'
  · have q' := I.base.frzs b o u q
    rw [upd_ne (no q')]
    exact q'
  · obtain ⟨more, q'⟩ := I.base.tbls b ps q
    refine ⟨more, ?_⟩
    rw [upd_ne (no q')]
    exact q'
  · rw [upd_ne (Ne.symm nl)]
    exact I.free
  · have ne : c ≠ a := fun r => by
      obtain ⟨v, o, q1, q2⟩ := I.cell x c q
      rw [r, e] at q1
      cases q1
      rw [hd] at q2
      cases q2
    rw [upd_ne ne]
    exact I.freeC x c q
  · obtain ⟨q1, q2, q3⟩ := I.pin p hp
    refine ⟨q1, ?_, q3⟩
    rw [upd_ne (np p hp)]
    exact q2
  · by_cases r : b = a
    · subst r
      rw [upd_same] at q
      cases q
      exact exk_ok e z hd
    · rw [upd_ne r] at q
      refine (I.hok b u q).stay (fun _ _ _ y => y) (fun c y => ?_) (fun c xs y => ?_)
      · rw [upd_ne (no y)]
        exact y
      · rw [upd_ne (no y)]
        exact y
end
/-- what a clause 'except x as n' wishes of an exception of the body: slot i is n's; behind the suite the exception stands in the heap -/
def wKeep (K : PySem.W.Frag) (c : Value) (i : Nat) (ts : Addr → Value → Option Addr → TS) (Wo : WX) (D : Ends) : WX := fun cls d σ H =>
  ∃ b, PySem.W.exmOne K cls c = some b ∧ (b = true → ∀ a, H a = none → ts a cls d { nx := fun σ' H' => H' a = none → D.nx (σ'.set i none) (upd H' a (exk a cls d)), rt := D.rt, bk := fun σ' H' => D.bk (σ'.set i none) H', ct := fun σ' H' => D.ct (σ'.set i none) H' } (σ.set i (some (.ref a))) H) ∧
    (b = false → Wo cls d σ H)
section
variable {X : Cx} {x n : Str} {c : Value} {i : Nat} {body suite : List Stmt} {b₀ : Stmt} {np pos pos' : Pos} {tb : WX → TS} {ts : Addr → Value → Option Addr → TS} {Wo : WX}
theorem ps_try_keep (hs : X.stack = X.env :: X.outer) (hf : X.env.frame = some X.env.locals) (hex : X.ex = []) (hN : X.N.Nodup) (hi : X.N[i]? = some n) (hln : X.env.kindOf n = some .local) (hc : Names X x c) (tk : Takes X Wo)
    (hb : ∀ (W : WX) (pn : List (Addr × Obj)) (xe : Value → Shared → Prop), Takes (X.tr pn xe) W → PassesOwn (model X.prog X.w) X.A X.env xe → PSs (X.tr pn xe) body (tb W))
    (hsu : ∀ (a : Addr) (oe : Obj) (cls : Value) (d : Option Addr) (pn : List (Addr × Obj)), Zc cls d oe → (∃ vs, oe.data = .fields vs) → PSs (X.suite a ((a, oe) :: pn)) (b₀ :: suite) (ts a cls d)) :
    PS X (.Try body [.ExceptHandler (some (.Name x np)) (some n) (b₀ :: suite) pos'] [] [] pos) (fun D σ H => tb (wKeep X.K c i ts Wo D) D σ H) := by
  constructor
  intro pins s σ H D I h
  have ok := I.ok
  have frA : X.A.frames = some (X.env :: X.outer) := ok.frames.trans (congrArg some hs)
  have back : ∀ {f : Flow} {s1 : Shared} {pn' : List (Addr × Obj)} {xe : Value → Shared → Prop}, SP (X.tr (X.pn ++ pins) xe) pn' D f s1 → SP X pins D f s1 := by
    intro f s1 pn' xe q
    cases f with
    | ret u =>
      obtain ⟨v, σ1, H1, J, r, q1⟩ := q
      exact ⟨v, σ1, H1, J.ofTry ok, r, q1⟩
    | next =>
      obtain ⟨σ1, H1, J, q1⟩ := q
      exact ⟨σ1, H1, J.ofTry ok, q1⟩
    | brk =>
      obtain ⟨σ1, H1, J, q1⟩ := q
      exact ⟨σ1, H1, J.ofTry ok, q1⟩
    | cont =>
      obtain ⟨σ1, H1, J, q1⟩ := q
      exact ⟨σ1, H1, J.ofTry ok, q1⟩
  let xe : Value → Shared → Prop := fun e s₁ => wpAny (model X.prog X.w) X.A (noteFrame e X.env) (fun _ s₂ => wpAny (model X.prog X.w) X.A (setFlight e none) (fun _ s₃ =>
    wpAny (model X.prog X.w) X.A (handleBy e X.env [.ExceptHandler (some (.Name x np)) (some n) (b₀ :: suite) pos']) (SP X pins D) X.xe s₃) X.xe s₂) X.xe s₁
  have takes : Takes (X.tr (X.pn ++ pins) xe) (wKeep X.K c i ts Wo D) := by
    rintro _ s1 ⟨a, B, sI, pn1, σ1, H1, cls, d, rfl, J1, ground, up, sky, na, os, bare, b, eb, yes, not⟩
    have J : Inv X pins σ1 H1 sI := J1.ofTry ok
    have sky1 : Sky B (X.env :: X.outer) a (Zc cls d) X.env.locals s1.heap := hs ▸ sky
    refine Sky.land Zc.steady frA hf sky1 fun h2 fl up2 => ?_
    have J2 : Inv X pins σ1 H1 { s1 with heap := h2 } := J.landed ground fl.1 (up.trans up2) os bare
    obtain ⟨oe, vs, ea, za, da⟩ := fl.there
    have off : ∀ {b : Addr}, b ∈ frs (X.env :: X.outer) → b ≠ a := fun {b} m r => by
      obtain ⟨_, o, q1, q2⟩ := fl.2.2.1.mem m
      rw [r, ea] at q1
      cases q1
      exact q2 _ da
    have nl : a ≠ X.env.locals := fun r => off (List.mem_filterMap.mpr ⟨X.env, List.mem_cons_self, hf⟩) r.symm
    have nf : a ∉ X.fs := fun m => by
      obtain ⟨e, q1, q2⟩ := List.mem_filterMap.mp m
      exact off (List.mem_filterMap.mpr ⟨e, List.mem_cons_of_mem _ q1, q2⟩) rfl
    have gone : B.get? a = none := fl.2.1
    have noI : sI.heap.get? a = none := by
      cases q : sI.heap.get? a with
      | none => rfl
      | some o =>
        have y := ground a o q fun m => off (hs ▸ m) rfl
        rw [gone] at y
        cases y
    have n0 : X.s_0.heap.get? a = none := by
      cases q : X.s_0.heap.get? a with
      | none => rfl
      | some o =>
        obtain ⟨o', y⟩ := J.base.there a o q (by rw [hex]; exact List.not_mem_nil)
        rw [noI] at y
        cases y
    have npn : ∀ p ∈ X.pn ++ pins, p.1 ≠ a := fun p hp r => by
      have y := (J.pin p hp).1
      rw [r, noI] at y
      cases y
    refine wpAny_handleBy_cons (codeAny_handlers_test ?_) (by intro q; cases q)
    have ty : PySem.W.Looks (model X.prog X.w) h2 (typeOf (.ref a)) cls := fun A Q E s k q => wpAny_typeOf_ref (k _ _ ea) (by rw [za.1]; exact q)
    have S2 := J2.suite ea da na nl nf
    have named : ∀ {Q : Value → Shared → Prop} {E : Value → Shared → Prop}, Q c { s1 with heap := h2 } → wpAny (model X.prog X.w) (X.A.mark (some (.ref a))) (eval (.Name x np) X.env) Q E { s1 with heap := h2 } := by
      intro Q E q
      rcases hc with ⟨g1, g2, m | ⟨m, v, nn⟩⟩
      · exact ld_glob S2 g1 m q g2
      · exact ld_blt S2 g1 m v q nn g2
    refine named ((PySem.W.exm_one (M := model X.prog X.w) J2.kIn ty eb).here ?_)
    cases b with
    | false =>
      refine wpAny_handleBy_nil ?_
      obtain ⟨_, _, _, oe', vs', T, oT, ts', q1, q2, q3, q4, _⟩ := id fl
      unfold PySem.passOn
      refine wpAny_bind (wpAny_field q1 q3 q4 ?_)
      rw [if_neg (by simp)]
      have on : wpAny (model X.prog X.w) X.A (setFlight (.ref a) X.env.frame) (fun _ s4 => wpAny (model X.prog X.w) X.A (throw (.ref a) : Sem Flow) (SP X pins D) X.xe s4) X.xe { s1 with heap := h2 } := by
        rw [hf]
        exact HandSPX.setFlight_upZ fl fun h3 held up3 => wpAny_throw (tk _ _ ⟨a, B, sI, pins, σ1, H1, cls, d, rfl, J, ground, (up.trans up2).trans up3, .inr (.inr (hs.symm ▸ held)), na, os, bare, not rfl⟩)
      first
        | exact wpAny_bind (wpAny_pure (wpAny_bind on))
        | exact wpAny_bind on
    | true =>
      refine codeAny_handlers_suite_as ?_
      refine HandSPX.lands_againZ fl fun h3 fl3 up3 => ?_
      have J3 : Inv X pins σ1 H1 { s1 with heap := h3 } := J.landed ground fl3.1 ((up.trans up2).trans up3) os bare
      obtain ⟨o3, v3, e3, z3, d3⟩ := fl3.there
      refine store_ok (X := X.suite a ((a, o3) :: (X.pn ++ pins))) (v := .ref a) (J3.suite e3 d3 na nl nf) hN hi (show Loc X.env.scope n from .inl hln) rfl (fun s4 S4 => ?_) (.inr hln)
      refine wpAny_mono ((hsu a o3 cls d (X.pn ++ pins) z3 ⟨_, d3⟩).run [] s4 _ H1 _ S4 (yes rfl a na)) (fun f s5 q => ?_) (fun _ _ r => r.elim)
      have ends : ∀ {σ5 : L2.St} {H5 : Hp} {Q : Shared → Prop}, Inv (X.suite a ((a, o3) :: (X.pn ++ pins))) [] σ5 H5 s5 → (∀ s6, Inv (X.suite a ((a, o3) :: (X.pn ++ pins))) [] (σ5.set i none) H5 s6 → Q s6) →
          wpAny (model X.prog X.w) X.A (do bindName X.env n .none; unbindBehindTheSuite X.env n pos') (fun _ s6 => Q s6) X.xe s5 := fun {σ5 H5 Q} S k => gone_ok (X := X.suite a ((a, o3) :: (X.pn ++ pins))) S hN hi hln k
      cases f with
      | next =>
        obtain ⟨σ5, H5, S5, q5⟩ := q
        refine ends S5 fun s6 S6 => ?_
        obtain ⟨p1, p2, _⟩ := S6.pin (a, o3) (List.mem_append_left _ List.mem_cons_self)
        exact ⟨_, _, track (S6.unsuite ok) p1 z3 d3 p2 nl n0 npn, q5 p2⟩
      | brk =>
        obtain ⟨σ5, H5, S5, q5⟩ := q
        exact ends S5 fun s6 S6 => ⟨_, _, S6.unsuite ok, q5⟩
      | cont =>
        obtain ⟨σ5, H5, S5, q5⟩ := q
        exact ends S5 fun s6 S6 => ⟨_, _, S6.unsuite ok, q5⟩
      | ret u =>
        obtain ⟨v5, σ5, H5, S5, r5, q5⟩ := q
        exact ends S5 fun s6 S6 => ⟨_, _, _, S6.unsuite ok, r5, q5⟩
  refine wpAny_Try_except (wpAny_mono ((hb _ _ xe takes PassesOwn.looking).run [] s σ H D (I.toTry _) h) (fun f s1 q => ?_) fun _ _ q => q)
  have q' := back q
  cases f with
  | next => exact wpAny_execs_nil q'
  | ret u => exact q'
  | brk => exact q'
  | cont => exact q'
end
/-! ### what is asked of such a one -/
/-- what the class D says, so that its instances can be asked -/
structure ExkC (K : PySem.W.Frag) (D : Addr) : Prop where
  hg : PySem.W.findIn K (.ref D) "__getattribute__" = some (some (.builtin "BaseException.__getattribute__"))
  hk : PySem.W.findIn K (.ref D) "__getattr__" = some none
  hs : PySem.W.subIn K (.ref D) (.type "BaseException") = some true
  hd : PySem.W.hasDictIn K D = true
  ha : PySem.W.findIn K (.ref D) "__class__" = some (some (.builtin "object.__class__"))
  hn : PySem.W.specialIn K (.builtin "object.__class__") "__get__" = some (some (.builtin "getset_descriptor.__get__"))
  ht : PySem.W.takesIn K (.builtin "object.__class__") = some true
  hm : PySem.W.mroIn K D (.type "object") = some true
section
variable {X : Cx} {pins : List (Addr × Obj)} {σ : L2.St} {H : Hp} {s : Shared} {a D dd : Addr} {fs : List (Str × V)}
theorem exk_inst (I : Inv X pins σ H s) (e : H a = some (exk a (.ref D) (some dd))) (ed : H dd = some (.xd fs)) : ∃ (ox od : Obj), PySem.W.InstAt s.heap a ox D (some od) ∧ s.heap.get? dd = some od ∧ ∃ mA, s.heap.Ns1 dd mA ∧ ∀ f, RelO (fs.lookup f) (mA f) := by
  obtain ⟨oe, vs, q1, q2, q3⟩ := exk_at I.hok e
  obtain ⟨mA, ns, r⟩ := (show ObjOk X.prog X.w H s.heap dd (.xd fs) from I.hok dd _ ed)
  obtain ⟨od, _, _, q4, _⟩ := id ns
  exact ⟨oe, od, ⟨q1, q2.1, by unfold PySem.W.notCls; rw [q3] <;> rfl, by rw [q2.2]; exact q4⟩, q4, mA, ns, r⟩
theorem exk_kit (C : ExkC X.K D) {ox od : Obj} : PySem.W.KitX X.K (.ref a) (.ref D) (fun h => PySem.W.InstAt h a ox D (some od)) := by
  obtain ⟨cd, hc, _⟩ := PySem.W.any_some C.hd
  exact PySem.W.kitx_exc (by rw [hc]; rfl) C.hg C.hk C.hs C.ha C.hn C.ht C.hm
/-- isinstance(e, c), e a kept exception -/
def rIsiK1 (K : PySem.W.Frag) : List V → Hp → VK → Prop := fun xs H Q => ∃ (a D dd : Addr) (fs : List (Str × V)) (c : V) (u : Value) (b : Bool), xs = [.ref a, c] ∧ ClsV c u ∧ H a = some (exk a (.ref D) (some dd)) ∧ H dd = some (.xd fs) ∧ ExkC K D ∧ PySem.W.kitOne K (.ref D) u = some b ∧ Q (.bl b) H
/-- isinstance(e, (c1, ..)) -/
def rIsiKT (K : PySem.W.Frag) : List V → Hp → VK → Prop := fun xs H Q => ∃ (a D dd tp : Addr) (fs : List (Str × V)) (cs : List V) (us : List Value) (b : Bool), xs = [.ref a, .ref tp] ∧ H tp = some (.tup cs) ∧ Paired ClsV cs us ∧ H a = some (exk a (.ref D) (some dd)) ∧ H dd = some (.xd fs) ∧ ExkC K D ∧
  PySem.W.kitAny K (.ref D) us = some b ∧ Q (.bl b) H
theorem call_isiK1 : CallR X (.builtin "isinstance") (rIsiK1 X.K) := by
  intro pins s σ H xs us Q I r h
  obtain ⟨a, D, dd, fs, c, u, b, rfl, k, e, ed, C, kb, q⟩ := h
  obtain ⟨u1, u2, rfl, r1, r2⟩ := vals2 r
  cases (show u1 = Value.ref a from r1)
  cases k.eq r2
  obtain ⟨ox, od, J, _⟩ := exk_inst I e ed
  exact PySem.W.kia_one (exk_kit C) I.kIn J kb (fun z => nomatch z) fun tk => ⟨.bl b, H, I.tok tk, rfl, q⟩
theorem call_isiKT : CallR X (.builtin "isinstance") (rIsiKT X.K) := by
  intro pins s σ H xs us Q I r h
  obtain ⟨a, D, dd, tp, fs, cs, ws, b, rfl, hT, k, e, ed, C, kb, q⟩ := h
  obtain ⟨u1, u2, rfl, r1, r2⟩ := vals2 r
  cases (show u1 = Value.ref a from r1)
  cases (show u2 = Value.ref tp from r2)
  obtain ⟨ox, od, J, _⟩ := exk_inst I e ed
  obtain ⟨_, its, rv, o, h1, h2, n, h3⟩ := (show ObjOk X.prog X.w H s.heap tp (.tup cs) from I.hok tp _ hT)
  cases ClsV.all k rv
  obtain ⟨oc, od', dt, sl⟩ := o
  simp only at h2 h3
  subst h2 h3
  exact PySem.W.kia_tup (exk_kit C) I.kIn J h1 kb (fun z => nomatch z) fun tk => ⟨.bl b, H, I.tok tk, rfl, q⟩
/-- e.f, e a kept exception -/
def tExf (K : PySem.W.Frag) (f : Str) (te : TE) : TE := fun σ H Q => te σ H fun x H1 => ∃ (a D dd : Addr) (fs : List (Str × V)) (v : V), x = .ref a ∧ H1 a = some (exk a (.ref D) (some dd)) ∧ H1 dd = some (.xd fs) ∧ ExkC K D ∧ PySem.W.findIn K (.ref D) f = some none ∧ fs.lookup f = some v ∧ Q v H1
theorem pe_exf {e : Expr} {te : TE} {f : Str} {pos : Pos} (he : PE X e te) (hb : attributeBase e f X.env (eval e X.env) = eval e X.env := by rfl) : PE X (.Attribute e f pos) (tExf X.K f te) := by
  constructor
  intro pins s σ H Q I h
  refine attr_of hb (thn (he.run pins s σ H _ I h) ?_)
  rintro u s1 ⟨x, H1, I1, rx, a, D, dd, fs, v, rfl, ea, ed, C, hn, hv, q⟩
  obtain rfl : u = Value.ref a := rx
  obtain ⟨ox, od, J, q4, mA, ns, r⟩ := exk_inst I1 ea ed
  obtain ⟨od', q5, l⟩ := lookIn_ns ns
  rw [q4] at q5
  cases q5
  obtain ⟨u', hu, ru⟩ := RelO.some_of (v := v) (o := mA f) (hv ▸ r f)
  exact HandSPX.exc_get I1.kIn J C.hg C.hk C.hs (PySem.W.findObj_own C.hd hn rfl (by rw [l, hu])) (handed_of ru) ⟨v, H1, I1.tok _, ru, q⟩
end
end GG
namespace K3
open PySem PySem.Spec PyProof.Rows L2 GG
/-! ### data with truths, lists and dicts; where they stand, nothing of M stands -/
def keyD : Key → PyData
  | .inl i => .int i
  | .inr z => .str z
mutual
inductive Dx (M : Addr → Prop) (H : Hp) : V → PyData → Prop
  | non : Dx M H .non .none
  | bl (b : Bool) : Dx M H (.bl b) (.bool b)
  | int (i : Int) : Dx M H (.int i) (.int i)
  | str (z : Str) : Dx M H (.str z) (.str z)
  | lst {a : Addr} {xs : List V} {ds : List PyData} : ¬ M a → H a = some (.lst xs) → DxAll M H xs ds → Dx M H (.ref a) (.list ds)
  | tup {a : Addr} {xs : List V} {ds : List PyData} : ¬ M a → H a = some (.tup xs) → DxAll M H xs ds → Dx M H (.ref a) (.tuple ds)
  | dic {a : Addr} {kvs : List (Key × V)} {es : List (PyData × PyData)} : ¬ M a → H a = some (.dK kvs) → DxKv M H kvs es → Dx M H (.ref a) (.dict es)
inductive DxAll (M : Addr → Prop) (H : Hp) : List V → List PyData → Prop
  | nil : DxAll M H [] []
  | cons {v : V} {vs : List V} {d : PyData} {ds : List PyData} : Dx M H v d → DxAll M H vs ds → DxAll M H (v :: vs) (d :: ds)
inductive DxKv (M : Addr → Prop) (H : Hp) : List (Key × V) → List (PyData × PyData) → Prop
  | nil : DxKv M H [] []
  | cons {k : Key} {v : V} {d : PyData} {kvs : List (Key × V)} {es : List (PyData × PyData)} : Dx M H v d → DxKv M H kvs es → DxKv M H ((k, v) :: kvs) ((keyD k, d) :: es)
end
mutual
theorem Dx.mono {M : Addr → Prop} {H H' : Hp} (e : But M H H') : ∀ {d : PyData} {v : V}, Dx M H v d → Dx M H' v d
  | _, _, .non => .non
  | _, _, .bl b => .bl b
  | _, _, .int i => .int i
  | _, _, .str z => .str z
  | _, _, .lst n h a => .lst n (e _ _ n h) (DxAll.mono e a)
  | _, _, .tup n h a => .tup n (e _ _ n h) (DxAll.mono e a)
  | _, _, .dic n h a => .dic n (e _ _ n h) (DxKv.mono e a)
theorem DxAll.mono {M : Addr → Prop} {H H' : Hp} (e : But M H H') : ∀ {ds : List PyData} {vs : List V}, DxAll M H vs ds → DxAll M H' vs ds
  | _, _, .nil => .nil
  | _, _, .cons h a => .cons (Dx.mono e h) (DxAll.mono e a)
theorem DxKv.mono {M : Addr → Prop} {H H' : Hp} (e : But M H H') : ∀ {es : List (PyData × PyData)} {kvs : List (Key × V)}, DxKv M H kvs es → DxKv M H' kvs es
  | _, _, .nil => .nil
  | _, _, .cons h a => .cons (Dx.mono e h) (DxKv.mono e a)
end
mutual
theorem Dt.dx {M : Addr → Prop} {H : Hp} (n : ∀ a xs, M a → H a ≠ some (.tup xs)) : ∀ {d : PyData} {v : V}, Dt H v d → Dx M H v d
  | _, _, .non => .non
  | _, _, .int i => .int i
  | _, _, .str z => .str z
  | _, _, .tup h a => .tup (fun m => n _ _ m h) h (DtAll.dx n a)
theorem DtAll.dx {M : Addr → Prop} {H : Hp} (n : ∀ a xs, M a → H a ≠ some (.tup xs)) : ∀ {ds : List PyData} {vs : List V}, DtAll H vs ds → DxAll M H vs ds
  | _, _, .nil => .nil
  | _, _, .cons h a => .cons (Dt.dx n h) (DtAll.dx n a)
end
theorem DxAll.length {M : Addr → Prop} {H : Hp} : ∀ {ds : List PyData} {vs : List V}, DxAll M H vs ds → vs.length = ds.length
  | _, _, .nil => rfl
  | _, _, .cons _ a => by rw [List.length_cons, List.length_cons, DxAll.length a]
theorem DxAll.app {M : Addr → Prop} {H : Hp} : ∀ {ds es : List PyData} {vs ws : List V}, DxAll M H vs ds → DxAll M H ws es → DxAll M H (vs ++ ws) (ds ++ es)
  | _, _, _, _, .nil, b => b
  | _, _, _, _, .cons h a, b => .cons h (DxAll.app a b)
theorem DxAll.drop {M : Addr → Prop} {H : Hp} : ∀ (n : Nat) {ds : List PyData} {vs : List V}, DxAll M H vs ds → DxAll M H (vs.drop n) (ds.drop n)
  | 0, _, _, h => h
  | n + 1, _, _, .nil => .nil
  | n + 1, _, _, .cons _ a => DxAll.drop n a
theorem DxAll.take {M : Addr → Prop} {H : Hp} : ∀ (n : Nat) {ds : List PyData} {vs : List V}, DxAll M H vs ds → DxAll M H (vs.take n) (ds.take n)
  | 0, _, _, h => .nil
  | n + 1, _, _, .nil => .nil
  | n + 1, _, _, .cons h a => .cons h (DxAll.take n a)
theorem DxAll.rev {M : Addr → Prop} {H : Hp} : ∀ {ds : List PyData} {vs : List V}, DxAll M H vs ds → DxAll M H vs.reverse ds.reverse
  | _, _, .nil => .nil
  | _, _, .cons h a => by
    rw [List.reverse_cons, List.reverse_cons]
    exact (DxAll.rev a).app (.cons h .nil)
theorem DxAll.get {M : Addr → Prop} {H : Hp} : ∀ {ds : List PyData} {vs : List V}, DxAll M H vs ds → ∀ (i : Nat) (v : V), vs[i]? = some v → ∃ d, ds[i]? = some d ∧ Dx M H v d
  | _, _, .nil, i, v, e => by simp at e
  | _, _, .cons h a, 0, v, e => by
    cases e
    exact ⟨_, rfl, h⟩
  | _, _, .cons h a, i + 1, v, e => DxAll.get a i v e
theorem Dx.tupI {M : Addr → Prop} {H : Hp} {a : Addr} {ds : List PyData} (h : Dx M H (.ref a) (.tuple ds)) : ∃ xs, H a = some (.tup xs) ∧ DxAll M H xs ds := by
  cases h with
  | tup n h1 h2 => exact ⟨_, h1, h2⟩
theorem Dx.ref_of {M : Addr → Prop} {H : Hp} {v : V} {ds : List PyData} (h : Dx M H v (.tuple ds)) : ∃ a, v = .ref a := by
  cases h with
  | tup n h1 h2 => exact ⟨_, rfl⟩
/-- the type of data -/
def tyD : PyData → String
  | .none => "NoneType"
  | .bool _ => "bool"
  | .int _ => "int"
  | .str _ => "str"
  | .list _ => "list"
  | .tuple _ => "tuple"
  | .dict _ => "dict"
theorem Dx.type {K : PySem.W.Frag} {M : Addr → Prop} {H : Hp} {v : V} {d : PyData} (h : Dx M H v d) : TyX K H v (.type (tyD d)) := by
  cases h with
  | non => exact .base .non
  | bl b => exact .base (.bl b)
  | int i => exact .base (.int i)
  | str z => exact .base (.str z)
  | lst n e a => exact .base (.lst e)
  | tup n e a => exact .base (.tup e)
  | dic n e a => exact .base (.dK e)
section
variable {X : Cx} {pins : List (Addr × Obj)} {σ : L2.St} {H : Hp} {s : Shared} {M : Addr → Prop}
theorem key_reads {k : Key} {u : Value} (e : keyIs k u = true) : Reads s.heap u (keyD k) [] := by
  rcases keyIs_shape e with ⟨i, t, rfl, rfl⟩ | ⟨z, t, rfl, rfl⟩
  · exact .int i t
  · exact .str z t
mutual
theorem Dx.reads (I : Inv X pins σ H s) : ∀ (d : PyData) (v : V) (u : Value), Dx M H v d → RelV v u → ∃ as, Reads s.heap u d as
  | .none, _, u, h, r => by
    cases h
    obtain rfl : u = .none := r
    exact ⟨_, .none⟩
  | .bool b, _, u, h, r => by
    cases h
    obtain rfl : u = .bool b := r
    exact ⟨_, .bool b⟩
  | .int i, _, u, h, r => by
    cases h
    obtain ⟨t, rfl⟩ := r
    exact ⟨_, .int i t⟩
  | .str z, _, u, h, r => by
    cases h
    obtain ⟨t, rfl⟩ := r
    exact ⟨_, .str z t⟩
  | .list ds, _, u, h, r => by
    cases h with
    | lst n e a =>
      obtain rfl : u = .ref _ := r
      obtain ⟨_, its, n', rv, q⟩ := (show ObjOk X.prog X.w H s.heap _ (.lst _) from I.hok _ _ e)
      obtain ⟨as, q2⟩ := DxAll.reads I ds _ its a rv
      exact ⟨_, .list q rfl rfl (by simpa using q2)⟩
  | .tuple ds, _, u, h, r => by
    cases h with
    | tup n e a =>
      obtain rfl : u = .ref _ := r
      obtain ⟨_, its, rv, o, q, qc, n', qd⟩ := (show ObjOk X.prog X.w H s.heap _ (.tup _) from I.hok _ _ e)
      obtain ⟨as, q2⟩ := DxAll.reads I ds _ its a rv
      exact ⟨_, .tuple q qc qd (by simpa using q2)⟩
  | .dict es, _, u, h, r => by
    cases h with
    | dic n e a =>
      obtain rfl : u = .ref _ := r
      obtain ⟨_, _, vs, rel, o, es', ep, q, qx, qd, _, qp, _⟩ := (show ObjOk X.prog X.w H s.heap _ (.dK _) from I.hok _ _ e)
      obtain ⟨as, bs, q1, q2⟩ := DxKv.reads I es _ vs es'.toList a rel qp
      exact ⟨_, .dict q qx.1 qd q1 q2⟩
theorem DxAll.reads (I : Inv X pins σ H s) : ∀ (ds : List PyData) (vs : List V) (us : List Value), DxAll M H vs ds → Vals vs us → ∃ as, ReadsAll s.heap us ds as
  | [], _, _, h, r => by
    cases h
    cases r
    exact ⟨_, .nil⟩
  | d :: ds, _, _, h, r => by
    cases h with
    | cons h1 h2 =>
      cases r with
      | cons r1 r2 =>
        obtain ⟨as, q1⟩ := Dx.reads I d _ _ h1 r1
        obtain ⟨bs, q2⟩ := DxAll.reads I ds _ _ h2 r2
        exact ⟨_, .cons q1 q2⟩
theorem DxKv.reads (I : Inv X pins σ H s) : ∀ (es : List (PyData × PyData)) (kvs : List (Key × V)) (vs : List (Key × Value)) (l : List DictEntry), DxKv M H kvs es → KV kvs vs → Pairs (mixKind X.prog X.w) l vs →
    ∃ as bs, ReadsAll s.heap (l.map (·.key)) (es.map (·.1)) as ∧ ReadsAll s.heap (l.map (·.val)) (es.map (·.2)) bs
  | [], _, _, _, h, r, p => by
    cases h
    cases r
    cases p
    exact ⟨_, _, .nil, .nil⟩
  | e :: es, _, _, _, h, r, p => by
    cases h with
    | cons h1 h2 =>
      cases r with
      | cons r1 r2 =>
        cases p with
        | cons p1 p2 p3 =>
          obtain ⟨rk, rv⟩ := r1
          obtain ⟨as, q1⟩ := Dx.reads I _ _ _ h1 rv
          obtain ⟨cs, ds, q2, q3⟩ := DxKv.reads I es _ _ _ h2 r2 p3
          simp only at rk
          subst rk
          refine ⟨_, _, .cons (key_reads p1) q2, .cons (p2.symm ▸ q1) q3⟩
end
end
end K3
namespace GG
open PySem PySem.Spec PyProof.Rows L2
/-! ### an own class over Exception, its own __init__ storing one field -/
structure OexE (K : PySem.W.Frag) (C : Addr) : Prop where
  seen : ∃ nm q N bs sn sub ab col dd k0 k1 k2 k3 k5, K.lookup C = some (excClassObj nm q C N bs PySem.ESX.exTail true sn sub ab col dd k0 k1 k2 k3 k5 "Exception.__new__")
  store : PySem.W.findIn K (.ref C) "__setattr__" = some (some (.builtin "object.__setattr__"))
  base : PySem.W.subIn K (.ref C) (.type "BaseException") = some true
  type : PySem.W.typeIn K (.ref C) = some (.type "type")
  keep : PySem.W.keepIn K (.ref C) = true
/-- self.f = e in such an __init__ -/
def tOne (K : PySem.W.Frag) (f : Str) (to te : TE) : TS := fun D σ H => te σ H fun y H1 => to σ H1 fun x H2 => ∃ a C : Addr, x = .ref a ∧ OexE K C ∧ PySem.W.findIn K (.ref C) f = some none ∧ H2 a = some (exo a C none) ∧
  ∀ dx, H2 dx = none → dx ≠ a → D.nx σ (upd (upd H2 dx (exd dx [(f, y)])) a (exo a C (some dx)))
section
variable {X : Cx} {pins : List (Addr × Obj)} {σ : L2.St} {H : Hp} {s : Shared} {a C : Addr} {f : Str} {y : V} {u : Value} {Q : Unit → Shared → Prop} {E : Value → Shared → Prop} {A : Around}
/-- the field is stored: the instance has a dict of its own now -/
theorem one_stored (T : OexE X.K C) (I : Inv X pins σ H s) (ea : H a = some (exo a C none)) (no : PySem.W.findIn X.K (.ref C) f = some none) (ry : RelV y u)
    (k : ∀ dx s', H dx = none → dx ≠ a → Inv X pins σ (upd (upd H dx (exd dx [(f, y)])) a (exo a C (some dx))) s' → Q () s') : wpAny (model X.prog X.w) A (setAttr (.ref a) f u) Q E s := by
  obtain ⟨nm, q, N, bs, sn, sub, ab, col, dd, k0, k1, k2, k3, k5, hC⟩ := T.seen
  have cd : ∃ cd, PySem.W.clsIn X.K C = some cd ∧ cd.mro = .ref C :: PySem.ESX.exTail ∧ cd.hasDict = true := by
    unfold PySem.W.clsIn
    rw [hC]
    exact ⟨_, rfl, rfl, rfl⟩
  obtain ⟨cd, c1, c2, c3⟩ := cd
  obtain ⟨t1, at1⟩ := exo_at I.hok ea
  obtain ⟨hp, g, d, t, os⟩ := s
  refine PySem.W.set_plain I.kIn (od := none) ⟨at1, rfl, rfl, trivial⟩ T.store (PySem.ESX.osa_new I.kIn at1 c1 c2 c3 no fun h' tk' dx same far off here names => ?_)
  have z : H dx = none := I.hok.fresh far
  have old : ∀ b o, hp.get? b = some o → b ≠ dx := fun b o r => Nat.ne_of_lt (Nat.lt_of_lt_of_le (Heap.lt_size r) far)
  have other : ∀ b, H b = none → b ≠ a := fun b r w => nomatch (show none = some (exo a C none) by rw [← ea, ← w, r])
  have tracked : ∀ b (o : HO), H b = some o → b ≠ dx := fun b o r w => nomatch (show none = some o by rw [← r, w, z])
  have unlike : ∀ b (o : HO), H b = some o → exo a C none ≠ o → b ≠ a := fun b o r d w => d (Option.some.inj (ea.symm.trans (w ▸ r)))
  have gone : ∀ b (o : HO), H b = some o → exo a C none ≠ o → upd (upd H dx (exd dx [(f, y)])) a (exo a C (some dx)) b = some o := fun b o r d => by
    rw [upd_ne (unlike b o r d), upd_ne (tracked b o r), r]
  refine k dx ⟨h', g, d, tk', os⟩ z off (I.un (t' := tk') ⟨fun b o r n _ _ => same b o (other b n) r, fun b o r n _ _ => ⟨_, same b o (other b n) r⟩, fun b o r n _ => ?_, fun b o r _ => ?_, fun b xs r => gone b _ r exo_tup,
    fun b o v r => gone b _ r exo_frz, fun b ps r => ⟨#[], ?_⟩⟩ fun b o r => ?_)
  · rw [upd_ne (other b n), upd_ne (old b o r), n]
  · by_cases w : b = a
    · exact ⟨_, w ▸ here⟩
    · exact ⟨_, same b o w r⟩
  · rw [gone b _ r exo_tbl]
    simp
  · by_cases w : b = a
    · subst w
      cases upd_same.symm.trans r
      exact exo_ok here
    · rw [upd_ne w] at r
      by_cases v : b = dx
      · subst v
        cases upd_same.symm.trans r
        exact exd_ok names (relO_put (fs := []) ry fun _ => True.intro)
      · rw [upd_ne v] at r
        refine (I.hok b o r).stay (fun c o' hc q' => same c o' ?_ q') (fun c hc => gone c _ hc exo_own) (fun c xs hc => gone c _ hc exo_tup)
        exact hc.elim (fun q => q ▸ w) fun q => unlike c _ q exo_own
end
section
variable {X : Cx} {o e : Expr} {es : List Expr} {to te : TE} {ta : TA} {f : Str} {p p' pos : Pos}
theorem ps_one1 (ho : PE X o to) (he : PE X e te) (hs : swapsWith e (some (.Attribute o f p')) pos.line X.env = pure false := by rfl) : PS X (.Assign [.Attribute o f p'] e pos) (tOne X.K f to te) := by
  constructor
  intro pins s σ H D I h
  refine plainObj_wpAny_Assign_Attribute (thn (he.run pins s σ H _ I h) ?_) hs
  rintro v s1 ⟨y, H1, I1, r1, q1⟩
  refine thn (ho.run pins s1 σ H1 _ I1 q1) ?_
  rintro u s2 ⟨x, H2, I2, r2, a, C, rfl, T, no, ea, q⟩
  cases (show u = Value.ref a from r2)
  exact one_stored T I2 ea no r1 fun dx s' n ne J => ⟨σ, _, J, q dx n ne⟩
/-- C(e, ..), to be raised -/
theorem pmk_one {CX : CXT} {x : Str} {C fI : Addr} {k : Nat} {fd : FuncData} {ps : List Str} {sp : Sp} {ds : List Value} {dvs : List V} (T : OexE X.K C) (iC : PySem.W.findIn X.K (.ref C) "__init__" = some (some (.ref fI))) (tI : PySem.W.typeIn X.K (.ref fI) = some (.type "function"))
    (GI : FnOk X.prog X.w X.K X.mg X.base CX k fI fd ps sp) (hr : Room (k + 1) X.A) (hb : Binds X.K fd ps ds) (hd : Vals dvs ds) (hx : Passes CX X (fun _ _ _ => False)) (hg : Gl X x) (hm : X.mg x = some (.ref C)) (ha : PA X (e :: es) ta)
    (dbg : (x == ("__debug__" : Str)) = false := by decide) (one : starEach (e :: es) X.env = (false, eval e X.env) :: starEach es X.env := by rfl) (hpl : (backTo pos (starEach es X.env)).any (·.1) = false := by rfl) :
    L2N.PMk X (.Call (.Name x p) (e :: es) [] pos) (tMkO C sp dvs ta) := by
  intro pins s σ H Q I h
  obtain ⟨nm, q, N, bs, sn, sub, ab, col, dd, k0, k1, k2, k3, k5, hC⟩ := T.seen
  refine wpAny_Call_Name_kw (ld_glob I hg hm ?_ dbg)
  refine PySem.W.callWith_K (h₀ := X.base) I.ok.mod.kin T.keep (thn (ha.run pos pins s σ H _ I h) ?_) one hpl
  rintro us ⟨hp, g, dr, tk, os⟩ ⟨vs, H1, I1, r1, hz, q1⟩
  refine ⟨I1.kIn, ?_⟩
  show wpAny _ _ (call (.ref C) us) _ _ _
  -- the new instance stands behind the tuple of its arguments
  have free1 : H1 (hp.objs.size + 1) = none := I1.hok.fresh (Nat.le_succ _)
  have hq := q1 _ free1
  generalize hG : (hp.push (PySem.W.kdv_tup us)).push (PySem.HandSPX.excO C hp.objs.size) = G
  have grown : ∀ b o, hp.get? b = some o → G.get? b = some o := fun b o r => hG ▸ Heap.get?_push_of_some _ (Heap.get?_push_of_some _ r)
  have newAt : G.get? (hp.objs.size + 1) = some (PySem.HandSPX.excO C hp.objs.size) := by
    rw [← hG]
    heap_get
  have I2 : Inv X pins σ (upd H1 (hp.objs.size + 1) (exo (hp.objs.size + 1) C none)) ⟨G, g, dr, tk, os⟩ := I1.laid (t' := tk) grown (Nat.le_succ _) (exo_ok newAt)
  have r2 : Vals (V.ref (hp.objs.size + 1) :: (vs ++ dvs)) (Value.ref (hp.objs.size + 1) :: (us ++ ds)) := Paired.cons rfl (r1.append hd)
  have many : us.length ≤ sizeLine := by
    rw [← Paired.length r1]
    exact Nat.le_trans hz (by decide)
  have even : (Value.ref (hp.objs.size + 1) :: us ++ ds).length = ps.length := r2.length.symm.trans (GI.len _ _ _ _ hq)
  have run := GI.run _ X.stack _ _ ⟨Value.ref (hp.objs.size + 1) :: us, []⟩ (Value.ref (hp.objs.size + 1) :: (us ++ ds)) _ _ (fun _ _ _ => False) (hr.make C us []) (I2.env0.make C us []) (hb _ (Value.ref (hp.objs.size + 1) :: us) I2.kIn even) r2 hq
  refine wpAny_call (PySem.HandSPX.call_own PySem.F.excBase_Exception (fun _ => rfl) (I1.kIn _ _ hC) (PySem.W.looks_findIn I1.kIn iC) (fun self => PySem.W.bind_fn I1.kIn self tI) many ?_)
  rw [hG]
  refine codeAny_mono run ?_
  rintro (er | fl) s' out
  · exact hx pins σ _ _ er s' I2 out
  cases fl with
  | ret u =>
    obtain ⟨v, H2, os2, bare, un, ok2, rv, rfl, d, fs, e1, e2, e3, q2⟩ := out
    obtain ⟨h2, g2, d2, t2, os'⟩ := s'
    obtain ⟨t0, B, J, kB, gB, hoe, na⟩ := mk_end0 (d2 := d2) (t2 := t2) I1 (Nat.le_succ _) grown un ok2 os2 bare e1 e2 e3
    exact ⟨rv, hp.objs.size + 1, _, _, ⟨B, g2, d2, t2, os'⟩, _, .ref C, some d, rfl, J, kB, gB, hoe, ⟨rfl, rfl, fun vs q => by cases q; rfl⟩, rfl, rfl, na, rfl, bare, raises_own T.base T.type, q2⟩
  | next => exact out.elim
  | brk => exact out.elim
  | cont => exact out.elim
end
/-- a def that may raise where nothing is handled: its exceptions' context is None -/
theorem okN {P : Program} {w : World} {K : PySem.W.Frag} {mg : Str → Option Value} {base : Heap} {x qual : Str} {st : Stmt} {f : Addr} {fd : FuncData} {N ps : List Str} {k : Nat} {sp : Sp} (F : Fun K x qual st f fd) (S : FnScope N ps (defScope st)) (len : ∀ vs H Q E, sp vs H Q E → vs.length = ps.length)
    (walk : ∀ (cdv : Value) (A : Around) (outer : List Env) (s : Shared) (H : Hp) (vs : List V) (Q : VK) (E : XK), Room k (A.deeper (envOfC qual (defScope st) s.heap.objs.size f cdv)) → sp vs H Q E →
      ∃ t, PSs (cxOf (L2N.CX P w) P w K mg base N qual (defScope st) f cdv A outer s H E) (defBody st) t ∧ t { nx := fun _ H' => Q .non H', rt := Q } (L2.start N vs) H) : FnOk P w K mg base (L2N.CX P w) (k + 1) f fd ps sp := by
  obtain ⟨_, _, _, _, _, _, cdv, _, _, rfl, lk, hcd⟩ := F.ex
  exact fn_of lk hcd S len fun A outer s H vs Q E hr h => walk cdv A outer s H vs Q E hr h
end GG
namespace K3
open PySem L2 GG
abbrev sCopied : Stmt := top 14
theorem scCo : FnScope ["thing", "rows", "key", "part", "parts"] ["thing"] (defScope sCopied) := ⟨rfl, rfl, rfl, by decide +kernel, rfl, by decide +kernel, by decide +kernel⟩
theorem depthAll_mem : ∀ {ds : List PyData} {d : PyData}, d ∈ ds → d.depth ≤ PyData.depthAll ds
  | a :: r, d, h => by
    simp only [PyData.depthAll]
    rcases List.mem_cons.mp h with rfl | h
    · omega
    · have := depthAll_mem h
      omega
theorem kit_any {K : PySem.W.Frag} {t a b : Value} {x y : Bool} (h1 : PySem.W.kitOne K t a = some x) (h2 : PySem.W.kitOne K t b = some y) : PySem.W.kitAny K t [a, b] = some (x || y) := by
  cases x <;> cases y <;> simp [PySem.W.kitAny, h1, h2]
end K3
namespace K3
open PySem PySem.Spec PyProof.Rows L2 GG
/-! ### what stands away from an address; copied, of data with lists and dicts -/
section
variable {M : Addr → Prop} {H : Hp}
mutual
theorem Dx.det : ∀ {d d' : PyData} {v : V}, Dx M H v d → Dx M H v d' → d = d'
  | _, _, _, .non, h => by cases h; rfl
  | _, _, _, .bl b, h => by cases h; rfl
  | _, _, _, .int i, h => by cases h; rfl
  | _, _, _, .str z, h => by cases h; rfl
  | _, _, _, .lst n e a, h => by
    cases h with
    | lst n' e' a' =>
      rw [e] at e'
      cases e'
      rw [DxAll.det a a']
    | tup n' e' a' =>
      rw [e] at e'
      cases e'
    | dic n' e' a' =>
      rw [e] at e'
      cases e'
  | _, _, _, .tup n e a, h => by
    cases h with
    | lst n' e' a' =>
      rw [e] at e'
      cases e'
    | tup n' e' a' =>
      rw [e] at e'
      cases e'
      rw [DxAll.det a a']
    | dic n' e' a' =>
      rw [e] at e'
      cases e'
  | _, _, _, .dic n e a, h => by
    cases h with
    | lst n' e' a' =>
      rw [e] at e'
      cases e'
    | tup n' e' a' =>
      rw [e] at e'
      cases e'
    | dic n' e' a' =>
      rw [e] at e'
      cases e'
      rw [DxKv.det a a']
theorem DxAll.det : ∀ {ds ds' : List PyData} {vs : List V}, DxAll M H vs ds → DxAll M H vs ds' → ds = ds'
  | _, _, _, .nil, h => by cases h; rfl
  | _, _, _, .cons h1 h2, h => by
    cases h with
    | cons h1' h2' => rw [Dx.det h1 h1', DxAll.det h2 h2']
theorem DxKv.det : ∀ {es es' : List (PyData × PyData)} {kvs : List (Key × V)}, DxKv M H kvs es → DxKv M H kvs es' → es = es'
  | _, _, _, .nil, h => by cases h; rfl
  | _, _, _, .cons h1 h2, h => by
    cases h with
    | cons h1' h2' => rw [Dx.det h1 h1', DxKv.det h2 h2']
end
variable {a : Addr} {n : Nat}
mutual
/-- what is not so deep as the data at a don't stand at a -/
theorem Dx.away (w : ∀ d', Dx M H (.ref a) d' → n < d'.depth) : ∀ {d : PyData} {v : V}, Dx M H v d → d.depth ≤ n → Dx (fun b => M b ∨ b = a) H v d
  | _, _, .non, _ => .non
  | _, _, .bl b, _ => .bl b
  | _, _, .int i, _ => .int i
  | _, _, .str z, _ => .str z
  | _, _, .lst (a := b) nm e h, q => .lst (fun z => z.elim nm fun r => by
      subst r
      have := w _ (.lst nm e h)
      omega) e (DxAll.away w h (by simp only [PyData.depth] at q; omega))
  | _, _, .tup (a := b) nm e h, q => .tup (fun z => z.elim nm fun r => by
      subst r
      have := w _ (.tup nm e h)
      omega) e (DxAll.away w h (by simp only [PyData.depth] at q; omega))
  | _, _, .dic (a := b) nm e h, q => .dic (fun z => z.elim nm fun r => by
      subst r
      have := w _ (.dic nm e h)
      omega) e (DxKv.away w h (by simp only [PyData.depth] at q; omega))
theorem DxAll.away (w : ∀ d', Dx M H (.ref a) d' → n < d'.depth) : ∀ {ds : List PyData} {vs : List V}, DxAll M H vs ds → PyData.depthAll ds ≤ n → DxAll (fun b => M b ∨ b = a) H vs ds
  | _, _, .nil, _ => .nil
  | _, _, .cons h1 h2, q => .cons (Dx.away w h1 (by simp only [PyData.depthAll] at q; omega)) (DxAll.away w h2 (by simp only [PyData.depthAll] at q; omega))
theorem DxKv.away (w : ∀ d', Dx M H (.ref a) d' → n < d'.depth) : ∀ {es : List (PyData × PyData)} {kvs : List (Key × V)}, DxKv M H kvs es → PyData.depthKv es ≤ n → DxKv (fun b => M b ∨ b = a) H kvs es
  | _, _, .nil, _ => .nil
  | _, _, .cons h1 h2, q => .cons (Dx.away w h1 (by simp only [PyData.depthKv] at q; omega)) (DxKv.away w h2 (by simp only [PyData.depthKv] at q; omega))
end
end
section
variable {M N : Addr → Prop} {H : Hp}
mutual
theorem Dx.weak (w : ∀ b, N b → M b) : ∀ {d : PyData} {v : V}, Dx M H v d → Dx N H v d
  | _, _, .non => .non
  | _, _, .bl b => .bl b
  | _, _, .int i => .int i
  | _, _, .str z => .str z
  | _, _, .lst n e h => .lst (fun z => n (w _ z)) e (DxAll.weak w h)
  | _, _, .tup n e h => .tup (fun z => n (w _ z)) e (DxAll.weak w h)
  | _, _, .dic n e h => .dic (fun z => n (w _ z)) e (DxKv.weak w h)
theorem DxAll.weak (w : ∀ b, N b → M b) : ∀ {ds : List PyData} {vs : List V}, DxAll M H vs ds → DxAll N H vs ds
  | _, _, .nil => .nil
  | _, _, .cons h1 h2 => .cons (Dx.weak w h1) (DxAll.weak w h2)
theorem DxKv.weak (w : ∀ b, N b → M b) : ∀ {es : List (PyData × PyData)} {kvs : List (Key × V)}, DxKv M H kvs es → DxKv N H kvs es
  | _, _, .nil => .nil
  | _, _, .cons h1 h2 => .cons (Dx.weak w h1) (DxKv.weak w h2)
end
theorem DxKv.keys : ∀ {es : List (PyData × PyData)} {kvs : List (Key × V)}, DxKv M H kvs es → es.map (·.1) = kvs.map fun q => keyD q.1
  | _, _, .nil => rfl
  | _, _, .cons _ h2 => by rw [List.map_cons, List.map_cons, DxKv.keys h2]
theorem DxKv.length : ∀ {es : List (PyData × PyData)} {kvs : List (Key × V)}, DxKv M H kvs es → kvs.length = es.length
  | _, _, .nil => rfl
  | _, _, .cons _ h2 => by rw [List.length_cons, List.length_cons, DxKv.length h2]
theorem DxKv.app : ∀ {es fs : List (PyData × PyData)} {kvs lvs : List (Key × V)}, DxKv M H kvs es → DxKv M H lvs fs → DxKv M H (kvs ++ lvs) (es ++ fs)
  | _, _, _, _, .nil, b => b
  | _, _, _, _, .cons h a, b => .cons h (DxKv.app a b)
theorem DxKv.get : ∀ {es : List (PyData × PyData)} {kvs : List (Key × V)}, DxKv M H kvs es → ∀ (i : Nat) (k : Key) (v : V), kvs[i]? = some (k, v) → ∃ d, es[i]? = some (keyD k, d) ∧ Dx M H v d
  | _, _, .nil, i, k, v, e => by simp at e
  | _, _, .cons h a, 0, k, v, e => by
    cases e
    exact ⟨_, rfl, h⟩
  | _, _, .cons h a, i + 1, k, v, e => DxKv.get a i k v e
end
theorem put_new {kvs : List (Key × V)} {k : Key} {v : V} (h : k ∉ kvs.map (·.1)) : putK kvs k v = kvs ++ [(k, v)] := by
  unfold putK
  rw [if_neg]
  intro z
  obtain ⟨q, hq, e⟩ := List.any_eq_true.mp z
  exact h (List.mem_map.mpr ⟨q, hq, of_decide_eq_true e⟩)
section
variable {M : Addr → Prop} {H : Hp} {l : Addr}
mutual
/-- where nothing stands, no data do -/
theorem Dx.apart (h : H l = none) : ∀ {d : PyData} {v : V}, Dx M H v d → Dx (fun b => M b ∨ b = l) H v d
  | _, _, .non => .non
  | _, _, .bl b => .bl b
  | _, _, .int i => .int i
  | _, _, .str z => .str z
  | _, _, .lst nm e q => .lst (fun z => z.elim nm fun r => by rw [r, h] at e; cases e) e (DxAll.apart h q)
  | _, _, .tup nm e q => .tup (fun z => z.elim nm fun r => by rw [r, h] at e; cases e) e (DxAll.apart h q)
  | _, _, .dic nm e q => .dic (fun z => z.elim nm fun r => by rw [r, h] at e; cases e) e (DxKv.apart h q)
theorem DxAll.apart (h : H l = none) : ∀ {ds : List PyData} {vs : List V}, DxAll M H vs ds → DxAll (fun b => M b ∨ b = l) H vs ds
  | _, _, .nil => .nil
  | _, _, .cons h1 h2 => .cons (Dx.apart h h1) (DxAll.apart h h2)
theorem DxKv.apart (h : H l = none) : ∀ {es : List (PyData × PyData)} {kvs : List (Key × V)}, DxKv M H kvs es → DxKv (fun b => M b ∨ b = l) H kvs es
  | _, _, .nil => .nil
  | _, _, .cons h1 h2 => .cons (Dx.apart h h1) (DxKv.apart h h2)
end
end
theorem not_in_take {α : Type} : ∀ {l : List α} {i : Nat} {x : α}, l.Nodup → l[i]? = some x → x ∉ l.take i
  | [], i, x, _, h => by simp at h
  | a :: l, 0, x, _, _ => by simp
  | a :: l, i + 1, x, n, h => by
    rw [List.take_succ_cons]
    intro z
    have h' : l[i]? = some x := by simpa using h
    rcases List.mem_cons.mp z with z | z
    · subst z
      exact (List.nodup_cons.mp n).1 (List.mem_of_getElem? h')
    · exact not_in_take (List.nodup_cons.mp n).2 h' z
/-- how many there are at each place -/
def FewX : Nat → PyData → Prop
  | 0, _ => True
  | n + 1, d => (∀ ds, d = .list ds ∨ d = .tuple ds → ds.length ≤ 1000 ∧ ∀ e ∈ ds, FewX n e) ∧ ∀ es, d = .dict es → es.length ≤ 1000 ∧ (es.map (·.1)).Nodup ∧ ∀ e ∈ es, FewX n e.2
def spCopiedX (M : Addr → Prop) (n : Nat) : Sp := fun vs H Q _ => ∃ (v : V) (d : PyData), vs = [v] ∧ Dx M H v d ∧ d.depth ≤ n ∧ FewX n d ∧ (∀ b, M b → H b ≠ none) ∧ ∀ (v' : V) (H' : Hp), Dx M H' v' d → Same H H' → Q v' H'
/-- for all M at once -/
def spCopiedA (n : Nat) : Sp := fun vs H Q E => ∃ M, spCopiedX M n vs H Q E
def spBelowA : Nat → Sp
  | 0 => fun _ _ _ _ => False
  | n + 1 => spCopiedA n
theorem depthKv_mem : ∀ {es : List (PyData × PyData)} {e : PyData × PyData}, e ∈ es → e.2.depth ≤ PyData.depthKv es
  | a :: r, d, h => by
    simp only [PyData.depthKv]
    rcases List.mem_cons.mp h with rfl | h
    · omega
    · have := depthKv_mem h
      omega
section
variable {P : Program} {w : World} {K : PySem.W.Frag} {mg : Str → Option Value} {base : Heap}
theorem kit_not {T U : String} (h : kitB T U = some false) : PySem.W.kitOne K (.type T) (.type U) = some false := kit_ty h
theorem ok_copiedX {f : Addr} {fd : FuncData} (F : Fun K "copied" "copied" sCopied f fd) (T : Txt mg) (m : mg "copied" = some (.ref f)) (b : Binds K fd ["thing"] []) : ∀ n : Nat, FnOk P w K mg base CX0 (n + 1) f fd ["thing"] (spCopiedA n) := by
  have main : ∀ n : Nat, FnOk P w K mg base CX0 n f fd ["thing"] (spBelowA n) → FnOk P w K mg base CX0 (n + 1) f fd ["thing"] (spCopiedA n) := by
    intro n G
    refine F.ok scCo (fun vs H Q E h => ?_) (fun cdv A outer s H vs Q E hr h => ?_)
    · obtain ⟨M, v, d, rfl, _⟩ := h
      rfl
    · obtain ⟨M, v, d, rfl, hd, hn, hfew, hM, k⟩ := h
      have nd := scCo.nd
      have hu := hu_of hr
      have flat : ∀ {Ty : String}, TyX K H v (.type Ty) → Ty ∈ ["NoneType", "bool", "int", "str"] → ∃ t, PSs (cxOf CX0 P w K mg base ["thing", "rows", "key", "part", "parts"] "copied" (defScope sCopied) f cdv A outer s H E).nox (defBody sCopied) t ∧ t { nx := fun _ H' => Q .non H', rt := Q } (start ["thing", "rows", "key", "part", "parts"] [v]) H := by
        intro Ty hT hm
        refine ⟨_, pss_cons (ps_if (pt_val (pe_callB call_isi (by rfl) T.isinstance (by decide +kernel) (pa_cons (pv 0) (pa_cons (pe_bltn (v := V.ty "dict") (by rfl) T.dict (by decide +kernel) rfl) pa_nil)))) (pss_cons ps_never (pss_cons ps_never (pss_one ps_never))) pss_nil)
          (pss_cons (ps_if (pt_not (pt_val (pe_callB call_isiT (by rfl) T.isinstance (by decide +kernel) (pa_cons (pv 0) (pa_cons (pe_tup (pa_cons (pe_bltn (v := V.ty "list") (by rfl) T.list (by decide +kernel) rfl) (pa_cons (pe_bltn (v := V.ty "tuple") (by rfl) T.tuple (by decide +kernel) rfl) pa_nil))) pa_nil))))) (pss_one (ps_ret (pv 0))) pss_nil)
          (pss_cons ps_never (pss_cons ps_never (pss_one ps_never)))), ?_⟩
        have q1 : kitB Ty "dict" = some false ∧ kitB Ty "list" = some false ∧ kitB Ty "tuple" = some false := by
          simp only [List.mem_cons, List.not_mem_nil, or_false] at hm
          rcases hm with rfl | rfl | rfl | rfl <;> decide +kernel
        refine ⟨_, rfl, v, .ty "dict", .type Ty, .type "dict", false, rfl, .ty _, hT, kit_ty q1.1, false, rfl, iteF ?_⟩
        refine ⟨_, rfl, (by show 2 ≤ sizeLine; decide), fun tp htp => ?_⟩
        have s1 : Same H (upd H tp (.tup [.ty "list", .ty "tuple"])) := same_new (Same.refl _) htp
        have a1 : upd H tp (.tup [.ty "list", .ty "tuple"]) tp = some (.tup [.ty "list", .ty "tuple"]) := upd_same
        generalize upd H tp (.tup [.ty "list", .ty "tuple"]) = H1 at s1 a1 ⊢
        have hd1 := hd.mono (sameBut s1 _)
        have hT1 : TyX K H1 v (.type Ty) := by
          cases hT with
          | base b =>
            cases b with
            | non => exact .base .non
            | bl x => exact .base (.bl x)
            | int x => exact .base (.int x)
            | str x => exact .base (.str x)
            | lst e => simp at hm
            | frz e => simp at hm
            | tup e => simp at hm
            | dK e => simp at hm
            | dT e => simp at hm
            | flt x => simp at hm
          | byt x => simp at hm
          | set e => simp at hm
          | kList e c => simp at hm
          | kTuple e c => simp at hm
          | kDict e c => simp at hm
          | fTuple e => simp at hm
          | fDict e => simp at hm
        refine ⟨v, tp, _, .type Ty, [.type "list", .type "tuple"], false, rfl, a1, .cons (.ty _) (.cons (.ty _) .nil), hT1, kit_any (x := false) (y := false) (kit_ty q1.2.1) (kit_ty q1.2.2), false, rfl, iteT ?_⟩
        exact ⟨_, rfl, k v H1 hd1 s1⟩
      cases hd with
      | non => exact flat (.base .non) (by decide)
      | bl x => exact flat (.base (.bl x)) (by decide)
      | int x => exact flat (.base (.int x)) (by decide)
      | str x => exact flat (.base (.str x)) (by decide)
      | @lst a xs ds nM e hA =>
        clear flat
        refine ⟨_, pss_cons (ps_if (pt_val (pe_callB call_isi (by rfl) T.isinstance (by decide +kernel) (pa_cons (pv 0) (pa_cons (pe_bltn (v := V.ty "dict") (by rfl) T.dict (by decide +kernel) rfl) pa_nil)))) (pss_cons ps_never (pss_cons ps_never (pss_one ps_never))) pss_nil)
          (pss_cons (ps_if (pt_not (pt_val (pe_callB call_isiT (by rfl) T.isinstance (by decide +kernel) (pa_cons (pv 0) (pa_cons (pe_tup (pa_cons (pe_bltn (v := V.ty "list") (by rfl) T.list (by decide +kernel) rfl) (pa_cons (pe_bltn (v := V.ty "tuple") (by rfl) T.tuple (by decide +kernel) rfl) pa_nil))) pa_nil))))) (pss_one (ps_ret (pv 0))) pss_nil)
        (pss_cons (ps_set (i := 4) nd rfl (.inl rfl) (pe_lst pa_nil))
        (pss_cons (ps_for PassesOwn.never rfl (pi_list (pv 0)) (pg_name (i := 3) nd rfl (Or.inl rfl))
          (pss_one (ps_expr (pe_bm PySem.F.plainAttrs_list PySem.F.slot_list_append PySem.F.type_list_append mt_append (pv 4) (pa_cons (pe_call G hr (by rfl) m F.kp b .nil pass0 (pa_cons (pv 3) pa_nil)) pa_nil)))))
        (pss_one (ps_ret (pe_ifExp (pt_val (pe_callB call_isi (by rfl) T.isinstance (by decide +kernel) (pa_cons (pv 0) (pa_cons (pe_bltn (v := V.ty "list") (by rfl) T.list (by decide +kernel) rfl) pa_nil)))) (pv 4)
          (pe_callTy call_tuple_of (by rfl) T.tuple (by decide +kernel) (pa_cons (pv 4) pa_nil)))))))), ?_⟩
        have hT := TyX.base (K := K) (TyOf.lst e)
        refine ⟨_, rfl, .ref a, .ty "dict", .type "list", .type "dict", false, rfl, .ty _, hT, kit_ty (by decide +kernel), false, rfl, iteF ?_⟩
        refine ⟨_, rfl, (by show 2 ≤ sizeLine; decide), fun tp htp => ?_⟩
        have s1 : Same H (upd H tp (.tup [.ty "list", .ty "tuple"])) := same_new (Same.refl _) htp
        have a1 : upd H tp (.tup [.ty "list", .ty "tuple"]) tp = some (.tup [.ty "list", .ty "tuple"]) := upd_same
        generalize upd H tp (.tup [.ty "list", .ty "tuple"]) = H1 at s1 a1 ⊢
        have e1 := s1 _ _ e
        have hA1 := hA.mono (sameBut s1 _)
        have hM1 : ∀ b, M b → H1 b ≠ none := fun b mb z => hM b mb (s1.free z)
        refine ⟨.ref a, tp, _, .type "list", [.type "list", .type "tuple"], true, rfl, a1, .cons (.ty _) (.cons (.ty _) .nil), .base (.lst e1), kit_any (x := true) (y := false) (kit_ty (by decide +kernel)) (kit_ty (by decide +kernel)), true, rfl, iteF ?_⟩
        obtain ⟨n, rfl⟩ : ∃ n', n = n' + 1 := by
          cases n with
          | zero => simp [PyData.depth] at hn
          | succ n' => exact ⟨n', rfl⟩
        obtain ⟨hlen, hfe⟩ := hfew.1 ds (.inl rfl)
        have hdep : PyData.depthAll ds ≤ n := by
          simp only [PyData.depth] at hn
          omega
        refine ⟨Nat.zero_le _, fun l hl => ?_⟩
        have nMl : ¬ M l := fun z => hM1 l z hl
        refine ⟨_, rfl, a, rfl, ⟨xs, SqL.of (by rw [upd_ne (ne_of_none e1 hl)]; exact e1)⟩, for_list (K := K) (a := a) (xs := xs) (fun i σ' H' => ∃ (pw : Option V) (ys : List V), σ' = [some (.ref a), none, none, pw, some (.ref l)] ∧ H' l = some (.lst ys) ∧ DxAll (fun b => M b ∨ b = l) H' ys (ds.take i) ∧ Same H1 H') ?_ ?_ ?_ ?_⟩
        · exact ⟨none, [], rfl, upd_same, .nil, same_new (Same.refl _) hl⟩
        · rintro i σ' H' _ ⟨pw, ys, rfl, hL, hy, s⟩
          exact SqL.of (s _ _ e1)
        · rintro i x σ' H' hi ⟨pw, ys, rfl, hL, hy, s⟩
          obtain ⟨d, hdi, hdx⟩ := hA1.get i x hi
          have hdm := List.mem_of_getElem? hdi
          have hil : i < ds.length := (List.getElem?_eq_some_iff.mp hdi).1
          have hdl : Dx (fun b => M b ∨ b = l) H1 x d := hdx.apart hl
          refine ⟨_, rfl, .inl ⟨rfl, _, SqL.of hL⟩, _, rfl, _, x, d, rfl, hdl.mono (sameBut s _), Nat.le_trans (depthAll_mem hdm) hdep, hfe d hdm, fun b z q => z.elim (fun z => hM1 b z (s.free q)) (fun z => by rw [z, hL] at q; cases q), fun v' H2 hv s2 => ?_⟩
          refine ⟨l, _, _, rfl, rfl, s2 _ _ hL, small1000 (by rw [hy.length, List.length_take]; omega), ?_⟩
          have tt : But (fun b => M b ∨ b = l) H2 (upd H2 l (.lst (ys ++ [v']))) := (But.refl _ _).mut (.inr rfl)
          refine ⟨_, _, rfl, upd_same, ?_, same_mut (s.trans s2) hl⟩
          rw [List.take_add_one, hdi]
          exact ((hy.mono (sameBut s2 _)).app (.cons hv .nil)).mono tt
        · rintro σ' H' ⟨pw, ys, rfl, hL, hy, s⟩
          rw [hA1.length, List.take_length] at hy
          have hyM := hy.weak (N := M) fun b z => .inl z
          refine ⟨_, rfl, .ref a, .ty "list", .type "list", .type "list", true, rfl, .ty _, .base (.lst (s _ _ e1)), kit_ty (by decide +kernel), true, rfl, iteT ?_⟩
          exact ⟨_, rfl, k _ _ (.lst nMl hL hyM) (s1.trans s)⟩
      | @tup a xs ds nM e hA =>
        clear flat
        refine ⟨_, pss_cons (ps_if (pt_val (pe_callB call_isi (by rfl) T.isinstance (by decide +kernel) (pa_cons (pv 0) (pa_cons (pe_bltn (v := V.ty "dict") (by rfl) T.dict (by decide +kernel) rfl) pa_nil)))) (pss_cons ps_never (pss_cons ps_never (pss_one ps_never))) pss_nil)
          (pss_cons (ps_if (pt_not (pt_val (pe_callB call_isiT (by rfl) T.isinstance (by decide +kernel) (pa_cons (pv 0) (pa_cons (pe_tup (pa_cons (pe_bltn (v := V.ty "list") (by rfl) T.list (by decide +kernel) rfl) (pa_cons (pe_bltn (v := V.ty "tuple") (by rfl) T.tuple (by decide +kernel) rfl) pa_nil))) pa_nil))))) (pss_one (ps_ret (pv 0))) pss_nil)
        (pss_cons (ps_set (i := 4) nd rfl (.inl rfl) (pe_lst pa_nil))
        (pss_cons (ps_for PassesOwn.never rfl (pi_tup (pv 0)) (pg_name (i := 3) nd rfl (Or.inl rfl))
          (pss_one (ps_expr (pe_bm PySem.F.plainAttrs_list PySem.F.slot_list_append PySem.F.type_list_append mt_append (pv 4) (pa_cons (pe_call G hr (by rfl) m F.kp b .nil pass0 (pa_cons (pv 3) pa_nil)) pa_nil)))))
        (pss_one (ps_ret (pe_ifExp (pt_val (pe_callB call_isi (by rfl) T.isinstance (by decide +kernel) (pa_cons (pv 0) (pa_cons (pe_bltn (v := V.ty "list") (by rfl) T.list (by decide +kernel) rfl) pa_nil)))) (pv 4)
          (pe_callTy call_tuple_of (by rfl) T.tuple (by decide +kernel) (pa_cons (pv 4) pa_nil)))))))), ?_⟩
        have hT := TyX.base (K := K) (TyOf.tup e)
        refine ⟨_, rfl, .ref a, .ty "dict", .type "tuple", .type "dict", false, rfl, .ty _, hT, kit_ty (by decide +kernel), false, rfl, iteF ?_⟩
        refine ⟨_, rfl, (by show 2 ≤ sizeLine; decide), fun tp htp => ?_⟩
        have s1 : Same H (upd H tp (.tup [.ty "list", .ty "tuple"])) := same_new (Same.refl _) htp
        have a1 : upd H tp (.tup [.ty "list", .ty "tuple"]) tp = some (.tup [.ty "list", .ty "tuple"]) := upd_same
        generalize upd H tp (.tup [.ty "list", .ty "tuple"]) = H1 at s1 a1 ⊢
        have e1 := s1 _ _ e
        have hA1 := hA.mono (sameBut s1 _)
        have hM1 : ∀ b, M b → H1 b ≠ none := fun b mb z => hM b mb (s1.free z)
        refine ⟨.ref a, tp, _, .type "tuple", [.type "list", .type "tuple"], true, rfl, a1, .cons (.ty _) (.cons (.ty _) .nil), .base (.tup e1), kit_any (x := false) (y := true) (kit_ty (by decide +kernel)) (kit_ty (by decide +kernel)), true, rfl, iteF ?_⟩
        obtain ⟨n, rfl⟩ : ∃ n', n = n' + 1 := by
          cases n with
          | zero => simp [PyData.depth] at hn
          | succ n' => exact ⟨n', rfl⟩
        obtain ⟨hlen, hfe⟩ := hfew.1 ds (.inr rfl)
        have hdep : PyData.depthAll ds ≤ n := by
          simp only [PyData.depth] at hn
          omega
        refine ⟨Nat.zero_le _, fun l hl => ?_⟩
        have nMl : ¬ M l := fun z => hM1 l z hl
        refine ⟨_, rfl, a, rfl, ⟨xs, SqT.of (by rw [upd_ne (ne_of_none e1 hl)]; exact e1)⟩, for_tup (K := K) (a := a) (xs := xs) (fun i σ' H' => ∃ (pw : Option V) (ys : List V), σ' = [some (.ref a), none, none, pw, some (.ref l)] ∧ H' l = some (.lst ys) ∧ DxAll (fun b => M b ∨ b = l) H' ys (ds.take i) ∧ Same H1 H') ?_ ?_ ?_ ?_⟩
        · exact ⟨none, [], rfl, upd_same, .nil, same_new (Same.refl _) hl⟩
        · rintro i σ' H' _ ⟨pw, ys, rfl, hL, hy, s⟩
          exact SqT.of (s _ _ e1)
        · rintro i x σ' H' hi ⟨pw, ys, rfl, hL, hy, s⟩
          obtain ⟨d, hdi, hdx⟩ := hA1.get i x hi
          have hdm := List.mem_of_getElem? hdi
          have hil : i < ds.length := (List.getElem?_eq_some_iff.mp hdi).1
          have hdl : Dx (fun b => M b ∨ b = l) H1 x d := hdx.apart hl
          refine ⟨_, rfl, .inl ⟨rfl, _, SqL.of hL⟩, _, rfl, _, x, d, rfl, hdl.mono (sameBut s _), Nat.le_trans (depthAll_mem hdm) hdep, hfe d hdm, fun b z q => z.elim (fun z => hM1 b z (s.free q)) (fun z => by rw [z, hL] at q; cases q), fun v' H2 hv s2 => ?_⟩
          refine ⟨l, _, _, rfl, rfl, s2 _ _ hL, small1000 (by rw [hy.length, List.length_take]; omega), ?_⟩
          have tt : But (fun b => M b ∨ b = l) H2 (upd H2 l (.lst (ys ++ [v']))) := (But.refl _ _).mut (.inr rfl)
          refine ⟨_, _, rfl, upd_same, ?_, same_mut (s.trans s2) hl⟩
          rw [List.take_add_one, hdi]
          exact ((hy.mono (sameBut s2 _)).app (.cons hv .nil)).mono tt
        · rintro σ' H' ⟨pw, ys, rfl, hL, hy, s⟩
          rw [hA1.length, List.take_length] at hy
          have hyM := hy.weak (N := M) fun b z => .inl z
          refine ⟨_, rfl, .ref a, .ty "list", .type "tuple", .type "list", false, rfl, .ty _, .base (.tup (s _ _ e1)), kit_ty (by decide +kernel), false, rfl, iteF ?_⟩
          refine ⟨_, rfl, l, _, rfl, .inl ⟨SqL.of hL, fun t ht => ?_⟩⟩
          exact k _ _ (.tup (fun z => hM1 t z (s.free ht)) upd_same (hyM.mono ((But.refl _ _).new ht))) (same_new (s1.trans s) ht)
      | @dic a kvs es nM e hA =>
        clear flat
        refine ⟨_, pss_cons (ps_if (pt_val (pe_callB call_isi (by rfl) T.isinstance (by decide +kernel) (pa_cons (pv 0) (pa_cons (pe_bltn (v := V.ty "dict") (by rfl) T.dict (by decide +kernel) rfl) pa_nil))))
          (pss_cons (ps_set (i := 1) nd rfl (.inl rfl) pe_dnewK)
          (pss_cons (ps_lock (ps_for PassesOwn.never rfl (pi_items (pv 0)) (pg_tup rfl (pgs_cons (pg_name (i := 2) nd rfl (Or.inl rfl)) (pgs_cons (pg_name (i := 3) nd rfl (Or.inl rfl)) pgs_nil)))
            (pss_one (ps_dput hu (pv 1) (pv 2) (pe_call G hr (by rfl) m F.kp b .nil pass0 (pa_cons (pv 3) pa_nil)) rfl))))
          (pss_one (ps_ret (pv 1))))) pss_nil)
          (pss_cons ps_never (pss_cons ps_never (pss_cons ps_never (pss_one ps_never)))), ?_⟩
        refine ⟨_, rfl, .ref a, .ty "dict", .type "dict", .type "dict", true, rfl, .ty _, .base (.dK e), kit_ty (by decide +kernel), true, rfl, iteT ?_⟩
        obtain ⟨n, rfl⟩ : ∃ n', n = n' + 1 := by
          cases n with
          | zero => simp [PyData.depth] at hn
          | succ n' => exact ⟨n', rfl⟩
        obtain ⟨hlen, hnd, hfe⟩ := hfew.2 es rfl
        have hdep : PyData.depthKv es ≤ n := by
          simp only [PyData.depth] at hn
          omega
        have hA0 : DxKv (fun b => M b ∨ b = a) H kvs es := hA.away (a := a) (n := PyData.depthKv es) (fun d' z => by
          rw [z.det (.dic nM e hA)]
          simp only [PyData.depth]
          omega) (Nat.le_refl _)
        have knd : (kvs.map (·.1)).Nodup := by
          rw [hA.keys] at hnd
          have z := List.pairwise_map.mp hnd
          exact List.pairwise_map.mpr (z.imp fun q r => q (congrArg keyD r))
        intro l hl
        have nla : l ≠ a := fun z => by rw [z, e] at hl; cases hl
        have nMl : ¬ M l := fun z => hM l z hl
        have hA1 := hA0.apart hl
        refine ⟨a, .dK kvs, (by rw [upd_ne nla.symm]; exact e), trivial, fun od => ?_⟩
        have b0 : But (· = a) H (upd (upd H l (.dK [])) a (.frz od (.dK kvs))) := ((But.refl _ _).new hl).mut rfl
        have l0 : upd (upd H l (.dK [])) a (.frz od (.dK kvs)) l = some (.dK []) := by rw [upd_ne nla, upd_same]
        have a0 : upd (upd H l (.dK [])) a (.frz od (.dK kvs)) a = some (.frz od (.dK kvs)) := upd_same
        generalize upd (upd H l (.dK [])) a (.frz od (.dK kvs)) = H1 at b0 l0 a0 ⊢
        refine ⟨_, rfl, a, od, kvs, rfl, a0, for_it walk_items (fun i σ' H' => ∃ (kw pw : Option V) (rs : List (Key × V)), σ' = [some (.ref a), some (.ref l), kw, pw, none] ∧ H' l = some (.dK rs) ∧ rs.map (·.1) = (kvs.map (·.1)).take i ∧
            DxKv (fun b => (M b ∨ b = a) ∨ b = l) H' rs (es.take i) ∧ But (· = a) H H' ∧ H' a = some (.frz od (.dK kvs))) ?_ ?_ ?_ ?_⟩
        · exact ⟨none, none, [], rfl, l0, rfl, .nil, b0, a0⟩
        · rintro i σ' H' _ ⟨kw, pw, rs, rfl, z1, z2, z3, z4, z5⟩
          exact z5
        · rintro i _ σ' H' _ hi ⟨kw, pw, rs, rfl, z1, z2, z3, z4, z5⟩ ⟨Tp, kx, vx, rfl, hT, rfl, hk, hv⟩
          obtain ⟨⟨kk, vv⟩, hkv⟩ : ∃ q, kvs[i]? = some q := ⟨_, List.getElem?_eq_getElem hi⟩
          simp only [hkv, Option.map_some, Option.some.injEq] at hk hv
          subst hk hv
          obtain ⟨d, hdi, hdx⟩ := hA1.get i kk vv hkv
          have hdm := List.mem_of_getElem? hdi
          have b1 : But (· = a) H (upd H' Tp (.tup [kV kk, vv])) := z4.new hT
          have l1 : upd H' Tp (.tup [kV kk, vv]) l = some (.dK rs) := by rw [upd_ne (ne_of_none z1 hT)]; exact z1
          have a1 : upd H' Tp (.tup [kV kk, vv]) a = some (.frz od (.dK kvs)) := by rw [upd_ne (ne_of_none z5 hT)]; exact z5
          have t1 : upd H' Tp (.tup [kV kk, vv]) Tp = some (.tup [kV kk, vv]) := upd_same
          have r1 : DxKv (fun b => (M b ∨ b = a) ∨ b = l) (upd H' Tp (.tup [kV kk, vv])) rs (es.take i) := z3.mono ((But.refl _ _).new hT)
          generalize upd H' Tp (.tup [kV kk, vv]) = H2 at b1 l1 a1 t1 r1 ⊢
          have hne : ∀ b, (M b ∨ b = a) ∨ b = l → H2 b ≠ none := fun b z q => by
            rcases z with (z | z) | z
            · by_cases hba : b = a
              · rw [hba, a1] at q
                cases q
              · cases y : H b with
                | none => exact hM b z y
                | some u =>
                  rw [b1 b u hba y] at q
                  cases q
            · rw [z, a1] at q
              cases q
            · rw [z, l1] at q
              cases q
          refine ⟨Tp, _, rfl, SqT.of t1, rfl, _, _, rfl, _, _, rfl, rfl, ?_⟩
          refine ⟨_, rfl, _, vv, d, rfl, hdx.mono (b1.mono fun b z => .inl (.inr z)), Nat.le_trans (depthKv_mem hdm) hdep, hfe _ hdm, hne, fun v' H3 hv3 s3 => ?_⟩
          have fresh : kk ∉ rs.map (·.1) := by
            rw [z2]
            exact not_in_take knd (by rw [List.getElem?_map, hkv]; rfl)
          have rl : rs.length ≤ 1000 := by
            rw [r1.length, List.length_take]
            omega
          refine ⟨_, rfl, _, rfl, l, _, rfl, DPut.k (k := kk) (s3 _ _ l1) (small1000 rl), ?_⟩
          rw [put_new fresh]
          refine ⟨_, _, _, rfl, upd_same, ?_, ?_, (b1.trans (sameBut s3 _)).mutNew hl, ?_⟩
          · rw [List.map_append, z2, List.take_add_one, List.getElem?_map, hkv]
            rfl
          · rw [List.take_add_one, hdi]
            exact ((r1.mono (sameBut s3 _)).app (.cons hv3 .nil)).mono ((But.refl _ _).mut (.inr rfl))
          · rw [upd_ne nla.symm]
            exact s3 _ _ a1
        · rintro σ' H' ⟨kw, pw, rs, rfl, z1, z2, z3, z4, z5⟩
          rw [hA.length, List.take_length] at z3
          refine ⟨z5, _, rfl, ?_⟩
          have e2 : upd H' a (.dK kvs) l = some (.dK rs) := by rw [upd_ne nla]; exact z1
          refine k _ _ (.dic nMl e2 ((z3.weak (N := fun b => M b ∨ b = a) fun b z => .inl z).mono ((But.refl _ _).mut (.inr rfl)) |>.weak fun b z => .inl z)) (fun b u z => ?_)
          by_cases hba : b = a
          · subst hba
            rw [e] at z
            cases z
            exact upd_same
          · rw [upd_ne hba]
            exact z4 b u hba z
  intro n
  induction n with
  | zero => exact main 0 ⟨fun vs H Q E h => h.elim, fun A outer s H args us vs Q E _ _ _ _ h => h.elim⟩
  | succ n ih => exact main (n + 1) ih
end
end K3
namespace K3
open PySem PySem.Spec PyProof.Rows L2
/-! ### a comprehension whose element may let an exception out of a call -/
/-- in the air of the block Y, behind a call of its element -/
def XF (Y : Cx) (W : XK) (u : Value) (s' : Shared) : Prop :=
  ∃ (a : Addr) (B : Heap) (sI : Shared) (pins : List (Addr × Obj)) (σ : L2.St) (H : Hp) (cls : Value) (d : Option Addr), u = .ref a ∧ Inv Y pins σ H sI ∧ (∀ b o, sI.heap.get? b = some o → b ∉ frs Y.stack → B.get? b = some o) ∧
    sI.heap.UpToSlots s'.heap ∧ HandSPX.FlyingZ B Y.stack a (L2N.Zn cls d) s'.heap ∧ H a = none ∧ s'.os = sI.os ∧ AllBare s'.gens ∧ W cls d H
abbrev blkX (X : Cx) (W : XK) (s : Shared) (H : Hp) (scope : Scope) (ce : Env) (fp : List Addr) : Cx := { X.blk s H scope ce fp with xe := XF (X.blk s H scope ce fp) W }
section
variable {X : Cx} {W E : XK} {s0 : Shared} {H0 : Hp} {scope : Scope} {ce : Env} {fp : List Addr}
theorem toX {pins : List (Addr × Obj)} {σ : L2.St} {H : Hp} {s : Shared} (I : Inv (X.blk s0 H0 scope ce fp) pins σ H s) : Inv (blkX X W s0 H0 scope ce fp) pins σ H s := Inv.unwish (X := blkX X W s0 H0 scope ce fp) (E := fun _ _ => False) I
theorem ofX {pins : List (Addr × Obj)} {σ : L2.St} {H : Hp} {s : Shared} (I : Inv (blkX X W s0 H0 scope ce fp) pins σ H s) : Inv (X.blk s0 H0 scope ce fp) pins σ H s := Inv.unwish (X := X.blk s0 H0 scope ce fp) (E := XF (X.blk s0 H0 scope ce fp) W) I
/-- what a callee lets out of the element -/
theorem passes_blk (hW : ∀ cls d H, E cls d H → W cls d H) : Passes (L2N.CX X.prog X.w) (blkX X W s0 H0 scope ce fp) E := by
  intro pins σ H s e s' I c
  have c1 : L2N.CX X.prog X.w X.stack H s E e s' := c
  obtain ⟨a, B, sI, pins', σ', H', cls, d, rfl, I', nb, up, sky, na, os, ag, w⟩ := L2N.XE.of_call (X := X.blk s0 H0 scope ce fp) (W := fun cls d _ H => W cls d H) (ofX I) (fun cls d H' h => hW cls d H' h) c1
  refine ⟨a, B, sI, pins', σ', H', cls, d, rfl, I', nb, up, ?_, na, os, ag, w⟩
  obtain ⟨a2, B2, _, _, _, e2, fl2, _⟩ := c1
  cases e2
  obtain ⟨_, _, _, oe, vs, T, oT, ts, he, _, hd, h1, _, _, hT, hdT, h3⟩ := fl2
  rcases sky with ⟨_, _, _, oe', vs', he', _, hd', h1'⟩ | fl | hh
  · rw [he] at he'
    cases he'
    rw [hd] at hd'
    cases hd'
    rw [h1] at h1'
    cases h1'
  · exact fl
  · obtain ⟨_, _, _, oe', vs', T', oT', ts', he', _, hd', h1', _, _, hT', hdT', h3'⟩ := hh
    rw [he] at he'
    cases he'
    rw [hd] at hd'
    cases hd'
    rw [h1] at h1'
    cases h1'
    rw [hT] at hT'
    cases hT'
    rw [hdT] at hdT'
    cases hdT'
    rw [h3] at h3'
    cases h3'
/-- from the block's air into the def's -/
theorem block_fails {pins : List (Addr × Obj)} {σ : L2.St} {cl : List (Str × Addr)} {C : Addr} {u : Value} {s' : Shared} (tk : L2N.Takes X (fun cls d _ H => W cls d H)) (hs : X.stack = X.env :: X.outer) (hf : X.env.frame = some X.env.locals)
    (I3 : Inv X pins σ H0 s0) (f3 : ∀ b ∈ fp, FpOk X pins H0 b ∧ b < s0.heap.objs.size) (hC : s0.heap.objs.size ≤ C) (x : XF (X.blk s0 H0 scope (compEnvC scope cl C X.env) fp) W u s') :
    notedBy (model X.prog X.w) X.A (compEnvC scope cl C X.env) (CompFails (model X.prog X.w) X.A X.xe (compEnvC scope cl C X.env)) u s' := by
  obtain ⟨a, B, sI, pins', σ', H, cls, d, rfl, I, nb, up, fl, na, os, ag, w⟩ := x
  have fl : HandSPX.FlyingZ B X.stack a (L2N.Zn cls d) s'.heap := fl
  have nb : ∀ b o, sI.heap.get? b = some o → b ∉ frs X.stack → B.get? b = some o := nb
  have hfr : X.A.frames = some (X.env :: X.outer) := by rw [I3.ok.frames, hs]
  have eF := noteFrame_env (.ref a) (show (compEnvC scope cl C X.env).frame = X.env.frame from rfl)
  unfold notedBy
  rw [eF]
  rw [hs] at fl
  refine PXN.looks_onZ L2N.Zn.steady hfr hf fl fun h1 held up1 => ?_
  obtain ⟨m, hn, _⟩ := I.loc
  have hn : sI.heap.Ns C m := hn
  refine ⟨m, hn.upToSlots (up.trans up1), fun h2 m2 hn2 sb => ?_⟩
  have hn1 : h1.Ns C m := hn.upToSlots (up.trans up1)
  have sb : Heap.SameBut C h1 h2 := sb
  have hn2 : h2.Ns C m2 := hn2
  obtain ⟨g1, g2, g3, oe, vs, T, oT, ts, he, hz, hd, hv1, nT, nTe, hT, hdT, hv3⟩ := held
  -- what stands at C is no record
  have noC : ∀ {b o fs}, h1.get? b = some o → o.data = .fields fs → b ≠ C := fun {b o fs} e q z => by
    obtain ⟨oL, es, ep, hoL, hdL, _⟩ := hn1
    rw [z] at e
    have e' : some oL = some o := hoL.symm.trans e
    cases e'
    rw [hdL] at q
    cases q
  have in2 : ∀ b o, (PySem.W.hideAll B [C]).get? b = some o → b ≠ C ∧ B.get? b = some o := by
    intro b o e
    refine ⟨fun z => ?_, PySem.W.of_hideAll [C] e⟩
    rw [z, PySem.W.hideAll_none [C] (List.mem_singleton.mpr rfl)] at e
    cases e
  have to2 : ∀ {h : Heap} {b : Addr} {o : Obj}, h.get? b = some o → b ≠ C → (PySem.W.hideAll h [C]).get? b = some o := fun e n => PySem.W.hideAll_get [C] e fun z => n (List.mem_singleton.mp z)
  have none2 : ∀ b, B.get? b = none → (PySem.W.hideAll B [C]).get? b = none := fun b e => by
    match q : (PySem.W.hideAll B [C]).get? b with
    | none => rfl
    | some o =>
      rw [(in2 b o q).2] at e
      cases e
  have st2 : (PySem.W.hideAll B [C]).StaysIn h2 := fun b o e => by
    obtain ⟨n, e1⟩ := in2 b o e
    exact (sb.2 b n).trans (g1 b o e1)
  have ff2 : h2.FunFrames (PySem.W.hideAll B [C]) (X.env :: X.outer) := funFrames_none (Heap.FunFrames.sameBut sb hn2 g3) fun L hL => none2 L (Heap.FunFrames.mem g3 hL).1
  have nTC : T ≠ C := noC hT hdT
  have naC : a ≠ C := noC he hd
  have tr2 : HandSPX.TracedZ h2 (PySem.W.hideAll B [C]) a (L2N.Zn cls d) (rawInt X.env.locals) :=
    ⟨oe, vs, T, oT, ts, (sb.2 a naC).trans he, hz, hd, hv1, none2 T nT, nTe, (sb.2 T nTC).trans hT, hdT, hv3⟩
  show wpAny _ _ (PySem.passOn "comprehension.variables-let-go" (.ref a) (compEnvC scope cl C X.env) : Sem Value) _ _ _
  unfold PySem.passOn
  refine wpAny_bind (wpAny_field ((sb.2 a naC).trans he) hd hv1 ?_)
  have noN : ¬ ((Value.ref T == Value.none) = true) := by simp
  rw [if_neg noN]
  refine wpAny_bind (HandSPX.setFlight_anyZ (fr := X.env.frame) st2 ff2 tr2 fun h3 k1 k2 k3 k4 => ?_)
  refine wpAny_throw (tk _ _ ⟨a, PySem.W.hideAll B [C], { sI with heap := PySem.W.hideAll sI.heap [C] }, pins, σ, H, cls, d, rfl, ?_, ?_, ?_, .inr (.inr ?_), na, os, ag, w⟩)
  · have below : ∀ {b : Addr} {o : Obj}, s0.heap.get? b = some o → b ≠ C := fun {b o} e => Nat.ne_of_lt (Nat.lt_of_lt_of_le (Heap.lt_size e) hC)
    have U : Un (frs X.stack) fp H0 H s0.heap sI.heap := I.base
    refine I3.call' (ch := fp) I.os ⟨?_, ?_, U.free, ?_, U.tups, U.frzs, U.tbls⟩ ?_ I.bare fun b hb => ⟨(f3 b hb).1.2.2.2.1, (f3 b hb).1.2.1, (f3 b hb).1.2.2.2.2.1, (f3 b hb).1.2.2.2.2.2⟩
    · exact fun b o e n nf nx => to2 (U.keep b o e n nf nx) (below e)
    · intro b o e n nf nx
      obtain ⟨sl, e1⟩ := U.slot b o e n nf nx
      exact ⟨sl, to2 e1 (below e)⟩
    · intro b o e nx
      obtain ⟨o', e1⟩ := U.there b o e nx
      exact ⟨o', to2 e1 (below e)⟩
    · refine fun b o q => (I.hok b o q).stay (fun c v hc r => to2 r fun z => ?_) (fun _ r => r) fun _ _ r => r
      have fz : H C = none := I.free
      rw [z] at hc
      rcases hc with hc | hc
      · rw [← hc, fz] at q
        cases q
      · rw [fz] at hc
        cases hc
  · intro b o e hb
    have n : b ≠ C := fun z => by
      have e' : (PySem.W.hideAll sI.heap [C]).get? b = some o := e
      rw [z, PySem.W.hideAll_none [C] (List.mem_singleton.mpr rfl)] at e'
      cases e'
    exact to2 (nb b o (PySem.W.of_hideAll [C] e) hb) n
  · refine Heap.UpToSlots.trans (h₂ := h2) (fun b o e hnf => ?_) k4
    have n : b ≠ C := fun z => by
      have e' : (PySem.W.hideAll sI.heap [C]).get? b = some o := e
      rw [z, PySem.W.hideAll_none [C] (List.mem_singleton.mpr rfl)] at e'
      cases e'
    obtain ⟨sl, e1⟩ := (up.trans up1) b o (PySem.W.of_hideAll [C] e) hnf
    exact ⟨sl, (sb.2 b n).trans e1⟩
  · rw [hf] at k3
    rw [hs]
    exact ⟨k1, none2 a g2, k2, k3⟩
end
end K3
namespace K3
open PySem PySem.Spec PyProof.Rows L2
section
variable {X : Cx} {W : XK}
/-- [elt for tg in iter if ..], the element one that may raise what W says -/
theorem pe_lcX {elt tg iter : Expr} {ifs : List Expr} {scope : Scope} {own : List (Str × Nat)} {pos : Pos} {wi : TI} {g : TG} {tt : TT} {te : TE}
    (tk : L2N.Takes X (fun cls d _ H => W cls d H)) (hst : X.stack = X.env :: X.outer) (hfr : X.env.frame = some X.env.locals)
    (hc : X.calm = true) (hN : X.N.Nodup) (hi : PI X tg iter wi) (ok : BlkOk X.N X.env.scope scope own)
    (hg : ∀ (s0 : Shared) (H0 : Hp) (C : Addr) (cl : List (Str × Addr)) (fp : List Addr), PG (X.blk s0 H0 scope (compEnvC scope cl C X.env) fp) tg g)
    (ht : ∀ (s0 : Shared) (H0 : Hp) (C : Addr) (cl : List (Str × Addr)) (fp : List Addr), PTs (X.blk s0 H0 scope (compEnvC scope cl C X.env) fp) ifs tt)
    (he : ∀ (s0 : Shared) (H0 : Hp) (C : Addr) (cl : List (Str × Addr)) (fp : List Addr), PE (blkX X W s0 H0 scope (compEnvC scope cl C X.env) fp) elt te)
    (hfold : ∀ x, foldedSetIterable iter X.env x = pure x := by intro _; rfl) :
    PE X (.ListComp elt [⟨tg, iter, ifs, 0⟩] scope pos) (tLc wi g tt te (own.map (·.2))) := by
  refine ⟨fun pins s σ H Q I h => ?_⟩
  rw [eval_ListComp]
  have has : ∀ y ∈ scope.names, y.2 = .free → ∃ c, X.env.cells.lookup y.1 = some c := by
    intro y hy e
    exact I.ok.has _ ((ok.free y hy e).elim (fun k => .inl k) (fun k => .inr k))
  have uni : ∀ y ∈ scope.names, y.2 = .local → scope.names.lookup y.1 = some .local := by
    intro y hy e
    rw [ok.uniq y hy, e]
  refine comprehension_at (use := none) rfl hfold (closure_ok has) ok.kind uni (thn (hi.run pins s σ H _ I h) fun xv s1 hx => thn hx fun itv s2 h2 => ?_)
  obtain ⟨it, fp, tn, J, H2, e, I2, T, st2, f2, q⟩ := h2
  subst e
  refine wpAny_newObj_type (newEnv_comp ?_) (by show 0 ≤ sizeLine; decide)
  have hDn : H2 s2.heap.objs.size = none := I2.hok.fresh (Nat.le_refl _)
  obtain ⟨Wt, ⟨m0, w0⟩, turn⟩ := q s2.heap.objs.size hDn
  generalize hD : s2.heap.objs.size = D at hDn w0 turn ⊢
  have low : ∀ b ∈ fp, b < D := by
    intro b hb
    obtain ⟨o, e, _⟩ := T.obj _ _ st2 b hb
    rw [← hD]
    exact Heap.lt_size e
  generalize h3' : ({ s2 with heap := s2.heap.push { cls := .type "list", data := .seq ([] : List Value).toArray } } : Shared) = s3
  have h3 : s3.heap = s2.heap.push { cls := .type "list", data := .seq ([] : List Value).toArray } := by rw [← h3']
  have z3 : D < s3.heap.objs.size := by
    rw [h3, Heap.size_push, hD]
    exact Nat.lt_succ_self _
  have k3 : ∀ b o, s2.heap.get? b = some o → s3.heap.get? b = some o := by
    intro b o e
    rw [h3]
    exact Heap.get?_push_of_some _ e
  have I3 : Inv X pins σ (upd H2 D (.lst [])) s3 := by
    rw [← h3']
    refine I2.laid (t' := s2.toks) (fun b o e => Heap.get?_push_of_some _ e) (Nat.le_of_eq hD) ⟨Nat.zero_le _, [], 0, .nil, ?_⟩
    rw [← hD]
    exact Heap.get?_push_size _ rfl
  have f3 : ∀ b ∈ fp, FpOk X pins (upd H2 D (.lst [])) b ∧ b < s3.heap.objs.size := by
    intro b hb
    have hlt := low b hb
    refine ⟨⟨?_, (f2 b hb).2⟩, Nat.lt_trans hlt z3⟩
    rw [upd_ne (Nat.ne_of_lt hlt)]
    exact (f2 b hb).1
  have I4 := block_start I3 ok hN f3
  generalize hcl : cellsFrom (s3.heap.objs.size + 1) scope.names (cloFrom X.env.cells scope.names []) = cl at I4
  generalize hH3 : upd H2 D (.lst []) = H3 at I3 I4 w0 f3
  have pg := hg s3 H3 s3.heap.objs.size cl fp
  have pt := ht s3 H3 s3.heap.objs.size cl fp
  have pe := he s3 H3 s3.heap.objs.size cl fp
  have bad : ∀ u s', XF (X.blk s3 H3 scope (compEnvC scope cl s3.heap.objs.size X.env) fp) W u s' → notedBy (model X.prog X.w) X.A (compEnvC scope cl s3.heap.objs.size X.env) (CompFails (model X.prog X.w) X.A X.xe (compEnvC scope cl s3.heap.objs.size X.env)) u s' :=
    fun u s' x => block_fails tk hst hfr I3 f3 (Nat.le_refl _) x
  show codeAny _ _ (.compStart (.ListComp elt [⟨tg, iter, ifs, 0⟩] scope pos) 0 (.ref it) (.ref D) (compEnvC scope cl s3.heap.objs.size X.env)) (compEnds (model X.prog X.w) X.A X.xe none (EP X pins σ Q) (.ref D) (compEnvC scope cl s3.heap.objs.size X.env)) { s3 with heap := pushCells (s3.heap.push { cls := .type "dict", data := .dict #[] }) scope.names }
  have cL : (compEnvC scope cl s3.heap.objs.size X.env).locals = s3.heap.objs.size := rfl
  generalize hC : s3.heap.objs.size = C at pg pt pe bad I4 cL ⊢
  generalize hce : compEnvC scope cl C X.env = ce at pg pt pe bad I4 cL ⊢
  generalize hs4 : ({ s3 with heap := pushCells (s3.heap.push { cls := .type "dict", data := .dict #[] }) scope.names } : Shared) = s4 at I4 ⊢
  have st4 : tn 0 s4.heap := T.keep _ _ _ st2 fun b _ o e => by
    rw [← hs4]
    exact pushCells_keeps _ _ _ _ (Heap.get?_push_of_some _ (k3 b o e))
  have stat : ∀ {σ' : L2.St} {H' : Hp} {s' : Shared}, Inv (X.blk s3 H3 scope ce fp) [] σ' H' s' → (∀ b ∈ fp, H' b = none) → ∀ b ∈ fp, FpOk (X.blk s3 H3 scope ce fp) [] H' b := by
    intro σ' H' s' I' hn b hb
    exact ⟨hn b hb, (I'.ok.exf b hb).1, I'.ok.exfs b hb, .inl hb, fun x c e => (I'.ok.exf b hb).2 x c e, fun p hp => absurd (show p ∈ ([] : List (Addr × Obj)) ++ [] from hp) (by simp)⟩
  have loop : codeAny (model X.prog X.w) X.A (.compLoop (.ListComp elt [⟨tg, iter, ifs, 0⟩] scope pos) 0 (.ref it) (.ref D) ce) (compEnds (model X.prog X.w) X.A X.xe none (EP X pins σ Q) (.ref D) ce) s4 := by
    refine compLoop_any (fun n s' => ∃ i H', Inv (X.blk s3 H3 scope ce fp) [] (wipe σ (own.map (·.2))) H' s' ∧ tn i s'.heap ∧ (∀ b ∈ fp, H' b = none) ∧ Wt i n H') ?_ m0 ⟨0, H3, I4, st4, fun b hb => (f3 b hb).1.1, w0⟩
    rintro n s5 ⟨i, H5, I5, st5, n5, w5⟩
    rcases turn i n H5 w5 with ⟨stop, qq⟩ | ⟨go, Nx, hNx, step⟩
    · refine thnF (T.done (X.blk s3 H3 scope ce fp) rfl rfl rfl hc i [] s5 _ H5 (fun _ _ => False) I5 (stat I5 n5) st5 stop) fun r s6 ⟨hr, I6⟩ => ?_
      subst hr
      have nC : H5 C = none := by
        rw [← cL]
        exact I6.free
      have I7 : Inv X pins σ H5 s6 := I3.call' (ch := fp) I6.os I6.base I6.hok I6.bare fun b hb => ⟨(f3 b hb).1.2.2.2.1, (f3 b hb).1.2.1, (f3 b hb).1.2.2.2.2.1, (f3 b hb).1.2.2.2.2.2⟩
      obtain ⟨m, hn, _⟩ := I6.loc
      obtain ⟨p0, p1, p2, p3, p4, p5⟩ := I3.fpOk (Nat.le_of_eq hC) nC
      refine ⟨m, hn, fun h' sb => ⟨.ref D, H5, I7.turned (t' := s6.toks) (fun b o hb e => (sb.2 b (by rw [show (X.blk s3 H3 scope ce fp).env.locals = ce.locals from rfl, cL] at *; exact hb)).trans e) p0 p1 p3 p4 p5, rfl, qq⟩⟩
    · refine thnF (T.item (X.blk s3 H3 scope ce fp) rfl rfl rfl hc i [] s5 _ H5 (fun _ _ => False) I5 (stat I5 n5) st5 go) fun r s6 ⟨u, hr, h6⟩ => ?_
      subst hr
      refine thnF h6 fun _ s7 ⟨x, H7, I7, r7, y7, st7, n7⟩ => ?_
      have P7 := I7.pinned (stat I7 n7) (T.obj _ _ st7)
      refine thnF (pg.run _ s7 _ H7 x u _ P7 r7 (step x H7 y7)) fun _ s8 ⟨σ8, H8, I8, hw8, q8⟩ => ?_
      refine thnF (pt.run _ s8 σ8 H8 _ I8 q8) fun b s9 ⟨H9, I9, q9⟩ => ?_
      have fin : ∀ {s' : Shared} {H' : Hp}, Inv (X.blk s3 H3 scope ce fp) ([] ++ pinsAt fp s7.heap) σ8 H' s' → Nx H' →
          ∃ m, m < n ∧ ∃ i H', Inv (X.blk s3 H3 scope ce fp) [] (wipe σ (own.map (·.2))) H' s' ∧ tn i s'.heap ∧ (∀ b ∈ fp, H' b = none) ∧ Wt i m H' := by
        intro s' H' I' nx
        obtain ⟨m', hm, w'⟩ := hNx H' nx
        have stay : ∀ b ∈ fp, ∀ o, s7.heap.get? b = some o → s'.heap.get? b = some o ∧ H' b = none := by
          intro b hb o e
          obtain ⟨z1, z2, _⟩ := I'.pin (b, o) (List.mem_append_right _ (List.mem_append_right _ (mem_pinsAt hb e)))
          exact ⟨z1, z2⟩
        refine ⟨m', hm, i + 1, H', (I'.unpinned (pins := [])).weak (by rw [← hw8, wipe_length]) (fun j v e => ?_), T.keep _ _ _ st7 fun b hb o e => (stay b hb o e).1, fun b hb => ?_, w'⟩
        · rw [← hw8] at e
          exact (wipe_some e).1
        · obtain ⟨o, e, _⟩ := T.obj _ _ st7 b hb
          exact (stay b hb o e).2
      cases b with
      | false =>
        simp only [Bool.false_eq_true, if_false] at q9 ⊢
        exact fin I9 q9
      | true =>
        simp only [if_true] at q9 ⊢
        refine wpAny_mono (pe.run _ s9 σ8 H9 _ (toX I9) q9) (fun z s10 hz => ?_) fun u s' x => bad u s' x
        obtain ⟨yv, H10, I10, r10, acc, hD10, hz10, nx⟩ := hz
        exact app_ok (X := X.blk s3 H3 scope ce fp) (ofX I10) hD10 hz10 r10 fun s11 I11 => fin I11 nx
  exact codeAny_compStart_list loop (T.self X.A 0 _ _ _ st4 loop)
end
end K3
namespace K3
open PySem PySem.Spec L2 GG
/-! ### worths as the program sees them: data and what is asked of them -/
def Gd : Nat → PyData → Prop
  | 0, d => match d with
    | .none => True
    | .int _ => True
    | .str z => z.length ≤ 1000 ∧ PyData.strOk z = true
    | _ => False
  | n + 1, d => match d with
    | .none => True
    | .int _ => True
    | .str z => z.length ≤ 1000 ∧ PyData.strOk z = true
    | .tuple ds => ds.length ≤ 1000 ∧ ∀ e ∈ ds, Gd n e
    | _ => False
theorem Gd.up : ∀ {n : Nat} {d : PyData}, Gd n d → Gd (n + 1) d
  | 0, d, h => by
    cases d with
    | none => exact True.intro
    | int i => exact True.intro
    | str z => exact h
    | tuple ds => exact h.elim
    | list ds => exact h.elim
    | bool b => exact h.elim
    | dict ds => exact h.elim
  | n + 1, d, h => by
    cases d with
    | none => exact True.intro
    | int i => exact True.intro
    | str z => exact h
    | tuple ds => exact ⟨h.1, fun e he => Gd.up (h.2 e he)⟩
    | list ds => exact h.elim
    | bool b => exact h.elim
    | dict ds => exact h.elim
theorem Gd.mono {n m : Nat} {d : PyData} (h : Gd n d) (l : n ≤ m) : Gd m d := by
  induction l with
  | refl => exact h
  | step _ ih => exact ih.up
theorem Gd.str {n : Nat} {z : Str} (h : Gd n (.str z)) : z.length ≤ 1000 ∧ PyData.strOk z = true := by
  cases n <;> exact h
theorem Gd.tupI {n : Nat} {ds : List PyData} (h : Gd n (.tuple ds)) : ∃ m, n = m + 1 ∧ ds.length ≤ 1000 ∧ ∀ e ∈ ds, Gd m e := by
  cases n with
  | zero => exact h.elim
  | succ m => exact ⟨m, rfl, h⟩
theorem Gd.strI {n : Nat} {z : Str} (h : z.length ≤ 1000) (k : PyData.strOk z = true) : Gd n (.str z) := by
  cases n <;> exact ⟨h, k⟩
theorem Gd.int {n : Nat} {i : Int} : Gd n (.int i) := by
  cases n <;> exact True.intro
theorem Gd.non {n : Nat} : Gd n .none := by
  cases n <;> exact True.intro
mutual
theorem Gd.lay : ∀ {d : PyData} {n : Nat}, Gd n d → d.canLay0 = true ∧ d.depth ≤ n
  | .none, n, _ => ⟨by simp [PyData.canLay0], by simp [PyData.depth]⟩
  | .int _, n, _ => ⟨by simp [PyData.canLay0], by simp [PyData.depth]⟩
  | .str z, n, h => ⟨by simp only [PyData.canLay0]; exact h.str.2, by simp [PyData.depth]⟩
  | .tuple ds, n, h => by
    obtain ⟨m, rfl, _, h2⟩ := h.tupI
    have k := Gd.layAll (ds := ds) h2
    exact ⟨by simp only [PyData.canLay0]; exact k.1, by simp only [PyData.depth]; omega⟩
  | .list ds, 0, h => h.elim
  | .list ds, n + 1, h => h.elim
  | .bool b, 0, h => h.elim
  | .bool b, n + 1, h => h.elim
  | .dict b, 0, h => h.elim
  | .dict b, n + 1, h => h.elim
theorem Gd.layAll : ∀ {ds : List PyData} {n : Nat}, (∀ e ∈ ds, Gd n e) → PyData.canLayAll0 ds = true ∧ PyData.depthAll ds ≤ n
  | [], n, _ => ⟨by simp [PyData.canLayAll0], by simp [PyData.depthAll]⟩
  | d :: ds, n, h => by
    have k1 := Gd.lay (h d (List.mem_cons_self ..))
    have k2 := Gd.layAll fun e he => h e (List.mem_cons_of_mem _ he)
    exact ⟨by simp only [PyData.canLayAll0]; rw [k1.1, k2.1]; rfl, by simp only [PyData.depthAll]; omega⟩
end
theorem Gd.shaped {n : Nat} {d : PyData} (h : Gd n d) (hn : n ≤ 60) : SeqAt.shaped d = true := by
  show (d.canLay0 && decide (d.depth ≤ 64)) = true
  rw [h.lay.1, decide_eq_true (by have := h.lay.2; omega)]
  rfl
def isWholeD (lo hi : Int) : PyData → Bool
  | .int i => decide (lo ≤ i) && decide (i ≤ hi)
  | _ => false
def isWordZ (z : Str) : Bool := !decide (8 < (z.length : Int)) && (Txt.isascii z && (Txt.isalpha z && Txt.islower z))
def isWordD : PyData → Bool
  | .str z => isWordZ z
  | _ => false
def isCountZ (z : Str) : Bool := Txt.isascii z && (Txt.isdigit z && (decide (z = "0") || !Txt.startswith z "0"))
def housesV : List V := [.str "0", .str "1", .str "2", .str "3", .str "4", .str "5"]
def isHeadZ (sharp : Str) (h : Str × Str × Str) : Bool := inV (.str h.1) housesV && (if h.2.1.length = 0 then decide (sharp = "#") else (Txt.split h.2.2 ".").all isCountZ)
def isNameP (p : Str × Str × Str) : Bool := !(!decide (p.2.1.length = 0) && !isCountZ p.2.2) && isHeadZ p.2.1 (Txt.partition p.1 ":")
def isNameZ (z : Str) : Bool := !decide (400 < (z.length : Int)) && isNameP (Txt.partition z "#")
def isNameD : PyData → Bool
  | .str z => isNameZ z
  | _ => false
def isHoldD : PyData → Bool
  | .tuple [.str t, d] => decide (t = "to") && isNameD d
  | _ => false
def isWorthD : Nat → PyData → Bool
  | 0, d => match d with
    | .none => true
    | .tuple _ => isHoldD d
    | _ => isWordD d || isWholeD (-999999999) 999999999 d
  | k + 1, d => match d with
    | .none => true
    | .tuple ds => isHoldD d || (decide (ds.length ≤ 5) && ds.all (isWorthD k))
    | _ => isWordD d || isWholeD (-999999999) 999999999 d
/-- the constants of the module -/
structure Cst (K : PySem.W.Frag) (mg : Str → Option Value) (hA : Addr) : Prop where
  word : ∃ u, mg "MOST_WORD" = some u ∧ RelV (.int 8) u
  name : ∃ u, mg "MOST_NAME" = some u ∧ RelV (.int 400) u
  num : ∃ u, mg "MOST_NUMBER" = some u ∧ RelV (.int 999999999) u
  parts : ∃ u, mg "MOST_PARTS" = some u ∧ RelV (.int 5) u
  hs : mg "HOUSES" = some (.ref hA)
  ht : ∀ H, SqT K H hA housesV
abbrev sWholeP : Stmt := top 7
abbrev sWordP : Stmt := top 8
abbrev sCountP : Stmt := top 9
abbrev sNameP : Stmt := top 10
abbrev sHoldP : Stmt := top 11
theorem scWh : FnScope ["thing", "least", "most"] ["thing", "least", "most"] (defScope sWholeP) := ⟨rfl, rfl, rfl, by decide +kernel, rfl, by decide +kernel, by decide +kernel⟩
theorem scWo : FnScope ["thing"] ["thing"] (defScope sWordP) := ⟨rfl, rfl, rfl, by decide +kernel, rfl, by decide +kernel, by decide +kernel⟩
theorem scCn : FnScope ["text"] ["text"] (defScope sCountP) := ⟨rfl, rfl, rfl, by decide +kernel, rfl, by decide +kernel, by decide +kernel⟩
theorem scNm : FnScope ["thing", "head", "sharp", "made", "house", "colon", "puts", "part"] ["thing"] (defScope sNameP) := ⟨rfl, rfl, rfl, by decide +kernel, rfl, by decide +kernel, by decide +kernel⟩
theorem scHo : FnScope ["thing"] ["thing"] (defScope sHoldP) := ⟨rfl, rfl, rfl, by decide +kernel, rfl, by decide +kernel, by decide +kernel⟩
def spWhole : Sp := fun vs H Q _ => ∃ (v : V) (d : PyData) (lo hi : Int), vs = [v, .int lo, .int hi] ∧ Dt H v d ∧ Q (.bl (isWholeD lo hi d)) H
def spWord : Sp := fun vs H Q _ => ∃ (v : V) (d : PyData) (n : Nat), vs = [v] ∧ Dt H v d ∧ Gd n d ∧ Q (.bl (isWordD d)) H
def spCountT : Sp := fun vs H Q _ => ∃ z : Str, vs = [.str z] ∧ Q (.bl (isCountZ z)) H
def spName : Sp := fun vs H Q _ => ∃ (v : V) (d : PyData) (n : Nat), vs = [v] ∧ Dt H v d ∧ Gd n d ∧ ∀ H', Same H H' → Q (.bl (isNameD d)) H'
def spHold : Sp := fun vs H Q _ => ∃ (v : V) (d : PyData) (n : Nat), vs = [v] ∧ Dt H v d ∧ Gd n d ∧ n ≤ 60 ∧ ∀ H', Same H H' → Q (.bl (isHoldD d)) H'
def tyDt : PyData → String
  | .none => "NoneType"
  | .int _ => "int"
  | .str _ => "str"
  | _ => "tuple"
def isTup : PyData → Bool
  | .tuple _ => true
  | _ => false
def isStrD : PyData → Bool
  | .str _ => true
  | _ => false
def isInt : PyData → Bool
  | .int _ => true
  | _ => false
theorem Dt.ty {K : PySem.W.Frag} {H : Hp} {v : V} {d : PyData} (h : Dt H v d) : TyX K H v (.type (tyDt d)) := by
  cases h with
  | non => exact .base .non
  | int i => exact .base (.int i)
  | str z => exact .base (.str z)
  | tup e a => exact .base (.tup e)
theorem Dt.kTup {K : PySem.W.Frag} {H : Hp} {v : V} {d : PyData} (h : Dt H v d) : PySem.W.kitOne K (.type (tyDt d)) (.type "tuple") = some (isTup d) := by
  cases h with
  | non => exact kit_ty (show kitB "NoneType" "tuple" = some false by decide +kernel)
  | int i => exact kit_ty (show kitB "int" "tuple" = some false by decide +kernel)
  | str z => exact kit_ty (show kitB "str" "tuple" = some false by decide +kernel)
  | tup e a => exact kit_ty (show kitB "tuple" "tuple" = some true by decide +kernel)
theorem Dt.kStr {K : PySem.W.Frag} {H : Hp} {v : V} {d : PyData} (h : Dt H v d) : PySem.W.kitOne K (.type (tyDt d)) (.type "str") = some (isStrD d) := by
  cases h with
  | non => exact kit_ty (show kitB "NoneType" "str" = some false by decide +kernel)
  | int i => exact kit_ty (show kitB "int" "str" = some false by decide +kernel)
  | str z => exact kit_ty (show kitB "str" "str" = some true by decide +kernel)
  | tup e a => exact kit_ty (show kitB "tuple" "str" = some false by decide +kernel)
theorem Dt.kInt {K : PySem.W.Frag} {H : Hp} {v : V} {d : PyData} (h : Dt H v d) : PySem.W.kitOne K (.type (tyDt d)) (.type "int") = some (isInt d) := by
  cases h with
  | non => exact kit_ty (show kitB "NoneType" "int" = some false by decide +kernel)
  | int i => exact kit_ty (show kitB "int" "int" = some true by decide +kernel)
  | str z => exact kit_ty (show kitB "str" "int" = some false by decide +kernel)
  | tup e a => exact kit_ty (show kitB "tuple" "int" = some false by decide +kernel)
section
variable {P : Program} {w : World} {K : PySem.W.Frag} {mg : Str → Option Value} {base : Heap} {hA : Addr}
theorem ok_whole {f : Addr} {fd : FuncData} (F : Fun K "is_whole" "is_whole" sWholeP f fd) (T : Txt mg) (zb : mg "bool" = none) : FnOk P w K mg base CX0 1 f fd ["thing", "least", "most"] spWhole := by
  refine F.ok scWh (fun vs H Q E h => ?_) (fun cdv A outer s H vs Q E hr h => ?_)
  · obtain ⟨v, d, lo, hi, rfl, _⟩ := h
    rfl
  · obtain ⟨v, d, lo, hi, rfl, hd, k⟩ := h
    refine ⟨_, pss_one (ps_ret (pe_and (pe_callB call_isi (by rfl) T.isinstance (by decide +kernel) (pa_cons (pv 0) (pa_cons (pe_bltn (v := V.ty "int") (by rfl) T.int (by decide +kernel) rfl) pa_nil)))
      (pe_and (pe_not (pe_callB call_isi (by rfl) T.isinstance (by decide +kernel) (pa_cons (pv 0) (pa_cons (pe_bltn (v := V.ty "bool") (by rfl) zb (by decide +kernel) rfl) pa_nil))))
      (pe_one (pe_chain op_le op_le (pv 1) (pv 0) (pv 2)))))), ?_⟩
    refine ⟨_, rfl, v, .ty "int", _, .type "int", isInt d, rfl, .ty _, hd.ty, hd.kInt, isInt d, rfl, ?_⟩
    cases hd with
    | non => exact iteF k
    | str z => exact iteF k
    | tup e a => exact iteF k
    | int i =>
      refine iteT ⟨_, rfl, .int i, .ty "bool", .type "int", .type "bool", false, rfl, .ty _, .base (.int i), kit_ty (by decide +kernel), false, rfl, true, rfl, iteT ?_⟩
      refine ⟨_, rfl, _, rfl, lo, i, rfl, rfl, _, rfl, ?_⟩
      have k' : Q (.bl (decide (lo ≤ i) && decide (i ≤ hi))) H := k
      by_cases hl : lo ≤ i
      · rw [decide_eq_true hl] at k' ⊢
        exact iteT ⟨_, rfl, i, hi, rfl, rfl, k'⟩
      · rw [decide_eq_false hl] at k' ⊢
        exact iteF k'
theorem ok_word {f : Addr} {fd : FuncData} (F : Fun K "is_word" "is_word" sWordP f fd) (T : Txt mg) (zs : mg "str" = none) (CC : Cst K mg hA) : FnOk P w K mg base CX0 1 f fd ["thing"] spWord := by
  refine F.ok scWo (fun vs H Q E h => ?_) (fun cdv A outer s H vs Q E hr h => ?_)
  · obtain ⟨v, d, n, rfl, _⟩ := h
    rfl
  · obtain ⟨v, d, n, rfl, hd, hg, k⟩ := h
    refine ⟨_, pss_cons (ps_if (PW.pt (pw_or (pt_not (pt_val (pe_callB call_isi (by rfl) T.isinstance (by decide +kernel) (pa_cons (pv 0) (pa_cons (pe_bltn (v := V.ty "str") (by rfl) zs (by decide +kernel) rfl) pa_nil)))))
        (pw_or1 (pt_cmpR op_gt (pe_callB call_len_str (by rfl) T.len PySem.boot_len (pa_cons (pv 0) pa_nil)) (C8.pe_gc (by rfl) CC.word) (nomark _))))) (pss_one (ps_ret pe_bl)) pss_nil)
      (pss_one (ps_ret (pe_and (pe_m0 PySem.F.slot_str_isascii PySem.F.type_str_isascii mt_isascii (pv 0)) (pe_and (pe_m0 PySem.F.slot_str_isalpha PySem.F.type_str_isalpha mt_isalpha (pv 0)) (pe_one (pe_m0 PySem.F.slot_str_islower PySem.F.type_str_islower mt_islower (pv 0))))))), ?_⟩
    refine ⟨_, rfl, v, .ty "str", _, .type "str", isStrD d, rfl, .ty _, hd.ty, hd.kStr, isStrD d, rfl, ?_⟩
    cases hd with
    | non => exact iteT k
    | int i => exact iteT k
    | tup e a => exact iteT k
    | str z =>
      refine iteF ⟨_, rfl, z, rfl, Nat.le_trans hg.str.1 (by decide), _, _, rfl, rfl, _, rfl, ?_⟩
      have k' : Q (.bl (!decide (8 < (z.length : Int)) && (Txt.isascii z && (Txt.isalpha z && Txt.islower z)))) H := k
      by_cases h8 : (8 : Int) < (z.length : Int)
      · rw [decide_eq_true h8] at k' ⊢
        exact iteT k'
      · rw [decide_eq_false h8] at k' ⊢
        refine iteF ⟨_, rfl, ⟨z, rfl⟩, z, rfl, rfl, True.intro, _, rfl, ?_⟩
        cases h1 : Txt.isascii z with
        | false =>
          rw [h1] at k'
          exact iteF k'
        | true =>
          rw [h1] at k'
          refine iteT ⟨_, rfl, ⟨z, rfl⟩, z, rfl, rfl, True.intro, _, rfl, ?_⟩
          cases h2 : Txt.isalpha z with
          | false =>
            rw [h2] at k'
            exact iteF k'
          | true =>
            rw [h2] at k'
            exact iteT ⟨_, rfl, ⟨z, rfl⟩, z, rfl, rfl, True.intro, k'⟩
theorem ok_countT {f : Addr} {fd : FuncData} (F : Fun K "is_count" "is_count" sCountP f fd) : FnOk P w K mg base CX0 1 f fd ["text"] spCountT := by
  refine F.ok scCn (fun vs H Q E h => ?_) (fun cdv A outer s H vs Q E hr h => ?_)
  · obtain ⟨z, rfl, _⟩ := h
    rfl
  · obtain ⟨z, rfl, k⟩ := h
    refine ⟨_, pss_one (ps_ret (pe_and (pe_m0 PySem.F.slot_str_isascii PySem.F.type_str_isascii mt_isascii (pv 0)) (pe_and (pe_m0 PySem.F.slot_str_isdigit PySem.F.type_str_isdigit mt_isdigit (pv 0))
      (pe_one (pe_or (pe_cmpR op_eq (pv 0) pe_str (nomark _)) (pe_one (pe_not (pe_m1 PySem.F.slot_str_startswith PySem.F.type_str_startswith mt_startswith (pv 0) pe_str)))))))), ?_⟩
    have k' : Q (.bl (Txt.isascii z && (Txt.isdigit z && (decide (z = "0") || !Txt.startswith z "0")))) H := k
    refine ⟨_, rfl, ⟨z, rfl⟩, z, rfl, rfl, True.intro, _, rfl, ?_⟩
    cases h1 : Txt.isascii z with
    | false =>
      rw [h1] at k'
      exact iteF k'
    | true =>
      rw [h1] at k'
      refine iteT ⟨_, rfl, ⟨z, rfl⟩, z, rfl, rfl, True.intro, _, rfl, ?_⟩
      cases h2 : Txt.isdigit z with
      | false =>
        rw [h2] at k'
        exact iteF k'
      | true =>
        rw [h2] at k'
        refine iteT ⟨_, rfl, rfl, _, rfl, ?_⟩
        by_cases h3 : z = "0"
        · have e : decide (V.str z = V.str "0") = true := decide_eq_true (by rw [h3])
          rw [decide_eq_true h3] at k'
          rw [e]
          exact iteT k'
        · have e : decide (V.str z = V.str "0") = false := decide_eq_false fun q => h3 (by cases q; rfl)
          rw [decide_eq_false h3] at k'
          rw [e]
          exact iteF ⟨_, rfl, ⟨z, rfl⟩, z, _, rfl, rfl, _, rfl, k'⟩
end
end K3
namespace K3
open PySem L2 GG
section
variable {P : Program} {w : World} {K : PySem.W.Frag} {mg : Str → Option Value} {base : Heap} {hA : Addr}
theorem eqv_str_ne {d : PyData} {t : Str} (h : d ≠ .str t) : PyData.eqv d (.str t) = false := by
  cases d with
  | str z =>
    have e : PyData.eqv (.str z) (.str t) = (z == t) := by simp [PyData.eqv]
    rw [e]
    exact beq_eq_false_iff_ne.mpr fun q => h (by rw [q])
  | _ => simp [PyData.eqv]
theorem tru_str {K : PySem.W.Frag} {H : Hp} {z : Str} (h : z.length ≤ 1000) : TruV K (.str z) H (!decide (z.length = 0)) := by
  refine ⟨Nat.le_trans h (by decide), ?_⟩
  by_cases e : z.length = 0
  · rw [decide_eq_true e, e]
    rfl
  · rw [decide_eq_false e]
    have : ((z.length : Int) != 0) = true := by
      rw [bne_iff_ne]
      omega
    rw [this]
    rfl
theorem ok_name {f fc : Addr} {fd fdc : FuncData} (F : Fun K "is_name" "is_name" sNameP f fd) (T : Txt mg) (zs : mg "str" = none) (za : mg "all" = none) (CC : Cst K mg hA) (mc : mg "is_count" = some (.ref fc)) (kc : PySem.W.keepIn K (.ref fc) = true) (bc : Binds K fdc ["text"] [])
    (Gc : FnOk P w K mg base CX0 1 fc fdc ["text"] spCountT) : FnOk P w K mg base CX0 2 f fd ["thing"] spName := by
  refine F.ok scNm (fun vs H Q E h => ?_) (fun cdv A outer s H vs Q E hr h => ?_)
  · obtain ⟨v, d, n, rfl, _⟩ := h
    rfl
  · obtain ⟨v, d, n, rfl, hd, hg, k⟩ := h
    have nd := scNm.nd
    refine ⟨_, pss_cons (ps_if (PW.pt (pw_or (pt_not (pt_val (pe_callB call_isi (by rfl) T.isinstance (by decide +kernel) (pa_cons (pv 0) (pa_cons (pe_bltn (v := V.ty "str") (by rfl) zs (by decide +kernel) rfl) pa_nil)))))
        (pw_or1 (pt_cmpR op_gt (pe_callB call_len_str (by rfl) T.len PySem.boot_len (pa_cons (pv 0) pa_nil)) (C8.pe_gc (by rfl) CC.name) (nomark _))))) (pss_one (ps_ret pe_bl)) pss_nil)
      (pss_cons (ps_asg (pe_partition (pv 0) pe_str) (pg_tup rfl (pgs_cons (pg_name (i := 1) nd rfl (.inl rfl)) (pgs_cons (pg_name (i := 2) nd rfl (.inl rfl)) (pgs_cons (pg_name (i := 3) nd rfl (.inl rfl)) pgs_nil)))))
      (C8.pss_cut (ps_if (PW.pt (pw_and (pt_truth (pv 2) (by intro _; rfl)) (pw_and1 (pt_not (pt_val (pe_call Gc hr (by rfl) mc kc bc .nil pass0 (pa_cons (pv 3) pa_nil))))))) (pss_one (ps_ret pe_bl)) pss_nil)
      (pss_cons (ps_asg (pe_partition (pv 1) pe_str) (pg_tup rfl (pgs_cons (pg_name (i := 4) nd rfl (.inl rfl)) (pgs_cons (pg_name (i := 5) nd rfl (.inl rfl)) (pgs_cons (pg_name (i := 6) nd rfl (.inl rfl)) pgs_nil)))))
      (pss_cons (ps_if (pt_cmpR op_notIn_seq (pv 4) (pe_glob (v := .ref hA) (by rfl) CC.hs rfl) rfl) (pss_one (ps_ret pe_bl)) pss_nil)
      (pss_cons (ps_if (pt_not (pt_truth (pv 5) (by intro _; rfl))) (pss_one (ps_ret (pe_cmpR op_eq (pv 2) pe_str (nomark _)))) pss_nil)
      (pss_one (ps_ret (pe_callB (cr_all rfl) (by rfl) za (by decide +kernel) (pa_cons (pe_lc (own := [("part", 7)]) (g := gName 7) (tt := tYes) rfl nd (pi_list (pe_split (pv 6) pe_str))
        (blkOk_by (N := ["thing", "head", "sharp", "made", "house", "colon", "puts", "part"]) (sc := defScope sNameP) (by decide +kernel)) (fun _ _ _ _ _ => pg_name (i := 7) nd rfl (Or.inl rfl)) (fun _ _ _ _ _ => pts_nil)
        (fun _ _ _ _ _ => pe_call Gc hr (by rfl) mc kc bc .nil pass0 (pa_cons (pv 7) pa_nil))) pa_nil))))))))), ?_⟩
    refine ⟨_, rfl, v, .ty "str", _, .type "str", isStrD d, rfl, .ty _, hd.ty, hd.kStr, isStrD d, rfl, ?_⟩
    have no : ∀ b : Bool, isNameD d = b → ∀ H', Same H H' → Q (.bl b) H' := fun b e H' s => e ▸ k H' s
    cases hd with
    | non => exact iteT (no false rfl H (Same.refl _))
    | int i => exact iteT (no false rfl H (Same.refl _))
    | tup e a => exact iteT (no false rfl H (Same.refl _))
    | str z =>
      have hz := hg.str.1
      refine iteF ⟨_, rfl, z, rfl, Nat.le_trans hz (by decide), _, _, rfl, rfl, _, rfl, ?_⟩
      by_cases h4 : (400 : Int) < (z.length : Int)
      · rw [decide_eq_true h4]
        exact iteT (no false (by show isNameZ z = false; unfold isNameZ; rw [decide_eq_true h4]; rfl) H (Same.refl _))
      have en : isNameZ z = isNameP (Txt.partition z "#") := by
        unfold isNameZ
        rw [decide_eq_false h4]
        rfl
      rw [decide_eq_false h4]
      refine iteF ⟨_, rfl, ⟨z, rfl⟩, z, _, rfl, rfl, by decide +kernel, Nat.le_trans hz (by decide), fun p hp => ?_⟩
      obtain ⟨l1, l2, l3⟩ := PyProof.Rows.fact_partition z "#"
      generalize Txt.partition z "#" = pp at en l1 l2 l3 ⊢
      obtain ⟨hd, sh, mk⟩ := pp
      simp only at l1 l2 l3 ⊢
      have s1 := same_new (Same.refl H) hp (o := .tup [.str hd, .str sh, .str mk])
      have a1 : upd H p (.tup [.str hd, .str sh, .str mk]) p = some (.tup [.str hd, .str sh, .str mk]) := upd_same
      generalize upd H p (.tup [.str hd, .str sh, .str mk]) = H1 at s1 a1 ⊢
      refine ⟨p, _, rfl, SqT.of a1, rfl, _, _, rfl, _, _, rfl, _, _, rfl, rfl, ?_⟩
      refine ⟨fun σ' H' => (!decide (sh.length = 0) && !isCountZ mk) = false ∧ σ' = [some (.str z), some (.str hd), some (.str sh), some (.str mk), none, none, none, none] ∧ H' = H1, ?_, ?_⟩
      · refine ⟨_, rfl, _, tru_str (by omega), ?_⟩
        by_cases h0 : sh.length = 0
        · rw [decide_eq_true h0]
          exact iteF (iteF ⟨rfl, rfl, rfl⟩)
        · rw [decide_eq_false h0]
          refine iteT ⟨_, rfl, mk, rfl, _, rfl, ?_⟩
          cases h1 : isCountZ mk with
          | true => exact iteF ⟨rfl, rfl, rfl⟩
          | false =>
            refine iteT (no false ?_ H1 s1)
            show isNameZ z = false
            rw [en]
            show (!(!decide (sh.length = 0) && !isCountZ mk) && isHeadZ sh (Txt.partition hd ":")) = false
            rw [decide_eq_false h0, h1]
            rfl
      · rintro σ2 H2 ⟨hc, rfl, rfl⟩
        have ek : isNameZ z = isHeadZ sh (Txt.partition hd ":") := by
          rw [en]
          show (!(!decide (sh.length = 0) && !isCountZ mk) && isHeadZ sh (Txt.partition hd ":")) = _
          rw [hc]
          rfl
        refine ⟨_, rfl, ⟨hd, rfl⟩, hd, _, rfl, rfl, by decide +kernel, Nat.le_trans l1 (Nat.le_trans hz (by decide)), fun p2 hp2 => ?_⟩
        obtain ⟨m1, m2, m3⟩ := PyProof.Rows.fact_partition hd ":"
        generalize Txt.partition hd ":" = pp at ek m1 m2 m3 ⊢
        obtain ⟨ho, co, pu⟩ := pp
        simp only at m1 m2 m3 ⊢
        have s2 := same_new (Same.refl H2) hp2 (o := .tup [.str ho, .str co, .str pu])
        have a2 : upd H2 p2 (.tup [.str ho, .str co, .str pu]) p2 = some (.tup [.str ho, .str co, .str pu]) := upd_same
        generalize upd H2 p2 (.tup [.str ho, .str co, .str pu]) = H3 at s2 a2 ⊢
        have s3 : Same H H3 := s1.trans s2
        refine ⟨p2, _, rfl, SqT.of a2, rfl, _, _, rfl, _, _, rfl, _, _, rfl, rfl, ?_⟩
        refine ⟨_, rfl, hA, housesV, rfl, .inr (CC.ht H3), rfl, rfl, _, rfl, ?_⟩
        have fin : ∀ b : Bool, isHeadZ sh (ho, co, pu) = b → ∀ H', Same H3 H' → Q (.bl b) H' := fun b e H' s => no b (ek.trans e) H' (s3.trans s)
        by_cases h5 : inV (.str ho) housesV = true
        rotate_left
        · rw [Bool.not_eq_true] at h5
          have e : (if true = true then !inV (.str ho) housesV else inV (.str ho) housesV) = true := by rw [if_pos rfl, h5]; rfl
          rw [e]
          refine iteT (fin false ?_ H3 (Same.refl _))
          unfold isHeadZ
          rw [h5]
          rfl
        have e : (if true = true then !inV (.str ho) housesV else inV (.str ho) housesV) = false := by rw [if_pos rfl, h5]; rfl
        rw [e]
        refine iteF ⟨_, rfl, _, tru_str (by omega), ?_⟩
        by_cases h6 : co.length = 0
        · rw [decide_eq_true h6]
          refine iteT ⟨_, rfl, rfl, fin _ ?_ H3 (Same.refl _)⟩
          unfold isHeadZ
          rw [h5, if_pos h6, Bool.true_and]
          by_cases h7 : sh = "#"
          · rw [h7, decide_eq_true rfl, decide_eq_true rfl]
          · rw [decide_eq_false h7, decide_eq_false fun q => h7 (by cases q; rfl)]
        · rw [decide_eq_false h6]
          have eh : isHeadZ sh (ho, co, pu) = (Txt.split pu ".").all isCountZ := by
            unfold isHeadZ
            rw [h5, if_neg h6, Bool.true_and]
          refine iteF ⟨_, rfl, ⟨pu, rfl⟩, pu, _, rfl, rfl, by decide +kernel, Nat.le_trans (Nat.add_le_add_right (Nat.le_trans m3 (Nat.le_trans l1 hz)) 2) (by decide), fun q hq => ?_⟩
          have sl := PyProof.Rows.split_le pu "."
          generalize Txt.split pu "." = ps at eh sl ⊢
          have s4 := same_new (Same.refl H3) hq (o := .lst (ps.map V.str))
          have a4 : upd H3 q (.lst (ps.map V.str)) q = some (.lst (ps.map V.str)) := upd_same
          generalize upd H3 q (.lst (ps.map V.str)) = H4 at s4 a4 ⊢
          refine ⟨q, rfl, ⟨_, SqL.of a4⟩, fun D hD => ?_⟩
          refine lc_list (K := K) (a := q) (xs := ps.map V.str) (fun i H' => H' D = some (.lst (((ps.take i).map isCountZ).map V.bl)) ∧ Same H4 H') ?_ ?_ ?_ ?_
          · exact ⟨upd_same, same_new (Same.refl _) hD⟩
          · rintro i H' _ ⟨_, s⟩
            exact SqL.of (s _ _ a4)
          · rintro i x H' hi ⟨hDl, s⟩
            rw [List.getElem?_map] at hi
            cases hpi : ps[i]? with
            | none =>
              rw [hpi] at hi
              cases hi
            | some t =>
              rw [hpi] at hi
              cases hi
              have hil : i < ps.length := (List.getElem?_eq_some_iff.mp hpi).1
              refine ⟨rfl, _, rfl, t, rfl, _, hDl, ?_, ?_, same_mut s hD⟩
              · rw [List.length_map, List.length_map, List.length_take]
                exact Nat.lt_of_le_of_lt (show _ ≤ 1002 by omega) (by decide)
              · rw [upd_same, List.take_add_one, hpi, List.map_append, List.map_append]
                rfl
          · rintro H' ⟨hDl, s⟩
            rw [List.length_map, List.take_length] at hDl
            refine ⟨D, _, rfl, SqL.of hDl, fin _ ?_ H' (s4.trans s)⟩
            rw [eh, List.all_map]
            rfl
theorem ok_hold {f fn : Addr} {fd fdn : FuncData} (F : Fun K "is_hold" "is_hold" sHoldP f fd) (T : Txt mg) (mn : mg "is_name" = some (.ref fn)) (kn : PySem.W.keepIn K (.ref fn) = true) (bn : Binds K fdn ["thing"] [])
    (Gn : FnOk P w K mg base CX0 2 fn fdn ["thing"] spName) : FnOk P w K mg base CX0 3 f fd ["thing"] spHold := by
  refine F.ok scHo (fun vs H Q E h => ?_) (fun cdv A outer s H vs Q E hr h => ?_)
  · obtain ⟨v, d, n, rfl, _⟩ := h
    rfl
  · obtain ⟨v, d, n, rfl, hd, hg, hn, k⟩ := h
    refine ⟨_, pss_one (ps_ret (pe_and (pe_callB call_isi (by rfl) T.isinstance (by decide +kernel) (pa_cons (pv 0) (pa_cons (pe_bltn (v := V.ty "tuple") (by rfl) T.tuple (by decide +kernel) rfl) pa_nil)))
      (pe_and (pe_cmpR op_eq (pe_callB call_len_seq (by rfl) T.len PySem.boot_len (pa_cons (pv 0) pa_nil)) pe_int (nomark _))
      (pe_and (pe_cmpR (op_eqD hr.units) (pe_ix ix_tup (pv 0) pe_int (fun _ _ => rfl)) pe_str (nomark _))
      (pe_one (pe_call Gn hr (by rfl) mn kn bn .nil pass0 (pa_cons (pe_ix ix_tup (pv 0) pe_int (fun _ _ => rfl)) pa_nil))))))), ?_⟩
    have no : ∀ b : Bool, isHoldD d = b → ∀ H', Same H H' → Q (.bl b) H' := fun b e H' s => e ▸ k H' s
    refine ⟨_, rfl, v, .ty "tuple", _, .type "tuple", isTup d, rfl, .ty _, hd.ty, hd.kTup, isTup d, rfl, ?_⟩
    cases hd with
    | non => exact iteF (no false rfl H (Same.refl _))
    | int i => exact iteF (no false rfl H (Same.refl _))
    | str z => exact iteF (no false rfl H (Same.refl _))
    | @tup a xs ds e al =>
      have hl := al.length
      refine iteT ⟨_, rfl, a, xs, rfl, .inr (SqT.of e), rfl, _, rfl, ?_⟩
      by_cases h2 : ds.length = 2
      · obtain ⟨d0, d1, rfl⟩ : ∃ a b, ds = [a, b] := by
          match ds, h2 with
          | [a, b], _ => exact ⟨a, b, rfl⟩
        cases al with
        | @cons v0 _ _ _ h0 al =>
        cases al with
        | @cons v1 _ _ _ h1 al =>
        cases al
        obtain ⟨m, rfl, _, hge⟩ := hg.tupI
        have g0 := hge d0 (by simp)
        have g1 := hge d1 (by simp)
        have at0 : atI [v0, v1] 0 = some v0 := atI_int (by decide) rfl
        have at1 : atI [v0, v1] 1 = some v1 := atI_int (by decide) rfl
        refine iteT ⟨_, rfl, a, _, _, _, rfl, rfl, SqT.of e, at0, d0, .str "to", h0.dp, .str _, g0.shaped (by omega), by decide +kernel, _, rfl, ?_⟩
        by_cases ht : d0 = .str "to"
        · subst ht
          have e1 : PyData.eqv (.str "to") (.str "to") = true := by decide +kernel
          rw [e1]
          refine iteT ⟨_, rfl, a, _, _, _, rfl, rfl, SqT.of e, at1, v1, d1, m, rfl, h1, g1, fun H' s' => no _ ?_ H' s'⟩
          show (decide (("to" : Str) = "to") && isNameD d1) = isNameD d1
          rw [decide_eq_true rfl, Bool.true_and]
        · have e1 : PyData.eqv d0 (.str "to") = false := eqv_str_ne ht
          rw [e1]
          refine iteF (no false ?_ H (Same.refl _))
          cases d0 with
          | str t =>
            show (decide (t = "to") && isNameD d1) = false
            rw [decide_eq_false fun q => ht (by rw [q])]
            rfl
          | _ => rfl
      · have e2 : decide (V.int (xs.length : Int) = V.int 2) = false := decide_eq_false fun q => h2 (by
          have q2 : (xs.length : Int) = 2 := by
            injection q
          omega)
        rw [e2]
        refine iteF (no false ?_ H (Same.refl _))
        match ds, h2 with
        | [], _ => rfl
        | [_], _ => simp [isHoldD]
        | [_, _], z => exact absurd rfl z
        | _ :: _ :: _ :: _, _ => simp [isHoldD]
end
end K3
namespace K3
open PySem PySem.Spec PyProof.Rows L2 GG
/-! ### walks of any step -/
theorem lc_any {J : It} {n : Nat} {G : Hp → Prop} {Y : Nat → Hp → V → Hp → Prop} (w : Walk J n G Y) {S : (Hp → Prop) → V → Hp → Prop} {H0 : Hp} {Qd : Hp → Prop} (Pv : Nat → Hp → Prop) (h0 : Pv 0 H0) (hG : ∀ i H, i ≤ n → Pv i H → G H)
    (hs : ∀ i x H H', i < n → Pv i H → Y i H x H' → S (Pv (i + 1)) x H') (hd : ∀ H, Pv n H → Qd H) :
    ∃ W : Nat → Nat → Hp → Prop, (∃ m, W 0 m H0) ∧ ∀ i m H, W i m H → (J.stop i H ∧ Qd H) ∨ (J.go i H ∧ ∃ Nx : Hp → Prop, (∀ H', Nx H' → ∃ m', m' < m ∧ W (i + 1) m' H') ∧ ∀ x H', J.yld i H x H' → S Nx x H') := by
  refine ⟨fun i m H => m = n - i ∧ i ≤ n ∧ Pv i H, ⟨n, by simp, Nat.zero_le _, h0⟩, ?_⟩
  rintro i m H ⟨rfl, hi, p⟩
  have q := hG i H hi p
  by_cases hlt : i < n
  · refine .inr ⟨w.goes i H hlt q, Pv (i + 1), fun H' p' => ⟨n - (i + 1), by omega, rfl, hlt, p'⟩, fun x H' y => hs i x H H' hlt p (w.yields i H x H' hlt q y)⟩
  · have e : i = n := by omega
    subst e
    exact .inl ⟨w.stops H q, hd H p⟩
/-- a def with defaults that lets nothing out -/
theorem funD_ok0 {P : Program} {w : World} {K : PySem.W.Frag} {mg : Str → Option Value} {base : Heap} {x qual : Str} {params : Arguments} {body : List Stmt} {scope : Scope} {dvs : List V} {kws : List (Str × V)} {f : Addr} {fd : FuncData} {N ps : List Str} {k : Nat} {sp : Sp}
    (F : FunD K x qual params body scope dvs kws f fd) (S : FnScope N ps scope) (len : ∀ vs H Q E, sp vs H Q E → vs.length = ps.length)
    (hbody : ∀ (cdv : Value) (A : Around) (outer : List Env) (s : Shared) (H : Hp) (vs : List V) (Q : VK) (E : XK), Room k (A.deeper (envOfC qual scope s.heap.objs.size f cdv)) → sp vs H Q E →
      ∃ t, PSs (cxOf CX0 P w K mg base N qual scope f cdv A outer s H E).nox body t ∧ t { nx := fun _ H' => Q .non H', rt := Q } (start N vs) H) : FnOk P w K mg base CX0 (k + 1) f fd ps sp := by
  refine F.ok S len fun cdv A outer s H vs Q E hr h => ?_
  obtain ⟨t, h1, h2⟩ := hbody cdv A outer s H vs Q E hr h
  exact ⟨t, h1.nox, h2⟩
/-- the names of the holds in data -/
def holdsD : Nat → PyData → List Str
  | 0, _ => []
  | n + 1, d => match d with
    | .tuple ds => if isHoldD (.tuple ds) = true then (match ds with
      | [_, .str z] => [z]
      | _ => []) else ds.flatMap (holdsD n)
    | _ => []
abbrev sWorthP : Stmt := top 12
abbrev sHoldsP : Stmt := top 13
theorem scWt : FnScope ["thing", "deep", "part"] ["thing", "deep"] (defScope sWorthP) := ⟨rfl, rfl, rfl, by decide +kernel, rfl, by decide +kernel, by decide +kernel⟩
theorem scHi : FnScope ["worth", "part", "name"] ["worth"] (defScope sHoldsP) := ⟨rfl, rfl, rfl, by decide +kernel, rfl, by decide +kernel, by decide +kernel⟩
def spWorth (k : Nat) : Sp := fun vs H Q _ => ∃ (v : V) (d : PyData) (n : Nat), vs = [v, .int k] ∧ Dt H v d ∧ Gd n d ∧ n ≤ 60 ∧ ∀ H', Same H H' → Q (.bl (isWorthD k d)) H'
def spWorthB : Nat → Sp
  | 0 => fun _ _ _ _ => False
  | k + 1 => spWorth k
def spHolds (n : Nat) : Sp := fun vs H Q _ => ∃ (v : V) (d : PyData), vs = [v] ∧ Dt H v d ∧ Gd n d ∧ n ≤ 60 ∧ (holdsD (n + 1) d).length ≤ 1000 ∧ ∀ (l : Addr) H', H l = none → H' l = some (.lst ((holdsD (n + 1) d).map V.str)) → Same H H' → Q (.ref l) H'
def spHoldsB : Nat → Sp
  | 0 => fun _ _ _ _ => False
  | n + 1 => spHolds n
section
variable {P : Program} {w : World} {K : PySem.W.Frag} {mg : Str → Option Value} {base : Heap} {hA : Addr}
theorem ok_worth {f fw fo fh : Addr} {fd fdw fdo fdh : FuncData} (F : FunD K "is_worth" "is_worth" (defArgs sWorthP) (defBody sWorthP) (defScope sWorthP) [.int 3] [] f fd) (T : Txt mg) (za : mg "all" = none) (CC : Cst K mg hA)
    (mf : mg "is_worth" = some (.ref f)) (bf : Binds K fd ["thing", "deep"] [])
    (mw : mg "is_whole" = some (.ref fw)) (kw : PySem.W.keepIn K (.ref fw) = true) (bw : Binds K fdw ["thing", "least", "most"] []) (Gw : FnOk P w K mg base CX0 1 fw fdw ["thing", "least", "most"] spWhole)
    (mo : mg "is_word" = some (.ref fo)) (ko : PySem.W.keepIn K (.ref fo) = true) (bo : Binds K fdo ["thing"] []) (Go : FnOk P w K mg base CX0 1 fo fdo ["thing"] spWord)
    (mh : mg "is_hold" = some (.ref fh)) (kh : PySem.W.keepIn K (.ref fh) = true) (bh : Binds K fdh ["thing"] []) (Gh : FnOk P w K mg base CX0 3 fh fdh ["thing"] spHold) : ∀ k : Nat, FnOk P w K mg base CX0 (k + 4) f fd ["thing", "deep"] (spWorth k) := by
  have main : ∀ k : Nat, FnOk P w K mg base CX0 (k + 3) f fd ["thing", "deep"] (spWorthB k) → FnOk P w K mg base CX0 (k + 4) f fd ["thing", "deep"] (spWorth k) := by
    intro k G
    refine funD_ok0 F scWt (fun vs H Q E h => ?_) (fun cdv A outer s H vs Q E hr h => ?_)
    · obtain ⟨v, d, n, rfl, _⟩ := h
      rfl
    · obtain ⟨v, d, n, rfl, hd, hg, hn, kk⟩ := h
      have nd := scWt.nd
      have hr1 : Room 1 _ := hr.mono (by omega)
      have hr3 : Room 3 _ := hr.mono (by omega)
      refine ⟨_, pss_cons (ps_if (PW.pt (pw_or (pt_cmpR op_isN (pv 0) pe_non (nomark _)) (pw_or (pt_val (pe_call Go hr1 (by rfl) mo ko bo .nil pass0 (pa_cons (pv 0) pa_nil))) (pw_or1 (pt_val (pe_call Gh hr3 (by rfl) mh kh bh .nil pass0 (pa_cons (pv 0) pa_nil))))))) (pss_one (ps_ret pe_bl)) pss_nil)
        (pss_cons (ps_if (pt_not (pt_val (pe_callB call_isi (by rfl) T.isinstance (by decide +kernel) (pa_cons (pv 0) (pa_cons (pe_bltn (v := V.ty "tuple") (by rfl) T.tuple (by decide +kernel) rfl) pa_nil)))))
            (pss_one (ps_ret (pe_call Gw hr1 (by rfl) mw kw bw .nil pass0 (pa_cons (pv 0) (pa_cons (pe_un un_neg (C8.pe_gc (by rfl) CC.num)) (pa_cons (C8.pe_gc (by rfl) CC.num) pa_nil)))))) pss_nil)
        (pss_one (ps_ret (pe_and (pe_cmpR op_gt (pv 1) pe_int (nomark _)) (pe_and (pe_cmpR op_le (pe_callB call_len_seq (by rfl) T.len PySem.boot_len (pa_cons (pv 0) pa_nil)) (C8.pe_gc (by rfl) CC.parts) (nomark _))
          (pe_one (pe_callB (cr_all rfl) (by rfl) za (by decide +kernel) (pa_cons (pe_lc (own := [("part", 2)]) (g := gName 2) (tt := tYes) rfl nd (pi_tup (pv 0))
            (blkOk_by (N := ["thing", "deep", "part"]) (sc := defScope sWorthP) (by decide +kernel)) (fun _ _ _ _ _ => pg_name (i := 2) nd rfl (Or.inl rfl)) (fun _ _ _ _ _ => pts_nil)
            (fun _ _ _ _ _ => pe_call G hr (by rfl) mf F.kp bf .nil pass0 (pa_cons (pv 2) (pa_cons (pe_op op_sub (pv 1) pe_int) pa_nil)))) pa_nil)))))))), ?_⟩
      have no : ∀ b : Bool, isWorthD k d = b → ∀ H', Same H H' → Q (.bl b) H' := fun b e H' s => e ▸ kk H' s
      cases hd with
      | non => exact ⟨_, rfl, rfl, _, rfl, iteT (no true (by cases k <;> rfl) H (Same.refl _))⟩
      | int i =>
        refine ⟨_, rfl, rfl, _, rfl, iteF ⟨_, rfl, _, .int i, n, rfl, .int i, hg, _, rfl, iteF ?_⟩⟩
        refine ⟨_, rfl, _, .int i, n, rfl, .int i, hg, hn, fun H1 s1 => ⟨_, rfl, iteF ?_⟩⟩
        refine ⟨_, rfl, _, .ty "tuple", .type "int", .type "tuple", false, rfl, .ty _, .base (.int i), kit_ty (by decide +kernel), false, rfl, iteT ?_⟩
        exact ⟨_, rfl, _, rfl, _, .int i, _, _, rfl, .int i, no _ (by cases k <;> rfl) H1 s1⟩
      | str z =>
        refine ⟨_, rfl, rfl, _, rfl, iteF ⟨_, rfl, _, .str z, n, rfl, .str z, hg, _, rfl, ?_⟩⟩
        cases hz : isWordZ z with
        | true =>
          have e : isWordD (.str z) = true := hz
          rw [e]
          refine iteT (no true ?_ H (Same.refl _))
          cases k <;> (simp only [isWorthD, isWordD, hz]; rfl)
        | false =>
          have e : isWordD (.str z) = false := hz
          rw [e]
          refine iteF ⟨_, rfl, _, .str z, n, rfl, .str z, hg, hn, fun H1 s1 => ⟨_, rfl, iteF ?_⟩⟩
          refine ⟨_, rfl, _, .ty "tuple", .type "str", .type "tuple", false, rfl, .ty _, .base (.str z), kit_ty (by decide +kernel), false, rfl, iteT ?_⟩
          refine ⟨_, rfl, _, rfl, _, .str z, _, _, rfl, .str z, no _ ?_ H1 s1⟩
          cases k <;> (simp only [isWorthD, isWordD, hz]; rfl)
      | @tup a xs ds e al =>
        have hD : Dt H (.ref a) (.tuple ds) := .tup e al
        refine ⟨_, rfl, rfl, _, rfl, iteF ⟨_, rfl, _, .tuple ds, n, rfl, hD, hg, _, rfl, iteF ?_⟩⟩
        refine ⟨_, rfl, _, .tuple ds, n, rfl, hD, hg, hn, fun H1 s1 => ⟨_, rfl, ?_⟩⟩
        cases hh : isHoldD (.tuple ds) with
        | true =>
          refine iteT (no true ?_ H1 s1)
          cases k <;> simp [isWorthD, hh]
        | false =>
          refine iteF ?_
          have e1 := s1 _ _ e
          have al1 := al.mono (sameTups s1)
          refine ⟨_, rfl, _, .ty "tuple", .type "tuple", .type "tuple", true, rfl, .ty _, .base (.tup e1), kit_ty (by decide +kernel), true, rfl, iteF ?_⟩
          refine ⟨_, rfl, _, _, rfl, rfl, _, rfl, ?_⟩
          cases k with
          | zero =>
            refine iteF (no false ?_ H1 s1)
            simp [isWorthD, hh]
          | succ k =>
            have pos : decide ((0 : Int) < ((k + 1 : Nat) : Int)) = true := decide_eq_true (by omega)
            rw [pos]
            refine iteT ⟨_, rfl, a, xs, rfl, .inr (SqT.of e1), _, _, rfl, rfl, _, rfl, ?_⟩
            rw [al1.length]
            by_cases h5 : ds.length ≤ 5
            · rw [decide_eq_true (show ((ds.length : Nat) : Int) ≤ 5 by omega)]
              refine iteT ⟨_, rfl, a, rfl, ⟨xs, SqT.of e1⟩, fun D hDn => ?_⟩
              obtain ⟨m, rfl, _, hge⟩ := hg.tupI
              refine lc_tup (K := K) (a := a) (xs := xs) (fun i H' => H' D = some (.lst (((ds.take i).map (isWorthD k)).map V.bl)) ∧ Same H1 H') ?_ ?_ ?_ ?_
              · exact ⟨upd_same, same_new (Same.refl _) hDn⟩
              · rintro i H' _ ⟨_, s⟩
                exact SqT.of (s _ _ e1)
              · rintro i x H' hi ⟨hDl, s⟩
                obtain ⟨d, hdi, hdx⟩ := al1.get i x hi
                have hdm := List.mem_of_getElem? hdi
                refine ⟨rfl, _, rfl, _, rfl, _, _, rfl, rfl, x, d, m, ?_, hdx.mono (sameTups s), hge d hdm, by omega, fun H2 s2 => ⟨_, s2 _ _ hDl, ?_, ?_, same_mut (s.trans s2) hDn⟩⟩
                · show [x, V.int (((k + 1 : Nat) : Int) - 1)] = [x, V.int (k : Int)]
                  rw [show (((k + 1 : Nat) : Int) - 1) = (k : Int) by omega]
                · rw [List.length_map, List.length_map, List.length_take]
                  exact small1000 (by omega)
                · rw [upd_same, List.take_add_one, hdi, List.map_append, List.map_append]
                  rfl
              · rintro H' ⟨hDl, s⟩
                rw [al1.length, List.take_length] at hDl
                refine ⟨D, _, rfl, SqL.of hDl, no _ ?_ H' (s1.trans s)⟩
                rw [List.all_map]
                show (isHoldD (.tuple ds) || (decide (ds.length ≤ 5) && ds.all (isWorthD k))) = ds.all (isWorthD k)
                rw [hh, decide_eq_true h5]
                rfl
            · rw [decide_eq_false (show ¬ ((ds.length : Nat) : Int) ≤ 5 by omega)]
              refine iteF (no false ?_ H1 s1)
              show (isHoldD (.tuple ds) || (decide (ds.length ≤ 5) && ds.all (isWorthD k))) = false
              rw [hh, decide_eq_false h5]
              rfl
  intro k
  induction k with
  | zero => exact main 0 ⟨fun vs H Q E h => h.elim, fun A outer s H args us vs Q E _ _ _ _ h => h.elim⟩
  | succ k ih => exact main (k + 1) ih
theorem pi_listB {X : Cx} {s0 : Shared} {H0 : Hp} {scope : Scope} {ce : Env} {fp : List Addr} {tg l : Expr} {tl : TE} (h : PE (X.blk s0 H0 scope ce fp) l tl) : PI (X.blk s0 H0 scope ce fp) tg l (iList X.K tl) := pi_list h
theorem flat_take {α β : Type} (f : α → List β) (l : List α) (i : Nat) : ((l.take i).flatMap f).length ≤ (l.flatMap f).length := by
  have e : l.flatMap f = (l.take i).flatMap f ++ (l.drop i).flatMap f := by rw [← List.flatMap_append, List.take_append_drop]
  rw [e, List.length_append]
  exact Nat.le_add_right _ _
theorem flat_mem {α β : Type} (f : α → List β) {l : List α} {x : α} (h : x ∈ l) : (f x).length ≤ (l.flatMap f).length := by
  induction l with
  | nil => cases h
  | cons a l ih =>
    rw [List.flatMap_cons, List.length_append]
    rcases List.mem_cons.mp h with rfl | h
    · omega
    · have := ih h
      omega
theorem ok_holds {f fh : Addr} {fd fdh : FuncData} (F : Fun K "holds_in" "holds_in" sHoldsP f fd) (T : Txt mg) (mf : mg "holds_in" = some (.ref f)) (bf : Binds K fd ["worth"] [])
    (mh : mg "is_hold" = some (.ref fh)) (kh : PySem.W.keepIn K (.ref fh) = true) (bh : Binds K fdh ["thing"] []) (Gh : FnOk P w K mg base CX0 3 fh fdh ["thing"] spHold) : ∀ n : Nat, FnOk P w K mg base CX0 (n + 4) f fd ["worth"] (spHolds n) := by
  have main : ∀ n : Nat, FnOk P w K mg base CX0 (n + 3) f fd ["worth"] (spHoldsB n) → FnOk P w K mg base CX0 (n + 4) f fd ["worth"] (spHolds n) := by
    intro n G
    refine F.ok scHi (fun vs H Q E h => ?_) (fun cdv A outer s H vs Q E hr h => ?_)
    · obtain ⟨v, d, rfl, _⟩ := h
      rfl
    · obtain ⟨v, d, rfl, hd, hg, hn, hl, k⟩ := h
      have nd := scHi.nd
      have hr3 : Room 3 _ := hr.mono (by omega)
      refine ⟨_, pss_cons (ps_if (pt_val (pe_call Gh hr3 (by rfl) mh kh bh .nil pass0 (pa_cons (pv 0) pa_nil))) (pss_one (ps_ret (pe_lst (pa_cons (pe_ix ix_tup (pv 0) pe_int (fun _ _ => rfl)) pa_nil)))) pss_nil)
        (pss_cons (ps_if (pt_not (pt_val (pe_callB call_isi (by rfl) T.isinstance (by decide +kernel) (pa_cons (pv 0) (pa_cons (pe_bltn (v := V.ty "tuple") (by rfl) T.tuple (by decide +kernel) rfl) pa_nil))))) (pss_one (ps_ret (pe_lst pa_nil))) pss_nil)
        (pss_one (ps_ret (pe_lc2 (own := [("part", 1), ("name", 2)]) (vs1 := [2]) (g := gName 1) (g1 := gName 2) (tt := tYes) (tt1 := tYes) rfl nd (pi_tup (pv 0))
            (blkOk_by (N := ["worth", "part", "name"]) (sc := defScope sHoldsP) (by decide +kernel)) (by decide) (fun _ _ _ _ _ => pg_name (i := 1) nd rfl (Or.inl rfl)) (fun _ _ _ _ _ => pts_nil)
            (fun _ _ _ _ _ => pi_listB (pe_call G hr (by rfl) mf F.kp bf .nil pass0 (pa_cons (pv 1) pa_nil))) (fun _ _ _ _ _ => pg_name (i := 2) nd rfl (Or.inl rfl)) (fun _ _ _ _ _ => pts_nil) (fun _ _ _ _ _ => pv 2))))), ?_⟩
      refine ⟨_, rfl, v, d, n, rfl, hd, hg, hn, fun H1 s1 => ⟨_, rfl, ?_⟩⟩
      have hd1 := hd.mono (sameTups s1)
      have nohold : isHoldD d = false → isTup d = false → holdsD (n + 1) d = [] := fun _ b => by
        cases d <;> first | rfl | cases b
      cases hh : isHoldD d with
      | true =>
        cases hd1 with
        | non => cases hh
        | int i => cases hh
        | str z => cases hh
        | @tup a xs ds e al =>
          have hh' := hh
          unfold isHoldD at hh'
          split at hh'
          · rename_i t d1 eq
            cases eq
            rw [Bool.and_eq_true] at hh'
            obtain ⟨z, rfl⟩ : ∃ z, d1 = .str z := by
              cases d1 <;> first | exact ⟨_, rfl⟩ | cases hh'.2
            cases al with
            | @cons v0 _ _ _ h0 al =>
            cases al with
            | @cons v1 _ _ _ h1 al =>
            cases al
            cases h1
            have eh : holdsD (n + 1) (.tuple [.str t, .str z]) = [z] := by
              exact if_pos hh
            rw [eh] at k
            refine iteT ⟨_, rfl, a, _, _, _, rfl, rfl, SqT.of e, (atI_int (by decide) rfl : atI [v0, V.str z] 1 = some (V.str z)), (by show 1 ≤ sizeLine; decide), fun l hl => ?_⟩
            exact k l _ (s1.free hl) upd_same (same_new s1 hl)
          · cases hh'
      | false =>
        refine iteF ⟨_, rfl, v, .ty "tuple", _, .type "tuple", isTup d, rfl, .ty _, hd1.ty, hd1.kTup, isTup d, rfl, ?_⟩
        cases hd1 with
        | non => exact iteT ⟨Nat.zero_le _, fun l hl => k l _ (s1.free hl) upd_same (same_new s1 hl)⟩
        | int i => exact iteT ⟨Nat.zero_le _, fun l hl => k l _ (s1.free hl) upd_same (same_new s1 hl)⟩
        | str z => exact iteT ⟨Nat.zero_le _, fun l hl => k l _ (s1.free hl) upd_same (same_new s1 hl)⟩
        | @tup a xs ds e al =>
          have eh : holdsD (n + 1) (.tuple ds) = ds.flatMap (holdsD n) := by
            exact if_neg (by rw [hh]; decide)
          rw [eh] at k hl
          obtain ⟨m, rfl, _, hge⟩ := hg.tupI
          refine iteF ⟨_, rfl, a, rfl, ⟨xs, SqT.of e⟩, fun D hD => ?_⟩
          refine lc_any (walk_tup (K := K) (a := a) (xs := xs)) (fun i H' => H' D = some (.lst (((ds.take i).flatMap (holdsD (m + 1))).map V.str)) ∧ Same H1 H') ?_ ?_ ?_ ?_
          · exact ⟨upd_same, same_new (Same.refl _) hD⟩
          · rintro i H' _ ⟨_, s⟩
            exact SqT.of (s _ _ e)
          · rintro i x H' _ hin ⟨hDl, s⟩ ⟨rfl, hi⟩
            obtain ⟨d, hdi, hdx⟩ := al.get i x hi
            have hdm := List.mem_of_getElem? hdi
            have hfl := flat_mem (holdsD (m + 1)) hdm
            refine ⟨rfl, _, rfl, x, d, rfl, hdx.mono (sameTups s), hge d hdm, by omega, by omega, fun l H2 hl2 hL s2 => ?_⟩
            refine ⟨l, rfl, ⟨_, SqL.of hL⟩, ?_⟩
            refine lc_any (walk_list (K := K) (a := l) (xs := (holdsD (m + 1) d).map V.str)) (fun j H' => H' D = some (.lst (((ds.take i).flatMap (holdsD (m + 1)) ++ (holdsD (m + 1) d).take j).map V.str)) ∧ Same H1 H' ∧ H' l = some (.lst ((holdsD (m + 1) d).map V.str))) ?_ ?_ ?_ ?_
            · refine ⟨?_, s.trans s2, hL⟩
              rw [s2 _ _ hDl]
              simp
            · rintro j H' _ ⟨_, _, q⟩
              exact SqL.of q
            · rintro j y H' _ hjn ⟨hDj, sj, hLj⟩ ⟨rfl, hj⟩
              have nlD : l ≠ D := fun z => by
                rw [z, hDl] at hl2
                cases hl2
              have fl := flat_take (holdsD (m + 1)) ds i
              have tk : ((holdsD (m + 1) d).take j).length ≤ (holdsD (m + 1) d).length := by rw [List.length_take]; omega
              refine ⟨rfl, _, rfl, _, hDj, ?_, ?_, same_mut sj hD, by rw [upd_ne nlD]; exact hLj⟩
              · rw [List.length_map, List.length_append]
                exact Nat.lt_of_le_of_lt (show _ ≤ 2000 by omega) (by decide)
              · rw [List.getElem?_map] at hj
                cases hq : (holdsD (m + 1) d)[j]? with
                | none =>
                  rw [hq] at hj
                  cases hj
                | some z =>
                  rw [hq] at hj
                  cases hj
                  rw [upd_same, List.take_add_one, hq, ← List.append_assoc, List.map_append (f := V.str) (l₂ := (some z).toList)]
                  rfl
            · rintro H' ⟨hDj, sj, _⟩
              rw [List.length_map, List.take_length] at hDj
              refine ⟨?_, sj⟩
              rw [hDj, List.take_add_one, hdi, List.flatMap_append]
              simp
          · rintro H' ⟨hDl, s⟩
            rw [al.length, List.take_length] at hDl
            exact k D H' (s1.free hD) hDl (s1.trans s)
  intro n
  induction n with
  | zero => exact main 0 ⟨fun vs H Q E h => h.elim, fun A outer s H args us vs Q E _ _ _ _ h => h.elim⟩
  | succ n ih => exact main (n + 1) ih
end
end K3
namespace K3
open PySem PySem.Spec PyProof.Rows L2 GG
/-! ### Fault, and what may end in it -/
abbrev sFaultI : Stmt := inClass (top 23) 0
theorem scFI : FnScope ["self", "word"] ["self", "word"] (defScope sFaultI) := ⟨rfl, rfl, rfl, by decide +kernel, rfl, by decide +kernel, by decide +kernel⟩
structure FltC (K : PySem.W.Frag) (D : Addr) : Prop where
  ox : OexE K D
  no : PySem.W.findIn K (.ref D) "word" = some none
def spFI (D : Addr) : Sp := fun vs H Q _ => ∃ (a : Addr) (v : V), vs = [.ref a, v] ∧ H a = some (exo a D none) ∧ ∀ dx, H dx = none → dx ≠ a → Q .non (upd (upd H dx (exd dx [("word", v)])) a (exo a D (some dx)))
/-- the fault of this word comes out -/
def Flt (D : Addr) (z : Str) (E : XK) (H : Hp) : Prop := ∀ (dd : Addr) (H' : Hp), H' dd = some (.xd [("word", V.str z)]) → Same H H' → E (.ref D) (some dd) H'
theorem Flt.on {D : Addr} {z : Str} {E : XK} {H H' : Hp} (k : Flt D z E H) (s : Same H H') : Flt D z E H' := fun dd H2 e s2 => k dd H2 e (s.trans s2)
structure FltK (P : Program) (w : World) (K : PySem.W.Frag) (mg : Str → Option Value) (base : Heap) (D : Addr) : Prop where
  c : FltC K D
  m : mg "Fault" = some (.ref D)
  ini : ∃ fI fdI, PySem.W.findIn K (.ref D) "__init__" = some (some (.ref fI)) ∧ PySem.W.typeIn K (.ref fI) = some (.type "function") ∧ Binds K fdI ["self", "word"] [] ∧ FnOk P w K mg base CX0 1 fI fdI ["self", "word"] (spFI D)
theorem ok_faultInit {P : Program} {w : World} {K : PySem.W.Frag} {mg : Str → Option Value} {base : Heap} {D f : Addr} {fd : FuncData} (F : Fun K "__init__" "Fault.__init__" sFaultI f fd) (T : FltC K D) : FnOk P w K mg base CX0 1 f fd ["self", "word"] (spFI D) := by
  refine F.ok scFI (fun vs H Q E h => ?_) (fun cdv A outer s H vs Q E hr h => ?_)
  · obtain ⟨a, v, rfl, _⟩ := h
    rfl
  · obtain ⟨a, v, rfl, ha, k⟩ := h
    exact ⟨_, pss_one (ps_one1 (pv 0) (pv 1)), _, rfl, _, rfl, a, D, rfl, T.ox, T.no, ha, fun dx h1 h2 => k dx h1 h2⟩
theorem ps_fault {X : Cx} {W : WX} {D : Addr} {z : Str} {j : Nat} {p p2 pos pos' : Pos} (FK : FltK X.prog X.w X.K X.mg X.base D) (hc : X.calm = true) (tk : L2N.Takes X W) (hg : Gl X "Fault") (hr : Room 2 X.A) :
    PS X (.Raise (some (.Call (.Name "Fault" p) [.Constant (.str z) j p2] [] pos)) none pos') (fun _ σ H => Flt D z (fun cls d H' => W cls d σ H') H) := by
  obtain ⟨fI, fdI, i1, i2, b, G⟩ := FK.ini
  refine ⟨fun pins s σ H D' I h => (L2N.ps_raise hc tk (pmk_one FK.c.ox i1 i2 G hr b .nil pass0 hg FK.m (pa_cons pe_str pa_nil))).run pins s σ H D' I ?_⟩
  refine ⟨by show 1 ≤ 1000; decide, fun a ha => ?_⟩
  refine ⟨a, .str z, rfl, upd_same, fun e h1 h2 => ⟨rfl, e, [("word", .str z)], upd_same, by rw [upd_ne h2, upd_same], (by rw [upd_ne h2] at h1; exact h1), ?_⟩⟩
  have h3 : H e = none := by rw [upd_ne h2] at h1; exact h1
  refine h e _ upd_same fun b o r => ?_
  have n1 := ne_of_none r ha
  have n2 := ne_of_none r h3
  rw [upd_ne n2, del_ne n1, upd_ne n1, upd_ne n2, upd_ne n1]
  exact r
/-! ### numbers, parts, what two worths make -/
def numD : PyData → Option Int
  | .int i => if isWholeD (-999999999) 999999999 (.int i) = true then some i else none
  | _ => none
def partD (k : Nat) : PyData → Option PyData
  | .tuple ds => if isHoldD (.tuple ds) = true then none else some (ds.getD k .none)
  | _ => none
def rowD (ds : List PyData) : Option PyData := if isWorthD 3 (.tuple ds) = true then some (.tuple ds) else none
def plusD (a b : PyData) : Option PyData := match numD a, numD b with
  | some i, some j => (numD (.int (i + j))).map .int
  | _, _ => none
def timesD (a b : PyData) : Option PyData := match numD a, numD b with
  | some i, some j => (numD (.int (i * j))).map .int
  | _, _ => none
def lessN (a b : PyData) : Option PyData := match numD a, numD b with
  | some i, some j => some (.int (if decide (i < j) = true then 1 else 0))
  | _, _ => none
def lessD (a b : PyData) : Option PyData := match a, b with
  | .str s, .str t => some (.int (if decide (s.cps.toList < t.cps.toList) = true then 1 else 0))
  | a, b => lessN a b
def sameD (a b : PyData) : Option PyData := if holdsD 13 a = [] ∧ holdsD 13 b = [] then some (.int (if PyData.eqv a b = true then 1 else 0)) else none
def Okd (d : PyData) : Prop := Gd 12 d ∧ (holdsD 13 d).length ≤ 1000
def spNeedW (D : Addr) : Sp := fun vs H Q E => ∃ (v : V) (d : PyData) (n : Nat), vs = [v] ∧ Dt H v d ∧ Gd n d ∧ n ≤ 60 ∧ (isWorthD 3 d = true → ∀ H', Same H H' → Q v H') ∧ (isWorthD 3 d = false → Flt D "odd" E H)
def spPart (D : Addr) : Sp := fun vs H Q E => ∃ (v : V) (d : PyData) (n k : Nat), vs = [v, .int k] ∧ Dt H v d ∧ Gd n d ∧ n ≤ 60 ∧ (∀ d', partD k d = some d' → ∀ v' H', Same H H' → Dt H' v' d' → Q v' H') ∧ (partD k d = none → Flt D "odd" E H)
def spNum (D : Addr) : Sp := fun vs H Q E => ∃ (v : V) (d : PyData), vs = [v] ∧ Dt H v d ∧ (∀ i, numD d = some i → Q (.int i) H) ∧ (numD d = none → Flt D "odd" E H)
def spOp (D : Addr) (fn : PyData → PyData → Option PyData) : Sp := fun vs H Q E => ∃ (v1 v2 : V) (a b : PyData), vs = [v1, v2] ∧ Dt H v1 a ∧ Dt H v2 b ∧ Okd a ∧ Okd b ∧ (∀ d, fn a b = some d → ∀ v' H', Same H H' → Dt H' v' d → Q v' H') ∧ (fn a b = none → Flt D "odd" E H)
theorem spOp_len {D : Addr} {fn : PyData → PyData → Option PyData} {vs : List V} {H : Hp} {Q : VK} {E : XK} (h : spOp D fn vs H Q E) : vs.length = 2 := by
  obtain ⟨v1, v2, a, b, rfl, _⟩ := h
  rfl
abbrev sNeedW : Stmt := top 40
abbrev sPart : Stmt := top 41
abbrev sNum : Stmt := top 42
abbrev sPlus : Stmt := top 43
abbrev sTimes : Stmt := top 44
abbrev sLess : Stmt := top 45
abbrev sSame : Stmt := top 46
theorem scNW : FnScope ["row"] ["row"] (defScope sNeedW) := ⟨rfl, rfl, rfl, by decide +kernel, rfl, by decide +kernel, by decide +kernel⟩
theorem scPt : FnScope ["worth", "k"] ["worth", "k"] (defScope sPart) := ⟨rfl, rfl, rfl, by decide +kernel, rfl, by decide +kernel, by decide +kernel⟩
theorem scNb : FnScope ["worth"] ["worth"] (defScope sNum) := ⟨rfl, rfl, rfl, by decide +kernel, rfl, by decide +kernel, by decide +kernel⟩
theorem scPl : FnScope ["one", "other"] ["one", "other"] (defScope sPlus) := ⟨rfl, rfl, rfl, by decide +kernel, rfl, by decide +kernel, by decide +kernel⟩
theorem scTm : FnScope ["one", "other"] ["one", "other"] (defScope sTimes) := ⟨rfl, rfl, rfl, by decide +kernel, rfl, by decide +kernel, by decide +kernel⟩
theorem scLs : FnScope ["one", "other"] ["one", "other"] (defScope sLess) := ⟨rfl, rfl, rfl, by decide +kernel, rfl, by decide +kernel, by decide +kernel⟩
theorem scSm : FnScope ["one", "other"] ["one", "other"] (defScope sSame) := ⟨rfl, rfl, rfl, by decide +kernel, rfl, by decide +kernel, by decide +kernel⟩
theorem ite_int {c : Bool} {Q : V → Prop} (h : Q (.int (if c = true then 1 else 0))) : if c = true then Q (.int 1) else Q (.int 0) := by
  cases c <;> exact h
theorem lessN_of {a b : PyData} (h : isStrD a = false ∨ isStrD b = false) : lessD a b = lessN a b := by
  cases a <;> cases b <;> first | rfl | (rcases h with h | h <;> cases h)
section
variable {P : Program} {w : World} {K : PySem.W.Frag} {mg : Str → Option Value} {base : Heap} {D hA : Addr}
theorem ok_needW {f fw : Addr} {fd fdw : FuncData} {u3 : Value} (F : Fun K "need_worth" "need_worth" sNeedW f fd) (FK : FltK P w K mg base D) (mw : mg "is_worth" = some (.ref fw)) (kw : PySem.W.keepIn K (.ref fw) = true) (bw : Binds K fdw ["thing", "deep"] [u3]) (h3 : RelV (.int 3) u3)
    (Gw : FnOk P w K mg base CX0 7 fw fdw ["thing", "deep"] (spWorth 3)) : FnOk P w K mg base (L2N.CX P w) 8 f fd ["row"] (spNeedW D) := by
  refine GG.okN F scNW (fun vs H Q E h => ?_) (fun cdv A outer s H vs Q E hr h => ?_)
  · obtain ⟨v, d, n, rfl, _⟩ := h
    rfl
  · obtain ⟨v, d, n, rfl, hd, hg, hn, k1, k2⟩ := h
    have hr2 : Room 2 _ := hr.mono (by decide)
    refine ⟨_, pss_cons (ps_if (pt_not (pt_val (pe_call Gw hr (by rfl) mw kw bw (.cons h3 .nil) pass0 (pa_cons (pv 0) pa_nil)))) (pss_one (ps_fault FK rfl (L2N.takes_of rfl rfl rfl rfl) rfl hr2)) pss_nil) (pss_one (ps_ret (pv 0))), ?_⟩
    refine ⟨_, rfl, v, d, n, rfl, hd, hg, hn, fun H1 s1 => ⟨_, rfl, ?_⟩⟩
    cases e : isWorthD 3 d with
    | false => exact iteT ((k2 e).on s1)
    | true => exact iteF ⟨_, rfl, k1 e H1 s1⟩
theorem ok_part {f fh : Addr} {fd fdh : FuncData} (F : Fun K "part_of" "part_of" sPart f fd) (T : Txt mg) (FK : FltK P w K mg base D) (mh : mg "is_hold" = some (.ref fh)) (kh : PySem.W.keepIn K (.ref fh) = true) (bh : Binds K fdh ["thing"] []) (Gh : FnOk P w K mg base CX0 3 fh fdh ["thing"] spHold) :
    FnOk P w K mg base (L2N.CX P w) 4 f fd ["worth", "k"] (spPart D) := by
  refine GG.okN F scPt (fun vs H Q E h => ?_) (fun cdv A outer s H vs Q E hr h => ?_)
  · obtain ⟨v, d, n, k, rfl, _⟩ := h
    rfl
  · obtain ⟨v, d, n, k, rfl, hd, hg, hn, k1, k2⟩ := h
    have hr2 : Room 2 _ := hr.mono (by decide)
    refine ⟨_, pss_cons (ps_if (PW.pt (pw_or (pt_not (pt_val (pe_callB call_isi (by rfl) T.isinstance (by decide +kernel) (pa_cons (pv 0) (pa_cons (pe_bltn (v := V.ty "tuple") (by rfl) T.tuple (by decide +kernel) rfl) pa_nil)))))
          (pw_or1 (pt_val (pe_call Gh hr (by rfl) mh kh bh .nil pass0 (pa_cons (pv 0) pa_nil)))))) (pss_one (ps_fault FK rfl (L2N.takes_of rfl rfl rfl rfl) rfl hr2)) pss_nil)
      (pss_one (ps_ret (pe_ifExp (pt_cmpR op_lt (pv 1) (pe_callB call_len_seq (by rfl) T.len PySem.boot_len (pa_cons (pv 0) pa_nil)) (nomark _)) (pe_ix ix_tup (pv 0) (pv 1) (fun _ _ => rfl)) pe_non))), ?_⟩
    refine ⟨_, rfl, v, .ty "tuple", _, .type "tuple", isTup d, rfl, .ty _, hd.ty, hd.kTup, isTup d, rfl, ?_⟩
    cases hd with
    | non => exact iteT (k2 rfl)
    | int i => exact iteT (k2 rfl)
    | str z => exact iteT (k2 rfl)
    | @tup a xs ds e al =>
      refine iteF ⟨_, rfl, _, .tuple ds, n, rfl, .tup e al, hg, hn, fun H1 s1 => ⟨_, rfl, ?_⟩⟩
      cases hh : isHoldD (.tuple ds) with
      | true => exact iteT ((k2 (by show (if isHoldD (.tuple ds) = true then none else some (ds.getD k .none)) = none; rw [if_pos hh])).on s1)
      | false =>
        have e1 := s1 _ _ e
        have al1 := al.mono (sameTups s1)
        have fin := fun d' (q : ds.getD k .none = d') => k1 d' (by show (if isHoldD (.tuple ds) = true then none else some (ds.getD k .none)) = some d'; rw [if_neg (by rw [hh]; decide), q])
        refine iteF ⟨_, rfl, _, rfl, a, xs, rfl, .inr (SqT.of e1), _, _, rfl, rfl, _, rfl, ?_⟩
        by_cases lt : k < ds.length
        · rw [decide_eq_true (show (k : Int) < (xs.length : Int) by have := al1.length; omega)]
          have hk : k < xs.length := by rw [al1.length]; exact lt
          have hx : xs[k]? = some xs[k] := List.getElem?_eq_getElem hk
          obtain ⟨d', hd', hdx⟩ := al1.get k _ hx
          refine iteT ⟨_, rfl, _, rfl, a, xs, _, _, rfl, rfl, SqT.of e1, atI_nat hx, fin d' ?_ _ H1 s1 hdx⟩
          rw [List.getD_eq_getElem?_getD, hd']
          rfl
        · rw [decide_eq_false (show ¬ (k : Int) < (xs.length : Int) by have := al1.length; omega)]
          refine iteF (fin .none ?_ .non H1 s1 .non)
          rw [List.getD_eq_getElem?_getD, List.getElem?_eq_none (by omega)]
          rfl
theorem ok_num {f fw : Addr} {fd fdw : FuncData} (F : Fun K "need_number" "need_number" sNum f fd) (FK : FltK P w K mg base D) (CC : Cst K mg hA) (mw : mg "is_whole" = some (.ref fw)) (kw : PySem.W.keepIn K (.ref fw) = true) (bw : Binds K fdw ["thing", "least", "most"] [])
    (Gw : FnOk P w K mg base CX0 1 fw fdw ["thing", "least", "most"] spWhole) : FnOk P w K mg base (L2N.CX P w) 3 f fd ["worth"] (spNum D) := by
  refine GG.okN F scNb (fun vs H Q E h => ?_) (fun cdv A outer s H vs Q E hr h => ?_)
  · obtain ⟨v, d, rfl, _⟩ := h
    rfl
  · obtain ⟨v, d, rfl, hd, k1, k2⟩ := h
    have hr1 : Room 1 _ := hr.mono (by decide)
    refine ⟨_, pss_cons (ps_if (pt_not (pt_val (pe_call Gw hr1 (by rfl) mw kw bw .nil pass0 (pa_cons (pv 0) (pa_cons (pe_un un_neg (C8.pe_gc (by rfl) CC.num)) (pa_cons (C8.pe_gc (by rfl) CC.num) pa_nil)))))) (pss_one (ps_fault FK rfl (L2N.takes_of rfl rfl rfl rfl) rfl hr)) pss_nil)
      (pss_one (ps_ret (pv 0))), ?_⟩
    refine ⟨_, rfl, _, rfl, _, d, _, _, rfl, hd, _, rfl, ?_⟩
    show if (!isWholeD (-999999999) 999999999 d) = true then _ else _
    cases e : isWholeD (-999999999) 999999999 d with
    | false =>
      refine iteT (k2 ?_)
      cases d with
      | int i => exact if_neg (by rw [e]; decide)
      | _ => rfl
    | true =>
      cases hd with
      | int i => exact iteF ⟨_, rfl, k1 i (if_pos e)⟩
      | _ => cases e
theorem ok_plus {f fn : Addr} {fd fdn : FuncData} (F : Fun K "plus" "plus" sPlus f fd) (mn : mg "need_number" = some (.ref fn)) (kn : PySem.W.keepIn K (.ref fn) = true) (bn : Binds K fdn ["worth"] []) (Gn : FnOk P w K mg base (L2N.CX P w) 3 fn fdn ["worth"] (spNum D)) :
    FnOk P w K mg base (L2N.CX P w) 4 f fd ["one", "other"] (spOp D plusD) := by
  refine GG.okN F scPl (fun vs H Q E h => spOp_len h) (fun cdv A outer s H vs Q E hr h => ?_)
  obtain ⟨v1, v2, a, b, rfl, h1, h2, _, _, k1, k2⟩ := h
  refine ⟨_, pss_one (ps_ret (pe_call (E := E) Gn hr (by rfl) mn kn bn .nil (L2N.passes_call (L2N.takes_of rfl rfl rfl rfl) fun _ _ _ _ z => z) (pa_cons (pe_op op_add
    (pe_call (E := E) Gn hr (by rfl) mn kn bn .nil (L2N.passes_call (L2N.takes_of rfl rfl rfl rfl) fun _ _ _ _ z => z) (pa_cons (pv 0) pa_nil)) (pe_call (E := E) Gn hr (by rfl) mn kn bn .nil (L2N.passes_call (L2N.takes_of rfl rfl rfl rfl) fun _ _ _ _ z => z) (pa_cons (pv 1) pa_nil))) pa_nil))), ?_⟩
  refine ⟨_, rfl, v1, a, rfl, h1, fun i hi => ⟨_, rfl, v2, b, rfl, h2, fun j hj => ?_, fun z => k2 ?_⟩, fun z => k2 ?_⟩
  · have e : plusD a b = (numD (.int (i + j))).map .int := by unfold plusD; rw [hi, hj]
    refine ⟨_, _, rfl, rfl, _, .int (i + j), rfl, .int _, fun m hm => k1 (.int m) (by rw [e, hm]; rfl) _ H (Same.refl _) (.int _), fun z => k2 (by rw [e, z]; rfl)⟩
  · unfold plusD
    rw [hi, z]
  · unfold plusD
    rw [z]
theorem ok_times {f fn : Addr} {fd fdn : FuncData} (F : Fun K "times" "times" sTimes f fd) (mn : mg "need_number" = some (.ref fn)) (kn : PySem.W.keepIn K (.ref fn) = true) (bn : Binds K fdn ["worth"] []) (Gn : FnOk P w K mg base (L2N.CX P w) 3 fn fdn ["worth"] (spNum D)) :
    FnOk P w K mg base (L2N.CX P w) 4 f fd ["one", "other"] (spOp D timesD) := by
  refine GG.okN F scTm (fun vs H Q E h => spOp_len h) (fun cdv A outer s H vs Q E hr h => ?_)
  obtain ⟨v1, v2, a, b, rfl, h1, h2, _, _, k1, k2⟩ := h
  refine ⟨_, pss_one (ps_ret (pe_call (E := E) Gn hr (by rfl) mn kn bn .nil (L2N.passes_call (L2N.takes_of rfl rfl rfl rfl) fun _ _ _ _ z => z) (pa_cons (pe_op op_mul
    (pe_call (E := E) Gn hr (by rfl) mn kn bn .nil (L2N.passes_call (L2N.takes_of rfl rfl rfl rfl) fun _ _ _ _ z => z) (pa_cons (pv 0) pa_nil)) (pe_call (E := E) Gn hr (by rfl) mn kn bn .nil (L2N.passes_call (L2N.takes_of rfl rfl rfl rfl) fun _ _ _ _ z => z) (pa_cons (pv 1) pa_nil))) pa_nil))), ?_⟩
  refine ⟨_, rfl, v1, a, rfl, h1, fun i hi => ⟨_, rfl, v2, b, rfl, h2, fun j hj => ?_, fun z => k2 ?_⟩, fun z => k2 ?_⟩
  · have e : timesD a b = (numD (.int (i * j))).map .int := by unfold timesD; rw [hi, hj]
    have lim : -(2 ^ 64) < i ∧ i < 2 ^ 64 := by
      cases a with
      | int q =>
        have hi' : (if isWholeD (-999999999) 999999999 (.int q) = true then some q else none) = some i := hi
        split at hi'
        · rename_i w
          cases hi'
          have w' : (decide (-999999999 ≤ i) && decide (i ≤ 999999999)) = true := w
          rw [Bool.and_eq_true] at w'
          have := of_decide_eq_true w'.1
          have := of_decide_eq_true w'.2
          omega
        · cases hi'
      | _ => cases hi
    refine ⟨_, _, rfl, rfl, .inl lim, _, .int (i * j), rfl, .int _, fun m hm => k1 (.int m) (by rw [e, hm]; rfl) _ H (Same.refl _) (.int _), fun z => k2 (by rw [e, z]; rfl)⟩
  · unfold timesD
    rw [hi, z]
  · unfold timesD
    rw [z]
theorem ok_less {f fn : Addr} {fd fdn : FuncData} (F : Fun K "less" "less" sLess f fd) (T : Txt mg) (zs : mg "str" = none) (mn : mg "need_number" = some (.ref fn)) (kn : PySem.W.keepIn K (.ref fn) = true) (bn : Binds K fdn ["worth"] []) (Gn : FnOk P w K mg base (L2N.CX P w) 3 fn fdn ["worth"] (spNum D)) :
    FnOk P w K mg base (L2N.CX P w) 4 f fd ["one", "other"] (spOp D lessD) := by
  refine GG.okN F scLs (fun vs H Q E h => spOp_len h) (fun cdv A outer s H vs Q E hr h => ?_)
  obtain ⟨v1, v2, a, b, rfl, h1, h2, _, _, k1, k2⟩ := h
  refine ⟨_, pss_cons (ps_if (PW.pt (pw_and (pt_val (pe_callB call_isi (by rfl) T.isinstance (by decide +kernel) (pa_cons (pv 0) (pa_cons (pe_bltn (v := V.ty "str") (by rfl) zs (by decide +kernel) rfl) pa_nil))))
        (pw_and1 (pt_val (pe_callB call_isi (by rfl) T.isinstance (by decide +kernel) (pa_cons (pv 1) (pa_cons (pe_bltn (v := V.ty "str") (by rfl) zs (by decide +kernel) rfl) pa_nil)))))))
      (pss_one (ps_ret (pe_ifExp (pt_cmpR op_lt_str (pv 0) (pv 1) (nomark _)) pe_int pe_int))) pss_nil)
    (pss_one (ps_ret (pe_ifExp (pt_cmpR op_lt (pe_call (E := E) Gn hr (by rfl) mn kn bn .nil (L2N.passes_call (L2N.takes_of rfl rfl rfl rfl) fun _ _ _ _ z => z) (pa_cons (pv 0) pa_nil))
      (pe_call (E := E) Gn hr (by rfl) mn kn bn .nil (L2N.passes_call (L2N.takes_of rfl rfl rfl rfl) fun _ _ _ _ z => z) (pa_cons (pv 1) pa_nil)) (nomark _)) pe_int pe_int))), ?_⟩
  refine ⟨_, rfl, v1, .ty "str", _, .type "str", isStrD a, rfl, .ty _, h1.ty, h1.kStr, isStrD a, rfl, ?_⟩
  cases ea : isStrD a with
  | false =>
    have he := lessN_of (a := a) (b := b) (.inl ea)
    refine iteF ⟨_, rfl, v1, a, rfl, h1, fun i hi => ⟨_, rfl, v2, b, rfl, h2, fun j hj => ⟨_, _, rfl, rfl, _, rfl, ite_int (Q := fun x => Q x H) (k1 _ ?_ _ H (Same.refl _) (.int _))⟩, fun z => k2 ?_⟩, fun z => k2 ?_⟩
    · rw [he]
      unfold lessN
      rw [hi, hj]
    · rw [he]
      unfold lessN
      rw [hi, z]
    · rw [he]
      unfold lessN
      rw [z]
  | true =>
    refine iteT ⟨_, rfl, v2, .ty "str", _, .type "str", isStrD b, rfl, .ty _, h2.ty, h2.kStr, isStrD b, rfl, ?_⟩
    cases eb : isStrD b with
    | false =>
      have he := lessN_of (a := a) (b := b) (.inr eb)
      refine iteF ⟨_, rfl, v1, a, rfl, h1, fun i hi => ⟨_, rfl, v2, b, rfl, h2, fun j hj => ⟨_, _, rfl, rfl, _, rfl, ite_int (Q := fun x => Q x H) (k1 _ ?_ _ H (Same.refl _) (.int _))⟩, fun z => k2 ?_⟩, fun z => k2 ?_⟩
      · rw [he]
        unfold lessN
        rw [hi, hj]
      · rw [he]
        unfold lessN
        rw [hi, z]
      · rw [he]
        unfold lessN
        rw [z]
    | true =>
      cases h1 with
      | str z1 =>
        cases h2 with
        | str z2 => exact iteT ⟨_, rfl, _, rfl, _, _, rfl, rfl, _, rfl, ite_int (Q := fun x => Q x H) (k1 _ rfl _ H (Same.refl _) (.int _))⟩
        | _ => cases eb
      | _ => cases ea
theorem ok_same {f fh : Addr} {fd fdh : FuncData} (F : Fun K "same" "same" sSame f fd) (FK : FltK P w K mg base D) (mh : mg "holds_in" = some (.ref fh)) (kh : PySem.W.keepIn K (.ref fh) = true) (bh : Binds K fdh ["worth"] []) (Gh : FnOk P w K mg base CX0 16 fh fdh ["worth"] (spHolds 12)) :
    FnOk P w K mg base (L2N.CX P w) 17 f fd ["one", "other"] (spOp D sameD) := by
  refine GG.okN F scSm (fun vs H Q E h => spOp_len h) (fun cdv A outer s H vs Q E hr h => ?_)
  obtain ⟨v1, v2, a, b, rfl, h1, h2, o1, o2, k1, k2⟩ := h
  have hr2 : Room 2 _ := hr.mono (by decide)
  refine ⟨_, pss_cons (ps_if (PW.pt (pw_or (pt_truth (pe_call Gh hr (by rfl) mh kh bh .nil pass0 (pa_cons (pv 0) pa_nil)) (by intro _; rfl)) (pw_or1 (pt_truth (pe_call Gh hr (by rfl) mh kh bh .nil pass0 (pa_cons (pv 1) pa_nil)) (by intro _; rfl)))))
      (pss_one (ps_fault FK rfl (L2N.takes_of rfl rfl rfl rfl) rfl hr2)) pss_nil)
    (pss_one (ps_ret (pe_ifExp (pt_cmpR (op_eqD hr.units) (pv 0) (pv 1) (nomark _)) pe_int pe_int))), ?_⟩
  have odd : ¬ (holdsD 13 a = [] ∧ holdsD 13 b = []) → Flt D "odd" E H := fun z => k2 (if_neg z)
  have some : ∀ {l : List Str}, l ≠ [] → (!(l.map V.str).isEmpty) = true := fun {l} z => by
    cases l with
    | nil => exact absurd rfl z
    | cons _ _ => rfl
  refine ⟨_, rfl, v1, a, rfl, h1, o1.1, by decide, o1.2, fun l H1 hl el s1 => ⟨_, .inl ⟨_, SqL.of el, rfl⟩, ?_⟩⟩
  by_cases z1 : holdsD 13 a = []
  · rw [z1]
    refine iteF ⟨_, rfl, v2, b, rfl, h2.mono (sameTups s1), o2.1, by decide, o2.2, fun l2 H2 hl2 el2 s2 => ⟨_, .inl ⟨_, SqL.of el2, rfl⟩, ?_⟩⟩
    have s3 := s1.trans s2
    by_cases z2 : holdsD 13 b = []
    · rw [z2]
      exact iteF ⟨_, rfl, _, rfl, a, b, (h1.mono (sameTups s3)).dp, (h2.mono (sameTups s3)).dp, o1.1.shaped (by decide), o2.1.shaped (by decide), _, rfl, ite_int (Q := fun x => Q x H2) (k1 _ (if_pos ⟨z1, z2⟩) _ H2 s3 (.int _))⟩
    · rw [some z2]
      exact iteT ((odd fun z => z2 z.2).on s3)
  · rw [some z1]
    exact iteT ((odd fun z => z1 z.1).on s1)
end
end K3
namespace K3
open PySem PySem.Spec PyProof.Rows L2 GG
/-! ### what a term is worth, in the program -/
def seqO : List (Option PyData) → Option (List PyData)
  | [] => some []
  | none :: _ => none
  | some d :: r => (seqO r).map (d :: ·)
theorem seqO_some : ∀ ds : List PyData, seqO (ds.map some) = some ds
  | [] => rfl
  | d :: ds => by
    show (seqO (ds.map some)).map (d :: ·) = some (d :: ds)
    rw [seqO_some ds]
    rfl
theorem seqO_none : ∀ {qs : List (Option PyData)}, none ∈ qs → seqO qs = none
  | none :: _, _ => rfl
  | some d :: qs, h => by
    have h' : none ∈ qs := (List.mem_cons.mp h).elim (fun z => nomatch z) id
    show (seqO qs).map (d :: ·) = none
    rw [seqO_none h']
    rfl
theorem seqO_ok : ∀ {qs : List (Option PyData)} {ds : List PyData}, seqO qs = some ds → qs = ds.map some
  | [], ds, h => by
    cases h
    rfl
  | none :: _, ds, h => nomatch h
  | some d :: qs, ds, h => by
    have h' : (seqO qs).map (d :: ·) = some ds := h
    cases e : seqO qs with
    | none =>
      rw [e] at h'
      cases h'
    | some es =>
      rw [e] at h'
      cases h'
      rw [seqO_ok e]
      rfl
def opD (o : Str) : PyData → PyData → Option PyData := if o = "plus" then plusD else if o = "times" then timesD else if o = "less" then lessD else sameD
def pairD (o : Str) : List PyData → Option PyData
  | [a, b] => opD o a b
  | _ => none
def opsZ : List Str := ["plus", "times", "less", "same"]
/-- r is what the term x comes to, where a and b are d1 and d2, the field fn d2 -/
def EvP (fn : Str) (d1 d2 : PyData) : Nat → PyData → Option PyData → Prop
  | 0, _, _ => False
  | n + 1, x, r => (∀ d, r = some d → Okd d) ∧
    ((x = .tuple [.str "var", .str "a"] ∧ r = some d1) ∨ (x = .tuple [.str "var", .str "b"] ∧ r = some d2) ∨ (x = .tuple [.str "own", .str fn] ∧ r = some d2) ∨
      (∃ (t : PyData) (k : Nat) (q : Option PyData), x = .tuple [.str "at", t, .int k] ∧ EvP fn d1 d2 n t q ∧ r = q.bind (partD k)) ∨
      (∃ (ts : List PyData) (qs : List (Option PyData)), x = .tuple (.str "row" :: ts) ∧ ts.length ≤ 9 ∧ qs.length = ts.length ∧ (∀ (i : Nat) (t : PyData) (q : Option PyData), ts[i]? = some t → qs[i]? = some q → EvP fn d1 d2 n t q) ∧ (∀ ds, seqO qs = some ds → Gd 12 (.tuple ds)) ∧ r = (seqO qs).bind rowD) ∨
      (∃ (o : Str) (s t : PyData) (q1 q2 : Option PyData), x = .tuple [.str o, s, t] ∧ o ∈ opsZ ∧ EvP fn d1 d2 n s q1 ∧ EvP fn d1 d2 n t q2 ∧ r = (seqO [q1, q2]).bind (pairD o)))
theorem EvP.okd {fn : Str} {d1 d2 : PyData} {n : Nat} {x : PyData} {r : Option PyData} {d : PyData} (h : EvP fn d1 d2 n x r) (e : r = some d) : Okd d := by
  cases n with
  | zero => exact h.elim
  | succ n => exact h.1 d e
/-- an act under way that knows a and b, its field fn -/
structure DgAt (C : Addr) (H : Hp) (g : Addr) (fn : Str) (d1 d2 : PyData) : Prop where
  ex : ∃ (dx kd fl : Addr) (fs : List (Str × V)) (kvs fvs : List (Key × V)) (v1 v2 v3 : V), H g = some (.ins C dx fs) ∧ fs.lookup ("known" : Str) = some (.ref kd) ∧ fs.lookup ("fields" : Str) = some (.ref fl) ∧ H kd = some (.dK kvs) ∧ H fl = some (.dK fvs) ∧
    valV kvs (.inr "a") = some v1 ∧ valV kvs (.inr "b") = some v2 ∧ valV fvs (.inr fn) = some v3 ∧ Dt H v1 d1 ∧ Dt H v2 d2 ∧ Dt H v3 d2
theorem DgAt.on {C : Addr} {H H' : Hp} {g : Addr} {fn : Str} {d1 d2 : PyData} (h : DgAt C H g fn d1 d2) (s : Same H H') : DgAt C H' g fn d1 d2 := by
  obtain ⟨dx, kd, fl, fs, kvs, fvs, v1, v2, v3, h1, h2, h3, h4, h5, h6, h7, h8, h9, h10, h11⟩ := h.ex
  exact ⟨⟨dx, kd, fl, fs, kvs, fvs, v1, v2, v3, s _ _ h1, h2, h3, s _ _ h4, s _ _ h5, h6, h7, h8, h9.mono (sameTups s), h10.mono (sameTups s), h11.mono (sameTups s)⟩⟩
def spWo (C D : Addr) (n : Nat) : Sp := fun vs H Q E => ∃ (v : V) (g : Addr) (x : PyData) (r : Option PyData) (fn : Str) (d1 d2 : PyData), vs = [v, .ref g] ∧ Dt H v x ∧ EvP fn d1 d2 n x r ∧ DgAt C H g fn d1 d2 ∧
  (∀ d, r = some d → ∀ v' H', Same H H' → Dt H' v' d → Q v' H') ∧ (r = none → Flt D "odd" E H)
def spWs (C D : Addr) (n : Nat) : Sp := fun vs H Q E => ∃ (v : V) (g : Addr) (ts : List PyData) (qs : List (Option PyData)) (fn : Str) (d1 d2 : PyData), vs = [v, .ref g] ∧ Dt H v (.tuple ts) ∧ ts.length ≤ 9 ∧ qs.length = ts.length ∧
  (∀ (i : Nat) (t : PyData) (q : Option PyData), ts[i]? = some t → qs[i]? = some q → EvP fn d1 d2 n t q) ∧ DgAt C H g fn d1 d2 ∧ (∀ ds, seqO qs = some ds → ∀ v' H', Same H H' → Dt H' v' (.tuple ds) → Q v' H') ∧ (seqO qs = none → Flt D "odd" E H)
abbrev sWsP : Stmt := top 38
abbrev sWoP : Stmt := top 39
theorem scWs : FnScope ["xs", "doing", "x"] ["xs", "doing"] (defScope sWsP) := ⟨rfl, rfl, rfl, by decide +kernel, rfl, by decide +kernel, by decide +kernel⟩
theorem scWf : FnScope ["x", "doing", "word", "parts", "combine"] ["x", "doing"] (defScope sWoP) := ⟨rfl, rfl, rfl, by decide +kernel, rfl, by decide +kernel, by decide +kernel⟩
structure DTxt (K : PySem.W.Frag) (C : Addr) : Prop where
  cl : Cls K C
  nPlan : NoAttr K C "plan"
  nFields : NoAttr K C "fields"
  nCause : NoAttr K C "cause"
  nMe : NoAttr K C "me"
  nKnown : NoAttr K C "known"
  nSays : NoAttr K C "says"
  nMakes : NoAttr K C "makes"
  nPuts : NoAttr K C "puts"
  nGoes : NoAttr K C "goes"
theorem dget_str {H : Hp} {kd : Addr} {kvs : List (Key × V)} {z : Str} {w : V} (h : H kd = some (.dK kvs)) (e : valV kvs (.inr z) = some w) : DGet H kd (.str z) (some w) := e ▸ DGet.k (k := Sum.inr z) h
theorem cutV_tail (v : V) (vs : List V) : cutV (v :: vs) (some 1) none = vs := by
  have e1 : HT.sIx (v :: vs).length 0 (some ((1 : Nat) : Int)) = min 1 (v :: vs).length := HT.sIx_nat ..
  have e2 : HT.sIx (v :: vs).length (v :: vs).length none = (v :: vs).length := rfl
  unfold cutV
  rw [e2, show (some (1 : Int)) = some ((1 : Nat) : Int) from rfl, e1, Nat.min_eq_left (by simp)]
  simp
/-- at f stands one of the four defs of two worths -/
def OpAt (P : Program) (w : World) (K : PySem.W.Frag) (mg : Str → Option Value) (base : Heap) (D : Addr) (o : Str) (f : Addr) : Prop :=
  ∃ fd ps, FnOk P w K mg base (L2N.CX P w) 17 f fd ps (spOp D (opD o)) ∧ PySem.W.keepIn K (.ref f) = true ∧ Binds K fd ps []
def tCallO (P : Program) (w : World) (K : PySem.W.Frag) (mg : Str → Option Value) (base : Heap) (D : Addr) (i : Nat) (E : XK) (t : TA) : TE := fun σ H Q => ∃ (f : Addr) (o : Str), σ[i]? = some (some (.ref f)) ∧ OpAt P w K mg base D o f ∧ t σ H fun vs H1 => spOp D (opD o) vs H1 Q E
theorem pe_callO {X : Cx} {D : Addr} {i : Nat} {E : XK} {x : Str} {p pos : Pos} {e : Expr} {es : List Expr} {t : TA} (hr : Room 17 X.A) (hN : X.N[i]? = some x) (hv : Vis X.env.scope x) (hx : Passes (L2N.CX X.prog X.w) X E) (ha : PA X (e :: es) t)
    (hdb : (x == ("__debug__" : Str)) = false := by decide) (hcd : (x == ("__classdict__" : Str)) = false := by decide)
    (he : starEach (e :: es) X.env = (false, eval e X.env) :: starEach es X.env := by rfl) (hpl : (backTo pos (starEach es X.env)).any (·.1) = false := by rfl) :
    PE X (.Call (.Name x p) (e :: es) [] pos) (tCallO X.prog X.w X.K X.mg X.base D i E t) := by
  refine ⟨fun pins s σ H Q I h => ?_⟩
  obtain ⟨f, o, hs, ⟨fd, ps, G, kp, b⟩, ht⟩ := h
  refine (pe_callL (i := i) (f := f) (dvs := []) G hr hN hv kp b .nil hx ha hdb hcd he hpl).run pins s σ H Q I ⟨hs, ?_⟩
  have e0 : (fun (vs : List V) (H1 : Hp) => spOp D (opD o) (vs ++ []) H1 Q E) = fun vs H1 => spOp D (opD o) vs H1 Q E := by
    funext vs H1
    rw [List.append_nil]
  rw [e0]
  exact ht
section
variable {P : Program} {w : World} {K : PySem.W.Frag} {mg : Str → Option Value} {base : Heap} {C D hA pA : Addr}
theorem ok_worths {n l : Nat} {f fw : Addr} {fd fdw : FuncData} (F : Fun K "worths_of" "worths_of" sWsP f fd) (T : Txt mg) (mw : mg "worth_of" = some (.ref fw)) (kw : PySem.W.keepIn K (.ref fw) = true) (bw : Binds K fdw ["x", "doing"] [])
    (G : FnOk P w K mg base (L2N.CX P w) l fw fdw ["x", "doing"] (spWo C D n)) : FnOk P w K mg base (L2N.CX P w) (l + 1) f fd ["xs", "doing"] (spWs C D n) := by
  refine GG.okN F scWs (fun vs H Q E h => ?_) (fun cdv A outer s H vs Q E hr h => ?_)
  · obtain ⟨v, g, ts, qs, fn, d1, d2, rfl, _⟩ := h
    rfl
  · obtain ⟨v, g, ts, qs, fn, d1, d2, rfl, hd, h9, hl, hev, hg, k1, k2⟩ := h
    have nd := scWs.nd
    refine ⟨_, pss_one (ps_ret (pe_callTy call_tuple_of (by rfl) T.tuple (by decide +kernel) (pa_cons (pe_lcX (W := E) (own := [("x", 2)]) (g := gName 2) (tt := tYes) (L2N.takes_of rfl rfl rfl rfl) rfl rfl rfl nd (pi_tup (pv 0))
        (blkOk_by (N := ["xs", "doing", "x"]) (sc := defScope sWsP) (by decide +kernel)) (fun _ _ _ _ _ => pg_name (i := 2) nd rfl (Or.inl rfl)) (fun _ _ _ _ _ => pts_nil)
        (fun _ _ _ _ _ => pe_call (E := E) G hr (by rfl) mw kw bw .nil (passes_blk fun _ _ _ z => z) (pa_cons (pv 2) (pa_cons (pv 1) pa_nil)))) pa_nil))), ?_⟩
    cases hd with
    | @tup a xs _ e al =>
      have le := al.length
      refine ⟨_, rfl, a, rfl, ⟨xs, SqT.of e⟩, fun D0 hD => ?_⟩
      refine lc_tup (K := K) (a := a) (xs := xs) (fun i H' => ∃ ds vs, qs.take i = ds.map some ∧ H' D0 = some (.lst vs) ∧ DtAll H' vs ds ∧ Same H H') ?_ ?_ ?_ ?_
      · exact ⟨[], [], rfl, upd_same, .nil, same_new (Same.refl _) hD⟩
      · rintro i H' _ ⟨ds, vs, _, _, _, s⟩
        exact SqT.of (s _ _ e)
      · rintro i x H' hi ⟨ds, vs, hq, hDl, hall, s⟩
        obtain ⟨t, hti, htx⟩ := al.get i x hi
        have hil : i < qs.length := by
          have := (List.getElem?_eq_some_iff.mp hti).1
          omega
        have hqi : qs[i]? = some qs[i] := List.getElem?_eq_getElem hil
        have dl : ds.length ≤ 9 := by
          have := congrArg List.length hq
          rw [List.length_take, List.length_map] at this
          omega
        refine ⟨rfl, _, rfl, _, rfl, x, g, t, qs[i], fn, d1, d2, rfl, htx.mono (sameTups s), hev i t _ hti hqi, hg.on s, fun d hqd v' H2 s2 hv => ?_, fun z => (k2 (seqO_none ?_)).on s⟩
        · refine ⟨vs, s2 _ _ hDl, ?_, ds ++ [d], vs ++ [v'], ?_, upd_same, ?_, same_mut (s.trans s2) hD⟩
          · rw [hall.length]
            exact Nat.lt_of_le_of_lt dl (by decide)
          · rw [List.take_add_one, hqi, hq, List.map_append, hqd]
            rfl
          · have tu : Tups H2 (upd H2 D0 (.lst (vs ++ [v']))) := (Tups.refl H2).mut (s2 _ _ hDl) fun xs z => nomatch z
            exact (DtAll.app (hall.mono (sameTups s2)) (.cons hv .nil)).mono tu
        · exact List.mem_of_getElem? (hqi.trans (congrArg some z))
      · rintro H' ⟨ds, vs, hq, hDl, hall, s⟩
        rw [List.take_of_length_le (by omega)] at hq
        refine ⟨D0, vs, rfl, .inl ⟨SqL.of hDl, fun l hl' => ?_⟩⟩
        exact k1 ds (by rw [hq]; exact seqO_some ds) _ _ (same_new s hl') (.tup upd_same (hall.mono (sameTups (same_new (Same.refl _) hl'))))
theorem ok_wof {n l : Nat} {f fs fp fn : Addr} {fd fds fdp fdn : FuncData} (hl : 18 ≤ l) (F : Fun K "worth_of" "worth_of" sWoP f fd) (mf : mg "worth_of" = some (.ref f)) (bf : Binds K fd ["x", "doing"] []) (DT : DTxt K C)
    (ms : mg "worths_of" = some (.ref fs)) (ks : PySem.W.keepIn K (.ref fs) = true) (bs : Binds K fds ["xs", "doing"] []) (Gs : FnOk P w K mg base (L2N.CX P w) (l + 1) fs fds ["xs", "doing"] (spWs C D n))
    (mp : mg "part_of" = some (.ref fp)) (kp : PySem.W.keepIn K (.ref fp) = true) (bp : Binds K fdp ["worth", "k"] []) (Gp : FnOk P w K mg base (L2N.CX P w) 4 fp fdp ["worth", "k"] (spPart D))
    (mn : mg "need_worth" = some (.ref fn)) (kn : PySem.W.keepIn K (.ref fn) = true) (bn : Binds K fdn ["row"] []) (Gn : FnOk P w K mg base (L2N.CX P w) 8 fn fdn ["row"] (spNeedW D))
    (mP : mg "PAIRS" = some (.ref pA)) (hP : ∀ o ∈ opsZ, ∃ fo, KDct K w pA o (.ref fo) ∧ OpAt P w K mg base D o fo)
    (G : FnOk P w K mg base (L2N.CX P w) l f fd ["x", "doing"] (spWo C D n)) : FnOk P w K mg base (L2N.CX P w) (l + 2) f fd ["x", "doing"] (spWo C D (n + 1)) := by
  refine GG.okN F scWf (fun vs H Q E h => ?_) (fun cdv A outer s H vs Q E hr h => ?_)
  · obtain ⟨v, g, x, r, fn, d1, d2, rfl, _⟩ := h
    rfl
  · obtain ⟨v, g, x, r, fz, d1, d2, rfl, hd, hev, hg, k1, k2⟩ := h
    have nd := scWf.nd
    have hu := hu_of hr
    have hrl : Room l _ := hr.mono (by omega)
    have hr4 : Room 4 _ := hr.mono (by omega)
    have hr8 : Room 8 _ := hr.mono (by omega)
    have hr17 : Room 17 _ := hr.mono (by omega)
    obtain ⟨_, hev⟩ := hev
    refine ⟨_, pss_cons (ps_set (i := 2) nd rfl (Or.inl rfl) (pe_ix ix_tup (pv 0) pe_int (fun _ _ => rfl)))
      (pss_cons (ps_if (pt_cmpR op_eq (pv 2) pe_str (nomark _)) (pss_one ps_never) pss_nil)
      (pss_cons (ps_if (pt_cmpR op_eq (pv 2) pe_str (nomark _)) (pss_one (ps_ret (pe_dget hu (pe_fld (pv 1) rfl) (pe_ix ix_tup (pv 0) pe_int (fun _ _ => rfl)) (fun _ _ => rfl)))) pss_nil)
      (pss_cons (ps_if (pt_cmpR op_eq (pv 2) pe_str (nomark _)) (pss_one (ps_ret (pe_dget hu (pe_fld (pv 1) rfl) (pe_ix ix_tup (pv 0) pe_int (fun _ _ => rfl)) (fun _ _ => rfl)))) pss_nil)
      (pss_cons (ps_if (pt_cmpR op_eq (pv 2) pe_str (nomark _)) (pss_one ps_never) pss_nil)
      (pss_cons (ps_if (pt_cmpR op_eq (pv 2) pe_str (nomark _)) (pss_one (ps_ret (pe_call (E := E) Gp hr4 (by rfl) mp kp bp .nil (L2N.passes_call (L2N.takes_of rfl rfl rfl rfl) fun _ _ _ _ z => z)
          (pa_cons (pe_call (E := E) G hrl (by rfl) mf F.kp bf .nil (L2N.passes_call (L2N.takes_of rfl rfl rfl rfl) fun _ _ _ _ z => z) (pa_cons (pe_ix ix_tup (pv 0) pe_int (fun _ _ => rfl)) (pa_cons (pv 1) pa_nil))) (pa_cons (pe_ix ix_tup (pv 0) pe_int (fun _ _ => rfl)) pa_nil))))) pss_nil)
      (pss_cons (ps_set (i := 3) nd rfl (Or.inl rfl) (pe_call (E := E) Gs hr (by rfl) ms ks bs .nil (L2N.passes_call (L2N.takes_of rfl rfl rfl rfl) fun _ _ _ _ z => z) (pa_cons (pe_slice sl_tup (pv 0) (po_some pe_int) po_none) (pa_cons (pv 1) pa_nil))))
      (pss_cons (ps_if (pt_cmpR op_eq (pv 2) pe_str (nomark _)) (pss_one (ps_ret (pe_call (E := E) Gn hr8 (by rfl) mn kn bn .nil (L2N.passes_call (L2N.takes_of rfl rfl rfl rfl) fun _ _ _ _ z => z) (pa_cons (pv 3) pa_nil)))) pss_nil)
      (pss_cons (ps_set (i := 4) nd rfl (Or.inl rfl) (pe_ix ix_kdict (pe_glob (v := .ref pA) (by rfl) mP rfl) (pv 2) (fun _ _ => rfl)))
      (pss_one (ps_ret (pe_callO (D := D) (E := E) (i := 4) hr17 rfl (.inl rfl) (L2N.passes_call (L2N.takes_of rfl rfl rfl rfl) fun _ _ _ _ z => z) (pa_cons (pe_ix ix_tup (pv 3) pe_int (fun _ _ => rfl)) (pa_cons (pe_ix ix_tup (pv 3) pe_int (fun _ _ => rfl)) pa_nil))))))))))))), ?_⟩
    have n1 : ∀ {a b : Str} {A B : Prop}, a ≠ b → B → (if decide (V.str a = V.str b) = true then A else B) := fun {a b A B} ne h => by
      rw [decide_eq_false fun q => ne (by cases q; rfl)]
      exact iteF h
    have y1 : ∀ {a : Str} {A B : Prop}, A → (if decide (V.str a = V.str a) = true then A else B) := fun {a A B} h => by
      rw [decide_eq_true rfl]
      exact iteT h
    have no : ∀ {a b : String} {A B : Prop}, ((Str.ofString a == Str.ofString b) = false) → B → (if decide (V.str (Str.ofString a) = V.str (Str.ofString b)) = true then A else B) := fun {a b A B} ne h => n1 (by
      intro q
      rw [q] at ne
      simp at ne) h
    obtain ⟨dx, kd, fl, fs, kvs, fvs, w1, w2, w3, h1, h2, h3, h4, h5, h6, h7, h8, h9, h10, h11⟩ := hg.ex
    rcases hev with ⟨rfl, rfl⟩ | ⟨rfl, rfl⟩ | ⟨rfl, rfl⟩ | ⟨t, k, q, rfl, hq, rfl⟩ | ⟨ts, qs, rfl, h9', hl', hev', hgd, rfl⟩ | ⟨o, s, t, q1, q2, rfl, ho, hq1, hq2, rfl⟩
    · cases hd with
      | @tup a xs _ e al =>
      cases al with
      | @cons u0 _ _ _ e0 al =>
      cases al with
      | @cons u1 _ _ _ e1 al =>
      cases al
      cases e0
      cases e1
      have a0 : atI [V.str "var", V.str "a"] 0 = some (V.str "var") := atI_int (by decide) rfl
      have a1 : atI [V.str "var", V.str "a"] 1 = some (V.str "a") := atI_int (by decide) rfl
      refine ⟨_, rfl, a, _, _, _, rfl, rfl, SqT.of e, a0, ?_⟩
      refine ⟨_, rfl, rfl, _, rfl, no (by decide) ?_⟩
      refine ⟨_, rfl, rfl, _, rfl, y1 ?_⟩
      exact ⟨_, rfl, g, C, dx, _, _, rfl, h1, DT.cl, DT.nKnown, h2, _, rfl, a, _, _, _, rfl, rfl, SqT.of e, a1, kd, _, rfl, dget_str h4 h6, k1 d1 rfl w1 H (Same.refl _) h9⟩
    · cases hd with
      | @tup a xs _ e al =>
      cases al with
      | @cons u0 _ _ _ e0 al =>
      cases al with
      | @cons u1 _ _ _ e1 al =>
      cases al
      cases e0
      cases e1
      have a0 : atI [V.str "var", V.str "b"] 0 = some (V.str "var") := atI_int (by decide) rfl
      have a1 : atI [V.str "var", V.str "b"] 1 = some (V.str "b") := atI_int (by decide) rfl
      refine ⟨_, rfl, a, _, _, _, rfl, rfl, SqT.of e, a0, ?_⟩
      refine ⟨_, rfl, rfl, _, rfl, no (by decide) ?_⟩
      refine ⟨_, rfl, rfl, _, rfl, y1 ?_⟩
      exact ⟨_, rfl, g, C, dx, _, _, rfl, h1, DT.cl, DT.nKnown, h2, _, rfl, a, _, _, _, rfl, rfl, SqT.of e, a1, kd, _, rfl, dget_str h4 h7, k1 d2 rfl w2 H (Same.refl _) h10⟩
    · cases hd with
      | @tup a xs _ e al =>
      cases al with
      | @cons u0 _ _ _ e0 al =>
      cases al with
      | @cons u1 _ _ _ e1 al =>
      cases al
      cases e0
      cases e1
      have a0 : atI [V.str "own", V.str fz] 0 = some (V.str "own") := atI_int (by decide) rfl
      have a1 : atI [V.str "own", V.str fz] 1 = some (V.str fz) := atI_int (by decide) rfl
      refine ⟨_, rfl, a, _, _, _, rfl, rfl, SqT.of e, a0, ?_⟩
      refine ⟨_, rfl, rfl, _, rfl, no (by decide) ?_⟩
      refine ⟨_, rfl, rfl, _, rfl, no (by decide) ?_⟩
      refine ⟨_, rfl, rfl, _, rfl, y1 ?_⟩
      exact ⟨_, rfl, g, C, dx, _, _, rfl, h1, DT.cl, DT.nFields, h3, _, rfl, a, _, _, _, rfl, rfl, SqT.of e, a1, fl, _, rfl, dget_str h5 h8, k1 d2 rfl w3 H (Same.refl _) h11⟩
    · cases hd with
      | @tup a xs _ e al =>
      cases al with
      | @cons u0 _ _ _ e0 al =>
      cases al with
      | @cons u1 _ _ _ e1 al =>
      cases al with
      | @cons u2 _ _ _ e2 al =>
      cases al
      cases e0
      cases e2
      have a0 : atI [V.str "at", u1, V.int (k : Int)] 0 = some (V.str "at") := atI_int (by decide) rfl
      have a1 : atI [V.str "at", u1, V.int (k : Int)] 1 = some u1 := atI_int (by decide) rfl
      have a2 : atI [V.str "at", u1, V.int (k : Int)] 2 = some (V.int (k : Int)) := atI_int (by decide) rfl
      refine ⟨_, rfl, a, _, _, _, rfl, rfl, SqT.of e, a0, ?_⟩
      refine ⟨_, rfl, rfl, _, rfl, no (by decide) ?_⟩
      refine ⟨_, rfl, rfl, _, rfl, no (by decide) ?_⟩
      refine ⟨_, rfl, rfl, _, rfl, no (by decide) ?_⟩
      refine ⟨_, rfl, rfl, _, rfl, no (by decide) ?_⟩
      refine ⟨_, rfl, rfl, _, rfl, y1 ?_⟩
      refine ⟨_, rfl, a, _, _, _, rfl, rfl, SqT.of e, a1, _, rfl, u1, g, t, q, fz, d1, d2, rfl, e1, hq, hg, fun d hqd v' H2 s2 hv => ?_, fun z => k2 (by rw [z]; rfl)⟩
      have ok := hq.okd hqd
      exact ⟨_, rfl, a, _, _, _, rfl, rfl, SqT.of (s2 _ _ e), a2, v', d, 12, k, rfl, hv, ok.1, by decide, fun d' hd' v2 H3 s3 hv2 => k1 d' (by rw [hqd]; exact hd') v2 H3 (s2.trans s3) hv2, fun z => (k2 (by rw [hqd]; exact z)).on s2⟩
    · cases hd with
      | @tup a xs _ e al =>
      cases al with
      | @cons u0 us _ _ e0 al =>
      cases e0
      have a0 : atI (V.str "row" :: us) 0 = some (V.str "row") := atI_int (by decide) rfl
      refine ⟨_, rfl, a, _, _, _, rfl, rfl, SqT.of e, a0, ?_⟩
      refine ⟨_, rfl, rfl, _, rfl, no (by decide) ?_⟩
      refine ⟨_, rfl, rfl, _, rfl, no (by decide) ?_⟩
      refine ⟨_, rfl, rfl, _, rfl, no (by decide) ?_⟩
      refine ⟨_, rfl, rfl, _, rfl, no (by decide) ?_⟩
      refine ⟨_, rfl, rfl, _, rfl, no (by decide) ?_⟩
      refine ⟨_, rfl, _, rfl, a, _, rfl, SqT.of e, (fun z => ?_), fun p hp => ?_⟩
      · have z1 : min 1 (V.str "row" :: us).length = 0 := (HT.sIx_nat (n := (V.str "row" :: us).length) (k := 1) (d := 0)).symm.trans z.1
        rw [Nat.min_eq_left (by simp)] at z1
        cases z1
      rw [cutV_tail]
      have s1 := same_new (Same.refl H) hp (o := .tup us)
      refine ⟨_, rfl, .ref p, g, ts, qs, fz, d1, d2, rfl, .tup upd_same (al.mono (sameTups s1)), h9', hl', hev', hg.on s1, fun ds hds v' H2 s2 hv => ?_, fun z => (k2 (by rw [z]; rfl)).on s1⟩
      have s3 := s1.trans s2
      refine ⟨_, rfl, rfl, _, rfl, y1 ?_⟩
      exact ⟨_, rfl, v', .tuple ds, 12, rfl, hv, hgd ds hds, by decide, fun hw H3 s4 => k1 (.tuple ds) (by rw [hds]; exact if_pos hw) v' H3 (s3.trans s4) (hv.mono (sameTups s4)), fun hw => (k2 (by rw [hds]; exact if_neg (by rw [hw]; decide))).on s3⟩
    · have ne : o ≠ "is" ∧ o ≠ "var" ∧ o ≠ "own" ∧ o ≠ "me" ∧ o ≠ "at" ∧ o ≠ "row" := by
        have all : ∀ z ∈ opsZ, z ≠ "is" ∧ z ≠ "var" ∧ z ≠ "own" ∧ z ≠ "me" ∧ z ≠ "at" ∧ z ≠ "row" := by decide +kernel
        exact all o ho
      cases hd with
      | @tup a xs _ e al =>
      cases al with
      | @cons u0 us _ _ e0 al =>
      cases e0
      have a0 : atI (V.str o :: us) 0 = some (V.str o) := atI_int (by decide) rfl
      refine ⟨_, rfl, a, _, _, _, rfl, rfl, SqT.of e, a0, ?_⟩
      refine ⟨_, rfl, rfl, _, rfl, n1 ne.1 ?_⟩
      refine ⟨_, rfl, rfl, _, rfl, n1 ne.2.1 ?_⟩
      refine ⟨_, rfl, rfl, _, rfl, n1 ne.2.2.1 ?_⟩
      refine ⟨_, rfl, rfl, _, rfl, n1 ne.2.2.2.1 ?_⟩
      refine ⟨_, rfl, rfl, _, rfl, n1 ne.2.2.2.2.1 ?_⟩
      refine ⟨_, rfl, _, rfl, a, _, rfl, SqT.of e, (fun z => ?_), fun p hp => ?_⟩
      · have z1 : min 1 (V.str o :: us).length = 0 := (HT.sIx_nat (n := (V.str o :: us).length) (k := 1) (d := 0)).symm.trans z.1
        rw [Nat.min_eq_left (by simp)] at z1
        cases z1
      rw [cutV_tail]
      have s1 := same_new (Same.refl H) hp (o := .tup us)
      refine ⟨_, rfl, .ref p, g, [s, t], [q1, q2], fz, d1, d2, rfl, .tup upd_same (al.mono (sameTups s1)), (by show 2 ≤ 9; decide), rfl, fun i t' q hi hq => ?_, hg.on s1, fun ds hds v' H2 s2 hv => ?_, fun z => (k2 (by rw [z]; rfl)).on s1⟩
      · match i with
        | 0 =>
          cases hi
          cases hq
          exact hq1
        | 1 =>
          cases hi
          cases hq
          exact hq2
        | i + 2 => cases hi
      have s3 := s1.trans s2
      have hqs := seqO_ok hds
      obtain ⟨x1, x2, rfl, rfl, rfl⟩ : ∃ x1 x2, ds = [x1, x2] ∧ q1 = some x1 ∧ q2 = some x2 := by
        match ds, hqs with
        | [x1, x2], z =>
          cases z
          exact ⟨_, _, rfl, rfl, rfl⟩
      cases hv with
      | @tup b xs _ eb alb =>
      cases alb with
      | @cons w1' _ _ _ f1 alb =>
      cases alb with
      | @cons w2' _ _ _ f2 alb =>
      cases alb
      have b0 : atI [w1', w2'] 0 = some w1' := atI_int (by decide) rfl
      have b1 : atI [w1', w2'] 1 = some w2' := atI_int (by decide) rfl
      refine ⟨_, rfl, rfl, _, rfl, n1 ne.2.2.2.2.2 ?_⟩
      obtain ⟨fo, kd', oa⟩ := hP o ho
      refine ⟨_, rfl, pA, o, .ref fo, rfl, rfl, kd', ?_⟩
      exact ⟨fo, o, rfl, oa, _, rfl, b, _, _, _, rfl, rfl, SqT.of eb, b0, _, rfl, b, _, _, _, rfl, rfl, SqT.of eb, b1, w1', w2', x1, x2, rfl, f1, f2, hq1.okd rfl, hq2.okd rfl, fun d hd v3 H3 s4 hv3 => k1 d hd v3 H3 (s3.trans s4) hv3, fun z => (k2 z).on s3⟩
end
end K3
namespace GG
open PySem PySem.Spec PyProof.Rows L2 HotX L2H
/-! ### walks while an exception is handled -/
section
variable {prog : Program} {w : World} {A : Around} {E : Value → Shared → Prop} {s : Shared}
/-- the end of a walk, raised while the exception at x1 is handled -/
theorem stop_hot {α : Type} {x1 : Addr} {Q : α → Shared → Prop} (hot : HotAt A x1 s.heap) (k : ∀ (h' : Heap) (a : Addr), (∀ b o, s.heap.get? b = some o → h'.get? b = some o) → ({ s with heap := h' } : Shared).TypeIs (.ref a) "StopIteration" → E (.ref a) { s with heap := h' }) :
    wpAny (model prog w) A (newExc (.type "StopIteration") [] >>= fun e => (raiseNew e : Sem α)) Q E s := by
  obtain ⟨hh, o1, vs1, h1, d1, c1⟩ := hot
  refine wpAny_bind ?_; simp only [newExc, newTuple]
  refine wpAny_bind (wpAny_newObj_type ?_ (by size_fits)); refine wpAny_bind (m := firstArgMember _ _) (wpAny_of_eq (a := Value.none) (by first | rfl | (simp only [firstArgMember]; rfl)) ?_)
  refine wpAny_newObj_type ?_ (by size_fits); have h2 := Heap.get?_push_of_some ({ cls := .type "tuple", data := .seq #[] } : Obj) h1
  refine raiseNew_hot ⟨hh, o1, vs1, Heap.get?_push_of_some _ (Heap.get?_push_of_some _ h1), d1, c1⟩ (Nat.ne_of_lt (Heap.lt_size (Heap.get?_push_of_some _ h1))) (Heap.get?_push_size _ rfl) rfl (by first | (simp; done) | (simp; omega) | (simp only [Array.size_append]; simp; omega)) (k _ _ (fun b o e => ?_) ?_)
  · rw [Heap.get?_update_other _ _ (Nat.ne_of_gt (Heap.lt_size (Heap.get?_push_of_some _ e)))]
    exact Heap.get?_push_of_some _ (Heap.get?_push_of_some _ e)
  · exact ⟨_, Heap.get?_update_self _ (Heap.get?_push_size _ rfl) rfl, rfl⟩
theorem tup_end_hot {it t x1 : Addr} {i : Nat} {items : Array Value} {Q : Option Value → Shared → Prop} (hot : HotAt A x1 s.heap) (ne : x1 ≠ it) (hit : s.heap.IsTupleIter it t i) (ht : s.heap.IsTuple t items) (hx : items[i]? = none)
    (k : ∀ h', (∀ b o, b ≠ it → s.heap.get? b = some o → h'.get? b = some o) → Q none { s with heap := h' }) : wpAny (model prog w) A (pyNext (.ref it)) Q E s := by
  obtain ⟨o, ho, hc, hd⟩ := id hit
  obtain ⟨ol, hol, _, nl, hdl⟩ := ht
  obtain ⟨hh, o1, vs1, h1, d1, c1⟩ := hot
  unfold pyNext; refine wpAny_bind (wpAny_attempt (wpAny_callSpecial?_slot (name := Str.ofString "__next__") hit.typeIs PySem.F.slot_tuple_iterator_next (wpAny_call_entry PySem.F.slot_tuple_iterator_next hit.typeIs PySem.F.entry_tuple_iterator_next ?_ (PySem.F.args_tuple_iterator_next_1 _))))
  show wpAny _ _ (field (.ref it) 0 >>= _) _ _ s; refine wpAny_bind (wpAny_field ho hd (x := .ref t) rfl ?_)
  show wpAny _ _ (if (Value.ref t == Value.none) = true then _ else _) _ _ s; rw [if_neg (show ¬ ((Value.ref t == Value.none) = true) from Bool.false_ne_true)]
  show wpAny _ _ (field (.ref it) 1 >>= _) _ _ s; refine wpAny_bind (wpAny_field ho hd (x := .int i 0) rfl ?_)
  show wpAny _ _ (seqItems? (.ref t) >>= _) _ _ s; refine wpAny_bind (wpAny_seqItems hol hdl ?_); simp only [Int.toNat_natCast, hx]
  refine wpAny_bind (wpAny_rule (wpAny_bind (wpAny_setField ho hd (by simp) ?_))); show wpAny _ _ (newExc (.type "StopIteration") [] >>= _) _ _ _
  refine stop_hot (x1 := x1) ⟨hh, o1, vs1, (Heap.get?_update_other _ _ (Ne.symm ne)).trans h1, d1, c1⟩ fun h' a keep ty => ?_
  refine wpAny_bind (wpAny_isInstance (T := "StopIteration") (b := true) ty isSubtype_stop (wpAny_pure (k _ fun b o' nb e => keep b o' ?_)))
  exact (Heap.get?_update_other _ _ (Ne.symm nb)).trans e
theorem items_end_hot {K : Type} [DecidableEq K] {knd : KeyKind prog w K} {it d x1 : Addr} {i ep : Nat} {kvs : List (K × Value)} {ok ov : Value} {Q : Option Value → Shared → Prop} (hot : HotAt A x1 s.heap) (ne : x1 ≠ it) (hit : IsItemIter s.heap it d i kvs.length ep ok ov)
    (hm : s.heap.DictAt knd d kvs ep) (hx : kvs[i]? = none) (k : ∀ h', (∀ b o, b ≠ it → s.heap.get? b = some o → h'.get? b = some o) → Q none { s with heap := h' }) : wpAny (model prog w) A (pyNext (.ref it)) Q E s := by
  obtain ⟨od, es, hod, hcd, hdd, hk, hpr, hn⟩ := id hm
  obtain ⟨hh, o1, vs1, h1, d1, c1⟩ := hot
  have hT : s.TypeIs (.ref it) "dict_itemiterator" := ⟨_, hit, rfl⟩
  unfold pyNext; refine wpAny_bind (wpAny_attempt (wpAny_callSpecial?_slot (name := Str.ofString "__next__") hT PySem.F.slot_dict_itemiterator_next (wpAny_call_entry PySem.F.slot_dict_itemiterator_next hT PySem.F.entry_dict_itemiterator_next ?_ (PySem.F.args_dict_itemiterator_next_1 _))))
  refine wpAny_bind (wpAny_pure ?_); refine wpAny_bind (wpAny_bind ?_)
  first | refine wpAny_bind (wpAny_typeNameOfWhole_itemiter hT (wpAny_pure ?_)); skip | refine wpAny_bind (wpAny_typeNameOf_itemiter hT (wpAny_pure ?_)); skip
  refine wpAny_bind (wpAny_fieldsOf hit rfl ?_); have own : Builtin.Dict_items.ownsTuple "dict_itemiterator" = true := by decide
  simp only [own, if_true]; show wpAny _ _ (if (Value.ref d == Value.none) = true then _ else _) _ _ s; rw [if_neg (show ¬ ((Value.ref d == Value.none) = true) from Bool.false_ne_true)]
  refine wpAny_bind (wpAny_pure ?_); refine wpAny_bind (wpAny_dictEntries hod hdd ?_); have hsz : es.size = kvs.length := by rw [← hpr.length]; simp
  rw [if_neg (by rw [hsz]; simp)]; refine wpAny_bind (wpAny_pure ?_); refine wpAny_bind (wpAny_dictEpoch hod hdd ?_)
  rw [if_neg (by simp)]; refine wpAny_pure ?_; have hge : es.size ≤ i := by rw [hsz]; simpa using hx
  simp only [show ¬ ((i : Int) < 0) from by omega, if_false, Int.toNat_natCast, Array.getElem?_eq_none hge]; refine wpAny_bind ?_
  first | refine wpAny_bind (wpAny_typeNameOfWhole_itemiter hT (wpAny_pure ?_)); skip | refine wpAny_bind (wpAny_typeNameOf_itemiter hT (wpAny_pure ?_)); skip
  show wpAny _ _ (setField (.ref it) 2 .none >>= _) _ _ s; refine wpAny_bind (wpAny_setField hit rfl (by simp) ?_)
  show wpAny _ _ (newExc (.type "StopIteration") [] >>= _) _ _ _
  refine stop_hot (x1 := x1) ⟨hh, o1, vs1, (Heap.get?_update_other _ _ (Ne.symm ne)).trans h1, d1, c1⟩ fun h' a keep ty => ?_
  refine wpAny_bind (wpAny_isInstance (T := "StopIteration") (b := true) ty isSubtype_stop (wpAny_pure (k _ fun b o' nb e => keep b o' ?_)))
  exact (Heap.get?_update_other _ _ (Ne.symm nb)).trans e
end
section
variable {prog : Program} {w : World} {A : Around} {E : Value → Shared → Prop} {s : Shared}
/-- a tuple unpacked while an exception is handled -/
theorem unpack_hot {t x1 : Addr} {items : Array Value} {targets : List (Bool × (Value → Sem Unit))} {Q : Unit → Shared → Prop} (hot : HotAt A x1 s.heap) (ht : s.heap.IsTuple t items) (hn : targets.length = items.size) (star : targets.findIdx? (·.1) = none)
    (k : ∀ h', (∀ b o, s.heap.get? b = some o → h'.get? b = some o) → wpAny (model prog w) A (assignInOrder (targets.map (·.2)) items.toList) Q E { s with heap := h' }) : wpAny (model prog w) A (unpack (.ref t) targets) Q E s := by
  have far : t ≠ s.heap.objs.size := let ⟨_, ho, _⟩ := ht; Nat.ne_of_lt (Heap.lt_size ho)
  obtain ⟨hh, o1, vs1, h1, d1, c1⟩ := hot
  have x1n : x1 ≠ s.heap.objs.size := Nat.ne_of_lt (Heap.lt_size h1)
  unfold unpack; rw [hn, star]
  refine wpAny_bind (wpAny_holding ?_); unfold unpackItems
  refine wpAny_bind ?_; unfold notIterableAtAll
  refine wpAny_bind (wpAny_specialOf ht.typeIs PySem.F.slot_tuple_iter.lookup (wpAny_pure ?_))
  simp only [Bool.false_eq_true, if_false]; refine wpAny_bind (wpAny_holding (wpAny_pyIter_tuple ht ?_))
  refine wpAny_bind (wpAny_holding (wpAny_draw_tuple far items.size 0 _ _ ⟨_, Heap.get?_push_size _ rfl, rfl, rfl⟩ (ht.push _) (by omega) fun h2 it2 sb => ?_))
  have whole : List.take items.size (List.drop 0 items.toList) = items.toList := by rw [List.drop_zero, List.take_of_length_le (by simp)]
  rw [whole, if_neg (by simp)]
  have up : ∀ b o, s.heap.get? b = some o → h2.get? b = some o := fun b o e => sb.extBut b o (Nat.ne_of_lt (Heap.lt_size e)) (Heap.get?_push_of_some _ e)
  refine wpAny_bind (wpAny_holding (tup_end_hot (x1 := x1) ⟨hh, o1, vs1, up _ _ h1, d1, c1⟩ x1n it2 ((ht.push _).extBut sb.extBut far) (by simp) fun h3 e3 => ?_))
  simp only [Option.isSome_none, Bool.false_eq_true, if_false]
  exact wpAny_pure (k h3 fun b o e => e3 b o (Nat.ne_of_lt (Heap.lt_size e)) (up b o e))
end
/-- the handled exception, as the state has it -/
theorem hot_pin {X : Cx} {pins : List (Addr × Obj)} {σ : L2.St} {H : Hp} {s : Shared} {b : Addr} (hc : HotC X) (I : Inv X pins σ H s) (far : ∀ p ∈ X.pn ++ pins, p.1 ≠ b) : ∃ x1, HotAt X.A x1 s.heap ∧ x1 ≠ b := by
  obtain ⟨p, ⟨hh, v1, e1, c1⟩, hp⟩ := hc
  exact ⟨p.1, ⟨hh, p.2, v1, (I.pin p (List.mem_append_left _ hp)).1, e1, c1⟩, far p (List.mem_append_left _ hp)⟩
theorem hot_tup {P : Program} {w : World} {K : PySem.W.Frag} {tg : Expr} (a it : Addr) : TurnH P w K tg (Itt K a) [it] it (fun i h => h.IsTupleIter it a i) where
  mem := by simp
  obj := fun i h st b hb => by
    cases (show b = it by simpa using hb)
    exact let ⟨o, e, _, d⟩ := st; ⟨o, e, fun v z => nomatch (d.symm.trans z)⟩
  keep := fun i h h' st k => st.at fun o e => k it (by simp) o e
  item := by
    rintro X rfl rfl rfl hc i pins s σ H E I hf st ⟨xs, x, hq, hx⟩
    obtain ⟨its, rv, p, hz⟩ := I.tuple hq
    obtain ⟨u, hu, ru⟩ := rv.get hx
    have f := hf it (by simp)
    refine wpAny_pyNext_tuple_item (items := its.toArray) st p (x := u) (by simpa using hu) fun h' st' sb => ?_
    have J : Inv X pins σ H { s with heap := h' } := I.turned (t' := s.toks) (fun b o hb e => (sb.2 b hb).trans e) f.1 f.2.1 f.2.2.2.1 f.2.2.2.2.1 f.2.2.2.2.2
    exact let ⟨o, e, c, d⟩ := id st'; ⟨u, rfl, go_of (s := { s with heap := h' }) e c d (by decide) ⟨x, H, J, ru, ⟨rfl, fun ys hy => I.tuple_inj hy hq ▸ hx⟩, st', fun b hb => (hf b hb).1⟩⟩
  done := by
    rintro X rfl rfl rfl hc i pins s σ H E I hf st ⟨xs, hq, hx⟩
    obtain ⟨its, rv, p, hz⟩ := I.tuple hq
    have f := hf it (by simp)
    have hl := rv.length
    obtain ⟨x1, hot, ne⟩ := hot_pin hc I f.2.2.2.2.2
    exact tup_end_hot (items := its.toArray) hot ne st p (by simp; omega) fun h' eb => ⟨rfl, I.turned (t' := s.toks) (fun b o hb e => eb b o hb e) f.1 f.2.1 f.2.2.2.1 f.2.2.2.2.1 f.2.2.2.2.2⟩
  self := fun _ _ _ _ _ st h => wpAny_pyIter_tupleiter st h
theorem hot_items {P : Program} {w : World} {K : PySem.W.Frag} {d : Addr} {o : Obj} {es : Array DictEntry} {ep : Nat} {kvs : List (Key × V)} {elts : List Expr} {kk : Nat} {tpos : Pos} (it : Addr) (hod : o.data = .dict es ep) :
    TurnH P w K (.Tuple elts kk tpos) (Iti d o kvs) [it] it (fun i h => ∃ ok ov, IsItemIter h it d i kvs.length ep ok ov) where
  mem := by simp
  obj := fun i h st b hb => by
    cases (show b = it by simpa using hb)
    exact let ⟨_, _, e⟩ := st; ⟨_, e, fun v z => nomatch z⟩
  keep := fun i h h' st k => let ⟨ok, ov, e⟩ := st; ⟨ok, ov, k it (by simp) _ e⟩
  item := by
    rintro X rfl rfl rfl hc i pins s σ H E I hf ⟨ok, ov, he⟩ ⟨hd, hi⟩
    obtain ⟨hs, hgd, hx, es', ep', vs, hdt, hsz, kv, hm⟩ := I.frzK hd
    obtain ⟨rfl, rfl⟩ := dict_ep hod hdt
    obtain ⟨⟨k, v⟩, hkv⟩ : ∃ p, kvs[i]? = some p := ⟨_, List.getElem?_eq_getElem hi⟩
    obtain ⟨u, hu, ru⟩ := kv_get kv hkv
    have hl : kvs.length = vs.length := Paired.length kv
    rw [hl] at he
    have low : it < s.heap.objs.size := Heap.lt_size he
    refine wpAny_pyNext_items_item he hm hu fun key h' hkey ho hT hz hk => ⟨_, rfl, wpAny_letOwnedTupleGo_items (s := { s with heap := h' }) ho fun h'' he' sb => ?_⟩
    have pair : ObjOk X.prog X.w (upd H s.heap.objs.size (.tup [kV k, v])) h'' s.heap.objs.size (.tup [kV k, v]) :=
      ⟨(by show 2 ≤ sizeLine; decide), [key, u], .cons (relV_key (show keyIs k key = true from hkey)) (.cons ru .nil), _, (sb.2 _ (Nat.ne_of_gt low)).trans hT, rfl, _, rfl⟩
    have J : Inv X pins σ (upd H s.heap.objs.size (.tup [kV k, v])) { s with heap := h'' } :=
      I.turnedNew (t' := s.toks) (ch := [it]) (fun b ob hb e => (sb.2 b (by simpa using hb)).trans (hk b ob (by simpa using hb) e)) hf (Nat.le_refl _) pair
    refine ⟨.ref s.heap.objs.size, _, J, rfl, ⟨_, k, v, hkv, rfl, I.hok.fresh (Nat.le_refl _), rfl⟩, ⟨key, u, hl ▸ he'⟩, fun b hb => ?_⟩
    cases (show b = it by simpa using hb)
    exact (upd_ne (Nat.ne_of_lt low)).trans (hf it (by simp)).1
  done := by
    rintro X rfl rfl rfl hc i pins s σ H E I hf ⟨ok, ov, he⟩ ⟨hd, hi⟩
    have f := hf it (by simp)
    obtain ⟨hs, hgd, hx, es', ep', vs, hdt, hsz, kv, hm⟩ := I.frzK hd
    obtain ⟨rfl, rfl⟩ := dict_ep hod hdt
    have hl : kvs.length = vs.length := Paired.length kv
    rw [hl] at he
    obtain ⟨x1, hot, ne⟩ := hot_pin hc I f.2.2.2.2.2
    exact items_end_hot hot ne he hm (List.getElem?_eq_none (by omega)) fun h' eb => ⟨rfl, I.turned (t' := s.toks) (fun b o hb e => eb b o hb e) f.1 f.2.1 f.2.2.2.1 f.2.2.2.2.1 f.2.2.2.2.2⟩
  self := fun A i s Q E st h => let ⟨_, _, e⟩ := st; PySem.W.kcp_self e h
section
variable {X : Cx}
/-- one iterator, just laid -/
theorem one_hot {tg : Expr} {pins : List (Addr × Obj)} {σ : L2.St} {H : Hp} {s : Shared} {R : It → Hp → Prop} {J : It} {tn : Nat → Heap → Prop} {tk : Nat} (I : Inv X pins σ H s) (o : Obj) (T : TurnH X.prog X.w X.K tg J [s.heap.objs.size] s.heap.objs.size tn) (st : tn 0 (s.heap.push o)) (q : R J H) :
    PIEH X pins σ tg R (.ref s.heap.objs.size) { s with heap := s.heap.push o, toks := tk } :=
  ⟨_, _, tn, J, H, rfl, I.kept fun b ob e => Heap.get?_push_of_some _ e, T, st, fun b hb => by
    cases (show b = s.heap.objs.size by simpa using hb)
    exact I.fpOk (Nat.le_refl _) (I.hok.fresh (Nat.le_refl _)), q⟩
theorem pi_tupH {tg l : Expr} {tl : TE} (hl : PE X l tl) : PIH X tg l (iTup X.K tl) := by
  constructor
  intro pins s σ H R I h
  refine thn (hl.run pins s σ H _ I h) ?_
  rintro v s1 ⟨x, H1, I1, r1, a, rfl, ⟨xs, hq⟩, q⟩
  cases r1
  obtain ⟨its, rv, p, hz⟩ := I1.tuple hq
  exact wpAny_pyIter_tuple (items := its.toArray) p (one_hot (tk := s1.toks) I1 _ (hot_tup a _) ⟨_, Heap.get?_push_size _ rfl, rfl, rfl⟩ q)
theorem pi_itemsH {e : Expr} {td : TE} {elts : List Expr} {kk : Nat} {tpos apos cpos : Pos} (he : PE X e td) (hbase : attributeBase e "items" X.env (eval e X.env) = eval e X.env := by rfl) (hline : (apos.endLine == cpos.line) = true := by rfl) :
    PIH X (.Tuple elts kk tpos) (.Call (.Attribute e "items" apos) [] [] cpos) (iItems td) := by
  constructor
  intro pins s σ H R I h
  refine wpAny_Call_method (T := "dict") (id := "dict.items") hbase rfl hline PySem.F.plainAttrs_dict PySem.F.slot_dict_items PySem.F.type_dict_items (thn (he.run pins s σ H _ I h) ?_)
  rintro u s1 ⟨x, H1, I1, rx, d, o, kvs, rfl, hd, q⟩
  cases (show u = Value.ref d from rx)
  obtain ⟨hs, hgd, hx, es, ep, vs, hdt, hsz, kv, hm⟩ := I1.frzK hd
  have hl : kvs.length = vs.length := Paired.length kv
  have view : Inv X pins σ H1 { s1 with heap := s1.heap.push { cls := .type "dict_items", data := .fields #[.ref d] } } := I1.kept (t' := s1.toks) fun b ob q => Heap.get?_push_of_some _ q
  refine ⟨hm.dictOf.typeIs, hm.dictOf.mapOf.noDict, ?_⟩
  refine method_meetsIn PySem.F.slot_dict_items PySem.F.entry_dict_items rfl (PySem.evalArgs_none ⟨rfl, hm.dictOf.typeIs, PySem.F.args_dict_items_1 _, _, meets_dict_items (mixKind X.prog X.w) d hs, ⟨vs, hm.dictOf⟩, ?_⟩)
  exact wpAny_pyIter_items (d := d) (knd := mixKind X.prog X.w) ⟨_, Heap.get?_push_size _ rfl, rfl, rfl⟩ (hm.push _) (one_hot (tk := s1.toks) view _ (hot_items _ hdt) ⟨.none, .none, hl ▸ Heap.get?_push_size _ rfl⟩ q)
/-- (a, b, ..) = a tuple, while an exception is handled -/
theorem pg_tupH {es : List Expr} {k : Nat} {t : TGs} {n : Nat} {pos : Pos} (hc : HotC X) (h : PGs X es t) (hn : (assignEach es X.env).length = n := by rfl) (star : (assignEach es X.env).findIdx? (·.1) = none := by rfl) : PG X (.Tuple es k pos) (gTup X.K n t) := by
  constructor
  rintro pins s σ H v u Q I r ⟨a, xs, rfl, hq, hl, hw⟩
  cases r
  obtain ⟨its, rv, ht, hz⟩ := I.tuple hq
  obtain ⟨x1, hot⟩ := hc.at I
  rw [arm_assign_Tuple]
  refine wpAny_bind (wpAny_standAt (unpack_hot (items := its.toArray) hot ht (by simp [hn, ← hl, rv.length]) star fun h' up => ?_))
  have J : Inv X pins σ H { s with heap := h' } := I.kept (t' := s.toks) up
  exact h.run pins _ σ H xs _ Q J (by simpa using rv) hw
end
end GG
namespace K3
open PySem PySem.Spec PyProof.Rows L2 GG
/-! ### copied: worths, and a dict of one -/
def spCo (n : Nat) : Sp := fun vs H Q _ => ∃ v : V, vs = [v] ∧ ((∃ d, Dt H v d ∧ Gd n d ∧ ∀ v' H', Same H H' → Dt H' v' d → Q v' H') ∨
  (∃ (a : Addr) (k : Key) (x : V) (d : PyData) (m : Nat), v = .ref a ∧ H a = some (.dK [(k, x)]) ∧ Dt H x d ∧ n = m + 1 ∧ Gd m d ∧ ∀ (r : Addr) (x' : V) H', Same H H' → H r = none → H' r = some (.dK [(k, x')]) → Dt H' x' d → Q (.ref r) H'))
def spCoB : Nat → Sp
  | 0 => fun _ _ _ _ => False
  | n + 1 => spCo n
theorem Dt.kDict {K : PySem.W.Frag} {H : Hp} {v : V} {d : PyData} (h : Dt H v d) : PySem.W.kitOne K (.type (tyDt d)) (.type "dict") = some false := by
  cases h with
  | non => exact kit_ty (show kitB "NoneType" "dict" = some false by decide +kernel)
  | int i => exact kit_ty (show kitB "int" "dict" = some false by decide +kernel)
  | str z => exact kit_ty (show kitB "str" "dict" = some false by decide +kernel)
  | tup e a => exact kit_ty (show kitB "tuple" "dict" = some false by decide +kernel)
theorem Dt.kList {K : PySem.W.Frag} {H : Hp} {v : V} {d : PyData} (h : Dt H v d) : PySem.W.kitOne K (.type (tyDt d)) (.type "list") = some false := by
  cases h with
  | non => exact kit_ty (show kitB "NoneType" "list" = some false by decide +kernel)
  | int i => exact kit_ty (show kitB "int" "list" = some false by decide +kernel)
  | str z => exact kit_ty (show kitB "str" "list" = some false by decide +kernel)
  | tup e a => exact kit_ty (show kitB "tuple" "list" = some false by decide +kernel)
theorem hu_hot {k : Nat} {A : Around} (r : L2H.RoomH k A) : A.units + 1 < cLine := Nat.lt_of_le_of_lt (by omega) r.un
/-- a def's promise where an exception is handled, nothing let out -/
theorem okH {P : Program} {w : World} {K : PySem.W.Frag} {mg : Str → Option Value} {base : Heap} {x qual : Str} {st : Stmt} {f : Addr} {fd : FuncData} {N ps : List Str} {k : Nat} {sp : Sp} (F : Fun K x qual st f fd) (S : FnScope N ps (defScope st)) (len : ∀ vs H Q E, sp vs H Q E → vs.length = ps.length)
    (walk : ∀ (cdv : Value) (A : Around) (outer : List Env) (s : Shared) (H : Hp) (vs : List V) (Q : VK) (E : XK) (p : Addr × Obj), L2H.HotC (L2H.cxH CX0 P w K mg base N qual (defScope st) f cdv A outer s H E p).nox → L2H.RoomH k (A.deeper (envOfC qual (defScope st) s.heap.objs.size f cdv)) → sp vs H Q E →
      ∃ t, PSs (L2H.cxH CX0 P w K mg base N qual (defScope st) f cdv A outer s H E p).nox (defBody st) t ∧ t { nx := fun _ H' => Q .non H', rt := Q } (L2.start N vs) H) : L2H.FnH P w K mg base CX0 (k + 1) f fd ps sp := by
  obtain ⟨_, _, _, _, _, _, cdv, _, _, rfl, lk, hcd⟩ := F.ex
  refine L2H.fn_ofH lk hcd S len fun A outer s H vs Q E p hot hr h => ?_
  obtain ⟨t, h1, h2⟩ := walk cdv A outer s H vs Q E p ⟨p, hot, List.mem_singleton.mpr rfl⟩ hr h
  exact ⟨t, h1.nox, h2⟩
section
variable {P : Program} {w : World} {K : PySem.W.Frag} {mg : Str → Option Value} {base : Heap}
theorem ok_co {f : Addr} {fd : FuncData} (F : Fun K "copied" "copied" sCopied f fd) (T : Txt mg) (m : mg "copied" = some (.ref f)) (b : Binds K fd ["thing"] []) : ∀ n : Nat, FnOk P w K mg base CX0 (n + 1) f fd ["thing"] (spCo n) := by
  have main : ∀ n : Nat, FnOk P w K mg base CX0 n f fd ["thing"] (spCoB n) → FnOk P w K mg base CX0 (n + 1) f fd ["thing"] (spCo n) := by
    intro n G
    refine F.ok scCo (fun vs H Q E h => ?_) (fun cdv A outer s H vs Q E hr h => ?_)
    · obtain ⟨v, rfl, _⟩ := h
      rfl
    · obtain ⟨v, rfl, h⟩ := h
      have nd := scCo.nd
      have hu := hu_of hr
      rcases h with ⟨d, hd, hg, k⟩ | ⟨a, ky, x, d, m1, rfl, e, hx, rfl, hg, k⟩
      · refine ⟨_, pss_cons (ps_if (pt_val (pe_callB call_isi (by rfl) T.isinstance (by decide +kernel) (pa_cons (pv 0) (pa_cons (pe_bltn (v := V.ty "dict") (by rfl) T.dict (by decide +kernel) rfl) pa_nil)))) (pss_cons ps_never (pss_cons ps_never (pss_one ps_never))) pss_nil)
          (pss_cons (ps_if (pt_not (pt_val (pe_callB call_isiT (by rfl) T.isinstance (by decide +kernel) (pa_cons (pv 0) (pa_cons (pe_tup (pa_cons (pe_bltn (v := V.ty "list") (by rfl) T.list (by decide +kernel) rfl) (pa_cons (pe_bltn (v := V.ty "tuple") (by rfl) T.tuple (by decide +kernel) rfl) pa_nil))) pa_nil))))) (pss_one (ps_ret (pv 0))) pss_nil)
          (pss_cons (ps_set (i := 4) nd rfl (.inl rfl) (pe_lst pa_nil))
          (pss_cons (ps_for PassesOwn.never rfl (pi_tup (pv 0)) (pg_name (i := 3) nd rfl (Or.inl rfl))
            (pss_one (ps_expr (pe_bm PySem.F.plainAttrs_list PySem.F.slot_list_append PySem.F.type_list_append mt_append (pv 4) (pa_cons (pe_call G hr (by rfl) m F.kp b .nil pass0 (pa_cons (pv 3) pa_nil)) pa_nil)))))
          (pss_one (ps_ret (pe_ifExp (pt_val (pe_callB call_isi (by rfl) T.isinstance (by decide +kernel) (pa_cons (pv 0) (pa_cons (pe_bltn (v := V.ty "list") (by rfl) T.list (by decide +kernel) rfl) pa_nil)))) (pv 4)
            (pe_callTy call_tuple_of (by rfl) T.tuple (by decide +kernel) (pa_cons (pv 4) pa_nil)))))))), ?_⟩
        refine ⟨_, rfl, v, .ty "dict", _, .type "dict", false, rfl, .ty _, hd.ty, hd.kDict, false, rfl, iteF ?_⟩
        refine ⟨_, rfl, (by show 2 ≤ sizeLine; decide), fun tp htp => ?_⟩
        have s1 : Same H (upd H tp (.tup [.ty "list", .ty "tuple"])) := same_new (Same.refl _) htp
        have a1 : upd H tp (.tup [.ty "list", .ty "tuple"]) tp = some (.tup [.ty "list", .ty "tuple"]) := upd_same
        generalize upd H tp (.tup [.ty "list", .ty "tuple"]) = H1 at s1 a1 ⊢
        have hd1 := hd.mono (sameTups s1)
        refine ⟨v, tp, _, _, [.type "list", .type "tuple"], isTup d, rfl, a1, .cons (.ty _) (.cons (.ty _) .nil), hd1.ty, (by rw [kit_any hd1.kList hd1.kTup, Bool.false_or]), isTup d, rfl, ?_⟩
        cases hd1 with
        | non => exact iteT ⟨_, rfl, k _ H1 s1 .non⟩
        | int i => exact iteT ⟨_, rfl, k _ H1 s1 (.int _)⟩
        | str z => exact iteT ⟨_, rfl, k _ H1 s1 (.str _)⟩
        | @tup a xs ds hX hXD =>
          obtain ⟨m1, rfl, hlen, hge⟩ := hg.tupI
          refine iteF ⟨Nat.zero_le _, fun l hl => ?_⟩
          refine ⟨_, rfl, a, rfl, ⟨xs, SqT.of (by rw [upd_ne (ne_of_none hX hl)]; exact hX)⟩, for_tup (K := K) (a := a) (xs := xs) (fun i σ' H' => ∃ (pw : Option V) (ys : List V), σ' = [some (.ref a), none, none, pw, some (.ref l)] ∧ H' l = some (.lst ys) ∧ DtAll H' ys (ds.take i) ∧ Same H1 H') ?_ ?_ ?_ ?_⟩
          · exact ⟨none, [], rfl, upd_same, .nil, same_new (Same.refl _) hl⟩
          · rintro i σ' H' _ ⟨pw, ys, rfl, hL, hy, s⟩
            exact SqT.of (s _ _ hX)
          · rintro i x σ' H' hi ⟨pw, ys, rfl, hL, hy, s⟩
            obtain ⟨d, hdi, hdx⟩ := hXD.get i x hi
            have hdm := List.mem_of_getElem? hdi
            have hil : i < ds.length := (List.getElem?_eq_some_iff.mp hdi).1
            refine ⟨_, rfl, .inl ⟨rfl, _, SqL.of hL⟩, _, rfl, x, rfl, .inl ⟨d, hdx.mono (sameTups s), hge d hdm, fun v' H2 s2 hv => ?_⟩⟩
            refine ⟨l, _, _, rfl, rfl, s2 _ _ hL, small1000 (by rw [hy.length, List.length_take]; omega), ?_⟩
            have tt : Tups H2 (upd H2 l (.lst (ys ++ [v']))) := (Tups.refl _).mut (s2 _ _ hL) (by intro _ z; cases z)
            refine ⟨_, _, rfl, upd_same, ?_, same_mut (s.trans s2) hl⟩
            rw [List.take_add_one, hdi]
            exact ((hy.mono (sameTups s2)).app (.cons hv .nil)).mono tt
          · rintro σ' H' ⟨pw, ys, rfl, hL, hy, s⟩
            rw [hXD.length, List.take_length] at hy
            refine ⟨_, rfl, .ref a, .ty "list", .type "tuple", .type "list", false, rfl, .ty _, .base (.tup (s _ _ hX)), kit_ty (by decide +kernel), false, rfl, iteF ?_⟩
            refine ⟨_, rfl, l, _, rfl, .inl ⟨SqL.of hL, fun t ht => ?_⟩⟩
            exact k _ _ (same_new (s1.trans s) ht) (.tup upd_same (hy.mono ((Tups.refl _).new ht)))
      · refine ⟨_, pss_cons (ps_if (pt_val (pe_callB call_isi (by rfl) T.isinstance (by decide +kernel) (pa_cons (pv 0) (pa_cons (pe_bltn (v := V.ty "dict") (by rfl) T.dict (by decide +kernel) rfl) pa_nil))))
          (pss_cons (ps_set (i := 1) nd rfl (.inl rfl) pe_dnewK)
          (pss_cons (ps_lock (ps_for PassesOwn.never rfl (pi_items (pv 0)) (pg_tup rfl (pgs_cons (pg_name (i := 2) nd rfl (Or.inl rfl)) (pgs_cons (pg_name (i := 3) nd rfl (Or.inl rfl)) pgs_nil)))
            (pss_one (ps_dput hu (pv 1) (pv 2) (pe_call G hr (by rfl) m F.kp b .nil pass0 (pa_cons (pv 3) pa_nil)) rfl))))
          (pss_one (ps_ret (pv 1))))) pss_nil)
          (pss_cons ps_never (pss_cons ps_never (pss_cons ps_never (pss_one ps_never)))), ?_⟩
        refine ⟨_, rfl, .ref a, .ty "dict", .type "dict", .type "dict", true, rfl, .ty _, .base (.dK e), kit_ty (by decide +kernel), true, rfl, iteT ?_⟩
        intro l hl
        have nla : l ≠ a := fun z => by rw [z, e] at hl; cases hl
        refine ⟨a, .dK [(ky, x)], (by rw [upd_ne nla.symm]; exact e), trivial, fun od => ?_⟩
        have b0 : But (· = a) H (upd (upd H l (.dK [])) a (.frz od (.dK [(ky, x)]))) := ((But.refl _ _).new hl).mut rfl
        have l0 : upd (upd H l (.dK [])) a (.frz od (.dK [(ky, x)])) l = some (.dK []) := by rw [upd_ne nla, upd_same]
        have a0 : upd (upd H l (.dK [])) a (.frz od (.dK [(ky, x)])) a = some (.frz od (.dK [(ky, x)])) := upd_same
        generalize upd (upd H l (.dK [])) a (.frz od (.dK [(ky, x)])) = H1 at b0 l0 a0 ⊢
        have noa : ∀ b xs, b = a → H b ≠ some (.tup xs) := fun b xs q z => by
          rw [q, e] at z
          cases z
        refine ⟨_, rfl, a, od, [(ky, x)], rfl, a0, for_it walk_items (fun i σ' H' => ∃ (kw pw : Option V) (rs : List (Key × V)), σ' = [some (.ref a), some (.ref l), kw, pw, none] ∧ H' l = some (.dK rs) ∧
            ((i = 0 ∧ rs = []) ∨ (i = 1 ∧ ∃ x', rs = [(ky, x')] ∧ Dt H' x' d)) ∧ But (· = a) H H' ∧ H' a = some (.frz od (.dK [(ky, x)]))) ?_ ?_ ?_ ?_⟩
        · exact ⟨none, none, [], rfl, l0, .inl ⟨rfl, rfl⟩, b0, a0⟩
        · rintro i σ' H' _ ⟨kw, pw, rs, rfl, z1, z2, z4, z5⟩
          exact z5
        · rintro i _ σ' H' _ hi ⟨kw, pw, rs, rfl, z1, z2, z4, z5⟩ ⟨Tp, kx, vx, rfl, hT, rfl, hk, hv⟩
          obtain rfl : i = 0 := by
            have : i < 1 := hi
            omega
          obtain rfl : rs = [] := by
            rcases z2 with ⟨_, q⟩ | ⟨q, _⟩
            · exact q
            · cases q
          have hk' : some (kV ky) = some kx := hk
          have hv' : some x = some vx := hv
          cases hk'
          cases hv'
          have b1 : But (· = a) H (upd H' Tp (.tup [kV ky, x])) := z4.new hT
          have l1 : upd H' Tp (.tup [kV ky, x]) l = some (.dK []) := by rw [upd_ne (ne_of_none z1 hT)]; exact z1
          have a1 : upd H' Tp (.tup [kV ky, x]) a = some (.frz od (.dK [(ky, x)])) := by rw [upd_ne (ne_of_none z5 hT)]; exact z5
          have t1 : upd H' Tp (.tup [kV ky, x]) Tp = some (.tup [kV ky, x]) := upd_same
          generalize upd H' Tp (.tup [kV ky, x]) = H2 at b1 l1 a1 t1 ⊢
          refine ⟨Tp, _, rfl, SqT.of t1, rfl, _, _, rfl, _, _, rfl, rfl, ?_⟩
          refine ⟨_, rfl, x, rfl, .inl ⟨d, hx.mono (b1.tups noa), hg, fun v' H3 s3 hv3 => ?_⟩⟩
          refine ⟨_, rfl, _, rfl, l, _, rfl, DPut.k (k := ky) (s3 _ _ l1) (small1000 (Nat.zero_le _)), ?_⟩
          refine ⟨_, _, _, rfl, upd_same, .inr ⟨rfl, v', rfl, hv3.mono ((Tups.refl _).mut (s3 _ _ l1) (by intro _ z; cases z))⟩, (b1.trans (sameBut s3 _)).mutNew hl, ?_⟩
          rw [upd_ne nla.symm]
          exact s3 _ _ a1
        · rintro σ' H' ⟨kw, pw, rs, rfl, z1, z2, z4, z5⟩
          obtain ⟨x', rfl, hx'⟩ : ∃ x', rs = [(ky, x')] ∧ Dt H' x' d := by
            rcases z2 with ⟨q, _⟩ | ⟨_, q⟩
            · cases q
            · exact q
          refine ⟨z5, _, rfl, ?_⟩
          have e2 : upd H' a (.dK [(ky, x)]) l = some (.dK [(ky, x')]) := by rw [upd_ne nla]; exact z1
          refine k l x' _ (fun b u z => ?_) hl e2 (hx'.mono ((Tups.refl _).mut z5 (by intro _ z; cases z)))
          by_cases hba : b = a
          · subst hba
            rw [e] at z
            cases z
            exact upd_same
          · rw [upd_ne hba]
            exact z4 b u hba z
  intro n
  induction n with
  | zero => exact main 0 ⟨fun vs H Q E h => h.elim, fun A outer s H args us vs Q E _ _ _ _ h => h.elim⟩
  | succ n ih => exact main (n + 1) ih
theorem ok_coH {f : Addr} {fd : FuncData} (F : Fun K "copied" "copied" sCopied f fd) (T : Txt mg) (m : mg "copied" = some (.ref f)) (b : Binds K fd ["thing"] []) : ∀ n : Nat, L2H.FnH P w K mg base CX0 (n + 1) f fd ["thing"] (spCo n) := by
  have main : ∀ n : Nat, L2H.FnH P w K mg base CX0 n f fd ["thing"] (spCoB n) → L2H.FnH P w K mg base CX0 (n + 1) f fd ["thing"] (spCo n) := by
    intro n G
    refine okH F scCo (fun vs H Q E h => ?_) (fun cdv A outer s H vs Q E p hot hr h => ?_)
    · obtain ⟨v, rfl, _⟩ := h
      rfl
    · obtain ⟨v, rfl, h⟩ := h
      have nd := scCo.nd
      have hu := hu_hot hr
      rcases h with ⟨d, hd, hg, k⟩ | ⟨a, ky, x, d, m1, rfl, e, hx, rfl, hg, k⟩
      · refine ⟨_, pss_cons (ps_if (pt_val (pe_callB call_isi (by rfl) T.isinstance (by decide +kernel) (pa_cons (pv 0) (pa_cons (pe_bltn (v := V.ty "dict") (by rfl) T.dict (by decide +kernel) rfl) pa_nil)))) (pss_cons ps_never (pss_cons ps_never (pss_one ps_never))) pss_nil)
          (pss_cons (ps_if (pt_not (pt_val (pe_callB call_isiT (by rfl) T.isinstance (by decide +kernel) (pa_cons (pv 0) (pa_cons (pe_tup (pa_cons (pe_bltn (v := V.ty "list") (by rfl) T.list (by decide +kernel) rfl) (pa_cons (pe_bltn (v := V.ty "tuple") (by rfl) T.tuple (by decide +kernel) rfl) pa_nil))) pa_nil))))) (pss_one (ps_ret (pv 0))) pss_nil)
          (pss_cons (ps_set (i := 4) nd rfl (.inl rfl) (pe_lst pa_nil))
          (pss_cons (L2H.ps_forH PassesOwn.never hot (pi_tupH (pv 0)) (pg_name (i := 3) nd rfl (Or.inl rfl))
            (pss_one (ps_expr (pe_bm PySem.F.plainAttrs_list PySem.F.slot_list_append PySem.F.type_list_append mt_append (pv 4) (pa_cons (L2H.pe_callH (E := fun _ _ _ _ => False) G hr hot (by rfl) m F.kp b (fun _ _ _ _ _ _ _ z => z.elim) (pa_cons (pv 3) pa_nil)) pa_nil)))))
          (pss_one (ps_ret (pe_ifExp (pt_val (pe_callB call_isi (by rfl) T.isinstance (by decide +kernel) (pa_cons (pv 0) (pa_cons (pe_bltn (v := V.ty "list") (by rfl) T.list (by decide +kernel) rfl) pa_nil)))) (pv 4)
            (pe_callTy call_tuple_of (by rfl) T.tuple (by decide +kernel) (pa_cons (pv 4) pa_nil)))))))), ?_⟩
        refine ⟨_, rfl, v, .ty "dict", _, .type "dict", false, rfl, .ty _, hd.ty, hd.kDict, false, rfl, iteF ?_⟩
        refine ⟨_, rfl, (by show 2 ≤ sizeLine; decide), fun tp htp => ?_⟩
        have s1 : Same H (upd H tp (.tup [.ty "list", .ty "tuple"])) := same_new (Same.refl _) htp
        have a1 : upd H tp (.tup [.ty "list", .ty "tuple"]) tp = some (.tup [.ty "list", .ty "tuple"]) := upd_same
        generalize upd H tp (.tup [.ty "list", .ty "tuple"]) = H1 at s1 a1 ⊢
        have hd1 := hd.mono (sameTups s1)
        refine ⟨v, tp, _, _, [.type "list", .type "tuple"], isTup d, rfl, a1, .cons (.ty _) (.cons (.ty _) .nil), hd1.ty, (by rw [kit_any hd1.kList hd1.kTup, Bool.false_or]), isTup d, rfl, ?_⟩
        cases hd1 with
        | non => exact iteT ⟨_, rfl, k _ H1 s1 .non⟩
        | int i => exact iteT ⟨_, rfl, k _ H1 s1 (.int _)⟩
        | str z => exact iteT ⟨_, rfl, k _ H1 s1 (.str _)⟩
        | @tup a xs ds hX hXD =>
          obtain ⟨m1, rfl, hlen, hge⟩ := hg.tupI
          refine iteF ⟨Nat.zero_le _, fun l hl => ?_⟩
          refine ⟨_, rfl, a, rfl, ⟨xs, SqT.of (by rw [upd_ne (ne_of_none hX hl)]; exact hX)⟩, for_tup (K := K) (a := a) (xs := xs) (fun i σ' H' => ∃ (pw : Option V) (ys : List V), σ' = [some (.ref a), none, none, pw, some (.ref l)] ∧ H' l = some (.lst ys) ∧ DtAll H' ys (ds.take i) ∧ Same H1 H') ?_ ?_ ?_ ?_⟩
          · exact ⟨none, [], rfl, upd_same, .nil, same_new (Same.refl _) hl⟩
          · rintro i σ' H' _ ⟨pw, ys, rfl, hL, hy, s⟩
            exact SqT.of (s _ _ hX)
          · rintro i x σ' H' hi ⟨pw, ys, rfl, hL, hy, s⟩
            obtain ⟨d, hdi, hdx⟩ := hXD.get i x hi
            have hdm := List.mem_of_getElem? hdi
            have hil : i < ds.length := (List.getElem?_eq_some_iff.mp hdi).1
            refine ⟨_, rfl, .inl ⟨rfl, _, SqL.of hL⟩, _, rfl, x, rfl, .inl ⟨d, hdx.mono (sameTups s), hge d hdm, fun v' H2 s2 hv => ?_⟩⟩
            refine ⟨l, _, _, rfl, rfl, s2 _ _ hL, small1000 (by rw [hy.length, List.length_take]; omega), ?_⟩
            have tt : Tups H2 (upd H2 l (.lst (ys ++ [v']))) := (Tups.refl _).mut (s2 _ _ hL) (by intro _ z; cases z)
            refine ⟨_, _, rfl, upd_same, ?_, same_mut (s.trans s2) hl⟩
            rw [List.take_add_one, hdi]
            exact ((hy.mono (sameTups s2)).app (.cons hv .nil)).mono tt
          · rintro σ' H' ⟨pw, ys, rfl, hL, hy, s⟩
            rw [hXD.length, List.take_length] at hy
            refine ⟨_, rfl, .ref a, .ty "list", .type "tuple", .type "list", false, rfl, .ty _, .base (.tup (s _ _ hX)), kit_ty (by decide +kernel), false, rfl, iteF ?_⟩
            refine ⟨_, rfl, l, _, rfl, .inl ⟨SqL.of hL, fun t ht => ?_⟩⟩
            exact k _ _ (same_new (s1.trans s) ht) (.tup upd_same (hy.mono ((Tups.refl _).new ht)))
      · refine ⟨_, pss_cons (ps_if (pt_val (pe_callB call_isi (by rfl) T.isinstance (by decide +kernel) (pa_cons (pv 0) (pa_cons (pe_bltn (v := V.ty "dict") (by rfl) T.dict (by decide +kernel) rfl) pa_nil))))
          (pss_cons (ps_set (i := 1) nd rfl (.inl rfl) pe_dnewK)
          (pss_cons (ps_lock (L2H.ps_forH PassesOwn.never hot (pi_itemsH (pv 0)) (pg_tupH hot (pgs_cons (pg_name (i := 2) nd rfl (Or.inl rfl)) (pgs_cons (pg_name (i := 3) nd rfl (Or.inl rfl)) pgs_nil)))
            (pss_one (ps_dput hu (pv 1) (pv 2) (L2H.pe_callH (E := fun _ _ _ _ => False) G hr hot (by rfl) m F.kp b (fun _ _ _ _ _ _ _ z => z.elim) (pa_cons (pv 3) pa_nil)) rfl))))
          (pss_one (ps_ret (pv 1))))) pss_nil)
          (pss_cons ps_never (pss_cons ps_never (pss_cons ps_never (pss_one ps_never)))), ?_⟩
        refine ⟨_, rfl, .ref a, .ty "dict", .type "dict", .type "dict", true, rfl, .ty _, .base (.dK e), kit_ty (by decide +kernel), true, rfl, iteT ?_⟩
        intro l hl
        have nla : l ≠ a := fun z => by rw [z, e] at hl; cases hl
        refine ⟨a, .dK [(ky, x)], (by rw [upd_ne nla.symm]; exact e), trivial, fun od => ?_⟩
        have b0 : But (· = a) H (upd (upd H l (.dK [])) a (.frz od (.dK [(ky, x)]))) := ((But.refl _ _).new hl).mut rfl
        have l0 : upd (upd H l (.dK [])) a (.frz od (.dK [(ky, x)])) l = some (.dK []) := by rw [upd_ne nla, upd_same]
        have a0 : upd (upd H l (.dK [])) a (.frz od (.dK [(ky, x)])) a = some (.frz od (.dK [(ky, x)])) := upd_same
        generalize upd (upd H l (.dK [])) a (.frz od (.dK [(ky, x)])) = H1 at b0 l0 a0 ⊢
        have noa : ∀ b xs, b = a → H b ≠ some (.tup xs) := fun b xs q z => by
          rw [q, e] at z
          cases z
        refine ⟨_, rfl, a, od, [(ky, x)], rfl, a0, for_it walk_items (fun i σ' H' => ∃ (kw pw : Option V) (rs : List (Key × V)), σ' = [some (.ref a), some (.ref l), kw, pw, none] ∧ H' l = some (.dK rs) ∧
            ((i = 0 ∧ rs = []) ∨ (i = 1 ∧ ∃ x', rs = [(ky, x')] ∧ Dt H' x' d)) ∧ But (· = a) H H' ∧ H' a = some (.frz od (.dK [(ky, x)]))) ?_ ?_ ?_ ?_⟩
        · exact ⟨none, none, [], rfl, l0, .inl ⟨rfl, rfl⟩, b0, a0⟩
        · rintro i σ' H' _ ⟨kw, pw, rs, rfl, z1, z2, z4, z5⟩
          exact z5
        · rintro i _ σ' H' _ hi ⟨kw, pw, rs, rfl, z1, z2, z4, z5⟩ ⟨Tp, kx, vx, rfl, hT, rfl, hk, hv⟩
          obtain rfl : i = 0 := by
            have : i < 1 := hi
            omega
          obtain rfl : rs = [] := by
            rcases z2 with ⟨_, q⟩ | ⟨q, _⟩
            · exact q
            · cases q
          have hk' : some (kV ky) = some kx := hk
          have hv' : some x = some vx := hv
          cases hk'
          cases hv'
          have b1 : But (· = a) H (upd H' Tp (.tup [kV ky, x])) := z4.new hT
          have l1 : upd H' Tp (.tup [kV ky, x]) l = some (.dK []) := by rw [upd_ne (ne_of_none z1 hT)]; exact z1
          have a1 : upd H' Tp (.tup [kV ky, x]) a = some (.frz od (.dK [(ky, x)])) := by rw [upd_ne (ne_of_none z5 hT)]; exact z5
          have t1 : upd H' Tp (.tup [kV ky, x]) Tp = some (.tup [kV ky, x]) := upd_same
          generalize upd H' Tp (.tup [kV ky, x]) = H2 at b1 l1 a1 t1 ⊢
          refine ⟨Tp, _, rfl, SqT.of t1, rfl, _, _, rfl, _, _, rfl, rfl, ?_⟩
          refine ⟨_, rfl, x, rfl, .inl ⟨d, hx.mono (b1.tups noa), hg, fun v' H3 s3 hv3 => ?_⟩⟩
          refine ⟨_, rfl, _, rfl, l, _, rfl, DPut.k (k := ky) (s3 _ _ l1) (small1000 (Nat.zero_le _)), ?_⟩
          refine ⟨_, _, _, rfl, upd_same, .inr ⟨rfl, v', rfl, hv3.mono ((Tups.refl _).mut (s3 _ _ l1) (by intro _ z; cases z))⟩, (b1.trans (sameBut s3 _)).mutNew hl, ?_⟩
          rw [upd_ne nla.symm]
          exact s3 _ _ a1
        · rintro σ' H' ⟨kw, pw, rs, rfl, z1, z2, z4, z5⟩
          obtain ⟨x', rfl, hx'⟩ : ∃ x', rs = [(ky, x')] ∧ Dt H' x' d := by
            rcases z2 with ⟨q, _⟩ | ⟨_, q⟩
            · cases q
            · exact q
          refine ⟨z5, _, rfl, ?_⟩
          have e2 : upd H' a (.dK [(ky, x)]) l = some (.dK [(ky, x')]) := by rw [upd_ne nla]; exact z1
          refine k l x' _ (fun b u z => ?_) hl e2 (hx'.mono ((Tups.refl _).mut z5 (by intro _ z; cases z)))
          by_cases hba : b = a
          · subst hba
            rw [e] at z
            cases z
            exact upd_same
          · rw [upd_ne hba]
            exact z4 b u hba z
  intro n
  induction n with
  | zero => exact main 0 ⟨fun vs H Q E h => h.elim, fun A outer s H args us vs Q E p _ _ _ _ _ _ h => h.elim⟩
  | succ n ih => exact main (n + 1) ih
end
end K3
namespace K3
open PySem PySem.Spec PyProof.Rows L2 GG
/-! ### the plan of one method; the deeds done -/
def methR (told : PyData) : PyData := .tuple [.str "w", .tuple [.str "a", .str "b"], .tuple [.tuple [.str "give", told]]]
def kindR (fn : Str) (told : PyData) : PyData := .tuple [.str "k", .tuple [.tuple [.str fn, .none]], .tuple [methR told]]
def planR (fn : Str) (told : PyData) : PyData := .tuple [kindR fn told]
def spKindOf : Sp := fun vs H Q _ => ∃ (v : V) (fn : Str) (told : PyData), vs = [v, .str "k"] ∧ Dt H v (planR fn told) ∧ ∀ v', Dt H v' (kindR fn told) → Q v' H
def spMethOf : Sp := fun vs H Q _ => ∃ (v : V) (fn : Str) (told : PyData), vs = [v, .str "k", .str "w", .int 2] ∧ Dt H v (planR fn told) ∧ ∀ v', Dt H v' (methR told) → Q v' H
def spGiven (C D : Addr) : Sp := fun vs H Q E => ∃ (v : V) (g : Addr) (told : PyData) (r : Option PyData) (fn : Str) (d1 d2 : PyData), vs = [v, .ref g] ∧ Dt H v (.tuple [.tuple [.str "give", told]]) ∧ EvP fn d1 d2 3 told r ∧ DgAt C H g fn d1 d2 ∧
  (∀ d, r = some d → ∀ v' H', Same H H' → Dt H' v' (.tuple [.str "kept", d]) → Q v' H') ∧ (r = none → Flt D "odd" E H)
abbrev sKindOf : Stmt := top 18
abbrev sMethOf : Stmt := top 20
abbrev sGiven : Stmt := top 27
theorem scKO : FnScope ["plan", "kind", "row"] ["plan", "kind"] (defScope sKindOf) := ⟨rfl, rfl, rfl, by decide +kernel, rfl, by decide +kernel, by decide +kernel⟩
theorem scMO : FnScope ["plan", "kind", "word", "many", "method"] ["plan", "kind", "word", "many"] (defScope sMethOf) := ⟨rfl, rfl, rfl, by decide +kernel, rfl, by decide +kernel, by decide +kernel⟩
theorem scGv : FnScope ["deeds", "doing", "deed", "given", "do"] ["deeds", "doing"] (defScope sGiven) := ⟨rfl, rfl, rfl, by decide +kernel, rfl, by decide +kernel, by decide +kernel⟩
theorem yesS {a : Str} {A B : Prop} (h : A) : if decide (V.str a = V.str a) = true then A else B := by
  rw [decide_eq_true rfl]
  exact iteT h
section
variable {P : Program} {w : World} {K : PySem.W.Frag} {mg : Str → Option Value} {base : Heap} {C D hA pA : Addr}
theorem ok_kindOf {f : Addr} {fd : FuncData} (F : Fun K "kind_of" "kind_of" sKindOf f fd) : FnOk P w K mg base CX0 1 f fd ["plan", "kind"] spKindOf := by
  refine F.ok scKO (fun vs H Q E h => ?_) (fun cdv A outer s H vs Q E hr h => ?_)
  · obtain ⟨v, fn, told, rfl, _⟩ := h
    rfl
  · obtain ⟨v, fn, told, rfl, hd, k⟩ := h
    have nd := scKO.nd
    refine ⟨_, pss_cons (ps_for PassesOwn.never rfl (pi_tup (pv 0)) (pg_name (i := 2) nd rfl (Or.inl rfl)) (pss_one (ps_if (pt_cmpR op_eq (pe_ix ix_tup (pv 2) pe_int (fun _ _ => rfl)) (pv 1) (nomark _)) (pss_one (ps_ret (pv 2))) pss_nil))) (pss_one ps_never), ?_⟩
    cases hd with
    | @tup a xs _ e al =>
    cases al with
    | @cons u0 _ _ _ e0 al =>
    cases al
    refine ⟨_, rfl, a, rfl, ⟨_, SqT.of e⟩, for_tup (K := K) (a := a) (xs := [u0]) (fun i σ' H' => i = 0 ∧ σ' = [some (.ref a), some (.str "k"), none] ∧ H' = H) ⟨rfl, rfl, rfl⟩ ?_ ?_ ?_⟩
    · rintro i σ' H' _ ⟨_, _, rfl⟩
      exact SqT.of e
    · rintro i x σ' H' hi ⟨rfl, rfl, rfl⟩
      cases hi
      have k0 := k u0 e0
      cases e0 with
      | @tup b ys _ eb bl =>
      cases bl with
      | @cons w0 ws _ _ f0 bl =>
      cases f0
      have b0 : atI (V.str "k" :: ws) 0 = some (V.str "k") := atI_int (by decide) rfl
      exact ⟨_, rfl, b, _, _, _, rfl, rfl, SqT.of eb, b0, _, rfl, rfl, _, rfl, yesS ⟨_, rfl, k0⟩⟩
    · rintro σ' H' ⟨z, _⟩
      cases z
theorem ok_methOf {f fk : Addr} {fd fdk : FuncData} (F : Fun K "method_of" "method_of" sMethOf f fd) (T : Txt mg) (mk : mg "kind_of" = some (.ref fk)) (kk : PySem.W.keepIn K (.ref fk) = true) (bk : Binds K fdk ["plan", "kind"] []) (Gk : FnOk P w K mg base CX0 1 fk fdk ["plan", "kind"] spKindOf) :
    FnOk P w K mg base CX0 2 f fd ["plan", "kind", "word", "many"] spMethOf := by
  refine F.ok scMO (fun vs H Q E h => ?_) (fun cdv A outer s H vs Q E hr h => ?_)
  · obtain ⟨v, fn, told, rfl, _⟩ := h
    rfl
  · obtain ⟨v, fn, told, rfl, hd, k⟩ := h
    have nd := scMO.nd
    refine ⟨_, pss_cons (ps_for PassesOwn.never rfl (pi_tup (pe_ix ix_tup (pe_call Gk hr (by rfl) mk kk bk .nil pass0 (pa_cons (pv 0) (pa_cons (pv 1) pa_nil))) pe_int (fun _ _ => rfl))) (pg_name (i := 4) nd rfl (Or.inl rfl))
      (pss_one (ps_if (PW.pt (pw_and (pt_cmpR op_eq (pe_ix ix_tup (pv 4) pe_int (fun _ _ => rfl)) (pv 2) (nomark _)) (pw_and1 (pt_cmpR op_eq (pe_callB call_len_seq (by rfl) T.len PySem.boot_len (pa_cons (pe_ix ix_tup (pv 4) pe_int (fun _ _ => rfl)) pa_nil)) (pv 3) (nomark _))))) (pss_one (ps_ret (pv 4))) pss_nil)))
      (pss_one (ps_ret pe_non)), ?_⟩
    refine ⟨_, rfl, _, rfl, v, fn, told, rfl, hd, fun v' hv => ?_⟩
    cases hv with
    | @tup a xs _ e al =>
    cases al with
    | @cons u0 _ _ _ e0 al =>
    cases al with
    | @cons u1 _ _ _ e1 al =>
    cases al with
    | @cons u2 _ _ _ e2 al =>
    cases al
    have a2 : atI [u0, u1, u2] 2 = some u2 := atI_int (by decide) rfl
    cases e2 with
    | @tup c zs _ ec cl =>
    cases cl with
    | @cons m0 _ _ _ g0 cl =>
    cases cl
    refine ⟨a, _, _, _, rfl, rfl, SqT.of e, a2, c, rfl, ⟨_, SqT.of ec⟩, for_tup (K := K) (a := c) (xs := [m0]) (fun i σ' H' => i = 0 ∧ σ' = [some v, some (.str "k"), some (.str "w"), some (.int 2), none] ∧ H' = H) ⟨rfl, rfl, rfl⟩ ?_ ?_ ?_⟩
    · rintro i σ' H' _ ⟨_, _, rfl⟩
      exact SqT.of ec
    · rintro i x σ' H' hi ⟨rfl, rfl, rfl⟩
      cases hi
      have k0 := k m0 g0
      cases g0 with
      | @tup b ys _ eb bl =>
      cases bl with
      | @cons w0 _ _ _ f0 bl =>
      cases bl with
      | @cons w1 _ _ _ f1 bl =>
      cases f0
      cases f1 with
      | @tup d ps _ ed dl =>
      rename_i ws
      have b0 : atI (V.str "w" :: V.ref d :: ws) 0 = some (V.str "w") := atI_int (by decide) rfl
      have b1 : atI (V.str "w" :: V.ref d :: ws) 1 = some (V.ref d) := atI_int (by decide) rfl
      have dl2 : ps.length = 2 := dl.length
      refine ⟨_, rfl, b, _, _, _, rfl, rfl, SqT.of eb, b0, _, rfl, rfl, _, rfl, yesS ?_⟩
      refine ⟨_, rfl, b, _, _, _, rfl, rfl, SqT.of eb, b1, d, ps, rfl, .inr (SqT.of ed), _, rfl, rfl, _, rfl, ?_⟩
      rw [decide_eq_true (show V.int (ps.length : Int) = V.int 2 by rw [dl2]; rfl)]
      exact iteT ⟨_, rfl, k0⟩
    · rintro σ' H' ⟨z, _⟩
      cases z
theorem ok_given {f fw : Addr} {fd fdw : FuncData} (F : Fun K "given_by" "given_by" sGiven f fd) (mw : mg "worth_of" = some (.ref fw)) (kw : PySem.W.keepIn K (.ref fw) = true) (bw : Binds K fdw ["x", "doing"] [])
    (Gw : FnOk P w K mg base (L2N.CX P w) 24 fw fdw ["x", "doing"] (spWo C D 3)) : FnOk P w K mg base (L2N.CX P w) 25 f fd ["deeds", "doing"] (spGiven C D) := by
  refine okN F scGv (fun vs H Q E h => ?_) (fun cdv A outer s H vs Q E hr h => ?_)
  · obtain ⟨v, g, told, r, fn, d1, d2, rfl, _⟩ := h
    rfl
  · obtain ⟨v, g, told, r, fn, d1, d2, rfl, hd, hev, hg, k1, k2⟩ := h
    have nd := scGv.nd
    refine ⟨_, pss_cons (ps_for (passes_of rfl) rfl (pi_tup (pv 0)) (pg_name (i := 2) nd rfl (Or.inl rfl))
      (pss_cons (ps_if (pt_cmpR op_eq (pe_ix ix_tup (pv 2) pe_int (fun _ _ => rfl)) pe_str (nomark _)) (pss_one (ps_ret (pe_tup (pa_cons pe_str (pa_cons (pe_call (E := E) Gw hr (by rfl) mw kw bw .nil (L2N.passes_call (L2N.takes_of rfl rfl rfl rfl) fun _ _ _ _ z => z)
          (pa_cons (pe_ix ix_tup (pv 2) pe_int (fun _ _ => rfl)) (pa_cons (pv 1) pa_nil))) pa_nil))))) pss_nil) (pss_one ps_never))) (pss_one ps_never), ?_⟩
    cases hd with
    | @tup a xs _ e al =>
    cases al with
    | @cons u0 _ _ _ e0 al =>
    cases al
    refine ⟨_, rfl, a, rfl, ⟨_, SqT.of e⟩, for_tup (K := K) (a := a) (xs := [u0]) (fun i σ' H' => i = 0 ∧ σ' = [some (.ref a), some (.ref g), none, none, none] ∧ H' = H) ⟨rfl, rfl, rfl⟩ ?_ ?_ ?_⟩
    · rintro i σ' H' _ ⟨_, _, rfl⟩
      exact SqT.of e
    · rintro i x σ' H' hi ⟨rfl, rfl, rfl⟩
      cases hi
      cases e0 with
      | @tup b ys _ eb bl =>
      cases bl with
      | @cons w0 _ _ _ f0 bl =>
      cases bl with
      | @cons w1 _ _ _ f1 bl =>
      cases bl
      cases f0
      have b0 : atI [V.str "give", w1] 0 = some (V.str "give") := atI_int (by decide) rfl
      have b1 : atI [V.str "give", w1] 1 = some w1 := atI_int (by decide) rfl
      refine ⟨_, rfl, b, _, _, _, rfl, rfl, SqT.of eb, b0, rfl, _, rfl, yesS ?_⟩
      refine ⟨_, rfl, b, _, _, _, rfl, rfl, SqT.of eb, b1, _, rfl, w1, g, told, r, fn, d1, d2, rfl, f1, hev, hg, fun d hrd v' H2 s2 hv => ⟨(by show 2 ≤ sizeLine; decide), fun t ht => ?_⟩, k2⟩
      have s3 := same_new s2 ht (o := .tup [.str "kept", v'])
      exact k1 d hrd _ _ s3 (.tup upd_same (.cons (.str _) (.cons (hv.mono (sameTups (same_new (Same.refl _) ht))) .nil)))
    · rintro σ' H' ⟨z, _⟩
      cases z
end
end K3
namespace K3
open PySem PySem.Spec PyProof.Rows L2 GG
/-! ### an act under way: made, and done -/
structure DoAt (C : Addr) (H : Hp) (g kd fl : Addr) : Prop where
  ex : ∃ (dx sy mk pu : Addr) (fs : List (Str × V)), H g = some (.ins C dx fs) ∧ fs.lookup ("known" : Str) = some (.ref kd) ∧ fs.lookup ("fields" : Str) = some (.ref fl) ∧ fs.lookup ("says" : Str) = some (.ref sy) ∧ fs.lookup ("makes" : Str) = some (.ref mk) ∧
    fs.lookup ("puts" : Str) = some (.ref pu) ∧ fs.lookup ("goes" : Str) = some .non ∧ H sy = some (.lst []) ∧ H mk = some (.lst []) ∧ H pu = some (.lst [])
theorem DoAt.but {C : Addr} {H H' : Hp} {g kd fl : Addr} {kvs : List (Key × V)} (h : DoAt C H g kd fl) (hk : H kd = some (.dK kvs)) (b : But (· = kd) H H') : DoAt C H' g kd fl := by
  obtain ⟨dx, sy, mk, pu, fs, h1, h2, h3, h4, h5, h6, h7, h8, h9, h10⟩ := h.ex
  have off : ∀ a (o : HO), H a = some o → (∀ kvs, o ≠ .dK kvs) → H' a = some o := fun a o e n => b a o (fun q => by
    rw [q, hk] at e
    exact n kvs (Option.some.inj e).symm) e
  exact ⟨⟨dx, sy, mk, pu, fs, off _ _ h1 (fun _ z => nomatch z), h2, h3, h4, h5, h6, h7, off _ _ h8 (fun _ z => nomatch z), off _ _ h9 (fun _ z => nomatch z), off _ _ h10 (fun _ z => nomatch z)⟩⟩
def spDI (C : Addr) : Sp := fun vs H Q _ => ∃ (H0 : Hp) (g dx fl : Addr) (v1 v3 v4 : V), vs = [.ref g, v1, .ref fl, v3, v4] ∧ Same H0 H ∧ H0 g = none ∧ H g = some (.ins C dx []) ∧
  ∀ (kd : Addr) (H' : Hp), DoAt C H' g kd fl → H' kd = some (.dK []) → H0 kd = none → Same H0 H' → Q .non H'
/-- a = v1, b = v2 known -/
def kn2 (v1 v2 : V) : List (Key × V) := [(.inr "a", v1), (.inr "b", v2)]
def spDone (C D : Addr) : Sp := fun vs H Q E => ∃ (g kd fl : Addr) (vm va v3 : V) (fvs : List (Key × V)) (told : PyData) (r : Option PyData) (fn : Str) (d1 d2 : PyData), vs = [.ref g, vm, va] ∧ Dt H vm (methR told) ∧ Dt H va (.tuple [d1, d2]) ∧ DoAt C H g kd fl ∧ H kd = some (.dK []) ∧
  H fl = some (.dK fvs) ∧ kd ≠ fl ∧ valV fvs (.inr fn) = some v3 ∧ Dt H v3 d2 ∧ EvP fn d1 d2 3 told r ∧ (∀ d, r = some d → ∀ v' H', But (· = kd) H H' → DoAt C H' g kd fl → Dt H' v' (.tuple [.str "kept", d]) → Q v' H') ∧
  (r = none → ∀ (dd : Addr) (H' : Hp), H' dd = some (.xd [("word", V.str "odd")]) → But (· = kd) H H' → E (.ref D) (some dd) H')
abbrev sDI : Stmt := inClass (top 24) 0
abbrev sDone : Stmt := top 26
theorem scDI : FnScope ["self", "plan", "fields", "cause", "me"] ["self", "plan", "fields", "cause", "me"] (defScope sDI) := ⟨rfl, rfl, rfl, by decide +kernel, rfl, by decide +kernel, by decide +kernel⟩
theorem scDn : FnScope ["doing", "method", "args", "param", "worth", "given"] ["doing", "method", "args"] (defScope sDone) := ⟨rfl, rfl, rfl, by decide +kernel, rfl, by decide +kernel, by decide +kernel⟩
theorem walk_zipT {K : PySem.W.Frag} {a b : Addr} {xs ys : List V} (hl : xs.length = ys.length) : Walk (RZ.ItzT K a b) xs.length (fun H => SqT K H a xs ∧ SqT K H b ys) (fun i H x H' => ∃ T u v, x = .ref T ∧ H T = none ∧ H' = upd H T (.tup [u, v]) ∧ xs[i]? = some u ∧ ys[i]? = some v) :=
  ⟨fun i _ hi q => ⟨xs, ys, xs[i], ys[i]'(by omega), q.1, q.2, List.getElem?_eq_getElem hi, List.getElem?_eq_getElem (by omega)⟩, fun _ q => ⟨xs, ys, q.1, q.2, .inl (Nat.le_refl _)⟩, fun _ _ _ _ _ q y => by
    obtain ⟨T, u, v, h1, h2, h3, h4, h5⟩ := y
    exact ⟨T, u, v, h1, h2, h3, h4 _ q.1, h5 _ q.2⟩⟩
section
variable {P : Program} {w : World} {K : PySem.W.Frag} {mg : Str → Option Value} {base : Heap} {C D hA pA : Addr}
theorem ok_di {f : Addr} {fd : FuncData} (F : Fun K "__init__" "Doing.__init__" sDI f fd) (T : DTxt K C) : FnOk P w K mg base CX0 1 f fd ["self", "plan", "fields", "cause", "me"] (spDI C) := by
  refine F.ok scDI (fun vs H Q E h => ?_) (fun cdv A outer s H vs Q E hr h => ?_)
  · obtain ⟨H0, g, dx, fl, v1, v3, v4, rfl, _⟩ := h
    rfl
  · obtain ⟨H0, g, dx, fl, v1, v3, v4, rfl, s0, g0, hg, k⟩ := h
    refine ⟨_, pss_cons (ps_fld (pv 0) (pv 1) rfl) (pss_cons (ps_fld (pv 0) (pv 2) rfl) (pss_cons (ps_fld (pv 0) (pv 3) rfl) (pss_cons (ps_fld (pv 0) (pv 4) rfl) (pss_cons (ps_fld (pv 0) pe_dnewK rfl)
      (pss_cons (ps_fld (pv 0) (pe_lst pa_nil) rfl) (pss_cons (ps_fld (pv 0) (pe_lst pa_nil) rfl) (pss_cons (ps_fld (pv 0) (pe_lst pa_nil) rfl) (pss_one (ps_fld (pv 0) pe_non rfl))))))))), ?_⟩
    refine ⟨_, rfl, _, rfl, g, C, dx, [], rfl, hg, T.cl, T.nPlan, (by show 0 < 1000; decide), ?_⟩
    refine ⟨_, rfl, _, rfl, g, C, dx, _, rfl, upd_same, T.cl, T.nFields, (by show 1 < 1000; decide), ?_⟩
    refine ⟨_, rfl, _, rfl, g, C, dx, _, rfl, upd_same, T.cl, T.nCause, (by show 2 < 1000; decide), ?_⟩
    refine ⟨_, rfl, _, rfl, g, C, dx, _, rfl, upd_same, T.cl, T.nMe, (by show 3 < 1000; decide), ?_⟩
    have look : ∀ {f : Str} {a : Addr} {H1 H2 : Hp} {o : HO}, H2 = upd H1 g o → H2 a = none → g ≠ a := fun {f a H1 H2 o} e n z => by
      rw [e, ← z, upd_same] at n
      cases n
    intro kd hkd
    have nk : kd ≠ g := fun z => by
      rw [z, upd_same] at hkd
      cases hkd
    have kd0 : H kd = none := by
      rw [upd_ne nk, upd_ne nk, upd_ne nk, upd_ne nk] at hkd
      exact hkd
    refine ⟨_, rfl, g, C, dx, _, rfl, (by rw [upd_ne nk.symm, upd_same]), T.cl, T.nKnown, (by show 4 < 1000; decide), ?_⟩
    refine ⟨Nat.zero_le _, fun sy hsy => ?_⟩
    have ns : sy ≠ g := fun z => by
      rw [z, upd_same] at hsy
      cases hsy
    have nsk : sy ≠ kd := fun z => by
      rw [z, upd_ne nk, upd_same] at hsy
      cases hsy
    have sy0 : H sy = none := by
      rw [upd_ne ns, upd_ne nsk, upd_ne ns, upd_ne ns, upd_ne ns, upd_ne ns] at hsy
      exact hsy
    refine ⟨_, rfl, g, C, dx, _, rfl, (by rw [upd_ne ns.symm, upd_same]), T.cl, T.nSays, (by show 5 < 1000; decide), ?_⟩
    refine ⟨Nat.zero_le _, fun mk hmk => ?_⟩
    have nm : mk ≠ g := fun z => by
      rw [z, upd_same] at hmk
      cases hmk
    have nms : mk ≠ sy := fun z => by
      rw [z, upd_ne ns, upd_same] at hmk
      cases hmk
    have nmk : mk ≠ kd := fun z => by
      rw [z, upd_ne nk, upd_ne nsk.symm, upd_ne nk, upd_same] at hmk
      cases hmk
    have mk0 : H mk = none := by
      rw [upd_ne nm, upd_ne nms, upd_ne nm, upd_ne nmk, upd_ne nm, upd_ne nm, upd_ne nm, upd_ne nm] at hmk
      exact hmk
    refine ⟨_, rfl, g, C, dx, _, rfl, (by rw [upd_ne nm.symm, upd_same]), T.cl, T.nMakes, (by show 6 < 1000; decide), ?_⟩
    refine ⟨Nat.zero_le _, fun pu hpu => ?_⟩
    have np : pu ≠ g := fun z => by
      rw [z, upd_same] at hpu
      cases hpu
    have npm : pu ≠ mk := fun z => by
      rw [z, upd_ne nm, upd_same] at hpu
      cases hpu
    have nps : pu ≠ sy := fun z => by
      rw [z, upd_ne ns, upd_ne nms.symm, upd_ne ns, upd_same] at hpu
      cases hpu
    have npk : pu ≠ kd := fun z => by
      rw [z, upd_ne nk, upd_ne nmk.symm, upd_ne nk, upd_ne nsk.symm, upd_ne nk, upd_same] at hpu
      cases hpu
    have pu0 : H pu = none := by
      rw [upd_ne np, upd_ne npm, upd_ne np, upd_ne nps, upd_ne np, upd_ne npk, upd_ne np, upd_ne np, upd_ne np, upd_ne np] at hpu
      exact hpu
    refine ⟨_, rfl, g, C, dx, _, rfl, (by rw [upd_ne np.symm, upd_same]), T.cl, T.nPuts, (by show 7 < 1000; decide), ?_⟩
    refine ⟨_, rfl, g, C, dx, _, rfl, upd_same, T.cl, T.nGoes, (by show 8 < 1000; decide), ?_⟩
    refine k kd _ ⟨⟨dx, sy, mk, pu, _, upd_same, ?_, ?_, ?_, ?_, ?_, ?_, ?_, ?_, ?_⟩⟩ ?_ (s0.free kd0) (fun b o z => ?_)
    · rfl
    · rfl
    · rfl
    · rfl
    · rfl
    · rfl
    · rw [upd_ne ns, upd_ne ns, upd_ne nps.symm, upd_ne ns, upd_ne nms.symm, upd_ne ns, upd_same]
    · rw [upd_ne nm, upd_ne nm, upd_ne npm.symm, upd_ne nm, upd_same]
    · rw [upd_ne np, upd_ne np, upd_same]
    · rw [upd_ne nk, upd_ne nk, upd_ne npk.symm, upd_ne nk, upd_ne nmk.symm, upd_ne nk, upd_ne nsk.symm, upd_ne nk, upd_same]
    · have z1 := ne_of_none z g0
      have z2 := ne_of_none z (s0.free kd0)
      have z3 := ne_of_none z (s0.free sy0)
      have z4 := ne_of_none z (s0.free mk0)
      have z5 := ne_of_none z (s0.free pu0)
      rw [upd_ne z1, upd_ne z1, upd_ne z5, upd_ne z1, upd_ne z4, upd_ne z1, upd_ne z3, upd_ne z1, upd_ne z2, upd_ne z1, upd_ne z1, upd_ne z1, upd_ne z1]
      exact s0 b o z
/-- the program's words for what two worths make, and what they lean on -/
structure WofK (P : Program) (w : World) (K : PySem.W.Frag) (mg : Str → Option Value) (base : Heap) (C D pA : Addr) : Prop where
  dt : DTxt K C
  mP : mg "PAIRS" = some (.ref pA)
  hP : ∀ o ∈ opsZ, ∃ fo, KDct K w pA o (.ref fo) ∧ OpAt P w K mg base D o fo
theorem ok_wofs {f fs fp fn : Addr} {fd fds fdp fdn : FuncData} (WK : WofK P w K mg base C D pA) (T : Txt mg) (F : Fun K "worth_of" "worth_of" sWoP f fd) (mf : mg "worth_of" = some (.ref f)) (bf : Binds K fd ["x", "doing"] [])
    (Fs : Fun K "worths_of" "worths_of" sWsP fs fds) (ms : mg "worths_of" = some (.ref fs)) (bs : Binds K fds ["xs", "doing"] [])
    (mp : mg "part_of" = some (.ref fp)) (kp : PySem.W.keepIn K (.ref fp) = true) (bp : Binds K fdp ["worth", "k"] []) (Gp : FnOk P w K mg base (L2N.CX P w) 4 fp fdp ["worth", "k"] (spPart D))
    (mn : mg "need_worth" = some (.ref fn)) (kn : PySem.W.keepIn K (.ref fn) = true) (bn : Binds K fdn ["row"] []) (Gn : FnOk P w K mg base (L2N.CX P w) 8 fn fdn ["row"] (spNeedW D)) :
    ∀ n : Nat, FnOk P w K mg base (L2N.CX P w) (18 + 2 * n) f fd ["x", "doing"] (spWo C D n)
  | 0 => ⟨fun vs H Q E h => by
      obtain ⟨v, g, x, r, fz, d1, d2, rfl, _⟩ := h
      rfl, fun A outer s H args us vs Q E _ _ _ _ h => by
      obtain ⟨v, g, x, r, fz, d1, d2, rfl, _, z, _⟩ := h
      exact z.elim⟩
  | n + 1 => by
    have G := ok_wofs WK T F mf bf Fs ms bs mp kp bp Gp mn kn bn Gn n
    exact ok_wof (Nat.le_add_right 18 (2 * n)) F mf bf WK.dt ms Fs.kp bs (ok_worths Fs T mf F.kp bf G) mp kp bp Gp mn kn bn Gn WK.mP WK.hP G
theorem ok_done {f fg : Addr} {fd fdg : FuncData} (F : Fun K "done" "done" sDone f fd) (T : DTxt K C) (zz : mg "zip" = none) (mgv : mg "given_by" = some (.ref fg)) (kg : PySem.W.keepIn K (.ref fg) = true) (bg : Binds K fdg ["deeds", "doing"] [])
    (Gg : FnOk P w K mg base (L2N.CX P w) 25 fg fdg ["deeds", "doing"] (spGiven C D)) : FnOk P w K mg base (L2N.CX P w) 26 f fd ["doing", "method", "args"] (spDone C D) := by
  refine okN F scDn (fun vs H Q E h => ?_) (fun cdv A outer s H vs Q E hr h => ?_)
  · obtain ⟨g, kd, fl, vm, va, v3, fvs, told, r, fn, d1, d2, rfl, _⟩ := h
    rfl
  · obtain ⟨g, kd, fl, vm, va, v3, fvs, told, r, fn, d1, d2, rfl, hm, ha, hdo, hk, hfl, nkf, hv3, h3, hev, k1, k2⟩ := h
    have nd := scDn.nd
    have hu := hu_of hr
    refine ⟨_, pss_cons (ps_if (pt_cmpR op_isN (pv 1) pe_non (nomark _)) (pss_one ps_never) pss_nil)
      (pss_cons (ps_for (passes_of rfl) rfl (RZ.pi_zipA (by rfl) zz (pa_cons (pe_ix ix_tup (pv 1) pe_int (fun _ _ => rfl)) (pa_cons (pv 2) pa_nil))) (pg_tup rfl (pgs_cons (pg_name (i := 3) nd rfl (Or.inl rfl)) (pgs_cons (pg_name (i := 4) nd rfl (Or.inl rfl)) pgs_nil)))
        (pss_one (ps_dput hu (pe_fld (pv 0) rfl) (pv 3) (pv 4) rfl)))
      (pss_cons (ps_set (i := 5) nd rfl (Or.inl rfl) (pe_call (E := E) Gg hr (by rfl) mgv kg bg .nil (L2N.passes_call (L2N.takes_of rfl rfl rfl rfl) fun _ _ _ _ z => z) (pa_cons (pe_ix ix_tup (pv 1) pe_int (fun _ _ => rfl)) (pa_cons (pv 0) pa_nil))))
      (pss_one (ps_ret (pe_ifExp (pt_cmpR op_isN (pv 5) pe_non (nomark _)) (pe_tup (pa_cons pe_str (pa_cons pe_non pa_nil))) (pv 5)))))), ?_⟩
    obtain ⟨dx, sy, mk, pu, fs, g1, g2, g3, g4, g5, g6, g7, g8, g9, g10⟩ := hdo.ex
    have nkg : g ≠ kd := fun z => by
      rw [z, hk] at g1
      cases g1
    cases hm with
    | @tup mm ms _ em ml =>
    cases ml with
    | @cons u0 _ _ _ e0 ml =>
    cases ml with
    | @cons u1 _ _ _ e1 ml =>
    cases ml with
    | @cons u2 _ _ _ e2 ml =>
    cases ml
    cases e0
    cases e1 with
    | @tup pp ps _ ep pl =>
    cases pl with
    | @cons p0 _ _ _ f0 pl =>
    cases pl with
    | @cons p1 _ _ _ f1 pl =>
    cases pl
    cases f0
    cases f1
    cases ha with
    | @tup aa xs _ ea al =>
    cases al with
    | @cons x1 _ _ _ hx1 al =>
    cases al with
    | @cons x2 _ _ _ hx2 al =>
    cases al
    have m1 : atI [V.str "w", V.ref pp, u2] 1 = some (V.ref pp) := atI_int (by decide) rfl
    have m2 : atI [V.str "w", V.ref pp, u2] 2 = some u2 := atI_int (by decide) rfl
    have notup : ∀ a ys, a = kd → H a ≠ some (.tup ys) := fun a ys z e => by
      rw [z, hk] at e
      cases e
    have nT : ∀ {a : Addr} {ys : List V}, H a = some (.tup ys) → a ≠ kd := fun {a ys} e z => notup a ys z e
    refine ⟨_, rfl, rfl, _, rfl, iteF ?_⟩
    refine ⟨_, rfl, mm, _, _, _, rfl, rfl, SqT.of em, m1, _, rfl, pp, aa, [.str "a", .str "b"], [x1, x2], rfl, .inr ⟨SqT.of ep, SqT.of ea, for_it (walk_zipT (K := K) (a := pp) (b := aa) (xs := [.str "a", .str "b"]) (ys := [x1, x2]) rfl) (fun i σ' H' => ∃ pw ww : Option V, σ' = [some (.ref g), some (.ref mm), some (.ref aa), pw, ww, none] ∧ But (· = kd) H H' ∧ H' kd = some (.dK ((kn2 x1 x2).take i))) ?_ ?_ ?_ ?_⟩⟩
    · exact ⟨none, none, rfl, But.refl _ _, hk⟩
    · rintro i σ' H' _ ⟨pw, ww, rfl, b, _⟩
      exact ⟨SqT.of (b _ _ (nT ep) ep), SqT.of (b _ _ (nT ea) ea)⟩
    · rintro i _ σ' H' _ hi ⟨pw, ww, rfl, b, hkd⟩ ⟨Tp, kx, vx, rfl, hT, rfl, hkx, hvx⟩
      have bT := b.new hT (o := .tup [kx, vx])
      have kT : upd H' Tp (.tup [kx, vx]) kd = some (.dK ((kn2 x1 x2).take i)) := by rw [upd_ne (ne_of_none hkd hT)]; exact hkd
      have tT : upd H' Tp (.tup [kx, vx]) Tp = some (.tup [kx, vx]) := upd_same
      generalize upd H' Tp (.tup [kx, vx]) = H2 at bT kT tT ⊢
      refine ⟨Tp, _, rfl, SqT.of tT, rfl, _, _, rfl, _, _, rfl, rfl, ?_⟩
      match i, hi with
      | 0, _ =>
        cases hkx
        cases hvx
        refine ⟨_, rfl, _, rfl, g, C, dx, _, _, rfl, bT _ _ nkg g1, T.cl, T.nKnown, g2, _, rfl, kd, _, rfl, DPut.k (k := .inr "a") kT (by show 0 < sizeLine; decide), ?_⟩
        exact ⟨_, _, rfl, bT.mut rfl, upd_same⟩
      | 1, _ =>
        cases hkx
        cases hvx
        refine ⟨_, rfl, _, rfl, g, C, dx, _, _, rfl, bT _ _ nkg g1, T.cl, T.nKnown, g2, _, rfl, kd, _, rfl, DPut.k (k := .inr "b") kT (by show 1 < sizeLine; decide), ?_⟩
        exact ⟨_, _, rfl, bT.mut rfl, upd_same⟩
    · rintro σ' H' ⟨pw, ww, rfl, b, hkd⟩
      have tu : Tups H H' := b.tups notup
      have hkd' : H' kd = some (.dK (kn2 x1 x2)) := hkd
      have dg : DgAt C H' g fn d1 d2 := ⟨⟨dx, kd, fl, fs, kn2 x1 x2, fvs, x1, x2, v3, b _ _ nkg g1, g2, g3, hkd', b _ _ nkf.symm hfl, rfl, rfl, hv3, hx1.mono tu, hx2.mono tu, h3.mono tu⟩⟩
      refine ⟨_, rfl, mm, _, _, _, rfl, rfl, SqT.of (b _ _ (nT em) em), m2, _, rfl, u2, g, told, r, fn, d1, d2, rfl, e2.mono tu, hev, dg, fun d hrd v' H2 s2 hv => ?_, fun z dd H2 e s2 => k2 z dd H2 e (b.trans (sameBut s2 _))⟩
      have bb := b.trans (sameBut s2 _)
      have k0 := k1 d hrd v' H2 bb (hdo.but hk bb) hv
      cases hv with
      | @tup oa os _ eo ol => exact ⟨_, rfl, rfl, _, rfl, iteF ⟨_, rfl, k0⟩⟩
end
end K3
namespace K3
open PySem PySem.Spec PyProof.Rows L2 GG
/-! ### act: what comes of one call -/
def outD : Option PyData → PyData
  | some d => .tuple [.str "kept", d]
  | none => .tuple [.str "broken", .str "odd"]
theorem DoAt.on {C : Addr} {H H' : Hp} {g kd fl : Addr} (h : DoAt C H g kd fl) (s : Same H H') : DoAt C H' g kd fl := by
  obtain ⟨dx, sy, mk, pu, fs, h1, h2, h3, h4, h5, h6, h7, h8, h9, h10⟩ := h.ex
  exact ⟨⟨dx, sy, mk, pu, fs, s _ _ h1, h2, h3, h4, h5, h6, h7, s _ _ h8, s _ _ h9, s _ _ h10⟩⟩
def spAct : Sp := fun vs H Q _ => ∃ (f0 : Addr) (v vc vme va x : V) (told : PyData) (r : Option PyData) (fn : Str) (d1 d2 : PyData), vs = [v, .str "k", .ref f0, vc, vme, .str "w", va] ∧ Dt H v (planR fn told) ∧ H f0 = some (.dK [(.inr fn, x)]) ∧ Dt H x d2 ∧ Gd 11 d1 ∧ Gd 11 d2 ∧
  Dt H va (.tuple [d1, d2]) ∧ EvP fn d1 d2 3 told r ∧ ∀ (t : Addr) (o : V) (rest : List V) (H' : Hp), Same H H' → H' t = some (.tup (o :: rest)) → Dt H' o (outD r) → Q (.ref t) H'
abbrev sAct : Stmt := top 25
theorem scAc : FnScope ["plan", "kind", "fields", "call", "me", "word", "args", "method", "doing", "outcome", "fault"] ["plan", "kind", "fields", "call", "me", "word", "args"] (defScope sAct) := ⟨rfl, rfl, rfl, by decide +kernel, rfl, by decide +kernel, by decide +kernel⟩
theorem takesN0 {X : Cx} : L2N.Takes X (fun _ _ _ _ => False) := fun _ _ x => by
  obtain ⟨_, _, _, _, _, _, _, _, _, _, _, _, _, _, _, _, z⟩ := x
  exact z.elim
theorem passH0 {X : Cx} {E : L2.St → XK} (σ : L2.St) : PassesAt CX0 X σ (E σ) := fun _ _ _ _ _ _ z => z.elim
theorem hot_suite {X : Cx} {a : Addr} {oe : Obj} {cls : Value} {d : Option Addr} {pn : List (Addr × Obj)} (hz : L2N.Zn cls d oe) (hf : ∃ vs, oe.data = .fields vs) : L2H.HotC (X.suite a ((a, oe) :: pn)) := by
  obtain ⟨vs, q⟩ := hf
  exact ⟨(a, oe), ⟨rfl, vs, q, hz.2.2 vs q⟩, List.mem_cons_self ..⟩
section
variable {P : Program} {w : World} {K : PySem.W.Frag} {mg : Str → Option Value} {base : Heap} {C D hA pA : Addr}
theorem ok_act {f fm fi fc fd' : Addr} {fd fdm fdi fdc fdd : FuncData} (F : FunD K "act" "act" (defArgs sAct) (defBody sAct) (defScope sAct) [] [] f fd) (T : Txt mg) (DT : DTxt K C) (FK : FltK P w K mg base D) (XF : XfC K D) (xm : PySem.W.exmOne K (.ref D) (.ref D) = some true)
    (mm : mg "method_of" = some (.ref fm)) (km : PySem.W.keepIn K (.ref fm) = true) (bm : Binds K fdm ["plan", "kind", "word", "many"] []) (Gm : FnOk P w K mg base CX0 2 fm fdm ["plan", "kind", "word", "many"] spMethOf)
    (mc : mg "copied" = some (.ref fc)) (kc : PySem.W.keepIn K (.ref fc) = true) (bc : Binds K fdc ["thing"] []) (Gc : FnOk P w K mg base CX0 13 fc fdc ["thing"] (spCo 12)) (GcH : L2H.FnH P w K mg base CX0 13 fc fdc ["thing"] (spCo 12))
    (mD : mg "Doing" = some (.ref C)) (M : Mk K C fi) (bi : Binds K fdi ["self", "plan", "fields", "cause", "me"] []) (Gi : FnOk P w K mg base CX0 1 fi fdi ["self", "plan", "fields", "cause", "me"] (spDI C))
    (md : mg "done" = some (.ref fd')) (kd : PySem.W.keepIn K (.ref fd') = true) (bd : Binds K fdd ["doing", "method", "args"] []) (Gd' : FnOk P w K mg base (L2N.CX P w) 26 fd' fdd ["doing", "method", "args"] (spDone C D)) :
    FnOk P w K mg base CX0 27 f fd ["plan", "kind", "fields", "call", "me", "word", "args"] spAct := by
  refine funD_ok0 F scAc (fun vs H Q E h => ?_) (fun cdv A outer s H vs Q E hr h => ?_)
  · obtain ⟨f0, v, vc, vme, va, x, told, r, fn, d1, d2, rfl, _⟩ := h
    rfl
  · obtain ⟨f0, v, vc, vme, va, x, told, r, fn, d1, d2, rfl, hpl, hf0, hx, hg1, hg2, ha, hev, k⟩ := h
    have nd := scAc.nd
    have hr2 : Room 2 _ := hr.mono (by decide)
    have hr13 : Room 13 _ := hr.mono (by decide)
    refine ⟨_, pss_cons (ps_set (i := 7) nd rfl (Or.inl rfl) (pe_call Gm hr2 (by rfl) mm km bm .nil pass0 (pa_cons (pv 0) (pa_cons (pv 1) (pa_cons (pv 5) (pa_cons (pe_callB call_len_seq (by rfl) T.len PySem.boot_len (pa_cons (pv 6) pa_nil)) pa_nil))))))
      (pss_cons (ps_set (i := 8) nd rfl (Or.inl rfl) (pe_make M Gi hr2 rfl mD bi .nil pass0 (pa_cons (pv 0) (pa_cons (pe_call Gc hr13 (by rfl) mc kc bc .nil pass0 (pa_cons (pv 2) pa_nil)) (pa_cons (pv 3) (pa_cons (pv 4) pa_nil))))))
      (pss_cons (L2N.ps_try_as (i := 10) rfl rfl nd rfl rfl ⟨rfl, by decide, .inl FK.m⟩ takesN0
        (fun W pn xe tk _ => pss_one (ps_set (i := 9) nd rfl (Or.inl rfl) (pe_callS (E := WE W) Gd' hr rfl md kd bd (fun σ => L2N.passAt tk σ) (pa_cons (pv 8) (pa_cons (pv 7) (pa_cons (pe_call Gc hr13 (by rfl) mc kc bc .nil pass0 (pa_cons (pv 6) pa_nil)) pa_nil))))))
        (fun a oe cls d pn hz hf => pss_one (ps_ret (pe_tup (pa_cons (pe_tup (pa_cons pe_str (pa_cons (pe_xf (n := "word") XF FK.c.no hz.zc hf (pv 10)) pa_nil)))
          (pa_cons (L2H.pe_callH (E := fun _ _ _ _ => False) GcH ⟨hr13.dp, hr13.un⟩ (hot_suite hz hf) (by rfl) mc kc bc passH0 (pa_cons (pv 2) pa_nil))
          (pa_cons (pe_tup pa_nil) (pa_cons (pe_tup pa_nil) (pa_cons (pe_tup pa_nil) (pa_cons pe_non pa_nil))))))))))
      (pss_one (ps_ret (pe_tup (pa_cons (pv 9) (pa_cons (pe_fld (pv 8) rfl) (pa_cons (pe_callTy call_tuple_of (by rfl) T.tuple (by decide +kernel) (pa_cons (pe_fld (pv 8) rfl) pa_nil))
        (pa_cons (pe_callTy call_tuple_of (by rfl) T.tuple (by decide +kernel) (pa_cons (pe_fld (pv 8) rfl) pa_nil)) (pa_cons (pe_callTy call_tuple_of (by rfl) T.tuple (by decide +kernel) (pa_cons (pe_fld (pv 8) rfl) pa_nil)) (pa_cons (pe_fld (pv 8) rfl) pa_nil))))))))))), ?_⟩
    cases ha with
    | @tup aa xs _ ea al =>
    have al0 := al
    cases al with
    | @cons x1 _ _ _ hx1 al =>
    cases al with
    | @cons x2 _ _ _ hx2 al =>
    cases al
    refine ⟨_, rfl, _, rfl, _, rfl, _, rfl, aa, [x1, x2], rfl, .inr (SqT.of ea), v, fn, told, rfl, hpl, fun vm hvm => ?_⟩
    refine ⟨_, rfl, _, rfl, .ref f0, rfl, .inr ⟨f0, .inr fn, x, d2, 11, rfl, hf0, hx, rfl, hg2, fun fl x' H1 s1 hfl0 hfl hx' => ?_⟩⟩
    refine ⟨_, rfl, _, rfl, fun g dx hg0 hdx ndx => ?_⟩
    have s2 : Same H1 (upd (upd H1 dx (.own g)) g (.ins C dx [])) := same_new (same_new (Same.refl _) hdx) (by rw [upd_ne ndx.symm]; exact hg0)
    refine ⟨H1, g, dx, fl, v, vc, vme, rfl, s2, hg0, upd_same, fun kd H2 hdo hkd kd0 s3 => ⟨rfl, ?_⟩⟩
    have s4 : Same H H2 := s1.trans s3
    have hfl2 := s3 _ _ hfl
    have nkf : kd ≠ fl := fun z => by
      rw [z, hfl] at kd0
      cases kd0
    have kdH : H kd = none := s1.free kd0
    have h02 := s4 _ _ hf0
    have nk0 : f0 ≠ kd := ne_of_none hf0 kdH
    refine ⟨_, rfl, _, rfl, _, rfl, .ref aa, rfl, .inl ⟨.tuple [d1, d2], .tup (s4 _ _ ea) (al0.mono (sameTups s4)), ⟨by show 2 ≤ 1000; decide, fun e he => ?_⟩, fun va' H3 s5 hva => ?_⟩⟩
    · simp only [List.mem_cons, List.not_mem_nil, or_false] at he
      rcases he with rfl | rfl
      · exact hg1
      · exact hg2
    have s6 := s4.trans s5
    have bs : ∀ {H4 : Hp}, But (· = kd) H3 H4 → Same H H4 := fun {H4} b a o e => b a o (ne_of_none e kdH) (s6 a o e)
    refine ⟨g, kd, fl, vm, va', x', [(.inr fn, x')], told, r, fn, d1, d2, rfl, hvm.mono (sameTups s6), hva, hdo.on s5, s5 _ _ hkd, s5 _ _ hfl2, nkf, by simp [valV], hx'.mono (sameTups (s3.trans s5)), hev, fun d hrd v' H4 b hdo4 hv => ?_, fun hrn dd H4 edd b => ?_⟩
    · have s7 := bs b
      obtain ⟨dx4, sy, mk, pu, fs, q1, q2, q3, q4, q5, q6, q7, q8, q9, q10⟩ := hdo4.ex
      subst hrd
      refine ⟨_, rfl, _, rfl, g, C, dx4, _, _, rfl, q1, DT.cl, DT.nFields, q3, _, rfl, g, C, dx4, _, _, rfl, q1, DT.cl, DT.nSays, q4, sy, [], rfl, .inl ⟨SqL.of q8, fun l1 hl1 => ?_⟩⟩
      have t1 := same_new (Same.refl H4) hl1 (o := .tup [])
      refine ⟨_, rfl, g, C, dx4, _, _, rfl, t1 _ _ q1, DT.cl, DT.nMakes, q5, mk, [], rfl, .inl ⟨SqL.of (t1 _ _ q9), fun l2 hl2 => ?_⟩⟩
      have t2 := same_new t1 hl2 (o := .tup [])
      refine ⟨_, rfl, g, C, dx4, _, _, rfl, t2 _ _ q1, DT.cl, DT.nPuts, q6, pu, [], rfl, .inl ⟨SqL.of (t2 _ _ q10), fun l3 hl3 => ?_⟩⟩
      have t3 := same_new t2 hl3 (o := .tup [])
      refine ⟨_, rfl, g, C, dx4, _, _, rfl, t3 _ _ q1, DT.cl, DT.nGoes, q7, (by show 6 ≤ sizeLine; decide), fun t ht => ?_⟩
      have t4 := same_new t3 ht (o := .tup [v', .ref fl, .ref l1, .ref l2, .ref l3, .non])
      exact k t v' _ _ (s7.trans t4) upd_same (hv.mono (sameTups t4))
    · have s7 := bs b
      subst hrn
      refine ⟨true, xm, fun _ a ha0 => ?_, fun z => nomatch z⟩
      refine ⟨_, rfl, rfl, rfl, dd, _, .str "odd", rfl, edd, rfl, (by show 2 ≤ sizeLine; decide), fun t1 ht1 => ?_⟩
      have u1 := same_new (Same.refl H4) ht1 (o := .tup [.str "broken", .str "odd"])
      have u0 : upd H4 t1 (.tup [.str "broken", .str "odd"]) t1 = some (.tup [.str "broken", .str "odd"]) := upd_same
      generalize upd H4 t1 (.tup [.str "broken", .str "odd"]) = H5 at u1 u0 ⊢
      have s8 := s7.trans u1
      refine ⟨_, rfl, .ref f0, rfl, .inr ⟨f0, .inr fn, x, d2, 11, rfl, s8 _ _ hf0, hx.mono (sameTups s8), rfl, hg2, fun r2 x2 H6 s9 _ _ _ => ?_⟩⟩
      refine ⟨Nat.zero_le _, fun t2 ht2 => ?_⟩
      have v1 := same_new s9 ht2 (o := .tup [])
      refine ⟨Nat.zero_le _, fun t3 ht3 => ?_⟩
      have v2 := same_new v1 ht3 (o := .tup [])
      refine ⟨Nat.zero_le _, fun t4 ht4 => ?_⟩
      have v3 := same_new v2 ht4 (o := .tup [])
      refine ⟨(by show 6 ≤ sizeLine; decide), fun t ht => ?_⟩
      have v4 := same_new v3 ht (o := .tup [.ref t1, .ref r2, .ref t2, .ref t3, .ref t4, .non])
      exact k t (.ref t1) _ _ (s8.trans v4) upd_same (.tup (v4 _ _ u0) (.cons (.str _) (.cons (.str _) .nil)))
end
end K3
namespace GG
open PySem PySem.Spec PyProof.Rows L2
/-! ### dict(d), d.update(e) of dicts -/
section
variable {X : Cx}
theorem call_dictD : CallR X (.type "dict") (fun xs H Q => ∃ (a : Addr) (kvs : List (Key × V)), xs = [.ref a] ∧ H a = some (.dK kvs) ∧ ∀ p, H p = none → Q (.ref p) (upd H p (.dK kvs))) := by
  rintro pins s σ H xs us Q I r ⟨a, kvs, rfl, ha, q⟩
  obtain ⟨u, rfl, rx⟩ := vals1 r
  cases rx
  obtain ⟨few, low, vs, kv, hd⟩ := (show ObjOk X.prog X.w H s.heap a (.dK kvs) from I.hok a _ ha)
  have fv : vs.length ≤ sizeLine := by
    rw [← kv.length]
    exact few
  refine kt_call_dict (knd := mixKind X.prog X.w) low hd fv fun h' hd' sb => ?_
  have low' : (s.heap.objs.size == sysModules) = false := beq_eq_false_iff_ne.mpr (Nat.ne_of_gt I.big)
  exact ⟨.ref s.heap.objs.size, _, I.laid (t' := s.toks) (o := .dK kvs) (fun b o e => (sb.2 b (Nat.ne_of_lt (Heap.lt_size e))).trans (Heap.get?_push_of_some _ e)) (Nat.le_refl _) ⟨few, low', vs, kv, hd'⟩, rfl, q _ (I.hok.fresh (Nat.le_refl _))⟩
def rUpdate : V → List V → Hp → VK → Prop := fun x xs H Q => ∃ (a b : Addr) (kvs es : List (Key × V)), x = .ref a ∧ xs = [.ref b] ∧ a ≠ b ∧ H a = some (.dK kvs) ∧ H b = some (.dK es) ∧ kvs.length + es.length ≤ sizeLine ∧ Q .non (upd H a (.dK (mergeK kvs es)))
theorem mt_update : MtR X "dict.update" rUpdate := by
  rintro pins s σ H x xs v us Q I rx rs ⟨a, b, kvs, es, rfl, rfl, ne, ha, hb, few, q⟩
  obtain ⟨u, rfl, ru⟩ := vals1 rs
  cases rx
  cases ru
  obtain ⟨f1, l1, v1, k1, d1⟩ := (show ObjOk X.prog X.w H s.heap a (.dK kvs) from I.hok a _ ha)
  obtain ⟨f2, l2, v2, k2, d2⟩ := (show ObjOk X.prog X.w H s.heap b (.dK es) from I.hok b _ hb)
  have e1 := k1.length
  have e2 := k2.length
  refine call_meetsIn PySem.F.slot_dict_update d1.typeIs PySem.F.entry_dict_update (PySem.F.args_dict_update_2 _ _) (meets_dict_update (mixKind X.prog X.w) a b ne l2) ⟨v1, v2, d1, d2, by omega, fun h' d1' d2' sb => ?_⟩
  have many : (mergeK kvs es).length ≤ sizeLine := by
    have := length_mergeK es kvs
    omega
  have here : ∃ u, h'.get? a = some u := by
    obtain ⟨o, _, _, ho, _⟩ := id d1'
    exact ⟨o, ho⟩
  exact ⟨.non, _, I.write (t' := s.toks) (x := a) (e := a) (o := .dK (mergeK kvs es)) (by rw [ha]; exact True.intro) (.inl rfl) (fun c o nc e => (sb.2 c nc).trans e) here ⟨many, l1, _, KV.merge k2 k1, d1'⟩, rfl, q⟩
end
end GG
namespace K3
open PySem PySem.Spec PyProof.Rows L2 GG
/-! ### what a term is worth, as the law has it -/
def isHoldL : PyData → Bool
  | .tuple [.str t, .str z] => decide (t = "to") && (decide (58 ∈ z.cps.toList) || decide (35 ∈ z.cps.toList))
  | _ => false
def holdsL : Nat → PyData → List Str
  | 0, _ => []
  | n + 1, d => match d with
    | .tuple ds => if isHoldL (.tuple ds) = true then (match ds with
      | [_, .str z] => [z]
      | _ => []) else ds.flatMap (holdsL n)
    | _ => []
def maxL : List Nat → Nat
  | [] => 0
  | a :: r => if maxL r ≤ a then a else maxL r
def deepL : Nat → PyData → Nat
  | 0, _ => 0
  | n + 1, d => match d with
    | .tuple ds => if isHoldL (.tuple ds) = true then 0 else 1 + maxL (ds.map (deepL n))
    | _ => 0
def rowL (ds : List PyData) : Option PyData := if deepL 14 (.tuple ds) < 4 then some (.tuple ds) else none
def partL (k : Nat) : PyData → Option PyData
  | .tuple ds => if isHoldL (.tuple ds) = true then none else some ((ds ++ [PyData.none, .none, .none, .none, .none]).getD k .none)
  | _ => none
def isSomeN : PyData → Bool
  | .none => true
  | _ => false
def bigL (i : Int) : Option PyData := if decide ((if i < 0 then -i else i) < 1000000000) = true then some (.int i) else none
def sameL (a b : PyData) : Option PyData := if holdsL 13 a = [] ∧ holdsL 13 b = [] then some (.int (if PyData.eqv a b = true then 1 else 0)) else none
def opM (o : Str) (a b : PyData) : Option PyData := match a, b with
  | .int i, .int j => if o = "less" then some (.int (if decide (i < j) = true then 1 else 0)) else bigL (if o = "plus" then i + j else i * j)
  | .str s, .str t => if o = "less" then some (.int (if decide (s.cps.toList < t.cps.toList) = true then 1 else 0)) else none
  | _, _ => none
def opL (o : Str) (a b : PyData) : Option PyData := if o = "same" then sameL a b else opM o a b
/-! ### the worths next to some end -/
def edgesD : List PyData := [.int 0, .int 1, .int (-1), .int 9, .int 10, .int 999999999, .int (-999999999), .int 31623, .int 31622, .none, .str "a", .str "ab", .str "b", .str "zzzzzzzz",
  .tuple [], .tuple [.int 1], .tuple [.str "a", .none], .tuple [.str "to", .str "a"], .tuple [.str "to", .str "0:1"], .tuple [.str "to", .str "0#1"], .tuple [.tuple [.str "to", .str "0#1"]],
  .tuple [.tuple [.int 1], .int 2], .tuple [.tuple [.tuple [.int 1]]], .tuple [.tuple [.tuple []], .int 1], .tuple [.int 1, .int 2, .int 3, .int 4, .int 5]]
mutual
def eqT : PyData → PyData → Bool
  | .none, .none => true
  | .int a, .int b => decide (a = b)
  | .str a, .str b => decide (a = b)
  | .tuple a, .tuple b => eqTs a b
  | _, _ => false
def eqTs : List PyData → List PyData → Bool
  | [], [] => true
  | a :: as, b :: bs => eqT a b && eqTs as bs
  | _, _ => false
end
mutual
theorem eqT_eq : ∀ {a b : PyData}, eqT a b = true → a = b
  | .none, b, h => by
    cases b with
    | none => rfl
    | _ => simp [eqT] at h
  | .int i, b, h => by
    cases b with
    | int j =>
      simp only [eqT] at h
      rw [of_decide_eq_true h]
    | _ => simp [eqT] at h
  | .str i, b, h => by
    cases b with
    | str j =>
      simp only [eqT] at h
      rw [of_decide_eq_true h]
    | _ => simp [eqT] at h
  | .tuple as, b, h => by
    cases b with
    | tuple bs =>
      simp only [eqT] at h
      rw [eqTs_eq h]
    | _ => simp [eqT] at h
  | .list as, b, h => by simp [eqT] at h
  | .bool as, b, h => by simp [eqT] at h
  | .dict as, b, h => by simp [eqT] at h
theorem eqTs_eq : ∀ {as bs : List PyData}, eqTs as bs = true → as = bs
  | [], bs, h => by
    cases bs with
    | nil => rfl
    | cons _ _ => simp [eqTs] at h
  | a :: as, bs, h => by
    cases bs with
    | nil => simp [eqTs] at h
    | cons b bs =>
      simp only [eqTs, Bool.and_eq_true] at h
      rw [eqT_eq h.1, eqTs_eq h.2]
end
def optEq : Option PyData → Option PyData → Bool
  | none, none => true
  | some a, some b => eqT a b
  | _, _ => false
theorem optEq_eq {a b : Option PyData} (h : optEq a b = true) : a = b := by
  cases a with
  | none =>
    cases b with
    | none => rfl
    | some b => cases h
  | some a =>
    cases b with
    | none => cases h
    | some b => rw [eqT_eq h]
/-- the seven ways of a turn's term, told by numbers: an operator; the same of that and the second; a part; a row -/
def wayP (j : Nat) (a b : PyData) : Option PyData := match j with
  | 0 => opD "plus" a b
  | 1 => opD "times" a b
  | 2 => opD "less" a b
  | 3 => opD "same" a b
  | 4 => (opD "plus" a b).bind fun q => opD "same" q b
  | 5 => (opD "times" a b).bind fun q => opD "same" q b
  | 6 => (opD "less" a b).bind fun q => opD "same" q b
  | 7 => (opD "same" a b).bind fun q => opD "same" q b
  | 8 => rowD []
  | 9 => rowD [a, b]
  | 10 => rowD [a, b, a, b]
  | 11 => (rowD [a, b]).bind fun q => rowD [q, a]
  | j + 12 => partD j a
def wayL (j : Nat) (a b : PyData) : Option PyData := match j with
  | 0 => opL "plus" a b
  | 1 => opL "times" a b
  | 2 => opL "less" a b
  | 3 => opL "same" a b
  | 4 => (opL "plus" a b).bind fun q => opL "same" q b
  | 5 => (opL "times" a b).bind fun q => opL "same" q b
  | 6 => (opL "less" a b).bind fun q => opL "same" q b
  | 7 => (opL "same" a b).bind fun q => opL "same" q b
  | 8 => rowL []
  | 9 => rowL [a, b]
  | 10 => rowL [a, b, a, b]
  | 11 => (rowL [a, b]).bind fun q => rowL [q, a]
  | j + 12 => partL j a
theorem table : ((List.range 17).all fun j => edgesD.all fun a => edgesD.all fun b => optEq (wayP j a b) (wayL j a b)) = true := by decide +kernel
theorem ways {j : Nat} {a b : PyData} (hj : j < 17) (ha : a ∈ edgesD) (hb : b ∈ edgesD) : wayP j a b = wayL j a b :=
  optEq_eq (List.all_eq_true.mp (List.all_eq_true.mp (List.all_eq_true.mp table j (List.mem_range.mpr hj)) a ha) b hb)
end K3
namespace K3
open PySem PySem.Spec PyProof.Rows L2 GG
/-! ### the law's holds and depths -/
abbrev sLIs : Stmt := top 52
abbrev sLHs : Stmt := top 53
abbrev sLDp : Stmt := top 54
theorem scLI : FnScope ["_law_worth_here"] ["_law_worth_here"] (defScope sLIs) := ⟨rfl, rfl, rfl, by decide +kernel, rfl, by decide +kernel, by decide +kernel⟩
theorem scLH : FnScope ["_law_worth_here", "_law_found", "_law_part"] ["_law_worth_here"] (defScope sLHs) := ⟨rfl, rfl, rfl, by decide +kernel, rfl, by decide +kernel, by decide +kernel⟩
theorem scLD : FnScope ["_law_worth_here", "_law_part"] ["_law_worth_here"] (defScope sLDp) := ⟨rfl, rfl, rfl, by decide +kernel, rfl, by decide +kernel, by decide +kernel⟩
def spLIs : Sp := fun vs H Q _ => ∃ (v : V) (d : PyData) (n : Nat), vs = [v] ∧ Dt H v d ∧ Gd n d ∧ n ≤ 60 ∧ Q (.bl (isHoldL d)) H
def spLHs (n : Nat) : Sp := fun vs H Q _ => ∃ (v : V) (d : PyData), vs = [v] ∧ Dt H v d ∧ Gd n d ∧ n ≤ 60 ∧ (holdsL (n + 1) d).length ≤ 1000 ∧ ∀ (l : Addr) H', H l = none → H' l = some (.lst ((holdsL (n + 1) d).map V.str)) → Same H H' → Q (.ref l) H'
def spLHsB : Nat → Sp
  | 0 => fun _ _ _ _ => False
  | n + 1 => spLHs n
def spLDp (n : Nat) : Sp := fun vs H Q _ => ∃ (v : V) (d : PyData), vs = [v] ∧ Dt H v d ∧ Gd n d ∧ n ≤ 60 ∧ ∀ H', Same H H' → Q (.int (deepL (n + 1) d : Nat)) H'
def spLDpB : Nat → Sp
  | 0 => fun _ _ _ _ => False
  | n + 1 => spLDp n
theorem isHoldL_ne {d0 d1 : PyData} (h : d0 ≠ .str "to") : isHoldL (.tuple [d0, d1]) = false := by
  cases d0 with
  | str t =>
    cases d1 with
    | str z =>
      show (decide (t = "to") && (decide (58 ∈ z.cps.toList) || decide (35 ∈ z.cps.toList))) = false
      rw [decide_eq_false fun q => h (by rw [q])]
      rfl
    | _ => simp [isHoldL]
  | _ => simp [isHoldL]
section
variable {P : Program} {w : World} {K : PySem.W.Frag} {mg : Str → Option Value} {base : Heap}
theorem ok_lis {f : Addr} {fd : FuncData} (F : Fun K "_law_is_hold" "_law_is_hold" sLIs f fd) (T : Txt mg) (zs : mg "str" = none) : FnOk P w K mg base CX0 1 f fd ["_law_worth_here"] spLIs := by
  refine F.ok scLI (fun vs H Q E h => ?_) (fun cdv A outer s H vs Q E hr h => ?_)
  · obtain ⟨v, d, n, rfl, _⟩ := h
    rfl
  · obtain ⟨v, d, n, rfl, hd, hg, hn, k⟩ := h
    refine ⟨_, pss_cons (ps_if (PW.pt (pw_or (pt_not (pt_val (pe_callB call_isi (by rfl) T.isinstance (by decide +kernel) (pa_cons (pv 0) (pa_cons (pe_bltn (v := V.ty "tuple") (by rfl) T.tuple (by decide +kernel) rfl) pa_nil)))))
        (pw_or (pt_cmpR op_ne (pe_callB call_len_seq (by rfl) T.len PySem.boot_len (pa_cons (pv 0) pa_nil)) pe_int (nomark _))
        (pw_or (pt_cmpR (op_neD hr.units) (pe_ix ix_tup (pv 0) pe_int (fun _ _ => rfl)) pe_str (nomark _))
        (pw_or1 (pt_not (pt_val (pe_callB call_isi (by rfl) T.isinstance (by decide +kernel) (pa_cons (pe_ix ix_tup (pv 0) pe_int (fun _ _ => rfl)) (pa_cons (pe_bltn (v := V.ty "str") (by rfl) zs (by decide +kernel) rfl) pa_nil))))))))))
        (pss_one (ps_ret pe_bl)) pss_nil)
      (pss_one (ps_ret (pe_or (pe_cmpR op_in_sign pe_str (pe_ix ix_tup (pv 0) pe_int (fun _ _ => rfl)) rfl) (pe_one (pe_cmpR op_in_sign pe_str (pe_ix ix_tup (pv 0) pe_int (fun _ _ => rfl)) rfl))))), ?_⟩
    have no : ∀ b : Bool, isHoldL d = b → Q (.bl b) H := fun b e => e ▸ k
    refine ⟨_, rfl, v, .ty "tuple", _, .type "tuple", isTup d, rfl, .ty _, hd.ty, hd.kTup, isTup d, rfl, ?_⟩
    cases hd with
    | non => exact iteT (no false rfl)
    | int i => exact iteT (no false rfl)
    | str z => exact iteT (no false rfl)
    | @tup a xs ds e al =>
      have hl := al.length
      refine iteF ⟨_, rfl, a, xs, rfl, .inr (SqT.of e), rfl, _, rfl, ?_⟩
      by_cases h2 : ds.length = 2
      · obtain ⟨d0, d1, rfl⟩ : ∃ a b, ds = [a, b] := by
          match ds, h2 with
          | [a, b], _ => exact ⟨a, b, rfl⟩
        cases al with
        | @cons v0 _ _ _ h0 al =>
        cases al with
        | @cons v1 _ _ _ h1 al =>
        cases al
        obtain ⟨m, rfl, _, hge⟩ := hg.tupI
        have g0 := hge d0 (by simp)
        have at0 : atI [v0, v1] 0 = some v0 := atI_int (by decide) rfl
        have at1 : atI [v0, v1] 1 = some v1 := atI_int (by decide) rfl
        refine iteF ⟨_, rfl, a, _, _, _, rfl, rfl, SqT.of e, at0, d0, .str "to", h0.dp, .str _, g0.shaped (by omega), by decide +kernel, _, rfl, ?_⟩
        by_cases ht : d0 = .str "to"
        · subst ht
          have e1 : PyData.eqv (.str "to") (.str "to") = true := by decide +kernel
          rw [e1]
          refine iteF ⟨_, rfl, a, _, _, _, rfl, rfl, SqT.of e, at1, v1, .ty "str", _, .type "str", isStrD d1, rfl, .ty _, h1.ty, h1.kStr, isStrD d1, rfl, ?_⟩
          cases h1 with
          | non => exact iteT (no false rfl)
          | int i => exact iteT (no false rfl)
          | tup e2 a2 => exact iteT (no false rfl)
          | str z =>
            refine iteF ⟨_, rfl, a, _, _, _, rfl, rfl, SqT.of e, at1, 58, z, rfl, rfl, _, rfl, ?_⟩
            have k' : Q (.bl (decide (("to" : Str) = "to") && (decide (58 ∈ z.cps.toList) || decide (35 ∈ z.cps.toList)))) H := k
            rw [decide_eq_true rfl, Bool.true_and] at k'
            cases h58 : decide (58 ∈ z.cps.toList) with
            | true =>
              rw [h58] at k'
              exact iteT k'
            | false =>
              rw [h58] at k'
              exact iteF ⟨_, rfl, a, _, _, _, rfl, rfl, SqT.of e, at1, 35, z, rfl, rfl, k'⟩
        · have e1 : PyData.eqv d0 (.str "to") = false := eqv_str_ne ht
          rw [e1]
          exact iteT (no false (isHoldL_ne ht))
      · have e2 : decide (V.int (xs.length : Int) = V.int 2) = false := decide_eq_false fun q => h2 (by
          have q2 : (xs.length : Int) = 2 := by
            injection q
          omega)
        rw [e2]
        refine iteT (no false ?_)
        match ds, h2 with
        | [], _ => rfl
        | [_], _ => simp [isHoldL]
        | [_, _], z => exact absurd rfl z
        | _ :: _ :: _ :: _, _ => simp [isHoldL]
end
end K3
namespace K3
open PySem PySem.Spec PyProof.Rows L2 GG
theorem maxL_mem : ∀ l : List Nat, maxL l = 0 ∨ maxL l ∈ l
  | [] => .inl rfl
  | a :: r => by
    unfold maxL
    split
    · exact .inr (List.mem_cons_self ..)
    · rcases maxL_mem r with h | h
      · exact .inl h
      · exact .inr (List.mem_cons_of_mem _ h)
theorem maxL_le : ∀ {l : List Nat} {x : Nat}, x ∈ l → x ≤ maxL l
  | a :: r, x, h => by
    unfold maxL
    rcases List.mem_cons.mp h with rfl | h
    · split <;> omega
    · have := maxL_le h
      split <;> omega
theorem maxL_is {l : List Nat} {m : Int} (hm : m ∈ (0 : Int) :: l.map Int.ofNat) (hle : ∀ y, y ∈ (0 : Int) :: l.map Int.ofNat → y ≤ m) : m = (maxL l : Nat) := by
  have h1 : m ≤ (maxL l : Nat) := by
    rcases List.mem_cons.mp hm with rfl | h
    · omega
    · obtain ⟨x, hx, rfl⟩ := List.mem_map.mp h
      have := maxL_le hx
      show (x : Int) ≤ _
      omega
  have h2 : ((maxL l : Nat) : Int) ≤ m := by
    rcases maxL_mem l with h | h
    · rw [h]
      exact hle 0 (List.mem_cons_self ..)
    · exact hle _ (List.mem_cons_of_mem _ (List.mem_map.mpr ⟨_, h, rfl⟩))
  omega
section
variable {P : Program} {w : World} {K : PySem.W.Frag} {mg : Str → Option Value} {base : Heap}
theorem ok_lholds {f fi : Addr} {fd fdi : FuncData} (F : Fun K "_law_holds" "_law_holds" sLHs f fd) (T : Txt mg) (mf : mg "_law_holds" = some (.ref f)) (bf : Binds K fd ["_law_worth_here"] [])
    (mi : mg "_law_is_hold" = some (.ref fi)) (ki : PySem.W.keepIn K (.ref fi) = true) (bi : Binds K fdi ["_law_worth_here"] []) (Gi : FnOk P w K mg base CX0 1 fi fdi ["_law_worth_here"] spLIs) : ∀ n : Nat, FnOk P w K mg base CX0 (n + 2) f fd ["_law_worth_here"] (spLHs n) := by
  have main : ∀ n : Nat, FnOk P w K mg base CX0 (n + 1) f fd ["_law_worth_here"] (spLHsB n) → FnOk P w K mg base CX0 (n + 2) f fd ["_law_worth_here"] (spLHs n) := by
    intro n G
    refine F.ok scLH (fun vs H Q E h => ?_) (fun cdv A outer s H vs Q E hr h => ?_)
    · obtain ⟨v, d, rfl, _⟩ := h
      rfl
    · obtain ⟨v, d, rfl, hd, hg, hn, hl, k⟩ := h
      have nd := scLH.nd
      have hr1 : Room 1 _ := hr.mono (by omega)
      refine ⟨_, pss_cons (ps_if (pt_not (pt_val (pe_callB call_isi (by rfl) T.isinstance (by decide +kernel) (pa_cons (pv 0) (pa_cons (pe_bltn (v := V.ty "tuple") (by rfl) T.tuple (by decide +kernel) rfl) pa_nil))))) (pss_one (ps_ret (pe_lst pa_nil))) pss_nil)
        (pss_cons (ps_if (pt_val (pe_call Gi hr1 (by rfl) mi ki bi .nil pass0 (pa_cons (pv 0) pa_nil))) (pss_one (ps_ret (pe_lst (pa_cons (pe_ix ix_tup (pv 0) pe_int (fun _ _ => rfl)) pa_nil)))) pss_nil)
        (pss_cons (ps_set (i := 1) nd rfl (Or.inl rfl) (pe_lst pa_nil))
        (pss_cons (ps_for PassesOwn.never rfl (pi_tup (pv 0)) (pg_name (i := 2) nd rfl (Or.inl rfl)) (pss_one (ps_set (i := 1) nd rfl (Or.inl rfl) (pe_op op_cat (pv 1) (pe_call G hr (by rfl) mf F.kp bf .nil pass0 (pa_cons (pv 2) pa_nil))))))
        (pss_one (ps_ret (pv 1)))))), ?_⟩
      refine ⟨_, rfl, v, .ty "tuple", _, .type "tuple", isTup d, rfl, .ty _, hd.ty, hd.kTup, isTup d, rfl, ?_⟩
      cases hd with
      | non => exact iteT ⟨Nat.zero_le _, fun l hl => k l _ hl upd_same (same_new (Same.refl _) hl)⟩
      | int i => exact iteT ⟨Nat.zero_le _, fun l hl => k l _ hl upd_same (same_new (Same.refl _) hl)⟩
      | str z => exact iteT ⟨Nat.zero_le _, fun l hl => k l _ hl upd_same (same_new (Same.refl _) hl)⟩
      | @tup a xs ds e al =>
        refine iteF ⟨_, rfl, _, .tuple ds, n, rfl, .tup e al, hg, hn, _, rfl, ?_⟩
        cases hh : isHoldL (.tuple ds) with
        | true =>
          have hh' := hh
          unfold isHoldL at hh'
          split at hh'
          · rename_i t z eq
            cases eq
            cases al with
            | @cons v0 _ _ _ h0 al =>
            cases al with
            | @cons v1 _ _ _ h1 al =>
            cases al
            cases h1
            have eh : holdsL (n + 1) (.tuple [.str t, .str z]) = [z] := by
              exact if_pos hh
            rw [eh] at k
            refine iteT ⟨_, rfl, a, _, _, _, rfl, rfl, SqT.of e, (atI_int (by decide) rfl : atI [v0, V.str z] 1 = some (V.str z)), (by show 1 ≤ sizeLine; decide), fun l hl => ?_⟩
            exact k l _ hl upd_same (same_new (Same.refl _) hl)
          · cases hh'
        | false =>
          have eh : holdsL (n + 1) (.tuple ds) = ds.flatMap (holdsL n) := by
            exact if_neg (by rw [hh]; decide)
          rw [eh] at k hl
          obtain ⟨m, rfl, _, hge⟩ := hg.tupI
          refine iteF ⟨Nat.zero_le _, fun l hl0 => ?_⟩
          have sA := same_new (Same.refl H) hl0 (o := .lst [])
          refine ⟨_, rfl, a, rfl, ⟨xs, SqT.of (sA _ _ e)⟩, for_tup (K := K) (a := a) (xs := xs) (fun i σ' H' => ∃ (l : Addr) (pw : Option V), σ' = [some (.ref a), some (.ref l), pw] ∧ H l = none ∧ H' l = some (.lst (((ds.take i).flatMap (holdsL (m + 1))).map V.str)) ∧ Same H H') ?_ ?_ ?_ ?_⟩
          · exact ⟨l, none, rfl, hl0, upd_same, sA⟩
          · rintro i σ' H' _ ⟨l, pw, rfl, _, _, s⟩
            exact SqT.of (s _ _ e)
          · rintro i x σ' H' hi ⟨l, pw, rfl, hl1, hL, s⟩
            obtain ⟨d, hdi, hdx⟩ := al.get i x hi
            have hdm := List.mem_of_getElem? hdi
            have hfl := flat_mem (holdsL (m + 1)) hdm
            have hft := flat_take (holdsL (m + 1)) ds i
            refine ⟨_, rfl, _, rfl, x, d, rfl, hdx.mono (sameTups s), hge d hdm, by omega, by omega, fun l2 H2 hl2 hL2 s2 => ?_⟩
            refine ⟨l, l2, _, _, rfl, rfl, s2 _ _ hL, hL2, ?_, fun p hp => ?_⟩
            · rw [List.length_map, List.length_map]
              exact Nat.le_trans (show _ ≤ 2000 by omega) (by decide)
            · refine ⟨p, _, rfl, (s.trans s2).free hp, ?_, same_new (s.trans s2) hp⟩
              rw [upd_same, List.take_add_one, hdi, List.flatMap_append, List.map_append (f := V.str)]
              simp
          · rintro σ' H' ⟨l, pw, rfl, hl1, hL, s⟩
            rw [al.length, List.take_length] at hL
            exact ⟨_, rfl, k l H' hl1 hL s⟩
  intro n
  induction n with
  | zero => exact main 0 ⟨fun vs H Q E h => h.elim, fun A outer s H args us vs Q E _ _ _ _ h => h.elim⟩
  | succ n ih => exact main (n + 1) ih
theorem ok_ldeep {f fi : Addr} {fd fdi : FuncData} (F : Fun K "_law_deep" "_law_deep" sLDp f fd) (T : Txt mg) (mf : mg "_law_deep" = some (.ref f)) (bf : Binds K fd ["_law_worth_here"] [])
    (mi : mg "_law_is_hold" = some (.ref fi)) (ki : PySem.W.keepIn K (.ref fi) = true) (bi : Binds K fdi ["_law_worth_here"] []) (Gi : FnOk P w K mg base CX0 1 fi fdi ["_law_worth_here"] spLIs) : ∀ n : Nat, FnOk P w K mg base CX0 (n + 2) f fd ["_law_worth_here"] (spLDp n) := by
  have main : ∀ n : Nat, FnOk P w K mg base CX0 (n + 1) f fd ["_law_worth_here"] (spLDpB n) → FnOk P w K mg base CX0 (n + 2) f fd ["_law_worth_here"] (spLDp n) := by
    intro n G
    refine F.ok scLD (fun vs H Q E h => ?_) (fun cdv A outer s H vs Q E hr h => ?_)
    · obtain ⟨v, d, rfl, _⟩ := h
      rfl
    · obtain ⟨v, d, rfl, hd, hg, hn, k⟩ := h
      have nd := scLD.nd
      have hr1 : Room 1 _ := hr.mono (by omega)
      refine ⟨_, pss_cons (ps_if (PW.pt (pw_or (pt_not (pt_val (pe_callB call_isi (by rfl) T.isinstance (by decide +kernel) (pa_cons (pv 0) (pa_cons (pe_bltn (v := V.ty "tuple") (by rfl) T.tuple (by decide +kernel) rfl) pa_nil)))))
          (pw_or1 (pt_val (pe_call Gi hr1 (by rfl) mi ki bi .nil pass0 (pa_cons (pv 0) pa_nil)))))) (pss_one (ps_ret pe_int)) pss_nil)
        (pss_one (ps_ret (pe_op op_add pe_int (pe_callB (cr_max rfl) (by rfl) T.max (by decide +kernel) (pa_cons (pe_op op_cat (pe_lst (pa_cons pe_int pa_nil))
          (pe_lc (own := [("_law_part", 1)]) (g := gName 1) (tt := tYes) rfl nd (pi_tup (pv 0)) (blkOk_by (N := ["_law_worth_here", "_law_part"]) (sc := defScope sLDp) (by decide +kernel)) (fun _ _ _ _ _ => pg_name (i := 1) nd rfl (Or.inl rfl)) (fun _ _ _ _ _ => pts_nil)
            (fun _ _ _ _ _ => pe_call G hr (by rfl) mf F.kp bf .nil pass0 (pa_cons (pv 1) pa_nil)))) pa_nil))))), ?_⟩
      have no : ∀ j : Nat, deepL (n + 1) d = j → Q (.int (j : Nat)) H := fun j e => e ▸ k H (Same.refl _)
      refine ⟨_, rfl, v, .ty "tuple", _, .type "tuple", isTup d, rfl, .ty _, hd.ty, hd.kTup, isTup d, rfl, ?_⟩
      cases hd with
      | non => exact iteT (no 0 rfl)
      | int i => exact iteT (no 0 rfl)
      | str z => exact iteT (no 0 rfl)
      | @tup a xs ds e al =>
        refine iteF ⟨_, rfl, _, .tuple ds, n, rfl, .tup e al, hg, hn, _, rfl, ?_⟩
        cases hh : isHoldL (.tuple ds) with
        | true => exact iteT (no 0 (if_pos hh))
        | false =>
          have eh : deepL (n + 1) (.tuple ds) = 1 + maxL (ds.map (deepL n)) := if_neg (by rw [hh]; decide)
          obtain ⟨m, rfl, hds, hge⟩ := hg.tupI
          refine iteF ⟨(by show 1 ≤ sizeLine; decide), fun l hl => ?_⟩
          have sA := same_new (Same.refl H) hl (o := .lst [V.int 0])
          have lA : upd H l (.lst [V.int 0]) l = some (.lst [V.int 0]) := upd_same
          generalize upd H l (.lst [V.int 0]) = H1 at sA lA ⊢
          refine ⟨_, rfl, a, rfl, ⟨xs, SqT.of (sA _ _ e)⟩, fun D hD => ?_⟩
          refine lc_tup (K := K) (a := a) (xs := xs) (fun i H' => H' D = some (.lst (((ds.take i).map fun d => ((deepL (m + 1) d : Nat) : Int)).map V.int)) ∧ Same H1 H') ?_ ?_ ?_ ?_
          · exact ⟨upd_same, same_new (Same.refl _) hD⟩
          · rintro i H' _ ⟨_, s⟩
            exact SqT.of (s _ _ (sA _ _ e))
          · rintro i x H' hi ⟨hDl, s⟩
            obtain ⟨d, hdi, hdx⟩ := al.get i x hi
            have hdm := List.mem_of_getElem? hdi
            refine ⟨rfl, _, rfl, x, d, rfl, hdx.mono (sameTups (sA.trans s)), hge d hdm, by omega, fun H2 s2 => ⟨_, s2 _ _ hDl, ?_, ?_, same_mut (s.trans s2) hD⟩⟩
            · rw [List.length_map, List.length_map, List.length_take]
              exact small1000 (by omega)
            · rw [upd_same, List.take_add_one, hdi, List.map_append, List.map_append]
              rfl
          · rintro H' ⟨hDl, s⟩
            rw [al.length, List.take_length] at hDl
            refine ⟨l, D, _, _, rfl, rfl, s _ _ lA, hDl, ?_, fun p hp => ?_⟩
            · rw [List.length_map, List.length_map]
              exact Nat.le_trans (show 1 + ds.length ≤ 2000 by omega) (by decide)
            · have sB := same_new (sA.trans s) hp (o := .lst (([0] ++ ds.map fun d => ((deepL (m + 1) d : Nat) : Int)).map V.int))
              refine ⟨p, [0] ++ ds.map (fun d => ((deepL (m + 1) d : Nat) : Int)), rfl, SqL.of upd_same, by simp, fun y hy hle => ⟨_, _, rfl, rfl, ?_⟩⟩
              have em : (ds.map fun d => ((deepL (m + 1) d : Nat) : Int)) = (ds.map (deepL (m + 1))).map Int.ofNat := by
                rw [List.map_map]
                rfl
              rw [em] at hy hle
              have ey := maxL_is hy hle
              have kk := k _ sB
              rw [eh] at kk
              rw [ey]
              exact kk
  intro n
  induction n with
  | zero => exact main 0 ⟨fun vs H Q E h => h.elim, fun A outer s H args us vs Q E _ _ _ _ h => h.elim⟩
  | succ n ih => exact main (n + 1) ih
end
end K3
namespace K3
open PySem PySem.Spec PyProof.Rows L2 GG
/-! ### what a term is worth, in the law -/
def Okl (d : PyData) : Prop := Gd 12 d ∧ (holdsL 13 d).length ≤ 1000 ∧ ∀ i, d = .int i → -(2 ^ 63) < i ∧ i < 2 ^ 63
def pairL (o : Str) : List PyData → Option PyData
  | [a, b] => opL o a b
  | _ => none
def EvL (fn : Str) (d1 d2 : PyData) : Nat → PyData → Option PyData → Prop
  | 0, _, _ => False
  | n + 1, x, r => (∀ d, r = some d → Okl d) ∧
    ((x = .tuple [.str "var", .str "a"] ∧ r = some d1) ∨ (x = .tuple [.str "var", .str "b"] ∧ r = some d2) ∨ (x = .tuple [.str "own", .str fn] ∧ r = some d2) ∨
      (∃ (t : PyData) (k : Nat) (q : Option PyData), x = .tuple [.str "at", t, .int k] ∧ k < 5 ∧ EvL fn d1 d2 n t q ∧ r = q.bind (partL k)) ∨
      (∃ (ts : List PyData) (qs : List (Option PyData)), x = .tuple (.str "row" :: ts) ∧ ts.length ≤ 9 ∧ qs.length = ts.length ∧ (∀ (i : Nat) (t : PyData) (q : Option PyData), ts[i]? = some t → qs[i]? = some q → EvL fn d1 d2 n t q) ∧ r = (seqO qs).bind rowL) ∨
      (∃ (o : Str) (s t : PyData) (q1 q2 : Option PyData), x = .tuple [.str o, s, t] ∧ o ∈ opsZ ∧ EvL fn d1 d2 n s q1 ∧ EvL fn d1 d2 n t q2 ∧ r = (seqO [q1, q2]).bind (pairL o)))
theorem EvL.okl {fn : Str} {d1 d2 : PyData} {n : Nat} {x : PyData} {r : Option PyData} {d : PyData} (h : EvL fn d1 d2 n x r) (e : r = some d) : Okl d := by
  cases n with
  | zero => exact h.elim
  | succ n => exact h.1 d e
/-- a worth, or an empty list, not the one at D, where there is none -/
def Rs (D : Addr) (H : Hp) (v : V) : Option PyData → Prop
  | some d => Dt H v d
  | none => ∃ l : Addr, v = .ref l ∧ l ≠ D ∧ H l = some (.lst [])
/-- a worth, or a new empty list -/
def RsN (H0 H : Hp) (v : V) : Option PyData → Prop
  | some d => Dt H v d
  | none => ∃ l : Addr, v = .ref l ∧ H0 l = none ∧ H l = some (.lst [])
def resD : Option PyData → PyData
  | some d => d
  | none => .list []
theorem Rs.on {D : Addr} {H H' : Hp} {v : V} {r : Option PyData} (h : Rs D H v r) (s : Same H H') : Rs D H' v r := by
  cases r with
  | some d => exact Dt.mono (sameTups s) h
  | none =>
    obtain ⟨l, e, n, q⟩ := h
    exact ⟨l, e, n, s _ _ q⟩
theorem Rs.mut {D : Addr} {H : Hp} {xs ys : List V} {v : V} {r : Option PyData} (h : Rs D H v r) (e : H D = some (.lst xs)) : Rs D (upd H D (.lst ys)) v r := by
  cases r with
  | some d => exact Dt.mono ((Tups.refl _).mut e (by intro _ z; cases z)) h
  | none =>
    obtain ⟨l, e, n, q⟩ := h
    exact ⟨l, e, n, by rw [upd_ne n]; exact q⟩
theorem Rs.dp {D : Addr} {K : PySem.W.Frag} {H : Hp} {v : V} {r : Option PyData} (h : Rs D H v r) : Dp K H v (resD r) := by
  cases r with
  | some d => exact Dt.dp h
  | none =>
    obtain ⟨l, rfl, _, q⟩ := h
    exact .lst (SqL.of q) .nil
theorem RsN.at {D : Addr} {H0 H : Hp} {v : V} {r : Option PyData} (h : RsN H0 H v r) {o : HO} (e : H0 D = some o) : Rs D H v r := by
  cases r with
  | some d => exact h
  | none =>
    obtain ⟨l, e1, n, q⟩ := h
    exact ⟨l, e1, (fun z => by rw [z, e] at n; cases n), q⟩
inductive RsAll (D : Addr) (H : Hp) : List V → List (Option PyData) → Prop
  | nil : RsAll D H [] []
  | cons {v : V} {vs : List V} {q : Option PyData} {qs : List (Option PyData)} : Rs D H v q → RsAll D H vs qs → RsAll D H (v :: vs) (q :: qs)
theorem RsAll.on {D : Addr} {H H' : Hp} (s : Same H H') : ∀ {vs : List V} {qs : List (Option PyData)}, RsAll D H vs qs → RsAll D H' vs qs
  | _, _, .nil => .nil
  | _, _, .cons h a => .cons (h.on s) (RsAll.on s a)
theorem RsAll.mut {D : Addr} {H : Hp} {xs ys : List V} (e : H D = some (.lst xs)) : ∀ {vs : List V} {qs : List (Option PyData)}, RsAll D H vs qs → RsAll D (upd H D (.lst ys)) vs qs
  | _, _, .nil => .nil
  | _, _, .cons h a => .cons (h.mut e) (RsAll.mut e a)
theorem RsAll.app {D : Addr} {H : Hp} : ∀ {vs ws : List V} {qs ps : List (Option PyData)}, RsAll D H vs qs → RsAll D H ws ps → RsAll D H (vs ++ ws) (qs ++ ps)
  | _, _, _, _, .nil, b => b
  | _, _, _, _, .cons h a, b => .cons h (RsAll.app a b)
theorem RsAll.length {D : Addr} {H : Hp} : ∀ {vs : List V} {qs : List (Option PyData)}, RsAll D H vs qs → vs.length = qs.length
  | _, _, .nil => rfl
  | _, _, .cons _ a => by rw [List.length_cons, List.length_cons, RsAll.length a]
theorem RsAll.dp {D : Addr} {K : PySem.W.Frag} {H : Hp} : ∀ {vs : List V} {qs : List (Option PyData)}, RsAll D H vs qs → DpAll K H vs (qs.map resD)
  | _, _, .nil => .nil
  | _, _, .cons h a => .cons h.dp (RsAll.dp a)
theorem RsAll.dt {D : Addr} {H : Hp} : ∀ {vs : List V} {ds : List PyData}, RsAll D H vs (ds.map some) → DtAll H vs ds
  | _, [], h => by
    cases h
    exact .nil
  | _, d :: ds, h => by
    cases h with
    | cons h a => exact .cons h (RsAll.dt a)
/-- where the law keeps what is known -/
structure HeAt (H : Hp) (h : Addr) (fn : Str) (d1 d2 : PyData) : Prop where
  ex : ∃ (fl kn : Addr) (kvs fvs nvs : List (Key × V)) (v1 v2 v3 : V), H h = some (.dK kvs) ∧ valV kvs (.inr "fields") = some (.ref fl) ∧ valV kvs (.inr "known") = some (.ref kn) ∧ H fl = some (.dK fvs) ∧ H kn = some (.dK nvs) ∧
    valV nvs (.inr "a") = some v1 ∧ valV nvs (.inr "b") = some v2 ∧ valV fvs (.inr fn) = some v3 ∧ Dt H v1 d1 ∧ Dt H v2 d2 ∧ Dt H v3 d2
theorem HeAt.on {H H' : Hp} {h : Addr} {fn : Str} {d1 d2 : PyData} (x : HeAt H h fn d1 d2) (s : Same H H') : HeAt H' h fn d1 d2 := by
  obtain ⟨fl, kn, kvs, fvs, nvs, v1, v2, v3, h1, h2, h3, h4, h5, h6, h7, h8, h9, h10, h11⟩ := x.ex
  exact ⟨⟨fl, kn, kvs, fvs, nvs, v1, v2, v3, s _ _ h1, h2, h3, s _ _ h4, s _ _ h5, h6, h7, h8, h9.mono (sameTups s), h10.mono (sameTups s), h11.mono (sameTups s)⟩⟩
def spLW (n : Nat) : Sp := fun vs H Q _ => ∃ (v : V) (h : Addr) (x : PyData) (r : Option PyData) (fn : Str) (d1 d2 : PyData), vs = [v, .ref h] ∧ Dt H v x ∧ EvL fn d1 d2 n x r ∧ HeAt H h fn d1 d2 ∧ ∀ v' H', Same H H' → RsN H H' v' r → Q v' H'
abbrev sLW : Stmt := top 55
theorem scLW : FnScope ["_law_told", "_law_here", "_law_term", "_law_one", "_law_some", "_law_other", "_law_number"] ["_law_told", "_law_here"] (defScope sLW) := ⟨rfl, rfl, rfl, by decide +kernel, rfl, by decide +kernel, by decide +kernel⟩
theorem op_ltIS {X : Cx} : OpR X (compareOp .Lt) (fun x y H Q => (∃ i j, x = .int i ∧ y = .int j ∧ Q (.bl (decide (i < j))) H) ∨ ∃ s t, x = .str s ∧ y = .str t ∧ Q (.bl (decide (s.cps.toList < t.cps.toList))) H) := by
  intro pins s σ H x y v u Q I rx ry q
  rcases q with q | q
  · exact op_lt pins s σ H x y v u Q I rx ry q
  · exact op_lt_str pins s σ H x y v u Q I rx ry q
theorem cutV_one (v u : V) (vs : List V) : cutV (v :: u :: vs) (some 1) (some 2) = [u] := by
  have e1 : HT.sIx (v :: u :: vs).length 0 (some ((1 : Nat) : Int)) = min 1 (v :: u :: vs).length := HT.sIx_nat ..
  have e2 : HT.sIx (v :: u :: vs).length (v :: u :: vs).length (some ((2 : Nat) : Int)) = min 2 (v :: u :: vs).length := HT.sIx_nat ..
  unfold cutV
  rw [show (some (1 : Int)) = some ((1 : Nat) : Int) from rfl, show (some (2 : Int)) = some ((2 : Nat) : Int) from rfl, e1, e2, Nat.min_eq_left (by simp), Nat.min_eq_left (by simp)]
  simp
theorem opL_ne {o : Str} {a b : PyData} (h : o ≠ "same") : opL o a b = opM o a b := if_neg h
theorem opM_ints (o : Str) (i j : Int) : opM o (.int i) (.int j) = (if o = "less" then some (.int (if decide (i < j) = true then 1 else 0)) else bigL (if o = "plus" then i + j else i * j)) := rfl
theorem opM_strs (o z y : Str) : opM o (.str z) (.str y) = (if o = "less" then some (.int (if decide (z.cps.toList < y.cps.toList) = true then 1 else 0)) else none) := rfl
theorem shaped_res {qs : List (Option PyData)} (h : ∀ q ∈ qs, ∀ d, q = some d → Gd 12 d) : SeqAt.shaped (.list (qs.map resD)) = true := by
  have one : ∀ q ∈ qs, (resD q).canLay0 = true ∧ (resD q).depth ≤ 12 := fun q hq => by
    cases e : q with
    | none => exact ⟨by simp [resD, PyData.canLay0, PyData.canLayAll0], by simp [resD, PyData.depth, PyData.depthAll]⟩
    | some d => exact (h q hq d e).lay
  have all : ∀ l : List PyData, (∀ e ∈ l, e.canLay0 = true ∧ e.depth ≤ 12) → PyData.canLayAll0 l = true ∧ PyData.depthAll l ≤ 12 := by
    intro l
    induction l with
    | nil => exact fun _ => ⟨by simp [PyData.canLayAll0], by simp [PyData.depthAll]⟩
    | cons a r ih =>
      intro k
      have k1 := k a (List.mem_cons_self ..)
      have k2 := ih fun e he => k e (List.mem_cons_of_mem _ he)
      exact ⟨by simp only [PyData.canLayAll0]; rw [k1.1, k2.1]; rfl, by simp only [PyData.depthAll]; omega⟩
  have z := all (qs.map resD) fun e he => by
    obtain ⟨q, hq, rfl⟩ := List.mem_map.mp he
    exact one q hq
  show (PyData.canLay0 (.list (qs.map resD)) && decide (PyData.depth (.list (qs.map resD)) ≤ 64)) = true
  have e1 : PyData.canLay0 (.list (qs.map resD)) = true := by simp only [PyData.canLay0]; exact z.1
  rw [e1, decide_eq_true (by simp only [PyData.depth]; omega)]
  rfl
theorem eqv_nil {n : Nat} {d : PyData} (h : Gd n d) : PyData.eqv d (.list []) = false := by
  cases d with
  | list ds => cases n <;> exact h.elim
  | _ => simp [PyData.eqv]
def noneB (qs : List (Option PyData)) : Bool := qs.any Option.isNone
theorem any_none : ∀ {qs : List (Option PyData)}, (∀ q ∈ qs, ∀ d, q = some d → Gd 12 d) → ((qs.map resD).any fun z => PyData.eqv z (.list [])) = noneB qs
  | [], _ => rfl
  | q :: qs, h => by
    have k := any_none (qs := qs) fun q' hq => h q' (List.mem_cons_of_mem _ hq)
    show _ = (Option.isNone q || noneB qs)
    rw [List.map_cons, List.any_cons, k]
    cases q with
    | none =>
      have e : PyData.eqv (resD none) (.list []) = true := by decide +kernel
      rw [e]
      rfl
    | some d =>
      rw [show PyData.eqv (resD (some d)) (.list []) = false from eqv_nil (h _ (List.mem_cons_self ..) d rfl)]
      rfl
theorem noneB_true : ∀ {qs : List (Option PyData)}, noneB qs = true → seqO qs = none
  | none :: _, _ => rfl
  | some d :: qs, h => by
    show (seqO qs).map (d :: ·) = none
    rw [noneB_true (qs := qs) h]
    rfl
theorem noneB_false : ∀ {qs : List (Option PyData)}, noneB qs = false → ∃ ds : List PyData, qs = ds.map some
  | [], _ => ⟨[], rfl⟩
  | none :: _, h => nomatch h
  | some d :: qs, h => by
    obtain ⟨ds, e⟩ := noneB_false (qs := qs) h
    exact ⟨d :: ds, by rw [e]; rfl⟩
theorem strs_shaped {l : List Str} (h : ∀ z ∈ l, PyData.strOk z = true) : SeqAt.shaped (.list (l.map PyData.str)) = true := by
  have all : PyData.canLayAll0 (l.map PyData.str) = true ∧ PyData.depthAll (l.map PyData.str) = 0 := by
    induction l with
    | nil => exact ⟨by simp [PyData.canLayAll0], by simp [PyData.depthAll]⟩
    | cons a r ih =>
      have k2 := ih fun e he => h e (List.mem_cons_of_mem _ he)
      have k1 := h a (List.mem_cons_self ..)
      refine ⟨?_, ?_⟩
      · simp only [List.map_cons, PyData.canLayAll0, PyData.canLay0]
        rw [k1, k2.1]
        rfl
      · simp only [List.map_cons, PyData.depthAll, PyData.depth]
        rw [k2.2]
        rfl
  show (PyData.canLay0 (.list (l.map PyData.str)) && decide (PyData.depth (.list (l.map PyData.str)) ≤ 64)) = true
  have e1 : PyData.canLay0 (.list (l.map PyData.str)) = true := by simp only [PyData.canLay0]; exact all.1
  rw [e1, decide_eq_true (by simp only [PyData.depth]; omega)]
  rfl
theorem dp_strs {K : PySem.W.Frag} {H : Hp} : ∀ l : List Str, DpAll K H (l.map V.str) (l.map PyData.str)
  | [] => .nil
  | z :: l => .cons (.str z) (dp_strs l)
theorem eqv_strs (l : List Str) : PyData.eqv (.list (l.map PyData.str)) (.list []) = decide (l = []) := by
  cases l with
  | nil => decide +kernel
  | cons a r =>
    rw [decide_eq_false (by simp)]
    simp [PyData.eqv, PyData.eqvAll]
theorem holdsL_ok : ∀ (n m : Nat) (d : PyData), Gd m d → ∀ z ∈ holdsL n d, PyData.strOk z = true := by
  intro n
  induction n with
  | zero => exact fun m d _ z hz => absurd hz (by simp [holdsL])
  | succ n ih =>
    intro m d h z hz
    cases d with
    | tuple ds =>
      obtain ⟨m', rfl, _, hge⟩ := h.tupI
      cases hh : isHoldL (.tuple ds) with
      | true =>
        have hh' := hh
        unfold isHoldL at hh'
        split at hh'
        · rename_i t y eq
          cases eq
          have eh : holdsL (n + 1) (.tuple [.str t, .str y]) = [y] := if_pos hh
          rw [eh, List.mem_singleton] at hz
          subst hz
          exact (hge (.str z) (by simp)).str.2
        · cases hh'
      | false =>
        have eh : holdsL (n + 1) (.tuple ds) = ds.flatMap (holdsL n) := if_neg (by rw [hh]; decide)
        rw [eh] at hz
        obtain ⟨e, he, hze⟩ := List.mem_flatMap.mp hz
        exact ih m' e (hge e he) z hze
    | _ => exact absurd hz (by simp [holdsL])
section
variable {P : Program} {w : World} {K : PySem.W.Frag} {mg : Str → Option Value} {base : Heap}
theorem ok_lw {f fi fh fd' : Addr} {fd fdi fdh fdd : FuncData} {n : Nat} (F : Fun K "_law_worth" "_law_worth" sLW f fd) (T : Txt mg) (zs : mg "str" = none) (mf : mg "_law_worth" = some (.ref f)) (bf : Binds K fd ["_law_told", "_law_here"] [])
    (mi : mg "_law_is_hold" = some (.ref fi)) (ki : PySem.W.keepIn K (.ref fi) = true) (bi : Binds K fdi ["_law_worth_here"] []) (Gi : FnOk P w K mg base CX0 1 fi fdi ["_law_worth_here"] spLIs)
    (mh : mg "_law_holds" = some (.ref fh)) (kh : PySem.W.keepIn K (.ref fh) = true) (bh : Binds K fdh ["_law_worth_here"] []) (Gh : FnOk P w K mg base CX0 14 fh fdh ["_law_worth_here"] (spLHs 12))
    (md : mg "_law_deep" = some (.ref fd')) (kd : PySem.W.keepIn K (.ref fd') = true) (bd : Binds K fdd ["_law_worth_here"] []) (Gd' : FnOk P w K mg base CX0 15 fd' fdd ["_law_worth_here"] (spLDp 13))
    (G : FnOk P w K mg base CX0 (n + 16) f fd ["_law_told", "_law_here"] (spLW n)) : FnOk P w K mg base CX0 (n + 17) f fd ["_law_told", "_law_here"] (spLW (n + 1)) := by
  refine F.ok scLW (fun vs H Q E h => ?_) (fun cdv A outer s H vs Q E hr h => ?_)
  · obtain ⟨v, g, x, r, fn, d1, d2, rfl, _⟩ := h
    rfl
  · obtain ⟨v, g, x, r, fn, d1, d2, rfl, hd, hev, hg, k⟩ := h
    have nd := scLW.nd
    have hu := hu_of hr
    have hr1 : Room 1 _ := hr.mono (by omega)
    have hr14 : Room 14 _ := hr.mono (by omega)
    have hr15 : Room 15 _ := hr.mono (by omega)
    have hu65 := (show A.units + 3 + 65 < cLine by have := hr.un; have z : (A.deeper (envOfC "_law_worth" (defScope sLW) s.heap.objs.size f cdv)).units = A.units + 3 := rfl; omega)
    refine ⟨_, pss_cons (ps_set (i := 2) nd rfl (Or.inl rfl) (pe_ix ix_tup (pv 0) pe_int (fun _ _ => rfl)))
      (pss_cons (ps_if (PW.pt (pw_or (pt_cmpR op_eq (pv 2) pe_str (nomark _)) (pw_or1 (pt_cmpR op_eq (pv 2) pe_str (nomark _))))) (pss_one ps_never) pss_nil)
      (pss_cons (ps_if (pt_cmpR op_in_seq (pv 2) (pe_tup (pa_cons pe_str (pa_cons pe_str pa_nil))) rfl) (pss_one (ps_ret (pe_dget hu (pe_dget hu (pv 1) (pe_ix ix_list (pe_lst (pa_cons pe_str (pa_cons pe_str pa_nil)))
          (pe_callTy call_int1 (by rfl) T.int (by decide +kernel) (pa_cons (pe_cmpR op_eq (pv 2) pe_str (nomark _)) pa_nil)) (fun _ _ => rfl)) (fun _ _ => rfl)) (pe_ix ix_tup (pv 0) pe_int (fun _ _ => rfl)) (fun _ _ => rfl)))) pss_nil)
      (pss_cons (ps_setLc (i := 4) (own := [("_law_one", 3)]) (g := gName 3) (tt := tYes) rfl nd rfl rfl (sw_true rfl rfl rfl (by decide +kernel)) (pi_tup (pe_ifExp (pt_cmpR op_eq (pv 2) pe_str (nomark _)) (pe_slice sl_tup (pv 0) (po_some pe_int) (po_some pe_int)) (pe_slice sl_tup (pv 0) (po_some pe_int) po_none)))
        (blkOk_by (N := ["_law_told", "_law_here", "_law_term", "_law_one", "_law_some", "_law_other", "_law_number"]) (sc := defScope sLW) (by decide +kernel)) (fun _ _ _ _ _ => pg_name (i := 3) nd rfl (Or.inl rfl)) (fun _ _ _ _ _ => pts_nil)
        (fun _ _ _ _ _ => pe_call G hr (by rfl) mf F.kp bf .nil pass0 (pa_cons (pv 3) (pa_cons (pv 1) pa_nil))))
      (pss_cons (ps_if (pt_cmpR (op_inD hu65) (pe_lst pa_nil) (pv 4) rfl) (pss_one (ps_ret (pe_lst pa_nil))) pss_nil)
      (pss_cons (ps_if (pt_cmpR op_eq (pv 2) pe_str (nomark _)) (pss_one (ps_ret (pe_ifExp (pt_cmpR op_lt (pe_call Gd' hr15 (by rfl) md kd bd .nil pass0 (pa_cons (pe_callTy call_tuple_of (by rfl) T.tuple (by decide +kernel) (pa_cons (pv 4) pa_nil)) pa_nil)) pe_int (nomark _))
          (pe_callTy call_tuple_of (by rfl) T.tuple (by decide +kernel) (pa_cons (pv 4) pa_nil)) (pe_lst pa_nil)))) pss_nil)
      (pss_cons (ps_set (i := 3) nd rfl (Or.inl rfl) (pe_ix ix_list (pv 4) pe_int (fun _ _ => rfl)))
      (pss_cons (ps_if (pt_cmpR op_eq (pv 2) pe_str (nomark _)) (pss_one (ps_ret (pe_ifExp (PW.pt (pw_and (pt_val (pe_callB call_isi (by rfl) T.isinstance (by decide +kernel) (pa_cons (pv 3) (pa_cons (pe_bltn (v := V.ty "tuple") (by rfl) T.tuple (by decide +kernel) rfl) pa_nil))))
            (pw_and1 (pt_not (pt_val (pe_call Gi hr1 (by rfl) mi ki bi .nil pass0 (pa_cons (pv 3) pa_nil)))))))
          (pe_ix ix_tup (pe_op op_catA (pv 3) (pe_op op_repT (pe_tup (pa_cons pe_non pa_nil)) pe_int)) (pe_ix ix_tup (pv 0) pe_int (fun _ _ => rfl)) (fun _ _ => rfl)) (pe_lst pa_nil)))) pss_nil)
      (pss_cons (ps_set (i := 5) nd rfl (Or.inl rfl) (pe_ix ix_list (pv 4) pe_int (fun _ _ => rfl)))
      (pss_cons (ps_if (pt_cmpR op_eq (pv 2) pe_str (nomark _)) (pss_one (ps_ret (pe_ifExp (pt_cmpR (op_eqD hr.units) (pe_op op_cat (pe_call Gh hr14 (by rfl) mh kh bh .nil pass0 (pa_cons (pv 3) pa_nil)) (pe_call Gh hr14 (by rfl) mh kh bh .nil pass0 (pa_cons (pv 5) pa_nil))) (pe_lst pa_nil) (nomark _))
          (pe_callTy call_int1 (by rfl) T.int (by decide +kernel) (pa_cons (pe_cmpR (op_eqD hr.units) (pv 3) (pv 5) (nomark _)) pa_nil)) (pe_lst pa_nil)))) pss_nil)
      (pss_cons (ps_if (PW.pt (pw_or (pt_cmpR op_isN (pv 3) pe_non (nomark _)) (pw_or (pt_val (pe_callB call_isi (by rfl) T.isinstance (by decide +kernel) (pa_cons (pv 3) (pa_cons (pe_bltn (v := V.ty "tuple") (by rfl) T.tuple (by decide +kernel) rfl) pa_nil))))
          (pw_or1 (pt_cmpR op_ne (pe_callB call_isi (by rfl) T.isinstance (by decide +kernel) (pa_cons (pv 3) (pa_cons (pe_bltn (v := V.ty "str") (by rfl) zs (by decide +kernel) rfl) pa_nil))) (pe_callB call_isi (by rfl) T.isinstance (by decide +kernel) (pa_cons (pv 5) (pa_cons (pe_bltn (v := V.ty "str") (by rfl) zs (by decide +kernel) rfl) pa_nil))) (nomark _))))))
        (pss_one (ps_ret (pe_lst pa_nil))) pss_nil)
      (pss_cons (ps_if (PW.pt (pw_or (pt_cmpR op_isN (pv 5) pe_non (nomark _)) (pw_or (pt_val (pe_callB call_isi (by rfl) T.isinstance (by decide +kernel) (pa_cons (pv 5) (pa_cons (pe_bltn (v := V.ty "tuple") (by rfl) T.tuple (by decide +kernel) rfl) pa_nil))))
          (pw_or1 (PW.pt (pw_and (pt_val (pe_callB call_isi (by rfl) T.isinstance (by decide +kernel) (pa_cons (pv 3) (pa_cons (pe_bltn (v := V.ty "str") (by rfl) zs (by decide +kernel) rfl) pa_nil)))) (pw_and1 (pt_cmpR op_ne (pv 2) pe_str (nomark _)))))))))
        (pss_one (ps_ret (pe_lst pa_nil))) pss_nil)
      (pss_cons (ps_if (pt_cmpR op_eq (pv 2) pe_str (nomark _)) (pss_one (ps_ret (pe_callTy call_int1 (by rfl) T.int (by decide +kernel) (pa_cons (pe_cmpR op_ltIS (pv 3) (pv 5) (nomark _)) pa_nil)))) pss_nil)
      (pss_cons (ps_set (i := 6) nd rfl (Or.inl rfl) (pe_ifExp (pt_cmpR op_eq (pv 2) pe_str (nomark _)) (pe_op op_add (pv 3) (pv 5)) (pe_op op_mul (pv 3) (pv 5))))
      (pss_one (ps_ret (pe_ifExp (pt_cmpR op_lt (pe_callB call_abs (by rfl) T.abs (by decide +kernel) (pa_cons (pv 6) pa_nil)) (pe_op op_pow pe_int pe_int) (nomark _)) (pv 6) (pe_lst pa_nil))))))))))))))))), ?_⟩
    have n1 : ∀ {a b : Str} {A B : Prop}, a ≠ b → B → (if decide (V.str a = V.str b) = true then A else B) := fun {a b A B} ne h => by
      rw [decide_eq_false fun q => ne (by cases q; rfl)]
      exact iteF h
    have y1 : ∀ {a : Str} {A B : Prop}, A → (if decide (V.str a = V.str a) = true then A else B) := fun {a A B} h => by
      rw [decide_eq_true rfl]
      exact iteT h
    obtain ⟨fl, kn, kvs, fvs, nvs, w1, w2, w3, h1, h2, h3, h4, h5, h6, h7, h8, h9, h10, h11⟩ := hg.ex
    obtain ⟨hok, hev⟩ := hev
    have vr : inV (.str "var") [.str "var", .str "own"] = true := by decide +kernel
    have ow : inV (.str "own") [.str "var", .str "own"] = true := by decide +kernel
    have ao : ∀ z ∈ ("at" : Str) :: "row" :: opsZ, inV (.str z) [.str "var", .str "own"] = false ∧ z ≠ "is" ∧ z ≠ "me" := by decide +kernel
    have oa : ∀ z ∈ opsZ, z ≠ "at" ∧ z ≠ "row" := by decide +kernel
    rcases hev with ⟨rfl, rfl⟩ | ⟨rfl, rfl⟩ | ⟨rfl, rfl⟩ | ⟨t, k', q, rfl, hk5, hq, rfl⟩ | ⟨ts, qs, rfl, h9', hl', hev', rfl⟩ | ⟨o, s, t, q1, q2, rfl, ho, hq1, hq2, rfl⟩
    · cases hd with
      | @tup a xs _ e al =>
      cases al with
      | @cons u0 _ _ _ e0 al =>
      cases al with
      | @cons u1 _ _ _ e1 al =>
      cases al
      cases e0
      cases e1
      have a0 : atI [V.str "var", V.str "a"] 0 = some (V.str "var") := atI_int (by decide) rfl
      have a1 : atI [V.str "var", V.str "a"] 1 = some (V.str "a") := atI_int (by decide) rfl
      refine ⟨_, rfl, a, _, _, _, rfl, rfl, SqT.of e, a0, ?_⟩
      refine ⟨_, rfl, rfl, _, rfl, n1 (by decide) ⟨_, rfl, rfl, _, rfl, n1 (by decide) ?_⟩⟩
      refine ⟨_, rfl, (by show 2 ≤ sizeLine; decide), fun tp htp => ?_⟩
      have s1 := same_new (Same.refl H) htp (o := .tup [.str "var", .str "own"])
      have b1 : upd H tp (.tup [.str "var", .str "own"]) tp = some (.tup [.str "var", .str "own"]) := upd_same
      generalize upd H tp (.tup [.str "var", .str "own"]) = H1 at s1 b1 ⊢
      refine ⟨tp, _, rfl, .inr (SqT.of b1), rfl, rfl, _, rfl, ?_⟩
      show if inV (.str "var") [.str "var", .str "own"] = true then _ else _
      rw [vr]
      refine iteT ⟨_, rfl, (by show 2 ≤ sizeLine; decide), fun l hl => ?_⟩
      have s2 := same_new s1 hl (o := .lst [.str "fields", .str "known"])
      have b2 : upd H1 l (.lst [.str "fields", .str "known"]) l = some (.lst [.str "fields", .str "known"]) := upd_same
      generalize upd H1 l (.lst [.str "fields", .str "known"]) = H2 at s2 b2 ⊢
      refine ⟨_, rfl, rfl, .inr ⟨_, rfl, l, _, _, V.str "known", rfl, rfl, SqL.of b2, (by rw [decide_eq_true rfl]; exact atI_int (by decide) rfl), g, _, rfl, dget_str (s2 _ _ h1) h3, ?_⟩⟩
      exact ⟨_, rfl, a, _, _, _, rfl, rfl, SqT.of (s2 _ _ e), a1, kn, _, rfl, dget_str (s2 _ _ h5) h6, k _ H2 s2 (h9.mono (sameTups s2))⟩
    · cases hd with
      | @tup a xs _ e al =>
      cases al with
      | @cons u0 _ _ _ e0 al =>
      cases al with
      | @cons u1 _ _ _ e1 al =>
      cases al
      cases e0
      cases e1
      have a0 : atI [V.str "var", V.str "b"] 0 = some (V.str "var") := atI_int (by decide) rfl
      have a1 : atI [V.str "var", V.str "b"] 1 = some (V.str "b") := atI_int (by decide) rfl
      refine ⟨_, rfl, a, _, _, _, rfl, rfl, SqT.of e, a0, ?_⟩
      refine ⟨_, rfl, rfl, _, rfl, n1 (by decide) ⟨_, rfl, rfl, _, rfl, n1 (by decide) ?_⟩⟩
      refine ⟨_, rfl, (by show 2 ≤ sizeLine; decide), fun tp htp => ?_⟩
      have s1 := same_new (Same.refl H) htp (o := .tup [.str "var", .str "own"])
      have b1 : upd H tp (.tup [.str "var", .str "own"]) tp = some (.tup [.str "var", .str "own"]) := upd_same
      generalize upd H tp (.tup [.str "var", .str "own"]) = H1 at s1 b1 ⊢
      refine ⟨tp, _, rfl, .inr (SqT.of b1), rfl, rfl, _, rfl, ?_⟩
      show if inV (.str "var") [.str "var", .str "own"] = true then _ else _
      rw [vr]
      refine iteT ⟨_, rfl, (by show 2 ≤ sizeLine; decide), fun l hl => ?_⟩
      have s2 := same_new s1 hl (o := .lst [.str "fields", .str "known"])
      have b2 : upd H1 l (.lst [.str "fields", .str "known"]) l = some (.lst [.str "fields", .str "known"]) := upd_same
      generalize upd H1 l (.lst [.str "fields", .str "known"]) = H2 at s2 b2 ⊢
      refine ⟨_, rfl, rfl, .inr ⟨_, rfl, l, _, _, V.str "known", rfl, rfl, SqL.of b2, (by rw [decide_eq_true rfl]; exact atI_int (by decide) rfl), g, _, rfl, dget_str (s2 _ _ h1) h3, ?_⟩⟩
      exact ⟨_, rfl, a, _, _, _, rfl, rfl, SqT.of (s2 _ _ e), a1, kn, _, rfl, dget_str (s2 _ _ h5) h7, k _ H2 s2 (h10.mono (sameTups s2))⟩
    · cases hd with
      | @tup a xs _ e al =>
      cases al with
      | @cons u0 _ _ _ e0 al =>
      cases al with
      | @cons u1 _ _ _ e1 al =>
      cases al
      cases e0
      cases e1
      have a0 : atI [V.str "own", V.str fn] 0 = some (V.str "own") := atI_int (by decide) rfl
      have a1 : atI [V.str "own", V.str fn] 1 = some (V.str fn) := atI_int (by decide) rfl
      refine ⟨_, rfl, a, _, _, _, rfl, rfl, SqT.of e, a0, ?_⟩
      refine ⟨_, rfl, rfl, _, rfl, n1 (by decide) ⟨_, rfl, rfl, _, rfl, n1 (by decide) ?_⟩⟩
      refine ⟨_, rfl, (by show 2 ≤ sizeLine; decide), fun tp htp => ?_⟩
      have s1 := same_new (Same.refl H) htp (o := .tup [.str "var", .str "own"])
      have b1 : upd H tp (.tup [.str "var", .str "own"]) tp = some (.tup [.str "var", .str "own"]) := upd_same
      generalize upd H tp (.tup [.str "var", .str "own"]) = H1 at s1 b1 ⊢
      refine ⟨tp, _, rfl, .inr (SqT.of b1), rfl, rfl, _, rfl, ?_⟩
      show if inV (.str "own") [.str "var", .str "own"] = true then _ else _
      rw [ow]
      refine iteT ⟨_, rfl, (by show 2 ≤ sizeLine; decide), fun l hl => ?_⟩
      have s2 := same_new s1 hl (o := .lst [.str "fields", .str "known"])
      have b2 : upd H1 l (.lst [.str "fields", .str "known"]) l = some (.lst [.str "fields", .str "known"]) := upd_same
      generalize upd H1 l (.lst [.str "fields", .str "known"]) = H2 at s2 b2 ⊢
      refine ⟨_, rfl, rfl, .inr ⟨_, rfl, l, _, _, V.str "fields", rfl, rfl, SqL.of b2, (by rw [decide_eq_false (by decide +kernel)]; exact atI_int (by decide) rfl), g, _, rfl, dget_str (s2 _ _ h1) h2, ?_⟩⟩
      exact ⟨_, rfl, a, _, _, _, rfl, rfl, SqT.of (s2 _ _ e), a1, fl, _, rfl, dget_str (s2 _ _ h4) h8, k _ H2 s2 (h11.mono (sameTups s2))⟩
    · cases hd with
      | @tup a xs _ e al =>
      cases al with
      | @cons u0 _ _ _ e0 al =>
      cases al with
      | @cons u1 _ _ _ e1 al =>
      cases al with
      | @cons u2 _ _ _ e2 al =>
      cases al
      cases e0
      cases e2
      have a0 : atI [V.str "at", u1, V.int (k' : Int)] 0 = some (V.str "at") := atI_int (by decide) rfl
      have a2 : atI [V.str "at", u1, V.int (k' : Int)] 2 = some (V.int (k' : Int)) := atI_int (by decide) rfl
      have nn := ao "at" (by decide)
      refine ⟨_, rfl, a, _, _, _, rfl, rfl, SqT.of e, a0, ?_⟩
      refine ⟨_, rfl, rfl, _, rfl, n1 nn.2.1 ⟨_, rfl, rfl, _, rfl, n1 nn.2.2 ?_⟩⟩
      refine ⟨_, rfl, (by show 2 ≤ sizeLine; decide), fun tp htp => ?_⟩
      have s1 := same_new (Same.refl H) htp (o := .tup [.str "var", .str "own"])
      have b1 : upd H tp (.tup [.str "var", .str "own"]) tp = some (.tup [.str "var", .str "own"]) := upd_same
      generalize upd H tp (.tup [.str "var", .str "own"]) = H1 at s1 b1 ⊢
      refine ⟨tp, _, rfl, .inr (SqT.of b1), rfl, rfl, _, rfl, ?_⟩
      show if inV (.str "at") [.str "var", .str "own"] = true then _ else _
      rw [nn.1]
      refine iteF ⟨_, rfl, rfl, _, rfl, ?_⟩
      refine y1 ⟨_, rfl, _, rfl, _, rfl, a, _, rfl, SqT.of (s1 _ _ e), (fun z => ?_), fun p hp => ?_⟩
      · have z1 : min 1 ([V.str "at", u1, V.int (k' : Int)] : List V).length = 0 := (HT.sIx_nat (n := ([V.str "at", u1, V.int (k' : Int)] : List V).length) (k := 1) (d := 0)).symm.trans z.1
        rw [Nat.min_eq_left (by simp)] at z1
        cases z1
      rw [cutV_one]
      have s2 := same_new s1 hp (o := .tup [u1])
      have b2 : upd H1 p (.tup [u1]) p = some (.tup [u1]) := upd_same
      generalize upd H1 p (.tup [u1]) = H2 at s2 b2 ⊢
      have us2 : DtAll H2 [u1] [t] := .cons (e1.mono (sameTups s2)) .nil
      have lents : ([t] : List PyData).length = ([q]).length := rfl
      have qle : ([q]).length ≤ 9 := (by show 1 ≤ 9; decide)
      have okq : ∀ q' ∈ ([q]), ∀ d, q' = some d → Okl d := fun q' h d e => by
        rw [List.mem_singleton] at h
        subst h
        exact hq.okl e
      have okg : ∀ q' ∈ ([q]), ∀ d, q' = some d → Gd 12 d := fun q' h d e => (okq q' h d e).1
      have eve : ∀ (i : Nat) (t' : PyData) (q' : Option PyData), ([t] : List PyData)[i]? = some t' → ([q])[i]? = some q' → EvL fn d1 d2 n t' q' := fun i t' q' hi hq' => by
        match i with
        | 0 =>
          cases hi
          cases hq'
          exact hq
        | i + 1 => cases hi
      refine ⟨p, rfl, ⟨_, SqT.of b2⟩, fun D hD => ?_⟩
      refine lc_tup (K := K) (a := p) (xs := [u1]) (fun i H' => ∃ vs, H' D = some (.lst vs) ∧ RsAll D H' vs (([q]).take i) ∧ Same H2 H') ?_ ?_ ?_ ?_
      · exact ⟨[], upd_same, .nil, same_new (Same.refl _) hD⟩
      · rintro i H' _ ⟨vs, _, _, s'⟩
        exact SqT.of (s' _ _ b2)
      · rintro i x H' hi ⟨vs, hDl, hall, s'⟩
        obtain ⟨t', hti, htx⟩ := us2.get i x hi
        have hil : i < ([q]).length := by
          have := (List.getElem?_eq_some_iff.mp hti).1
          omega
        have hqi : ([q])[i]? = some ([q])[i] := List.getElem?_eq_getElem hil
        refine ⟨rfl, _, rfl, _, rfl, x, g, t', ([q])[i], fn, d1, d2, rfl, htx.mono (sameTups s'), eve i t' _ hti hqi, hg.on (s2.trans s'), fun v' H3 s3 hv => ⟨vs, s3 _ _ hDl, ?_, vs ++ [v'], upd_same, ?_, same_mut (s'.trans s3) hD⟩⟩
        · have := hall.length
          rw [List.length_take] at this
          exact Nat.lt_of_le_of_lt (show vs.length ≤ 9 by omega) (by decide)
        · rw [List.take_add_one, hqi]
          exact ((hall.on s3).app (.cons (hv.at hDl) .nil)).mut (s3 _ _ hDl)
      · rintro H' ⟨vs, hDl, hall, s'⟩
        rw [List.take_of_length_le (by rw [us2.length, lents]; exact Nat.le_refl _)] at hall
        refine ⟨Nat.zero_le _, fun l hl => ?_⟩
        have s3 := same_new s' hl (o := .lst [])
        have b3 : upd H' l (.lst []) l = some (.lst []) := upd_same
        have hD3 : upd H' l (.lst []) D = some (.lst vs) := by rw [upd_ne (ne_of_none hDl hl)]; exact hDl
        have hall3 := hall.on (same_new (Same.refl _) hl (o := .lst []))
        generalize upd H' l (.lst []) = H3 at s3 b3 hD3 hall3 ⊢
        have s5 : Same H H3 := s2.trans s3
        have fail : ∀ {H4 : Hp} {l2 : Addr}, Same H H4 → H4 l2 = none → RsN H (upd H4 l2 (.lst [])) (.ref l2) none := fun {H4 l2} s hl2 => ⟨l2, rfl, s.free hl2, upd_same⟩
        refine ⟨_, rfl, .list [], _, .lst (SqL.of b3) .nil, .lst (SqL.of hD3) hall3.dp, by decide +kernel, shaped_res okg, _, rfl, ?_⟩
        rw [any_none okg]
        cases hn : noneB ([q]) with
        | true => exact iteT ⟨Nat.zero_le _, fun l2 hl2 => k _ _ (same_new s5 hl2) ((show none = q.bind (partL k') by
            cases q with
            | none => rfl
            | some d => cases hn) ▸ fail s5 hl2)⟩
        | false =>
          obtain ⟨ds, hds⟩ := noneB_false hn
          refine iteF ?_
          have allD : DtAll H3 vs ds := RsAll.dt (hds ▸ hall3)
          obtain ⟨d, rfl, rfl⟩ : ∃ d, ds = [d] ∧ q = some d := by
            match ds, hds with
            | [d], z =>
              cases z
              exact ⟨d, rfl, rfl⟩
          cases allD with
          | @cons v1 _ _ _ hv1 allD =>
          cases allD
          have er : (some d).bind (partL k') = partL k' d := rfl
          rw [er] at k
          have okd := okq (some d) (by simp) d rfl
          have c0 : atI [v1] 0 = some v1 := atI_int (by decide) rfl
          refine ⟨_, rfl, rfl, _, rfl, n1 (by decide) ⟨_, rfl, D, _, _, v1, rfl, rfl, SqL.of hD3, c0, ?_⟩⟩
          refine ⟨_, rfl, rfl, _, rfl, y1 ?_⟩
          refine ⟨_, rfl, v1, .ty "tuple", _, .type "tuple", isTup d, rfl, .ty _, hv1.ty, hv1.kTup, isTup d, rfl, ?_⟩
          cases hv1 with
          | non => exact iteF ⟨Nat.zero_le _, fun l2 hl2 => k _ _ (same_new s5 hl2) (fail s5 hl2)⟩
          | int i => exact iteF ⟨Nat.zero_le _, fun l2 hl2 => k _ _ (same_new s5 hl2) (fail s5 hl2)⟩
          | str z => exact iteF ⟨Nat.zero_le _, fun l2 hl2 => k _ _ (same_new s5 hl2) (fail s5 hl2)⟩
          | @tup b ys es eb bl =>
            refine iteT ⟨_, rfl, _, .tuple es, 12, rfl, .tup eb bl, okd.1, by decide, _, rfl, ?_⟩
            cases hh : isHoldL (.tuple es) with
            | true =>
              have e0 : partL k' (.tuple es) = none := if_pos hh
              rw [e0] at k
              exact iteF ⟨Nat.zero_le _, fun l2 hl2 => k _ _ (same_new s5 hl2) (fail s5 hl2)⟩
            | false =>
              have e0 : partL k' (.tuple es) = some ((es ++ [PyData.none, .none, .none, .none, .none]).getD k' .none) := if_neg (by rw [hh]; decide)
              rw [e0] at k
              refine iteT ⟨_, rfl, (by show 1 ≤ sizeLine; decide), fun t1 ht1 => ?_⟩
              have s6 := same_new s5 ht1 (o := .tup [V.non])
              have s6' := same_new (Same.refl H3) ht1 (o := .tup [V.non])
              have b6 : upd H3 t1 (.tup [V.non]) t1 = some (.tup [V.non]) := upd_same
              generalize upd H3 t1 (.tup [V.non]) = H4 at s6 s6' b6 ⊢
              refine ⟨t1, 5, [V.non], rfl, rfl, SqT.of b6, by simp, by decide, by decide, by decide, fun t2 ht2 => ?_⟩
              have s7 := same_new s6 ht2 (o := .tup [V.non, .non, .non, .non, .non])
              have s7' := same_new s6' ht2 (o := .tup [V.non, .non, .non, .non, .non])
              have b7 : upd H4 t2 (.tup (List.replicate (5 : Int).toNat [V.non]).flatten) t2 = some (.tup [V.non, .non, .non, .non, .non]) := upd_same
              have e7 : (List.replicate (5 : Int).toNat [V.non]).flatten = [V.non, .non, .non, .non, .non] := rfl
              rw [e7] at b7 ⊢
              generalize upd H4 t2 (.tup [V.non, .non, .non, .non, .non]) = H5 at s7 s7' b7 ⊢
              have five : DtAll H5 [V.non, .non, .non, .non, .non] [PyData.none, .none, .none, .none, .none] := .cons .non (.cons .non (.cons .non (.cons .non (.cons .non .nil))))
              have full := (bl.mono (sameTups s7')).app five
              have lys := bl.length
              have kl : k' < (ys ++ [V.non, .non, .non, .non, .non]).length := by
                rw [List.length_append]
                show k' < ys.length + 5
                omega
              have hx : (ys ++ [V.non, .non, .non, .non, .non])[k']? = some (ys ++ [V.non, .non, .non, .non, .non])[k'] := List.getElem?_eq_getElem kl
              obtain ⟨d', hd', hdx⟩ := full.get k' _ hx
              have eg : (es ++ [PyData.none, .none, .none, .none, .none]).getD k' .none = d' := by
                rw [List.getD_eq_getElem?_getD, hd']
                rfl
              rw [eg] at k
              obtain ⟨m, em, hes, _⟩ := Gd.tupI okd.1
              refine ⟨b, t2, ys, _, rfl, rfl, SqT.of (s7' _ _ eb), SqT.of b7, ?_, fun z => ?_, (fun _ z => nomatch z), fun _ _ t3 ht3 => ?_⟩
              · exact Nat.le_trans (show ys.length + 5 ≤ 2000 by omega) (by decide)
              · subst z
                exact ⟨_, rfl, a, _, _, _, rfl, rfl, SqT.of (s7 _ _ e), a2, t2, _, _, _, rfl, rfl, SqT.of b7, atI_nat hx, k _ H5 s7 hdx⟩
              · have s8 := same_new s7 ht3 (o := .tup (ys ++ [V.non, .non, .non, .non, .non]))
                exact ⟨_, rfl, a, _, _, _, rfl, rfl, SqT.of (s8 _ _ e), a2, t3, _, _, _, rfl, rfl, SqT.of upd_same, atI_nat hx, k _ _ s8 (Dt.mono (sameTups (same_new (Same.refl _) ht3)) hdx)⟩
    · cases hd with
      | @tup a xs _ e al =>
      cases al with
      | @cons u0 us _ _ e0 al =>
      cases e0
      have a0 : atI (V.str "row" :: us) 0 = some (V.str "row") := atI_int (by decide) rfl
      have nn := ao "row" (by decide)
      refine ⟨_, rfl, a, _, _, _, rfl, rfl, SqT.of e, a0, ?_⟩
      refine ⟨_, rfl, rfl, _, rfl, n1 nn.2.1 ⟨_, rfl, rfl, _, rfl, n1 nn.2.2 ?_⟩⟩
      refine ⟨_, rfl, (by show 2 ≤ sizeLine; decide), fun tp htp => ?_⟩
      have s1 := same_new (Same.refl H) htp (o := .tup [.str "var", .str "own"])
      have b1 : upd H tp (.tup [.str "var", .str "own"]) tp = some (.tup [.str "var", .str "own"]) := upd_same
      generalize upd H tp (.tup [.str "var", .str "own"]) = H1 at s1 b1 ⊢
      refine ⟨tp, _, rfl, .inr (SqT.of b1), rfl, rfl, _, rfl, ?_⟩
      show if inV (.str "row") [.str "var", .str "own"] = true then _ else _
      rw [nn.1]
      refine iteF ⟨_, rfl, rfl, _, rfl, ?_⟩
      refine n1 (by decide) ⟨_, rfl, _, rfl, a, _, rfl, SqT.of (s1 _ _ e), (fun z => ?_), fun p hp => ?_⟩
      · have z1 : min 1 (V.str "row" :: us).length = 0 := (HT.sIx_nat (n := (V.str "row" :: us).length) (k := 1) (d := 0)).symm.trans z.1
        rw [Nat.min_eq_left (by simp)] at z1
        cases z1
      rw [cutV_tail]
      have s2 := same_new s1 hp (o := .tup us)
      have b2 : upd H1 p (.tup us) p = some (.tup us) := upd_same
      generalize upd H1 p (.tup us) = H2 at s2 b2 ⊢
      have us2 : DtAll H2 us ts := al.mono (sameTups s2)
      have lents : (ts : List PyData).length = (qs).length := hl'.symm
      have qle : (qs).length ≤ 9 := (by omega)
      have okq : ∀ q' ∈ (qs), ∀ d, q' = some d → Okl d := fun q' h d e => by
        obtain ⟨i, hi, ei⟩ := List.getElem_of_mem h
        have hq' : qs[i]? = some q' := by rw [List.getElem?_eq_getElem hi, ei]
        have ht' : ts[i]? = some (ts[i]'(by omega)) := List.getElem?_eq_getElem (by omega)
        exact (hev' i _ _ ht' hq').okl e
      have okg : ∀ q' ∈ (qs), ∀ d, q' = some d → Gd 12 d := fun q' h d e => (okq q' h d e).1
      have eve : ∀ (i : Nat) (t' : PyData) (q' : Option PyData), (ts : List PyData)[i]? = some t' → (qs)[i]? = some q' → EvL fn d1 d2 n t' q' := hev'
      refine ⟨p, rfl, ⟨_, SqT.of b2⟩, fun D hD => ?_⟩
      refine lc_tup (K := K) (a := p) (xs := us) (fun i H' => ∃ vs, H' D = some (.lst vs) ∧ RsAll D H' vs ((qs).take i) ∧ Same H2 H') ?_ ?_ ?_ ?_
      · exact ⟨[], upd_same, .nil, same_new (Same.refl _) hD⟩
      · rintro i H' _ ⟨vs, _, _, s'⟩
        exact SqT.of (s' _ _ b2)
      · rintro i x H' hi ⟨vs, hDl, hall, s'⟩
        obtain ⟨t', hti, htx⟩ := us2.get i x hi
        have hil : i < (qs).length := by
          have := (List.getElem?_eq_some_iff.mp hti).1
          omega
        have hqi : (qs)[i]? = some (qs)[i] := List.getElem?_eq_getElem hil
        refine ⟨rfl, _, rfl, _, rfl, x, g, t', (qs)[i], fn, d1, d2, rfl, htx.mono (sameTups s'), eve i t' _ hti hqi, hg.on (s2.trans s'), fun v' H3 s3 hv => ⟨vs, s3 _ _ hDl, ?_, vs ++ [v'], upd_same, ?_, same_mut (s'.trans s3) hD⟩⟩
        · have := hall.length
          rw [List.length_take] at this
          exact Nat.lt_of_le_of_lt (show vs.length ≤ 9 by omega) (by decide)
        · rw [List.take_add_one, hqi]
          exact ((hall.on s3).app (.cons (hv.at hDl) .nil)).mut (s3 _ _ hDl)
      · rintro H' ⟨vs, hDl, hall, s'⟩
        rw [List.take_of_length_le (by rw [us2.length, lents]; exact Nat.le_refl _)] at hall
        refine ⟨Nat.zero_le _, fun l hl => ?_⟩
        have s3 := same_new s' hl (o := .lst [])
        have b3 : upd H' l (.lst []) l = some (.lst []) := upd_same
        have hD3 : upd H' l (.lst []) D = some (.lst vs) := by rw [upd_ne (ne_of_none hDl hl)]; exact hDl
        have hall3 := hall.on (same_new (Same.refl _) hl (o := .lst []))
        generalize upd H' l (.lst []) = H3 at s3 b3 hD3 hall3 ⊢
        have s5 : Same H H3 := s2.trans s3
        have fail : ∀ {H4 : Hp} {l2 : Addr}, Same H H4 → H4 l2 = none → RsN H (upd H4 l2 (.lst [])) (.ref l2) none := fun {H4 l2} s hl2 => ⟨l2, rfl, s.free hl2, upd_same⟩
        refine ⟨_, rfl, .list [], _, .lst (SqL.of b3) .nil, .lst (SqL.of hD3) hall3.dp, by decide +kernel, shaped_res okg, _, rfl, ?_⟩
        rw [any_none okg]
        cases hn : noneB (qs) with
        | true => exact iteT ⟨Nat.zero_le _, fun l2 hl2 => k _ _ (same_new s5 hl2) ((show none = (seqO qs).bind rowL by rw [noneB_true hn]; rfl) ▸ fail s5 hl2)⟩
        | false =>
          obtain ⟨ds, hds⟩ := noneB_false hn
          refine iteF ?_
          have allD : DtAll H3 vs ds := RsAll.dt (hds ▸ hall3)
          have er : (seqO qs).bind rowL = rowL ds := by rw [hds, seqO_some]; rfl
          rw [er] at k
          have gds : ∀ d ∈ ds, Gd 12 d := fun d hd => okg (some d) (by rw [hds]; exact List.mem_map.mpr ⟨d, hd, rfl⟩) d rfl
          have lds : ds.length ≤ 9 := by
            have := congrArg List.length hds
            rw [List.length_map] at this
            omega
          have gT : Gd 13 (.tuple ds) := ⟨by omega, gds⟩
          refine ⟨_, rfl, rfl, _, rfl, y1 ?_⟩
          refine ⟨_, rfl, D, vs, rfl, .inl ⟨SqL.of hD3, fun t1 ht1 => ?_⟩⟩
          have s6 := same_new s5 ht1 (o := .tup vs)
          have s7 := same_new (Same.refl H3) ht1 (o := .tup vs)
          have b7 : upd H3 t1 (.tup vs) t1 = some (.tup vs) := upd_same
          generalize upd H3 t1 (.tup vs) = H4 at s6 s7 b7 ⊢
          refine ⟨.ref t1, .tuple ds, rfl, .tup b7 (allD.mono (sameTups s7)), gT, by decide, fun H5 s8 => ⟨_, _, rfl, rfl, _, rfl, ?_⟩⟩
          have s9 := s6.trans s8
          by_cases lt : deepL 14 (.tuple ds) < 4
          · rw [decide_eq_true (show ((deepL 14 (.tuple ds) : Nat) : Int) < 4 by omega)]
            refine iteT ⟨_, rfl, D, vs, rfl, .inl ⟨SqL.of (s8 _ _ (s7 _ _ hD3)), fun t2 ht2 => k _ _ (same_new s9 ht2) ?_⟩⟩
            rw [show rowL ds = some (.tuple ds) from if_pos lt]
            exact Dt.tup upd_same (allD.mono (sameTups (same_new (s7.trans s8) ht2)))
          · rw [decide_eq_false (show ¬ ((deepL 14 (.tuple ds) : Nat) : Int) < 4 by omega)]
            refine iteF ⟨Nat.zero_le _, fun l2 hl2 => k _ _ (same_new s9 hl2) ?_⟩
            rw [show rowL ds = none from if_neg lt]
            exact fail s9 hl2
    · cases hd with
      | @tup a xs _ e al =>
      cases al with
      | @cons u0 us _ _ e0 al =>
      cases e0
      have a0 : atI (V.str o :: us) 0 = some (V.str o) := atI_int (by decide) rfl
      have hoa := (oa o ho).1
      have nn := ao o (List.mem_cons_of_mem _ (List.mem_cons_of_mem _ ho))
      refine ⟨_, rfl, a, _, _, _, rfl, rfl, SqT.of e, a0, ?_⟩
      refine ⟨_, rfl, rfl, _, rfl, n1 nn.2.1 ⟨_, rfl, rfl, _, rfl, n1 nn.2.2 ?_⟩⟩
      refine ⟨_, rfl, (by show 2 ≤ sizeLine; decide), fun tp htp => ?_⟩
      have s1 := same_new (Same.refl H) htp (o := .tup [.str "var", .str "own"])
      have b1 : upd H tp (.tup [.str "var", .str "own"]) tp = some (.tup [.str "var", .str "own"]) := upd_same
      generalize upd H tp (.tup [.str "var", .str "own"]) = H1 at s1 b1 ⊢
      refine ⟨tp, _, rfl, .inr (SqT.of b1), rfl, rfl, _, rfl, ?_⟩
      show if inV (.str o) [.str "var", .str "own"] = true then _ else _
      rw [nn.1]
      refine iteF ⟨_, rfl, rfl, _, rfl, ?_⟩
      refine n1 hoa ⟨_, rfl, _, rfl, a, _, rfl, SqT.of (s1 _ _ e), (fun z => ?_), fun p hp => ?_⟩
      · have z1 : min 1 (V.str o :: us).length = 0 := (HT.sIx_nat (n := (V.str o :: us).length) (k := 1) (d := 0)).symm.trans z.1
        rw [Nat.min_eq_left (by simp)] at z1
        cases z1
      rw [cutV_tail]
      have s2 := same_new s1 hp (o := .tup us)
      have b2 : upd H1 p (.tup us) p = some (.tup us) := upd_same
      generalize upd H1 p (.tup us) = H2 at s2 b2 ⊢
      have us2 : DtAll H2 us [s, t] := al.mono (sameTups s2)
      have lents : ([s, t] : List PyData).length = ([q1, q2]).length := rfl
      have qle : ([q1, q2]).length ≤ 9 := (by show 2 ≤ 9; decide)
      have okq : ∀ q' ∈ ([q1, q2]), ∀ d, q' = some d → Okl d := fun q' h d e => by
        simp only [List.mem_cons, List.not_mem_nil, or_false] at h
        rcases h with rfl | rfl
        · exact hq1.okl e
        · exact hq2.okl e
      have okg : ∀ q' ∈ ([q1, q2]), ∀ d, q' = some d → Gd 12 d := fun q' h d e => (okq q' h d e).1
      have eve : ∀ (i : Nat) (t' : PyData) (q' : Option PyData), ([s, t] : List PyData)[i]? = some t' → ([q1, q2])[i]? = some q' → EvL fn d1 d2 n t' q' := fun i t' q' hi hq' => by
        match i with
        | 0 =>
          cases hi
          cases hq'
          exact hq1
        | 1 =>
          cases hi
          cases hq'
          exact hq2
        | i + 2 => cases hi
      refine ⟨p, rfl, ⟨_, SqT.of b2⟩, fun D hD => ?_⟩
      refine lc_tup (K := K) (a := p) (xs := us) (fun i H' => ∃ vs, H' D = some (.lst vs) ∧ RsAll D H' vs (([q1, q2]).take i) ∧ Same H2 H') ?_ ?_ ?_ ?_
      · exact ⟨[], upd_same, .nil, same_new (Same.refl _) hD⟩
      · rintro i H' _ ⟨vs, _, _, s'⟩
        exact SqT.of (s' _ _ b2)
      · rintro i x H' hi ⟨vs, hDl, hall, s'⟩
        obtain ⟨t', hti, htx⟩ := us2.get i x hi
        have hil : i < ([q1, q2]).length := by
          have := (List.getElem?_eq_some_iff.mp hti).1
          omega
        have hqi : ([q1, q2])[i]? = some ([q1, q2])[i] := List.getElem?_eq_getElem hil
        refine ⟨rfl, _, rfl, _, rfl, x, g, t', ([q1, q2])[i], fn, d1, d2, rfl, htx.mono (sameTups s'), eve i t' _ hti hqi, hg.on (s2.trans s'), fun v' H3 s3 hv => ⟨vs, s3 _ _ hDl, ?_, vs ++ [v'], upd_same, ?_, same_mut (s'.trans s3) hD⟩⟩
        · have := hall.length
          rw [List.length_take] at this
          exact Nat.lt_of_le_of_lt (show vs.length ≤ 9 by omega) (by decide)
        · rw [List.take_add_one, hqi]
          exact ((hall.on s3).app (.cons (hv.at hDl) .nil)).mut (s3 _ _ hDl)
      · rintro H' ⟨vs, hDl, hall, s'⟩
        rw [List.take_of_length_le (by rw [us2.length, lents]; exact Nat.le_refl _)] at hall
        refine ⟨Nat.zero_le _, fun l hl => ?_⟩
        have s3 := same_new s' hl (o := .lst [])
        have b3 : upd H' l (.lst []) l = some (.lst []) := upd_same
        have hD3 : upd H' l (.lst []) D = some (.lst vs) := by rw [upd_ne (ne_of_none hDl hl)]; exact hDl
        have hall3 := hall.on (same_new (Same.refl _) hl (o := .lst []))
        generalize upd H' l (.lst []) = H3 at s3 b3 hD3 hall3 ⊢
        have s5 : Same H H3 := s2.trans s3
        have fail : ∀ {H4 : Hp} {l2 : Addr}, Same H H4 → H4 l2 = none → RsN H (upd H4 l2 (.lst [])) (.ref l2) none := fun {H4 l2} s hl2 => ⟨l2, rfl, s.free hl2, upd_same⟩
        refine ⟨_, rfl, .list [], _, .lst (SqL.of b3) .nil, .lst (SqL.of hD3) hall3.dp, by decide +kernel, shaped_res okg, _, rfl, ?_⟩
        rw [any_none okg]
        cases hn : noneB ([q1, q2]) with
        | true => exact iteT ⟨Nat.zero_le _, fun l2 hl2 => k _ _ (same_new s5 hl2) ((show none = (seqO [q1, q2]).bind (pairL o) by rw [noneB_true hn]; rfl) ▸ fail s5 hl2)⟩
        | false =>
          obtain ⟨ds, hds⟩ := noneB_false hn
          refine iteF ?_
          have allD : DtAll H3 vs ds := RsAll.dt (hds ▸ hall3)
          obtain ⟨x1, x2, rfl, rfl, rfl⟩ : ∃ x1 x2, ds = [x1, x2] ∧ q1 = some x1 ∧ q2 = some x2 := by
            match ds, hds with
            | [x1, x2], z =>
              cases z
              exact ⟨_, _, rfl, rfl, rfl⟩
          cases allD with
          | @cons v1 _ _ _ hv1 allD =>
          cases allD with
          | @cons v2 _ _ _ hv2 allD =>
          cases allD
          have ok1 := okq (some x1) (by simp) x1 rfl
          have ok2 := okq (some x2) (by simp) x2 rfl
          have c0 : atI [v1, v2] 0 = some v1 := atI_int (by decide) rfl
          have c1 : atI [v1, v2] 1 = some v2 := atI_int (by decide) rfl
          have no2 := oa o ho
          refine ⟨_, rfl, rfl, _, rfl, n1 no2.2 ⟨_, rfl, D, _, _, v1, rfl, rfl, SqL.of hD3, c0, ?_⟩⟩
          refine ⟨_, rfl, rfl, _, rfl, n1 no2.1 ⟨_, rfl, D, _, _, v2, rfl, rfl, SqL.of hD3, c1, ?_⟩⟩
          have ho' := ho
          simp only [opsZ, List.mem_cons, List.not_mem_nil, or_false] at ho'
          rcases ho' with rfl | rfl | rfl | rfl
          · have er : (seqO [some x1, some x2]).bind (pairL "plus") = opM "plus" x1 x2 := (show _ = opL "plus" x1 x2 from rfl).trans (opL_ne (by decide))
            rw [er] at k
            refine ⟨_, rfl, rfl, _, rfl, n1 (by decide) ?_⟩
            have hw1 := hv1
            have hw2 := hv2
            cases hv1 with
            | non => exact ⟨_, rfl, rfl, _, rfl, iteT ⟨Nat.zero_le _, fun l2 hl2 => k _ _ (same_new s5 hl2) (fail s5 hl2)⟩⟩
            | tup e5 a5 => exact ⟨_, rfl, rfl, _, rfl, iteF ⟨_, rfl, _, .ty "tuple", _, .type "tuple", isTup _, rfl, .ty _, hw1.ty, hw1.kTup, isTup _, rfl, iteT ⟨Nat.zero_le _, fun l2 hl2 => k _ _ (same_new s5 hl2) (fail s5 hl2)⟩⟩⟩
            | int i =>
              refine ⟨_, rfl, rfl, _, rfl, iteF ⟨_, rfl, _, .ty "tuple", _, .type "tuple", isTup (.int i), rfl, .ty _, hw1.ty, hw1.kTup, isTup (.int i), rfl, iteF ?_⟩⟩
              refine ⟨_, rfl, _, .ty "str", _, .type "str", isStrD (.int i), rfl, .ty _, hw1.ty, hw1.kStr, _, rfl, _, .ty "str", _, .type "str", isStrD x2, rfl, .ty _, hw2.ty, hw2.kStr, rfl, _, rfl, ?_⟩
              cases hv2 with
              | str z => exact iteT ⟨Nat.zero_le _, fun l2 hl2 => k _ _ (same_new s5 hl2) (fail s5 hl2)⟩
              | non => exact iteF ⟨_, rfl, rfl, _, rfl, iteT ⟨Nat.zero_le _, fun l2 hl2 => k _ _ (same_new s5 hl2) (fail s5 hl2)⟩⟩
              | tup e5 a5 => exact iteF ⟨_, rfl, rfl, _, rfl, iteF ⟨_, rfl, _, .ty "tuple", _, .type "tuple", isTup _, rfl, .ty _, hw2.ty, hw2.kTup, isTup _, rfl, iteT ⟨Nat.zero_le _, fun l2 hl2 => k _ _ (same_new s5 hl2) (fail s5 hl2)⟩⟩⟩
              | int j =>
                refine iteF ⟨_, rfl, rfl, _, rfl, iteF ⟨_, rfl, _, .ty "tuple", _, .type "tuple", isTup (.int j), rfl, .ty _, hw2.ty, hw2.kTup, isTup (.int j), rfl, iteF ⟨_, rfl, _, .ty "str", _, .type "str", isStrD (.int i), rfl, .ty _, hw1.ty, hw1.kStr, isStrD (.int i), rfl, iteF ?_⟩⟩⟩
                refine ⟨_, rfl, rfl, _, rfl, n1 (by decide) ?_⟩
                have e0 : opM "plus" (.int i) (.int j) = bigL (i + j) := by rw [opM_ints, if_neg (by decide), if_pos rfl]
                rw [e0] at k
                refine ⟨_, rfl, rfl, _, rfl, y1 ⟨_, rfl, _, rfl, _, _, rfl, rfl, ?_⟩⟩
                refine ⟨_, rfl, _, rfl, _, _, rfl, rfl, ⟨by decide, by decide, by decide⟩, _, _, rfl, rfl, _, rfl, ?_⟩
                rw [show (10 : Int) ^ Int.toNat 9 = 1000000000 by decide]
                by_cases lt : (if i + j < 0 then -(i + j) else i + j) < 1000000000
                · rw [decide_eq_true lt]
                  refine iteT ⟨_, rfl, k _ H3 s5 ?_⟩
                  rw [show bigL (i + j) = some (.int (i + j)) from if_pos (decide_eq_true lt)]
                  exact Dt.int _
                · rw [decide_eq_false lt]
                  have e1 : bigL (i + j) = none := if_neg (by rw [decide_eq_false lt]; decide)
                  rw [e1] at k
                  exact iteF ⟨Nat.zero_le _, fun l2 hl2 => k _ _ (same_new s5 hl2) (fail s5 hl2)⟩
            | str z =>
              refine ⟨_, rfl, rfl, _, rfl, iteF ⟨_, rfl, _, .ty "tuple", _, .type "tuple", isTup (.str z), rfl, .ty _, hw1.ty, hw1.kTup, isTup (.str z), rfl, iteF ?_⟩⟩
              refine ⟨_, rfl, _, .ty "str", _, .type "str", isStrD (.str z), rfl, .ty _, hw1.ty, hw1.kStr, _, rfl, _, .ty "str", _, .type "str", isStrD x2, rfl, .ty _, hw2.ty, hw2.kStr, rfl, _, rfl, ?_⟩
              cases hv2 with
              | non => exact iteT ⟨Nat.zero_le _, fun l2 hl2 => k _ _ (same_new s5 hl2) (fail s5 hl2)⟩
              | int j => exact iteT ⟨Nat.zero_le _, fun l2 hl2 => k _ _ (same_new s5 hl2) (fail s5 hl2)⟩
              | tup e5 a5 => exact iteT ⟨Nat.zero_le _, fun l2 hl2 => k _ _ (same_new s5 hl2) (fail s5 hl2)⟩
              | str y =>
                refine iteF ⟨_, rfl, rfl, _, rfl, iteF ⟨_, rfl, _, .ty "tuple", _, .type "tuple", isTup (.str y), rfl, .ty _, hw2.ty, hw2.kTup, isTup (.str y), rfl, iteF ⟨_, rfl, _, .ty "str", _, .type "str", isStrD (.str z), rfl, .ty _, hw1.ty, hw1.kStr, isStrD (.str z), rfl, iteT ?_⟩⟩⟩
                refine ⟨_, rfl, rfl, _, rfl, ?_⟩
                rw [show (!decide (V.str "plus" = V.str "less")) = true by decide +kernel]
                have e0 : opM "plus" (.str z) (.str y) = none := by rw [opM_strs, if_neg (by decide)]
                rw [e0] at k
                exact iteT ⟨Nat.zero_le _, fun l2 hl2 => k _ _ (same_new s5 hl2) (fail s5 hl2)⟩
          · have er : (seqO [some x1, some x2]).bind (pairL "times") = opM "times" x1 x2 := (show _ = opL "times" x1 x2 from rfl).trans (opL_ne (by decide))
            rw [er] at k
            refine ⟨_, rfl, rfl, _, rfl, n1 (by decide) ?_⟩
            have hw1 := hv1
            have hw2 := hv2
            cases hv1 with
            | non => exact ⟨_, rfl, rfl, _, rfl, iteT ⟨Nat.zero_le _, fun l2 hl2 => k _ _ (same_new s5 hl2) (fail s5 hl2)⟩⟩
            | tup e5 a5 => exact ⟨_, rfl, rfl, _, rfl, iteF ⟨_, rfl, _, .ty "tuple", _, .type "tuple", isTup _, rfl, .ty _, hw1.ty, hw1.kTup, isTup _, rfl, iteT ⟨Nat.zero_le _, fun l2 hl2 => k _ _ (same_new s5 hl2) (fail s5 hl2)⟩⟩⟩
            | int i =>
              refine ⟨_, rfl, rfl, _, rfl, iteF ⟨_, rfl, _, .ty "tuple", _, .type "tuple", isTup (.int i), rfl, .ty _, hw1.ty, hw1.kTup, isTup (.int i), rfl, iteF ?_⟩⟩
              refine ⟨_, rfl, _, .ty "str", _, .type "str", isStrD (.int i), rfl, .ty _, hw1.ty, hw1.kStr, _, rfl, _, .ty "str", _, .type "str", isStrD x2, rfl, .ty _, hw2.ty, hw2.kStr, rfl, _, rfl, ?_⟩
              cases hv2 with
              | str z => exact iteT ⟨Nat.zero_le _, fun l2 hl2 => k _ _ (same_new s5 hl2) (fail s5 hl2)⟩
              | non => exact iteF ⟨_, rfl, rfl, _, rfl, iteT ⟨Nat.zero_le _, fun l2 hl2 => k _ _ (same_new s5 hl2) (fail s5 hl2)⟩⟩
              | tup e5 a5 => exact iteF ⟨_, rfl, rfl, _, rfl, iteF ⟨_, rfl, _, .ty "tuple", _, .type "tuple", isTup _, rfl, .ty _, hw2.ty, hw2.kTup, isTup _, rfl, iteT ⟨Nat.zero_le _, fun l2 hl2 => k _ _ (same_new s5 hl2) (fail s5 hl2)⟩⟩⟩
              | int j =>
                refine iteF ⟨_, rfl, rfl, _, rfl, iteF ⟨_, rfl, _, .ty "tuple", _, .type "tuple", isTup (.int j), rfl, .ty _, hw2.ty, hw2.kTup, isTup (.int j), rfl, iteF ⟨_, rfl, _, .ty "str", _, .type "str", isStrD (.int i), rfl, .ty _, hw1.ty, hw1.kStr, isStrD (.int i), rfl, iteF ?_⟩⟩⟩
                refine ⟨_, rfl, rfl, _, rfl, n1 (by decide) ?_⟩
                have e0 : opM "times" (.int i) (.int j) = bigL (i * j) := by rw [opM_ints, if_neg (by decide), if_neg (by decide)]
                rw [e0] at k
                refine ⟨_, rfl, rfl, _, rfl, n1 (by decide) ⟨_, rfl, _, rfl, _, _, rfl, rfl, .inl ⟨by have := (ok1.2.2 i rfl).1; omega, by have := (ok1.2.2 i rfl).2; omega⟩, ?_⟩⟩
                refine ⟨_, rfl, _, rfl, _, _, rfl, rfl, ⟨by decide, by decide, by decide⟩, _, _, rfl, rfl, _, rfl, ?_⟩
                rw [show (10 : Int) ^ Int.toNat 9 = 1000000000 by decide]
                by_cases lt : (if i * j < 0 then -(i * j) else i * j) < 1000000000
                · rw [decide_eq_true lt]
                  refine iteT ⟨_, rfl, k _ H3 s5 ?_⟩
                  rw [show bigL (i * j) = some (.int (i * j)) from if_pos (decide_eq_true lt)]
                  exact Dt.int _
                · rw [decide_eq_false lt]
                  have e1 : bigL (i * j) = none := if_neg (by rw [decide_eq_false lt]; decide)
                  rw [e1] at k
                  exact iteF ⟨Nat.zero_le _, fun l2 hl2 => k _ _ (same_new s5 hl2) (fail s5 hl2)⟩
            | str z =>
              refine ⟨_, rfl, rfl, _, rfl, iteF ⟨_, rfl, _, .ty "tuple", _, .type "tuple", isTup (.str z), rfl, .ty _, hw1.ty, hw1.kTup, isTup (.str z), rfl, iteF ?_⟩⟩
              refine ⟨_, rfl, _, .ty "str", _, .type "str", isStrD (.str z), rfl, .ty _, hw1.ty, hw1.kStr, _, rfl, _, .ty "str", _, .type "str", isStrD x2, rfl, .ty _, hw2.ty, hw2.kStr, rfl, _, rfl, ?_⟩
              cases hv2 with
              | non => exact iteT ⟨Nat.zero_le _, fun l2 hl2 => k _ _ (same_new s5 hl2) (fail s5 hl2)⟩
              | int j => exact iteT ⟨Nat.zero_le _, fun l2 hl2 => k _ _ (same_new s5 hl2) (fail s5 hl2)⟩
              | tup e5 a5 => exact iteT ⟨Nat.zero_le _, fun l2 hl2 => k _ _ (same_new s5 hl2) (fail s5 hl2)⟩
              | str y =>
                refine iteF ⟨_, rfl, rfl, _, rfl, iteF ⟨_, rfl, _, .ty "tuple", _, .type "tuple", isTup (.str y), rfl, .ty _, hw2.ty, hw2.kTup, isTup (.str y), rfl, iteF ⟨_, rfl, _, .ty "str", _, .type "str", isStrD (.str z), rfl, .ty _, hw1.ty, hw1.kStr, isStrD (.str z), rfl, iteT ?_⟩⟩⟩
                refine ⟨_, rfl, rfl, _, rfl, ?_⟩
                rw [show (!decide (V.str "times" = V.str "less")) = true by decide +kernel]
                have e0 : opM "times" (.str z) (.str y) = none := by rw [opM_strs, if_neg (by decide)]
                rw [e0] at k
                exact iteT ⟨Nat.zero_le _, fun l2 hl2 => k _ _ (same_new s5 hl2) (fail s5 hl2)⟩
          · have er : (seqO [some x1, some x2]).bind (pairL "less") = opM "less" x1 x2 := (show _ = opL "less" x1 x2 from rfl).trans (opL_ne (by decide))
            rw [er] at k
            refine ⟨_, rfl, rfl, _, rfl, n1 (by decide) ?_⟩
            have hw1 := hv1
            have hw2 := hv2
            cases hv1 with
            | non => exact ⟨_, rfl, rfl, _, rfl, iteT ⟨Nat.zero_le _, fun l2 hl2 => k _ _ (same_new s5 hl2) (fail s5 hl2)⟩⟩
            | tup e5 a5 => exact ⟨_, rfl, rfl, _, rfl, iteF ⟨_, rfl, _, .ty "tuple", _, .type "tuple", isTup _, rfl, .ty _, hw1.ty, hw1.kTup, isTup _, rfl, iteT ⟨Nat.zero_le _, fun l2 hl2 => k _ _ (same_new s5 hl2) (fail s5 hl2)⟩⟩⟩
            | int i =>
              refine ⟨_, rfl, rfl, _, rfl, iteF ⟨_, rfl, _, .ty "tuple", _, .type "tuple", isTup (.int i), rfl, .ty _, hw1.ty, hw1.kTup, isTup (.int i), rfl, iteF ?_⟩⟩
              refine ⟨_, rfl, _, .ty "str", _, .type "str", isStrD (.int i), rfl, .ty _, hw1.ty, hw1.kStr, _, rfl, _, .ty "str", _, .type "str", isStrD x2, rfl, .ty _, hw2.ty, hw2.kStr, rfl, _, rfl, ?_⟩
              cases hv2 with
              | str z => exact iteT ⟨Nat.zero_le _, fun l2 hl2 => k _ _ (same_new s5 hl2) (fail s5 hl2)⟩
              | non => exact iteF ⟨_, rfl, rfl, _, rfl, iteT ⟨Nat.zero_le _, fun l2 hl2 => k _ _ (same_new s5 hl2) (fail s5 hl2)⟩⟩
              | tup e5 a5 => exact iteF ⟨_, rfl, rfl, _, rfl, iteF ⟨_, rfl, _, .ty "tuple", _, .type "tuple", isTup _, rfl, .ty _, hw2.ty, hw2.kTup, isTup _, rfl, iteT ⟨Nat.zero_le _, fun l2 hl2 => k _ _ (same_new s5 hl2) (fail s5 hl2)⟩⟩⟩
              | int j =>
                refine iteF ⟨_, rfl, rfl, _, rfl, iteF ⟨_, rfl, _, .ty "tuple", _, .type "tuple", isTup (.int j), rfl, .ty _, hw2.ty, hw2.kTup, isTup (.int j), rfl, iteF ⟨_, rfl, _, .ty "str", _, .type "str", isStrD (.int i), rfl, .ty _, hw1.ty, hw1.kStr, isStrD (.int i), rfl, iteF ?_⟩⟩⟩
                refine ⟨_, rfl, rfl, _, rfl, y1 ?_⟩
                have e0 : opM "less" (.int i) (.int j) = some (.int (if decide (i < j) = true then 1 else 0)) := by rw [opM_ints, if_pos rfl]
                rw [e0] at k
                exact ⟨_, rfl, _, rfl, .inl ⟨i, j, rfl, rfl, .inr ⟨_, rfl, k _ H3 s5 (Dt.int _)⟩⟩⟩
            | str z =>
              refine ⟨_, rfl, rfl, _, rfl, iteF ⟨_, rfl, _, .ty "tuple", _, .type "tuple", isTup (.str z), rfl, .ty _, hw1.ty, hw1.kTup, isTup (.str z), rfl, iteF ?_⟩⟩
              refine ⟨_, rfl, _, .ty "str", _, .type "str", isStrD (.str z), rfl, .ty _, hw1.ty, hw1.kStr, _, rfl, _, .ty "str", _, .type "str", isStrD x2, rfl, .ty _, hw2.ty, hw2.kStr, rfl, _, rfl, ?_⟩
              cases hv2 with
              | non => exact iteT ⟨Nat.zero_le _, fun l2 hl2 => k _ _ (same_new s5 hl2) (fail s5 hl2)⟩
              | int j => exact iteT ⟨Nat.zero_le _, fun l2 hl2 => k _ _ (same_new s5 hl2) (fail s5 hl2)⟩
              | tup e5 a5 => exact iteT ⟨Nat.zero_le _, fun l2 hl2 => k _ _ (same_new s5 hl2) (fail s5 hl2)⟩
              | str y =>
                refine iteF ⟨_, rfl, rfl, _, rfl, iteF ⟨_, rfl, _, .ty "tuple", _, .type "tuple", isTup (.str y), rfl, .ty _, hw2.ty, hw2.kTup, isTup (.str y), rfl, iteF ⟨_, rfl, _, .ty "str", _, .type "str", isStrD (.str z), rfl, .ty _, hw1.ty, hw1.kStr, isStrD (.str z), rfl, iteT ?_⟩⟩⟩
                refine ⟨_, rfl, rfl, _, rfl, ?_⟩
                rw [show (!decide (V.str "less" = V.str "less")) = false by decide +kernel]
                refine iteF ⟨_, rfl, rfl, _, rfl, y1 ?_⟩
                have e0 : opM "less" (.str z) (.str y) = some (.int (if decide (z.cps.toList < y.cps.toList) = true then 1 else 0)) := by rw [opM_strs, if_pos rfl]
                rw [e0] at k
                exact ⟨_, rfl, _, rfl, .inr ⟨z, y, rfl, rfl, .inr ⟨_, rfl, k _ H3 s5 (Dt.int _)⟩⟩⟩
          · have er : (seqO [some x1, some x2]).bind (pairL "same") = sameL x1 x2 := (show _ = opL "same" x1 x2 from rfl).trans (if_pos rfl)
            rw [er] at k
            refine ⟨_, rfl, rfl, _, rfl, y1 ?_⟩
            refine ⟨_, rfl, v1, x1, rfl, hv1, ok1.1, by decide, ok1.2.1, fun l1 H4 hl1 e4 s6 => ?_⟩
            refine ⟨_, rfl, v2, x2, rfl, hv2.mono (sameTups s6), ok2.1, by decide, ok2.2.1, fun l2 H5 hl2 e5 s7 => ?_⟩
            refine ⟨l1, l2, _, _, rfl, rfl, s7 _ _ e4, e5, ?_, fun p2 hp2 => ?_⟩
            · rw [List.length_map, List.length_map]
              exact Nat.le_trans (show (holdsL 13 x1).length + (holdsL 13 x2).length ≤ 2000 from Nat.add_le_add ok1.2.1 ok2.2.1) (by decide)
            have s8 : Same H3 (upd H5 p2 (.lst ((holdsL 13 x1).map V.str ++ (holdsL 13 x2).map V.str))) := same_new (s6.trans s7) hp2
            have b8 : upd H5 p2 (.lst ((holdsL 13 x1).map V.str ++ (holdsL 13 x2).map V.str)) p2 = some (.lst ((holdsL 13 x1 ++ holdsL 13 x2).map V.str)) := by rw [upd_same, List.map_append]
            generalize upd H5 p2 (.lst ((holdsL 13 x1).map V.str ++ (holdsL 13 x2).map V.str)) = H6 at s8 b8 ⊢
            refine ⟨Nat.zero_le _, fun p3 hp3 => ?_⟩
            have s9 := same_new s8 hp3 (o := .lst [])
            have b9 : upd H6 p3 (.lst []) p3 = some (.lst []) := upd_same
            have b10 : upd H6 p3 (.lst []) p2 = some (.lst ((holdsL 13 x1 ++ holdsL 13 x2).map V.str)) := by rw [upd_ne (ne_of_none b8 hp3)]; exact b8
            generalize upd H6 p3 (.lst []) = H7 at s9 b9 b10 ⊢
            have sok : ∀ z ∈ holdsL 13 x1 ++ holdsL 13 x2, PyData.strOk z = true := fun z hz => (List.mem_append.mp hz).elim (holdsL_ok 13 12 x1 ok1.1 z) (holdsL_ok 13 12 x2 ok2.1 z)
            refine ⟨.list ((holdsL 13 x1 ++ holdsL 13 x2).map PyData.str), .list [], .lst (SqL.of b10) (dp_strs _), .lst (SqL.of b9) .nil, strs_shaped sok, by decide +kernel, _, rfl, ?_⟩
            rw [eqv_strs]
            have s10 := s5.trans s9
            by_cases em : holdsL 13 x1 ++ holdsL 13 x2 = []
            · rw [decide_eq_true em]
              obtain ⟨em1, em2⟩ := List.append_eq_nil_iff.mp em
              have e0 : sameL x1 x2 = some (.int (if PyData.eqv x1 x2 = true then 1 else 0)) := if_pos ⟨em1, em2⟩
              rw [e0] at k
              exact iteT ⟨_, rfl, _, rfl, x1, x2, (hv1.mono (sameTups s9)).dp, (hv2.mono (sameTups s9)).dp, ok1.1.shaped (by decide), ok2.1.shaped (by decide), .inr ⟨_, rfl, k _ H7 s10 (Dt.int _)⟩⟩
            · rw [decide_eq_false em]
              have e0 : sameL x1 x2 = none := if_neg fun z => em (List.append_eq_nil_iff.mpr z)
              rw [e0] at k
              exact iteF ⟨Nat.zero_le _, fun l3 hl3 => k _ _ (same_new s10 hl3) (fail s10 hl3)⟩

end
end K3
namespace GG
open PySem PySem.Spec PyProof.Rows L2
/-! ### t * 1 -/
theorem mul_one_tup (l : Addr) (items : Array Value) (n : Nat) (dd : Option Addr) (sl : Array (Option Value)) (u : Tok) :
    Meets (Builtin.«tuple.__mul__» ⟨[.ref l, .int 1 u], []⟩) (fun _ R s => s.heap.get? l = some { cls := .type "tuple", dict := dd, data := .seq items n, slots := sl } ∧ R (.ok (.ret (Value.ref l))) s) :=
  .of_wp fun prog w A R s h => by
    obtain ⟨hp, g, d, tk, os⟩ := s
    obtain ⟨hl, h⟩ := h
    have f1 := AutoSeq1.idx_int
    have c0 : (decide ((1 : Int) < -(2 ^ 63)) || decide ((1 : Int) ≥ 2 ^ 63)) = false := by decide
    have c1 : (items.isEmpty || (1 : Int) == 1) = true := by simp
    wp_walk using wpAny_loadPart' hl
    repeat (first
      | (refine wpAny_ite_false (decide_eq_false (by rw [c0]; exact Bool.false_ne_true)) ?_; wp_walk using wpAny_loadPart' hl)
      | (refine wpAny_ite_true (decide_eq_true (by rw [c1])) ?_; wp_walk using wpAny_loadPart' hl))
    exact ⟨_, rfl, h⟩
def rRep1 (K : PySem.W.Frag) : R2 := fun x y H Q => ∃ l xs, x = .ref l ∧ y = .int 1 ∧ SqT K H l xs ∧ Q (.ref l) H
theorem op_rep1 {X : Cx} : OpR X (binaryOp .Mult) (rRep1 X.K) := by
  rintro pins s σ H x y v u Q I rx ry ⟨l, xs, rfl, rfl, hT, q⟩
  cases rx
  obtain ⟨t, rfl⟩ := ry
  obtain ⟨its, r, ⟨⟨cls, dd, data, sl⟩, ho, hc, n, hd⟩, hs⟩ := I.tuple hT
  cases (show cls = .type "tuple" from hc)
  cases (show data = .seq its.toArray n from hd)
  refine wpAny_binaryOp_repeat_ref (T := "tuple") (U := "int") (by decide) ⟨_, ho, rfl⟩ (fun s' => typeIs_int s' 1 t) noFill_tuple_mul PySem.F.fills_int_mul PySem.F.slot_int_rmul repeat_tuple PySem.F.slot_int_index.lookup ?_
  refine call_meets PySem.F.slot_int_rmul (typeIs_int s 1 t) PySem.F.entry_int_rmul (PySem.F.args_int_rmul_2 _ _) (int_rmul_tuple 1 t l its.toArray n dd sl) ⟨ho, rfl, ⟨_, ho, rfl⟩, ?_⟩
  exact call_meets PySem.F.slot_tuple_mul ⟨_, ho, rfl⟩ PySem.F.entry_tuple_mul (PySem.F.args_tuple_mul_2 _ _) (mul_one_tup l its.toArray n dd sl t) ⟨ho, ⟨.ref l, H, I, rfl, q⟩⟩
end GG
namespace K3
open PySem PySem.Spec PyProof.Rows L2 GG
/-! ### the law's deeds: give -/
def hereK (fl kn sy mk pu : Addr) (ans : V) (ov : Bool) : List (Key × V) := [(.inr "me", .str "0#0"), (.inr "call", .str "0:0"), (.inr "fields", .ref fl), (.inr "known", .ref kn), (.inr "says", .ref sy), (.inr "makes", .ref mk), (.inr "puts", .ref pu), (.inr "goes", .non), (.inr "answer", ans), (.inr "over", .bl ov)]
def spEff : Sp := fun vs H Q _ => ∃ (vb v vtold : V) (t l h fl kn sy mk pu : Addr), vs = [vb, .ref t, .ref l, .ref h] ∧ H t = some (.tup [.str "give", vtold]) ∧ H l = some (.lst [v]) ∧ H h = some (.dK (hereK fl kn sy mk pu .non false)) ∧ H pu = some (.lst []) ∧
  ∀ H', But (· = h) H H' → H' h = some (.dK (hereK fl kn sy mk pu v true)) → Q .non H'
def spOne : Sp := fun vs H Q _ => ∃ (vb vt : V) (h fl kn sy mk pu : Addr) (told : PyData) (r : Option PyData) (fn : Str) (d1 d2 : PyData), vs = [vb, vt, .ref h] ∧ Dt H vt (.tuple [.str "give", told]) ∧ EvL fn d1 d2 3 told r ∧ HeAt H h fn d1 d2 ∧
  H h = some (.dK (hereK fl kn sy mk pu .non false)) ∧ H pu = some (.lst []) ∧ (∀ d, r = some d → ∀ v H', But (· = h) H H' → H' h = some (.dK (hereK fl kn sy mk pu v true)) → Dt H' v d → Q .non H') ∧ (r = none → ∀ H', Same H H' → Q (.str "odd") H')
def spDo : Sp := fun vs H Q _ => ∃ (vb vd : V) (h fl kn sy mk pu : Addr) (told : PyData) (r : Option PyData) (fn : Str) (d1 d2 : PyData), vs = [vb, vd, .ref h] ∧ Dt H vd (.tuple [.tuple [.str "give", told]]) ∧ EvL fn d1 d2 3 told r ∧ HeAt H h fn d1 d2 ∧
  H h = some (.dK (hereK fl kn sy mk pu .non false)) ∧ H pu = some (.lst []) ∧ (∀ d, r = some d → ∀ v H', But (· = h) H H' → H' h = some (.dK (hereK fl kn sy mk pu v true)) → Dt H' v d → Q .non H') ∧ (r = none → ∀ H', Same H H' → Q (.str "odd") H')
abbrev sEff : Stmt := top 58
abbrev sOne : Stmt := top 57
abbrev sDo : Stmt := top 56
theorem scEf : FnScope ["_law_book", "_law_task", "_law_some", "_law_here", "_law_term", "_law_name", "_law_made"] ["_law_book", "_law_task", "_law_some", "_law_here"] (defScope sEff) := ⟨rfl, rfl, rfl, by decide +kernel, rfl, by decide +kernel, by decide +kernel⟩
theorem scOn : FnScope ["_law_book", "_law_task", "_law_here", "_law_term", "_law_worth_here", "_law_told", "_law_more", "_law_some", "_law_one"] ["_law_book", "_law_task", "_law_here"] (defScope sOne) := ⟨rfl, rfl, rfl, by decide +kernel, rfl, by decide +kernel, by decide +kernel⟩
theorem scDo : FnScope ["_law_book", "_law_deeds", "_law_here", "_law_why", "_law_task"] ["_law_book", "_law_deeds", "_law_here"] (defScope sDo) := ⟨rfl, rfl, rfl, by decide +kernel, rfl, by decide +kernel, by decide +kernel⟩
section
variable {P : Program} {w : World} {K : PySem.W.Frag} {mg : Str → Option Value} {base : Heap}
theorem ok_eff {f : Addr} {fd : FuncData} (F : Fun K "_law_effect" "_law_effect" sEff f fd) (T : Txt mg) (zs : mg "str" = none) : FnOk P w K mg base CX0 1 f fd ["_law_book", "_law_task", "_law_some", "_law_here"] spEff := by
  refine F.ok scEf (fun vs H Q E h => ?_) (fun cdv A outer s H vs Q E hr h => ?_)
  · obtain ⟨vb, v, vtold, t, l, h, fl, kn, sy, mk, pu, rfl, _⟩ := h
    rfl
  · obtain ⟨vb, v, vtold, t, l, h, fl, kn, sy, mk, pu, rfl, ht, hl, hh, hp, k⟩ := h
    have nd := scEf.nd
    have hu := hu_of hr
    refine ⟨_, pss_cons (ps_par (i := 4) (j := 5) rfl nd rfl rfl (by decide) rfl rfl (pa_cons (pe_ix ix_tup (pv 1) pe_int (fun _ _ => rfl)) (pa_cons (pe_op op_add_str (pe_op op_add_str (pe_dget hu (pv 3) pe_str (fun _ _ => rfl)) pe_str)
          (pe_callTy call_str_int (by rfl) zs (by decide +kernel) (pa_cons (pe_callB call_len_seq (by rfl) T.len PySem.boot_len (pa_cons (pe_dget hu (pv 3) pe_str (fun _ _ => rfl)) pa_nil)) pa_nil))) pa_nil)) (by rfl))
      (pss_one (ps_if (pt_cmpR op_eq (pv 4) pe_str (nomark _)) (pss_one ps_never)
        (pss_one (ps_if (pt_cmpR op_eq (pv 4) pe_str (nomark _)) (pss_one ps_never)
        (pss_one (ps_if (pt_cmpR op_eq (pv 4) pe_str (nomark _)) (pss_one ps_never)
        (pss_one (ps_if (pt_cmpR op_eq (pv 4) pe_str (nomark _)) (pss_one (ps_expr (pe_bm PySem.F.plainAttrs_dict PySem.F.slot_dict_update PySem.F.type_dict_update mt_update (pv 3)
            (pa_cons (pe_disp (pps_cons pe_str (pe_ix ix_list (pv 2) pe_int (fun _ _ => rfl)) (pps_cons pe_str pe_bl pps_nil)) (by rfl) (by rfl) (fun z => by cases z) (by decide)) pa_nil)))) (pss_one ps_never))))))))), ?_⟩
    have no : ∀ {a b : Str} {A B : Prop}, a ≠ b → B → (if decide (V.str a = V.str b) = true then A else B) := fun {a b A B} ne h => by
      rw [decide_eq_false fun q => ne (by cases q; rfl)]
      exact iteF h
    have a0 : atI [V.str "give", vtold] 0 = some (V.str "give") := atI_int (by decide) rfl
    have c0 : atI [v] 0 = some v := atI_int (by decide) rfl
    refine ⟨_, rfl, t, _, _, _, rfl, rfl, SqT.of ht, a0, ?_⟩
    refine ⟨_, rfl, h, _, rfl, dget_str hh rfl, _, _, rfl, rfl, by decide +kernel, ?_⟩
    refine ⟨_, rfl, h, _, rfl, dget_str hh rfl, pu, [], rfl, .inl (SqL.of hp), _, rfl, by decide +kernel, _, _, rfl, rfl, by decide +kernel, _, _, rfl, ?_⟩
    refine ⟨_, rfl, rfl, _, rfl, no (by decide) ⟨_, rfl, rfl, _, rfl, no (by decide) ⟨_, rfl, rfl, _, rfl, no (by decide) ⟨_, rfl, rfl, _, rfl, yesS ?_⟩⟩⟩⟩
    refine ⟨_, rfl, .inr (.inr (.inl ⟨rfl, .inl ⟨_, hh⟩⟩)), fun p hp' => ?_⟩
    have nh : p ≠ h := fun z => by
      rw [z, hh] at hp'
      cases hp'
    refine ⟨_, rfl, l, _, _, v, rfl, rfl, SqL.of (by rw [upd_ne (ne_of_none hl hp')]; exact hl), c0, upd_same, [(.inr "answer", v), (.inr "over", .bl true)], rfl, (by show 2 ≤ 15; decide), ?_⟩
    refine ⟨h, p, _, _, rfl, rfl, nh.symm, (by rw [upd_ne nh.symm, upd_ne nh.symm]; exact hh), upd_same, (by show 10 + 2 ≤ sizeLine; decide), ?_⟩
    refine k _ (fun b o nb z => ?_) ?_
    · have n1 := ne_of_none z hp'
      rw [upd_ne nb, upd_ne n1, upd_ne n1]
      exact z
    · rw [upd_same]
      rfl
theorem ok_one {f fw fi fe : Addr} {fd fdw fdi fde : FuncData} (F : Fun K "_law_do_one" "_law_do_one" sOne f fd) (T : Txt mg) (mw : mg "_law_worth" = some (.ref fw)) (kw : PySem.W.keepIn K (.ref fw) = true) (bw : Binds K fdw ["_law_told", "_law_here"] []) (Gw : FnOk P w K mg base CX0 19 fw fdw ["_law_told", "_law_here"] (spLW 3))
    (mi : mg "_law_is_hold" = some (.ref fi)) (ki : PySem.W.keepIn K (.ref fi) = true) (bi : Binds K fdi ["_law_worth_here"] []) (Gi : FnOk P w K mg base CX0 1 fi fdi ["_law_worth_here"] spLIs)
    (me : mg "_law_effect" = some (.ref fe)) (ke : PySem.W.keepIn K (.ref fe) = true) (be : Binds K fde ["_law_book", "_law_task", "_law_some", "_law_here"] []) (Ge : FnOk P w K mg base CX0 1 fe fde ["_law_book", "_law_task", "_law_some", "_law_here"] spEff) :
    FnOk P w K mg base CX0 20 f fd ["_law_book", "_law_task", "_law_here"] spOne := by
  refine F.ok scOn (fun vs H Q E h => ?_) (fun cdv A outer s H vs Q E hr h => ?_)
  · obtain ⟨vb, vt, h, fl, kn, sy, mk, pu, told, r, fn, d1, d2, rfl, _⟩ := h
    rfl
  · obtain ⟨vb, vt, h, fl, kn, sy, mk, pu, told, r, fn, d1, d2, rfl, ht, hev, hhe, hh, hpu, k1, k2⟩ := h
    have nd := scOn.nd
    have hr1 : Room 1 _ := hr.mono (by decide)
    have hu65 := (show A.units + 3 + 65 < cLine by have := hr.un; have z : (A.deeper (envOfC "_law_do_one" (defScope sOne) s.heap.objs.size f cdv)).units = A.units + 3 := rfl; omega)
    refine ⟨_, pss_cons (ps_set (i := 3) nd rfl (Or.inl rfl) (pe_ix ix_tup (pv 1) pe_int (fun _ _ => rfl)))
      (pss_cons (ps_if (pt_cmpR op_eq (pv 3) pe_str (nomark _)) (pss_one ps_never) pss_nil)
      (pss_cons (ps_if (pt_cmpR op_eq (pv 3) pe_str (nomark _)) (pss_cons ps_never (pss_one ps_never)) pss_nil)
      (pss_cons (ps_if (pt_cmpR op_eq (pv 3) pe_str (nomark _)) (pss_cons ps_never (pss_cons ps_never (pss_one ps_never))) pss_nil)
      (pss_cons (ps_set (i := 5) nd rfl (Or.inl rfl) (pe_ifExp (pt_cmpR op_in_seq (pv 3) (pe_tup (pa_cons pe_str (pa_cons pe_str (pa_cons pe_str pa_nil)))) rfl) (pe_slice sl_tup (pv 1) (po_some pe_int) (po_some pe_int))
        (pe_op op_rep1 (pe_slice sl_tup (pv 1) (po_some pe_int) (po_some pe_int)) (pe_callTy call_int1 (by rfl) T.int (by decide +kernel) (pa_cons (pe_cmpR op_ne (pv 3) pe_str (nomark _)) pa_nil)))))
      (pss_cons (ps_set (i := 6) nd rfl (Or.inl rfl) (pe_ifExp (pt_cmpR op_in_seq (pv 3) (pe_tup (pa_cons pe_str (pa_cons pe_str (pa_cons pe_str pa_nil)))) rfl) (pe_ix ix_tup (pv 1) (pe_un un_neg pe_int) (fun _ _ => rfl)) (pe_tup pa_nil)))
      (pss_cons (ps_setLc (i := 7) (own := [("_law_one", 8)]) (g := gName 8) (tt := tYes) rfl nd rfl rfl (sw_true rfl rfl rfl (by decide +kernel)) (pi_tup (pe_op op_catA (pv 5) (pv 6)))
        (blkOk_by (N := ["_law_book", "_law_task", "_law_here", "_law_term", "_law_worth_here", "_law_told", "_law_more", "_law_some", "_law_one"]) (sc := defScope sOne) (by decide +kernel)) (fun _ _ _ _ _ => pg_name (i := 8) nd rfl (Or.inl rfl)) (fun _ _ _ _ _ => pts_nil)
        (fun _ _ _ _ _ => pe_call Gw hr (by rfl) mw kw bw .nil pass0 (pa_cons (pv 8) (pa_cons (pv 2) pa_nil))))
      (pss_cons (ps_if (PW.pt (pw_or (pt_cmpR (op_inD hu65) (pe_lst pa_nil) (pv 7) rfl) (pw_or1 (PW.pt (pw_and (pt_cmpR op_eq (pv 3) pe_str (nomark _)) (pw_and1 (pt_not (pt_val (pe_call Gi hr1 (by rfl) mi ki bi .nil pass0 (pa_cons (pe_ix ix_list (pv 7) pe_int (fun _ _ => rfl)) pa_nil)))))))))) (pss_one (ps_ret pe_str)) pss_nil)
      (pss_cons (ps_expr (pe_call Ge hr1 (by rfl) me ke be .nil pass0 (pa_cons (pv 0) (pa_cons (pv 1) (pa_cons (pv 7) (pa_cons (pv 2) pa_nil))))))
      (pss_one (ps_ret pe_non)))))))))), ?_⟩
    have no : ∀ {a b : Str} {A B : Prop}, a ≠ b → B → (if decide (V.str a = V.str b) = true then A else B) := fun {a b A B} ne h => by
      rw [decide_eq_false fun q => ne (by cases q; rfl)]
      exact iteF h
    have iv1 : inV (.str "give") [.str "let", .str "set", .str "call"] = false := by decide +kernel
    have iv2 : inV (.str "give") [.str "make", .str "call", .str "when"] = false := by decide +kernel
    cases ht with
    | @tup a xs _ e al =>
    cases al with
    | @cons u0 _ _ _ e0 al =>
    cases al with
    | @cons u1 _ _ _ e1 al =>
    cases al
    cases e0
    have nah : a ≠ h := fun z => by
      rw [z, hh] at e
      cases e
    have a0 : atI [V.str "give", u1] 0 = some (V.str "give") := atI_int (by decide) rfl
    refine ⟨_, rfl, a, _, _, _, rfl, rfl, SqT.of e, a0, ?_⟩
    refine ⟨_, rfl, rfl, _, rfl, no (by decide) ⟨_, rfl, rfl, _, rfl, no (by decide) ⟨_, rfl, rfl, _, rfl, no (by decide) ?_⟩⟩⟩
    refine ⟨_, rfl, (by show 3 ≤ sizeLine; decide), fun tp htp => ?_⟩
    have s1 := same_new (Same.refl H) htp (o := .tup [.str "let", .str "set", .str "call"])
    have b1 : upd H tp (.tup [.str "let", .str "set", .str "call"]) tp = some (.tup [.str "let", .str "set", .str "call"]) := upd_same
    generalize upd H tp (.tup [.str "let", .str "set", .str "call"]) = H1 at s1 b1 ⊢
    refine ⟨tp, _, rfl, .inr (SqT.of b1), rfl, rfl, _, rfl, ?_⟩
    show if inV (.str "give") [.str "let", .str "set", .str "call"] = true then _ else _
    rw [iv1]
    refine iteF ⟨_, rfl, _, rfl, _, rfl, a, _, rfl, SqT.of (s1 _ _ e), (fun z => ?_), fun p hp => ?_⟩
    · have z1 : min 1 ([V.str "give", u1] : List V).length = 0 := (HT.sIx_nat (n := ([V.str "give", u1] : List V).length) (k := 1) (d := 0)).symm.trans z.1
      rw [Nat.min_eq_left (by simp)] at z1
      cases z1
    rw [cutV_one]
    have s2 := same_new s1 hp (o := .tup [u1])
    have b2 : upd H1 p (.tup [u1]) p = some (.tup [u1]) := upd_same
    generalize upd H1 p (.tup [u1]) = H2 at s2 b2 ⊢
    refine ⟨_, rfl, rfl, .inr ⟨_, rfl, p, [u1], rfl, (by rw [show (!decide (V.str "give" = V.str "make")) = true by decide +kernel]; rfl), SqT.of b2, ?_⟩⟩
    refine ⟨_, rfl, (by show 3 ≤ sizeLine; decide), fun tq htq => ?_⟩
    have s3 := same_new s2 htq (o := .tup [.str "make", .str "call", .str "when"])
    have b3 : upd H2 tq (.tup [.str "make", .str "call", .str "when"]) tq = some (.tup [.str "make", .str "call", .str "when"]) := upd_same
    have p3 : upd H2 tq (.tup [.str "make", .str "call", .str "when"]) p = some (.tup [u1]) := by rw [upd_ne (ne_of_none b2 htq)]; exact b2
    generalize upd H2 tq (.tup [.str "make", .str "call", .str "when"]) = H3 at s3 b3 p3 ⊢
    refine ⟨tq, _, rfl, .inr (SqT.of b3), rfl, rfl, _, rfl, ?_⟩
    show if inV (.str "give") [.str "make", .str "call", .str "when"] = true then _ else _
    rw [iv2]
    refine iteF ⟨Nat.zero_le _, fun t2 ht2 => ?_⟩
    have s4 := same_new s3 ht2 (o := .tup [])
    have b4 : upd H3 t2 (.tup []) t2 = some (.tup []) := upd_same
    have p4 : upd H3 t2 (.tup []) p = some (.tup [u1]) := by rw [upd_ne (ne_of_none p3 ht2)]; exact p3
    generalize upd H3 t2 (.tup []) = H4 at s4 b4 p4 ⊢
    refine ⟨_, rfl, _, rfl, p, t2, [u1], [], rfl, rfl, SqT.of p4, SqT.of b4, (by show 1 ≤ sizeLine; decide), (fun z => nomatch z), (fun _ _ => ?_), fun _ z => absurd rfl z⟩
    refine ⟨p, rfl, ⟨_, SqT.of p4⟩, fun D hD => ?_⟩
    refine lc_tup (K := K) (a := p) (xs := [u1]) (fun i H' => ∃ vs, H' D = some (.lst vs) ∧ ((i = 0 ∧ vs = []) ∨ (i = 1 ∧ ∃ v, vs = [v] ∧ Rs D H' v r)) ∧ Same H4 H') ?_ ?_ ?_ ?_
    · exact ⟨[], upd_same, .inl ⟨rfl, rfl⟩, same_new (Same.refl _) hD⟩
    · rintro i H' _ ⟨vs, _, _, s'⟩
      exact SqT.of (s' _ _ p4)
    · rintro i x H' hi ⟨vs, hDl, hvs, s'⟩
      obtain rfl : i = 0 := by
        have : i < 1 := (List.getElem?_eq_some_iff.mp hi).1
        omega
      cases hi
      obtain rfl : vs = [] := by
        rcases hvs with ⟨_, q⟩ | ⟨q, _⟩
        · exact q
        · cases q
      refine ⟨rfl, _, rfl, _, rfl, u1, h, told, r, fn, d1, d2, rfl, e1.mono (sameTups (s4.trans s')), hev, hhe.on (s4.trans s'), fun v' H5 s5 hv => ⟨[], s5 _ _ hDl, small1000 (Nat.zero_le _), [v'], upd_same, .inr ⟨rfl, v', rfl, (hv.at hDl).mut (s5 _ _ hDl)⟩, same_mut (s'.trans s5) hD⟩⟩
    · rintro H' ⟨vs, hDl, hvs, s'⟩
      obtain ⟨v, rfl, hv⟩ : ∃ v, vs = [v] ∧ Rs D H' v r := by
        rcases hvs with ⟨q, _⟩ | ⟨_, q⟩
        · cases q
        · exact q
      refine ⟨Nat.zero_le _, fun l hl => ?_⟩
      have s5 := s4.trans (same_new s' hl (o := .lst []))
      have b5 : upd H' l (.lst []) l = some (.lst []) := upd_same
      have d5 : upd H' l (.lst []) D = some (.lst [v]) := by rw [upd_ne (ne_of_none hDl hl)]; exact hDl
      have v5 : Rs D (upd H' l (.lst [])) v r := hv.on (same_new (Same.refl _) hl)
      generalize upd H' l (.lst []) = H5 at s5 b5 d5 v5 ⊢
      have okg : ∀ q' ∈ [r], ∀ d, q' = some d → Gd 12 d := fun q' hq d e => by
        rw [List.mem_singleton] at hq
        subst hq
        exact (hev.okl e).1
      refine ⟨_, rfl, .list [], _, .lst (SqL.of b5) .nil, .lst (SqL.of d5) (RsAll.dp (.cons v5 .nil)), by decide +kernel, shaped_res okg, _, rfl, ?_⟩
      rw [any_none okg]
      cases r with
      | none => exact iteT (k2 rfl H5 s5)
      | some d =>
        refine iteF ⟨_, rfl, rfl, _, rfl, no (by decide) ?_⟩
        refine ⟨_, rfl, _, rfl, _, rfl, _, rfl, vb, v, u1, a, D, h, fl, kn, sy, mk, pu, rfl, s5 _ _ e, d5, s5 _ _ hh, s5 _ _ hpu, fun H6 b e6 => ?_⟩
        have tu : Tups H5 H6 := b.tups fun c ys z q => by
          rw [z, s5 _ _ hh] at q
          cases q
        exact k1 d rfl v H6 ((sameBut s5 _).trans b) e6 (Dt.mono tu v5)
theorem ok_do {f fo : Addr} {fd fdo : FuncData} (F : Fun K "_law_do" "_law_do" sDo f fd) (mo : mg "_law_do_one" = some (.ref fo)) (ko : PySem.W.keepIn K (.ref fo) = true) (bo : Binds K fdo ["_law_book", "_law_task", "_law_here"] []) (Go : FnOk P w K mg base CX0 20 fo fdo ["_law_book", "_law_task", "_law_here"] spOne) :
    FnOk P w K mg base CX0 21 f fd ["_law_book", "_law_deeds", "_law_here"] spDo := by
  refine F.ok scDo (fun vs H Q E h => ?_) (fun cdv A outer s H vs Q E hr h => ?_)
  · obtain ⟨vb, vd, h, fl, kn, sy, mk, pu, told, r, fn, d1, d2, rfl, _⟩ := h
    rfl
  · obtain ⟨vb, vd, h, fl, kn, sy, mk, pu, told, r, fn, d1, d2, rfl, hd, hev, hhe, hh, hpu, k1, k2⟩ := h
    have nd := scDo.nd
    have hu := hu_of hr
    refine ⟨_, pss_cons (ps_set (i := 3) nd rfl (Or.inl rfl) pe_non)
      (pss_cons (ps_for PassesOwn.never rfl (pi_tup (pv 1)) (pg_name (i := 4) nd rfl (Or.inl rfl)) (pss_one (ps_if (PW.pt (pw_and (pt_cmpR op_isN (pv 3) pe_non (nomark _)) (pw_and1 (pt_not (pt_val (pe_dget hu (pv 2) pe_str (fun _ _ => rfl)))))))
        (pss_one (ps_set (i := 3) nd rfl (Or.inl rfl) (pe_call Go hr (by rfl) mo ko bo .nil pass0 (pa_cons (pv 0) (pa_cons (pv 4) (pa_cons (pv 2) pa_nil)))))) pss_nil)))
      (pss_one (ps_ret (pv 3)))), ?_⟩
    cases hd with
    | @tup a xs _ e al =>
    cases al with
    | @cons u0 _ _ _ e0 al =>
    cases al
    refine ⟨_, rfl, a, rfl, ⟨_, SqT.of e⟩, for_tup (K := K) (a := a) (xs := [u0]) (fun i σ' H' => (i = 0 ∧ σ' = [some vb, some (.ref a), some (.ref h), some .non, none] ∧ H' = H) ∨ (i = 1 ∧ SqT K H' a [u0] ∧ ∃ y : V, σ'[3]? = some (some y) ∧ Q y H')) (.inl ⟨rfl, rfl, rfl⟩) ?_ ?_ ?_⟩
    · rintro i σ' H' _ (⟨_, _, rfl⟩ | ⟨_, q, _⟩)
      · exact SqT.of e
      · exact q
    · rintro i x σ' H' hi (⟨rfl, rfl, rfl⟩ | ⟨rfl, _⟩)
      · cases hi
        refine ⟨_, rfl, rfl, _, rfl, iteT ⟨_, rfl, h, _, rfl, dget_str hh rfl, _, rfl, iteT ?_⟩⟩
        refine ⟨_, rfl, _, rfl, _, rfl, vb, u0, h, fl, kn, sy, mk, pu, told, r, fn, d1, d2, rfl, e0, hev, hhe, hh, hpu, fun d hrd v H2 b e2 hv => ?_, fun z H2 s2 => ?_⟩
        · have ne : a ≠ h := fun z => by
            rw [z, hh] at e
            cases e
          exact .inr ⟨rfl, SqT.of (b _ _ ne e), .non, rfl, k1 d hrd v H2 b e2 hv⟩
        · exact .inr ⟨rfl, SqT.of (s2 _ _ e), .str "odd", rfl, k2 z H2 s2⟩
      · cases hi
    · rintro σ' H' (⟨z, _⟩ | ⟨_, _, y, hy, q⟩)
      · cases z
      · exact ⟨y, hy, q⟩
end
end K3
namespace K3
open PySem PySem.Spec PyProof.Rows L2 GG
/-! ### the law's act -/
def spLAct : Sp := fun vs H Q _ => ∃ (sl bt : Addr) (vb x : V) (told : PyData) (r : Option PyData) (fn : Str) (d1 d2 : PyData), vs = [vb, .str "k", .ref sl, .str "0:0", .str "0#0", .str "w", .ref bt] ∧ Dt H vb (planR fn told) ∧ H sl = some (.dK [(.inr fn, x)]) ∧ Dt H x d2 ∧
  Dt H (.ref bt) (.tuple [d1, d2]) ∧ EvL fn d1 d2 3 told r ∧ ∀ (t : Addr) (o : V) (rest : List V) (H' : Hp), Same H H' → H' t = some (.tup (o :: rest)) → Dt H' o (outD r) → Q (.ref t) H'
abbrev sLAct : Stmt := top 60
abbrev nLA : List Str := ["_law_book", "_law_breed", "_law_slots", "_law_naming", "_law_who", "_law_term", "_law_bits", "_law_here", "_law_why", "_law_known", "_law_params", "_law_deeds", "_law_three", "_law_one", "_law_k"]
theorem scLA : FnScope nLA ["_law_book", "_law_breed", "_law_slots", "_law_naming", "_law_who", "_law_term", "_law_bits"] (defScope sLAct) := ⟨rfl, rfl, rfl, by decide +kernel, rfl, by decide +kernel, by decide +kernel⟩
theorem yesE {a b : V} {A B : Prop} (e : a = b) (h : A) : if decide (a = b) = true then A else B := by
  rw [decide_eq_true e]
  exact iteT h
section
variable {P : Program} {w : World} {K : PySem.W.Frag} {mg : Str → Option Value} {base : Heap}
theorem ok_lact {f fd' : Addr} {fd fdd : FuncData} (F : Fun K "_law_act" "_law_act" sLAct f fd) (T : Txt mg) (md : mg "_law_do" = some (.ref fd')) (kd : PySem.W.keepIn K (.ref fd') = true) (bd : Binds K fdd ["_law_book", "_law_deeds", "_law_here"] []) (Gd' : FnOk P w K mg base CX0 21 fd' fdd ["_law_book", "_law_deeds", "_law_here"] spDo) :
    FnOk P w K mg base CX0 22 f fd ["_law_book", "_law_breed", "_law_slots", "_law_naming", "_law_who", "_law_term", "_law_bits"] spLAct := by
  refine F.ok scLA (fun vs H Q E h => ?_) (fun cdv A outer s H vs Q E hr h => ?_)
  · obtain ⟨sl, bt, vb, x, told, r, fn, d1, d2, rfl, _⟩ := h
    rfl
  · obtain ⟨sl, bt, vb, x, told, r, fn, d1, d2, rfl, hb, hsl, hx, hbt, hev, k⟩ := h
    have nd := scLA.nd
    have hu := hu_of hr
    refine ⟨_, pss_cons (ps_set (i := 7) nd rfl (Or.inl rfl) (pe_disp (pps_cons pe_str (pv 4) (pps_cons pe_str (pv 3) (pps_cons pe_str (pe_callTy GG.call_dictD (by rfl) T.dict (by decide +kernel) (pa_cons (pv 2) pa_nil)) (pps_cons pe_str pe_dnewK (pps_cons pe_str (pe_lst pa_nil) (pps_cons pe_str (pe_lst pa_nil) pps_nil))))))
          (by rfl) (by rfl) (fun z => by cases z) (by decide)))
      (pss_cons (ps_expr (pe_bm PySem.F.plainAttrs_dict PySem.F.slot_dict_update PySem.F.type_dict_update mt_update (pv 7) (pa_cons (pe_disp (pps_cons pe_str (pe_lst pa_nil) (pps_cons pe_str pe_non (pps_cons pe_str pe_non (pps_cons pe_str pe_bl pps_nil)))) (by rfl) (by rfl) (fun z => by cases z) (by decide)) pa_nil)))
      (pss_cons (ps_set (i := 8) nd rfl (Or.inl rfl) pe_str)
      (pss_cons (ps_for PassesOwn.never rfl (pi_tup (pe_ix ix_tup (pe_ix ix_list (pe_lc (own := [("_law_one", 13)]) (g := gName 13) rfl nd (pi_tup (pv 0)) (blkOk_by (N := nLA) (sc := defScope sLAct) (by decide +kernel)) (fun _ _ _ _ _ => pg_name (i := 13) nd rfl (Or.inl rfl))
            (fun _ _ _ _ _ => pts_one (pt_cmpR op_eq (pe_ix (r := rIxT K) ix_tup (pv 13) pe_int (fun _ _ => rfl)) (pv 1) (nomark _))) (fun _ _ _ _ _ => pv 13)) pe_int (fun _ _ => rfl)) pe_int (fun _ _ => rfl)))
          (pg_tup rfl (pgs_cons (pg_name (i := 9) nd rfl (Or.inl rfl)) (pgs_cons (pg_name (i := 10) nd rfl (Or.inr rfl)) (pgs_cons (pg_name (i := 11) nd rfl (Or.inl rfl)) pgs_nil))))
        (pss_one (ps_if (PW.pt (pw_and (pt_cmpR op_eq (pv 9) (pv 5) (nomark _)) (pw_and1 (pt_cmpR op_eq (pe_callB call_len_seq (by rfl) T.len PySem.boot_len (pa_cons (pv 10) pa_nil)) (pe_callB call_len_seq (by rfl) T.len PySem.boot_len (pa_cons (pv 6) pa_nil)) (nomark _)))))
          (pss_cons (ps_dput hu (pv 7) pe_str (pe_callTy (call_dictP rfl) (by rfl) T.dict (by decide +kernel) (pa_cons (pe_lc (own := [("_law_k", 14)]) (g := gName 14) (tt := tYes) rfl nd (pi_range1 (by rfl) T.range (pa_cons (pe_callB call_len_seq (by rfl) T.len PySem.boot_len (pa_cons (pv 6) pa_nil)) pa_nil))
              (blkOk_by (N := nLA) (sc := defScope sLAct) (by decide +kernel)) (fun _ _ _ _ _ => pg_name (i := 14) nd rfl (Or.inl rfl)) (fun _ _ _ _ _ => pts_nil)
              (fun _ _ _ _ _ => pe_tup (pa_cons (pe_ix (r := rIxT K) ix_tup (pv 10) (pv 14) (fun _ _ => rfl)) (pa_cons (pe_ix (r := rIxT K) ix_tup (pv 6) (pv 14) (fun _ _ => rfl)) pa_nil)))) pa_nil)) rfl)
          (pss_one (ps_set (i := 8) nd rfl (Or.inl rfl) (pe_call Gd' hr (by rfl) md kd bd .nil pass0 (pa_cons (pv 0) (pa_cons (pv 11) (pa_cons (pv 7) pa_nil))))))) pss_nil)))
      (pss_cons (ps_if (pt_cmpR op_notN (pv 8) pe_non (nomark _)) (pss_one (ps_ret (pe_tup (pa_cons (pe_tup (pa_cons pe_str (pa_cons (pv 8) pa_nil))) (pa_cons (pe_callTy GG.call_dictD (by rfl) T.dict (by decide +kernel) (pa_cons (pv 2) pa_nil))
          (pa_cons (pe_tup pa_nil) (pa_cons (pe_tup pa_nil) (pa_cons (pe_tup pa_nil) (pa_cons pe_non pa_nil))))))))) pss_nil)
      (pss_cons (ps_set (i := 12) nd rfl (Or.inl rfl) (pe_tup (pa_cons (pe_callTy call_tuple_of (by rfl) T.tuple (by decide +kernel) (pa_cons (pe_dget hu (pv 7) pe_str (fun _ _ => rfl)) pa_nil))
          (pa_cons (pe_callTy call_tuple_of (by rfl) T.tuple (by decide +kernel) (pa_cons (pe_dget hu (pv 7) pe_str (fun _ _ => rfl)) pa_nil)) (pa_cons (pe_callTy call_tuple_of (by rfl) T.tuple (by decide +kernel) (pa_cons (pe_dget hu (pv 7) pe_str (fun _ _ => rfl)) pa_nil)) pa_nil)))))
      (pss_one (ps_ret (pe_op op_catA (pe_op op_catA (pe_tup (pa_cons (pe_tup (pa_cons pe_str (pa_cons (pe_dget hu (pv 7) pe_str (fun _ _ => rfl)) pa_nil))) (pa_cons (pe_dget hu (pv 7) pe_str (fun _ _ => rfl)) pa_nil))) (pv 12))
        (pe_tup (pa_cons (pe_dget hu (pv 7) pe_str (fun _ _ => rfl)) pa_nil)))))))))), ?_⟩
    obtain ⟨xs0, hbt0, hbl0⟩ : ∃ xs, H bt = some (.tup xs) ∧ DtAll H xs [d1, d2] := by
      cases hbt with
      | tup e a => exact ⟨_, e, a⟩
    obtain ⟨x1, x2, rfl, hx1, hx2⟩ : ∃ x1 x2, xs0 = [x1, x2] ∧ Dt H x1 d1 ∧ Dt H x2 d2 := by
      cases hbl0 with
      | cons a b =>
        cases b with
        | cons c d =>
          cases d
          exact ⟨_, _, rfl, a, c⟩
    intro h hh0
    refine ⟨_, rfl, _, rfl, _, rfl, sl, _, rfl, (by rw [upd_ne (ne_of_none hsl hh0)]; exact hsl), fun fl hfl0 => ?_⟩
    have s1 : Same H (upd (upd H h (.dK [])) fl (.dK [(.inr fn, x)])) := same_new (same_new (Same.refl H) hh0) hfl0
    have nfh : fl ≠ h := fun z => by
      rw [z, upd_same] at hfl0
      cases hfl0
    have fh : upd (upd H h (.dK [])) fl (.dK [(.inr fn, x)]) h = some (.dK []) := by rw [upd_ne nfh.symm, upd_same]
    have ffl : upd (upd H h (.dK [])) fl (.dK [(.inr fn, x)]) fl = some (.dK [(.inr fn, x)]) := upd_same
    generalize upd (upd H h (.dK [])) fl (.dK [(.inr fn, x)]) = H1 at s1 fh ffl ⊢
    intro kn hkn0
    refine ⟨Nat.zero_le _, fun sy hsy0 => ?_⟩
    have q1 := same_new (Same.refl H1) hkn0 (o := .dK [])
    have q2 := same_new q1 hsy0 (o := .lst [])
    have fsy : upd (upd H1 kn (.dK [])) sy (.lst []) sy = some (.lst []) := upd_same
    generalize upd (upd H1 kn (.dK [])) sy (.lst []) = H2 at q2 fsy ⊢
    refine ⟨Nat.zero_le _, fun mk hmk0 => ?_⟩
    have q3 := same_new q2 hmk0 (o := .lst [])
    have fmk : upd H2 mk (.lst []) mk = some (.lst []) := upd_same
    have fsy3 : upd H2 mk (.lst []) sy = some (.lst []) := by rw [upd_ne (ne_of_none fsy hmk0)]; exact fsy
    generalize upd H2 mk (.lst []) = H3 at q3 fmk fsy3 ⊢
    have fh3 := q3 _ _ fh
    have ffl3 := q3 _ _ ffl
    have s3 := s1.trans q3
    refine ⟨fh3, [(.inr "me", .str "0#0"), (.inr "call", .str "0:0"), (.inr "fields", .ref fl), (.inr "known", .ref kn), (.inr "says", .ref sy), (.inr "makes", .ref mk)], rfl, (by show 6 ≤ 15; decide), ?_⟩
    rw [show mergeK ([] : List (Key × V)) [(.inr "me", .str "0#0"), (.inr "call", .str "0:0"), (.inr "fields", .ref fl), (.inr "known", .ref kn), (.inr "says", .ref sy), (.inr "makes", .ref mk)] = [(.inr "me", .str "0#0"), (.inr "call", .str "0:0"), (.inr "fields", .ref fl), (.inr "known", .ref kn), (.inr "says", .ref sy), (.inr "makes", .ref mk)] from rfl]
    have nsh : sy ≠ h := fun z => by
      rw [z, fh3] at fsy3
      cases fsy3
    have nmh : mk ≠ h := fun z => by
      rw [z, fh3] at fmk
      cases fmk
    have s4 := same_mut (o := .dK [(.inr "me", .str "0#0"), (.inr "call", .str "0:0"), (.inr "fields", .ref fl), (.inr "known", .ref kn), (.inr "says", .ref sy), (.inr "makes", .ref mk)]) s3 hh0
    have fh4 : upd H3 h (.dK [(.inr "me", .str "0#0"), (.inr "call", .str "0:0"), (.inr "fields", .ref fl), (.inr "known", .ref kn), (.inr "says", .ref sy), (.inr "makes", .ref mk)]) h = some (.dK [(.inr "me", .str "0#0"), (.inr "call", .str "0:0"), (.inr "fields", .ref fl), (.inr "known", .ref kn), (.inr "says", .ref sy), (.inr "makes", .ref mk)]) := upd_same
    have ffl4 : upd H3 h (.dK [(.inr "me", .str "0#0"), (.inr "call", .str "0:0"), (.inr "fields", .ref fl), (.inr "known", .ref kn), (.inr "says", .ref sy), (.inr "makes", .ref mk)]) fl = some (.dK [(.inr fn, x)]) := by rw [upd_ne nfh]; exact ffl3
    have fsy4 : upd H3 h (.dK [(.inr "me", .str "0#0"), (.inr "call", .str "0:0"), (.inr "fields", .ref fl), (.inr "known", .ref kn), (.inr "says", .ref sy), (.inr "makes", .ref mk)]) sy = some (.lst []) := by rw [upd_ne nsh]; exact fsy3
    have fmk4 : upd H3 h (.dK [(.inr "me", .str "0#0"), (.inr "call", .str "0:0"), (.inr "fields", .ref fl), (.inr "known", .ref kn), (.inr "says", .ref sy), (.inr "makes", .ref mk)]) mk = some (.lst []) := by rw [upd_ne nmh]; exact fmk
    generalize upd H3 h (.dK [(.inr "me", .str "0#0"), (.inr "call", .str "0:0"), (.inr "fields", .ref fl), (.inr "known", .ref kn), (.inr "says", .ref sy), (.inr "makes", .ref mk)]) = H4 at s4 fh4 ffl4 fsy4 fmk4 ⊢
    refine ⟨_, rfl, .inr (.inr (.inl ⟨rfl, .inl ⟨_, fh4⟩⟩)), fun p hp => ⟨Nat.zero_le _, fun pu hpu0 => ?_⟩⟩
    have q5 := same_new (same_new (Same.refl H4) hp (o := .dK [])) hpu0 (o := .lst [])
    have npp : p ≠ pu := fun z => by
      rw [← z, upd_same] at hpu0
      cases hpu0
    have fp5 : upd (upd H4 p (.dK [])) pu (.lst []) p = some (.dK []) := by rw [upd_ne npp, upd_same]
    have fpu5 : upd (upd H4 p (.dK [])) pu (.lst []) pu = some (.lst []) := upd_same
    generalize upd (upd H4 p (.dK [])) pu (.lst []) = H5 at q5 fp5 fpu5 ⊢
    refine ⟨fp5, [(.inr "puts", .ref pu), (.inr "goes", .non), (.inr "answer", .non), (.inr "over", .bl false)], rfl, (by show 4 ≤ 15; decide), ?_⟩
    have nhp : h ≠ p := ne_of_none fh4 hp
    have nup : pu ≠ h := fun z => by
      have := q5 _ _ fh4
      rw [← z, fpu5] at this
      cases this
    refine ⟨h, p, _, _, rfl, rfl, nhp, (by rw [upd_ne nhp]; exact q5 _ _ fh4), upd_same, (by show 6 + 4 ≤ sizeLine; decide), ?_⟩
    have s6 := same_mut (o := .dK (mergeK [(.inr "me", .str "0#0"), (.inr "call", .str "0:0"), (.inr "fields", .ref fl), (.inr "known", .ref kn), (.inr "says", .ref sy), (.inr "makes", .ref mk)] (mergeK [] [(.inr "puts", .ref pu), (.inr "goes", .non), (.inr "answer", .non), (.inr "over", .bl false)]))) (same_mut (o := .dK (mergeK [] [(.inr "puts", .ref pu), (.inr "goes", .non), (.inr "answer", .non), (.inr "over", .bl false)])) (s4.trans q5) (s4.free hp)) hh0
    have fh6 : upd (upd H5 p (.dK (mergeK [] [(.inr "puts", .ref pu), (.inr "goes", .non), (.inr "answer", .non), (.inr "over", .bl false)]))) h (.dK (mergeK [(.inr "me", .str "0#0"), (.inr "call", .str "0:0"), (.inr "fields", .ref fl), (.inr "known", .ref kn), (.inr "says", .ref sy), (.inr "makes", .ref mk)] (mergeK [] [(.inr "puts", .ref pu), (.inr "goes", .non), (.inr "answer", .non), (.inr "over", .bl false)]))) h = some (.dK (hereK fl kn sy mk pu .non false)) := by
      rw [upd_same]
      rfl
    have ffl6 : upd (upd H5 p (.dK (mergeK [] [(.inr "puts", .ref pu), (.inr "goes", .non), (.inr "answer", .non), (.inr "over", .bl false)]))) h (.dK (mergeK [(.inr "me", .str "0#0"), (.inr "call", .str "0:0"), (.inr "fields", .ref fl), (.inr "known", .ref kn), (.inr "says", .ref sy), (.inr "makes", .ref mk)] (mergeK [] [(.inr "puts", .ref pu), (.inr "goes", .non), (.inr "answer", .non), (.inr "over", .bl false)]))) fl = some (.dK [(.inr fn, x)]) := by rw [upd_ne nfh, upd_ne (ne_of_none ffl4 hp)]; exact q5 _ _ ffl4
    have fsy6 : upd (upd H5 p (.dK (mergeK [] [(.inr "puts", .ref pu), (.inr "goes", .non), (.inr "answer", .non), (.inr "over", .bl false)]))) h (.dK (mergeK [(.inr "me", .str "0#0"), (.inr "call", .str "0:0"), (.inr "fields", .ref fl), (.inr "known", .ref kn), (.inr "says", .ref sy), (.inr "makes", .ref mk)] (mergeK [] [(.inr "puts", .ref pu), (.inr "goes", .non), (.inr "answer", .non), (.inr "over", .bl false)]))) sy = some (.lst []) := by rw [upd_ne nsh, upd_ne (ne_of_none fsy4 hp)]; exact q5 _ _ fsy4
    have fmk6 : upd (upd H5 p (.dK (mergeK [] [(.inr "puts", .ref pu), (.inr "goes", .non), (.inr "answer", .non), (.inr "over", .bl false)]))) h (.dK (mergeK [(.inr "me", .str "0#0"), (.inr "call", .str "0:0"), (.inr "fields", .ref fl), (.inr "known", .ref kn), (.inr "says", .ref sy), (.inr "makes", .ref mk)] (mergeK [] [(.inr "puts", .ref pu), (.inr "goes", .non), (.inr "answer", .non), (.inr "over", .bl false)]))) mk = some (.lst []) := by rw [upd_ne nmh, upd_ne (ne_of_none fmk4 hp)]; exact q5 _ _ fmk4
    have fpu6 : upd (upd H5 p (.dK (mergeK [] [(.inr "puts", .ref pu), (.inr "goes", .non), (.inr "answer", .non), (.inr "over", .bl false)]))) h (.dK (mergeK [(.inr "me", .str "0#0"), (.inr "call", .str "0:0"), (.inr "fields", .ref fl), (.inr "known", .ref kn), (.inr "says", .ref sy), (.inr "makes", .ref mk)] (mergeK [] [(.inr "puts", .ref pu), (.inr "goes", .non), (.inr "answer", .non), (.inr "over", .bl false)]))) pu = some (.lst []) := by rw [upd_ne nup, upd_ne npp.symm]; exact fpu5
    generalize upd (upd H5 p (.dK (mergeK [] [(.inr "puts", .ref pu), (.inr "goes", .non), (.inr "answer", .non), (.inr "over", .bl false)]))) h (.dK (mergeK [(.inr "me", .str "0#0"), (.inr "call", .str "0:0"), (.inr "fields", .ref fl), (.inr "known", .ref kn), (.inr "says", .ref sy), (.inr "makes", .ref mk)] (mergeK [] [(.inr "puts", .ref pu), (.inr "goes", .non), (.inr "answer", .non), (.inr "over", .bl false)]))) = H6 at s6 fh6 ffl6 fsy6 fmk6 fpu6 ⊢
    clear fp5 fpu5 q5 hpu0 hp fh4 ffl4 fsy4 fmk4 s4 fmk fsy3 fh3 ffl3 q3 s3 q2 fsy q1 fh ffl s1
    cases hb with
    | @tup b bs _ eb bl =>
    cases bl with
    | @cons u0 _ _ _ e0 bl =>
    cases bl
    have e0' := e0
    cases e0 with
    | @tup c cs _ ec cl =>
    cases cl with
    | @cons w0 _ _ _ g0 cl =>
    cases cl with
    | @cons w1 _ _ _ g1 cl =>
    cases cl with
    | @cons w2 _ _ _ g2 cl =>
    cases cl
    cases g0
    cases g2 with
    | @tup mm ms _ em ml =>
    cases ml with
    | @cons m0 _ _ _ gm ml =>
    cases ml
    cases gm with
    | @tup m mms _ em0 mml =>
    cases mml with
    | @cons t0 _ _ _ f0 mml =>
    cases mml with
    | @cons t1 _ _ _ f1 mml =>
    cases mml with
    | @cons t2 _ _ _ f2 mml =>
    cases mml
    cases f0
    cases f1 with
    | @tup pp ps _ ep pl =>
    cases pl with
    | @cons p0 _ _ _ k0 pl =>
    cases pl with
    | @cons p1 _ _ _ k1 pl =>
    cases pl
    cases k0
    cases k1
    have c0 : atI [V.str "k", w1, V.ref mm] 0 = some (V.str "k") := atI_int (by decide) rfl
    have c2 : atI [V.str "k", w1, V.ref mm] 2 = some (V.ref mm) := atI_int (by decide) rfl
    have d0 : atI [V.ref c] 0 = some (V.ref c) := atI_int (by decide) rfl
    refine ⟨_, rfl, b, rfl, ⟨_, SqT.of (s6 _ _ eb)⟩, fun D hD => ?_⟩
    refine lc_tup (K := K) (a := b) (xs := [V.ref c]) (fun i H' => H' D = some (.lst ([V.ref c].take i)) ∧ Same H6 H') ?_ ?_ ?_ ?_
    · exact ⟨upd_same, same_new (Same.refl _) hD⟩
    · rintro i H' _ ⟨_, s'⟩
      exact SqT.of (s' _ _ (s6 _ _ eb))
    · rintro i y H' hi ⟨hDl, s'⟩
      obtain rfl : i = 0 := by
        have : i < 1 := (List.getElem?_eq_some_iff.mp hi).1
        omega
      cases hi
      refine ⟨rfl, _, rfl, c, _, _, _, rfl, rfl, SqT.of (s' _ _ (s6 _ _ ec)), c0, _, rfl, rfl, _, rfl, ?_⟩
      exact yesS ⟨_, rfl, _, hDl, small1000 (Nat.zero_le _), upd_same, same_mut s' hD⟩
    · rintro H7 ⟨hDl, s7⟩
      refine ⟨D, _, _, V.ref c, rfl, rfl, SqL.of hDl, d0, c, _, _, _, rfl, rfl, SqT.of (s7 _ _ (s6 _ _ ec)), c2, mm, rfl, ⟨_, SqT.of (s7 _ _ (s6 _ _ em))⟩, ?_⟩
      have sB := s6.trans s7
      have fh7 := s7 _ _ fh6
      have ffl7 := s7 _ _ ffl6
      have fsy7 := s7 _ _ fsy6
      have fmk7 := s7 _ _ fmk6
      have fpu7 := s7 _ _ fpu6
      have nmm : ∀ {H' : Hp}, Same H H' → H' mm = some (.tup [V.ref m]) := fun s => s _ _ em
      have off : ∀ {H1 H2 : Hp}, Same H H1 → But (· = h) H1 H2 → Same H H2 := fun {H1 H2} s b c o e => b c o (ne_of_none e hh0) (s c o e)
      refine for_tup (K := K) (a := mm) (xs := [V.ref m]) (fun i σ' H' => (i = 0 ∧ σ' = [some (V.ref b), some (.str "k"), some (.ref sl), some (.str "0:0"), some (.str "0#0"), some (.str "w"), some (.ref bt), some (.ref h), some (.str "odd"), none, none, none, none, none, none] ∧ H7 = H') ∨
        (i = 1 ∧ Same H H' ∧ ∃ (why : V) (o9 o10 o11 : Option V), σ' = [some (V.ref b), some (.str "k"), some (.ref sl), some (.str "0:0"), some (.str "0#0"), some (.str "w"), some (.ref bt), some (.ref h), some why, o9, o10, o11, none, none, none] ∧
          ((∃ (d : PyData) (v : V) (kn' : Addr), r = some d ∧ why = .non ∧ H' h = some (.dK (hereK fl kn' sy mk pu v true)) ∧ Dt H' v d ∧ H' sy = some (.lst []) ∧ H' mk = some (.lst []) ∧ H' pu = some (.lst [])) ∨ (r = none ∧ why = .str "odd")))) (.inl ⟨rfl, rfl, rfl⟩) ?_ ?_ ?_
      · rintro i σ' H' _ (⟨_, _, rfl⟩ | ⟨_, s, _⟩)
        · exact SqT.of (nmm sB)
        · exact SqT.of (nmm s)
      · rintro i y σ' H' hi (⟨rfl, rfl, rfl⟩ | ⟨rfl, _⟩)
        rotate_left
        · cases hi
        cases hi
        refine ⟨m, _, rfl, SqT.of (sB _ _ em0), rfl, _, _, rfl, _, _, rfl, _, _, rfl, rfl, ?_⟩
        refine ⟨_, rfl, _, rfl, rfl, _, rfl, yesS ?_⟩
        refine ⟨_, rfl, pp, _, rfl, .inr (SqT.of (sB _ _ ep)), _, rfl, bt, _, rfl, .inr (SqT.of (sB _ _ hbt0)), rfl, _, rfl, ?_⟩
        refine yesE rfl ?_
        refine ⟨_, rfl, bt, _, rfl, .inr (SqT.of (sB _ _ hbt0)), _, rfl, (by show (-(2 ^ 62) : Int) ≤ 2; decide), (by show (2 : Int) < 2 ^ 62; decide), fun D2 hD2 => ?_⟩
        refine lc_range (lo := 0) (n := 2) (fun i H' => Same H' H' ∧ Same H7 H' ∧ ((i = 0 ∧ H' D2 = some (.lst [])) ∨ (i = 1 ∧ ∃ p0 : Addr, H' D2 = some (.lst [.ref p0]) ∧ H' p0 = some (.tup [.str "a", x1])) ∨
            (i = 2 ∧ ∃ p0 p1 : Addr, H' D2 = some (.lst [.ref p0, .ref p1]) ∧ H' p0 = some (.tup [.str "a", x1]) ∧ H' p1 = some (.tup [.str "b", x2])))) ?_ ?_ ?_
        · exact ⟨Same.refl _, same_new (Same.refl _) hD2, .inl ⟨rfl, upd_same⟩⟩
        · rintro i H' hi ⟨_, s', ⟨rfl, hDl⟩ | ⟨rfl, p0, hDl, hp0⟩ | ⟨rfl, _⟩⟩
          · have sC := sB.trans s'
            refine ⟨rfl, _, rfl, _, rfl, pp, _, _, V.str "a", rfl, rfl, SqT.of (sC _ _ ep), (by exact atI_int (by decide) rfl), _, rfl, _, rfl, bt, _, _, x1, rfl, rfl, SqT.of (sC _ _ hbt0), (by exact atI_int (by decide) rfl), (by show 2 ≤ sizeLine; decide), fun p0 hp0 => ?_⟩
            have nDp : D2 ≠ p0 := ne_of_none hDl hp0
            refine ⟨[], (by rw [upd_ne nDp]; exact hDl), small1000 (Nat.zero_le _), Same.refl _, same_mut (same_new s' hp0) hD2, .inr (.inl ⟨rfl, p0, upd_same, ?_⟩)⟩
            rw [upd_ne nDp.symm, upd_same]
          · have sC := sB.trans s'
            refine ⟨rfl, _, rfl, _, rfl, pp, _, _, V.str "b", rfl, rfl, SqT.of (sC _ _ ep), (by exact atI_int (by decide) rfl), _, rfl, _, rfl, bt, _, _, x2, rfl, rfl, SqT.of (sC _ _ hbt0), (by exact atI_int (by decide) rfl), (by show 2 ≤ sizeLine; decide), fun p1 hp1 => ?_⟩
            have nDp : D2 ≠ p1 := ne_of_none hDl hp1
            have nDp0 : p0 ≠ D2 := fun z => by
              rw [z, hDl] at hp0
              cases hp0
            refine ⟨[.ref p0], (by rw [upd_ne nDp]; exact hDl), small1000 (by show 1 ≤ 1000; decide), Same.refl _, same_mut (same_new s' hp1) hD2, .inr (.inr ⟨rfl, p0, p1, upd_same, ?_, ?_⟩)⟩
            · rw [upd_ne nDp0, upd_ne (ne_of_none hp0 hp1)]
              exact hp0
            · rw [upd_ne nDp.symm, upd_same]
          · omega
        · rintro H8 ⟨_, s8, ⟨z, _⟩ | ⟨z, _⟩ | ⟨_, p0, p1, hDl, hp0, hp1⟩⟩
          · cases z
          · cases z
          have sC := sB.trans s8
          refine ⟨D2, [p0, p1], kn2 x1 x2, rfl, SqL.of hDl, .cons (SqT.of hp0) (.cons (SqT.of hp1) .nil), fun kn' hkn' => ?_⟩
          rw [show mergeK ([] : List (Key × V)) (kn2 x1 x2) = kn2 x1 x2 from rfl]
          have s9 := same_new s8 hkn' (o := .dK (kn2 x1 x2))
          have b9 : upd H8 kn' (.dK (kn2 x1 x2)) kn' = some (.dK (kn2 x1 x2)) := upd_same
          generalize upd H8 kn' (.dK (kn2 x1 x2)) = H9 at s9 b9 ⊢
          have sD := sB.trans s9
          have fh9 := s9 _ _ fh7
          have nkh : kn' ≠ h := fun z => by
            rw [z, fh9] at b9
            cases b9
          refine ⟨_, rfl, h, _, rfl, DPut.k (k := .inr "known") fh9 (by show 10 < sizeLine; decide), ?_⟩
          have eK : putK (hereK fl kn sy mk pu .non false) (.inr "known") (.ref kn') = hereK fl kn' sy mk pu .non false := rfl
          rw [eK]
          have fh10 : upd H9 h (.dK (hereK fl kn' sy mk pu .non false)) h = some (.dK (hereK fl kn' sy mk pu .non false)) := upd_same
          have sE := same_mut (o := .dK (hereK fl kn' sy mk pu .non false)) sD hh0
          have ffl10 : upd H9 h (.dK (hereK fl kn' sy mk pu .non false)) fl = some (.dK [(.inr fn, x)]) := by rw [upd_ne nfh]; exact s9 _ _ ffl7
          have fkn10 : upd H9 h (.dK (hereK fl kn' sy mk pu .non false)) kn' = some (.dK (kn2 x1 x2)) := by rw [upd_ne nkh]; exact b9
          have fsy10 : upd H9 h (.dK (hereK fl kn' sy mk pu .non false)) sy = some (.lst []) := by rw [upd_ne nsh]; exact s9 _ _ fsy7
          have fmk10 : upd H9 h (.dK (hereK fl kn' sy mk pu .non false)) mk = some (.lst []) := by rw [upd_ne nmh]; exact s9 _ _ fmk7
          have fpu10 : upd H9 h (.dK (hereK fl kn' sy mk pu .non false)) pu = some (.lst []) := by rw [upd_ne nup]; exact s9 _ _ fpu7
          generalize upd H9 h (.dK (hereK fl kn' sy mk pu .non false)) = H10 at fh10 sE ffl10 fkn10 fsy10 fmk10 fpu10 ⊢
          have tE := sameTups sE
          have he : HeAt H10 h fn d1 d2 := ⟨⟨fl, kn', hereK fl kn' sy mk pu .non false, [(.inr fn, x)], kn2 x1 x2, x1, x2, x, fh10, rfl, rfl, ffl10, fkn10, rfl, rfl, by simp [valV], hx1.mono tE, hx2.mono tE, hx.mono tE⟩⟩
          refine ⟨_, rfl, _, rfl, _, rfl, .ref b, t2, h, fl, kn', sy, mk, pu, told, r, fn, d1, d2, rfl, f2.mono tE, hev, he, fh10, fpu10, fun d hrd v H11 bb e11 hv => ?_, fun z H11 s11 => ?_⟩
          · exact .inr ⟨rfl, off sE bb, .non, _, _, _, rfl, .inl ⟨d, v, kn', hrd, rfl, e11, hv, bb _ _ nsh fsy10, bb _ _ nmh fmk10, bb _ _ nup fpu10⟩⟩
          · exact .inr ⟨rfl, sE.trans s11, .str "odd", _, _, _, rfl, .inr ⟨z, rfl⟩⟩
      · rintro σ' H' (⟨z, _⟩ | ⟨_, s, why, o9, o10, o11, rfl, ⟨d, v, kn', rfl, rfl, eh, hv, esy, emk, epu⟩ | ⟨rfl, rfl⟩⟩)
        · cases z
        · refine ⟨_, rfl, rfl, _, rfl, iteF ?_⟩
          have fin : ∀ {H1 : Hp}, Same H' H1 → H1 h = some (.dK (hereK fl kn' sy mk pu v true)) := fun q => q _ _ eh
          refine ⟨_, rfl, h, _, rfl, dget_str eh rfl, sy, [], rfl, .inl ⟨SqL.of esy, fun l1 hl1 => ?_⟩⟩
          have r1 := same_new (Same.refl H') hl1 (o := .tup [])
          refine ⟨_, rfl, h, _, rfl, dget_str (fin r1) rfl, mk, [], rfl, .inl ⟨SqL.of (r1 _ _ emk), fun l2 hl2 => ?_⟩⟩
          have r2 := same_new r1 hl2 (o := .tup [])
          refine ⟨_, rfl, h, _, rfl, dget_str (fin r2) rfl, pu, [], rfl, .inl ⟨SqL.of (r2 _ _ epu), fun l3 hl3 => ?_⟩⟩
          have r3 := same_new r2 hl3 (o := .tup [])
          refine ⟨(by show 3 ≤ sizeLine; decide), fun t3 ht3 => ?_⟩
          have r4 := same_new r3 ht3 (o := .tup [.ref l1, .ref l2, .ref l3])
          have g4 : upd (upd (upd (upd H' l1 (.tup [])) l2 (.tup [])) l3 (.tup [])) t3 (.tup [.ref l1, .ref l2, .ref l3]) t3 = some (.tup [.ref l1, .ref l2, .ref l3]) := upd_same
          generalize upd (upd (upd (upd H' l1 (.tup [])) l2 (.tup [])) l3 (.tup [])) t3 (.tup [.ref l1, .ref l2, .ref l3]) = Ha at r4 g4 ⊢
          refine ⟨_, rfl, h, _, rfl, dget_str (fin r4) rfl, (by show 2 ≤ sizeLine; decide), fun o ho => ?_⟩
          have r5 := same_new r4 ho (o := .tup [.str "kept", v])
          have r5' := same_new (Same.refl Ha) ho (o := .tup [.str "kept", v])
          have g5 : upd Ha o (.tup [.str "kept", v]) o = some (.tup [.str "kept", v]) := upd_same
          generalize upd Ha o (.tup [.str "kept", v]) = Hb at r5 r5' g5 ⊢
          refine ⟨_, rfl, h, _, rfl, dget_str (fin r5) rfl, (by show 2 ≤ sizeLine; decide), fun t4 ht4 => ?_⟩
          have r6 := same_new r5 ht4 (o := .tup [.ref o, .ref fl])
          have r6' := same_new r5' ht4 (o := .tup [.ref o, .ref fl])
          have r6'' := same_new (Same.refl Hb) ht4 (o := .tup [.ref o, .ref fl])
          have g6 : upd Hb t4 (.tup [.ref o, .ref fl]) t4 = some (.tup [.ref o, .ref fl]) := upd_same
          generalize upd Hb t4 (.tup [.ref o, .ref fl]) = Hc at r6 r6' r6'' g6 ⊢
          refine ⟨_, rfl, t4, t3, _, _, rfl, rfl, SqT.of g6, SqT.of (r6' _ _ g4), (by show 2 + 3 ≤ sizeLine; decide), (fun z => nomatch z), (fun _ z => nomatch z), fun _ _ t5 ht5 => ?_⟩
          have r7 := same_new r6 ht5 (o := .tup ([.ref o, .ref fl] ++ [.ref l1, .ref l2, .ref l3]))
          have r7' := same_new r6'' ht5 (o := .tup ([.ref o, .ref fl] ++ [.ref l1, .ref l2, .ref l3]))
          have g7 : upd Hc t5 (.tup ([.ref o, .ref fl] ++ [.ref l1, .ref l2, .ref l3])) t5 = some (.tup ([.ref o, .ref fl] ++ [.ref l1, .ref l2, .ref l3])) := upd_same
          generalize upd Hc t5 (.tup ([.ref o, .ref fl] ++ [.ref l1, .ref l2, .ref l3])) = Hd at r7 r7' g7 ⊢
          refine ⟨_, rfl, h, _, rfl, dget_str (fin r7) rfl, (by show 1 ≤ sizeLine; decide), fun t6 ht6 => ?_⟩
          have r8 := same_new r7 ht6 (o := .tup [.non])
          have r8' := same_new r7' ht6 (o := .tup [.non])
          have g8 : upd Hd t6 (.tup [.non]) t6 = some (.tup [.non]) := upd_same
          have g7' : upd Hd t6 (.tup [.non]) t5 = some (.tup ([.ref o, .ref fl] ++ [.ref l1, .ref l2, .ref l3])) := by rw [upd_ne (ne_of_none g7 ht6)]; exact g7
          generalize upd Hd t6 (.tup [.non]) = He at r8 r8' g8 g7' ⊢
          refine ⟨t5, t6, _, _, rfl, rfl, SqT.of g7', SqT.of g8, (by show 5 + 1 ≤ sizeLine; decide), (fun z => nomatch z), (fun _ z => nomatch z), fun _ _ t7 ht7 => ?_⟩
          have r9 := same_new r8 ht7 (o := .tup ([.ref o, .ref fl] ++ [.ref l1, .ref l2, .ref l3] ++ [.non]))
          have r9' := same_new r8' ht7 (o := .tup ([.ref o, .ref fl] ++ [.ref l1, .ref l2, .ref l3] ++ [.non]))
          exact k t7 (.ref o) _ _ (s.trans r9) upd_same (.tup (r9' _ _ g5) (.cons (.str _) (.cons (hv.mono (sameTups r9)) .nil)))
        · refine ⟨_, rfl, rfl, _, rfl, iteT ?_⟩
          refine ⟨_, rfl, (by show 2 ≤ sizeLine; decide), fun o ho => ?_⟩
          have r1 := same_new s ho (o := .tup [.str "broken", .str "odd"])
          have g1 : upd H' o (.tup [.str "broken", .str "odd"]) o = some (.tup [.str "broken", .str "odd"]) := upd_same
          generalize upd H' o (.tup [.str "broken", .str "odd"]) = Ha at r1 g1 ⊢
          refine ⟨_, rfl, sl, _, rfl, r1 _ _ hsl, fun q hq => ?_⟩
          have r2 := same_new r1 hq (o := .dK [(.inr fn, x)])
          have r2' := same_new (Same.refl Ha) hq (o := .dK [(.inr fn, x)])
          refine ⟨Nat.zero_le _, fun l1 hl1 => ?_⟩
          have r3 := same_new r2 hl1 (o := .tup [])
          have r3' := same_new r2' hl1 (o := .tup [])
          refine ⟨Nat.zero_le _, fun l2 hl2 => ?_⟩
          have r4 := same_new r3 hl2 (o := .tup [])
          have r4' := same_new r3' hl2 (o := .tup [])
          refine ⟨Nat.zero_le _, fun l3 hl3 => ?_⟩
          have r5 := same_new r4 hl3 (o := .tup [])
          have r5' := same_new r4' hl3 (o := .tup [])
          refine ⟨(by show 6 ≤ sizeLine; decide), fun t7 ht7 => ?_⟩
          have r6 := same_new r5 ht7 (o := .tup [.ref o, .ref q, .ref l1, .ref l2, .ref l3, .non])
          have r6' := same_new r5' ht7 (o := .tup [.ref o, .ref q, .ref l1, .ref l2, .ref l3, .non])
          exact k t7 (.ref o) _ _ r6 upd_same (.tup (r6' _ _ g1) (.cons (.str _) (.cons (.str _) .nil)))
end
end K3
namespace GG
open PySem PySem.Spec PyProof.Rows L2
/-! ### {**a, **b} -/
section
variable {prog : Program} {w : World} {A : Around} {E : Value → Shared → Prop} {s : Shared} {T : Type} [DecidableEq T] {kk : KeyKind prog w T}
/-- one entry of a table that is spread into another -/
theorem put_one {d : Addr} {ps : List (T × Value)} {k : T} {key v : Value} {Q : Unit → Shared → Prop} (is : kk.is k key = true) (D : s.heap.DictOf kk d ps) (few : ps.length ≤ sizeLine)
    (then' : ∀ g, g.DictOf kk d (stored ps k v) → Heap.SameBut d s.heap g → Q () { s with heap := g }) : wpAny (model prog w) A (dictPut d (kk.hash k) key v) Q E s := by
  obtain ⟨ob, tab, n, there, cl, dat, keyed, pairs, unlike⟩ := D
  have sz : tab.toList.length = ps.length := pairs.length
  have small : tab.size ≤ sizeLine := by rw [← Array.length_toList, sz]; exact few
  have place : tab.findIdx? (fun e => kk.is k e.key) = ps.findIdx? fun q => decide (q.1 = k) := by
    have := pairs.findIdx k
    cases tab with
    | mk l => simpa using this
  unfold dictPut
  refine wpAny_bind (wpAny_dictFind_of is there dat keyed ?_)
  cases q : tab.findIdx? (fun e => kk.is k e.key) with
  | none =>
    have out : k ∉ ps.map (·.1) := not_mem_of_findIdx_none (by rw [← place]; exact q)
    have grown : stored ps k v = ps ++ [(k, v)] := if_neg fun z => by
      obtain ⟨u, um, ue⟩ := List.any_eq_true.mp z
      exact out (List.mem_map.mpr ⟨u, um, of_decide_eq_true ue⟩)
    refine wpAny_updateDictKeys (f := fun t => t.push ⟨kk.hash k, key, v⟩) (hz := small) there dat (then' _ ?_ (Heap.SameBut.update ..))
    rw [grown]
    refine ⟨_, _, n + 1, Heap.get?_update_self _ there (Obj.isFreed_of_dict (Obj.data_mapDictKeys dat _)), cl.mapDictKeys _, Obj.data_mapDictKeys dat _, keyed.push is _, ?_, ?_⟩
    · have := pairs.append is (kk.hash k) v
      cases tab with
      | mk l => simpa using this
    · rw [List.map_append]
      exact List.nodup_append.mpr ⟨unlike, by simp, fun a am b bm e => out (by
        have bm' : b = k := by simpa using bm
        rw [bm'] at e
        rw [← e]
        exact am)⟩
  | some j =>
    have any := any_of_findIdx_some (by rw [← place]; exact q : ps.findIdx? (fun u => decide (u.1 = k)) = some j)
    have same : stored ps k v = ps.map fun u => if u.1 = k then (u.1, v) else u := if_pos any
    have lq : tab.toList.findIdx? (fun e => kk.is k e.key) = some j := by
      cases tab with
      | mk l => simpa using q
    refine wpAny_updateDict (f := fun t => t.modify j fun e => { e with val := v }) there dat (then' _ ?_ (Heap.SameBut.update ..))
    refine ⟨_, _, n, Heap.get?_update_self _ there (Obj.isFreed_of_dict (Obj.data_mapDict dat _)), cl.mapDict _, Obj.data_mapDict dat _, keyed.modify _ _, ?_, ?_⟩
    · have := pairs.modify unlike lq v
      rw [same]
      cases tab with
      | mk l => simpa using this
    · rw [same, keys_map_store]
      exact unlike
/-- one table spread into another -/
theorem spread {d o : Addr} {ps more : List (T × Value)} {Q : Unit → Shared → Prop} (plain : ∀ k a, kk.is k (.ref a) = false) (apart : d ≠ o) (own : (o == sysModules) = false) (D : s.heap.DictOf kk d ps) (O : s.heap.DictOf kk o more) (few : ps.length + more.length ≤ sizeLine)
    (then' : ∀ g, g.DictOf kk d (merged ps more) → Heap.SameBut d s.heap g → Q () { s with heap := g }) : wpAny (model prog w) A (mergeMapping d (.ref o) false) Q E s := by
  obtain ⟨ob, tab, n, there, cl, dat, keyed, pairs, unlike⟩ := id O
  have sz : tab.toList.length = more.length := pairs.length
  have sz' : tab.size = more.length := by rw [← sz, Array.length_toList]
  have turns : ∀ (m : Nat), m ≤ more.length → ∀ (g : Heap), g.DictOf kk d (merged ps (more.take m)) → Heap.SameBut d s.heap g →
      wpAny (model prog w) A (forIn ((List.range tab.size).drop m) PUnit.unit fun i (_ : PUnit) => (do
        let now ← dictEntries o
        match now[i]? with
          | some e => do
            holding [e.key, e.val] (dictPut d e.hash e.key e.val)
            let stamp ← dictEpoch o
            if (stamp != n) = true then do
                (unsupported "dict.changed-during-merge" : Sem PUnit)
                pure (ForInStep.yield PUnit.unit)
              else pure (ForInStep.yield PUnit.unit)
          | _ => do
            (unsupported "dict.changed-during-merge" : Sem PUnit)
            pure (ForInStep.yield PUnit.unit) : Sem (ForInStep PUnit))) (fun _ s' => Q () s') E { s with heap := g } := by
    intro m
    induction h : more.length - m generalizing m with
    | zero =>
      intro hm g dg sg
      rw [List.drop_of_length_le (by rw [List.length_range]; omega), List.forIn_nil]
      rw [List.take_of_length_le (by omega)] at dg
      exact wpAny_pure (then' g dg sg)
    | succ r ih =>
      intro hm g dg sg
      have lt : m < tab.size := by omega
      have one : (List.range tab.size).drop m = m :: (List.range tab.size).drop (m + 1) := by
        rw [List.drop_eq_getElem_cons (by rw [List.length_range]; exact lt), List.getElem_range]
      obtain ⟨⟨k, v⟩, hget⟩ : ∃ q, more[m]? = some q := ⟨more[m]'(by omega), List.getElem?_eq_getElem (by omega)⟩
      obtain ⟨ek, ev⟩ := pairs.get? (i := m) (e := tab[m]) (by rw [Array.getElem?_toList]; exact Array.getElem?_eq_getElem lt) hget
      obtain ⟨k', ek', eh⟩ := keyed tab[m] (Array.getElem_mem lt)
      have kE : k' = k := kk.inj _ _ _ ek' ek
      have thereG : g.get? o = some ob := (sg.2 o apart.symm).trans there
      rw [one, List.forIn_cons]
      refine wpAny_bind (wpAny_bind (wpAny_dictEntries thereG dat ?_))
      rw [Array.getElem?_eq_getElem lt]
      dsimp only
      rw [eh, kE, ev]
      have room : (merged ps (more.take m)).length ≤ sizeLine := by
        have u1 := merged_length_le ps (more.take m)
        rw [List.length_take] at u1
        omega
      refine wpAny_bind (wpAny_holding (put_one ek dg room fun g2 d2 s2 => ?_))
      refine wpAny_bind (wpAny_dictEpoch ((s2.2 o apart.symm).trans thereG) dat ?_)
      rw [if_neg (by simp)]
      refine wpAny_pure ?_
      refine ih (m + 1) (by omega) (by omega) g2 ?_ (sg.trans s2)
      rw [merged_take_succ ps more m (k, v) hget]
      exact d2
  have walk := turns 0 (Nat.zero_le _) s.heap (by simpa [merged] using D) (Heap.SameBut.refl _ _)
  rw [List.drop_zero] at walk
  have tail : wpAny (model prog w) A (dictEntries o >>= fun l => dictEpoch o >>= fun stamp0 => (forIn (List.range l.size) PUnit.unit fun i (_ : PUnit) => (do
        let now ← dictEntries o
        match now[i]? with
          | some e => do
            holding [e.key, e.val] (dictPut d e.hash e.key e.val)
            let stamp ← dictEpoch o
            if (stamp != stamp0) = true then do
                (unsupported "dict.changed-during-merge" : Sem PUnit)
                pure (ForInStep.yield PUnit.unit)
              else pure (ForInStep.yield PUnit.unit)
          | _ => do
            (unsupported "dict.changed-during-merge" : Sem PUnit)
            pure (ForInStep.yield PUnit.unit) : Sem (ForInStep PUnit))) >>= fun _ => pure ()) Q E s :=
    wpAny_bind (wpAny_dictEntries there dat (wpAny_bind (wpAny_dictEpoch there dat (wpAny_bind (wpAny_mono walk (fun _ _ z => wpAny_pure z) fun _ _ z => z)))))
  unfold mergeMapping
  refine wpAny_bind (wpAny_isInstance O.typeIs isSubtype_dict_dict ?_)
  rw [if_pos rfl]
  refine wpAny_bind (wpAny_specialOf O.typeIs F.slot_dict_iter.lookup (wpAny_bind (wpAny_pure ?_)))
  rw [beq_self_eq_true]
  dsimp only
  rw [if_neg (by rw [own]; decide)]
  obtain ⟨od, td, _, thereD, _, datD, _⟩ := id D
  refine wpAny_bind (wpAny_dictEntries thereD datD ?_)
  split
  · refine wpAny_bind (wpAny_dictEntries there dat (wpAny_bind ?_))
    rw [← Array.forIn_toList]
    refine wpAny_forIn_list _ (fun left _ s' => s' = s ∧ ∀ e ∈ left, e ∈ tab) _ ?_ ?_ _ _ ⟨rfl, fun e he => Array.mem_toList_iff.mp he⟩
    · rintro e left _ _ ⟨rfl, sub⟩
      obtain ⟨k, isk, _⟩ := keyed e (sub e (List.mem_cons_self ..))
      have go : ∀ e' ∈ left, e' ∈ tab := fun e' m => sub e' (List.mem_cons_of_mem _ m)
      cases c : e.key with
      | ref a =>
        rw [c, plain] at isk
        cases isk
      | _ => exact wpAny_pure ⟨rfl, go⟩
    · rintro _ _ ⟨rfl, _⟩
      exact tail
  · exact tail
theorem display2 {a b : Expr} {env : Env} {pos : Pos} {Q : Value → Shared → Prop} (plain : ∀ k a, kk.is k (.ref a) = false)
    (h : wpAny (model prog w) A (eval a env) (fun u s1 => ∃ x kx, u = .ref x ∧ x ≠ s.heap.objs.size ∧ (x == sysModules) = false ∧ s1.heap.DictOf kk s.heap.objs.size [] ∧ s1.heap.DictOf kk x kx ∧ kx.length ≤ sizeLine ∧
      ∀ h1, h1.DictOf kk s.heap.objs.size (merged [] kx) → Heap.SameBut s.heap.objs.size s1.heap h1 → wpAny (model prog w) A (eval b env) (fun u2 s2 => ∃ y ky kd, u2 = .ref y ∧ y ≠ s.heap.objs.size ∧ (y == sysModules) = false ∧ s2.heap.DictOf kk s.heap.objs.size kd ∧ s2.heap.DictOf kk y ky ∧
        kd.length + ky.length ≤ sizeLine ∧ ∀ h2, h2.DictOf kk s.heap.objs.size (merged kd ky) → Heap.SameBut s.heap.objs.size s2.heap h2 → Q (.ref s.heap.objs.size) { s2 with heap := h2 }) E { s1 with heap := h1 }) E { s with heap := s.heap.push { cls := .type "dict", data := .dict #[] } }) :
    wpAny (model prog w) A (eval (.Dict [none, none] [a, b] pos) env) Q E s := by
  rw [arm_eval_Dict]
  refine wpAny_bind (wpAny_standAt ?_)
  show wpAny _ _ (dictDisplay [(none, do let x ← eval a env; standAt pos; pure x), (none, do let x ← eval b env; standAt pos; pure x)]) _ _ _
  unfold dictDisplay
  dsimp only
  simp only [List.forIn_cons, List.forIn_nil, List.isEmpty_nil, if_true, pure_bind, bind_assoc]
  refine wpAny_bind (wpAny_alloc (wpAny_bind (wpAny_holding (wpAny_bind (wpAny_mono h (fun u s1 hz => ?_) fun _ _ e => e)))))
  obtain ⟨x, kx, rfl, nx, lx, d0, dx, hz1, hk⟩ := hz
  refine wpAny_bind (wpAny_standAt (wpAny_pure ?_))
  refine wpAny_bind (wpAny_onRaise (wpAny_tryCatch (wpAny_onRaise (wpAny_holding (spread plain (Ne.symm nx) lx d0 dx (by simpa using hz1) (fun h1 e1 sb1 => ?_))))))
  refine wpAny_bind (wpAny_holding (wpAny_bind (wpAny_mono (hk h1 e1 sb1) (fun u2 s2 hz2 => ?_) fun _ _ e => e)))
  obtain ⟨y, ky, kd, rfl, ny, ly, d1, dy, hz3, hq⟩ := hz2
  refine wpAny_bind (wpAny_standAt (wpAny_pure ?_))
  refine wpAny_bind (wpAny_onRaise (wpAny_tryCatch (wpAny_onRaise (wpAny_holding (spread plain (Ne.symm ny) ly d1 dy hz3 (fun h2 e2 sb2 => ?_))))))
  exact wpAny_pure (hq h2 e2 sb2)
end
section
variable {X : Cx}
theorem mix_noref {P : Program} {w : World} : ∀ (k : Key) (a : Addr), (mixKind P w).is k (.ref a) = false := fun k a => by
  cases h : (mixKind P w).is k (.ref a) with
  | false => rfl
  | true =>
    rcases keyIs_shape (k := k) h with ⟨i, t, _, e⟩ | ⟨z, t, _, e⟩ <;> cases e
def tMerge (ta tb : TE) : TE := fun σ H Q => ∀ p, H p = none → ta σ (upd H p (.dK [])) fun x H1 => ∃ a ka, x = .ref a ∧ a ≠ p ∧ H1 p = some (.dK []) ∧ H1 a = some (.dK ka) ∧
  tb σ (upd H1 p (.dK (mergeK [] ka))) fun y H2 => ∃ b kb kd, y = .ref b ∧ b ≠ p ∧ H2 p = some (.dK kd) ∧ H2 b = some (.dK kb) ∧ kd.length + kb.length ≤ sizeLine ∧ Q (.ref p) (upd H2 p (.dK (mergeK kd kb)))
theorem pe_merge2 {ea eb : Expr} {ta tb : TE} {pos : Pos} (ha : PE X ea ta) (hb : PE X eb tb) : PE X (.Dict [none, none] [ea, eb] pos) (tMerge ta tb) := by
  refine ⟨fun pins s σ H Q I q => ?_⟩
  have fr : H s.heap.objs.size = none := I.hok.fresh (Nat.le_refl _)
  have I1 := I.laid (a := s.heap.objs.size) (o := .dK []) (h' := s.heap.push { cls := .type "dict", data := .dict #[] }) (t' := s.toks) (fun _ _ q => Heap.get?_push_of_some _ q) (Nat.le_refl _) (dk_empty s.heap I.big)
  refine display2 (kk := mixKind X.prog X.w) mix_noref (thn (ha.run pins _ σ _ _ I1 (q _ fr)) fun u s1 ⟨x, H1, I2, rx, a, ka, ex, na, e1, e2, q2⟩ => ?_)
  subst ex
  cases rx
  obtain ⟨z1, hd1, vs1, k1, dd1⟩ := dk_of I2.hok e1
  obtain ⟨z2, hd2, vs2, k2, dd2⟩ := dk_of I2.hok e2
  cases k1
  have l2 := k2.length
  refine ⟨a, vs2, rfl, na, hd2, dd1, dd2, by rw [← l2]; exact z2, fun h1 d1 sb1 => ?_⟩
  have many : (mergeK [] ka).length ≤ sizeLine := by
    have := length_mergeK ka []
    simp only [List.length_nil, Nat.zero_add] at this
    omega
  have he1 : ∃ q, h1.get? s.heap.objs.size = some q := let ⟨q, _, _, hq, _⟩ := d1; ⟨q, hq⟩
  have I3 := d_write (t' := s1.toks) I2 (by rw [e1]; exact True.intro) sb1 he1 (dk_new many hd1 (k2.merge .nil) d1)
  refine thn (hb.run pins _ σ _ _ I3 q2) fun u2 s2 ⟨y, H2, I4, ry, b, kb, kd, ey, nb, e3, e4, few, q3⟩ => ?_
  subst ey
  cases ry
  obtain ⟨z3, hd3, vs3, k3, dd3⟩ := dk_of I4.hok e3
  obtain ⟨z4, hd4, vs4, k4, dd4⟩ := dk_of I4.hok e4
  have l3 := k3.length
  have l4 := k4.length
  refine ⟨b, vs4, vs3, rfl, nb, hd4, dd3, dd4, by omega, fun h2 d2 sb2 => ⟨.ref s.heap.objs.size, _, ?_, rfl, q3⟩⟩
  have many2 : (mergeK kd kb).length ≤ sizeLine := by
    have := length_mergeK kb kd
    omega
  have he2 : ∃ q, h2.get? s.heap.objs.size = some q := let ⟨q, _, _, hq, _⟩ := d2; ⟨q, hq⟩
  exact d_write (t' := s2.toks) I4 (by rw [e3]; exact True.intro) sb2 he2 (dk_new many2 hd3 (k4.merge k3) d2)
end
end GG
namespace GG
open PySem PySem.Spec PyProof.Rows L2
/-! ### dict(zip(xs, t)), xs a list, t a tuple -/
section
variable {prog : Program} {w : World}
/-- what hands xs out one by one at i, by what stands at src -/
structure Feed (prog : Program) (w : World) (i : Addr) (src : List Addr) (xs : Array Value) (On : Nat → Heap → Prop) : Prop where
  mine : i ∈ src
  there : ∀ k h, On k h → ∀ a ∈ src, ∃ o, h.get? a = some o
  keep : ∀ k h g, On k h → (∀ a ∈ src, ∀ o, h.get? a = some o → g.get? a = some o) → On k g
  item : ∀ (A : Around) (k : Nat) (x : Value) (s : Shared) (Q : Value → Shared → Prop) (E : Value → Shared → Prop), On k s.heap → xs[k]? = some x →
    (∀ g, On (k + 1) g → Heap.ExtBut i s.heap g → g.objs.size = s.heap.objs.size → Q x { s with heap := g }) → wpAny (model prog w) A (Builtin.SmallTypes.nextOf (.ref i)) Q E s
  stop : ∀ (A : Around) (k : Nat) (s : Shared) (Q : Value → Shared → Prop) (E : Value → Shared → Prop), A.handled = none → On k s.heap → xs[k]? = none →
    (∀ g e, Heap.ExtBut i s.heap g → (∃ o, g.get? e = some o ∧ o.cls = .type "StopIteration") → E (.ref e) { s with heap := g }) → wpAny (model prog w) A (Builtin.SmallTypes.nextOf (.ref i)) Q E s
theorem feed_list {i l : Addr} (ne : l ≠ i) (xs : Array Value) : Feed prog w i [i, l] xs fun k h => h.IsListIter i l k ∧ h.IsList l xs where
  mine := List.mem_cons_self ..
  there := fun k h on a m => by
    obtain ⟨⟨o1, e1, _⟩, ⟨o2, e2, _⟩⟩ := on
    rcases List.mem_cons.mp m with rfl | m
    · exact ⟨o1, e1⟩
    · rw [List.mem_singleton.mp m]
      exact ⟨o2, e2⟩
  keep := fun k h g on f => ⟨on.1.at fun o e => f i (by simp) o e, on.2.at fun o e => f l (by simp) o e⟩
  item := fun A k x s Q E on e q => wpAny_nextOf_list_item on.1 on.2 e fun g i1 sb => q g ⟨i1, on.2.extBut sb.extBut ne⟩ sb.extBut sb.1
  stop := fun A k s Q E hh on e q => wpAny_nextOf_list_end hh on.1 on.2 e q
theorem feed_tuple {i l : Addr} (ne : l ≠ i) (xs : Array Value) : Feed prog w i [i, l] xs fun k h => h.IsTupleIter i l k ∧ h.IsTuple l xs where
  mine := List.mem_cons_self ..
  there := fun k h on a m => by
    obtain ⟨⟨o1, e1, _⟩, ⟨o2, e2, _⟩⟩ := on
    rcases List.mem_cons.mp m with rfl | m
    · exact ⟨o1, e1⟩
    · rw [List.mem_singleton.mp m]
      exact ⟨o2, e2⟩
  keep := fun k h g on f => ⟨on.1.at fun o e => f i (by simp) o e, on.2.at fun o e => f l (by simp) o e⟩
  item := fun A k x s Q E on e q => RZ.nextOf_tuple_item on.1 on.2 e fun g i1 sb => q g ⟨i1, on.2.extBut sb.extBut ne⟩ sb.extBut sb.1
  stop := fun A k s Q E hh on e q => RZ.nextOf_tuple_end hh on.1 on.2 e q
/-- a zip's own objects, and those of its two feeds, are unlike -/
structure ZipOff (z I O i1 i2 : Addr) (src1 src2 : List Addr) : Prop where
  z1 : z ∉ src1
  z2 : z ∉ src2
  o1 : O ∉ src1
  o2 : O ∉ src2
  zI : I ≠ z
  zO : O ≠ z
  IO : I ≠ O
  I1 : I ≠ i1
  I2 : I ≠ i2
  i12 : i1 ∉ src2
  i21 : i2 ∉ src1
abbrev Same4 (z O i1 i2 : Addr) (h g : Heap) : Prop := ∀ c o, c ≠ z → c ≠ O → c ≠ i1 → c ≠ i2 → h.get? c = some o → g.get? c = some o
section
variable {A : Around} {E : Value → Shared → Prop} {s : Shared} {z I O i1 i2 : Addr} {src1 src2 : List Addr} {xs ys : Array Value} {On1 On2 : Nat → Heap → Prop} {k : Nat}
/-- both feeds drawn once, one behind the other, while a heap's other parts stand -/
theorem draw_two {C : Type} {Q : C → Shared → Prop} (hh : A.handled = none) (F1 : Feed prog w i1 src1 xs On1) (F2 : Feed prog w i2 src2 ys On2) (off : i1 ∉ src2) {m k : Nat} (h1 : On1 m s.heap) (h2 : On2 k s.heap) (f : Value → Sem C)
    (one : ∀ x, xs[m]? = some x → ∀ g, On1 (m + 1) g → On2 k g → Heap.ExtBut i1 s.heap g → g.objs.size = s.heap.objs.size → wpAny (model prog w) A (f x) Q E { s with heap := g })
    (none1 : xs[m]? = none → ∀ g e, Heap.ExtBut i1 s.heap g → (∃ o, g.get? e = some o ∧ o.cls = .type "StopIteration") → E (.ref e) { s with heap := g }) :
    wpAny (model prog w) A (Builtin.SmallTypes.nextOf (.ref i1) >>= f) Q E s := by
  cases q : xs[m]? with
  | none => exact wpAny_bind (F1.stop A m s _ _ hh h1 q fun g e x y => none1 q g e x y)
  | some x => exact wpAny_bind (F1.item A m x s _ _ h1 q fun g on x1 x2 => one x q g on (F2.keep k _ g h2 fun a m o e => x1 a o (fun z => off (z ▸ m)) e) x1 x2)
/-- how a zip stands: nothing given out yet, or what it gave out last stands at T, not at d -/
def ZipSt (h : Heap) (z I O i1 i2 d : Addr) : Prop := IsPair h I (.ref i1) (.ref i2) ∧
  ((IsZip h z I O .none ∧ ∃ a b, IsPair h O a b) ∨ ∃ T f oT, IsZipHeld h z I O T f ∧ h.get? T = some oT ∧ T ≠ d ∧ T ≠ z ∧ T ≠ O ∧ T ≠ i1 ∧ T ≠ i2)
theorem zip_body {d : Addr} {Q : Option Value → Shared → Prop} (hh : A.handled = none) (F1 : Feed prog w i1 src1 xs On1) (F2 : Feed prog w i2 src2 ys On2) (D : ZipOff z I O i1 i2 src1 src2) (h1 : On1 k s.heap) (h2 : On2 k s.heap) (st : ZipSt s.heap z I O i1 i2 d) (hd : ∀ x y, xs[k]? = some x → ys[k]? = some y → d < s.heap.objs.size)
    (got : ∀ x y, xs[k]? = some x → ys[k]? = some y → ∀ g, On1 (k + 1) g → On2 (k + 1) g → ZipSt g z I O i1 i2 d → IsPair g s.heap.objs.size x y → Same4 z O i1 i2 s.heap g → Q (some (.ref s.heap.objs.size)) { s with heap := g })
    (out : xs[k]? = none ∨ ys[k]? = none → ∀ g, Same4 z O i1 i2 s.heap g → Q none { s with heap := g }) :
    wpAny (model prog w) A (Builtin.«zip.__next__» ⟨[.ref z], []⟩) (fun r s' => ∃ v, r = .done (.ret v) ∧ Q (some v) s') (fun e s' => ∃ a o, e = .ref a ∧ s'.heap.get? a = some o ∧ o.cls = .type "StopIteration" ∧ Q none s') s := by
  have zi1 : z ≠ i1 := fun q => D.z1 (q ▸ F1.mine)
  have zi2 : z ≠ i2 := fun q => D.z2 (q ▸ F2.mine)
  have oi1 : O ≠ i1 := fun q => D.o1 (q ▸ F1.mine)
  have oi2 : O ≠ i2 := fun q => D.o2 (q ▸ F2.mine)
  obtain ⟨hI, ⟨hz, a, b, hO⟩ | ⟨T, f, oT, hz, hT, n1, n2, n3, n4, n5⟩⟩ := st
  · refine wpAny_bind (m := field (.ref z) 2) (wpAny_field hz rfl (x := .bool false) rfl (wpAny_bind (m := field (.ref z) 3) (wpAny_field hz rfl (x := .ref I) rfl (wpAny_bind (wpAny_seqItems hI rfl ?_)))))
    refine wpAny_bind (m := Builtin.SmallTypes.ownedTupleIsFree (.ref z)) (wpAny_bind (m := field (.ref z) 0) (wpAny_field hz rfl (x := .none) rfl (wpAny_pure ?_)))
    rw [if_pos rfl]
    refine wpAny_bind (wpAny_rule (wpAny_bind (wpAny_field hz rfl (x := .ref O) rfl (wpAny_bind (wpAny_setField_rec hz (by simp) fun g0 z0 s0 => ?_)))))
    have z0' : IsZip g0 z I O .ellipsis := z0
    have e0 : Heap.ExtBut z s.heap g0 := s0.extBut
    have k1 : On1 k g0 := F1.keep k _ _ h1 fun c m o e => e0 c o (fun q => D.z1 (q ▸ m)) e
    have k2 : On2 k g0 := F2.keep k _ _ h2 fun c m o e => e0 c o (fun q => D.z2 (q ▸ m)) e
    have hO0 : IsPair g0 O a b := e0 _ _ D.zO hO
    refine wpAny_bind ?_
    simp only [List.zipIdx_cons, List.zipIdx_nil, List.forIn_cons, List.forIn_nil]
    refine wpAny_bind (wpAny_bind (wpAny_onRaise ?_))
    refine draw_two (s := { s with heap := g0 }) hh F1 F2 D.i12 k1 k2 _ (fun x ex g1 c1 c2 e1 w1 => wpAny_pure ?_) fun q g e e1 st => ?_
    · have hO1 : IsPair g1 O a b := e1 _ _ oi1 hO0
      have z1 : IsZip g1 z I O .ellipsis := e1 _ _ zi1 z0'
      refine wpAny_bind (wpAny_seqItems hO1 rfl (wpAny_bind (wpAny_updateSeq_pair hO1 fun g2 O2 s2 => wpAny_bind (wpAny_letGo (wpAny_pure ?_)))))
      have O2' : IsPair g2 O x b := O2
      have e2 : Heap.ExtBut O g1 g2 := s2.extBut
      have z2 : IsZip g2 z I O .ellipsis := e2 _ _ D.zO.symm z1
      have d1 : On1 (k + 1) g2 := F1.keep _ _ _ c1 fun c m o e => e2 c o (fun q => D.o1 (q ▸ m)) e
      have d2 : On2 k g2 := F2.keep _ _ _ c2 fun c m o e => e2 c o (fun q => D.o2 (q ▸ m)) e
      refine wpAny_bind (wpAny_bind (wpAny_onRaise ?_))
      refine draw_two (s := { s with heap := g2 }) hh F2 F1 D.i21 d2 d1 _ (fun y ey g3 c4 c3 e3 w3 => wpAny_pure ?_) fun q g e e3 st => ?_
      · have hO3 : IsPair g3 O x b := e3 _ _ oi2 O2'
        refine wpAny_bind (wpAny_seqItems hO3 rfl (wpAny_bind (wpAny_updateSeq_pair hO3 fun g4 O4 s4 => wpAny_bind (wpAny_letGo (wpAny_pure (wpAny_pure ?_))))))
        have O4' : IsPair g4 O x y := O4
        have e4 : Heap.ExtBut O g3 g4 := s4.extBut
        have z4 : IsZip g4 z I O .ellipsis := e4 _ _ D.zO.symm (e3 _ _ zi2 z2)
        have sz : g4.objs.size = s.heap.objs.size := by rw [s4.1, w3, s2.1, w1, s0.1]
        have kp : ∀ c o, c ≠ z → c ≠ O → c ≠ i1 → c ≠ i2 → s.heap.get? c = some o → g4.get? c = some o := fun c o q1 q2 q3 q4 e => e4 c o q2 (e3 c o q4 (e2 c o q2 (e1 c o q3 (e0 c o q1 e))))
        refine wpAny_bind (wpAny_seqItems O4' rfl (wpAny_bind (wpAny_newTuple ?_)))
        have z5 : IsZip (g4.push { cls := .type "tuple", data := .seq #[x, y] }) z I O .ellipsis := Heap.get?_push_of_some _ z4
        refine wpAny_bind (m := Builtin.SmallTypes.ownedTupleHandOut (.ref z) (.ref g4.objs.size)) (wpAny_bind (m := setField (.ref z) 0 (rawInt g4.objs.size)) (wpAny_setField_rec z5 (by simp) fun g6 z6 s6 => ?_))
        refine wpAny_setField_rec z6 (by simp) fun g7 z7 s7 => wpAny_pure ⟨_, rfl, ?_⟩
        have up : ∀ c o, c ≠ z → g4.get? c = some o → g7.get? c = some o := fun c o q e => s7.extBut c o q (s6.extBut c o q (Heap.get?_push_of_some _ e))
        have zlt : z < g4.objs.size := Heap.lt_size z4
        have new : IsPair g7 g4.objs.size x y := s7.extBut _ _ (Nat.ne_of_gt zlt) (s6.extBut _ _ (Nat.ne_of_gt zlt) (Heap.get?_push_size _ rfl))
        have olt : O < g4.objs.size := Heap.lt_size O4'
        have on1 : On1 (k + 1) g7 := F1.keep _ _ _ c3 fun c m o e => up c o (fun q => D.z1 (q ▸ m)) (e4 c o (fun q => D.o1 (q ▸ m)) e)
        have on2 : On2 (k + 1) g7 := F2.keep _ _ _ c4 fun c m o e => up c o (fun q => D.z2 (q ▸ m)) (e4 c o (fun q => D.o2 (q ▸ m)) e)
        have lt1 : i1 < g4.objs.size := let ⟨o, e⟩ := F1.there _ _ (F1.keep _ _ _ c3 fun c m o e => e4 c o (fun q => D.o1 (q ▸ m)) e) i1 F1.mine; Heap.lt_size e
        have lt2 : i2 < g4.objs.size := let ⟨o, e⟩ := F2.there _ _ (F2.keep _ _ _ c4 fun c m o e => e4 c o (fun q => D.o2 (q ▸ m)) e) i2 F2.mine; Heap.lt_size e
        have I7 : IsPair g7 I (.ref i1) (.ref i2) := up _ _ D.zI (kp _ _ D.zI D.IO D.I1 D.I2 hI)
        show Q (some (.ref g4.objs.size)) _
        have z7' : IsZipHeld g7 z I O g4.objs.size false := z7
        rw [sz] at new z7' zlt olt lt1 lt2 ⊢
        exact got x y ex ey g7 on1 on2 ⟨I7, .inr ⟨_, _, _, z7', new, Nat.ne_of_gt (hd x y ex ey), Nat.ne_of_gt zlt, Nat.ne_of_gt olt, Nat.ne_of_gt lt1, Nat.ne_of_gt lt2⟩⟩ new fun c o q1 q2 q3 q4 e => up c o q1 (kp c o q1 q2 q3 q4 e)
      · obtain ⟨oe, he, ce⟩ := st
        have z3 : IsZip g z I O .ellipsis := e3 _ _ zi2 z2
        have ez : e ≠ z := fun q => by
          rw [q, z3] at he
          cases he
          simp at ce
        refine wpAny_setField_rec z3 (by simp) fun g5 _ s5 => ⟨e, oe, rfl, s5.extBut _ _ ez he, ce, out (.inr q) g5 fun c o q1 q2 q3 q4 x => s5.extBut c o q1 (e3 c o q4 (e2 c o q2 (e1 c o q3 (e0 c o q1 x))))⟩
    · obtain ⟨oe, he, ce⟩ := st
      have z3 : IsZip g z I O .ellipsis := e1 _ _ zi1 z0'
      have ez : e ≠ z := fun q => by
        rw [q, z3] at he
        cases he
        simp at ce
      refine wpAny_setField_rec z3 (by simp) fun g5 _ s5 => ⟨e, oe, rfl, s5.extBut _ _ ez he, ce, out (.inl q) g5 fun c o q1 q2 q3 q4 x => s5.extBut c o q1 (e1 c o q3 (e0 c o q1 x))⟩
  · refine wpAny_bind (m := field (.ref z) 2) (wpAny_field hz rfl (x := .bool false) rfl (wpAny_bind (m := field (.ref z) 3) (wpAny_field hz rfl (x := .ref I) rfl (wpAny_bind (wpAny_seqItems hI rfl ?_)))))
    refine wpAny_bind (m := Builtin.SmallTypes.ownedTupleIsFree (.ref z)) (wpAny_tupleHeld_zip hz hT fun g0 z0 s0 => ?_)
    rw [if_neg Bool.false_ne_true]
    have e0 : Heap.ExtBut z s.heap g0 := s0.extBut
    have k1 : On1 k g0 := F1.keep k _ _ h1 fun c m o e => e0 c o (fun q => D.z1 (q ▸ m)) e
    have k2 : On2 k g0 := F2.keep k _ _ h2 fun c m o e => e0 c o (fun q => D.z2 (q ▸ m)) e
    refine wpAny_bind ?_
    rw [← Array.forIn_toList]
    simp only [List.forIn_cons, List.forIn_nil]
    refine wpAny_bind (wpAny_bind (wpAny_holding ?_))
    refine draw_two (s := { s with heap := g0 }) hh F1 F2 D.i12 k1 k2 _ (fun x ex g1 c1 c2 e1 w1 => wpAny_pure (wpAny_pure ?_)) fun q g e e1 st => ?_
    · refine wpAny_bind (wpAny_bind (wpAny_holding ?_))
      refine draw_two (s := { s with heap := g1 }) hh F2 F1 D.i21 c2 c1 _ (fun y ey g2 c4 c3 e2 w2 => wpAny_pure (wpAny_pure (wpAny_pure (wpAny_bind (wpAny_newTuple (hsz := by show 2 ≤ sizeLine; decide) (wpAny_pure ⟨_, rfl, ?_⟩)))))) fun q g e e2 st => ?_
      · have kp : ∀ c o, c ≠ z → c ≠ i1 → c ≠ i2 → s.heap.get? c = some o → g2.get? c = some o := fun c o q1 q3 q4 e => e2 c o q4 (e1 c o q3 (e0 c o q1 e))
        have sz : g2.objs.size = s.heap.objs.size := by rw [w2, w1, s0.1]
        have up : ∀ c o, g2.get? c = some o → (g2.push { cls := .type "tuple", data := .seq #[x, y] }).get? c = some o := fun c o e => Heap.get?_push_of_some _ e
        have new : IsPair (g2.push { cls := .type "tuple", data := .seq #[x, y] }) g2.objs.size x y := Heap.get?_push_size _ rfl
        show Q (some (.ref g2.objs.size)) { s with heap := g2.push { cls := .type "tuple", data := .seq #[x, y] } }
        have zz : IsZipHeld (g2.push { cls := .type "tuple", data := .seq #[x, y] }) z I O T true := up _ _ (e2 _ _ zi2 (e1 _ _ zi1 z0))
        rw [sz] at new ⊢
        exact got x y ex ey _ (F1.keep _ _ _ c3 fun c m o e => up c o e) (F2.keep _ _ _ c4 fun c m o e => up c o e) ⟨up _ _ (kp _ _ D.zI D.I1 D.I2 hI), .inr ⟨T, true, oT, zz, up _ _ (kp _ _ n2 n4 n5 hT), n1, n2, n3, n4, n5⟩⟩ new fun c o q1 q2 q3 q4 e => up c o (kp c o q1 q3 q4 e)
      · obtain ⟨oe, he, ce⟩ := st
        exact ⟨e, oe, rfl, he, ce, out (.inr q) g fun c o q1 q2 q3 q4 x => e2 c o q4 (e1 c o q3 (e0 c o q1 x))⟩
    · obtain ⟨oe, he, ce⟩ := st
      exact ⟨e, oe, rfl, he, ce, out (.inl q) g fun c o q1 q2 q3 q4 x => e1 c o q3 (e0 c o q1 x)⟩
theorem zip_next {d : Addr} {Q : Option Value → Shared → Prop} (hh : A.handled = none) (F1 : Feed prog w i1 src1 xs On1) (F2 : Feed prog w i2 src2 ys On2) (D : ZipOff z I O i1 i2 src1 src2) (h1 : On1 k s.heap) (h2 : On2 k s.heap) (st : ZipSt s.heap z I O i1 i2 d) (hd : ∀ x y, xs[k]? = some x → ys[k]? = some y → d < s.heap.objs.size)
    (got : ∀ x y, xs[k]? = some x → ys[k]? = some y → ∀ g, On1 (k + 1) g → On2 (k + 1) g → ZipSt g z I O i1 i2 d → IsPair g s.heap.objs.size x y → Same4 z O i1 i2 s.heap g → Q (some (.ref s.heap.objs.size)) { s with heap := g })
    (out : xs[k]? = none ∨ ys[k]? = none → ∀ g, Same4 z O i1 i2 s.heap g → Q none { s with heap := g }) : wpAny (model prog w) A (pyNext (.ref z)) Q E s := by
  have ty : s.TypeIs (.ref z) "zip" := by
    rcases st.2 with ⟨hz, _⟩ | ⟨T, f, oT, hz, _⟩
    · exact ⟨_, hz, rfl⟩
    · exact ⟨_, hz, rfl⟩
  unfold pyNext
  refine wpAny_bind (wpAny_attempt (wpAny_callSpecial?_slot (name := "__next__") ty F.slot_zip_next (wpAny_call_entry F.slot_zip_next ty F.entry_zip_next (wpAny_mono (zip_body (Q := Q) hh F1 F2 D h1 h2 st hd got out) (fun r s' q => ?_) (fun e s' q => ?_)) (F.args_zip_next_1 _))))
  · obtain ⟨v, rfl, q⟩ := q
    exact ⟨v, rfl, wpAny_pure q⟩
  · obtain ⟨a, o, rfl, ho, hc, q⟩ := q
    exact wpAny_bind (wpAny_isInstance (T := "StopIteration") (b := true) ⟨o, ho, hc⟩ isSubtype_stop (wpAny_pure q))
/-- a zip as what dict() takes -/
theorem zip_arg (F1 : Feed prog w i1 src1 xs On1) (F2 : Feed prog w i2 src2 ys On2) (D : ZipOff z I O i1 i2 src1 src2) :
    PairArg prog w "zip" z (z :: I :: O :: (src1 ++ src2)) [z, O, i1, i2] (min xs.size ys.size) (fun i k v => xs[i]? = some k ∧ ys[i]? = some v)
      (fun h => IsZip h z I O .none ∧ IsPair h I (.ref i1) (.ref i2) ∧ (∃ a b, IsPair h O a b) ∧ On1 0 h ∧ On2 0 h) where
  type := fun s ok => ⟨_, ok.1, rfl⟩
  notDict := by decide
  keep := fun h g ok f => ⟨f _ _ ok.1, f _ _ ok.2.1, let ⟨a, b, e⟩ := ok.2.2.1; ⟨a, b, f _ _ e⟩, F1.keep _ _ _ ok.2.2.2.1 fun a _ o e => f a o e, F2.keep _ _ _ ok.2.2.2.2 fun a _ o e => f a o e⟩
  there := fun h ok b m => by
    obtain ⟨e1, e2, ⟨_, _, e3⟩, e4, e5⟩ := ok
    rcases List.mem_cons.mp m with rfl | m
    · exact ⟨_, e1⟩
    rcases List.mem_cons.mp m with rfl | m
    · exact ⟨_, e2⟩
    rcases List.mem_cons.mp m with rfl | m
    · exact ⟨_, e3⟩
    rcases List.mem_append.mp m with m | m
    · exact F1.there _ _ e4 b m
    · exact F2.there _ _ e5 b m
  sub := fun b m => by
    have a1 := F1.mine
    have a2 := F2.mine
    simp only [List.mem_cons, List.not_mem_nil, or_false] at m
    rcases m with rfl | rfl | rfl | rfl
    · simp
    · simp
    · exact List.mem_cons_of_mem _ (List.mem_cons_of_mem _ (List.mem_cons_of_mem _ (List.mem_append_left _ a1)))
    · exact List.mem_cons_of_mem _ (List.mem_cons_of_mem _ (List.mem_cons_of_mem _ (List.mem_append_right _ a2)))
  noKeys := fun A s Q E hh ok q => getAttrOr_miss_zip ok.1 rfl rfl rfl zip_no_keys (by decide +kernel) hh q
  iter := fun A s d Q E hh ok hd off q => by
    obtain ⟨e1, e2, e3, e4, e5⟩ := ok
    have dz : d ≠ z := fun x => off (by rw [x]; simp)
    have dI : d ≠ I := fun x => off (by rw [x]; simp)
    have dO : d ≠ O := fun x => off (by rw [x]; simp)
    have d1 : d ∉ src1 := fun x => off (by simp [x])
    have d2 : d ∉ src2 := fun x => off (by simp [x])
    refine wpAny_pyIter_zip e1 (q z [z, O, i1, i2] (fun i h => On1 i h ∧ On2 i h ∧ ZipSt h z I O i1 i2 d) s.heap s.toks ?_ ⟨e4, e5, e2, .inl ⟨e1, e3⟩⟩ (fun _ _ e => e) fun b m => .inl m)
    refine { off := fun m => ?_, frame := fun i h g st f => ?_, item := fun i s1 Q1 E1 hi st hd1 q1 => ?_, done := fun s1 Q1 E1 st q1 => ?_ }
    · simp only [List.mem_cons, List.not_mem_nil, or_false] at m
      rcases m with x | x | x | x
      · exact dz x
      · exact dO x
      · exact d1 (x ▸ F1.mine)
      · exact d2 (x ▸ F2.mine)
    · obtain ⟨u1, u2, u3, u4⟩ := st
      refine ⟨F1.keep _ _ _ u1 fun a m o e => f a o (fun x => d1 (x ▸ m)) e, F2.keep _ _ _ u2 fun a m o e => f a o (fun x => d2 (x ▸ m)) e, f _ _ dI.symm u3, ?_⟩
      rcases u4 with ⟨v1, a, b, v2⟩ | ⟨T, b, oT, v1, v2, n1, n2, n3, n4, n5⟩
      · exact .inl ⟨f _ _ dz.symm v1, a, b, f _ _ dO.symm v2⟩
      · exact .inr ⟨T, b, oT, f _ _ dz.symm v1, f _ _ n1 v2, n1, n2, n3, n4, n5⟩
    · obtain ⟨u1, u2, u3⟩ := st
      refine zip_next hh F1 F2 D u1 u2 u3 (fun _ _ _ _ => hd1) (fun x y ex ey g o1 o2 zz new s4 => ?_) (fun no g s4 => ?_)
      · exact q1 s1.heap.objs.size x y g s1.toks ⟨ex, ey⟩ (.inl ⟨_, new, rfl, _, rfl⟩) ⟨o1, o2, zz⟩ fun b o m e => s4 b o (fun x => m (by simp [x])) (fun x => m (by simp [x])) (fun x => m (by simp [x])) (fun x => m (by simp [x])) e
      · exfalso
        have l1 : i < xs.size := by omega
        have l2 : i < ys.size := by omega
        rw [Array.getElem?_eq_getElem l1, Array.getElem?_eq_getElem l2] at no
        rcases no with no | no <;> cases no
    · obtain ⟨u1, u2, u3⟩ := st
      have no : ∀ x y, xs[min xs.size ys.size]? = some x → ys[min xs.size ys.size]? = some y → False := fun x y ex ey => by
        have l1 := (Array.getElem?_eq_some_iff.mp ex).1
        have l2 := (Array.getElem?_eq_some_iff.mp ey).1
        omega
      refine zip_next hh F1 F2 D u1 u2 u3 (fun x y ex ey => (no x y ex ey).elim) (fun x y ex ey => (no x y ex ey).elim) (fun _ g s4 => ?_)
      exact q1 g s1.toks fun b o m e => s4 b o (fun x => m (by simp [x])) (fun x => m (by simp [x])) (fun x => m (by simp [x])) (fun x => m (by simp [x])) e
theorem five (h : Heap) {o1 o2 o3 o4 o5 : Obj} (f1 : o1.isFreed = false) (f2 : o2.isFreed = false) (f3 : o3.isFreed = false) (f4 : o4.isFreed = false) (f5 : o5.isFreed = false) :
    (((((h.push o1).push o2).push o3).push o4).push o5).objs.size = h.objs.size + 5 ∧ (∀ c o, h.get? c = some o → (((((h.push o1).push o2).push o3).push o4).push o5).get? c = some o) ∧ (((((h.push o1).push o2).push o3).push o4).push o5).get? h.objs.size = some o1 ∧
      (((((h.push o1).push o2).push o3).push o4).push o5).get? (h.objs.size + 1) = some o2 ∧ (((((h.push o1).push o2).push o3).push o4).push o5).get? (h.objs.size + 2) = some o3 ∧ (((((h.push o1).push o2).push o3).push o4).push o5).get? (h.objs.size + 3) = some o4 ∧
      (((((h.push o1).push o2).push o3).push o4).push o5).get? (h.objs.size + 4) = some o5 := by
  have z1 : (h.push o1).objs.size = h.objs.size + 1 := Heap.size_push ..
  have z2 : ((h.push o1).push o2).objs.size = h.objs.size + 2 := by rw [Heap.size_push, z1]
  have z3 : (((h.push o1).push o2).push o3).objs.size = h.objs.size + 3 := by rw [Heap.size_push, z2]
  have z4 : ((((h.push o1).push o2).push o3).push o4).objs.size = h.objs.size + 4 := by rw [Heap.size_push, z3]
  refine ⟨by rw [Heap.size_push, z4], fun c o e => ?_, ?_, ?_, ?_, ?_, ?_⟩
  · exact Heap.get?_push_of_some _ (Heap.get?_push_of_some _ (Heap.get?_push_of_some _ (Heap.get?_push_of_some _ (Heap.get?_push_of_some _ e))))
  · exact Heap.get?_push_of_some _ (Heap.get?_push_of_some _ (Heap.get?_push_of_some _ (Heap.get?_push_of_some _ (Heap.get?_push_size _ f1))))
  · rw [← z1]
    exact Heap.get?_push_of_some _ (Heap.get?_push_of_some _ (Heap.get?_push_of_some _ (Heap.get?_push_size _ f2)))
  · rw [← z2]
    exact Heap.get?_push_of_some _ (Heap.get?_push_of_some _ (Heap.get?_push_size _ f3))
  · rw [← z3]
    exact Heap.get?_push_of_some _ (Heap.get?_push_size _ f4)
  · rw [← z4]
    exact Heap.get?_push_size _ f5
/-- zip(xs, t), made -/
theorem zip_made {s : Shared} {a b : Addr} {xs ys : Array Value} {Q : Value → Shared → Prop} (ha : s.heap.IsList a xs) (hb : s.heap.IsTuple b ys)
    (q : ∀ g, g.objs.size = s.heap.objs.size + 5 → (∀ c o, s.heap.get? c = some o → g.get? c = some o) → IsZip g (s.heap.objs.size + 4) (s.heap.objs.size + 2) (s.heap.objs.size + 3) .none → IsPair g (s.heap.objs.size + 2) (.ref s.heap.objs.size) (.ref (s.heap.objs.size + 1)) →
      IsPair g (s.heap.objs.size + 3) .none .none → g.IsListIter s.heap.objs.size a 0 → g.IsTupleIter (s.heap.objs.size + 1) b 0 → Q (.ref (s.heap.objs.size + 4)) { s with heap := g }) :
    wpAny (model prog w) A (call (.type "zip") [.ref a, .ref b]) Q E s := by
  have made : Meets (Builtin.«zip.__new__» ⟨[.type "zip", .ref a, .ref b], []⟩) (fun _ R s' => s'.heap.IsList a xs ∧ s'.heap.IsTuple b ys ∧ ∀ g, g.objs.size = s'.heap.objs.size + 5 → (∀ c o, s'.heap.get? c = some o → g.get? c = some o) →
      IsZip g (s'.heap.objs.size + 4) (s'.heap.objs.size + 2) (s'.heap.objs.size + 3) .none → IsPair g (s'.heap.objs.size + 2) (.ref s'.heap.objs.size) (.ref (s'.heap.objs.size + 1)) → IsPair g (s'.heap.objs.size + 3) .none .none →
      g.IsListIter s'.heap.objs.size a 0 → g.IsTupleIter (s'.heap.objs.size + 1) b 0 → R (.ok (.ret (.ref (s'.heap.objs.size + 4)))) { s' with heap := g }) := .of_wp fun prog w A R s' h => by
    obtain ⟨h0, gs, dr, tk, os⟩ := s'
    obtain ⟨la, tb, h⟩ := h
    have sz := sub_zip
    have la' : Heap.IsList (Shared.heap ⟨h0, gs, dr, tk, os⟩) a xs := la
    have tb' : Heap.IsTuple (Shared.heap ⟨h0.push { cls := .type "list_iterator", data := .fields #[.ref a, .int 0 0] }, gs, dr, tk, os⟩) b ys := let ⟨o, e, r⟩ := tb; ⟨o, Heap.get?_push_of_some _ e, r⟩
    wp_walk using wpAny_pyIter_list la', wpAny_pyIter_tuple tb'
    dsimp only
    simp only [Heap.size_push]
    refine ⟨_, rfl, ?_⟩
    obtain ⟨w1, w2, w3, w4, w5, w6, w7⟩ := five h0 (o1 := { cls := .type "list_iterator", data := .fields #[.ref a, .int 0 0] }) (o2 := { cls := .type "tuple_iterator", data := .fields #[.ref b, .int 0 0] }) (o3 := { cls := .type "tuple", data := .seq #[.ref h0.objs.size, .ref (h0.objs.size + 1)] })
      (o4 := { cls := .type "tuple", data := .seq #[.none, .none] }) (o5 := { cls := .type "zip", data := .fields #[.none, .bool false, .bool false, .ref (h0.objs.size + 2), .ref (h0.objs.size + 3)] }) rfl rfl rfl rfl rfl
    exact h _ w1 w2 w7 w5 w6 ⟨_, w3, rfl, rfl⟩ ⟨_, w4, rfl, rfl⟩
  refine callType_new F.called_zip (by decide) (F.typeCall_zip_2 _ _) (F.newCall_zip_2 _ _) (fun obj => F.args_object_init_3 obj _ _) F.entry_zip_new made ⟨ha, hb, fun g e1 e2 e3 e4 e5 e6 e7 => ⟨⟨_, e3, rfl⟩, q g e1 e2 e3 e4 e5 e6 e7⟩⟩
end
end
end GG
namespace GG
open PySem PySem.Spec PyProof.Rows L2
/-! ### dict(zip(xs, t)), as an expression -/
theorem vals_str : ∀ {ks : List Str} {us : List Value}, Vals (ks.map V.str) us → us.length = ks.length ∧ ∀ (i : Nat) (u : Value), us[i]? = some u → ∃ z t, ks[i]? = some z ∧ u = .str z t
  | [], us, h => by
    cases h
    exact ⟨rfl, fun i u e => by simp at e⟩
  | k :: ks, us, h => by
    cases h with
    | @cons _ w _ ws r a =>
      obtain ⟨l, q⟩ := vals_str a
      refine ⟨by simp [l], fun i u e => ?_⟩
      cases i with
      | zero =>
        cases e
        obtain ⟨t, rfl⟩ := r
        exact ⟨k, t, rfl, rfl⟩
      | succ i => exact q i u e
/-- keys and values zipped, as they stand -/
def zipV : List Str → List Value → List (Key × Value)
  | k :: ks, u :: us => (.inr k, u) :: zipV ks us
  | _, _ => []
def zipK : List Str → List V → List (Key × V)
  | k :: ks, u :: us => (.inr k, u) :: zipK ks us
  | _, _ => []
theorem zipV_kv : ∀ (ks : List Str) {ys : List V} {us : List Value}, Vals ys us → KV (zipK ks ys) (zipV ks us)
  | [], _, _, _ => .nil
  | k :: ks, _, _, .nil => .nil
  | k :: ks, _, _, .cons r a => .cons ⟨rfl, r⟩ (zipV_kv ks a)
theorem zipV_len : ∀ (ks : List Str) (us : List Value), (zipV ks us).length = min ks.length us.length
  | [], us => by simp [zipV]
  | k :: ks, [] => by simp [zipV]
  | k :: ks, u :: us => by simp only [zipV, List.length_cons, zipV_len ks us]; omega
theorem zipV_get : ∀ (ks : List Str) (us : List Value) (i : Nat) (z : Str) (v : Value), ks[i]? = some z → us[i]? = some v → (zipV ks us)[i]? = some (.inr z, v)
  | [], us, i, z, v, e, _ => by simp at e
  | k :: ks, [], i, z, v, _, e => by simp at e
  | k :: ks, u :: us, 0, z, v, e1, e2 => by
    cases e1
    cases e2
    rfl
  | k :: ks, u :: us, i + 1, z, v, e1, e2 => zipV_get ks us i z v e1 e2
theorem off5 (n a b : Nat) (h1 : a < n) (h2 : b < n) : ZipOff (n + 4) (n + 2) (n + 3) n (n + 1) [n, a] [n + 1, b] := by
  have e : ∀ x y z : Nat, x ≠ y → x ≠ z → ¬ (x : Addr) ∈ ([y, z] : List Addr) := fun x y z p q m => by
    rcases List.mem_cons.mp m with r | m
    · exact p r
    · exact q (List.mem_singleton.mp m)
  refine ⟨e _ _ _ ?_ ?_, e _ _ _ ?_ ?_, e _ _ _ ?_ ?_, e _ _ _ ?_ ?_, ?_, ?_, ?_, ?_, ?_, e _ _ _ ?_ ?_, e _ _ _ ?_ ?_⟩
  all_goals first | omega | exact Nat.ne_of_gt (by omega) | exact Nat.ne_of_lt (by omega)
def tDictZip (K : PySem.W.Frag) (t : TA) : TE := fun σ H Q => t σ H fun vs H1 => ∃ (a b : Addr) (ks : List Str) (ys : List V), vs = [.ref a, .ref b] ∧ SqL K H1 a (ks.map V.str) ∧ SqT K H1 b ys ∧ ∀ p, H1 p = none → Q (.ref p) (upd H1 p (.dK (mergeK [] (zipK ks ys))))
theorem pe_dictZip {X : Cx} {ea eb : Expr} {ta : TA} {p p2 pos pos2 : Pos} (hc : X.calm = true) (gd : Gl X "dict") (md : X.mg "dict" = none) (gz : Gl X "zip") (mz : X.mg "zip" = none) (ha : PA X [ea, eb] ta)
    (hs : starEach [.Call (.Name "zip" p2) [ea, eb] [] pos2] X.env = (false, eval (.Call (.Name "zip" p2) [ea, eb] [] pos2) X.env) :: starEach [] X.env := by rfl)
    (hs2 : starEach [ea, eb] X.env = (false, eval ea X.env) :: starEach [eb] X.env := by rfl) (hpl : (backTo pos2 (starEach [eb] X.env)).any (·.1) = false := by rfl) :
    PE X (.Call (.Name "dict" p) [.Call (.Name "zip" p2) [ea, eb] [] pos2] [] pos) (tDictZip X.K ta) := by
  refine ⟨fun pins s σ H Q I q => ?_⟩
  refine wpAny_Call_Name_kw (ld_blt I gd md (by decide +kernel : bootBuiltins "dict" = some (.type "dict")) (PyProof.Rows.callWith_type1 ?_ hs rfl))
  rw [hs]
  refine Calls.spliced_cons (x := eval (.Call (.Name "zip" p2) [ea, eb] [] pos2) X.env) ?_
  refine Call_ (ld_blt I gz mz PyProof.Rows.boot_zip (PyProof.Rows.callWith_type1 (thn (ha.run pos2 pins s σ H _ I q) fun us s1 ⟨vs, H1, I1, r1, a, b, ks, ys, ex, la, tb, q1⟩ => ?_) hs2 hpl))
  subst ex
  cases r1 with
  | cons ra rr =>
  cases rr with
  | cons rb rr =>
  cases rr
  cases ra
  cases rb
  obtain ⟨its, rv, pl, hz1⟩ := I1.list la
  obtain ⟨its2, rv2, tl, hz2⟩ := I1.tuple tb
  have pt : s1.heap.IsTuple b its2.toArray := tl
  have lta : a < s1.heap.objs.size := pl.lt
  have ltb : b < s1.heap.objs.size := let ⟨o, e, _⟩ := id pt; Heap.lt_size e
  obtain ⟨kl, kg⟩ := vals_str rv
  refine zip_made pl.isList pt fun g gs gk gz' gI gO g1 g2 => Calls.spliced_nil ?_
  have D := off5 s1.heap.objs.size a b lta ltb
  have F1 := feed_list (prog := X.prog) (w := X.w) (i := s1.heap.objs.size) (l := a) (Nat.ne_of_lt lta) its.toArray
  have F2 := feed_tuple (prog := X.prog) (w := X.w) (i := s1.heap.objs.size + 1) (l := b) (Nat.ne_of_lt (Nat.lt_succ_of_lt ltb)) its2.toArray
  have la' : g.IsList a its.toArray := let ⟨o, e, r⟩ := pl.isList; ⟨o, gk _ _ e, r⟩
  have tb' : g.IsTuple b its2.toArray := let ⟨o, e, r⟩ := pt; ⟨o, gk _ _ e, r⟩
  have len : (zipV ks its2).length = min its.toArray.size its2.toArray.size := by
    rw [zipV_len, List.size_toArray, List.size_toArray, kl]
  have room : (zipV ks its2).length ≤ sizeLine := by
    rw [len, List.size_toArray, kl]
    rw [List.length_map] at hz1
    omega
  refine call_dict_pairs (knd := mixKind X.prog X.w) (kvs := zipV ks its2) (zip_arg F1 F2 D) (I1.ok.hd hc) ⟨gz', gI, ⟨_, _, gO⟩, ⟨g1, la'⟩, ⟨g2, tb'⟩⟩ ⟨len, fun i key v e => ?_⟩ (by rw [← len]; exact room) fun h' tk hd' hk => ?_
  · obtain ⟨e1, e2⟩ := e
    rw [List.getElem?_toArray] at e1 e2
    obtain ⟨z, t, e3, rfl⟩ := kg i key e1
    exact ⟨.inr z, zipV_get ks its2 i z v e3 e2, by simp [mixKind, keyIs, Value.isStrOf]⟩
  · have all : ∀ b o, s1.heap.get? b = some o → h'.get? b = some o := fun c o e => by
      have lt := Heap.lt_size e
      refine hk c o (fun m => ?_) (gk c o e)
      have q : ∀ j, c ≠ s1.heap.objs.size + j := fun j => Nat.ne_of_lt (Nat.lt_of_lt_of_le lt (Nat.le_add_right _ _))
      simp only [List.mem_cons, List.not_mem_nil, or_false] at m
      rcases m with m | m | m | m
      · exact q 4 m
      · exact q 3 m
      · exact q 0 m
      · exact q 1 m
    have kv := zipV_kv ks rv2
    have few : (mergeK [] (zipK ks ys)).length ≤ sizeLine := by
      have := length_mergeK (zipK ks ys) []
      rw [kv.length] at this
      simp only [List.length_nil, Nat.zero_add] at this
      omega
    have big := I1.big
    have off : (g.objs.size == sysModules) = false := beq_eq_false_iff_ne.mpr (Nat.ne_of_gt (Nat.lt_of_lt_of_le big (by rw [gs]; exact Nat.le_add_right _ _)))
    exact ⟨.ref g.objs.size, _, I1.laid (a := g.objs.size) (t' := tk) all (by rw [gs]; exact Nat.le_add_right _ _) (dk_new few off (kv.merge .nil) hd'), rfl, q1 _ (I1.hok.fresh (by rw [gs]; exact Nat.le_add_right _ _))⟩
end GG
namespace GG
open PySem PySem.Spec PyProof.Rows L2 PySem.SeqAt PySem.AutoSeq1 PySem.MeetsSeq PySem.MeetsSeq2 PySem.MeetsSeq3 PySem.SeqRoads2
/-! ### xs != ys, d != e, of what is equal through and through; t * 0; dict(t) of a tuple of pairs -/
section
variable {prog : Program} {w : World}
theorem ne_turns (l b : Addr) (us ws : Array Value) (n n2 : Nat) (dd dd2 : Option Addr) (sl sl2 : Array (Option Value)) (sz : us.size = ws.size) (left : Nat) :
    ∀ i : Nat, us.size - i = left → MeetsIn prog w (Builtin.«list.__eq__.loop» ⟨[.ref l, .ref b, rawInt i, rawInt 3], []⟩)
      (fun A R s => s.heap.get? l = some { cls := .type "list", dict := dd, data := .seq us n, slots := sl } ∧ s.heap.get? b = some { cls := .type "list", dict := dd2, data := .seq ws n2, slots := sl2 } ∧
        (∀ j (h1 : j < us.size) (h2 : j < ws.size), EqP prog w A.in1 s us[j] ws[j] true) ∧ R (.ok (.ret (.bool false))) s) := by
  induction left with
  | zero =>
    intro i hk A R s h
    obtain ⟨h0, gs, dr, tk, os⟩ := s
    obtain ⟨hl, hb, he, h⟩ := h
    wp_walk using wpAny_loadPart' hl, wpAny_loadPart' hb
    have o1 : us[((i : Nat) : Int).toNat]? = none := Array.getElem?_eq_none (by simp; omega)
    have o2 : ws[((i : Nat) : Int).toNat]? = none := Array.getElem?_eq_none (by simp; omega)
    rw [o1, o2]
    wp_walk using wpAny_loadPart' hl, wpAny_loadPart' hb
    have z : (us.size != ws.size) = false := by simp [sz]
    show R (.ok (.ret (.bool (us.size != ws.size)))) _
    rw [z]
    exact h
  | succ left ih =>
    intro i hk A R s h
    obtain ⟨h0, gs, dr, tk, os⟩ := s
    obtain ⟨hl, hb, he, h⟩ := h
    wp_walk using wpAny_loadPart' hl, wpAny_loadPart' hb
    have a1 : i < us.size := by omega
    have a2 : i < ws.size := by omega
    have o1 : us[((i : Nat) : Int).toNat]? = some us[i] := by rw [Int.toNat_natCast]; exact Array.getElem?_eq_getElem a1
    have o2 : ws[((i : Nat) : Int).toNat]? = some ws[i] := by rw [Int.toNat_natCast]; exact Array.getElem?_eq_getElem a2
    have up : ((i : Int) + 1) = ((i + 1 : Nat) : Int) := by omega
    rw [o1, o2]
    refine wpAny_bind (he i a1 a2 _ _ ?_)
    wp_walk
    rw [up]
    refine ⟨plainId_quiet plain_eq_loop _, codeAny_builtin entry_eq_loop ?_⟩
    rw [Around.under_plainId plain_eq_loop _]
    exact ih (i + 1) (by omega) A R _ ⟨hl, hb, he, h⟩
theorem ne_lists {A : Around} {s : Shared} {E Q : Value → Shared → Prop} {l b : Addr} {us ws : Array Value} (hl : s.heap.IsList l us) (hb : s.heap.IsList b ws) (sz : us.size = ws.size) (hu : A.units < cLine)
    (he : ∀ j (h1 : j < us.size) (h2 : j < ws.size), EqP prog w A.in1 s us[j] ws[j] true) (q : Q (.bool false) s) : wpAny (model prog w) A (richCompare .NotEq (.ref l) (.ref b)) Q E s := by
  obtain ⟨⟨cls, dd, dat, sl⟩, ol, cl, n, dl⟩ := hl
  obtain ⟨⟨cls2, dd2, dat2, sl2⟩, ob, cb, n2, db⟩ := hb
  simp only at cl dl cb db
  subst cl dl cb db
  have one : MeetsIn prog w (Builtin.«list.__ne__» ⟨[.ref l, .ref b], []⟩) (fun A R s => s.heap.get? l = some { cls := .type "list", dict := dd, data := .seq us n, slots := sl } ∧ s.heap.get? b = some { cls := .type "list", dict := dd2, data := .seq ws n2, slots := sl2 } ∧
      (∀ j (h1 : j < us.size) (h2 : j < ws.size), EqP prog w A.in1 s us[j] ws[j] true) ∧ R (.ok (.ret (.bool false))) s) := by
    intro A R s h
    obtain ⟨h0, gs, dr, tk, os⟩ := s
    obtain ⟨hl, hb, he, h⟩ := h
    have sub := AutoSeq1.sub_list_list
    have same : ¬ (us.size != ws.size) = true := by simp [sz]
    wp_walk using wpAny_loadPart' hl, wpAny_loadPart' hb
    refine ⟨plainId_quiet plain_eq_loop _, codeAny_builtin entry_eq_loop ?_⟩
    rw [Around.under_plainId plain_eq_loop _]
    exact ne_turns l b us ws n n2 dd dd2 sl sl2 sz _ 0 rfl A R _ ⟨hl, hb, he, h⟩
  refine wpAny_richCompare_same_room (op := .NotEq) ⟨_, ol, rfl⟩ ⟨_, ob, rfl⟩ F.slot_list_ne (call_meetsIn F.slot_list_ne ⟨_, ol, rfl⟩ F.entry_list_ne (F.args_list_ne_2 _ _) one ⟨ol, ob, he, ?_⟩) hu
  exact ⟨(fun z => nomatch z), q⟩
end
section
variable {X : Cx}
/-- a != b, two lists of equal items, or two dicts of equal entries -/
def rNeV (K : PySem.W.Frag) : R2 := fun x y H Q => ∃ n, n ≤ 60 ∧ EqR K H (EqV K H n) x y ∧ Q (.bl false) H
theorem dict_ne_of {prog : Program} {w : World} {A : Around} {s : Shared} {E Q : Value → Shared → Prop} {T : Type} [DecidableEq T] {kk : KeyKind prog w T} {a b : Addr} {ka kb : List (T × Value)} (ha : (a == sysModules) = false) (hb : (b == sysModules) = false) (da : s.heap.DictOf kk a ka) (db : s.heap.DictOf kk b kb)
    (hu : A.units < cLine) (l : ka.length = kb.length) (hits : PySem.W.KeqHitsP prog w A.in1 s kb ka true) (q : Q (.bool false) s) : wpAny (model prog w) A (richCompare .NotEq (.ref a) (.ref b)) Q E s := by
  refine wpAny_richCompare_same_room (op := .NotEq) da.typeIs db.typeIs PySem.F.slot_dict_ne (wpAny_call_entry PySem.F.slot_dict_ne da.typeIs PySem.F.entry_dict_ne ?_ (PySem.F.args_dict_ne_2 _ _)) hu
  refine wpAny_bind (m := Builtin.Dict.dictSlotArgs "__ne__" ⟨[.ref a, .ref b], []⟩) ?_
  unfold Builtin.Dict.dictSlotArgs
  refine wpAny_bind (wpAny_notOrdered_dict da.typeIs (wpAny_pure ?_))
  refine wpAny_bind (wpAny_isInstance (T := "dict") db.typeIs PySem.F.sub_dict_dict ?_)
  simp only [Bool.not_true, Bool.false_eq_true, if_false]
  refine wpAny_bind (wpAny_pure (wpAny_bind (wpAny_pure (wpAny_bind (PySem.W.samePairsP ha hb da db (fun _ => hits) (wpAny_pure ⟨_, rfl, (fun z => nomatch z), ?_⟩))))))
  have e : (ka.length == kb.length && true) = true := by simp [l]
  rw [e]
  exact q
theorem op_neV (hu : X.A.units + 66 < cLine) : OpR X (compareOp .NotEq) (rNeV X.K) := by
  intro pins s σ H x y v u Q I rx ry h
  obtain ⟨n, hn, h, q⟩ := h
  have ih := eqV_run I n X.A.in1 (by show X.A.units + 1 + n < cLine; omega)
  rcases h with ⟨a, b, xs, ys, rfl, rfl, ha, hb, hp⟩ | ⟨a, b, ks, ls, rfl, rfl, ha, hb, hl, hp⟩
  · cases (show v = Value.ref a from rx)
    cases (show u = Value.ref b from ry)
    obtain ⟨us, r1, p1, _⟩ := I.list ha
    obtain ⟨ws, r2, p2, _⟩ := I.list hb
    have sz : us.toArray.size = ws.toArray.size := by
      rw [List.size_toArray, List.size_toArray, ← r1.length, ← r2.length]
      exact Paired.length hp
    refine ne_lists p1.isList p2.isList sz (by omega) (fun j h1 h2 => ?_) ⟨.bl false, H, I, rfl, q⟩
    have k := items_run ih hp r1 r2 j (by simpa using h1) (by simpa using h2)
    simpa using k
  · cases (show v = Value.ref a from rx)
    cases (show u = Value.ref b from ry)
    obtain ⟨_, ya, va, ra, da⟩ := (show ObjOk X.prog X.w H s.heap a (.dK ks) from I.hok a _ ha)
    obtain ⟨_, yb, vb, rb, db⟩ := (show ObjOk X.prog X.w H s.heap b (.dK ls) from I.hok b _ hb)
    exact dict_ne_of ya yb da db (by omega) (by rw [← ra.length, ← rb.length]; exact hl) (hits_run ih rb ra hp) ⟨.bl false, H, I, rfl, q⟩
end
/-! ### t * 0 -/
theorem mul_zero_tup (l : Addr) (items : Array Value) (n : Nat) (dd : Option Addr) (sl : Array (Option Value)) (u : Tok) (ne : items.size ≠ 0) :
    Meets (Builtin.«tuple.__mul__» ⟨[.ref l, .int 0 u], []⟩) (fun _ R s => s.heap.get? l = some { cls := .type "tuple", dict := dd, data := .seq items n, slots := sl } ∧
      R (.ok (.ret (Value.ref s.heap.objs.size))) { s with heap := s.heap.push { cls := Value.type "tuple", data := Data.seq #[] }, toks := s.toks }) :=
  .of_wp fun prog w A R s h => by
    obtain ⟨hp, g, d, tk, os⟩ := s
    obtain ⟨hl, h⟩ := h
    have f1 := AutoSeq1.idx_int
    have c0 : (decide ((0 : Int) < -(2 ^ 63)) || decide ((0 : Int) ≥ 2 ^ 63)) = false := by decide
    have c1 : (items.isEmpty || (0 : Int) == 1) = false := by simp [Array.isEmpty_iff]; intro z; exact ne (by rw [z]; rfl)
    have c2 : (decide ((0 : Int) ≤ 0) || items.isEmpty) = true := by simp
    wp_walk using wpAny_loadPart' hl
    repeat (first
      | (refine wpAny_ite_false (decide_eq_false (by rw [c0]; exact Bool.false_ne_true)) ?_; wp_walk using wpAny_loadPart' hl)
      | (refine wpAny_ite_false (decide_eq_false (by rw [c1]; exact Bool.false_ne_true)) ?_; wp_walk using wpAny_loadPart' hl)
      | (refine wpAny_ite_true (decide_eq_true (by rw [c2])) ?_; wp_walk using wpAny_loadPart' hl))
    exact ⟨_, rfl, h⟩
def rRep0 (K : PySem.W.Frag) : R2 := fun x y H Q => ∃ l xs, x = .ref l ∧ y = .int 0 ∧ SqT K H l xs ∧ xs ≠ [] ∧ ∀ p, H p = none → Q (.ref p) (upd H p (.tup []))
theorem op_rep0 {X : Cx} : OpR X (binaryOp .Mult) (rRep0 X.K) := by
  rintro pins s σ H x y v u Q I rx ry ⟨l, xs, rfl, rfl, hT, hne, q⟩
  cases rx
  obtain ⟨t, rfl⟩ := ry
  obtain ⟨its, r, ⟨⟨cls, dd, data, sl⟩, ho, hc, n, hd⟩, hs⟩ := I.tuple hT
  cases (show cls = .type "tuple" from hc)
  cases (show data = .seq its.toArray n from hd)
  have nz : its.toArray.size ≠ 0 := fun z => hne (List.eq_nil_of_length_eq_zero (by rw [r.length]; simpa using z))
  refine wpAny_binaryOp_repeat_ref (T := "tuple") (U := "int") (by decide) ⟨_, ho, rfl⟩ (fun s' => typeIs_int s' 0 t) noFill_tuple_mul PySem.F.fills_int_mul PySem.F.slot_int_rmul repeat_tuple PySem.F.slot_int_index.lookup ?_
  refine call_meets PySem.F.slot_int_rmul (typeIs_int s 0 t) PySem.F.entry_int_rmul (PySem.F.args_int_rmul_2 _ _) (int_rmul_tuple 0 t l its.toArray n dd sl) ⟨ho, rfl, ⟨_, ho, rfl⟩, ?_⟩
  refine call_meets PySem.F.slot_tuple_mul ⟨_, ho, rfl⟩ PySem.F.entry_tuple_mul (PySem.F.args_tuple_mul_2 _ _) (mul_zero_tup l its.toArray n dd sl t nz) ⟨ho, ?_⟩
  exact ⟨.ref s.heap.objs.size, _, I.laid (t' := s.toks) (o := .tup []) (fun b ob q => Heap.get?_push_of_some _ q) (Nat.le_refl _) ⟨Nat.zero_le _, [], .nil, IsTup.new _ _⟩, rfl, q _ (I.hok.fresh (Nat.le_refl _))⟩
/-- t * 1, t * 0 by what stands there -/
def rRep01 (K : PySem.W.Frag) : R2 := fun x y H Q => rRep1 K x y H Q ∨ rRep0 K x y H Q
theorem op_rep01 {X : Cx} : OpR X (binaryOp .Mult) (rRep01 X.K) := by
  intro pins s σ H x y v u Q I rx ry h
  rcases h with h | h
  · exact op_rep1 pins s σ H x y v u Q I rx ry h
  · exact op_rep0 pins s σ H x y v u Q I rx ry h
end GG
namespace GG
open PySem PySem.Spec PyProof.Rows L2
/-! ### a tuple display whose object is known (so that nothing hangs on it); dict(t) of such a tuple of pairs -/
section
variable {X : Cx}
def tTupF (t : TA) : TE := fun σ H Q => t σ H fun xs H1 => xs.length ≤ sizeLine ∧ ∀ (p : Addr) (o : Obj), H1 p = none → o.dict = none → Q (.ref p) (upd H1 p (.frz o (.tup xs)))
theorem pe_tupF {es : List Expr} {x1} {pos : Pos} {t : TA} (ha : PA X es t) : PE X (.Tuple es x1 pos) (tTupF t) := by
  refine ⟨fun pins s0 σ H Q I wish => ?_⟩
  refine wpAny_Tuple_spliced (thn (ha.run pos pins s0 σ H _ I wish) fun us s1 ⟨xs, H1, I1, r, few, q⟩ => ⟨by have := r.length; omega, ?_⟩)
  have here := Heap.get?_push_size s1.heap (o := { cls := .type "tuple", data := .seq us.toArray }) rfl
  refine ⟨.ref s1.heap.objs.size, upd H1 s1.heap.objs.size (.frz { cls := .type "tuple", data := .seq us.toArray } (.tup xs)), I1.laid (t' := s1.toks) (o := .frz { cls := .type "tuple", data := .seq us.toArray } (.tup xs)) (fun _ _ old => Heap.get?_push_of_some _ old) (Nat.le_refl _) ⟨here, few, us, r, _, here, rfl, _, rfl⟩, rfl, q _ _ (I1.hok.fresh (Nat.le_refl _)) rfl⟩
theorem rows_of {pins : List (Addr × Obj)} {σ : L2.St} {H : Hp} {s : Shared} (I : Inv X pins σ H s) : ∀ {ps : List Addr} {kvs : List (Key × V)}, Paired (fun p kv => SqT X.K H p [kV kv.1, kv.2]) ps kvs →
    ∃ (prs : List (Key × Value)) (pvs : List (Value × Value)), KV kvs prs ∧ prs.length = ps.length ∧ pvs.length = ps.length ∧
      ∀ (j : Nat) (q : Value × Value), pvs[j]? = some q → ∃ (b : Addr) (k : Key), ps[j]? = some b ∧ s.heap.IsTuple b #[q.1, q.2] ∧ prs[j]? = some (k, q.2) ∧ keyIs k q.1 = true
  | _, _, .nil => ⟨[], [], .nil, rfl, rfl, fun j q e => by simp at e⟩
  | _, _, .cons (a := p) (b := kv) g t => by
    obtain ⟨prs, pvs, r, l1, l2, all⟩ := rows_of I t
    obtain ⟨two, rv, tp, _⟩ := I.tuple g
    obtain ⟨u, y, rfl, ru, ry⟩ := vals2 rv
    refine ⟨(kv.1, y) :: prs, (u, y) :: pvs, .cons ⟨rfl, ry⟩ r, by simp [l1], by simp [l2], fun j q e => ?_⟩
    match j, e with
    | 0, e =>
      obtain rfl : (u, y) = q := by simpa using e
      exact ⟨p, kv.1, rfl, tp, rfl, kV_is (P := X.prog) (w := X.w) ru⟩
    | j + 1, e =>
      obtain ⟨b, k, e1, e2, e3, e4⟩ := all j q (by simpa using e)
      exact ⟨b, k, by simpa using e1, e2, by simpa using e3, e4⟩
theorem call_dictF (calm : X.calm = true) : CallR X (.type "dict") (fun xs H Q => ∃ (a : Addr) (o : Obj) (ps : List Addr) (kvs : List (Key × V)), xs = [.ref a] ∧ H a = some (.frz o (.tup (ps.map V.ref))) ∧ o.dict = none ∧
    Paired (fun p kv => SqT X.K H p [kV kv.1, kv.2]) ps kvs ∧ ∀ p, H p = none → Q (.ref p) (upd H p (.dK (mergeK [] kvs)))) := by
  rintro pins s σ H xs us Q I r ⟨a, o, ps, kvs, rfl, ho, nod, hp, q⟩
  obtain ⟨u, rfl, rx⟩ := vals1 r
  obtain rfl : u = .ref a := rx
  obtain ⟨at', z, its, rv, o2, h2, hc, n, hd⟩ := (show ObjOk X.prog X.w H s.heap a (.frz o (.tup (ps.map V.ref))) from I.hok a _ ho)
  obtain rfl : o = o2 := Option.some.inj (at'.symm.trans h2)
  obtain rfl := refs_at rv
  rw [List.length_map] at z
  obtain ⟨prs, pvs, kv, l1, l2, all⟩ := rows_of I hp
  have few : (mergeK [] kvs).length ≤ sizeLine := by
    have := length_mergeK kvs []
    have := kv.length
    simp only [List.length_nil] at *
    omega
  have off : (s.heap.objs.size == sysModules) = false := beq_eq_false_iff_ne.mpr (Nat.ne_of_gt I.big)
  have sq : PlainSeq "tuple" s.heap a (ps.map Value.ref).toArray := ⟨o, n, at', hc, nod, hd⟩
  have it : PairItems s.heap (ps.map Value.ref).toArray (fun j => ps.getD j 0) pvs := by
    refine ⟨by simp [l2], fun j k v e => ?_⟩
    obtain ⟨b, _, e1, e2, _, _⟩ := all j (k, v) e
    have eb : ps.getD j 0 = b := by simp [List.getD, e1]
    refine ⟨by simp [e1], ?_⟩
    show PairAt s.heap (ps.getD j 0) k v
    rw [eb]
    exact .inl e2
  refine call_dict_pairs (knd := mixKind X.prog X.w) (kvs := prs) (PairArg.tuple a (ps.map Value.ref).toArray (fun j => ps.getD j 0) pvs) (I.ok.hd calm) ⟨sq, it⟩ ⟨by rw [l1, l2], fun j k v e => ?_⟩ (by rw [l2]; exact z) fun h' tk made old => ?_
  · obtain ⟨_, key, _, _, e3, e4⟩ := all j (k, v) e
    exact ⟨key, e3, e4⟩
  · exact ⟨.ref s.heap.objs.size, _, I.laid (a := s.heap.objs.size) (t' := tk) (fun b ob e => old b ob (fun z => nomatch z) e) (Nat.le_refl _) (dk_new few off (kv.merge .nil) made), rfl, q _ (I.hok.fresh (Nat.le_refl _))⟩
end
end GG
namespace K3
open PySem PySem.Spec PyProof.Rows L2 GG
/-! ### law_k07: the plan's one kind, its fields, a new thing's fields -/
def holdN (n : Str) : PyData := .tuple [.str "to", .str n]
def vrD (x : Str) : PyData := .tuple [.str "var", .str x]
abbrev gDef : PyData := .tuple [.str "a", .int 2]
def fldD : PyData := .tuple [.tuple [.str "f", .int 1], .tuple [.str "g", gDef], .tuple [.str "h", .none]]
def methD7 (ds : List PyData) : PyData := .tuple [.str "go", .tuple [.str "a"], .tuple ds]
/-- the fields' tuple: its object is known, so that dict(it) finds no keys hung on it -/
def Fl7 (H : Hp) (v : V) : Prop := ∃ (c : Addr) (o : Obj) (zs : List V), v = .ref c ∧ H c = some (.frz o (.tup zs)) ∧ o.dict = none ∧ DtAll H zs [.tuple [.str "f", .int 1], .tuple [.str "g", gDef], .tuple [.str "h", .none]]
def Kd7 (H : Hp) (v : V) (ds : List PyData) : Prop := ∃ (b : Addr) (u m : V), v = .ref b ∧ H b = some (.tup [.str "k", u, m]) ∧ Fl7 H u ∧ Dt H m (.tuple [methD7 ds])
/-- the plan, of one kind -/
def Pl7 (H : Hp) (v : V) (ds : List PyData) : Prop := ∃ (a : Addr) (u : V), v = .ref a ∧ H a = some (.tup [u]) ∧ Kd7 H u ds
def Frzs (H H' : Hp) : Prop := ∀ a o u, H a = some (.frz o u) → H' a = some (.frz o u)
theorem Pl7.mono {H H' : Hp} {v : V} {ds : List PyData} (h : Pl7 H v ds) (t : Tups H H') (f : Frzs H H') : Pl7 H' v ds := by
  obtain ⟨a, u, rfl, e, b, w, m, rfl, eb, ⟨c, o, zs, rfl, ec, nod, al⟩, em⟩ := h
  exact ⟨a, _, rfl, t _ _ e, b, _, m, rfl, t _ _ eb, ⟨c, o, zs, rfl, f _ _ _ ec, nod, al.mono t⟩, em.mono t⟩
theorem Pl7.on {H H' : Hp} {v : V} {ds : List PyData} (h : Pl7 H v ds) (s : Same H H') : Pl7 H' v ds := h.mono (sameTups s) fun _ _ _ e => s _ _ e
theorem But.frzs {M : Addr → Prop} {H H' : Hp} (b : But M H H') (no : ∀ a o u, M a → H a ≠ some (.frz o u)) : Frzs H H' := fun a o u e => b a _ (fun m => no a o u m e) e
theorem sqF {K : PySem.W.Frag} {H : Hp} {c : Addr} {o : Obj} {zs : List V} (h : H c = some (.frz o (.tup zs))) : SqT K H c zs := .inl (.inr ⟨o, h⟩)
def spKindOf7 : Sp := fun vs H Q _ => ∃ (v : V) (ds : List PyData), vs = [v, .str "k"] ∧ Pl7 H v ds ∧ ∀ v', Kd7 H v' ds → Q v' H
def spMethOf7 : Sp := fun vs H Q _ => ∃ (v : V) (ds : List PyData), vs = [v, .str "k", .str "go", .int 1] ∧ Pl7 H v ds ∧ ∀ v', Dt H v' (methD7 ds) → Q v' H
abbrev fgh (x1 x2 x3 : V) : List (Key × V) := [(.inr "f", x1), (.inr "g", x2), (.inr "h", x3)]
def spFieldsOf7 : Sp := fun vs H Q _ => ∃ (v : V) (ds : List PyData), vs = [v, .str "k"] ∧ Pl7 H v ds ∧ ∀ (r : Addr) (x : V) H', Same H H' → H r = none → H' r = some (.dK (fgh (.int 1) x .non)) → Dt H' x gDef → Q (.ref r) H'
def defs7 : List PyData := [.int 1, gDef, .none]
def fillD (es : List PyData) (i : Nat) : PyData := (es ++ defs7.drop es.length).getD i .none
def spFilled7 : Sp := fun vs H Q _ => ∃ (v : V) (ds es : List PyData) (a : Addr), vs = [v, .str "k", .ref a] ∧ Pl7 H v ds ∧ Dt H (.ref a) (.tuple es) ∧ es.length ≤ 3 ∧
  ∀ (r : Addr) (x1 x2 x3 : V) H', Same H H' → H r = none → H' r = some (.dK (fgh x1 x2 x3)) → Dt H' x1 (fillD es 0) → Dt H' x2 (fillD es 1) → Dt H' x3 (fillD es 2) → Q (.ref r) H'
abbrev sFieldsOf : Stmt := top 19
abbrev sFilled : Stmt := top 21
theorem scFo : FnScope ["plan", "kind", "field", "worth"] ["plan", "kind"] (defScope sFieldsOf) := ⟨rfl, rfl, rfl, by decide +kernel, rfl, by decide +kernel, by decide +kernel⟩
theorem scFl : FnScope ["plan", "kind", "args", "fields", "first"] ["plan", "kind", "args"] (defScope sFilled) := ⟨rfl, rfl, rfl, by decide +kernel, rfl, by decide +kernel, by decide +kernel⟩
section
variable {P : Program} {w : World} {K : PySem.W.Frag} {mg : Str → Option Value} {base : Heap}
theorem ok_kindOf7 {f : Addr} {fd : FuncData} (F : Fun K "kind_of" "kind_of" sKindOf f fd) : FnOk P w K mg base CX0 1 f fd ["plan", "kind"] spKindOf7 := by
  refine F.ok scKO (fun vs H Q E h => ?_) (fun cdv A outer s H vs Q E hr h => ?_)
  · obtain ⟨v, ds, rfl, _⟩ := h
    rfl
  · obtain ⟨v, ds, rfl, hd, k⟩ := h
    have nd := scKO.nd
    refine ⟨_, pss_cons (ps_for PassesOwn.never rfl (pi_tup (pv 0)) (pg_name (i := 2) nd rfl (Or.inl rfl)) (pss_one (ps_if (pt_cmpR op_eq (pe_ix ix_tup (pv 2) pe_int (fun _ _ => rfl)) (pv 1) (nomark _)) (pss_one (ps_ret (pv 2))) pss_nil))) (pss_one ps_never), ?_⟩
    obtain ⟨a, u0, rfl, e, e0⟩ := hd
    refine ⟨_, rfl, a, rfl, ⟨_, SqT.of e⟩, for_tup (K := K) (a := a) (xs := [u0]) (fun i σ' H' => i = 0 ∧ σ' = [some (.ref a), some (.str "k"), none] ∧ H' = H) ⟨rfl, rfl, rfl⟩ ?_ ?_ ?_⟩
    · rintro i σ' H' _ ⟨_, _, rfl⟩
      exact SqT.of e
    · rintro i x σ' H' hi ⟨rfl, rfl, rfl⟩
      cases hi
      have k0 := k u0 e0
      obtain ⟨b, w1, w2, rfl, eb, _, _⟩ := e0
      have b0 : atI [V.str "k", w1, w2] 0 = some (V.str "k") := atI_int (by decide) rfl
      exact ⟨_, rfl, b, _, _, _, rfl, rfl, SqT.of eb, b0, _, rfl, rfl, _, rfl, yesS ⟨_, rfl, k0⟩⟩
    · rintro σ' H' ⟨z, _⟩
      cases z
theorem ok_methOf7 {f fk : Addr} {fd fdk : FuncData} (F : Fun K "method_of" "method_of" sMethOf f fd) (T : Txt mg) (mk : mg "kind_of" = some (.ref fk)) (kk : PySem.W.keepIn K (.ref fk) = true) (bk : Binds K fdk ["plan", "kind"] []) (Gk : FnOk P w K mg base CX0 1 fk fdk ["plan", "kind"] spKindOf7) :
    FnOk P w K mg base CX0 2 f fd ["plan", "kind", "word", "many"] spMethOf7 := by
  refine F.ok scMO (fun vs H Q E h => ?_) (fun cdv A outer s H vs Q E hr h => ?_)
  · obtain ⟨v, ds, rfl, _⟩ := h
    rfl
  · obtain ⟨v, ds, rfl, hd, k⟩ := h
    have nd := scMO.nd
    refine ⟨_, pss_cons (ps_for PassesOwn.never rfl (pi_tup (pe_ix ix_tup (pe_call Gk hr (by rfl) mk kk bk .nil pass0 (pa_cons (pv 0) (pa_cons (pv 1) pa_nil))) pe_int (fun _ _ => rfl))) (pg_name (i := 4) nd rfl (Or.inl rfl))
      (pss_one (ps_if (PW.pt (pw_and (pt_cmpR op_eq (pe_ix ix_tup (pv 4) pe_int (fun _ _ => rfl)) (pv 2) (nomark _)) (pw_and1 (pt_cmpR op_eq (pe_callB call_len_seq (by rfl) T.len PySem.boot_len (pa_cons (pe_ix ix_tup (pv 4) pe_int (fun _ _ => rfl)) pa_nil)) (pv 3) (nomark _))))) (pss_one (ps_ret (pv 4))) pss_nil)))
      (pss_one (ps_ret pe_non)), ?_⟩
    refine ⟨_, rfl, _, rfl, v, ds, rfl, hd, fun v' hv => ?_⟩
    obtain ⟨a, u1, u2, rfl, e, _, e2⟩ := hv
    have a2 : atI [V.str "k", u1, u2] 2 = some u2 := atI_int (by decide) rfl
    cases e2 with
    | @tup c zs _ ec cl =>
    cases cl with
    | @cons m0 _ _ _ g0 cl =>
    cases cl
    refine ⟨a, _, _, _, rfl, rfl, SqT.of e, a2, c, rfl, ⟨_, SqT.of ec⟩, for_tup (K := K) (a := c) (xs := [m0]) (fun i σ' H' => i = 0 ∧ σ' = [some v, some (.str "k"), some (.str "go"), some (.int 1), none] ∧ H' = H) ⟨rfl, rfl, rfl⟩ ?_ ?_ ?_⟩
    · rintro i σ' H' _ ⟨_, _, rfl⟩
      exact SqT.of ec
    · rintro i x σ' H' hi ⟨rfl, rfl, rfl⟩
      cases hi
      have k0 := k m0 g0
      cases g0 with
      | @tup b ys _ eb bl =>
      cases bl with
      | @cons w0 _ _ _ f0 bl =>
      cases bl with
      | @cons w1 _ _ _ f1 bl =>
      cases f0
      cases f1 with
      | @tup d ps _ ed dl =>
      rename_i ws
      have b0 : atI (V.str "go" :: V.ref d :: ws) 0 = some (V.str "go") := atI_int (by decide) rfl
      have b1 : atI (V.str "go" :: V.ref d :: ws) 1 = some (V.ref d) := atI_int (by decide) rfl
      have dl2 : ps.length = 1 := dl.length
      refine ⟨_, rfl, b, _, _, _, rfl, rfl, SqT.of eb, b0, _, rfl, rfl, _, rfl, yesS ?_⟩
      refine ⟨_, rfl, b, _, _, _, rfl, rfl, SqT.of eb, b1, d, ps, rfl, .inr (SqT.of ed), _, rfl, rfl, _, rfl, ?_⟩
      rw [decide_eq_true (show V.int (ps.length : Int) = V.int 1 by rw [dl2]; rfl)]
      exact iteT ⟨_, rfl, k0⟩
    · rintro σ' H' ⟨z, _⟩
      cases z
theorem ok_fieldsOf7 {f fk fc : Addr} {fd fdk fdc : FuncData} (F : Fun K "fields_of" "fields_of" sFieldsOf f fd) (mk : mg "kind_of" = some (.ref fk)) (kk : PySem.W.keepIn K (.ref fk) = true) (bk : Binds K fdk ["plan", "kind"] []) (Gk : FnOk P w K mg base CX0 1 fk fdk ["plan", "kind"] spKindOf7)
    (mc : mg "copied" = some (.ref fc)) (kc : PySem.W.keepIn K (.ref fc) = true) (bc : Binds K fdc ["thing"] []) (Gc : FnOk P w K mg base CX0 3 fc fdc ["thing"] (spCo 2)) : FnOk P w K mg base CX0 4 f fd ["plan", "kind"] spFieldsOf7 := by
  refine F.ok scFo (fun vs H Q E h => ?_) (fun cdv A outer s H vs Q E hr h => ?_)
  · obtain ⟨v, ds, rfl, _⟩ := h
    rfl
  · obtain ⟨v, ds, rfl, hd, k⟩ := h
    have nd := scFo.nd
    have r1 : Room 1 _ := hr.mono (by decide)
    refine ⟨_, pss_one (ps_ret (pe_dc (own := [("field", 2), ("worth", 3)]) (g := gTup K 2 (gCons (gName 2) (gCons (gName 3) gNil))) (tt := tYes) rfl nd (pi_tup (pe_ix ix_tup (pe_call Gk r1 (by rfl) mk kk bk .nil pass0 (pa_cons (pv 0) (pa_cons (pv 1) pa_nil))) pe_int (fun _ _ => rfl)))
      (blkOk_by (N := ["plan", "kind", "field", "worth"]) (sc := defScope sFieldsOf) (by decide +kernel)) (fun _ _ _ _ _ => by exact pg_tup rfl (pgs_cons (pg_name (i := 2) nd rfl (Or.inl rfl)) (pgs_cons (pg_name (i := 3) nd rfl (Or.inl rfl)) pgs_nil))) (fun _ _ _ _ _ => pts_nil)
      (fun _ _ _ _ _ => pv 2) (fun _ _ _ _ _ => pe_call Gc hr (by rfl) mc kc bc .nil pass0 (pa_cons (pv 3) pa_nil)))), ?_⟩
    refine ⟨_, rfl, _, rfl, v, ds, rfl, hd, fun v' hv => ?_⟩
    obtain ⟨a, u1, um, rfl, e, ⟨c, ob, zs, rfl, ec, _, cl⟩, _⟩ := hv
    have a1 : atI [V.str "k", V.ref c, um] 1 = some (V.ref c) := atI_int (by decide) rfl
    cases cl with
    | @cons p0 _ _ _ g0 cl =>
    cases cl with
    | @cons p1 _ _ _ g1 cl =>
    cases cl with
    | @cons p2 _ _ _ g2 cl =>
    cases cl
    cases g0 with
    | @tup b0 _ _ h0 l0 =>
    cases l0 with
    | cons q0 l0 =>
    cases q0
    cases l0 with
    | cons q0 l0 =>
    cases q0
    cases l0
    cases g1 with
    | @tup b1 _ _ h1 l1 =>
    cases l1 with
    | cons q1 l1 =>
    cases q1
    cases l1 with
    | @cons y1 _ _ _ q1 l1 =>
    cases l1
    cases g2 with
    | @tup b2 _ _ h2 l2 =>
    cases l2 with
    | cons q2 l2 =>
    cases q2
    cases l2 with
    | cons q2 l2 =>
    cases q2
    cases l2
    refine ⟨a, _, _, _, rfl, rfl, SqT.of e, a1, c, rfl, ⟨_, sqF ec⟩, fun D hD => ?_⟩
    refine dc_tup (K := K) (a := c) (xs := [.ref b0, .ref b1, .ref b2]) (fun i H' => Same H H' ∧ ∃ x : V, Dt H' x gDef ∧ H' D = some (.dK ((fgh (.int 1) x .non).take i))) ?_ ?_ ?_ ?_
    · exact ⟨same_new (Same.refl H) hD, y1, q1.mono (sameTups (same_new (Same.refl H) hD)), upd_same⟩
    · rintro i H' _ ⟨s, _⟩
      exact sqF (s _ _ ec)
    · rintro i x H' hi ⟨s, y, hy, hL⟩
      match i, hi with
      | 0, hi =>
        cases hi
        refine ⟨b0, _, rfl, SqT.of (s _ _ h0), rfl, _, _, rfl, _, _, rfl, rfl, rfl, _, rfl, _, rfl, _, rfl, .inl ⟨.int 1, .int 1, Gd.int, fun v2 H2 s2 hv2 => ?_⟩⟩
        cases hv2
        exact ⟨_, .inr "f", rfl, s2 _ _ hL, (by show 0 < sizeLine; decide), same_mut (s.trans s2) hD, y, (hy.mono (sameTups s2)).mono ((Tups.refl _).mut (s2 _ _ hL) (by intro _ z; cases z)), upd_same⟩
      | 1, hi =>
        cases hi
        refine ⟨b1, _, rfl, SqT.of (s _ _ h1), rfl, _, _, rfl, _, _, rfl, rfl, rfl, _, rfl, _, rfl, y1, rfl, .inl ⟨gDef, q1.mono (sameTups s), ⟨by decide, fun e he => ?_⟩, fun v2 H2 s2 hv2 => ?_⟩⟩
        · simp only [List.mem_cons, List.not_mem_nil, or_false] at he
          rcases he with rfl | rfl
          · exact Gd.strI (by decide) (by decide +kernel)
          · exact Gd.int
        · exact ⟨_, .inr "g", rfl, s2 _ _ hL, (by show 1 < sizeLine; decide), same_mut (s.trans s2) hD, v2, hv2.mono ((Tups.refl _).mut (s2 _ _ hL) (by intro _ z; cases z)), upd_same⟩
      | 2, hi =>
        cases hi
        refine ⟨b2, _, rfl, SqT.of (s _ _ h2), rfl, _, _, rfl, _, _, rfl, rfl, rfl, _, rfl, _, rfl, _, rfl, .inl ⟨.none, .non, Gd.non, fun v2 H2 s2 hv2 => ?_⟩⟩
        cases hv2
        exact ⟨_, .inr "h", rfl, s2 _ _ hL, (by show 2 < sizeLine; decide), same_mut (s.trans s2) hD, y, (hy.mono (sameTups s2)).mono ((Tups.refl _).mut (s2 _ _ hL) (by intro _ z; cases z)), upd_same⟩
    · rintro H' ⟨s, y, hy, hL⟩
      exact k D y H' s hD hL hy
theorem ok_filled7 {f fk : Addr} {fd fdk : FuncData} (F : Fun K "filled" "filled" sFilled f fd) (T : Txt mg) (zz : mg "zip" = none) (mk : mg "fields_of" = some (.ref fk)) (kk : PySem.W.keepIn K (.ref fk) = true) (bk : Binds K fdk ["plan", "kind"] []) (Gk : FnOk P w K mg base CX0 4 fk fdk ["plan", "kind"] spFieldsOf7) :
    FnOk P w K mg base CX0 5 f fd ["plan", "kind", "args"] spFilled7 := by
  refine F.ok scFl (fun vs H Q E h => ?_) (fun cdv A outer s H vs Q E hr h => ?_)
  · obtain ⟨v, ds, es, a, rfl, _⟩ := h
    rfl
  · obtain ⟨v, ds, es, a, rfl, hd, he, h3, k⟩ := h
    have nd := scFl.nd
    refine ⟨_, pss_cons (ps_set (i := 3) nd rfl (.inl rfl) (pe_call Gk hr (by rfl) mk kk bk .nil pass0 (pa_cons (pv 0) (pa_cons (pv 1) pa_nil))))
      (pss_cons (ps_set (i := 4) nd rfl (.inl rfl) (pe_dictZip rfl (by rfl) T.dict (by rfl) zz (pa_cons (pe_callTy (call_list_dK rfl) (by rfl) T.list (by decide +kernel) (pa_cons (pv 3) pa_nil)) (pa_cons (pv 2) pa_nil))))
      (pss_one (ps_ret (pe_merge2 (pv 3) (pv 4))))), ?_⟩
    refine ⟨_, rfl, _, rfl, v, ds, rfl, hd, fun fa x H1 s1 fa0 hfa hx => ?_⟩
    refine ⟨_, rfl, fa, _, rfl, hfa, fun l hl => ?_⟩
    rw [show List.map (fun kv => kV kv.fst) (fgh (V.int 1) x V.non) = [.str "f", .str "g", .str "h"] from rfl]
    have s2 := same_new (Same.refl H1) hl (o := .lst [.str "f", .str "g", .str "h"])
    have hfa2 := s2 _ _ hfa
    have el : upd H1 l (.lst [.str "f", .str "g", .str "h"]) l = some (.lst [.str "f", .str "g", .str "h"]) := upd_same
    have he2 := he.mono (sameTups (s1.trans s2))
    have hx2 := hx.mono (sameTups s2)
    obtain ⟨ys, ey, dy⟩ := he2.tupI
    refine ⟨_, rfl, l, a, ["f", "g", "h"], ys, rfl, SqL.of el, SqT.of ey, fun fi hfi => ?_⟩
    have s12 := s1.trans s2
    have s3 : Same (upd H1 l (.lst [.str "f", .str "g", .str "h"])) (upd (upd H1 l (.lst [.str "f", .str "g", .str "h"])) fi (.dK (mergeK [] (zipK ["f", "g", "h"] ys)))) := same_new (Same.refl _) hfi
    have e3 : upd (upd H1 l (.lst [.str "f", .str "g", .str "h"])) fi (.dK (mergeK [] (zipK ["f", "g", "h"] ys))) fi = some (.dK (mergeK [] (zipK ["f", "g", "h"] ys))) := upd_same
    have fa3 := s3 _ _ hfa2
    have hx3 := hx2.mono (sameTups s3)
    have dy3 := dy.mono (sameTups s3)
    generalize upd (upd H1 l (.lst [.str "f", .str "g", .str "h"])) fi (.dK (mergeK [] (zipK ["f", "g", "h"] ys))) = H3 at s3 e3 fa3 hx3 dy3 ⊢
    have s13 := s12.trans s3
    intro p hp
    have npa : fa ≠ p := ne_of_none fa3 hp
    have npf : fi ≠ p := ne_of_none e3 hp
    refine ⟨_, rfl, fa, fgh (.int 1) x .non, rfl, npa, upd_same, by rw [upd_ne npa]; exact fa3, ?_⟩
    have sP : Same H3 (upd (upd H3 p (.dK [])) p (.dK (mergeK [] (fgh (.int 1) x .non)))) := same_mut (same_new (Same.refl H3) hp) hp
    have eM : mergeK [] (fgh (.int 1) x .non) = fgh (.int 1) x .non := rfl
    rw [eM] at sP ⊢
    have fin : ∀ (zs : List (Key × V)) (y1 y2 y3 : V), mergeK [] (zipK ["f", "g", "h"] ys) = zs → mergeK (fgh (.int 1) x .non) zs = fgh y1 y2 y3 → zs.length ≤ 3 → Dt H3 y1 (fillD es 0) → Dt H3 y2 (fillD es 1) → Dt H3 y3 (fillD es 2) →
        tVar 4 [some v, some (.str "k"), some (.ref a), some (.ref fa), some (.ref fi)] (upd (upd H3 p (.dK [])) p (.dK (fgh (.int 1) x .non))) fun y H2 => ∃ b kb kd, y = .ref b ∧ b ≠ p ∧ H2 p = some (.dK kd) ∧ H2 b = some (.dK kb) ∧ kd.length + kb.length ≤ sizeLine ∧ Q (.ref p) (upd H2 p (.dK (mergeK kd kb))) := by
      intro zs y1 y2 y3 ez em lz d1 d2 d3
      rw [ez] at e3
      refine ⟨_, rfl, fi, zs, fgh (.int 1) x .non, rfl, npf, upd_same, by rw [upd_ne npf, upd_ne npf]; exact e3, ?_, ?_⟩
      · show 3 + zs.length ≤ sizeLine
        exact Nat.le_of_lt (small1000 (by omega))
      · rw [em]
        have sQ : Same H3 (upd (upd (upd H3 p (.dK [])) p (.dK (fgh (.int 1) x .non))) p (.dK (fgh y1 y2 y3))) := same_mut sP hp
        exact k p y1 y2 y3 _ (s13.trans sQ) (s13.free hp) upd_same (d1.mono (sameTups sQ)) (d2.mono (sameTups sQ)) (d3.mono (sameTups sQ))
    cases dy3 with
    | nil => exact fin [] _ _ _ rfl rfl (by decide) (.int 1) hx3 .non
    | @cons z1 _ _ _ h1 dy3 =>
    cases dy3 with
    | nil => exact fin [(.inr "f", z1)] _ _ _ rfl rfl (by simp) h1 hx3 .non
    | @cons z2 _ _ _ h2 dy3 =>
    cases dy3 with
    | nil => exact fin [(.inr "f", z1), (.inr "g", z2)] _ _ _ rfl rfl (by simp) h1 h2 .non
    | @cons z3 _ _ _ h4 dy3 =>
    cases dy3 with
    | nil => exact fin [(.inr "f", z1), (.inr "g", z2), (.inr "h", z3)] _ _ _ rfl rfl (by simp) h1 h2 h4
    | cons _ _ =>
      simp only [List.length_cons] at h3
      omega
end
end K3
namespace K3
open PySem PySem.Spec PyProof.Rows L2 GG
/-! ### law_k07: deeds that make and put, and what comes of them -/
inductive Dd where
  | wh (x : Str) (xs : List Str)
  | ca (v x : Str) (xs : List Str)
  | mk (v : Str) (xs : List Str)
def ddD : Dd → PyData
  | .wh x xs => .tuple [.str "when", vrD x, .str "go", .tuple (xs.map vrD)]
  | .ca v x xs => .tuple [.str "call", .str v, vrD x, .str "go", .tuple (xs.map vrD)]
  | .mk v xs => .tuple [.str "make", .str v, .str "k", .tuple (xs.map vrD)]
def ddW : Dd → Str
  | .wh _ _ => "when"
  | .ca _ _ _ => "call"
  | .mk _ _ => "make"
def ddV : Dd → List Str
  | .wh x xs => x :: xs
  | .ca _ x xs => x :: xs
  | .mk _ xs => xs
structure PutR where
  nm : Str
  to : PyData
  ar : List PyData
  w : Bool
/-- what is known by what var; what was made, what was put -/
structure Sm where
  env : Str → Option Str
  mks : List (Str × List PyData)
  pus : List PutR
def nmS (nm sep : Str) (k : Nat) : Str := (nm ++ sep) ++ (toString (k : Int) : String)
def Sm.of (s : Sm) (x : Str) : Str := (s.env x).getD "1#0"
def setE (e : Str → Option Str) (v n : Str) : Str → Option Str := fun x => if x = v then some n else e x
def stepD (nm : Str) (s : Sm) : Dd → Sm
  | .wh x xs => { s with pus := s.pus ++ [⟨nmS nm "." s.pus.length, holdN (s.of x), xs.map fun y => holdN (s.of y), true⟩] }
  | .ca v x xs => { s with pus := s.pus ++ [⟨nmS nm "." s.pus.length, .str (s.of x), xs.map fun y => holdN (s.of y), false⟩], env := setE s.env v (nmS nm "." s.pus.length) }
  | .mk v xs => { s with mks := s.mks ++ [(nmS nm "#" s.mks.length, [fillD (xs.map fun y => holdN (s.of y)) 0, fillD (xs.map fun y => holdN (s.of y)) 1, fillD (xs.map fun y => holdN (s.of y)) 2])], env := setE s.env v (nmS nm "#" s.mks.length) }
def runD (nm : Str) (s : Sm) (ds : List Dd) : Sm := ds.foldl (stepD nm) s
/-- its vars hold something; few args -/
def OkDd (s : Sm) (d : Dd) : Prop := (∀ x ∈ ddV d, ∃ n, s.env x = some n) ∧ (ddV d).length ≤ 4 ∧ match d with | .mk _ xs => xs.length ≤ 3 | _ => True
def OkAll (nm : Str) : Sm → List Dd → Prop
  | _, [] => True
  | s, d :: ds => OkDd s d ∧ OkAll nm (stepD nm s d) ds
/-- a name that a hold may have -/
structure GoodN (n : Str) : Prop where
  nameZ : isNameZ n = true
  len : n.length ≤ 400
  ok : PyData.strOk n = true
  hL : isHoldL (holdN n) = true
def GoodNm (nm : Str) : Prop := ∀ k, k < 100 → GoodN (nmS nm "#" k) ∧ GoodN (nmS nm "." k)
/-! ### where these stand -/
def MkAt (k0 : Addr) (H : Hp) (v : V) (r : Str × List PyData) : Prop := ∃ (t d : Addr) (x1 x2 x3 : V) (d1 d2 d3 : PyData), v = .ref t ∧ H t = some (.tup [.str r.1, .str "k", .ref d]) ∧ H d = some (.dK (fgh x1 x2 x3)) ∧ d ≠ k0 ∧ r.2 = [d1, d2, d3] ∧ Dt H x1 d1 ∧ Dt H x2 d2 ∧ Dt H x3 d3
def PuAt (H : Hp) (v : V) (r : PutR) : Prop := ∃ (t : Addr) (vt va : V), v = .ref t ∧ H t = some (.tup [.str r.nm, vt, .str "go", va, .bl r.w]) ∧ Dt H vt r.to ∧ Dt H va (.tuple r.ar)
inductive Al {R : Type} (p : V → R → Prop) : List V → List R → Prop
  | nil : Al p [] []
  | cons {v : V} {vs : List V} {r : R} {rs : List R} : p v r → Al p vs rs → Al p (v :: vs) (r :: rs)
theorem Al.imp {R : Type} {p q : V → R → Prop} (f : ∀ v r, p v r → q v r) : ∀ {vs : List V} {rs : List R}, Al p vs rs → Al q vs rs
  | _, _, .nil => .nil
  | _, _, .cons h a => .cons (f _ _ h) (a.imp f)
theorem Al.length {R : Type} {p : V → R → Prop} : ∀ {vs : List V} {rs : List R}, Al p vs rs → vs.length = rs.length
  | _, _, .nil => rfl
  | _, _, .cons _ a => by rw [List.length_cons, List.length_cons, a.length]
theorem Al.snoc {R : Type} {p : V → R → Prop} {v : V} {r : R} (h : p v r) : ∀ {vs : List V} {rs : List R}, Al p vs rs → Al p (vs ++ [v]) (rs ++ [r])
  | _, _, .nil => .cons h .nil
  | _, _, .cons g a => .cons g (Al.snoc h a)
theorem Al.get {R : Type} {p : V → R → Prop} : ∀ {vs : List V} {rs : List R}, Al p vs rs → ∀ (i : Nat) (v : V), vs[i]? = some v → ∃ r, rs[i]? = some r ∧ p v r
  | _, _, .nil, i, v, e => by simp at e
  | _, _, .cons h _, 0, v, e => by
    cases e
    exact ⟨_, rfl, h⟩
  | _, _, .cons _ a, i + 1, v, e => a.get i v e
abbrev M3 (kd mk pu : Addr) : Addr → Prop := fun a => a = kd ∨ a = mk ∨ a = pu
structure St7 (H : Hp) (kd mk pu : Addr) (i : Nat) (s : Sm) : Prop where
  ne : mk ≠ pu
  kn : ∃ kvs, H kd = some (.dK kvs) ∧ kvs.length ≤ i + 1 ∧ ∀ x n, s.env x = some n → ∃ v, valV kvs (.inr x) = some v ∧ Dt H v (holdN n)
  mks : ∃ ms, H mk = some (.lst ms) ∧ Al (MkAt kd H) ms s.mks
  pus : ∃ ps, H pu = some (.lst ps) ∧ Al (PuAt H) ps s.pus
  lm : s.mks.length ≤ i
  lp : s.pus.length ≤ i
  gd : ∀ x n, s.env x = some n → GoodN n
section
variable {H H' : Hp} {kd mk pu : Addr} {i : Nat} {s : Sm}
theorem St7.tups (h : St7 H kd mk pu i s) (b : But (M3 kd mk pu) H H') : Tups H H' := b.tups fun a xs m e => by
  obtain ⟨_, h1, _⟩ := h.kn
  obtain ⟨_, h2, _⟩ := h.mks
  obtain ⟨_, h3, _⟩ := h.pus
  rcases m with rfl | rfl | rfl
  · rw [h1] at e; cases e
  · rw [h2] at e; cases e
  · rw [h3] at e; cases e
theorem St7.frzs (h : St7 H kd mk pu i s) (b : But (M3 kd mk pu) H H') : Frzs H H' := b.frzs fun a o u m e => by
  obtain ⟨_, h1, _⟩ := h.kn
  obtain ⟨_, h2, _⟩ := h.mks
  obtain ⟨_, h3, _⟩ := h.pus
  rcases m with rfl | rfl | rfl
  · rw [h1] at e; cases e
  · rw [h2] at e; cases e
  · rw [h3] at e; cases e
theorem St7.off {a : Addr} {o : HO} (h : St7 H kd mk pu i s) (e : H a = some o) (n1 : ∀ xs, o ≠ .lst xs) (n2 : a ≠ kd) : ¬ M3 kd mk pu a := fun m => by
  obtain ⟨_, h2, _⟩ := h.mks
  obtain ⟨_, h3, _⟩ := h.pus
  rcases m with m | rfl | rfl
  · exact n2 m
  · rw [h2] at e; cases e; exact n1 _ rfl
  · rw [h3] at e; cases e; exact n1 _ rfl
theorem St7.mkB (h : St7 H kd mk pu i s) (b : But (M3 kd mk pu) H H') {v : V} {r : Str × List PyData} (m : MkAt kd H v r) : MkAt kd H' v r := by
  obtain ⟨t, d, x1, x2, x3, d1, d2, d3, rfl, ht, hd, nd, er, g1, g2, g3⟩ := m
  have tp := h.tups b
  exact ⟨t, d, x1, x2, x3, d1, d2, d3, rfl, tp _ _ ht, b _ _ (h.off hd (fun _ z => nomatch z) nd) hd, nd, er, g1.mono tp, g2.mono tp, g3.mono tp⟩
theorem St7.puB (h : St7 H kd mk pu i s) (b : But (M3 kd mk pu) H H') {v : V} {r : PutR} (m : PuAt H v r) : PuAt H' v r := by
  obtain ⟨t, vt, va, rfl, ht, h1, h2⟩ := m
  have tp := h.tups b
  exact ⟨t, vt, va, rfl, tp _ _ ht, h1.mono tp, h2.mono tp⟩
theorem St7.on (h : St7 H kd mk pu i s) (e : Same H H') : St7 H' kd mk pu i s := by
  obtain ⟨kvs, h1, h2, h3⟩ := h.kn
  obtain ⟨ms, h4, h5⟩ := h.mks
  obtain ⟨ps, h6, h7⟩ := h.pus
  have b : But (M3 kd mk pu) H H' := sameBut e _
  refine ⟨h.ne, ⟨kvs, e _ _ h1, h2, fun x n q => ?_⟩, ⟨ms, e _ _ h4, h5.imp fun v r m => h.mkB b m⟩, ⟨ps, e _ _ h6, h7.imp fun v r m => h.puB b m⟩, h.lm, h.lp, h.gd⟩
  obtain ⟨v, q1, q2⟩ := h3 x n q
  exact ⟨v, q1, q2.mono (sameTups e)⟩
theorem St7.more (h : St7 H kd mk pu i s) {j : Nat} (l : i ≤ j) : St7 H kd mk pu j s := by
  obtain ⟨kvs, h1, h2, h3⟩ := h.kn
  exact ⟨h.ne, ⟨kvs, h1, by omega, h3⟩, h.mks, h.pus, Nat.le_trans h.lm l, Nat.le_trans h.lp l, h.gd⟩
/-- something was put -/
theorem St7.put (h : St7 H kd mk pu i s) {ps : List V} (hp : H pu = some (.lst ps)) {v : V} {r : PutR} (g : PuAt H v r) : St7 (upd H pu (.lst (ps ++ [v]))) kd mk pu (i + 1) { s with pus := s.pus ++ [r] } := by
  obtain ⟨kvs, h1, h2, h3⟩ := h.kn
  obtain ⟨ms, h4, h5⟩ := h.mks
  obtain ⟨ps', h6, h7⟩ := h.pus
  rw [hp] at h6
  cases h6
  have b : But (M3 kd mk pu) H (upd H pu (.lst (ps ++ [v]))) := (But.refl _ _).mut (.inr (.inr rfl))
  have tp := h.tups b
  have nk : kd ≠ pu := fun z => by rw [z, hp] at h1; cases h1
  refine ⟨h.ne, ⟨kvs, by rw [upd_ne nk]; exact h1, by omega, fun x n q => ?_⟩, ⟨ms, by rw [upd_ne h.ne]; exact h4, h5.imp fun v r m => h.mkB b m⟩, ⟨_, upd_same, Al.snoc (h.puB b g) (h7.imp fun v r m => h.puB b m)⟩, Nat.le_succ_of_le h.lm, by show (s.pus ++ [r]).length ≤ i + 1; rw [List.length_append]; exact Nat.succ_le_succ h.lp, h.gd⟩
  obtain ⟨u, q1, q2⟩ := h3 x n q
  exact ⟨u, q1, q2.mono tp⟩
/-- something was made -/
theorem St7.made (h : St7 H kd mk pu i s) {ms : List V} (hp : H mk = some (.lst ms)) {v : V} {r : Str × List PyData} (g : MkAt kd H v r) : St7 (upd H mk (.lst (ms ++ [v]))) kd mk pu (i + 1) { s with mks := s.mks ++ [r] } := by
  obtain ⟨kvs, h1, h2, h3⟩ := h.kn
  obtain ⟨ms', h4, h5⟩ := h.mks
  obtain ⟨ps, h6, h7⟩ := h.pus
  rw [hp] at h4
  cases h4
  have b : But (M3 kd mk pu) H (upd H mk (.lst (ms ++ [v]))) := (But.refl _ _).mut (.inr (.inl rfl))
  have tp := h.tups b
  have nk : kd ≠ mk := fun z => by rw [z, hp] at h1; cases h1
  refine ⟨h.ne, ⟨kvs, by rw [upd_ne nk]; exact h1, by omega, fun x n q => ?_⟩, ⟨_, upd_same, Al.snoc (h.mkB b g) (h5.imp fun v r m => h.mkB b m)⟩, ⟨ps, by rw [upd_ne h.ne.symm]; exact h6, h7.imp fun v r m => h.puB b m⟩, by show (s.mks ++ [r]).length ≤ i + 1; rw [List.length_append]; exact Nat.succ_le_succ h.lm, Nat.le_succ_of_le h.lp, h.gd⟩
  obtain ⟨u, q1, q2⟩ := h3 x n q
  exact ⟨u, q1, q2.mono tp⟩
/-- a var holds something else -/
theorem St7.know (h : St7 H kd mk pu i s) {kvs : List (Key × V)} (hk : H kd = some (.dK kvs)) {x n : Str} {v : V} (few : kvs.length ≤ i) (g : Dt H v (holdN n)) (gn : GoodN n) : St7 (upd H kd (.dK (putK kvs (.inr x) v))) kd mk pu i { s with env := setE s.env x n } := by
  obtain ⟨kvs', h1, h2, h3⟩ := h.kn
  obtain ⟨ms, h4, h5⟩ := h.mks
  obtain ⟨ps, h6, h7⟩ := h.pus
  rw [hk] at h1
  cases h1
  have b : But (M3 kd mk pu) H (upd H kd (.dK (putK kvs (.inr x) v))) := (But.refl _ _).mut (.inl rfl)
  have tp := h.tups b
  have n1 : mk ≠ kd := fun z => by rw [z, hk] at h4; cases h4
  have n2 : pu ≠ kd := fun z => by rw [z, hk] at h6; cases h6
  refine ⟨h.ne, ⟨_, upd_same, ?_, fun y m q => ?_⟩, ⟨ms, by rw [upd_ne n1]; exact h4, h5.imp fun v r m => h.mkB b m⟩, ⟨ps, by rw [upd_ne n2]; exact h6, h7.imp fun v r m => h.puB b m⟩, h.lm, h.lp, fun y m q => ?_⟩
  · have := length_putK kvs (.inr x) v
    omega
  · have q' : (if y = x then some n else s.env y) = some m := q
    by_cases e : y = x
    · subst e
      rw [if_pos rfl] at q'
      cases q'
      exact ⟨v, by rw [valV_put, if_pos rfl], g.mono tp⟩
    · rw [if_neg e] at q'
      obtain ⟨u, q1, q2⟩ := h3 y m q'
      exact ⟨u, by rw [valV_put, if_neg (fun z => e (by cases z; rfl))]; exact q1, q2.mono tp⟩
  · have q' : (if y = x then some n else s.env y) = some m := q
    by_cases e : y = x
    · rw [if_pos e] at q'
      cases q'
      exact gn
    · rw [if_neg e] at q'
      exact h.gd y m q'
end
end K3
namespace K3
open PySem PySem.Spec PyProof.Rows L2 GG
/-! ### law_k07: the program's deeds -/
structure DgA (C : Addr) (H : Hp) (g : Addr) (vpl : V) (nm : Str) (kd fl mk pu : Addr) : Prop where
  ex : ∃ (dx sy : Addr) (fs : List (Str × V)), H g = some (.ins C dx fs) ∧ fs.lookup ("plan" : Str) = some vpl ∧ fs.lookup ("fields" : Str) = some (.ref fl) ∧ fs.lookup ("cause" : Str) = some (.str nm) ∧ fs.lookup ("known" : Str) = some (.ref kd) ∧ fs.lookup ("says" : Str) = some (.ref sy) ∧
    fs.lookup ("makes" : Str) = some (.ref mk) ∧ fs.lookup ("puts" : Str) = some (.ref pu) ∧ fs.lookup ("goes" : Str) = some .non ∧ H sy = some (.lst []) ∧ sy ≠ mk ∧ sy ≠ pu
theorem DgA.but {C : Addr} {H H' : Hp} {g : Addr} {vpl : V} {nm : Str} {kd fl mk pu : Addr} {i : Nat} {s : Sm} (h : DgA C H g vpl nm kd fl mk pu) (st : St7 H kd mk pu i s) (b : But (M3 kd mk pu) H H') : DgA C H' g vpl nm kd fl mk pu := by
  obtain ⟨dx, sy, fs, h1, h2, h3, h4, h5, h6, h7, h8, h9, h10, h11, h12⟩ := h.ex
  obtain ⟨kvs, k1, _⟩ := st.kn
  have gk : g ≠ kd := fun z => by rw [z, k1] at h1; cases h1
  have sk : sy ≠ kd := fun z => by rw [z, k1] at h10; cases h10
  exact ⟨dx, sy, fs, b _ _ (st.off h1 (fun _ z => nomatch z) gk) h1, h2, h3, h4, h5, h6, h7, h8, h9, b _ _ (fun m => by rcases m with m | m | m; exact sk m; exact h11 m; exact h12 m) h10, h11, h12⟩
theorem DgA.on {C : Addr} {H H' : Hp} {g : Addr} {vpl : V} {nm : Str} {kd fl mk pu : Addr} (h : DgA C H g vpl nm kd fl mk pu) (e : Same H H') : DgA C H' g vpl nm kd fl mk pu := by
  obtain ⟨dx, sy, fs, h1, h2, h3, h4, h5, h6, h7, h8, h9, h10, h11, h12⟩ := h.ex
  exact ⟨dx, sy, fs, e _ _ h1, h2, h3, h4, h5, h6, h7, h8, h9, e _ _ h10, h11, h12⟩
def spWoV (C : Addr) : Sp := fun vs H Q _ => ∃ (v : V) (g : Addr) (x : Str) (vpl u : V) (nm : Str) (kd fl mk pu : Addr) (kvs : List (Key × V)), vs = [v, .ref g] ∧ Dt H v (vrD x) ∧ DgA C H g vpl nm kd fl mk pu ∧ H kd = some (.dK kvs) ∧ valV kvs (.inr x) = some u ∧ Q u H
def spWsV (C : Addr) : Sp := fun vs H Q _ => ∃ (v : V) (g : Addr) (xs : List Str) (vpl : V) (nm : Str) (kd fl mk pu : Addr) (i : Nat) (s : Sm), vs = [v, .ref g] ∧ Dt H v (.tuple (xs.map vrD)) ∧ DgA C H g vpl nm kd fl mk pu ∧ St7 H kd mk pu i s ∧ (∀ x ∈ xs, ∃ n, s.env x = some n) ∧ xs.length ≤ 9 ∧
  ∀ (t : Addr) H', Same H H' → Dt H' (.ref t) (.tuple (xs.map fun y => holdN (s.of y))) → Q (.ref t) H'
def spDeed (C : Addr) (o : Str) : Sp := fun vs H Q _ => ∃ (vd : V) (g : Addr) (d : Dd) (vpl : V) (nm : Str) (kd fl mk pu : Addr) (i : Nat) (s : Sm) (ds : List PyData), vs = [vd, .ref g] ∧ ddW d = o ∧ Dt H vd (ddD d) ∧ DgA C H g vpl nm kd fl mk pu ∧ Pl7 H vpl ds ∧ St7 H kd mk pu i s ∧ OkDd s d ∧ i < 90 ∧ GoodNm nm ∧
  ∀ H', But (M3 kd mk pu) H H' → St7 H' kd mk pu (i + 1) (stepD nm s d) → Q .non H'
abbrev sDoWhen : Stmt := top 34
abbrev sDoCall : Stmt := top 33
abbrev sDoMake : Stmt := top 32
theorem scDw : FnScope ["deed", "doing", "_", "x", "word", "xs", "name"] ["deed", "doing"] (defScope sDoWhen) := ⟨rfl, rfl, rfl, by decide +kernel, rfl, by decide +kernel, by decide +kernel⟩
theorem scDc : FnScope ["deed", "doing", "_", "v", "x", "word", "xs", "to", "name"] ["deed", "doing"] (defScope sDoCall) := ⟨rfl, rfl, rfl, by decide +kernel, rfl, by decide +kernel, by decide +kernel⟩
theorem scDm : FnScope ["deed", "doing", "_", "v", "kind", "xs", "name"] ["deed", "doing"] (defScope sDoMake) := ⟨rfl, rfl, rfl, by decide +kernel, rfl, by decide +kernel, by decide +kernel⟩
theorem empS (z : Str) : Str.empty ++ z = z := by
  cases z with
  | mk a => exact congrArg Str.mk (Array.empty_append)
theorem Sm.of_some {s : Sm} {x n : Str} (e : s.env x = some n) : s.of x = n := by
  unfold Sm.of
  rw [e]
  rfl
theorem nm_len {nm sep : Str} {k : Nat} (h : (nmS nm sep k).length ≤ 400) : nm.length ≤ 400 ∧ (nm ++ sep).length ≤ 400 := by
  unfold nmS at h
  rw [strLen_append, strLen_append] at h
  rw [strLen_append]
  omega
theorem log_small {k : Nat} (h : k < 100) : ((k : Int).natAbs).log2 < 1920 := by
  by_cases h0 : (k : Int).natAbs = 0
  · rw [h0]; decide
  · refine (Nat.log2_lt h0).mpr (Nat.lt_of_lt_of_le (show (k : Int).natAbs < 2 ^ 7 by omega) (Nat.pow_le_pow_right (by decide) (by decide)))
section
variable {P : Program} {w : World} {K : PySem.W.Frag} {mg : Str → Option Value} {base : Heap} {C : Addr}
theorem ok_woV {f : Addr} {fd : FuncData} (F : Fun K "worth_of" "worth_of" sWoP f fd) (DT : DTxt K C) : FnOk P w K mg base CX0 1 f fd ["x", "doing"] (spWoV C) := by
  refine F.ok scWf (fun vs H Q E h => ?_) (fun cdv A outer s H vs Q E hr h => ?_)
  · obtain ⟨v, g, x, vpl, u, nm, kd, fl, mk, pu, kvs, rfl, _⟩ := h
    rfl
  · obtain ⟨v, g, x, vpl, u, nm, kd, fl, mk, pu, kvs, rfl, hd, hg, hk, hu', k⟩ := h
    have nd := scWf.nd
    have hu := hu_of hr
    refine ⟨_, pss_cons (ps_set (i := 2) nd rfl (Or.inl rfl) (pe_ix ix_tup (pv 0) pe_int (fun _ _ => rfl)))
      (pss_cons (ps_if (pt_cmpR op_eq (pv 2) pe_str (nomark _)) (pss_one ps_never) pss_nil)
      (pss_cons (ps_if (pt_cmpR op_eq (pv 2) pe_str (nomark _)) (pss_one (ps_ret (pe_dget hu (pe_fld (pv 1) rfl) (pe_ix ix_tup (pv 0) pe_int (fun _ _ => rfl)) (fun _ _ => rfl)))) pss_nil)
      (pss_cons ps_never (pss_cons ps_never (pss_cons ps_never (pss_cons ps_never (pss_cons ps_never (pss_cons ps_never (pss_one ps_never))))))))), ?_⟩
    cases hd with
    | @tup a xs _ e al =>
    cases al with
    | @cons u0 _ _ _ e0 al =>
    cases al with
    | @cons u1 _ _ _ e1 al =>
    cases al
    cases e0
    cases e1
    obtain ⟨dx, sy, fs, h1, h2, h3, h4, h5, _⟩ := hg.ex
    have a0 : atI [V.str "var", V.str x] 0 = some (V.str "var") := atI_int (by decide) rfl
    have a1 : atI [V.str "var", V.str x] 1 = some (V.str x) := atI_int (by decide) rfl
    have ne : decide (V.str "var" = V.str "is") = false := by decide +kernel
    refine ⟨_, rfl, a, _, _, _, rfl, rfl, SqT.of e, a0, _, rfl, rfl, _, rfl, ?_⟩
    rw [ne]
    refine iteF ⟨_, rfl, rfl, _, rfl, yesS ?_⟩
    exact ⟨_, rfl, g, C, dx, _, _, rfl, h1, DT.cl, DT.nKnown, h5, _, rfl, a, _, _, _, rfl, rfl, SqT.of e, a1, kd, _, rfl, dget_str hk hu', k⟩
theorem ok_wsV {f fw : Addr} {fd fdw : FuncData} (F : Fun K "worths_of" "worths_of" sWsP f fd) (T : Txt mg) (mw : mg "worth_of" = some (.ref fw)) (kw : PySem.W.keepIn K (.ref fw) = true) (bw : Binds K fdw ["x", "doing"] [])
    (G : FnOk P w K mg base CX0 1 fw fdw ["x", "doing"] (spWoV C)) : FnOk P w K mg base CX0 2 f fd ["xs", "doing"] (spWsV C) := by
  refine F.ok scWs (fun vs H Q E h => ?_) (fun cdv A outer s0 H vs Q E hr h => ?_)
  · obtain ⟨v, g, xs, vpl, nm, kd, fl, mk, pu, i, s, rfl, _⟩ := h
    rfl
  · obtain ⟨v, g, xs, vpl, nm, kd, fl, mk, pu, i, s, rfl, hd, hg, st, hx, h9, k⟩ := h
    have nd := scWs.nd
    refine ⟨_, pss_one (ps_ret (pe_callTy call_tuple_of (by rfl) T.tuple (by decide +kernel) (pa_cons (pe_lc (own := [("x", 2)]) (g := gName 2) (tt := tYes) rfl nd (pi_tup (pv 0))
        (blkOk_by (N := ["xs", "doing", "x"]) (sc := defScope sWsP) (by decide +kernel)) (fun _ _ _ _ _ => pg_name (i := 2) nd rfl (Or.inl rfl)) (fun _ _ _ _ _ => pts_nil)
        (fun _ _ _ _ _ => pe_call G hr (by rfl) mw kw bw .nil pass0 (pa_cons (pv 2) (pa_cons (pv 1) pa_nil)))) pa_nil))), ?_⟩
    cases hd with
    | @tup a us _ e al =>
    have le := al.length
    rw [List.length_map] at le
    refine ⟨_, rfl, a, rfl, ⟨us, SqT.of e⟩, fun D0 hD => ?_⟩
    refine lc_tup (K := K) (a := a) (xs := us) (fun j H' => ∃ vs, H' D0 = some (.lst vs) ∧ DtAll H' vs ((xs.map fun y => holdN (s.of y)).take j) ∧ Same H H') ?_ ?_ ?_ ?_
    · exact ⟨[], upd_same, .nil, same_new (Same.refl _) hD⟩
    · rintro j H' _ ⟨vs, _, _, s1⟩
      exact SqT.of (s1 _ _ e)
    · rintro j u H' hj ⟨vs, hL, hall, s1⟩
      obtain ⟨t, ht, htx⟩ := al.get j u hj
      rw [List.getElem?_map] at ht
      obtain ⟨x, hxj, rfl⟩ := Option.map_eq_some_iff.mp ht
      obtain ⟨n, hn⟩ := hx x (List.mem_of_getElem? hxj)
      have st1 := st.on s1
      obtain ⟨kvs, k1, k2, k3⟩ := st1.kn
      obtain ⟨z, z1, z2⟩ := k3 x n hn
      have jl : j < xs.length := (List.getElem?_eq_some_iff.mp hxj).1
      refine ⟨rfl, _, rfl, _, rfl, u, g, x, vpl, z, nm, kd, fl, mk, pu, kvs, rfl, htx.mono (sameTups s1), hg.on s1, k1, z1, ?_⟩
      have tu : Tups H' (upd H' D0 (.lst (vs ++ [z]))) := (Tups.refl H').mut hL fun xs z => nomatch z
      refine ⟨vs, hL, ?_, vs ++ [z], upd_same, ?_, same_mut s1 hD⟩
      · rw [hall.length, List.length_take, List.length_map]
        exact Nat.lt_of_le_of_lt (show min j xs.length ≤ 9 by omega) (by decide)
      · rw [List.take_add_one, List.getElem?_map, hxj]
        refine (hall.app (.cons ?_ .nil)).mono tu
        show Dt H' z (holdN (s.of x))
        rw [Sm.of_some hn]
        exact z2
    · rintro H' ⟨vs, hL, hall, s1⟩
      rw [List.take_of_length_le (by rw [List.length_map]; omega)] at hall
      refine ⟨D0, vs, rfl, .inl ⟨SqL.of hL, fun l hl => ?_⟩⟩
      exact k l _ (same_new s1 hl) (.tup upd_same (hall.mono (sameTups (same_new (Same.refl _) hl))))
end
end K3
namespace K3
open PySem PySem.Spec PyProof.Rows L2 GG
section
variable {P : Program} {w : World} {K : PySem.W.Frag} {mg : Str → Option Value} {base : Heap} {C : Addr}
theorem ok_dowhen {f fw fs : Addr} {fd fdw fds : FuncData} (F : Fun K "do_when" "do_when" sDoWhen f fd) (T : Txt mg) (DT : DTxt K C) (mw : mg "worth_of" = some (.ref fw)) (kw : PySem.W.keepIn K (.ref fw) = true) (bw : Binds K fdw ["x", "doing"] []) (Gw : FnOk P w K mg base CX0 1 fw fdw ["x", "doing"] (spWoV C))
    (ms : mg "worths_of" = some (.ref fs)) (ks : PySem.W.keepIn K (.ref fs) = true) (bs : Binds K fds ["xs", "doing"] []) (Gs : FnOk P w K mg base CX0 2 fs fds ["xs", "doing"] (spWsV C)) : FnOk P w K mg base CX0 6 f fd ["deed", "doing"] (spDeed C "when") := by
  refine F.ok scDw (fun vs H Q E h => ?_) (fun cdv A outer s0 H vs Q E hr h => ?_)
  · obtain ⟨vd, g, d, vpl, nm, kd, fl, mk, pu, i, s, ds, rfl, _⟩ := h
    rfl
  · obtain ⟨vd, g, d, vpl, nm, kd, fl, mk, pu, i, s, ds, rfl, ew, hd, hg, hpl, st, okd, hi, gn, k⟩ := h
    have nd := scDw.nd
    have r1 : Room 1 _ := hr.mono (by decide)
    have r2 : Room 2 _ := hr.mono (by decide)
    refine ⟨_, pss_cons (ps_asg (pv 0) (pg_tup rfl (pgs_cons (pg_name (i := 2) nd rfl (Or.inl rfl)) (pgs_cons (pg_name (i := 3) nd rfl (Or.inl rfl)) (pgs_cons (pg_name (i := 4) nd rfl (Or.inl rfl)) (pgs_cons (pg_name (i := 5) nd rfl (Or.inl rfl)) pgs_nil))))))
      (pss_cons (ps_set (i := 6) nd rfl (.inl rfl) (pe_joined (PJ.cons (pe_fmt (pe_fld (pv 1) rfl)) (PJ.cons pe_str (PJ.cons (pe_fmt (pe_callB call_len_seq (by rfl) T.len PySem.boot_len (pa_cons (pe_fld (pv 1) rfl) pa_nil))) PJ.nil)))))
      (pss_one (ps_expr (pe_bm PySem.F.plainAttrs_list PySem.F.slot_list_append PySem.F.type_list_append mt_append (pe_fld (pv 1) rfl) (pa_cons (pe_tup (pa_cons (pv 6) (pa_cons (pe_call Gw r1 (by rfl) mw kw bw .nil pass0 (pa_cons (pv 3) (pa_cons (pv 1) pa_nil)))
        (pa_cons (pv 4) (pa_cons (pe_call Gs r2 (by rfl) ms ks bs .nil pass0 (pa_cons (pv 5) (pa_cons (pv 1) pa_nil))) (pa_cons pe_bl pa_nil)))))) pa_nil))))), ?_⟩
    cases d with
    | ca _ _ _ => cases (show ("call" : Str) = "when" from ew)
    | mk _ _ => cases (show ("make" : Str) = "when" from ew)
    | wh x xs =>
    obtain ⟨hx, hx4, _⟩ := okd
    have hx4' : xs.length + 1 ≤ 4 := hx4
    cases hd with
    | @tup a us _ e al =>
    cases al with
    | @cons u0 _ _ _ e0 al =>
    cases al with
    | @cons u1 _ _ _ e1 al =>
    cases al with
    | @cons u2 _ _ _ e2 al =>
    cases al with
    | @cons u3 _ _ _ e3 al =>
    cases al
    cases e0
    cases e2
    obtain ⟨dx, sy, fs', h1, h2, h3, h4, h5, h6, h7, h8, h9, h10, h11, h12⟩ := id hg.ex
    obtain ⟨kvs, k1, k2, k3⟩ := st.kn
    obtain ⟨ps, p1, p2⟩ := st.pus
    obtain ⟨n, hn⟩ := hx x (List.mem_cons_self ..)
    obtain ⟨z, z1, z2⟩ := k3 x n hn
    have lp := st.lp
    have ll := p2.length
    have gl := (gn s.pus.length (by omega)).2
    obtain ⟨l1, l2⟩ := nm_len gl.len
    refine ⟨_, rfl, a, _, rfl, SqT.of e, rfl, _, _, rfl, _, _, rfl, _, _, rfl, _, _, rfl, rfl, ?_⟩
    refine ⟨_, rfl, g, C, dx, _, _, rfl, h1, DT.cl, DT.nCause, h4, .inl ⟨nm, rfl, Nat.le_of_lt (small1000 (by omega)), nm, rfl, ?_, ?_⟩⟩
    · rw [empS]
      exact Nat.le_of_lt (small1000 (by omega))
    rw [empS]
    refine ⟨".", rfl, Nat.le_of_lt (small1000 (by omega)), ?_⟩
    refine ⟨_, rfl, g, C, dx, _, _, rfl, h1, DT.cl, DT.nPuts, h8, pu, ps, rfl, .inl (SqL.of p1), .inr ⟨_, rfl, log_small (by omega), _, rfl, ?_, ?_⟩⟩
    · rw [ll]
      exact Nat.le_of_lt (small1000 (Nat.le_trans gl.len (by decide)))
    rw [ll]
    refine ⟨_, rfl, g, C, dx, _, _, rfl, h1, DT.cl, DT.nPuts, h8, .inl ⟨rfl, _, SqL.of p1⟩, ?_⟩
    refine ⟨_, rfl, _, rfl, _, rfl, u1, g, x, vpl, z, nm, kd, fl, mk, pu, kvs, rfl, e1, hg, k1, z1, ?_⟩
    refine ⟨_, rfl, _, rfl, _, rfl, u3, g, xs, vpl, nm, kd, fl, mk, pu, i, s, rfl, e3, hg, st, fun y hy => hx y (List.mem_cons_of_mem _ hy), by omega, fun t H1 s1 ht => ?_⟩
    refine ⟨(by show 5 ≤ sizeLine; decide), fun q hq => ?_⟩
    have s2 := same_new (Same.refl H1) hq (o := .tup [.str (nmS nm "." s.pus.length), z, .str "go", .ref t, .bl true])
    have st2 := st.on (s1.trans s2)
    have p3 := s2 _ _ (s1 _ _ p1)
    refine ⟨pu, _, _, rfl, rfl, p3, small1000 (by rw [ll]; omega), ?_⟩
    have pa : PuAt (upd H1 q (.tup [.str (nmS nm "." s.pus.length), z, .str "go", .ref t, .bl true])) (.ref q) ⟨nmS nm "." s.pus.length, holdN (s.of x), xs.map fun y => holdN (s.of y), true⟩ :=
      ⟨q, z, .ref t, rfl, upd_same, by rw [Sm.of_some hn]; exact z2.mono (sameTups (s1.trans s2)), ht.mono (sameTups s2)⟩
    exact k _ ((sameBut (s1.trans s2) _).mut (.inr (.inr rfl))) (st2.put p3 pa)
theorem ok_docall {f fw fs fh : Addr} {fd fdw fds fdh : FuncData} (F : Fun K "do_call" "do_call" sDoCall f fd) (T : Txt mg) (DT : DTxt K C) (mw : mg "worth_of" = some (.ref fw)) (kw : PySem.W.keepIn K (.ref fw) = true) (bw : Binds K fdw ["x", "doing"] []) (Gw : FnOk P w K mg base CX0 1 fw fdw ["x", "doing"] (spWoV C))
    (ms : mg "worths_of" = some (.ref fs)) (ks : PySem.W.keepIn K (.ref fs) = true) (bs : Binds K fds ["xs", "doing"] []) (Gs : FnOk P w K mg base CX0 2 fs fds ["xs", "doing"] (spWsV C))
    (mh : mg "is_hold" = some (.ref fh)) (kh : PySem.W.keepIn K (.ref fh) = true) (bh : Binds K fdh ["thing"] []) (Gh : FnOk P w K mg base CX0 3 fh fdh ["thing"] spHold) : FnOk P w K mg base CX0 6 f fd ["deed", "doing"] (spDeed C "call") := by
  refine F.ok scDc (fun vs H Q E h => ?_) (fun cdv A outer s0 H vs Q E hr h => ?_)
  · obtain ⟨vd, g, d, vpl, nm, kd, fl, mk, pu, i, s, ds, rfl, _⟩ := h
    rfl
  · obtain ⟨vd, g, d, vpl, nm, kd, fl, mk, pu, i, s, ds, rfl, ew, hd, hg, hpl, st, okd, hi, gn, k⟩ := h
    have nd := scDc.nd
    have hu := hu_of hr
    have r1 : Room 1 _ := hr.mono (by decide)
    have r2 : Room 2 _ := hr.mono (by decide)
    have r3 : Room 3 _ := hr.mono (by decide)
    refine ⟨_, pss_cons (ps_asg (pv 0) (pg_tup rfl (pgs_cons (pg_name (i := 2) nd rfl (Or.inl rfl)) (pgs_cons (pg_name (i := 3) nd rfl (Or.inl rfl)) (pgs_cons (pg_name (i := 4) nd rfl (Or.inl rfl)) (pgs_cons (pg_name (i := 5) nd rfl (Or.inl rfl)) (pgs_cons (pg_name (i := 6) nd rfl (Or.inl rfl)) pgs_nil)))))))
      (pss_cons (ps_set (i := 7) nd rfl (.inl rfl) (pe_call Gw r1 (by rfl) mw kw bw .nil pass0 (pa_cons (pv 4) (pa_cons (pv 1) pa_nil))))
      (pss_cons (ps_if (pt_not (pt_val (pe_call Gh r3 (by rfl) mh kh bh .nil pass0 (pa_cons (pv 7) pa_nil)))) (pss_one ps_never) pss_nil)
      (pss_cons (ps_set (i := 8) nd rfl (.inl rfl) (pe_joined (PJ.cons (pe_fmt (pe_fld (pv 1) rfl)) (PJ.cons pe_str (PJ.cons (pe_fmt (pe_callB call_len_seq (by rfl) T.len PySem.boot_len (pa_cons (pe_fld (pv 1) rfl) pa_nil))) PJ.nil)))))
      (pss_cons (ps_expr (pe_bm PySem.F.plainAttrs_list PySem.F.slot_list_append PySem.F.type_list_append mt_append (pe_fld (pv 1) rfl) (pa_cons (pe_tup (pa_cons (pv 8) (pa_cons (pe_ix ix_tup (pv 7) pe_int (fun _ _ => rfl))
        (pa_cons (pv 5) (pa_cons (pe_call Gs r2 (by rfl) ms ks bs .nil pass0 (pa_cons (pv 6) (pa_cons (pv 1) pa_nil))) (pa_cons pe_bl pa_nil)))))) pa_nil)))
      (pss_one (ps_dput hu (pe_fld (pv 1) rfl) (pv 3) (pe_tup (pa_cons pe_str (pa_cons (pv 8) pa_nil))) rfl)))))), ?_⟩
    cases d with
    | wh _ _ => cases (show ("when" : Str) = "call" from ew)
    | mk _ _ => cases (show ("make" : Str) = "call" from ew)
    | ca v x xs =>
    obtain ⟨hx, hx4, _⟩ := okd
    have hx4' : xs.length + 1 ≤ 4 := hx4
    cases hd with
    | @tup a us _ e al =>
    cases al with
    | @cons u0 _ _ _ e0 al =>
    cases al with
    | @cons u1 _ _ _ e1 al =>
    cases al with
    | @cons u2 _ _ _ e2 al =>
    cases al with
    | @cons u3 _ _ _ e3 al =>
    cases al with
    | @cons u4 _ _ _ e4 al =>
    cases al
    cases e0
    cases e1
    cases e3
    obtain ⟨dx, sy, fs', h1, h2, h3, h4, h5, h6, h7, h8, h9, h10, h11, h12⟩ := id hg.ex
    obtain ⟨kvs, k1, k2, k3⟩ := st.kn
    obtain ⟨ps, p1, p2⟩ := st.pus
    obtain ⟨n, hn⟩ := hx x (List.mem_cons_self ..)
    obtain ⟨z, z1, z2⟩ := k3 x n hn
    have gx := st.gd x n hn
    have lp := st.lp
    have ll := p2.length
    have gl := (gn s.pus.length (by omega)).2
    obtain ⟨l1, l2⟩ := nm_len gl.len
    refine ⟨_, rfl, a, _, rfl, SqT.of e, rfl, _, _, rfl, _, _, rfl, _, _, rfl, _, _, rfl, _, _, rfl, rfl, ?_⟩
    refine ⟨_, rfl, _, rfl, u2, g, x, vpl, z, nm, kd, fl, mk, pu, kvs, rfl, e2, hg, k1, z1, ?_⟩
    have gd : Gd 2 (holdN n) := ⟨(by show 2 ≤ 1000; decide), fun e he => by
      simp only [List.mem_cons, List.not_mem_nil, or_false] at he
      rcases he with rfl | rfl
      · exact Gd.strI (by decide) (by decide +kernel)
      · exact Gd.strI (Nat.le_trans gx.len (by decide)) gx.ok⟩
    refine ⟨_, rfl, z, holdN n, 2, rfl, z2, gd, by decide, fun H1 s1 => ⟨_, rfl, ?_⟩⟩
    have hh : isHoldD (holdN n) = true := by
      show (decide (("to" : Str) = "to") && isNameZ n) = true
      rw [gx.nameZ, decide_eq_true rfl]
      rfl
    rw [hh]
    refine iteF ?_
    have hg1 := hg.on s1
    have st1 := st.on s1
    refine ⟨_, rfl, g, C, dx, _, _, rfl, s1 _ _ h1, DT.cl, DT.nCause, h4, .inl ⟨nm, rfl, Nat.le_of_lt (small1000 (by omega)), nm, rfl, ?_, ?_⟩⟩
    · rw [empS]
      exact Nat.le_of_lt (small1000 (by omega))
    rw [empS]
    refine ⟨".", rfl, Nat.le_of_lt (small1000 (by omega)), ?_⟩
    refine ⟨_, rfl, g, C, dx, _, _, rfl, s1 _ _ h1, DT.cl, DT.nPuts, h8, pu, ps, rfl, .inl (SqL.of (s1 _ _ p1)), .inr ⟨_, rfl, log_small (by omega), _, rfl, ?_, ?_⟩⟩
    · rw [ll]
      exact Nat.le_of_lt (small1000 (Nat.le_trans gl.len (by decide)))
    rw [ll, show (nm ++ ("." : Str)) ++ ((toString (s.pus.length : Int) : String) : Str) = nmS nm "." s.pus.length from rfl]
    refine ⟨_, rfl, g, C, dx, _, _, rfl, s1 _ _ h1, DT.cl, DT.nPuts, h8, .inl ⟨rfl, _, SqL.of (s1 _ _ p1)⟩, ?_⟩
    have z3 := z2.mono (sameTups s1)
    obtain ⟨zt, rfl⟩ := z3.ref_of
    obtain ⟨zz, ez, dz⟩ := z3.tupI
    cases dz with
    | @cons y0 _ _ _ g0 dz =>
    cases dz with
    | @cons y1 _ _ _ g1 dz =>
    cases dz
    cases g1
    have a1 : atI [y0, V.str n] 1 = some (V.str n) := atI_int (by decide) rfl
    refine ⟨_, rfl, _, rfl, zt, _, _, _, rfl, rfl, SqT.of ez, a1, _, rfl, _, rfl, _, rfl, u4, g, xs, vpl, nm, kd, fl, mk, pu, i, s, rfl, e4.mono (sameTups s1), hg1, st1, fun y hy => hx y (List.mem_cons_of_mem _ hy), by omega, fun t H2 s2 ht => ?_⟩
    refine ⟨(by show 5 ≤ sizeLine; decide), fun q hq => ?_⟩
    have s3 := same_new (Same.refl H2) hq (o := .tup [.str (nmS nm "." s.pus.length), .str n, .str "go", .ref t, .bl false])
    have s13 := (s1.trans s2).trans s3
    have st2 := st.on s13
    have p3 := s13 _ _ p1
    have k13 := s13 _ _ k1
    have hg3 := hg.on s13
    refine ⟨pu, _, _, rfl, rfl, p3, small1000 (by rw [ll]; omega), ?_⟩
    have pa : PuAt (upd H2 q (.tup [.str (nmS nm "." s.pus.length), .str n, .str "go", .ref t, .bl false])) (.ref q) ⟨nmS nm "." s.pus.length, .str (s.of x), xs.map fun y => holdN (s.of y), false⟩ :=
      ⟨q, .str n, .ref t, rfl, upd_same, by rw [Sm.of_some hn]; exact .str _, ht.mono (sameTups s3)⟩
    have st3 := st2.put p3 pa
    have b3 : But (M3 kd mk pu) H (upd (upd H2 q (.tup [.str (nmS nm "." s.pus.length), .str n, .str "go", .ref t, .bl false])) pu (.lst (ps ++ [.ref q]))) := (sameBut s13 _).mut (.inr (.inr rfl))
    have nk : kd ≠ pu := fun z => by rw [z, p1] at k1; cases k1
    have k4 : (upd (upd H2 q (.tup [.str (nmS nm "." s.pus.length), .str n, .str "go", .ref t, .bl false])) pu (.lst (ps ++ [.ref q]))) kd = some (.dK kvs) := by rw [upd_ne nk]; exact k13
    generalize upd (upd H2 q (.tup [.str (nmS nm "." s.pus.length), .str n, .str "go", .ref t, .bl false])) pu (.lst (ps ++ [.ref q])) = H4 at st3 b3 k4 ⊢
    have hg4 := hg.but st b3
    obtain ⟨dx4, sy4, fs4, q1, _, _, _, q5, _⟩ := id hg4.ex
    refine ⟨_, rfl, (by show 2 ≤ sizeLine; decide), fun r hr' => ?_⟩
    have s5 := same_new (Same.refl H4) hr' (o := .tup [.str "to", .str (nmS nm "." s.pus.length)])
    have st5 := st3.on s5
    have k5 := s5 _ _ k4
    have hold5 : Dt (upd H4 r (.tup [.str "to", .str (nmS nm "." s.pus.length)])) (.ref r) (holdN (nmS nm "." s.pus.length)) := .tup upd_same (.cons (.str _) (.cons (.str _) .nil))
    refine ⟨_, rfl, g, C, dx4, _, _, rfl, s5 _ _ q1, DT.cl, DT.nKnown, q5, _, rfl, kd, _, rfl, DPut.k (k := .inr v) k5 (small1000 (by omega)), ?_⟩
    exact k _ ((b3.trans (sameBut s5 _)).mut (.inl rfl)) (st5.know k5 (by omega) hold5 gl)
theorem ok_domake {f fs fl' : Addr} {fd fds fdl : FuncData} (F : Fun K "do_make" "do_make" sDoMake f fd) (T : Txt mg) (DT : DTxt K C)
    (ms : mg "worths_of" = some (.ref fs)) (ks : PySem.W.keepIn K (.ref fs) = true) (bs : Binds K fds ["xs", "doing"] []) (Gs : FnOk P w K mg base CX0 2 fs fds ["xs", "doing"] (spWsV C))
    (mf : mg "filled" = some (.ref fl')) (kf : PySem.W.keepIn K (.ref fl') = true) (bf : Binds K fdl ["plan", "kind", "args"] []) (Gf : FnOk P w K mg base CX0 5 fl' fdl ["plan", "kind", "args"] spFilled7) : FnOk P w K mg base CX0 6 f fd ["deed", "doing"] (spDeed C "make") := by
  refine F.ok scDm (fun vs H Q E h => ?_) (fun cdv A outer s0 H vs Q E hr h => ?_)
  · obtain ⟨vd, g, d, vpl, nm, kd, fl, mk, pu, i, s, ds, rfl, _⟩ := h
    rfl
  · obtain ⟨vd, g, d, vpl, nm, kd, fl, mk, pu, i, s, ds, rfl, ew, hd, hg, hpl, st, okd, hi, gn, k⟩ := h
    have nd := scDm.nd
    have hu := hu_of hr
    have r2 : Room 2 _ := hr.mono (by decide)
    refine ⟨_, pss_cons (ps_asg (pv 0) (pg_tup rfl (pgs_cons (pg_name (i := 2) nd rfl (Or.inl rfl)) (pgs_cons (pg_name (i := 3) nd rfl (Or.inl rfl)) (pgs_cons (pg_name (i := 4) nd rfl (Or.inl rfl)) (pgs_cons (pg_name (i := 5) nd rfl (Or.inl rfl)) pgs_nil))))))
      (pss_cons (ps_set (i := 6) nd rfl (.inl rfl) (pe_joined (PJ.cons (pe_fmt (pe_fld (pv 1) rfl)) (PJ.cons pe_str (PJ.cons (pe_fmt (pe_callB call_len_seq (by rfl) T.len PySem.boot_len (pa_cons (pe_fld (pv 1) rfl) pa_nil))) PJ.nil)))))
      (pss_cons (ps_expr (pe_bm PySem.F.plainAttrs_list PySem.F.slot_list_append PySem.F.type_list_append mt_append (pe_fld (pv 1) rfl) (pa_cons (pe_tup (pa_cons (pv 6) (pa_cons (pv 4) (pa_cons (pe_call Gf hr (by rfl) mf kf bf .nil pass0 (pa_cons (pe_fld (pv 1) rfl) (pa_cons (pv 4)
        (pa_cons (pe_call Gs r2 (by rfl) ms ks bs .nil pass0 (pa_cons (pv 5) (pa_cons (pv 1) pa_nil))) pa_nil)))) pa_nil)))) pa_nil)))
      (pss_one (ps_dput hu (pe_fld (pv 1) rfl) (pv 3) (pe_tup (pa_cons pe_str (pa_cons (pv 6) pa_nil))) rfl)))), ?_⟩
    cases d with
    | wh _ _ => cases (show ("when" : Str) = "make" from ew)
    | ca _ _ _ => cases (show ("call" : Str) = "make" from ew)
    | mk v xs =>
    obtain ⟨hx, hx4, hx3⟩ := okd
    have hx3' : xs.length ≤ 3 := hx3
    cases hd with
    | @tup a us _ e al =>
    cases al with
    | @cons u0 _ _ _ e0 al =>
    cases al with
    | @cons u1 _ _ _ e1 al =>
    cases al with
    | @cons u2 _ _ _ e2 al =>
    cases al with
    | @cons u3 _ _ _ e3 al =>
    cases al
    cases e0
    cases e1
    cases e2
    obtain ⟨dx, sy, fs', h1, h2, h3, h4, h5, h6, h7, h8, h9, h10, h11, h12⟩ := id hg.ex
    obtain ⟨kvs, k1, k2, k3⟩ := st.kn
    obtain ⟨ps, p1, p2⟩ := st.mks
    have lm := st.lm
    have ll := p2.length
    have gl := (gn s.mks.length (by omega)).1
    obtain ⟨l1, l2⟩ := nm_len gl.len
    refine ⟨_, rfl, a, _, rfl, SqT.of e, rfl, _, _, rfl, _, _, rfl, _, _, rfl, _, _, rfl, rfl, ?_⟩
    refine ⟨_, rfl, g, C, dx, _, _, rfl, h1, DT.cl, DT.nCause, h4, .inl ⟨nm, rfl, Nat.le_of_lt (small1000 (by omega)), nm, rfl, ?_, ?_⟩⟩
    · rw [empS]
      exact Nat.le_of_lt (small1000 (by omega))
    rw [empS]
    refine ⟨"#", rfl, Nat.le_of_lt (small1000 (by omega)), ?_⟩
    refine ⟨_, rfl, g, C, dx, _, _, rfl, h1, DT.cl, DT.nMakes, h7, mk, ps, rfl, .inl (SqL.of p1), .inr ⟨_, rfl, log_small (by omega), _, rfl, ?_, ?_⟩⟩
    · rw [ll]
      exact Nat.le_of_lt (small1000 (Nat.le_trans gl.len (by decide)))
    rw [ll, show (nm ++ ("#" : Str)) ++ ((toString (s.mks.length : Int) : String) : Str) = nmS nm "#" s.mks.length from rfl]
    refine ⟨_, rfl, g, C, dx, _, _, rfl, h1, DT.cl, DT.nMakes, h7, .inl ⟨rfl, _, SqL.of p1⟩, ?_⟩
    refine ⟨_, rfl, _, rfl, _, rfl, g, C, dx, _, _, rfl, h1, DT.cl, DT.nPlan, h2, _, rfl, _, rfl, _, rfl, u3, g, xs, vpl, nm, kd, fl, mk, pu, i, s, rfl, e3, hg, st, hx, by omega, fun t H1 s1 ht => ?_⟩
    refine ⟨vpl, ds, _, t, rfl, hpl.on s1, ht, by rw [List.length_map]; exact hx3', fun r x1 x2 x3 H2 s2 r0 hr1 d1 d2 d3 => ?_⟩
    refine ⟨(by show 3 ≤ sizeLine; decide), fun q hq => ?_⟩
    have s3 := same_new (Same.refl H2) hq (o := .tup [.str (nmS nm "#" s.mks.length), .str "k", .ref r])
    have s13 := (s1.trans s2).trans s3
    have st2 := st.on s13
    have p3 := s13 _ _ p1
    have k13 := s13 _ _ k1
    have nrk : r ≠ kd := (ne_of_none (s1 _ _ k1) r0).symm
    refine ⟨mk, _, _, rfl, rfl, p3, small1000 (by rw [ll]; omega), ?_⟩
    have ma : MkAt kd (upd H2 q (.tup [.str (nmS nm "#" s.mks.length), .str "k", .ref r])) (.ref q) (nmS nm "#" s.mks.length, [fillD (xs.map fun y => holdN (s.of y)) 0, fillD (xs.map fun y => holdN (s.of y)) 1, fillD (xs.map fun y => holdN (s.of y)) 2]) :=
      ⟨q, r, x1, x2, x3, _, _, _, rfl, upd_same, s3 _ _ hr1, nrk, rfl, d1.mono (sameTups s3), d2.mono (sameTups s3), d3.mono (sameTups s3)⟩
    have st3 := st2.made p3 ma
    have b3 : But (M3 kd mk pu) H (upd (upd H2 q (.tup [.str (nmS nm "#" s.mks.length), .str "k", .ref r])) mk (.lst (ps ++ [.ref q]))) := (sameBut s13 _).mut (.inr (.inl rfl))
    have nk : kd ≠ mk := fun z => by rw [z, p1] at k1; cases k1
    have k4 : (upd (upd H2 q (.tup [.str (nmS nm "#" s.mks.length), .str "k", .ref r])) mk (.lst (ps ++ [.ref q]))) kd = some (.dK kvs) := by rw [upd_ne nk]; exact k13
    generalize upd (upd H2 q (.tup [.str (nmS nm "#" s.mks.length), .str "k", .ref r])) mk (.lst (ps ++ [.ref q])) = H4 at st3 b3 k4 ⊢
    have hg4 := hg.but st b3
    obtain ⟨dx4, sy4, fs4, q1, _, _, _, q5, _⟩ := id hg4.ex
    refine ⟨_, rfl, (by show 2 ≤ sizeLine; decide), fun r' hr' => ?_⟩
    have s5 := same_new (Same.refl H4) hr' (o := .tup [.str "to", .str (nmS nm "#" s.mks.length)])
    have st5 := st3.on s5
    have k5 := s5 _ _ k4
    have hold5 : Dt (upd H4 r' (.tup [.str "to", .str (nmS nm "#" s.mks.length)])) (.ref r') (holdN (nmS nm "#" s.mks.length)) := .tup upd_same (.cons (.str _) (.cons (.str _) .nil))
    refine ⟨_, rfl, g, C, dx4, _, _, rfl, s5 _ _ q1, DT.cl, DT.nKnown, q5, _, rfl, kd, _, rfl, DPut.k (k := .inr v) k5 (small1000 (by omega)), ?_⟩
    exact k _ ((b3.trans (sameBut s5 _)).mut (.inl rfl)) (st5.know k5 (by omega) hold5 gl)
end
end K3
namespace K3
open PySem PySem.Spec PyProof.Rows L2 GG
/-! ### law_k07: deeds done one behind the other -/
def DeedAt (P : Program) (w : World) (K : PySem.W.Frag) (mg : Str → Option Value) (base : Heap) (C : Addr) (o : Str) (f : Addr) : Prop :=
  ∃ fd ps, FnOk P w K mg base CX0 6 f fd ps (spDeed C o) ∧ PySem.W.keepIn K (.ref f) = true ∧ Binds K fd ps []
def tCallD (P : Program) (w : World) (K : PySem.W.Frag) (mg : Str → Option Value) (base : Heap) (C : Addr) (i : Nat) (t : TA) : TE := fun σ H Q => ∃ (f : Addr) (o : Str), σ[i]? = some (some (.ref f)) ∧ DeedAt P w K mg base C o f ∧ t σ H fun vs H1 => spDeed C o vs H1 Q fun _ _ _ => False
theorem pe_callD {X : Cx} {C : Addr} {i : Nat} {x : Str} {p pos : Pos} {e : Expr} {es : List Expr} {t : TA} (hr : Room 6 X.A) (hN : X.N[i]? = some x) (hv : Vis X.env.scope x) (ha : PA X (e :: es) t)
    (hdb : (x == ("__debug__" : Str)) = false := by decide) (hcd : (x == ("__classdict__" : Str)) = false := by decide)
    (he : starEach (e :: es) X.env = (false, eval e X.env) :: starEach es X.env := by rfl) (hpl : (backTo pos (starEach es X.env)).any (·.1) = false := by rfl) :
    PE X (.Call (.Name x p) (e :: es) [] pos) (tCallD X.prog X.w X.K X.mg X.base C i t) := by
  refine ⟨fun pins s σ H Q I h => ?_⟩
  obtain ⟨f, o, hs, ⟨fd, ps, G, kp, b⟩, ht⟩ := h
  refine (pe_callL (i := i) (f := f) (dvs := []) G hr hN hv kp b .nil pass0 ha hdb hcd he hpl).run pins s σ H Q I ⟨hs, ?_⟩
  have e0 : (fun (vs : List V) (H1 : Hp) => spDeed C o (vs ++ []) H1 Q fun _ _ _ => False) = fun vs H1 => spDeed C o vs H1 Q fun _ _ _ => False := by
    funext vs H1
    rw [List.append_nil]
  rw [e0]
  exact ht
def spGiv (C : Addr) : Sp := fun vs H Q _ => ∃ (v : V) (g : Addr) (dd : List Dd) (vpl : V) (nm : Str) (kd fl mk pu : Addr) (i : Nat) (s : Sm) (ds : List PyData), vs = [v, .ref g] ∧ Dt H v (.tuple (dd.map ddD)) ∧ DgA C H g vpl nm kd fl mk pu ∧ Pl7 H vpl ds ∧ St7 H kd mk pu i s ∧ OkAll nm s dd ∧ i + dd.length ≤ 90 ∧ GoodNm nm ∧
  ∀ H', But (M3 kd mk pu) H H' → St7 H' kd mk pu (i + dd.length) (runD nm s dd) → Q .non H'
/-- the deeds at the head: as they are, or within an if of a -/
def topD (w : Bool) (dd : List Dd) : PyData := if w = true then .tuple [.tuple [.str "if", vrD "a", .tuple (dd.map ddD), .tuple []]] else .tuple (dd.map ddD)
def spGiv2 (C : Addr) : Sp := fun vs H Q _ => ∃ (v : V) (g : Addr) (wb : Bool) (dd : List Dd) (vpl : V) (nm : Str) (kd fl mk pu : Addr) (i : Nat) (s : Sm) (ds : List PyData), vs = [v, .ref g] ∧ Dt H v (topD wb dd) ∧ DgA C H g vpl nm kd fl mk pu ∧ Pl7 H vpl ds ∧ St7 H kd mk pu i s ∧ (∃ n, s.env "a" = some n) ∧ OkAll nm s dd ∧ i + dd.length ≤ 90 ∧ GoodNm nm ∧
  ∀ H', But (M3 kd mk pu) H H' → St7 H' kd mk pu (i + dd.length) (runD nm s dd) → Q .non H'
def spCho (C : Addr) : Sp := fun vs H Q _ => ∃ (v : V) (g : Addr) (ts : List PyData) (vpl : V) (nm : Str) (kd fl mk pu : Addr) (i : Nat) (s : Sm), vs = [v, .ref g] ∧ Dt H v (.tuple [.str "if", vrD "a", .tuple ts, .tuple []]) ∧ DgA C H g vpl nm kd fl mk pu ∧ St7 H kd mk pu i s ∧ (∃ n, s.env "a" = some n) ∧ ∀ v', Dt H v' (.tuple ts) → Q v' H
abbrev sCho : Stmt := top 28
theorem scCh : FnScope ["deed", "doing", "worth"] ["deed", "doing"] (defScope sCho) := ⟨rfl, rfl, rfl, by decide +kernel, rfl, by decide +kernel, by decide +kernel⟩
theorem atI_map {us : List V} {ts : List PyData} {H : Hp} (al : DtAll H us ts) {i : Nat} {u : V} (h : us[i]? = some u) : ∃ t, ts[i]? = some t ∧ Dt H u t := al.get i u h
theorem runD_take {nm : Str} {s : Sm} {dd : List Dd} {i : Nat} {d : Dd} (h : dd[i]? = some d) : runD nm s (dd.take (i + 1)) = stepD nm (runD nm s (dd.take i)) d := by
  unfold runD
  rw [List.take_add_one, h, List.foldl_append]
  rfl
theorem OkAll.at {nm : Str} : ∀ {dd : List Dd} {s : Sm} {i : Nat} {d : Dd}, OkAll nm s dd → dd[i]? = some d → OkDd (runD nm s (dd.take i)) d
  | [], s, i, d, _, e => by simp at e
  | x :: dd, s, 0, d, h, e => by
    cases e
    exact h.1
  | x :: dd, s, i + 1, d, h, e => h.2.at (s := stepD nm s x) (i := i) e
section
variable {P : Program} {w : World} {K : PySem.W.Frag} {mg : Str → Option Value} {base : Heap} {C dA : Addr}
theorem ok_giv {f : Addr} {fd : FuncData} (F : Fun K "given_by" "given_by" sGiven f fd) (mD : mg "DEEDS" = some (.ref dA)) (hD : ∀ o ∈ (["when", "call", "make"] : List Str), ∃ fo, KDct K w dA o (.ref fo) ∧ DeedAt P w K mg base C o fo) : FnOk P w K mg base CX0 7 f fd ["deeds", "doing"] (spGiv C) := by
  refine F.ok scGv (fun vs H Q E h => ?_) (fun cdv A outer s0 H vs Q E hr h => ?_)
  · obtain ⟨v, g, dd, vpl, nm, kd, fl, mk, pu, i, s, ds, rfl, _⟩ := h
    rfl
  · obtain ⟨v, g, dd, vpl, nm, kd, fl, mk, pu, i, s, ds, rfl, hd, hg, hpl, st, oks, hi, gn, k⟩ := h
    have nd := scGv.nd
    refine ⟨_, pss_cons (ps_for PassesOwn.never rfl (pi_tup (pv 0)) (pg_name (i := 2) nd rfl (Or.inl rfl))
      (pss_cons (ps_if (pt_cmpR op_eq (pe_ix ix_tup (pv 2) pe_int (fun _ _ => rfl)) pe_str (nomark _)) (pss_one ps_never) pss_nil)
      (pss_one (ps_if (pt_cmpR op_eq (pe_ix ix_tup (pv 2) pe_int (fun _ _ => rfl)) pe_str (nomark _)) (pss_cons ps_never (pss_one ps_never))
        (pss_cons (ps_set (i := 4) nd rfl (Or.inl rfl) (pe_ix ix_kdict (pe_glob (v := .ref dA) (by rfl) mD rfl) (pe_ix ix_tup (pv 2) pe_int (fun _ _ => rfl)) (fun _ _ => rfl)))
        (pss_one (ps_expr (pe_callD (C := C) (i := 4) hr rfl (.inl rfl) (pa_cons (pv 2) (pa_cons (pv 1) pa_nil))))))))))
      (pss_one (ps_ret pe_non)), ?_⟩
    cases hd with
    | @tup a us _ e al =>
    have le := al.length
    rw [List.length_map] at le
    refine ⟨_, rfl, a, rfl, ⟨us, SqT.of e⟩, for_tup (K := K) (a := a) (xs := us) (fun j σ' H' => (∃ v2 v4 : Option V, σ' = [some (.ref a), some (.ref g), v2, none, v4]) ∧ But (M3 kd mk pu) H H' ∧ St7 H' kd mk pu (i + j) (runD nm s (dd.take j))) ?_ ?_ ?_ ?_⟩
    · exact ⟨⟨_, _, rfl⟩, But.refl _ _, st⟩
    · rintro j σ' H' _ ⟨_, b, _⟩
      exact SqT.of (st.tups b _ _ e)
    · rintro j u σ' H' hj ⟨⟨v2, v4, rfl⟩, b, stj⟩
      obtain ⟨t, ht, htx⟩ := al.get j u hj
      rw [List.getElem?_map] at ht
      obtain ⟨d, hdj, rfl⟩ := Option.map_eq_some_iff.mp ht
      have jl : j < dd.length := (List.getElem?_eq_some_iff.mp hdj).1
      have tp := st.tups b
      have htx' := htx.mono tp
      obtain ⟨q, x0, rest, rfl, eq, ex⟩ : ∃ q x0 rest, u = .ref q ∧ H' q = some (.tup (x0 :: rest)) ∧ x0 = .str (ddW d) := by
        cases d with
        | wh x xs =>
          cases htx' with
          | @tup q ys _ eq bl =>
          cases bl with
          | cons c0 bl =>
          cases c0
          exact ⟨q, _, _, rfl, eq, rfl⟩
        | ca v x xs =>
          cases htx' with
          | @tup q ys _ eq bl =>
          cases bl with
          | cons c0 bl =>
          cases c0
          exact ⟨q, _, _, rfl, eq, rfl⟩
        | mk v xs =>
          cases htx' with
          | @tup q ys _ eq bl =>
          cases bl with
          | cons c0 bl =>
          cases c0
          exact ⟨q, _, _, rfl, eq, rfl⟩
      subst ex
      have a0 : atI (V.str (ddW d) :: rest) 0 = some (V.str (ddW d)) := atI_int (by decide) rfl
      have n1 : decide (V.str (ddW d) = V.str "give") = false := by
        cases d with
        | wh => exact (show decide (V.str "when" = V.str "give") = false by decide +kernel)
        | ca => exact (show decide (V.str "call" = V.str "give") = false by decide +kernel)
        | mk => exact (show decide (V.str "make" = V.str "give") = false by decide +kernel)
      have n2 : decide (V.str (ddW d) = V.str "if") = false := by
        cases d with
        | wh => exact (show decide (V.str "when" = V.str "if") = false by decide +kernel)
        | ca => exact (show decide (V.str "call" = V.str "if") = false by decide +kernel)
        | mk => exact (show decide (V.str "make" = V.str "if") = false by decide +kernel)
      have hm : ddW d ∈ (["when", "call", "make"] : List Str) := by cases d <;> simp [ddW]
      obtain ⟨fo, kk, at'⟩ := hD _ hm
      refine ⟨_, rfl, q, _, _, _, rfl, rfl, SqT.of eq, a0, rfl, _, rfl, ?_⟩
      rw [n1]
      refine iteF ⟨_, rfl, q, _, _, _, rfl, rfl, SqT.of eq, a0, rfl, _, rfl, ?_⟩
      rw [n2]
      refine iteF ⟨_, rfl, q, _, _, _, rfl, rfl, SqT.of eq, a0, dA, ddW d, .ref fo, rfl, rfl, kk, ?_⟩
      refine ⟨fo, ddW d, rfl, at', _, rfl, _, rfl, .ref q, g, d, vpl, nm, kd, fl, mk, pu, i + j, runD nm s (dd.take j), ds, rfl, rfl, htx', hg.but st b, hpl.mono tp (st.frzs b), stj, oks.at hdj, by omega, gn, fun H2 b2 st2 => ?_⟩
      exact ⟨⟨_, _, rfl⟩, b.trans b2, by rw [runD_take hdj]; exact st2⟩
    · rintro σ' H' ⟨⟨v2, v4, rfl⟩, b, stj⟩
      rw [List.take_of_length_le (by omega), le] at stj
      exact k H' b stj
theorem ok_cho {f fw : Addr} {fd fdw : FuncData} (F : Fun K "chosen" "chosen" sCho f fd) (mw : mg "worth_of" = some (.ref fw)) (kw : PySem.W.keepIn K (.ref fw) = true) (bw : Binds K fdw ["x", "doing"] []) (Gw : FnOk P w K mg base CX0 1 fw fdw ["x", "doing"] (spWoV C)) : FnOk P w K mg base CX0 2 f fd ["deed", "doing"] (spCho C) := by
  refine F.ok scCh (fun vs H Q E h => ?_) (fun cdv A outer s0 H vs Q E hr h => ?_)
  · obtain ⟨v, g, ts, vpl, nm, kd, fl, mk, pu, i, s, rfl, _⟩ := h
    rfl
  · obtain ⟨v, g, ts, vpl, nm, kd, fl, mk, pu, i, s, rfl, hd, hg, st, ⟨n, hn⟩, k⟩ := h
    have nd := scCh.nd
    refine ⟨_, pss_cons (ps_set (i := 2) nd rfl (.inl rfl) (pe_call Gw hr (by rfl) mw kw bw .nil pass0 (pa_cons (pe_ix ix_tup (pv 0) pe_int (fun _ _ => rfl)) (pa_cons (pv 1) pa_nil))))
      (pss_one (ps_ret (pe_ifExp (PW.pt (pw_or (pt_cmpR op_isN (pv 2) pe_non (nomark _)) (pw_or1 (pt_cmpR (op_eqD hr.units) (pv 2) pe_int (nomark _))))) (pe_ix ix_tup (pv 0) pe_int (fun _ _ => rfl)) (pe_ix ix_tup (pv 0) pe_int (fun _ _ => rfl))))), ?_⟩
    cases hd with
    | @tup a us _ e al =>
    cases al with
    | @cons u0 _ _ _ e0 al =>
    cases al with
    | @cons u1 _ _ _ e1 al =>
    cases al with
    | @cons u2 _ _ _ e2 al =>
    cases al with
    | @cons u3 _ _ _ e3 al =>
    cases al
    obtain ⟨kvs, k1, k2, k3⟩ := st.kn
    obtain ⟨z, z1, z2⟩ := k3 "a" n hn
    have gx := st.gd "a" n hn
    have a1 : atI [u0, u1, u2, u3] 1 = some u1 := atI_int (by decide) rfl
    have a2 : atI [u0, u1, u2, u3] 2 = some u2 := atI_int (by decide) rfl
    have gd : Gd 2 (holdN n) := ⟨(by show 2 ≤ 1000; decide), fun e he => by
      simp only [List.mem_cons, List.not_mem_nil, or_false] at he
      rcases he with rfl | rfl
      · exact Gd.strI (by decide) (by decide +kernel)
      · exact Gd.strI (Nat.le_trans gx.len (by decide)) gx.ok⟩
    refine ⟨_, rfl, a, _, _, _, rfl, rfl, SqT.of e, a1, _, rfl, u1, g, "a", vpl, z, nm, kd, fl, mk, pu, kvs, rfl, e1, hg, k1, z1, ?_⟩
    obtain ⟨zt, rfl⟩ := z2.ref_of
    refine ⟨_, rfl, rfl, _, rfl, iteF ⟨_, rfl, holdN n, .int 0, z2.dp, .int _, gd.shaped (by decide), by decide +kernel, _, rfl, ?_⟩⟩
    rw [show PyData.eqv (holdN n) (.int 0) = false from by simp [holdN, PyData.eqv]]
    exact iteF ⟨_, rfl, a, _, _, _, rfl, rfl, SqT.of e, a2, k u2 e2⟩
theorem ok_giv2 {f fc : Addr} {fd fdc : FuncData} (F : Fun K "given_by" "given_by" sGiven f fd) (mf : mg "given_by" = some (.ref f)) (bf : Binds K fd ["deeds", "doing"] []) (G : FnOk P w K mg base CX0 7 f fd ["deeds", "doing"] (spGiv C))
    (mc : mg "chosen" = some (.ref fc)) (kc : PySem.W.keepIn K (.ref fc) = true) (bc : Binds K fdc ["deed", "doing"] []) (Gc : FnOk P w K mg base CX0 2 fc fdc ["deed", "doing"] (spCho C)) : FnOk P w K mg base CX0 8 f fd ["deeds", "doing"] (spGiv2 C) := by
  have main : FnOk P w K mg base CX0 8 f fd ["deeds", "doing"] (fun vs H Q _ => ∃ (v : V) (g : Addr) (dd : List Dd) (vpl : V) (nm : Str) (kd fl mk pu : Addr) (i : Nat) (s : Sm) (ds : List PyData), vs = [v, .ref g] ∧ Dt H v (topD true dd) ∧ DgA C H g vpl nm kd fl mk pu ∧ Pl7 H vpl ds ∧ St7 H kd mk pu i s ∧ (∃ n, s.env "a" = some n) ∧ OkAll nm s dd ∧ i + dd.length ≤ 90 ∧ GoodNm nm ∧
      ∀ H', But (M3 kd mk pu) H H' → St7 H' kd mk pu (i + dd.length) (runD nm s dd) → Q .non H') := by
    refine F.ok scGv (fun vs H Q E h => ?_) (fun cdv A outer s0 H vs Q E hr h => ?_)
    · obtain ⟨v, g, dd, vpl, nm, kd, fl, mk, pu, i, s, ds, rfl, _⟩ := h
      rfl
    · obtain ⟨v, g, dd, vpl, nm, kd, fl, mk, pu, i, s, ds, rfl, hd, hg, hpl, st, ha, oks, hi, gn, k⟩ := h
      have nd := scGv.nd
      have r2 : Room 2 _ := hr.mono (by decide)
      refine ⟨_, pss_cons (ps_for PassesOwn.never rfl (pi_tup (pv 0)) (pg_name (i := 2) nd rfl (Or.inl rfl))
        (pss_cons (ps_if (pt_cmpR op_eq (pe_ix ix_tup (pv 2) pe_int (fun _ _ => rfl)) pe_str (nomark _)) (pss_one ps_never) pss_nil)
        (pss_one (ps_if (pt_cmpR op_eq (pe_ix ix_tup (pv 2) pe_int (fun _ _ => rfl)) pe_str (nomark _))
          (pss_cons (ps_set (i := 3) nd rfl (.inl rfl) (pe_call G hr (by rfl) mf F.kp bf .nil pass0 (pa_cons (pe_call Gc r2 (by rfl) mc kc bc .nil pass0 (pa_cons (pv 2) (pa_cons (pv 1) pa_nil))) (pa_cons (pv 1) pa_nil))))
            (pss_one (ps_if (pt_cmpR op_notN (pv 3) pe_non (nomark _)) (pss_one ps_never) pss_nil)))
          (pss_cons ps_never (pss_one ps_never))))))
        (pss_one (ps_ret pe_non)), ?_⟩
      have hd' : Dt H v (.tuple [.tuple [.str "if", vrD "a", .tuple (dd.map ddD), .tuple []]]) := hd
      cases hd' with
      | @tup a us _ e al =>
      cases al with
      | @cons u0 _ _ _ e0 al =>
      cases al
      refine ⟨_, rfl, a, rfl, ⟨_, SqT.of e⟩, for_tup (K := K) (a := a) (xs := [u0]) (fun j σ' H' => (∃ v2 v3 : Option V, σ' = [some (.ref a), some (.ref g), v2, v3, none]) ∧ But (M3 kd mk pu) H H' ∧ ((j = 0 ∧ H' = H) ∨ (j = 1 ∧ St7 H' kd mk pu (i + dd.length) (runD nm s dd)))) ?_ ?_ ?_ ?_⟩
      · exact ⟨⟨_, _, rfl⟩, But.refl _ _, .inl ⟨rfl, rfl⟩⟩
      · rintro j σ' H' _ ⟨_, b, _⟩
        exact SqT.of (st.tups b _ _ e)
      · rintro j u σ' H' hj ⟨⟨v2, v3, rfl⟩, b, cse⟩
        obtain rfl : j = 0 := by
          have := (List.getElem?_eq_some_iff.mp hj).1
          simp at this
          exact this
        rcases cse with ⟨_, rfl⟩ | ⟨z, _⟩
        · cases hj
          obtain ⟨q, rfl⟩ := e0.ref_of
          obtain ⟨ys, eq, bl⟩ := e0.tupI
          cases bl with
          | @cons c0 rest _ _ g0 bl =>
          cases g0
          have a0 : atI (V.str "if" :: rest) 0 = some (V.str "if") := atI_int (by decide) rfl
          refine ⟨_, rfl, q, _, _, _, rfl, rfl, SqT.of eq, a0, rfl, _, rfl, ?_⟩
          rw [show decide (V.str "if" = V.str "give") = false by decide +kernel]
          refine iteF ⟨_, rfl, q, _, _, _, rfl, rfl, SqT.of eq, a0, rfl, _, rfl, yesS ?_⟩
          refine ⟨_, rfl, _, rfl, .ref q, g, dd.map ddD, vpl, nm, kd, fl, mk, pu, i, s, rfl, e0, hg, st, ha, fun v' hv => ?_⟩
          refine ⟨_, rfl, v', g, dd, vpl, nm, kd, fl, mk, pu, i, s, ds, rfl, hv, hg, hpl, st, oks, hi, gn, fun H2 b2 st2 => ?_⟩
          exact ⟨_, rfl, rfl, _, rfl, iteF ⟨⟨_, _, rfl⟩, b.trans b2, .inr ⟨rfl, st2⟩⟩⟩
        · cases z
      · rintro σ' H' ⟨⟨v2, v3, rfl⟩, b, cse⟩
        rcases cse with ⟨z, _⟩ | ⟨_, st2⟩
        · cases z
        · exact k H' b st2
  refine ⟨fun vs H Q E h => ?_, fun A outer s0 H args us vs Q E r1 r2 r3 r4 h => ?_⟩
  · obtain ⟨v, g, wb, dd, vpl, nm, kd, fl, mk, pu, i, s, ds, rfl, _⟩ := h
    rfl
  · obtain ⟨v, g, wb, dd, vpl, nm, kd, fl, mk, pu, i, s, ds, e, hd, hg, hpl, st, ha, oks, hi, gn, k⟩ := h
    cases wb with
    | true => exact main.run A outer s0 H args us vs Q E r1 r2 r3 r4 ⟨v, g, dd, vpl, nm, kd, fl, mk, pu, i, s, ds, e, hd, hg, hpl, st, ha, oks, hi, gn, k⟩
    | false => exact (G.mono (by decide : 7 ≤ 8)).run A outer s0 H args us vs Q E r1 r2 r3 r4 ⟨v, g, dd, vpl, nm, kd, fl, mk, pu, i, s, ds, e, hd, hg, hpl, st, oks, hi, gn, k⟩
end
end K3
namespace K3
open PySem PySem.Spec PyProof.Rows L2 GG
/-! ### law_k07: an act, from its making to its end -/
def spCoI : Sp := fun vs H Q _ => ∃ (a : Addr) (kvs : List (Key × V)), vs = [.ref a] ∧ H a = some (.dK kvs) ∧ (∀ q ∈ kvs, ∃ i, q.2 = .int i) ∧ (kvs.map (·.1)).Nodup ∧ kvs.length ≤ 10 ∧ ∀ (r : Addr) H', Same H H' → H r = none → H' r = some (.dK kvs) → Q (.ref r) H'
def spDI7 (C : Addr) : Sp := fun vs H Q _ => ∃ (H0 : Hp) (g dx fl : Addr) (v1 : V) (nm : Str) (v4 : V), vs = [.ref g, v1, .ref fl, .str nm, v4] ∧ Same H0 H ∧ H0 g = none ∧ H g = some (.ins C dx []) ∧
  ∀ (kd mk pu : Addr) (H' : Hp), DgA C H' g v1 nm kd fl mk pu → H' kd = some (.dK []) → H' mk = some (.lst []) → H' pu = some (.lst []) → mk ≠ pu → H0 kd = none → H0 mk = none → H0 pu = none → Same H0 H' → Q .non H'
def topL (wb : Bool) (dd : List Dd) : List PyData := if wb = true then [.tuple [.str "if", vrD "a", .tuple (dd.map ddD), .tuple []]] else dd.map ddD
theorem topD_eq (wb : Bool) (dd : List Dd) : topD wb dd = .tuple (topL wb dd) := by cases wb <;> rfl
def s07 : Sm := ⟨setE (fun _ => none) "a" "1#0", [], []⟩
theorem good10 : GoodN "1#0" := ⟨by decide +kernel, by decide +kernel, by decide +kernel, by decide +kernel⟩
def spDone7 (C : Addr) : Sp := fun vs H Q _ => ∃ (g : Addr) (vm va vpl : V) (wb : Bool) (dd : List Dd) (nm : Str) (kd fl mk pu : Addr) (ds : List PyData), vs = [.ref g, vm, va] ∧ Dt H vm (methD7 (topL wb dd)) ∧ Dt H va (.tuple [holdN "1#0"]) ∧ DgA C H g vpl nm kd fl mk pu ∧ Pl7 H vpl ds ∧ H kd = some (.dK []) ∧ H mk = some (.lst []) ∧ H pu = some (.lst []) ∧ mk ≠ pu ∧
  OkAll nm s07 dd ∧ dd.length ≤ 80 ∧ GoodNm nm ∧ ∀ v' H', But (M3 kd mk pu) H H' → St7 H' kd mk pu dd.length (runD nm s07 dd) → Dt H' v' (.tuple [.str "kept", .none]) → Q v' H'
def spAct7 : Sp := fun vs H Q _ => ∃ (f0 : Addr) (v vme va : V) (nm : Str) (wb : Bool) (dd : List Dd) (kvs : List (Key × V)), vs = [v, .str "k", .ref f0, .str nm, vme, .str "go", va] ∧ Pl7 H v (topL wb dd) ∧ H f0 = some (.dK kvs) ∧ (∀ q ∈ kvs, ∃ i, q.2 = .int i) ∧ (kvs.map (·.1)).Nodup ∧ kvs.length ≤ 10 ∧
  Dt H va (.tuple [holdN "1#0"]) ∧ OkAll nm s07 dd ∧ dd.length ≤ 80 ∧ GoodNm nm ∧ ∀ (t fl l1 l2 l3 k0 : Addr) (o : V) (ms ps : List V) (H' : Hp), Same H H' → H' t = some (.tup [o, .ref fl, .ref l1, .ref l2, .ref l3, .non]) → Dt H' o (.tuple [.str "kept", .none]) → H' fl = some (.dK kvs) → H' l1 = some (.tup []) →
    H' l2 = some (.tup ms) → Al (MkAt k0 H') ms (runD nm s07 dd).mks → H' l3 = some (.tup ps) → Al (PuAt H') ps (runD nm s07 dd).pus → Q (.ref t) H'
section
variable {P : Program} {w : World} {K : PySem.W.Frag} {mg : Str → Option Value} {base : Heap} {C D : Addr}
theorem ok_coI {f : Addr} {fd : FuncData} (F : Fun K "copied" "copied" sCopied f fd) (T : Txt mg) (m : mg "copied" = some (.ref f)) (b : Binds K fd ["thing"] []) (G : FnOk P w K mg base CX0 1 f fd ["thing"] (spCo 0)) : FnOk P w K mg base CX0 2 f fd ["thing"] spCoI := by
  refine F.ok scCo (fun vs H Q E h => ?_) (fun cdv A outer s H vs Q E hr h => ?_)
  · obtain ⟨a, kvs, rfl, _⟩ := h
    rfl
  · obtain ⟨a, kvs, rfl, e, hint, nod, few, k⟩ := h
    have nd := scCo.nd
    have hu := hu_of hr
    refine ⟨_, pss_cons (ps_if (pt_val (pe_callB call_isi (by rfl) T.isinstance (by decide +kernel) (pa_cons (pv 0) (pa_cons (pe_bltn (v := V.ty "dict") (by rfl) T.dict (by decide +kernel) rfl) pa_nil))))
      (pss_cons (ps_set (i := 1) nd rfl (.inl rfl) pe_dnewK)
      (pss_cons (ps_lock (ps_for PassesOwn.never rfl (pi_items (pv 0)) (pg_tup rfl (pgs_cons (pg_name (i := 2) nd rfl (Or.inl rfl)) (pgs_cons (pg_name (i := 3) nd rfl (Or.inl rfl)) pgs_nil)))
        (pss_one (ps_dput hu (pv 1) (pv 2) (pe_call G hr (by rfl) m F.kp b .nil pass0 (pa_cons (pv 3) pa_nil)) rfl))))
      (pss_one (ps_ret (pv 1))))) pss_nil)
      (pss_cons ps_never (pss_cons ps_never (pss_cons ps_never (pss_one ps_never)))), ?_⟩
    refine ⟨_, rfl, .ref a, .ty "dict", .type "dict", .type "dict", true, rfl, .ty _, .base (.dK e), kit_ty (by decide +kernel), true, rfl, iteT ?_⟩
    intro l hl
    have nla : l ≠ a := fun z => by rw [z, e] at hl; cases hl
    refine ⟨a, .dK kvs, (by rw [upd_ne nla.symm]; exact e), trivial, fun od => ?_⟩
    have b0 : But (· = a) H (upd (upd H l (.dK [])) a (.frz od (.dK kvs))) := ((But.refl _ _).new hl).mut rfl
    have l0 : upd (upd H l (.dK [])) a (.frz od (.dK kvs)) l = some (.dK []) := by rw [upd_ne nla, upd_same]
    have a0 : upd (upd H l (.dK [])) a (.frz od (.dK kvs)) a = some (.frz od (.dK kvs)) := upd_same
    generalize upd (upd H l (.dK [])) a (.frz od (.dK kvs)) = H1 at b0 l0 a0 ⊢
    refine ⟨_, rfl, a, od, kvs, rfl, a0, for_it walk_items (fun i σ' H' => ∃ (kw pw : Option V), σ' = [some (.ref a), some (.ref l), kw, pw, none] ∧ H' l = some (.dK (kvs.take i)) ∧ But (· = a) H H' ∧ H' a = some (.frz od (.dK kvs))) ?_ ?_ ?_ ?_⟩
    · exact ⟨none, none, rfl, l0, b0, a0⟩
    · rintro i σ' H' _ ⟨kw, pw, rfl, z1, z4, z5⟩
      exact z5
    · rintro i _ σ' H' _ hi ⟨kw, pw, rfl, z1, z4, z5⟩ ⟨Tp, kx, vx, rfl, hT, rfl, hk, hv⟩
      obtain ⟨⟨ky, x⟩, hq⟩ : ∃ q, kvs[i]? = some q := ⟨kvs[i], List.getElem?_eq_getElem hi⟩
      obtain ⟨j, ej⟩ := hint _ (List.mem_of_getElem? hq)
      have ej' : x = .int j := ej
      subst ej'
      have hk2 : kvs[i]?.map (fun kv => kV kv.1) = some kx := hk
      have hv2 : kvs[i]?.map Prod.snd = some vx := hv
      rw [hq] at hk2 hv2
      cases hk2
      cases hv2
      have b1 : But (· = a) H (upd H' Tp (.tup [kV ky, .int j])) := z4.new hT
      have l1 : upd H' Tp (.tup [kV ky, .int j]) l = some (.dK (kvs.take i)) := by rw [upd_ne (ne_of_none z1 hT)]; exact z1
      have a1 : upd H' Tp (.tup [kV ky, .int j]) a = some (.frz od (.dK kvs)) := by rw [upd_ne (ne_of_none z5 hT)]; exact z5
      have t1 : upd H' Tp (.tup [kV ky, .int j]) Tp = some (.tup [kV ky, .int j]) := upd_same
      generalize upd H' Tp (.tup [kV ky, .int j]) = H2 at b1 l1 a1 t1 ⊢
      refine ⟨Tp, _, rfl, SqT.of t1, rfl, _, _, rfl, _, _, rfl, rfl, ?_⟩
      refine ⟨_, rfl, .int j, rfl, .inl ⟨.int j, .int _, Gd.int, fun v' H3 s3 hv3 => ?_⟩⟩
      cases hv3
      have ni : ky ∉ (kvs.take i).map (·.1) := by
        have := not_in_take (l := kvs.map (·.1)) (i := i) (x := ky) nod (by rw [List.getElem?_map, hq]; rfl)
        rwa [← List.map_take] at this
      refine ⟨_, rfl, _, rfl, l, _, rfl, DPut.k (k := ky) (s3 _ _ l1) (small1000 (by rw [List.length_take]; omega)), ?_⟩
      rw [put_new ni]
      refine ⟨_, _, rfl, ?_, (b1.trans (sameBut s3 _)).mutNew hl, ?_⟩
      · rw [List.take_add_one, hq]
        exact upd_same
      · rw [upd_ne nla.symm]
        exact s3 _ _ a1
    · rintro σ' H' ⟨kw, pw, rfl, z1, z4, z5⟩
      rw [List.take_length] at z1
      refine ⟨z5, _, rfl, ?_⟩
      have e2 : upd H' a (.dK kvs) l = some (.dK kvs) := by rw [upd_ne nla]; exact z1
      refine k l _ (fun b u z => ?_) hl e2
      by_cases hba : b = a
      · subst hba
        rw [e] at z
        cases z
        exact upd_same
      · rw [upd_ne hba]
        exact z4 b u hba z
theorem ok_di7 {f : Addr} {fd : FuncData} (F : Fun K "__init__" "Doing.__init__" sDI f fd) (T : DTxt K C) : FnOk P w K mg base CX0 1 f fd ["self", "plan", "fields", "cause", "me"] (spDI7 C) := by
  refine F.ok scDI (fun vs H Q E h => ?_) (fun cdv A outer s H vs Q E hr h => ?_)
  · obtain ⟨H0, g, dx, fl, v1, nm, v4, rfl, _⟩ := h
    rfl
  · obtain ⟨H0, g, dx, fl, v1, nm, v4, rfl, s0, g0, hg, k⟩ := h
    refine ⟨_, pss_cons (ps_fld (pv 0) (pv 1) rfl) (pss_cons (ps_fld (pv 0) (pv 2) rfl) (pss_cons (ps_fld (pv 0) (pv 3) rfl) (pss_cons (ps_fld (pv 0) (pv 4) rfl) (pss_cons (ps_fld (pv 0) pe_dnewK rfl)
      (pss_cons (ps_fld (pv 0) (pe_lst pa_nil) rfl) (pss_cons (ps_fld (pv 0) (pe_lst pa_nil) rfl) (pss_cons (ps_fld (pv 0) (pe_lst pa_nil) rfl) (pss_one (ps_fld (pv 0) pe_non rfl))))))))), ?_⟩
    refine ⟨_, rfl, _, rfl, g, C, dx, [], rfl, hg, T.cl, T.nPlan, (by show 0 < 1000; decide), ?_⟩
    refine ⟨_, rfl, _, rfl, g, C, dx, _, rfl, upd_same, T.cl, T.nFields, (by show 1 < 1000; decide), ?_⟩
    refine ⟨_, rfl, _, rfl, g, C, dx, _, rfl, upd_same, T.cl, T.nCause, (by show 2 < 1000; decide), ?_⟩
    refine ⟨_, rfl, _, rfl, g, C, dx, _, rfl, upd_same, T.cl, T.nMe, (by show 3 < 1000; decide), ?_⟩
    have look : ∀ {f : Str} {a : Addr} {H1 H2 : Hp} {o : HO}, H2 = upd H1 g o → H2 a = none → g ≠ a := fun {f a H1 H2 o} e n z => by
      rw [e, ← z, upd_same] at n
      cases n
    intro kd hkd
    have nk : kd ≠ g := fun z => by
      rw [z, upd_same] at hkd
      cases hkd
    have kd0 : H kd = none := by
      rw [upd_ne nk, upd_ne nk, upd_ne nk, upd_ne nk] at hkd
      exact hkd
    refine ⟨_, rfl, g, C, dx, _, rfl, (by rw [upd_ne nk.symm, upd_same]), T.cl, T.nKnown, (by show 4 < 1000; decide), ?_⟩
    refine ⟨Nat.zero_le _, fun sy hsy => ?_⟩
    have ns : sy ≠ g := fun z => by
      rw [z, upd_same] at hsy
      cases hsy
    have nsk : sy ≠ kd := fun z => by
      rw [z, upd_ne nk, upd_same] at hsy
      cases hsy
    have sy0 : H sy = none := by
      rw [upd_ne ns, upd_ne nsk, upd_ne ns, upd_ne ns, upd_ne ns, upd_ne ns] at hsy
      exact hsy
    refine ⟨_, rfl, g, C, dx, _, rfl, (by rw [upd_ne ns.symm, upd_same]), T.cl, T.nSays, (by show 5 < 1000; decide), ?_⟩
    refine ⟨Nat.zero_le _, fun mk hmk => ?_⟩
    have nm' : mk ≠ g := fun z => by
      rw [z, upd_same] at hmk
      cases hmk
    have nms : mk ≠ sy := fun z => by
      rw [z, upd_ne ns, upd_same] at hmk
      cases hmk
    have nmk : mk ≠ kd := fun z => by
      rw [z, upd_ne nk, upd_ne nsk.symm, upd_ne nk, upd_same] at hmk
      cases hmk
    have mk0 : H mk = none := by
      rw [upd_ne nm', upd_ne nms, upd_ne nm', upd_ne nmk, upd_ne nm', upd_ne nm', upd_ne nm', upd_ne nm'] at hmk
      exact hmk
    refine ⟨_, rfl, g, C, dx, _, rfl, (by rw [upd_ne nm'.symm, upd_same]), T.cl, T.nMakes, (by show 6 < 1000; decide), ?_⟩
    refine ⟨Nat.zero_le _, fun pu hpu => ?_⟩
    have np : pu ≠ g := fun z => by
      rw [z, upd_same] at hpu
      cases hpu
    have npm : pu ≠ mk := fun z => by
      rw [z, upd_ne nm', upd_same] at hpu
      cases hpu
    have nps : pu ≠ sy := fun z => by
      rw [z, upd_ne ns, upd_ne nms.symm, upd_ne ns, upd_same] at hpu
      cases hpu
    have npk : pu ≠ kd := fun z => by
      rw [z, upd_ne nk, upd_ne nmk.symm, upd_ne nk, upd_ne nsk.symm, upd_ne nk, upd_same] at hpu
      cases hpu
    have pu0 : H pu = none := by
      rw [upd_ne np, upd_ne npm, upd_ne np, upd_ne nps, upd_ne np, upd_ne npk, upd_ne np, upd_ne np, upd_ne np, upd_ne np] at hpu
      exact hpu
    refine ⟨_, rfl, g, C, dx, _, rfl, (by rw [upd_ne np.symm, upd_same]), T.cl, T.nPuts, (by show 7 < 1000; decide), ?_⟩
    refine ⟨_, rfl, g, C, dx, _, rfl, upd_same, T.cl, T.nGoes, (by show 8 < 1000; decide), ?_⟩
    refine k kd mk pu _ ⟨dx, sy, _, upd_same, rfl, rfl, rfl, rfl, rfl, rfl, rfl, rfl, ?_, nms.symm, nps.symm⟩ ?_ ?_ ?_ npm.symm (s0.free kd0) (s0.free mk0) (s0.free pu0) (fun b o z => ?_)
    · rw [upd_ne ns, upd_ne ns, upd_ne nps.symm, upd_ne ns, upd_ne nms.symm, upd_ne ns, upd_same]
    · rw [upd_ne nk, upd_ne nk, upd_ne npk.symm, upd_ne nk, upd_ne nmk.symm, upd_ne nk, upd_ne nsk.symm, upd_ne nk, upd_same]
    · rw [upd_ne nm', upd_ne nm', upd_ne npm.symm, upd_ne nm', upd_same]
    · rw [upd_ne np, upd_ne np, upd_same]
    · have z1 := ne_of_none z g0
      have z2 := ne_of_none z (s0.free kd0)
      have z3 := ne_of_none z (s0.free sy0)
      have z4 := ne_of_none z (s0.free mk0)
      have z5 := ne_of_none z (s0.free pu0)
      rw [upd_ne z1, upd_ne z1, upd_ne z5, upd_ne z1, upd_ne z4, upd_ne z1, upd_ne z3, upd_ne z1, upd_ne z2, upd_ne z1, upd_ne z1, upd_ne z1, upd_ne z1]
      exact s0 b o z
theorem ok_done7 {f fg : Addr} {fd fdg : FuncData} (F : Fun K "done" "done" sDone f fd) (T : DTxt K C) (zz : mg "zip" = none) (mgv : mg "given_by" = some (.ref fg)) (kg : PySem.W.keepIn K (.ref fg) = true) (bg : Binds K fdg ["deeds", "doing"] [])
    (Gg : FnOk P w K mg base CX0 8 fg fdg ["deeds", "doing"] (spGiv2 C)) : FnOk P w K mg base CX0 9 f fd ["doing", "method", "args"] (spDone7 C) := by
  refine F.ok scDn (fun vs H Q E h => ?_) (fun cdv A outer s H vs Q E hr h => ?_)
  · obtain ⟨g, vm, va, vpl, wb, dd, nm, kd, fl, mk, pu, ds, rfl, _⟩ := h
    rfl
  · obtain ⟨g, vm, va, vpl, wb, dd, nm, kd, fl, mk, pu, ds, rfl, hm, ha, hg, hpl, hk, hmk, hpu, nmp, oks, l80, gn, k⟩ := h
    have nd := scDn.nd
    have hu := hu_of hr
    refine ⟨_, pss_cons (ps_if (pt_cmpR op_isN (pv 1) pe_non (nomark _)) (pss_one ps_never) pss_nil)
      (pss_cons (ps_for PassesOwn.never rfl (RZ.pi_zipA (by rfl) zz (pa_cons (pe_ix ix_tup (pv 1) pe_int (fun _ _ => rfl)) (pa_cons (pv 2) pa_nil))) (pg_tup rfl (pgs_cons (pg_name (i := 3) nd rfl (Or.inl rfl)) (pgs_cons (pg_name (i := 4) nd rfl (Or.inl rfl)) pgs_nil)))
        (pss_one (ps_dput hu (pe_fld (pv 0) rfl) (pv 3) (pv 4) rfl)))
      (pss_cons (ps_set (i := 5) nd rfl (Or.inl rfl) (pe_call Gg hr (by rfl) mgv kg bg .nil pass0 (pa_cons (pe_ix ix_tup (pv 1) pe_int (fun _ _ => rfl)) (pa_cons (pv 0) pa_nil))))
      (pss_one (ps_ret (pe_ifExp (pt_cmpR op_isN (pv 5) pe_non (nomark _)) (pe_tup (pa_cons pe_str (pa_cons pe_non pa_nil))) (pv 5)))))), ?_⟩
    obtain ⟨dx, sy, fs, g1, g2, g3, g4, g5, g6, g7, g8, g9, g10, g11, g12⟩ := id hg.ex
    have nkg : g ≠ kd := fun z => by
      rw [z, hk] at g1
      cases g1
    cases hm with
    | @tup mm ms _ em ml =>
    cases ml with
    | @cons u0 _ _ _ e0 ml =>
    cases ml with
    | @cons u1 _ _ _ e1 ml =>
    cases ml with
    | @cons u2 _ _ _ e2 ml =>
    cases ml
    cases e0
    cases e1 with
    | @tup pp ps _ ep pl =>
    cases pl with
    | @cons p0 _ _ _ f0 pl =>
    cases pl
    cases f0
    cases ha with
    | @tup aa xs _ ea al =>
    cases al with
    | @cons x1 _ _ _ hx1 al =>
    cases al
    have m1 : atI [V.str "go", V.ref pp, u2] 1 = some (V.ref pp) := atI_int (by decide) rfl
    have m2 : atI [V.str "go", V.ref pp, u2] 2 = some u2 := atI_int (by decide) rfl
    have notup : ∀ a ys, a = kd → H a ≠ some (.tup ys) := fun a ys z e => by
      rw [z, hk] at e
      cases e
    have nT : ∀ {a : Addr} {ys : List V}, H a = some (.tup ys) → a ≠ kd := fun {a ys} e z => notup a ys z e
    refine ⟨_, rfl, rfl, _, rfl, iteF ?_⟩
    refine ⟨_, rfl, mm, _, _, _, rfl, rfl, SqT.of em, m1, _, rfl, pp, aa, [.str "a"], [x1], rfl, .inr ⟨SqT.of ep, SqT.of ea, for_it (walk_zipT (K := K) (a := pp) (b := aa) (xs := [.str "a"]) (ys := [x1]) rfl) (fun i σ' H' => ∃ pw ww : Option V, σ' = [some (.ref g), some (.ref mm), some (.ref aa), pw, ww, none] ∧ But (· = kd) H H' ∧ H' kd = some (.dK (([(.inr "a", x1)] : List (Key × V)).take i))) ?_ ?_ ?_ ?_⟩⟩
    · exact ⟨none, none, rfl, But.refl _ _, hk⟩
    · rintro i σ' H' _ ⟨pw, ww, rfl, b, _⟩
      exact ⟨SqT.of (b _ _ (nT ep) ep), SqT.of (b _ _ (nT ea) ea)⟩
    · rintro i _ σ' H' _ hi ⟨pw, ww, rfl, b, hkd⟩ ⟨Tp, kx, vx, rfl, hT, rfl, hkx, hvx⟩
      obtain rfl : i = 0 := by
        have : i < 1 := hi
        omega
      have bT := b.new hT (o := .tup [kx, vx])
      have kT : upd H' Tp (.tup [kx, vx]) kd = some (.dK []) := by rw [upd_ne (ne_of_none hkd hT)]; exact hkd
      have tT : upd H' Tp (.tup [kx, vx]) Tp = some (.tup [kx, vx]) := upd_same
      generalize upd H' Tp (.tup [kx, vx]) = H2 at bT kT tT ⊢
      refine ⟨Tp, _, rfl, SqT.of tT, rfl, _, _, rfl, _, _, rfl, rfl, ?_⟩
      cases hkx
      cases hvx
      refine ⟨_, rfl, _, rfl, g, C, dx, _, _, rfl, bT _ _ nkg g1, T.cl, T.nKnown, g5, _, rfl, kd, _, rfl, DPut.k (k := .inr "a") kT (by show 0 < sizeLine; decide), ?_⟩
      exact ⟨_, _, rfl, bT.mut rfl, upd_same⟩
    · rintro σ' H' ⟨pw, ww, rfl, b, hkd⟩
      have tu : Tups H H' := b.tups notup
      have hkd' : H' kd = some (.dK [(.inr "a", x1)]) := hkd
      have nmk : mk ≠ kd := fun z => by rw [z, hk] at hmk; cases hmk
      have npk : pu ≠ kd := fun z => by rw [z, hk] at hpu; cases hpu
      have nsk : sy ≠ kd := fun z => by rw [z, hk] at g10; cases g10
      have st : St7 H' kd mk pu 0 s07 := by
        refine ⟨nmp, ⟨_, hkd', (by show 1 ≤ 1; decide), fun x n q => ?_⟩, ⟨[], b _ _ nmk hmk, .nil⟩, ⟨[], b _ _ npk hpu, .nil⟩, Nat.le_refl _, Nat.le_refl _, fun x n q => ?_⟩
        · have q' : (if x = "a" then some ("1#0" : Str) else none) = some n := q
          by_cases ex : x = "a"
          · subst ex
            rw [if_pos rfl] at q'
            cases q'
            exact ⟨x1, by simp [valV], hx1.mono tu⟩
          · rw [if_neg ex] at q'
            cases q'
        · have q' : (if x = "a" then some ("1#0" : Str) else none) = some n := q
          by_cases ex : x = "a"
          · rw [if_pos ex] at q'
            cases q'
            exact good10
          · rw [if_neg ex] at q'
            cases q'
      have hg' : DgA C H' g vpl nm kd fl mk pu := ⟨dx, sy, fs, b _ _ nkg g1, g2, g3, g4, g5, g6, g7, g8, g9, b _ _ nsk g10, g11, g12⟩
      have hea : s07.env "a" = some ("1#0" : Str) := (if_pos rfl : (if ("a" : Str) = "a" then some ("1#0" : Str) else none) = some ("1#0" : Str))
      refine ⟨_, rfl, mm, _, _, _, rfl, rfl, SqT.of (b _ _ (nT em) em), m2, _, rfl, u2, g, wb, dd, vpl, nm, kd, fl, mk, pu, 0, s07, ds, rfl, by rw [topD_eq]; exact e2.mono tu, hg', hpl.mono tu (b.frzs fun a o u z e => by rw [z, hk] at e; cases e), st, ⟨"1#0", hea⟩, oks, by omega, gn, fun H2 b2 st2 => ?_⟩
      rw [Nat.zero_add] at st2
      refine ⟨_, rfl, rfl, _, rfl, iteT ⟨(by show 2 ≤ sizeLine; decide), fun t ht => ?_⟩⟩
      have s3 := same_new (Same.refl H2) ht (o := .tup [.str "kept", .non])
      exact k _ _ (((b.mono fun _ z => .inl z).trans b2).trans (sameBut s3 _)) (st2.on s3) (.tup upd_same (.cons (.str _) (.cons .non .nil)))
end
end K3
namespace K3
open PySem PySem.Spec PyProof.Rows L2 GG
section
variable {P : Program} {w : World} {K : PySem.W.Frag} {mg : Str → Option Value} {base : Heap} {C D : Addr}
theorem gd10 : Gd 2 (holdN "1#0") := ⟨(by show 2 ≤ 1000; decide), fun e he => by
  simp only [List.mem_cons, List.not_mem_nil, or_false] at he
  rcases he with rfl | rfl
  · exact Gd.strI (by decide) (by decide +kernel)
  · exact Gd.strI (Nat.le_trans good10.len (by decide)) good10.ok⟩
theorem ok_act7 {f fm fi fc fd' : Addr} {fd fdm fdi fdc fdd : FuncData} (F : FunD K "act" "act" (defArgs sAct) (defBody sAct) (defScope sAct) [] [] f fd) (T : Txt mg) (DT : DTxt K C) (mF : mg "Fault" = some (.ref D))
    (mm : mg "method_of" = some (.ref fm)) (km : PySem.W.keepIn K (.ref fm) = true) (bm : Binds K fdm ["plan", "kind", "word", "many"] []) (Gm : FnOk P w K mg base CX0 2 fm fdm ["plan", "kind", "word", "many"] spMethOf7)
    (mc : mg "copied" = some (.ref fc)) (kc : PySem.W.keepIn K (.ref fc) = true) (bc : Binds K fdc ["thing"] []) (Gc : FnOk P w K mg base CX0 4 fc fdc ["thing"] (spCo 3)) (GcI : FnOk P w K mg base CX0 2 fc fdc ["thing"] spCoI)
    (mD : mg "Doing" = some (.ref C)) (M : Mk K C fi) (bi : Binds K fdi ["self", "plan", "fields", "cause", "me"] []) (Gi : FnOk P w K mg base CX0 1 fi fdi ["self", "plan", "fields", "cause", "me"] (spDI7 C))
    (md : mg "done" = some (.ref fd')) (kd' : PySem.W.keepIn K (.ref fd') = true) (bd : Binds K fdd ["doing", "method", "args"] []) (Gd' : FnOk P w K mg base CX0 9 fd' fdd ["doing", "method", "args"] (spDone7 C)) :
    FnOk P w K mg base CX0 10 f fd ["plan", "kind", "fields", "call", "me", "word", "args"] spAct7 := by
  refine funD_ok0 F scAc (fun vs H Q E h => ?_) (fun cdv A outer s H vs Q E hr h => ?_)
  · obtain ⟨f0, v, vme, va, nm, wb, dd, kvs, rfl, _⟩ := h
    rfl
  · obtain ⟨f0, v, vme, va, nm, wb, dd, kvs, rfl, hpl, hf0, hint, nod, few, ha, oks, l80, gn, k⟩ := h
    have nd := scAc.nd
    have hr2 : Room 2 _ := hr.mono (by decide)
    have hr4 : Room 4 _ := hr.mono (by decide)
    refine ⟨_, pss_cons (ps_set (i := 7) nd rfl (Or.inl rfl) (pe_call Gm hr2 (by rfl) mm km bm .nil pass0 (pa_cons (pv 0) (pa_cons (pv 1) (pa_cons (pv 5) (pa_cons (pe_callB call_len_seq (by rfl) T.len PySem.boot_len (pa_cons (pv 6) pa_nil)) pa_nil))))))
      (pss_cons (ps_set (i := 8) nd rfl (Or.inl rfl) (pe_make M Gi hr2 rfl mD bi .nil pass0 (pa_cons (pv 0) (pa_cons (pe_call GcI hr2 (by rfl) mc kc bc .nil pass0 (pa_cons (pv 2) pa_nil)) (pa_cons (pv 3) (pa_cons (pv 4) pa_nil))))))
      (pss_cons (L2N.ps_try_as (i := 10) rfl rfl nd rfl rfl ⟨rfl, by decide, .inl mF⟩ takesN0
        (fun W pn xe tk _ => pss_one (ps_set (i := 9) nd rfl (Or.inl rfl) (pe_call Gd' hr (by rfl) md kd' bd .nil pass0 (pa_cons (pv 8) (pa_cons (pv 7) (pa_cons (pe_call Gc hr4 (by rfl) mc kc bc .nil pass0 (pa_cons (pv 6) pa_nil)) pa_nil))))))
        (fun a oe cls d pn hz hf => pss_one ps_never))
      (pss_one (ps_ret (pe_tup (pa_cons (pv 9) (pa_cons (pe_fld (pv 8) rfl) (pa_cons (pe_callTy call_tuple_of (by rfl) T.tuple (by decide +kernel) (pa_cons (pe_fld (pv 8) rfl) pa_nil))
        (pa_cons (pe_callTy call_tuple_of (by rfl) T.tuple (by decide +kernel) (pa_cons (pe_fld (pv 8) rfl) pa_nil)) (pa_cons (pe_callTy call_tuple_of (by rfl) T.tuple (by decide +kernel) (pa_cons (pe_fld (pv 8) rfl) pa_nil)) (pa_cons (pe_fld (pv 8) rfl) pa_nil))))))))))), ?_⟩
    have ha0 := ha
    cases ha with
    | @tup aa xs _ ea al =>
    have la := al.length
    refine ⟨_, rfl, _, rfl, _, rfl, _, rfl, aa, xs, rfl, .inr (SqT.of ea), v, _, by rw [la]; rfl, hpl, fun vm hvm => ?_⟩
    refine ⟨_, rfl, _, rfl, f0, kvs, rfl, hf0, hint, nod, few, fun fl H1 s1 fl0 hfl => ?_⟩
    refine ⟨_, rfl, _, rfl, fun g dx hg0 hdx ndx => ?_⟩
    have s2 : Same H1 (upd (upd H1 dx (.own g)) g (.ins C dx [])) := same_new (same_new (Same.refl _) hdx) (by rw [upd_ne ndx.symm]; exact hg0)
    refine ⟨H1, g, dx, fl, v, nm, vme, rfl, s2, hg0, upd_same, fun kd mk pu H2 hdg hkd hmk hpu nmp kd0 mk0 pu0 s3 => ⟨rfl, ?_⟩⟩
    have s4 : Same H H2 := s1.trans s3
    have hfl2 := s3 _ _ hfl
    refine ⟨_, rfl, _, rfl, _, rfl, .ref aa, rfl, .inl ⟨.tuple [holdN "1#0"], ha0.mono (sameTups s4), ⟨(by show 1 ≤ 1000; decide), fun e he => ?_⟩, fun va' H3 s5 hva => ?_⟩⟩
    · rw [List.mem_singleton.mp he]
      exact gd10
    have s6 := s4.trans s5
    have nf : ∀ {a : Addr}, H1 a = none → fl ≠ a := fun {a} n z => by rw [z, n] at hfl; cases hfl
    refine ⟨g, vm, va', v, wb, dd, nm, kd, fl, mk, pu, topL wb dd, rfl, hvm.mono (sameTups s6), hva, hdg.on s5, hpl.on s6, s5 _ _ hkd, s5 _ _ hmk, s5 _ _ hpu, nmp, oks, l80, gn, fun v' H4 b st4 hv => ?_⟩
    have off : ∀ {a : Addr} {o : HO}, H a = some o → ¬ M3 kd mk pu a := fun {a o} e m => by
      rcases m with m | m | m
      · rw [m, s1.free kd0] at e; cases e
      · rw [m, s1.free mk0] at e; cases e
      · rw [m, s1.free pu0] at e; cases e
    have s7 : Same H H4 := fun a o e => b a o (off e) (s6 a o e)
    have hfl4 : H4 fl = some (.dK kvs) := b _ _ (fun m => by rcases m with m | m | m; exact nf kd0 m; exact nf mk0 m; exact nf pu0 m) (s5 _ _ hfl2)
    obtain ⟨dx3, sy, fs, q1, q2, q3, q4, q5, q6, q7, q8, q9, q10, q11, q12⟩ := (hdg.on s5).ex
    have gk : g ≠ kd := fun z => by rw [z, s5 _ _ hkd] at q1; cases q1
    have gm : g ≠ mk := fun z => by rw [z, s5 _ _ hmk] at q1; cases q1
    have gp : g ≠ pu := fun z => by rw [z, s5 _ _ hpu] at q1; cases q1
    have sk : sy ≠ kd := fun z => by rw [z, s5 _ _ hkd] at q10; cases q10
    have r1 := b _ _ (fun m => by rcases m with m | m | m; exact gk m; exact gm m; exact gp m) q1
    have r10 := b _ _ (fun m => by rcases m with m | m | m; exact sk m; exact q11 m; exact q12 m) q10
    obtain ⟨ms, hms, ams⟩ := st4.mks
    obtain ⟨ps, hps, aps⟩ := st4.pus
    refine ⟨_, rfl, _, rfl, g, C, dx3, _, _, rfl, r1, DT.cl, DT.nFields, q3, _, rfl, g, C, dx3, _, _, rfl, r1, DT.cl, DT.nSays, q6, sy, [], rfl, .inl ⟨SqL.of r10, fun l1 hl1 => ?_⟩⟩
    have t1 := same_new (Same.refl H4) hl1 (o := .tup [])
    have e1 : upd H4 l1 (.tup []) l1 = some (.tup []) := upd_same
    generalize upd H4 l1 (.tup []) = H5 at t1 e1 ⊢
    refine ⟨_, rfl, g, C, dx3, _, _, rfl, t1 _ _ r1, DT.cl, DT.nMakes, q7, mk, ms, rfl, .inl ⟨SqL.of (t1 _ _ hms), fun l2 hl2 => ?_⟩⟩
    have t2 := same_new (Same.refl H5) hl2 (o := .tup ms)
    have e2 : upd H5 l2 (.tup ms) l2 = some (.tup ms) := upd_same
    have e12 := t2 _ _ e1
    generalize upd H5 l2 (.tup ms) = H6 at t2 e2 e12 ⊢
    have t12 := t1.trans t2
    refine ⟨_, rfl, g, C, dx3, _, _, rfl, t12 _ _ r1, DT.cl, DT.nPuts, q8, pu, ps, rfl, .inl ⟨SqL.of (t12 _ _ hps), fun l3 hl3 => ?_⟩⟩
    have t3 := same_new (Same.refl H6) hl3 (o := .tup ps)
    have e3 : upd H6 l3 (.tup ps) l3 = some (.tup ps) := upd_same
    have e13 := t3 _ _ e12
    have e23 := t3 _ _ e2
    generalize upd H6 l3 (.tup ps) = H7 at t3 e3 e13 e23 ⊢
    have t13 := t12.trans t3
    refine ⟨_, rfl, g, C, dx3, _, _, rfl, t13 _ _ r1, DT.cl, DT.nGoes, q9, (by show 6 ≤ sizeLine; decide), fun t ht => ?_⟩
    have t4 := same_new (Same.refl H7) ht (o := .tup [v', .ref fl, .ref l1, .ref l2, .ref l3, .non])
    have t14 := t13.trans t4
    exact k t fl l1 l2 l3 kd v' ms ps _ (s7.trans t14) upd_same (hv.mono (sameTups t14)) (t14 _ _ hfl4) (t4 _ _ e13) (t4 _ _ e23) (ams.imp fun u r m => st4.mkB (sameBut t14 _) m) (t4 _ _ e3) (aps.imp fun u r m => st4.puB (sameBut t14 _) m)
end
end K3
namespace K3
open PySem PySem.Spec PyProof.Rows L2 GG
/-! ### law_k07, the law's side: a var's worth, a new thing's fields -/
def hereX (nm : Str) (kd fl sy mk pu : Addr) : List (Key × V) := [(.inr "me", .str "1#0"), (.inr "call", .str nm), (.inr "fields", .ref fl), (.inr "known", .ref kd), (.inr "says", .ref sy), (.inr "makes", .ref mk), (.inr "puts", .ref pu), (.inr "goes", .non), (.inr "answer", .non), (.inr "over", .bl false)]
def spLWV : Sp := fun vs H Q _ => ∃ (v : V) (h : Addr) (x : Str) (u : V) (kd : Addr) (kvs nvs : List (Key × V)), vs = [v, .ref h] ∧ Dt H v (vrD x) ∧ H h = some (.dK kvs) ∧ valV kvs (.inr "known") = some (.ref kd) ∧ H kd = some (.dK nvs) ∧ valV nvs (.inr x) = some u ∧ ∀ H', Same H H' → Q u H'
def spLNew : Sp := fun vs H Q _ => ∃ (v : V) (ds es : List PyData) (l : Addr) (us : List V), vs = [v, .str "k", .ref l] ∧ Pl7 H v ds ∧ H l = some (.lst us) ∧ DtAll H us es ∧ es.length ≤ 3 ∧
  ∀ (r : Addr) (x1 x2 x3 : V) H', Same H H' → H r = none → H' r = some (.dK (fgh x1 x2 x3)) → Dt H' x1 (fillD es 0) → Dt H' x2 (fillD es 1) → Dt H' x3 (fillD es 2) → Q (.ref r) H'
abbrev sLNew : Stmt := top 59
abbrev nLN : List Str := ["_law_book", "_law_breed", "_law_bits", "_law_slots", "_law_found", "_law_one", "_law_k"]
theorem scLN : FnScope nLN ["_law_book", "_law_breed", "_law_bits"] (defScope sLNew) := ⟨rfl, rfl, rfl, by decide +kernel, rfl, by decide +kernel, by decide +kernel⟩
abbrev fghS : List Str := ["f", "g", "h"]
theorem zipK_more : ∀ (ks : List Str) {us : List V} {i : Nat} {z : Str} {u : V}, ks[i]? = some z → us[i]? = some u → zipK ks (us.take (i + 1)) = zipK ks (us.take i) ++ [(.inr z, u)]
  | [], _, _, _, _, e, _ => by simp at e
  | k :: ks, [], i, z, u, _, e => by simp at e
  | k :: ks, v :: us, 0, z, u, e1, e2 => by
    cases e1
    cases e2
    cases ks <;> simp [zipK]
  | k :: ks, v :: us, i + 1, z, u, e1, e2 => by
    show (_ :: zipK ks (us.take (i + 1))) = _ :: (zipK ks (us.take i) ++ _)
    rw [zipK_more ks (i := i) e1 e2]
theorem paired_more {α β : Type} {F : α → β → Prop} {a : α} {b : β} (h : F a b) : ∀ {l₁ : List α} {l₂ : List β}, Paired F l₁ l₂ → Paired F (l₁ ++ [a]) (l₂ ++ [b])
  | _, _, .nil => .cons h .nil
  | _, _, .cons g t => .cons g (paired_more h t)
section
variable {P : Program} {w : World} {K : PySem.W.Frag} {mg : Str → Option Value} {base : Heap}
theorem ok_lwV {f : Addr} {fd : FuncData} (F : Fun K "_law_worth" "_law_worth" sLW f fd) (T : Txt mg) : FnOk P w K mg base CX0 1 f fd ["_law_told", "_law_here"] spLWV := by
  refine F.ok scLW (fun vs H Q E h => ?_) (fun cdv A outer s H vs Q E hr h => ?_)
  · obtain ⟨v, h, x, u, kd, kvs, nvs, rfl, _⟩ := h
    rfl
  · obtain ⟨v, h, x, u, kd, kvs, nvs, rfl, hd, hh, hk, hkd, hx, k⟩ := h
    have nd := scLW.nd
    have hu := hu_of hr
    refine ⟨_, pss_cons (ps_set (i := 2) nd rfl (Or.inl rfl) (pe_ix ix_tup (pv 0) pe_int (fun _ _ => rfl)))
      (pss_cons (ps_if (PW.pt (pw_or (pt_cmpR op_eq (pv 2) pe_str (nomark _)) (pw_or1 (pt_cmpR op_eq (pv 2) pe_str (nomark _))))) (pss_one ps_never) pss_nil)
      (pss_cons (ps_if (pt_cmpR op_in_seq (pv 2) (pe_tup (pa_cons pe_str (pa_cons pe_str pa_nil))) rfl) (pss_one (ps_ret (pe_dget hu (pe_dget hu (pv 1) (pe_ix ix_list (pe_lst (pa_cons pe_str (pa_cons pe_str pa_nil)))
          (pe_callTy call_int1 (by rfl) T.int (by decide +kernel) (pa_cons (pe_cmpR op_eq (pv 2) pe_str (nomark _)) pa_nil)) (fun _ _ => rfl)) (fun _ _ => rfl)) (pe_ix ix_tup (pv 0) pe_int (fun _ _ => rfl)) (fun _ _ => rfl)))) pss_nil)
      (pss_cons ps_never (pss_cons ps_never (pss_cons ps_never (pss_cons ps_never (pss_cons ps_never (pss_cons ps_never (pss_cons ps_never (pss_cons ps_never (pss_cons ps_never (pss_cons ps_never (pss_cons ps_never (pss_one ps_never)))))))))))))), ?_⟩
    have no : ∀ {a b : Str} {A B : Prop}, a ≠ b → B → (if decide (V.str a = V.str b) = true then A else B) := fun {a b A B} ne q => by
      rw [decide_eq_false fun z => ne (by cases z; rfl)]
      exact iteF q
    have vr : inV (.str "var") [.str "var", .str "own"] = true := by decide +kernel
    cases hd with
    | @tup a xs _ e al =>
    cases al with
    | @cons u0 _ _ _ e0 al =>
    cases al with
    | @cons u1 _ _ _ e1 al =>
    cases al
    cases e0
    cases e1
    have a0 : atI [V.str "var", V.str x] 0 = some (V.str "var") := atI_int (by decide) rfl
    have a1 : atI [V.str "var", V.str x] 1 = some (V.str x) := atI_int (by decide) rfl
    refine ⟨_, rfl, a, _, _, _, rfl, rfl, SqT.of e, a0, ?_⟩
    refine ⟨_, rfl, rfl, _, rfl, no (by decide) ⟨_, rfl, rfl, _, rfl, no (by decide) ?_⟩⟩
    refine ⟨_, rfl, (by show 2 ≤ sizeLine; decide), fun tp htp => ?_⟩
    have s1 := same_new (Same.refl H) htp (o := .tup [.str "var", .str "own"])
    have b1 : upd H tp (.tup [.str "var", .str "own"]) tp = some (.tup [.str "var", .str "own"]) := upd_same
    generalize upd H tp (.tup [.str "var", .str "own"]) = H1 at s1 b1 ⊢
    refine ⟨tp, _, rfl, .inr (SqT.of b1), rfl, rfl, _, rfl, ?_⟩
    show if inV (.str "var") [.str "var", .str "own"] = true then _ else _
    rw [vr]
    refine iteT ⟨_, rfl, (by show 2 ≤ sizeLine; decide), fun l hl => ?_⟩
    have s2 := same_new s1 hl (o := .lst [.str "fields", .str "known"])
    have b2 : upd H1 l (.lst [.str "fields", .str "known"]) l = some (.lst [.str "fields", .str "known"]) := upd_same
    generalize upd H1 l (.lst [.str "fields", .str "known"]) = H2 at s2 b2 ⊢
    refine ⟨_, rfl, rfl, .inr ⟨_, rfl, l, _, _, V.str "known", rfl, rfl, SqL.of b2, (by rw [decide_eq_true rfl]; exact atI_int (by decide) rfl), h, _, rfl, dget_str (s2 _ _ hh) hk, ?_⟩⟩
    exact ⟨_, rfl, a, _, _, _, rfl, rfl, SqT.of (s2 _ _ e), a1, kd, _, rfl, dget_str (s2 _ _ hkd) hx, k H2 s2⟩
theorem ok_lnew {f : Addr} {fd : FuncData} (F : Fun K "_law_new" "_law_new" sLNew f fd) (T : Txt mg) : FnOk P w K mg base CX0 1 f fd ["_law_book", "_law_breed", "_law_bits"] spLNew := by
  refine F.ok scLN (fun vs H Q E h => ?_) (fun cdv A outer s H vs Q E hr h => ?_)
  · obtain ⟨v, ds, es, l, us, rfl, _⟩ := h
    rfl
  · obtain ⟨v, ds, es, l, us, rfl, hpl, hl, hus, h3, k⟩ := h
    have nd := scLN.nd
    refine ⟨_, pss_cons (ps_set (i := 3) nd rfl (Or.inr rfl) (pe_ix ix_tup (pe_ix ix_list (pe_lc (own := [("_law_one", 5)]) (g := gName 5) rfl nd (pi_tup (pv 0)) (blkOk_by (N := nLN) (sc := defScope sLNew) (by decide +kernel)) (fun _ _ _ _ _ => pg_name (i := 5) nd rfl (Or.inl rfl))
            (fun _ _ _ _ _ => pts_one (pt_cmpR op_eq (pe_ix (r := rIxT K) ix_tup (pv 5) pe_int (fun _ _ => rfl)) (pv 1) (nomark _))) (fun _ _ _ _ _ => pv 5)) pe_int (fun _ _ => rfl)) pe_int (fun _ _ => rfl)))
      (pss_cons (ps_set (i := 4) nd rfl (Or.inl rfl) (pe_callTy (call_dictF rfl) (by rfl) T.dict (by decide +kernel) (pa_cons (pv 3) pa_nil)))
      (pss_cons (ps_expr (pe_bm PySem.F.plainAttrs_dict PySem.F.slot_dict_update PySem.F.type_dict_update mt_update (pv 4) (pa_cons (pe_callTy (call_dictP rfl) (by rfl) T.dict (by decide +kernel) (pa_cons
          (pe_lc (own := [("_law_k", 6)]) (g := gName 6) (tt := tYes) rfl nd (pi_range1 (by rfl) T.range (pa_cons (pe_callB call_len_seq (by rfl) T.len PySem.boot_len (pa_cons (pv 2) pa_nil)) pa_nil))
              (blkOk_by (N := nLN) (sc := defScope sLNew) (by decide +kernel)) (fun _ _ _ _ _ => pg_name (i := 6) nd rfl (Or.inl rfl)) (fun _ _ _ _ _ => pts_nil)
              (fun _ _ _ _ _ => pe_tup (pa_cons (pe_ix (r := rIxT K) ix_tup (pe_ix (r := rIxT K) ix_tup (pv 3) (pv 6) (fun _ _ => rfl)) pe_int (fun _ _ => rfl)) (pa_cons (pe_ix (r := rIxL K) ix_list (pv 2) (pv 6) (fun _ _ => rfl)) pa_nil)))) pa_nil)) pa_nil)))
      (pss_one (ps_ret (pv 4))))), ?_⟩
    obtain ⟨bk, kn, rfl, ebk, b, u, m, rfl, eb, ⟨c, ob, zs, rfl, ec, nod, cl⟩, em⟩ := hpl
    have lu := hus.length
    have c0 : atI [V.str "k", V.ref c, m] 0 = some (V.str "k") := atI_int (by decide) rfl
    have c1 : atI [V.str "k", V.ref c, m] 1 = some (V.ref c) := atI_int (by decide) rfl
    have d0 : atI [V.ref b] 0 = some (V.ref b) := atI_int (by decide) rfl
    cases cl with
    | @cons p0 _ _ _ g0 cl =>
    cases cl with
    | @cons p1 _ _ _ g1 cl =>
    cases cl with
    | @cons p2 _ _ _ g2 cl =>
    cases cl
    cases g0 with
    | @tup b0 _ _ h0 l0 =>
    cases l0 with
    | cons q0 l0 =>
    cases q0
    cases l0 with
    | cons q0 l0 =>
    cases q0
    cases l0
    cases g1 with
    | @tup b1 _ _ h1 l1 =>
    cases l1 with
    | cons q1 l1 =>
    cases q1
    cases l1 with
    | @cons y1 _ _ _ q1 l1 =>
    cases l1
    cases g2 with
    | @tup b2 _ _ h2 l2 =>
    cases l2 with
    | cons q2 l2 =>
    cases q2
    cases l2 with
    | cons q2 l2 =>
    cases q2
    cases l2
    refine ⟨_, rfl, bk, rfl, ⟨_, SqT.of ebk⟩, fun D hD => ?_⟩
    refine lc_tup (K := K) (a := bk) (xs := [V.ref b]) (fun i H' => H' D = some (.lst ([V.ref b].take i)) ∧ Same H H') ?_ ?_ ?_ ?_
    · exact ⟨upd_same, same_new (Same.refl _) hD⟩
    · rintro i H' _ ⟨_, s'⟩
      exact SqT.of (s' _ _ ebk)
    · rintro i y H' hi ⟨hDl, s'⟩
      obtain rfl : i = 0 := by
        have : i < 1 := (List.getElem?_eq_some_iff.mp hi).1
        omega
      cases hi
      refine ⟨rfl, _, rfl, b, _, _, _, rfl, rfl, SqT.of (s' _ _ eb), c0, _, rfl, rfl, _, rfl, ?_⟩
      exact yesS ⟨_, rfl, _, hDl, small1000 (Nat.zero_le _), upd_same, same_mut s' hD⟩
    · rintro H1 ⟨hDl, s1⟩
      refine ⟨D, _, _, V.ref b, rfl, rfl, SqL.of hDl, d0, b, _, _, _, rfl, rfl, SqT.of (s1 _ _ eb), c1, ?_⟩
      refine ⟨_, rfl, c, ob, [b0, b1, b2], [(.inr "f", .int 1), (.inr "g", y1), (.inr "h", .non)], rfl, s1 _ _ ec, nod, .cons (SqT.of (s1 _ _ h0)) (.cons (SqT.of (s1 _ _ h1)) (.cons (SqT.of (s1 _ _ h2)) .nil)), fun r hr' => ?_⟩
      rw [show mergeK ([] : List (Key × V)) [(.inr "f", .int 1), (.inr "g", y1), (.inr "h", .non)] = fgh (.int 1) y1 .non from rfl]
      have s2 := same_new (Same.refl H1) hr' (o := .dK (fgh (.int 1) y1 .non))
      have e2 : upd H1 r (.dK (fgh (.int 1) y1 .non)) r = some (.dK (fgh (.int 1) y1 .non)) := upd_same
      have r0 : H r = none := s1.free hr'
      generalize upd H1 r (.dK (fgh (.int 1) y1 .non)) = H2 at s2 e2 ⊢
      have s12 := s1.trans s2
      refine ⟨_, rfl, .inr (.inr (.inl ⟨rfl, .inl ⟨_, e2⟩⟩)), _, rfl, l, us, rfl, .inl (SqL.of (s12 _ _ hl)), _, rfl, (by omega), (by omega), fun D2 hD2 => ?_⟩
      refine lc_range (lo := 0) (n := us.length) (fun i H' => Same H2 H' ∧ ∃ ps : List Addr, ps.length = i ∧ H' D2 = some (.lst (ps.map V.ref)) ∧ Paired (fun p (kv : Key × V) => H' p = some (.tup [kV kv.1, kv.2])) ps (zipK fghS (us.take i))) ?_ ?_ ?_
      · exact ⟨same_new (Same.refl _) hD2, [], rfl, upd_same, .nil⟩
      · rintro i H' hi ⟨s', ps, lp, hDl2, pr⟩
        have s3 := s12.trans s'
        obtain ⟨z, bz, rest, z1, z2, z3⟩ : ∃ (z : Str) (bz : Addr) (rest : List V), fghS[i]? = some z ∧ [V.ref b0, V.ref b1, V.ref b2][i]? = some (V.ref bz) ∧ H' bz = some (.tup (.str z :: rest)) := by
          match i, (show i < 3 by omega) with
          | 0, _ => exact ⟨"f", b0, _, rfl, rfl, s3 _ _ h0⟩
          | 1, _ => exact ⟨"g", b1, _, rfl, rfl, s3 _ _ h1⟩
          | 2, _ => exact ⟨"h", b2, _, rfl, rfl, s3 _ _ h2⟩
        have ui : us[i]? = some us[i] := List.getElem?_eq_getElem hi
        have w0 : atI (V.str z :: rest) 0 = some (V.str z) := atI_int (by decide) rfl
        refine ⟨rfl, _, rfl, _, rfl, c, _, _, _, rfl, rfl, sqF (s3 _ _ ec), (by rw [Int.zero_add]; exact atI_nat z2), bz, _, _, _, rfl, rfl, SqT.of z3, w0, _, rfl, _, rfl, l, _, _, us[i], rfl, rfl, SqL.of (s3 _ _ hl), (by rw [Int.zero_add]; exact atI_nat ui), (by show 2 ≤ sizeLine; decide), fun p hp => ?_⟩
        have nDp : D2 ≠ p := ne_of_none hDl2 hp
        have dD : H2 D2 = none := hD2
        have keep : ∀ (q : Addr) (kv : Key × V), H' q = some (.tup [kV kv.1, kv.2]) → upd (upd H' p (.tup [.str z, us[i]])) D2 (.lst (ps.map V.ref ++ [.ref p])) q = some (.tup [kV kv.1, kv.2]) := fun q kv e => by
          rw [upd_ne (fun z => by rw [z, hDl2] at e; cases e), upd_ne (ne_of_none e hp)]
          exact e
        refine ⟨ps.map V.ref, by rw [upd_ne nDp]; exact hDl2, small1000 (by rw [List.length_map]; omega), same_mut (same_new s' hp) dD, ps ++ [p], by simp [lp], by rw [upd_same, List.map_append]; rfl, ?_⟩
        rw [zipK_more fghS z1 ui]
        refine paired_more ?_ (L2.Paired.mapP pr keep)
        show upd (upd H' p (.tup [.str z, us[i]])) D2 (.lst (ps.map V.ref ++ [.ref p])) p = some (.tup [.str z, us[i]])
        rw [upd_ne nDp.symm, upd_same]
      · rintro H3 ⟨s3, ps, lp, hDl2, pr⟩
        rw [List.take_length] at pr
        refine ⟨D2, ps, zipK fghS us, rfl, SqL.of hDl2, L2.Paired.mapP pr (fun p kv e => SqT.of e), fun fi hfi => ?_⟩
        have s4 := same_new s3 hfi (o := .dK (mergeK [] (zipK fghS us)))
        have e4 : upd H3 fi (.dK (mergeK [] (zipK fghS us))) fi = some (.dK (mergeK [] (zipK fghS us))) := upd_same
        generalize upd H3 fi (.dK (mergeK [] (zipK fghS us))) = H4 at s4 e4 ⊢
        have r4 := s4 _ _ e2
        have s14 := s12.trans s4
        have nrf : r ≠ fi := ne_of_none (s3 _ _ e2) hfi
        have hus4 := hus.mono (sameTups s14)
        have hy4 := q1.mono (sameTups s14)
        obtain ⟨zs, y1', y2', y3', ez, em, lz, d1, d2, d3⟩ : ∃ (zs : List (Key × V)) (y1' y2' y3' : V), mergeK [] (zipK fghS us) = zs ∧ mergeK (fgh (.int 1) y1 .non) zs = fgh y1' y2' y3' ∧ zs.length ≤ 3 ∧ Dt H4 y1' (fillD es 0) ∧ Dt H4 y2' (fillD es 1) ∧ Dt H4 y3' (fillD es 2) := by
          cases hus4 with
          | nil => exact ⟨[], _, _, _, rfl, rfl, (by decide), .int 1, hy4, .non⟩
          | @cons z1 _ _ _ k1 hus4 =>
          cases hus4 with
          | nil => exact ⟨[(.inr "f", z1)], _, _, _, rfl, rfl, (by simp), k1, hy4, .non⟩
          | @cons z2 _ _ _ k2 hus4 =>
          cases hus4 with
          | nil => exact ⟨[(.inr "f", z1), (.inr "g", z2)], _, _, _, rfl, rfl, (by simp), k1, k2, .non⟩
          | @cons z3 _ _ _ k3 hus4 =>
          cases hus4 with
          | nil => exact ⟨[(.inr "f", z1), (.inr "g", z2), (.inr "h", z3)], _, _, _, rfl, rfl, (by simp), k1, k2, k3⟩
          | cons _ _ =>
            simp only [List.length_cons] at h3
            omega
        rw [ez] at e4
        refine ⟨r, fi, _, zs, rfl, rfl, nrf, r4, e4, Nat.le_of_lt (small1000 (by show 3 + zs.length ≤ 1000; omega)), ?_⟩
        rw [em]
        have sQ : Same H (upd H4 r (.dK (fgh y1' y2' y3'))) := same_mut s14 r0
        have t4 : Tups H4 (upd H4 r (.dK (fgh y1' y2' y3'))) := (Tups.refl _).mut r4 (by intro _ z; cases z)
        exact ⟨_, rfl, k r y1' y2' y3' _ sQ r0 upd_same (d1.mono t4) (d2.mono t4) (d3.mono t4)⟩
end
end K3
namespace K3
open PySem PySem.Spec PyProof.Rows L2 GG
/-! ### law_k07, the law's side: what a deed does -/
def spEff7 : Sp := fun vs H Q _ => ∃ (vb : V) (t l h : Addr) (us : List V) (d : Dd) (nm : Str) (kd fl sy mk pu : Addr) (i : Nat) (s : Sm) (ds : List PyData), vs = [vb, .ref t, .ref l, .ref h] ∧ Pl7 H vb ds ∧ Dt H (.ref t) (ddD d) ∧ H l = some (.lst us) ∧ DtAll H us ((ddV d).map fun y => holdN (s.of y)) ∧
  H h = some (.dK (hereX nm kd fl sy mk pu)) ∧ h ≠ kd ∧ St7 H kd mk pu i s ∧ OkDd s d ∧ i < 90 ∧ GoodNm nm ∧ ∀ H', But (M3 kd mk pu) H H' → St7 H' kd mk pu (i + 1) (stepD nm s d) → Q .non H'
section
variable {P : Program} {w : World} {K : PySem.W.Frag} {mg : Str → Option Value} {base : Heap}
theorem ok_eff7 {f fn : Addr} {fd fdn : FuncData} (F : Fun K "_law_effect" "_law_effect" sEff f fd) (T : Txt mg) (zs : mg "str" = none) (mn : mg "_law_new" = some (.ref fn)) (kn : PySem.W.keepIn K (.ref fn) = true) (bn : Binds K fdn ["_law_book", "_law_breed", "_law_bits"] [])
    (Gn : FnOk P w K mg base CX0 1 fn fdn ["_law_book", "_law_breed", "_law_bits"] spLNew) : FnOk P w K mg base CX0 2 f fd ["_law_book", "_law_task", "_law_some", "_law_here"] spEff7 := by
  refine F.ok scEf (fun vs H Q E h => ?_) (fun cdv A outer s0 H vs Q E hr h => ?_)
  · obtain ⟨vb, t, l, h, us, d, nm, kd, fl, sy, mk, pu, i, s, ds, rfl, _⟩ := h
    rfl
  · obtain ⟨vb, t, l, h, us, d, nm, kd, fl, sy, mk, pu, i, s, ds, rfl, hpl, ht, hl, hus, hh, nhk, st, okd, hi, gn, k⟩ := h
    have nd := scEf.nd
    have hu := hu_of hr
    refine ⟨_, pss_cons (ps_par (i := 4) (j := 5) rfl nd rfl rfl (by decide) rfl rfl (pa_cons (pe_ix ix_tup (pv 1) pe_int (fun _ _ => rfl)) (pa_cons (pe_op op_add_str (pe_op op_add_str (pe_dget hu (pv 3) pe_str (fun _ _ => rfl)) pe_str)
          (pe_callTy call_str_int (by rfl) zs (by decide +kernel) (pa_cons (pe_callB call_len_seq (by rfl) T.len PySem.boot_len (pa_cons (pe_dget hu (pv 3) pe_str (fun _ _ => rfl)) pa_nil)) pa_nil))) pa_nil)) (by rfl))
      (pss_one (ps_if (pt_cmpR op_eq (pv 4) pe_str (nomark _)) (pss_one ps_never)
        (pss_one (ps_if (pt_cmpR op_eq (pv 4) pe_str (nomark _)) (pss_one ps_never)
        (pss_one (ps_if (pt_cmpR op_eq (pv 4) pe_str (nomark _)) (pss_one ps_never)
        (pss_one (ps_if (pt_cmpR op_eq (pv 4) pe_str (nomark _)) (pss_one ps_never)
        (pss_one (ps_if (pt_cmpR op_eq (pv 4) pe_str (nomark _))
          (pss_cons (ps_set (i := 6) nd rfl (.inl rfl) (pe_op op_add_str (pe_op op_add_str (pe_dget hu (pv 3) pe_str (fun _ _ => rfl)) pe_str)
            (pe_callTy call_str_int (by rfl) zs (by decide +kernel) (pa_cons (pe_callB call_len_seq (by rfl) T.len PySem.boot_len (pa_cons (pe_dget hu (pv 3) pe_str (fun _ _ => rfl)) pa_nil)) pa_nil))))
          (pss_cons (ps_expr (pe_bm PySem.F.plainAttrs_list PySem.F.slot_list_append PySem.F.type_list_append mt_append (pe_dget hu (pv 3) pe_str (fun _ _ => rfl)) (pa_cons (pe_tup (pa_cons (pv 6) (pa_cons (pe_ix ix_tup (pv 1) pe_int (fun _ _ => rfl))
            (pa_cons (pe_call Gn hr (by rfl) mn kn bn .nil pass0 (pa_cons (pv 0) (pa_cons (pe_ix ix_tup (pv 1) pe_int (fun _ _ => rfl)) (pa_cons (pv 2) pa_nil)))) pa_nil)))) pa_nil)))
          (pss_one (ps_dput hu (pe_dget hu (pv 3) pe_str (fun _ _ => rfl)) (pe_ix ix_tup (pv 1) pe_int (fun _ _ => rfl)) (pe_tup (pa_cons pe_str (pa_cons (pv 6) pa_nil))) rfl))))
          (pss_one (ps_if (pt_cmpR op_eq (pv 4) pe_str (nomark _))
            (pss_cons (ps_expr (pe_bm PySem.F.plainAttrs_list PySem.F.slot_list_append PySem.F.type_list_append mt_append (pe_dget hu (pv 3) pe_str (fun _ _ => rfl)) (pa_cons (pe_tup (pa_cons (pv 5) (pa_cons (pe_ix ix_tup (pe_ix ix_list (pv 2) pe_int (fun _ _ => rfl)) pe_int (fun _ _ => rfl))
              (pa_cons (pe_ix ix_tup (pv 1) pe_int (fun _ _ => rfl)) (pa_cons (pe_callTy call_tuple_of (by rfl) T.tuple (by decide +kernel) (pa_cons (pe_slice sl_list (pv 2) (po_some pe_int) po_none) pa_nil)) (pa_cons pe_bl pa_nil)))))) pa_nil)))
            (pss_one (ps_dput hu (pe_dget hu (pv 3) pe_str (fun _ _ => rfl)) (pe_ix ix_tup (pv 1) pe_int (fun _ _ => rfl)) (pe_tup (pa_cons pe_str (pa_cons (pv 5) pa_nil))) rfl)))
            (pss_one (ps_expr (pe_bm PySem.F.plainAttrs_list PySem.F.slot_list_append PySem.F.type_list_append mt_append (pe_dget hu (pv 3) pe_str (fun _ _ => rfl)) (pa_cons (pe_tup (pa_cons (pv 5) (pa_cons (pe_ix ix_list (pv 2) pe_int (fun _ _ => rfl))
              (pa_cons (pe_ix ix_tup (pv 1) pe_int (fun _ _ => rfl)) (pa_cons (pe_callTy call_tuple_of (by rfl) T.tuple (by decide +kernel) (pa_cons (pe_slice sl_list (pv 2) (po_some pe_int) po_none) pa_nil)) (pa_cons pe_bl pa_nil)))))) pa_nil)))))))))))))))), ?_⟩
    have no : ∀ {a b : Str} {A B : Prop}, a ≠ b → B → (if decide (V.str a = V.str b) = true then A else B) := fun {a b A B} ne h => by
      rw [decide_eq_false fun q => ne (by cases q; rfl)]
      exact iteF h
    obtain ⟨kvs, k1, k2, k3⟩ := st.kn
    obtain ⟨ms, m1, m2⟩ := st.mks
    obtain ⟨ps, p1, p2⟩ := st.pus
    have lp := st.lp
    have lm := st.lm
    have llm := m2.length
    have llp := p2.length
    have glP := (gn s.pus.length (by omega)).2
    have glM := (gn s.mks.length (by omega)).1
    have lenP : (nm ++ ("." : Str)).length + Str.length ((toString (s.pus.length : Int) : String) : Str) ≤ 400 := by
      have q := glP.len
      unfold nmS at q
      rw [strLen_append] at q
      exact q
    have lenM : (nm ++ ("#" : Str)).length + Str.length ((toString (s.mks.length : Int) : String) : Str) ≤ 400 := by
      have q := glM.len
      unfold nmS at q
      rw [strLen_append] at q
      exact q
    have lenN : nm.length + Str.length ("." : Str) ≤ 400 := by
      rw [strLen_append] at lenP
      omega
    have lenN2 : nm.length + Str.length ("#" : Str) ≤ 400 := by
      rw [strLen_append] at lenM
      omega
    have big : ∀ {n : Nat}, n ≤ 400 → n ≤ sizeLine := fun q => Nat.le_of_lt (small1000 (by omega))
    obtain ⟨rest, et⟩ : ∃ rest, H t = some (.tup (.str (ddW d) :: rest)) := by
      cases d with
      | wh x xs =>
        cases ht with
        | tup e al =>
        cases al with
        | cons c0 al =>
        cases c0
        exact ⟨_, e⟩
      | ca v x xs =>
        cases ht with
        | tup e al =>
        cases al with
        | cons c0 al =>
        cases c0
        exact ⟨_, e⟩
      | mk v xs =>
        cases ht with
        | tup e al =>
        cases al with
        | cons c0 al =>
        cases c0
        exact ⟨_, e⟩
    have a0 : atI (V.str (ddW d) :: rest) 0 = some (V.str (ddW d)) := atI_int (by decide) rfl
    refine ⟨_, rfl, t, _, _, _, rfl, rfl, SqT.of et, a0, ?_⟩
    refine ⟨_, rfl, h, _, rfl, dget_str hh rfl, _, _, rfl, rfl, big lenN, ?_⟩
    refine ⟨_, rfl, h, _, rfl, dget_str hh rfl, pu, ps, rfl, .inl (SqL.of p1), _, rfl, log_small (by omega), _, _, rfl, rfl, (by rw [llp]; exact big lenP), _, _, rfl, ?_⟩
    rw [llp, show (nm ++ ("." : Str)) ++ ((toString (s.pus.length : Int) : String) : Str) = nmS nm "." s.pus.length from rfl]
    have hoff : ¬ M3 kd mk pu h := st.off hh (fun _ z => nomatch z) nhk
    cases d with
    | wh x xs =>
      have hx4 : xs.length + 1 ≤ 4 := okd.2.1
      cases ht with
      | @tup _ ys _ e al =>
      cases al with
      | @cons w0 _ _ _ e0 al =>
      cases al with
      | @cons w1 _ _ _ e1 al =>
      cases al with
      | @cons w2 _ _ _ e2 al =>
      cases al with
      | @cons w3 _ _ _ e3 al =>
      cases al
      cases e0
      cases e2
      have a2 : atI [V.str "when", w1, V.str "go", w3] 2 = some (V.str "go") := atI_int (by decide) rfl
      cases hus with
      | @cons u0 us' _ _ g0 g =>
      have c0 : atI (u0 :: us') 0 = some u0 := atI_int (by decide) rfl
      refine ⟨_, rfl, rfl, _, rfl, no (by show ("when" : Str) ≠ "let"; decide) ⟨_, rfl, rfl, _, rfl, no (by show ("when" : Str) ≠ "set"; decide) ⟨_, rfl, rfl, _, rfl, no (by show ("when" : Str) ≠ "say"; decide) ⟨_, rfl, rfl, _, rfl, no (by show ("when" : Str) ≠ "give"; decide)
        ⟨_, rfl, rfl, _, rfl, no (by show ("when" : Str) ≠ "make"; decide) ⟨_, rfl, rfl, _, rfl, no (by show ("when" : Str) ≠ "call"; decide) ?_⟩⟩⟩⟩⟩⟩
      refine ⟨_, rfl, h, _, rfl, dget_str hh rfl, .inl ⟨rfl, _, SqL.of p1⟩, _, rfl, _, rfl, l, _, _, u0, rfl, rfl, SqL.of hl, c0, _, rfl, t, _, _, _, rfl, rfl, SqT.of e, a2, _, rfl, _, rfl, l, _, rfl, SqL.of hl, fun p hp => ?_⟩
      rw [show cutV (u0 :: us') (some 1) none = us' from cutV_drop (k := 1)]
      have s1 := same_new (Same.refl H) hp (o := .lst us')
      have f1 : upd H p (.lst us') p = some (.lst us') := upd_same
      generalize upd H p (.lst us') = H1 at s1 f1 ⊢
      refine ⟨p, us', rfl, .inl ⟨SqL.of f1, fun q hq => ?_⟩⟩
      have s2 := same_new s1 hq (o := .tup us')
      have f2 : upd H1 q (.tup us') q = some (.tup us') := upd_same
      generalize upd H1 q (.tup us') = H2 at s2 f2 ⊢
      refine ⟨(by show 5 ≤ sizeLine; decide), fun r hr' => ?_⟩
      have s3 := same_new s2 hr' (o := .tup [.str (nmS nm "." s.pus.length), u0, .str "go", .ref q, .bl true])
      have s3' := same_new (Same.refl H2) hr' (o := .tup [.str (nmS nm "." s.pus.length), u0, .str "go", .ref q, .bl true])
      have p3 := s3 _ _ p1
      refine ⟨pu, _, _, rfl, rfl, p3, small1000 (by rw [llp]; omega), ?_⟩
      have pa : PuAt (upd H2 r (.tup [.str (nmS nm "." s.pus.length), u0, .str "go", .ref q, .bl true])) (.ref r) ⟨nmS nm "." s.pus.length, holdN (s.of x), xs.map fun y => holdN (s.of y), true⟩ :=
        ⟨r, u0, .ref q, rfl, upd_same, g0.mono (sameTups s3), .tup (s3' _ _ f2) (g.mono (sameTups s3))⟩
      exact k _ ((sameBut s3 _).mut (.inr (.inr rfl))) ((st.on s3).put p3 pa)
    | ca v x xs =>
      have hx4 : xs.length + 1 ≤ 4 := okd.2.1
      cases ht with
      | @tup _ ys _ e al =>
      cases al with
      | @cons w0 _ _ _ e0 al =>
      cases al with
      | @cons w1 _ _ _ e1 al =>
      cases al with
      | @cons w2 _ _ _ e2 al =>
      cases al with
      | @cons w3 _ _ _ e3 al =>
      cases al with
      | @cons w4 _ _ _ e4 al =>
      cases al
      cases e0
      cases e1
      cases e3
      have a1 : atI [V.str "call", V.str v, w2, V.str "go", w4] 1 = some (V.str v) := atI_int (by decide) rfl
      have a3 : atI [V.str "call", V.str v, w2, V.str "go", w4] 3 = some (V.str "go") := atI_int (by decide) rfl
      cases hus with
      | @cons u0 us' _ _ g0 g =>
      have c0 : atI (u0 :: us') 0 = some u0 := atI_int (by decide) rfl
      obtain ⟨z, rfl⟩ := g0.ref_of
      obtain ⟨zz, ez, dz⟩ := g0.tupI
      cases dz with
      | @cons y0 _ _ _ j0 dz =>
      cases dz with
      | @cons y1 _ _ _ j1 dz =>
      cases dz
      cases j1
      have b1 : atI [y0, V.str (s.of x)] 1 = some (V.str (s.of x)) := atI_int (by decide) rfl
      refine ⟨_, rfl, rfl, _, rfl, no (by show ("call" : Str) ≠ "let"; decide) ⟨_, rfl, rfl, _, rfl, no (by show ("call" : Str) ≠ "set"; decide) ⟨_, rfl, rfl, _, rfl, no (by show ("call" : Str) ≠ "say"; decide) ⟨_, rfl, rfl, _, rfl, no (by show ("call" : Str) ≠ "give"; decide)
        ⟨_, rfl, rfl, _, rfl, no (by show ("call" : Str) ≠ "make"; decide) ⟨_, rfl, rfl, _, rfl, yesS ?_⟩⟩⟩⟩⟩⟩
      refine ⟨_, rfl, h, _, rfl, dget_str hh rfl, .inl ⟨rfl, _, SqL.of p1⟩, _, rfl, _, rfl, l, _, _, _, rfl, rfl, SqL.of hl, c0, z, _, _, _, rfl, rfl, SqT.of ez, b1, _, rfl, t, _, _, _, rfl, rfl, SqT.of e, a3, _, rfl, _, rfl, l, _, rfl, SqL.of hl, fun p hp => ?_⟩
      rw [show cutV (.ref z :: us') (some 1) none = us' from cutV_drop (k := 1)]
      have s1 := same_new (Same.refl H) hp (o := .lst us')
      have f1 : upd H p (.lst us') p = some (.lst us') := upd_same
      generalize upd H p (.lst us') = H1 at s1 f1 ⊢
      refine ⟨p, us', rfl, .inl ⟨SqL.of f1, fun q hq => ?_⟩⟩
      have s2 := same_new s1 hq (o := .tup us')
      have f2 : upd H1 q (.tup us') q = some (.tup us') := upd_same
      generalize upd H1 q (.tup us') = H2 at s2 f2 ⊢
      refine ⟨(by show 5 ≤ sizeLine; decide), fun r hr' => ?_⟩
      have s3 := same_new s2 hr' (o := .tup [.str (nmS nm "." s.pus.length), .str (s.of x), .str "go", .ref q, .bl false])
      have s3' := same_new (Same.refl H2) hr' (o := .tup [.str (nmS nm "." s.pus.length), .str (s.of x), .str "go", .ref q, .bl false])
      have p3 := s3 _ _ p1
      refine ⟨pu, _, _, rfl, rfl, p3, small1000 (by rw [llp]; omega), ?_⟩
      have pa : PuAt (upd H2 r (.tup [.str (nmS nm "." s.pus.length), .str (s.of x), .str "go", .ref q, .bl false])) (.ref r) ⟨nmS nm "." s.pus.length, .str (s.of x), xs.map fun y => holdN (s.of y), false⟩ :=
        ⟨r, .str (s.of x), .ref q, rfl, upd_same, .str _, .tup (s3' _ _ f2) (g.mono (sameTups s3))⟩
      have st3 := (st.on s3).put p3 pa
      have b3 : But (M3 kd mk pu) H (upd (upd H2 r (.tup [.str (nmS nm "." s.pus.length), .str (s.of x), .str "go", .ref q, .bl false])) pu (.lst (ps ++ [.ref r]))) := (sameBut s3 _).mut (.inr (.inr rfl))
      have nk : kd ≠ pu := fun z => by rw [z, p1] at k1; cases k1
      have k4 : (upd (upd H2 r (.tup [.str (nmS nm "." s.pus.length), .str (s.of x), .str "go", .ref q, .bl false])) pu (.lst (ps ++ [.ref r]))) kd = some (.dK kvs) := by rw [upd_ne nk]; exact s3 _ _ k1
      generalize upd (upd H2 r (.tup [.str (nmS nm "." s.pus.length), .str (s.of x), .str "go", .ref q, .bl false])) pu (.lst (ps ++ [.ref r])) = H4 at st3 b3 k4 ⊢
      have h4 := b3 _ _ hoff hh
      have t4 := st.tups b3 _ _ e
      refine ⟨_, rfl, (by show 2 ≤ sizeLine; decide), fun r2 hr2 => ?_⟩
      have s5 := same_new (Same.refl H4) hr2 (o := .tup [.str "to", .str (nmS nm "." s.pus.length)])
      have st5 := st3.on s5
      have k5 := s5 _ _ k4
      have hold5 : Dt (upd H4 r2 (.tup [.str "to", .str (nmS nm "." s.pus.length)])) (.ref r2) (holdN (nmS nm "." s.pus.length)) := .tup upd_same (.cons (.str _) (.cons (.str _) .nil))
      refine ⟨_, rfl, h, _, rfl, dget_str (s5 _ _ h4) rfl, _, rfl, t, _, _, _, rfl, rfl, SqT.of (s5 _ _ t4), a1, kd, _, rfl, DPut.k (k := .inr v) k5 (small1000 (by omega)), ?_⟩
      exact k _ ((b3.trans (sameBut s5 _)).mut (.inl rfl)) (st5.know k5 (by omega) hold5 glP)
    | mk v xs =>
      have hx3 : xs.length ≤ 3 := okd.2.2
      cases ht with
      | @tup _ ys _ e al =>
      cases al with
      | @cons w0 _ _ _ e0 al =>
      cases al with
      | @cons w1 _ _ _ e1 al =>
      cases al with
      | @cons w2 _ _ _ e2 al =>
      cases al with
      | @cons w3 _ _ _ e3 al =>
      cases al
      cases e0
      cases e1
      cases e2
      have a1 : atI [V.str "make", V.str v, V.str "k", w3] 1 = some (V.str v) := atI_int (by decide) rfl
      have a2 : atI [V.str "make", V.str v, V.str "k", w3] 2 = some (V.str "k") := atI_int (by decide) rfl
      refine ⟨_, rfl, rfl, _, rfl, no (by show ("make" : Str) ≠ "let"; decide) ⟨_, rfl, rfl, _, rfl, no (by show ("make" : Str) ≠ "set"; decide) ⟨_, rfl, rfl, _, rfl, no (by show ("make" : Str) ≠ "say"; decide) ⟨_, rfl, rfl, _, rfl, no (by show ("make" : Str) ≠ "give"; decide)
        ⟨_, rfl, rfl, _, rfl, yesS ?_⟩⟩⟩⟩⟩
      refine ⟨_, rfl, h, _, rfl, dget_str hh rfl, _, _, rfl, rfl, big lenN2, ?_⟩
      refine ⟨_, rfl, h, _, rfl, dget_str hh rfl, mk, ms, rfl, .inl (SqL.of m1), _, rfl, log_small (by omega), _, _, rfl, rfl, (by rw [llm]; exact big lenM), ?_⟩
      rw [llm, show (nm ++ ("#" : Str)) ++ ((toString (s.mks.length : Int) : String) : Str) = nmS nm "#" s.mks.length from rfl]
      refine ⟨_, rfl, h, _, rfl, dget_str hh rfl, .inl ⟨rfl, _, SqL.of m1⟩, _, rfl, _, rfl, t, _, _, _, rfl, rfl, SqT.of e, a2, _, rfl, _, rfl, t, _, _, _, rfl, rfl, SqT.of e, a2, _, rfl, vb, ds, _, l, us, rfl, hpl, hl, hus, (by show (xs.map _).length ≤ 3; rw [List.length_map]; exact hx3), fun r x1 x2 x3 H1 s1 r0 hr1 d1 d2 d3 => ?_⟩
      refine ⟨(by show 3 ≤ sizeLine; decide), fun q hq => ?_⟩
      have s3 := same_new (Same.refl H1) hq (o := .tup [.str (nmS nm "#" s.mks.length), .str "k", .ref r])
      have s13 := s1.trans s3
      have p3 := s13 _ _ m1
      have nrk : r ≠ kd := (ne_of_none k1 r0).symm
      refine ⟨mk, _, _, rfl, rfl, p3, small1000 (by rw [llm]; omega), ?_⟩
      have ma : MkAt kd (upd H1 q (.tup [.str (nmS nm "#" s.mks.length), .str "k", .ref r])) (.ref q) (nmS nm "#" s.mks.length, [fillD (xs.map fun y => holdN (s.of y)) 0, fillD (xs.map fun y => holdN (s.of y)) 1, fillD (xs.map fun y => holdN (s.of y)) 2]) :=
        ⟨q, r, x1, x2, x3, _, _, _, rfl, upd_same, s3 _ _ hr1, nrk, rfl, d1.mono (sameTups s3), d2.mono (sameTups s3), d3.mono (sameTups s3)⟩
      have st3 := (st.on s13).made p3 ma
      have b3 : But (M3 kd mk pu) H (upd (upd H1 q (.tup [.str (nmS nm "#" s.mks.length), .str "k", .ref r])) mk (.lst (ms ++ [.ref q]))) := (sameBut s13 _).mut (.inr (.inl rfl))
      have nk : kd ≠ mk := fun z => by rw [z, m1] at k1; cases k1
      have k4 : (upd (upd H1 q (.tup [.str (nmS nm "#" s.mks.length), .str "k", .ref r])) mk (.lst (ms ++ [.ref q]))) kd = some (.dK kvs) := by rw [upd_ne nk]; exact s13 _ _ k1
      generalize upd (upd H1 q (.tup [.str (nmS nm "#" s.mks.length), .str "k", .ref r])) mk (.lst (ms ++ [.ref q])) = H4 at st3 b3 k4 ⊢
      have h4 := b3 _ _ hoff hh
      have t4 := st.tups b3 _ _ e
      refine ⟨_, rfl, (by show 2 ≤ sizeLine; decide), fun r2 hr2 => ?_⟩
      have s5 := same_new (Same.refl H4) hr2 (o := .tup [.str "to", .str (nmS nm "#" s.mks.length)])
      have st5 := st3.on s5
      have k5 := s5 _ _ k4
      have hold5 : Dt (upd H4 r2 (.tup [.str "to", .str (nmS nm "#" s.mks.length)])) (.ref r2) (holdN (nmS nm "#" s.mks.length)) := .tup upd_same (.cons (.str _) (.cons (.str _) .nil))
      refine ⟨_, rfl, h, _, rfl, dget_str (s5 _ _ h4) rfl, _, rfl, t, _, _, _, rfl, rfl, SqT.of (s5 _ _ t4), a1, kd, _, rfl, DPut.k (k := .inr v) k5 (small1000 (by omega)), ?_⟩
      exact k _ ((b3.trans (sameBut s5 _)).mut (.inl rfl)) (st5.know k5 (by omega) hold5 glM)
end
end K3
namespace K3
open PySem PySem.Spec PyProof.Rows L2 GG
/-! ### law_k07, the law's side: one deed -/
def ddX : Dd → List Str
  | .wh x _ => [x]
  | .ca _ x _ => [x]
  | .mk _ _ => []
def ddY : Dd → List Str
  | .wh _ xs => xs
  | .ca _ _ xs => xs
  | .mk _ xs => xs
theorem ddV_eq (d : Dd) : ddV d = ddX d ++ ddY d := by cases d <;> rfl
theorem dd_head {H : Hp} {t : Addr} {d : Dd} (h : Dt H (.ref t) (ddD d)) : ∃ rest, H t = some (.tup (.str (ddW d) :: rest)) := by
  cases d with
  | wh x xs =>
    obtain ⟨us, e, al⟩ := Dt.tupI h
    cases al with
    | cons c0 al =>
    cases c0
    exact ⟨_, e⟩
  | ca v x xs =>
    obtain ⟨us, e, al⟩ := Dt.tupI h
    cases al with
    | cons c0 al =>
    cases c0
    exact ⟨_, e⟩
  | mk v xs =>
    obtain ⟨us, e, al⟩ := Dt.tupI h
    cases al with
    | cons c0 al =>
    cases c0
    exact ⟨_, e⟩
theorem catA_any {K : PySem.W.Frag} {H : Hp} {Q : VK} {p q : Addr} {A B : List V} (hp : H p = some (.tup A)) (hq : H q = some (.tup B)) (len : A.length + B.length ≤ sizeLine) (h : ∀ (c : Addr) H', Same H H' → H' c = some (.tup (A ++ B)) → Q (.ref c) H') : rCatA K (.ref p) (.ref q) H Q := by
  refine ⟨p, q, A, B, rfl, rfl, SqT.of hp, SqT.of hq, len, fun e => ?_, fun _ e => ?_, fun _ _ r hr => ?_⟩
  · subst e
    exact h q H (Same.refl _) hq
  · subst e
    exact h p H (Same.refl _) (by rw [List.append_nil]; exact hp)
  · exact h r _ (same_new (Same.refl _) hr) upd_same
theorem gdN {n : Str} (g : GoodN n) : Gd 2 (holdN n) := ⟨(by show 2 ≤ 1000; decide), fun e he => by
  simp only [List.mem_cons, List.not_mem_nil, or_false] at he
  rcases he with rfl | rfl
  · exact Gd.strI (by decide) (by decide +kernel)
  · exact Gd.strI (Nat.le_trans g.len (by decide)) g.ok⟩
def spOne7 : Sp := fun vs H Q _ => ∃ (vb : V) (t h : Addr) (d : Dd) (nm : Str) (kd fl sy mk pu : Addr) (i : Nat) (s : Sm) (ds : List PyData), vs = [vb, .ref t, .ref h] ∧ Pl7 H vb ds ∧ Dt H (.ref t) (ddD d) ∧ H h = some (.dK (hereX nm kd fl sy mk pu)) ∧ h ≠ kd ∧ St7 H kd mk pu i s ∧ OkDd s d ∧ i < 90 ∧ GoodNm nm ∧
  ∀ H', But (M3 kd mk pu) H H' → St7 H' kd mk pu (i + 1) (stepD nm s d) → Q .non H'
section
variable {P : Program} {w : World} {K : PySem.W.Frag} {mg : Str → Option Value} {base : Heap}
theorem ok_one7 {f fw fi fe : Addr} {fd fdw fdi fde : FuncData} (F : Fun K "_law_do_one" "_law_do_one" sOne f fd) (T : Txt mg) (mw : mg "_law_worth" = some (.ref fw)) (kw : PySem.W.keepIn K (.ref fw) = true) (bw : Binds K fdw ["_law_told", "_law_here"] []) (Gw : FnOk P w K mg base CX0 1 fw fdw ["_law_told", "_law_here"] spLWV)
    (mi : mg "_law_is_hold" = some (.ref fi)) (ki : PySem.W.keepIn K (.ref fi) = true) (bi : Binds K fdi ["_law_worth_here"] []) (Gi : FnOk P w K mg base CX0 1 fi fdi ["_law_worth_here"] spLIs)
    (me : mg "_law_effect" = some (.ref fe)) (ke : PySem.W.keepIn K (.ref fe) = true) (be : Binds K fde ["_law_book", "_law_task", "_law_some", "_law_here"] []) (Ge : FnOk P w K mg base CX0 2 fe fde ["_law_book", "_law_task", "_law_some", "_law_here"] spEff7) :
    FnOk P w K mg base CX0 3 f fd ["_law_book", "_law_task", "_law_here"] spOne7 := by
  refine F.ok scOn (fun vs H Q E h => ?_) (fun cdv A outer s0 H vs Q E hr h => ?_)
  · obtain ⟨vb, t, h, d, nm, kd, fl, sy, mk, pu, i, s, ds, rfl, _⟩ := h
    rfl
  · obtain ⟨vb, t, h, d, nm, kd, fl, sy, mk, pu, i, s, ds, rfl, hpl, ht, hh, nhk, st, okd, hi, gn, k⟩ := h
    have nd := scOn.nd
    have hr1 : Room 1 _ := hr.mono (by decide)
    have hu65 := (show A.units + 3 + 65 < cLine by have := hr.un; have z : (A.deeper (envOfC "_law_do_one" (defScope sOne) s0.heap.objs.size f cdv)).units = A.units + 3 := rfl; omega)
    refine ⟨_, pss_cons (ps_set (i := 3) nd rfl (Or.inl rfl) (pe_ix ix_tup (pv 1) pe_int (fun _ _ => rfl)))
      (pss_cons (ps_if (pt_cmpR op_eq (pv 3) pe_str (nomark _)) (pss_one ps_never) pss_nil)
      (pss_cons (ps_if (pt_cmpR op_eq (pv 3) pe_str (nomark _)) (pss_cons ps_never (pss_one ps_never)) pss_nil)
      (pss_cons (ps_if (pt_cmpR op_eq (pv 3) pe_str (nomark _)) (pss_cons ps_never (pss_cons ps_never (pss_one ps_never))) pss_nil)
      (C8.pss_cut (ps_set (i := 5) nd rfl (Or.inl rfl) (pe_ifExp (pt_cmpR op_in_seq (pv 3) (pe_tup (pa_cons pe_str (pa_cons pe_str (pa_cons pe_str pa_nil)))) rfl) (pe_slice sl_tup (pv 1) (po_some pe_int) (po_some pe_int))
        (pe_op op_rep01 (pe_slice sl_tup (pv 1) (po_some pe_int) (po_some pe_int)) (pe_callTy call_int1 (by rfl) T.int (by decide +kernel) (pa_cons (pe_cmpR op_ne (pv 3) pe_str (nomark _)) pa_nil)))))
      (C8.pss_cut (ps_set (i := 6) nd rfl (Or.inl rfl) (pe_ifExp (pt_cmpR op_in_seq (pv 3) (pe_tup (pa_cons pe_str (pa_cons pe_str (pa_cons pe_str pa_nil)))) rfl) (pe_ix ix_tup (pv 1) (pe_un un_neg pe_int) (fun _ _ => rfl)) (pe_tup pa_nil)))
      (pss_cons (ps_setLc (i := 7) (own := [("_law_one", 8)]) (g := gName 8) (tt := tYes) rfl nd rfl rfl (sw_true rfl rfl rfl (by decide +kernel)) (pi_tup (pe_op op_catA (pv 5) (pv 6)))
        (blkOk_by (N := ["_law_book", "_law_task", "_law_here", "_law_term", "_law_worth_here", "_law_told", "_law_more", "_law_some", "_law_one"]) (sc := defScope sOne) (by decide +kernel)) (fun _ _ _ _ _ => pg_name (i := 8) nd rfl (Or.inl rfl)) (fun _ _ _ _ _ => pts_nil)
        (fun _ _ _ _ _ => pe_call Gw hr1 (by rfl) mw kw bw .nil pass0 (pa_cons (pv 8) (pa_cons (pv 2) pa_nil))))
      (pss_cons (ps_if (PW.pt (pw_or (pt_cmpR (op_inD hu65) (pe_lst pa_nil) (pv 7) rfl) (pw_or1 (PW.pt (pw_and (pt_cmpR op_eq (pv 3) pe_str (nomark _)) (pw_and1 (pt_not (pt_val (pe_call Gi hr1 (by rfl) mi ki bi .nil pass0 (pa_cons (pe_ix ix_list (pv 7) pe_int (fun _ _ => rfl)) pa_nil)))))))))) (pss_one (ps_ret pe_str)) pss_nil)
      (pss_cons (ps_expr (pe_call Ge hr (by rfl) me ke be .nil pass0 (pa_cons (pv 0) (pa_cons (pv 1) (pa_cons (pv 7) (pa_cons (pv 2) pa_nil))))))
      (pss_one (ps_ret pe_non)))))))))), ?_⟩
    have no : ∀ {a b : Str} {A B : Prop}, a ≠ b → B → (if decide (V.str a = V.str b) = true then A else B) := fun {a b A B} ne h => by
      rw [decide_eq_false fun q => ne (by cases q; rfl)]
      exact iteF h
    obtain ⟨rest, et⟩ := dd_head ht
    have a0 : atI (V.str (ddW d) :: rest) 0 = some (V.str (ddW d)) := atI_int (by decide) rfl
    have hW : ddW d = "when" ∨ ddW d = "call" ∨ ddW d = "make" := by
      cases d with
      | wh => exact .inl rfl
      | ca => exact .inr (.inl rfl)
      | mk => exact .inr (.inr rfl)
    have w3 : ∀ z ∈ (["fail", "move", "if"] : List Str), ddW d ≠ z := by rcases hW with e | e | e <;> rw [e] <;> decide
    have iv2 : inV (.str (ddW d)) [.str "make", .str "call", .str "when"] = true := by rcases hW with e | e | e <;> rw [e] <;> decide +kernel
    obtain ⟨kvs, k1, k2, k3⟩ := st.kn
    refine ⟨_, rfl, t, _, _, _, rfl, rfl, SqT.of et, a0, ?_⟩
    refine ⟨_, rfl, rfl, _, rfl, no (w3 _ (by simp)) ⟨_, rfl, rfl, _, rfl, no (w3 _ (by simp)) ⟨_, rfl, rfl, _, rfl, no (w3 _ (by simp)) ?_⟩⟩⟩
    refine ⟨fun σ' H' => ∃ (p : Addr) (A : List V), σ' = [some vb, some (.ref t), some (.ref h), some (.str (ddW d)), none, some (.ref p), none, none, none] ∧ Same H H' ∧ H' p = some (.tup A) ∧ DtAll H' A ((ddX d).map vrD), ?_, ?_⟩
    · refine ⟨_, rfl, (by show 3 ≤ sizeLine; decide), fun tp htp => ?_⟩
      have s1 := same_new (Same.refl H) htp (o := .tup [.str "let", .str "set", .str "call"])
      have b1 : upd H tp (.tup [.str "let", .str "set", .str "call"]) tp = some (.tup [.str "let", .str "set", .str "call"]) := upd_same
      generalize upd H tp (.tup [.str "let", .str "set", .str "call"]) = H1 at s1 b1 ⊢
      refine ⟨tp, _, rfl, .inr (SqT.of b1), rfl, rfl, _, rfl, ?_⟩
      have ht1 := ht.mono (sameTups s1)
      obtain ⟨us, e, al⟩ : ∃ us, H1 t = some (.tup us) ∧ Dt H1 (.ref t) (ddD d) := ⟨_, s1 _ _ et, ht1⟩
      show if inV (.str (ddW d)) [.str "let", .str "set", .str "call"] = true then _ else _
      cases d with
      | wh x xs =>
        rw [show inV (.str (ddW (.wh x xs))) [.str "let", .str "set", .str "call"] = false by show inV (.str "when") _ = false; decide +kernel]
        obtain ⟨us, e, al⟩ := Dt.tupI al
        cases al with
        | @cons u0 _ _ _ e0 al =>
        cases al with
        | @cons u1 _ _ _ e1 al =>
        cases al with
        | @cons u2 _ _ _ e2 al =>
        cases al with
        | @cons u3 _ _ _ e3 al =>
        cases al
        refine iteF ⟨_, rfl, _, rfl, _, rfl, t, _, rfl, SqT.of e, (fun z => absurd z.1 (by show ¬ HT.sIx 4 0 (some 1) = 0; decide)), fun p hp => ?_⟩
        rw [show cutV [u0, u1, u2, u3] (some 1) (some 2) = [u1] from rfl]
        refine ⟨_, rfl, rfl, .inr ⟨_, rfl, .inl ⟨p, [u1], rfl, (by show V.int (if (!decide (V.str "when" = V.str "make")) = true then 1 else 0) = V.int 1; decide +kernel), SqT.of upd_same, ?_⟩⟩⟩
        exact ⟨p, [u1], rfl, same_new s1 hp, upd_same, .cons (e1.mono (sameTups (same_new (Same.refl _) hp))) .nil⟩
      | ca v x xs =>
        rw [show inV (.str (ddW (.ca v x xs))) [.str "let", .str "set", .str "call"] = true by show inV (.str "call") _ = true; decide +kernel]
        obtain ⟨us, e, al⟩ := Dt.tupI al
        cases al with
        | @cons u0 _ _ _ e0 al =>
        cases al with
        | @cons u1 _ _ _ e1 al =>
        cases al with
        | @cons u2 _ _ _ e2 al =>
        cases al with
        | @cons u3 _ _ _ e3 al =>
        cases al with
        | @cons u4 _ _ _ e4 al =>
        cases al
        refine iteT ⟨_, rfl, _, rfl, _, rfl, t, _, rfl, SqT.of e, (fun z => absurd z.1 (by show ¬ HT.sIx 5 0 (some 2) = 0; decide)), fun p hp => ?_⟩
        rw [show cutV [u0, u1, u2, u3, u4] (some 2) (some 3) = [u2] from rfl]
        exact ⟨p, [u2], rfl, same_new s1 hp, upd_same, .cons (e2.mono (sameTups (same_new (Same.refl _) hp))) .nil⟩
      | mk v xs =>
        rw [show inV (.str (ddW (.mk v xs))) [.str "let", .str "set", .str "call"] = false by show inV (.str "make") _ = false; decide +kernel]
        obtain ⟨us, e, al⟩ := Dt.tupI al
        cases al with
        | @cons u0 _ _ _ e0 al =>
        cases al with
        | @cons u1 _ _ _ e1 al =>
        cases al with
        | @cons u2 _ _ _ e2 al =>
        cases al with
        | @cons u3 _ _ _ e3 al =>
        cases al
        refine iteF ⟨_, rfl, _, rfl, _, rfl, t, _, rfl, SqT.of e, (fun z => absurd z.1 (by show ¬ HT.sIx 4 0 (some 1) = 0; decide)), fun p hp => ?_⟩
        rw [show cutV [u0, u1, u2, u3] (some 1) (some 2) = [u1] from rfl]
        refine ⟨_, rfl, rfl, .inr ⟨_, rfl, .inr ⟨p, [u1], rfl, (by show V.int (if (!decide (V.str "make" = V.str "make")) = true then 1 else 0) = V.int 0; decide +kernel), SqT.of upd_same, (fun z => nomatch z), fun q hq => ?_⟩⟩⟩
        exact ⟨q, [], rfl, same_new (same_new s1 hp) hq, upd_same, .nil⟩
    rintro σ1 H1 ⟨p, A, rfl, s1, hp, hA⟩
    refine ⟨fun σ' H' => ∃ (q : Addr) (B : List V), σ' = [some vb, some (.ref t), some (.ref h), some (.str (ddW d)), none, some (.ref p), some (.ref q), none, none] ∧ Same H1 H' ∧ H' q = some (.tup B) ∧ DtAll H' B ((ddY d).map vrD), ?_, ?_⟩
    · refine ⟨_, rfl, (by show 3 ≤ sizeLine; decide), fun tp htp => ?_⟩
      have s2 := same_new (Same.refl H1) htp (o := .tup [.str "make", .str "call", .str "when"])
      have b2 : upd H1 tp (.tup [.str "make", .str "call", .str "when"]) tp = some (.tup [.str "make", .str "call", .str "when"]) := upd_same
      generalize upd H1 tp (.tup [.str "make", .str "call", .str "when"]) = H2 at s2 b2 ⊢
      refine ⟨tp, _, rfl, .inr (SqT.of b2), rfl, rfl, _, rfl, ?_⟩
      show if inV (.str (ddW d)) [.str "make", .str "call", .str "when"] = true then _ else _
      rw [iv2]
      have ht2 := ht.mono (sameTups (s1.trans s2))
      obtain ⟨us, ul, e, eu, hul⟩ : ∃ (us : List V) (ul : V), H2 t = some (.tup us) ∧ atI us (-1) = some ul ∧ Dt H2 ul (.tuple ((ddY d).map vrD)) := by
        cases d with
        | wh x xs =>
          obtain ⟨us, e, al⟩ := Dt.tupI ht2
          cases al with
          | @cons u0 _ _ _ e0 al =>
          cases al with
          | @cons u1 _ _ _ e1 al =>
          cases al with
          | @cons u2 _ _ _ e2 al =>
          cases al with
          | @cons u3 _ _ _ e3 al =>
          cases al
          exact ⟨_, u3, e, rfl, e3⟩
        | ca v x xs =>
          obtain ⟨us, e, al⟩ := Dt.tupI ht2
          cases al with
          | @cons u0 _ _ _ e0 al =>
          cases al with
          | @cons u1 _ _ _ e1 al =>
          cases al with
          | @cons u2 _ _ _ e2 al =>
          cases al with
          | @cons u3 _ _ _ e3 al =>
          cases al with
          | @cons u4 _ _ _ e4 al =>
          cases al
          exact ⟨_, u4, e, rfl, e4⟩
        | mk v xs =>
          obtain ⟨us, e, al⟩ := Dt.tupI ht2
          cases al with
          | @cons u0 _ _ _ e0 al =>
          cases al with
          | @cons u1 _ _ _ e1 al =>
          cases al with
          | @cons u2 _ _ _ e2 al =>
          cases al with
          | @cons u3 _ _ _ e3 al =>
          cases al
          exact ⟨_, u3, e, rfl, e3⟩
      obtain ⟨q, rfl⟩ := hul.ref_of
      obtain ⟨B, eq, hB⟩ := hul.tupI
      exact iteT ⟨_, rfl, _, rfl, t, _, _, _, rfl, rfl, SqT.of e, eu, q, B, rfl, s2, eq, hB⟩
    rintro σ2 H2 ⟨q, B, rfl, s2, hq, hB⟩
    have lA := hA.length
    have lB := hB.length
    have l4 := okd.2.1
    rw [ddV_eq, List.length_append] at l4
    rw [List.length_map] at lA lB
    have hA2 := hA.mono (sameTups s2)
    refine ⟨_, rfl, _, rfl, catA_any (s2 _ _ hp) hq (Nat.le_of_lt (small1000 (by omega))) fun c H3 s3 hc => ?_⟩
    have hC : DtAll H3 (A ++ B) ((ddV d).map vrD) := by
      rw [ddV_eq, List.map_append]
      exact (hA2.app hB).mono (sameTups s3)
    have s13 := (s1.trans s2).trans s3
    generalize A ++ B = C at hc hC
    have lC := hC.length
    rw [List.length_map] at lC
    refine ⟨c, rfl, ⟨_, SqT.of hc⟩, fun D hD => ?_⟩
    refine lc_tup (K := K) (a := c) (xs := C) (fun j H' => Same H3 H' ∧ ∃ vs, H' D = some (.lst vs) ∧ vs.length = j ∧ DtAll H' vs (((ddV d).take j).map fun y => holdN (s.of y))) ?_ ?_ ?_ ?_
    · exact ⟨same_new (Same.refl _) hD, [], upd_same, rfl, .nil⟩
    · rintro j H' _ ⟨s', _⟩
      exact SqT.of (s' _ _ hc)
    · rintro j u H' hj ⟨s', vs, hDl, lv, hvs⟩
      obtain ⟨d', hd', hu'⟩ := hC.get j u hj
      rw [List.getElem?_map] at hd'
      obtain ⟨x, hx, rfl⟩ := Option.map_eq_some_iff.mp hd'
      obtain ⟨n, hn⟩ := okd.1 x (List.mem_of_getElem? hx)
      obtain ⟨z, z1, z2⟩ := k3 x n hn
      have s4 := s13.trans s'
      refine ⟨rfl, _, rfl, _, rfl, u, h, x, z, kd, _, kvs, rfl, hu'.mono (sameTups s'), s4 _ _ hh, rfl, s4 _ _ k1, z1, fun H4 s5 => ?_⟩
      have jl : j < (ddV d).length := (List.getElem?_eq_some_iff.mp hx).1
      have l4' := okd.2.1
      refine ⟨vs, s5 _ _ hDl, small1000 (by omega), same_mut (s'.trans s5) hD, vs ++ [z], upd_same, by simp [lv], ?_⟩
      have tm : Tups H4 (upd H4 D (.lst (vs ++ [z]))) := (Tups.refl _).mut (s5 _ _ hDl) (by intro _ z; cases z)
      rw [List.take_add_one, hx, List.map_append]
      refine ((hvs.mono (sameTups s5)).app (.cons ?_ .nil)).mono tm
      show Dt H4 z (holdN (s.of x))
      rw [Sm.of_some hn]
      exact z2.mono (sameTups (s4.trans s5))
    · rintro H4 ⟨s4, vs, hDl, lv, hvs⟩
      rw [lC, List.take_length] at hvs
      have s14 := s13.trans s4
      refine ⟨Nat.zero_le _, fun l hl => ?_⟩
      have s5 := s14.trans (same_new (Same.refl H4) hl (o := .lst []))
      have b5 : upd H4 l (.lst []) l = some (.lst []) := upd_same
      have d5 : upd H4 l (.lst []) D = some (.lst vs) := by rw [upd_ne (ne_of_none hDl hl)]; exact hDl
      have v5 := hvs.mono (sameTups (same_new (Same.refl H4) hl (o := .lst [])))
      generalize upd H4 l (.lst []) = H5 at s5 b5 d5 v5 ⊢
      have ga : ∀ y ∈ ddV d, GoodN (s.of y) := fun y hy => by
        obtain ⟨n, hn⟩ := okd.1 y hy
        rw [Sm.of_some hn]
        exact st.gd y n hn
      have okg : ∀ q' ∈ ((ddV d).map fun y => some (holdN (s.of y))), ∀ d', q' = some d' → Gd 12 d' := fun q' hq d' e => by
        obtain ⟨y, hy, rfl⟩ := List.mem_map.mp hq
        cases e
        exact (gdN (ga y hy)).mono (by decide)
      have eqm : ((ddV d).map fun y => some (holdN (s.of y))).map resD = (ddV d).map fun y => holdN (s.of y) := by
        rw [List.map_map]
        rfl
      have shp := shaped_res okg
      have an := any_none okg
      rw [eqm] at shp an
      rw [show noneB ((ddV d).map fun y => some (holdN (s.of y))) = false by simp [noneB]] at an
      refine ⟨_, rfl, .list [], _, .lst (SqL.of b5) .nil, .lst (SqL.of d5) v5.dp, by decide +kernel, shp, _, rfl, ?_⟩
      rw [an]
      refine iteF ⟨_, rfl, rfl, _, rfl, ?_⟩
      by_cases ec : ddW d = "call"
      · rw [ec]
        cases hv : ddV d with
        | nil =>
          cases d with
          | wh => cases hv
          | ca => cases hv
          | mk => cases (show ("make" : Str) = "call" from ec)
        | cons x ys =>
          have v5' := v5
          rw [hv] at v5
          cases v5 with
          | @cons u0 us' _ _ g0 g =>
          have c0 : atI (u0 :: us') 0 = some u0 := atI_int (by decide) rfl
          have gx := ga x (by rw [hv]; exact List.mem_cons_self ..)
          refine yesS ⟨_, rfl, D, _, _, u0, rfl, rfl, SqL.of d5, c0, u0, holdN (s.of x), 2, rfl, g0, gdN gx, by decide, ?_⟩
          rw [gx.hL]
          refine ⟨_, rfl, iteF ?_⟩
          exact ⟨_, rfl, _, rfl, _, rfl, _, rfl, vb, t, D, h, _, d, nm, kd, fl, sy, mk, pu, i, s, ds, rfl, hpl.on s5, ht.mono (sameTups s5), d5, v5', s5 _ _ hh, nhk, st.on s5, okd, hi, gn, fun H6 b st6 => k H6 ((sameBut s5 _).trans b) st6⟩
      · refine no ec ?_
        exact ⟨_, rfl, _, rfl, _, rfl, _, rfl, vb, t, D, h, vs, d, nm, kd, fl, sy, mk, pu, i, s, ds, rfl, hpl.on s5, ht.mono (sameTups s5), d5, v5, s5 _ _ hh, nhk, st.on s5, okd, hi, gn, fun H6 b st6 => k H6 ((sameBut s5 _).trans b) st6⟩
end
end K3
namespace K3
open PySem PySem.Spec PyProof.Rows L2 GG
/-! ### law_k07, the law's side: deeds one behind the other, and within an if -/
def spLDo7 : Sp := fun vs H Q _ => ∃ (vb v : V) (h : Addr) (dd : List Dd) (nm : Str) (kd fl sy mk pu : Addr) (i : Nat) (s : Sm) (ds : List PyData), vs = [vb, v, .ref h] ∧ Pl7 H vb ds ∧ Dt H v (.tuple (dd.map ddD)) ∧ H h = some (.dK (hereX nm kd fl sy mk pu)) ∧ h ≠ kd ∧ St7 H kd mk pu i s ∧ OkAll nm s dd ∧ i + dd.length ≤ 90 ∧ GoodNm nm ∧
  ∀ H', But (M3 kd mk pu) H H' → St7 H' kd mk pu (i + dd.length) (runD nm s dd) → Q .non H'
def spIf7 : Sp := fun vs H Q _ => ∃ (vb : V) (t h : Addr) (dd : List Dd) (nm : Str) (kd fl sy mk pu : Addr) (i : Nat) (s : Sm) (ds : List PyData), vs = [vb, .ref t, .ref h] ∧ Pl7 H vb ds ∧ Dt H (.ref t) (.tuple [.str "if", vrD "a", .tuple (dd.map ddD), .tuple []]) ∧ H h = some (.dK (hereX nm kd fl sy mk pu)) ∧ h ≠ kd ∧ St7 H kd mk pu i s ∧ (∃ n, s.env "a" = some n) ∧ OkAll nm s dd ∧ i + dd.length ≤ 90 ∧ GoodNm nm ∧
  ∀ H', But (M3 kd mk pu) H H' → St7 H' kd mk pu (i + dd.length) (runD nm s dd) → Q .non H'
def spTop7 : Sp := fun vs H Q _ => ∃ (vb v : V) (h : Addr) (wb : Bool) (dd : List Dd) (nm : Str) (kd fl sy mk pu : Addr) (i : Nat) (s : Sm) (ds : List PyData), vs = [vb, v, .ref h] ∧ Pl7 H vb ds ∧ Dt H v (topD wb dd) ∧ H h = some (.dK (hereX nm kd fl sy mk pu)) ∧ h ≠ kd ∧ St7 H kd mk pu i s ∧ (∃ n, s.env "a" = some n) ∧ OkAll nm s dd ∧ i + dd.length ≤ 90 ∧ GoodNm nm ∧
  ∀ H', But (M3 kd mk pu) H H' → St7 H' kd mk pu (i + dd.length) (runD nm s dd) → Q .non H'
theorem St7.hoff {H : Hp} {kd mk pu : Addr} {i : Nat} {s : Sm} (st : St7 H kd mk pu i s) {h : Addr} {kvs : List (Key × V)} (hh : H h = some (.dK kvs)) (n : h ≠ kd) : ¬ M3 kd mk pu h := st.off hh (fun _ z => nomatch z) n
section
variable {P : Program} {w : World} {K : PySem.W.Frag} {mg : Str → Option Value} {base : Heap}
theorem ok_do7 {f fo : Addr} {fd fdo : FuncData} (F : Fun K "_law_do" "_law_do" sDo f fd) (mo : mg "_law_do_one" = some (.ref fo)) (ko : PySem.W.keepIn K (.ref fo) = true) (bo : Binds K fdo ["_law_book", "_law_task", "_law_here"] []) (Go : FnOk P w K mg base CX0 3 fo fdo ["_law_book", "_law_task", "_law_here"] spOne7) :
    FnOk P w K mg base CX0 4 f fd ["_law_book", "_law_deeds", "_law_here"] spLDo7 := by
  refine F.ok scDo (fun vs H Q E h => ?_) (fun cdv A outer s0 H vs Q E hr h => ?_)
  · obtain ⟨vb, v, h, dd, nm, kd, fl, sy, mk, pu, i, s, ds, rfl, _⟩ := h
    rfl
  · obtain ⟨vb, v, h, dd, nm, kd, fl, sy, mk, pu, i, s, ds, rfl, hpl, hd, hh, nhk, st, oks, hi, gn, k⟩ := h
    have nd := scDo.nd
    have hu := hu_of hr
    refine ⟨_, pss_cons (ps_set (i := 3) nd rfl (Or.inl rfl) pe_non)
      (pss_cons (ps_for PassesOwn.never rfl (pi_tup (pv 1)) (pg_name (i := 4) nd rfl (Or.inl rfl)) (pss_one (ps_if (PW.pt (pw_and (pt_cmpR op_isN (pv 3) pe_non (nomark _)) (pw_and1 (pt_not (pt_val (pe_dget hu (pv 2) pe_str (fun _ _ => rfl)))))))
        (pss_one (ps_set (i := 3) nd rfl (Or.inl rfl) (pe_call Go hr (by rfl) mo ko bo .nil pass0 (pa_cons (pv 0) (pa_cons (pv 4) (pa_cons (pv 2) pa_nil)))))) pss_nil)))
      (pss_one (ps_ret (pv 3)))), ?_⟩
    obtain ⟨a, rfl⟩ := hd.ref_of
    obtain ⟨us, e, al⟩ := hd.tupI
    have le := al.length
    rw [List.length_map] at le
    have hoff := st.hoff hh nhk
    refine ⟨_, rfl, a, rfl, ⟨us, SqT.of e⟩, for_tup (K := K) (a := a) (xs := us) (fun j σ' H' => (∃ v4 : Option V, σ' = [some vb, some (.ref a), some (.ref h), some .non, v4]) ∧ But (M3 kd mk pu) H H' ∧ St7 H' kd mk pu (i + j) (runD nm s (dd.take j))) ?_ ?_ ?_ ?_⟩
    · exact ⟨⟨_, rfl⟩, But.refl _ _, st⟩
    · rintro j σ' H' _ ⟨_, b, _⟩
      exact SqT.of (st.tups b _ _ e)
    · rintro j u σ' H' hj ⟨⟨v4, rfl⟩, b, stj⟩
      obtain ⟨t, ht, htx⟩ := al.get j u hj
      rw [List.getElem?_map] at ht
      obtain ⟨d, hdj, rfl⟩ := Option.map_eq_some_iff.mp ht
      have jl : j < dd.length := (List.getElem?_eq_some_iff.mp hdj).1
      have htx' := htx.mono (st.tups b)
      obtain ⟨q, rfl⟩ : ∃ q, u = .ref q := by
        cases d with
        | wh => exact htx'.ref_of
        | ca => exact htx'.ref_of
        | mk => exact htx'.ref_of
      have hh' := b _ _ hoff hh
      refine ⟨_, rfl, rfl, _, rfl, iteT ⟨_, rfl, h, _, rfl, dget_str hh' rfl, _, rfl, iteT ?_⟩⟩
      refine ⟨_, rfl, _, rfl, _, rfl, vb, q, h, d, nm, kd, fl, sy, mk, pu, i + j, runD nm s (dd.take j), ds, rfl, hpl.mono (st.tups b) (st.frzs b), htx', hh', nhk, stj, oks.at hdj, by omega, gn, fun H2 b2 st2 => ?_⟩
      exact ⟨⟨_, rfl⟩, b.trans b2, by rw [runD_take hdj]; exact st2⟩
    · rintro σ' H' ⟨⟨v4, rfl⟩, b, stj⟩
      rw [List.take_of_length_le (by omega), le] at stj
      exact ⟨_, rfl, k H' b stj⟩
theorem ok_if7 {f fw fd' : Addr} {fd fdw fdd : FuncData} (F : Fun K "_law_do_one" "_law_do_one" sOne f fd) (mw : mg "_law_worth" = some (.ref fw)) (kw : PySem.W.keepIn K (.ref fw) = true) (bw : Binds K fdw ["_law_told", "_law_here"] []) (Gw : FnOk P w K mg base CX0 1 fw fdw ["_law_told", "_law_here"] spLWV)
    (md : mg "_law_do" = some (.ref fd')) (kd' : PySem.W.keepIn K (.ref fd') = true) (bd : Binds K fdd ["_law_book", "_law_deeds", "_law_here"] []) (Gd' : FnOk P w K mg base CX0 4 fd' fdd ["_law_book", "_law_deeds", "_law_here"] spLDo7) :
    FnOk P w K mg base CX0 5 f fd ["_law_book", "_law_task", "_law_here"] spIf7 := by
  refine F.ok scOn (fun vs H Q E h => ?_) (fun cdv A outer s0 H vs Q E hr h => ?_)
  · obtain ⟨vb, t, h, dd, nm, kd, fl, sy, mk, pu, i, s, ds, rfl, _⟩ := h
    rfl
  · obtain ⟨vb, t, h, dd, nm, kd, fl, sy, mk, pu, i, s, ds, rfl, hpl, ht, hh, nhk, st, ⟨n, hn⟩, oks, hi, gn, k⟩ := h
    have nd := scOn.nd
    have hr1 : Room 1 _ := hr.mono (by decide)
    refine ⟨_, pss_cons (ps_set (i := 3) nd rfl (Or.inl rfl) (pe_ix ix_tup (pv 1) pe_int (fun _ _ => rfl)))
      (pss_cons (ps_if (pt_cmpR op_eq (pv 3) pe_str (nomark _)) (pss_one ps_never) pss_nil)
      (pss_cons (ps_if (pt_cmpR op_eq (pv 3) pe_str (nomark _)) (pss_cons ps_never (pss_one ps_never)) pss_nil)
      (pss_cons (ps_if (pt_cmpR op_eq (pv 3) pe_str (nomark _)) (pss_cons (ps_set (i := 4) nd rfl (Or.inl rfl) (pe_call Gw hr1 (by rfl) mw kw bw .nil pass0 (pa_cons (pe_ix ix_tup (pv 1) pe_int (fun _ _ => rfl)) (pa_cons (pv 2) pa_nil))))
          (pss_cons (ps_if (pt_cmpR (op_eqD hr.units) (pv 4) (pe_lst pa_nil) (nomark _)) (pss_one (ps_ret pe_str)) pss_nil)
          (pss_one (ps_ret (pe_call Gd' hr (by rfl) md kd' bd .nil pass0 (pa_cons (pv 0) (pa_cons (pe_ifExp (PW.pt (pw_or (pt_cmpR op_isN (pv 4) pe_non (nomark _)) (pw_or1 (pt_cmpR (op_eqD hr.units) (pv 4) pe_int (nomark _))))) (pe_ix ix_tup (pv 1) pe_int (fun _ _ => rfl)) (pe_ix ix_tup (pv 1) pe_int (fun _ _ => rfl))) (pa_cons (pv 2) pa_nil)))))))) pss_nil)
      (pss_cons ps_never (pss_cons ps_never (pss_cons ps_never (pss_cons ps_never (pss_cons ps_never (pss_one ps_never))))))))), ?_⟩
    have no : ∀ {a b : Str} {A B : Prop}, a ≠ b → B → (if decide (V.str a = V.str b) = true then A else B) := fun {a b A B} ne h => by
      rw [decide_eq_false fun q => ne (by cases q; rfl)]
      exact iteF h
    obtain ⟨us, e, al⟩ := ht.tupI
    cases al with
    | @cons u0 _ _ _ e0 al =>
    cases al with
    | @cons u1 _ _ _ e1 al =>
    cases al with
    | @cons u2 _ _ _ e2 al =>
    cases al with
    | @cons u3 _ _ _ e3 al =>
    cases al
    cases e0
    obtain ⟨kvs, k1, k2, k3⟩ := st.kn
    obtain ⟨z, z1, z2⟩ := k3 "a" n hn
    have gd := gdN (st.gd "a" n hn)
    have a0 : atI [V.str "if", u1, u2, u3] 0 = some (V.str "if") := atI_int (by decide) rfl
    have a1 : atI [V.str "if", u1, u2, u3] 1 = some u1 := atI_int (by decide) rfl
    have a2 : atI [V.str "if", u1, u2, u3] 2 = some u2 := atI_int (by decide) rfl
    refine ⟨_, rfl, t, _, _, _, rfl, rfl, SqT.of e, a0, ?_⟩
    refine ⟨_, rfl, rfl, _, rfl, no (by decide) ⟨_, rfl, rfl, _, rfl, no (by decide) ⟨_, rfl, rfl, _, rfl, yesS ?_⟩⟩⟩
    refine ⟨_, rfl, t, _, _, _, rfl, rfl, SqT.of e, a1, _, rfl, u1, h, "a", z, kd, _, kvs, rfl, e1, hh, rfl, k1, z1, fun H1 s1 => ?_⟩
    obtain ⟨zt, rfl⟩ := z2.ref_of
    refine ⟨_, rfl, Nat.zero_le _, fun l hl => ?_⟩
    have s2 := s1.trans (same_new (Same.refl H1) hl (o := .lst []))
    have b2 : upd H1 l (.lst []) l = some (.lst []) := upd_same
    generalize upd H1 l (.lst []) = H2 at s2 b2 ⊢
    have z3 := z2.mono (sameTups s2)
    refine ⟨holdN n, .list [], z3.dp, .lst (SqL.of b2) .nil, gd.shaped (by decide), by decide +kernel, _, rfl, ?_⟩
    rw [show PyData.eqv (holdN n) (.list []) = false from by simp [holdN, PyData.eqv]]
    refine iteF ⟨_, rfl, _, rfl, rfl, _, rfl, iteF ⟨_, rfl, holdN n, .int 0, z3.dp, .int _, gd.shaped (by decide), by decide +kernel, _, rfl, ?_⟩⟩
    rw [show PyData.eqv (holdN n) (.int 0) = false from by simp [holdN, PyData.eqv]]
    refine iteF ⟨_, rfl, t, _, _, _, rfl, rfl, SqT.of (s2 _ _ e), a2, _, rfl, vb, u2, h, dd, nm, kd, fl, sy, mk, pu, i, s, ds, rfl, hpl.on s2, e2.mono (sameTups s2), s2 _ _ hh, nhk, st.on s2, oks, hi, gn, fun H3 b3 st3 => ?_⟩
    exact k H3 ((sameBut s2 _).trans b3) st3
theorem ok_top7 {f fo : Addr} {fd fdo : FuncData} (F : Fun K "_law_do" "_law_do" sDo f fd) (G : FnOk P w K mg base CX0 4 f fd ["_law_book", "_law_deeds", "_law_here"] spLDo7) (mo : mg "_law_do_one" = some (.ref fo)) (ko : PySem.W.keepIn K (.ref fo) = true) (bo : Binds K fdo ["_law_book", "_law_task", "_law_here"] []) (Go : FnOk P w K mg base CX0 5 fo fdo ["_law_book", "_law_task", "_law_here"] spIf7) :
    FnOk P w K mg base CX0 6 f fd ["_law_book", "_law_deeds", "_law_here"] spTop7 := by
  have main : FnOk P w K mg base CX0 6 f fd ["_law_book", "_law_deeds", "_law_here"] (fun vs H Q _ => ∃ (vb v : V) (h : Addr) (dd : List Dd) (nm : Str) (kd fl sy mk pu : Addr) (i : Nat) (s : Sm) (ds : List PyData), vs = [vb, v, .ref h] ∧ Pl7 H vb ds ∧ Dt H v (topD true dd) ∧ H h = some (.dK (hereX nm kd fl sy mk pu)) ∧ h ≠ kd ∧ St7 H kd mk pu i s ∧ (∃ n, s.env "a" = some n) ∧ OkAll nm s dd ∧ i + dd.length ≤ 90 ∧ GoodNm nm ∧
      ∀ H', But (M3 kd mk pu) H H' → St7 H' kd mk pu (i + dd.length) (runD nm s dd) → Q .non H') := by
    refine F.ok scDo (fun vs H Q E h => ?_) (fun cdv A outer s0 H vs Q E hr h => ?_)
    · obtain ⟨vb, v, h, dd, nm, kd, fl, sy, mk, pu, i, s, ds, rfl, _⟩ := h
      rfl
    · obtain ⟨vb, v, h, dd, nm, kd, fl, sy, mk, pu, i, s, ds, rfl, hpl, hd, hh, nhk, st, ha, oks, hi, gn, k⟩ := h
      have nd := scDo.nd
      have hu := hu_of hr
      refine ⟨_, pss_cons (ps_set (i := 3) nd rfl (Or.inl rfl) pe_non)
        (pss_cons (ps_for PassesOwn.never rfl (pi_tup (pv 1)) (pg_name (i := 4) nd rfl (Or.inl rfl)) (pss_one (ps_if (PW.pt (pw_and (pt_cmpR op_isN (pv 3) pe_non (nomark _)) (pw_and1 (pt_not (pt_val (pe_dget hu (pv 2) pe_str (fun _ _ => rfl)))))))
          (pss_one (ps_set (i := 3) nd rfl (Or.inl rfl) (pe_call Go hr (by rfl) mo ko bo .nil pass0 (pa_cons (pv 0) (pa_cons (pv 4) (pa_cons (pv 2) pa_nil)))))) pss_nil)))
        (pss_one (ps_ret (pv 3)))), ?_⟩
      have hd' : Dt H v (.tuple [.tuple [.str "if", vrD "a", .tuple (dd.map ddD), .tuple []]]) := hd
      obtain ⟨a, rfl⟩ := hd'.ref_of
      obtain ⟨us, e, al⟩ := hd'.tupI
      cases al with
      | @cons u0 _ _ _ e0 al =>
      cases al
      obtain ⟨q, rfl⟩ := e0.ref_of
      refine ⟨_, rfl, a, rfl, ⟨_, SqT.of e⟩, for_tup (K := K) (a := a) (xs := [.ref q]) (fun j σ' H' => (∃ v4 : Option V, σ' = [some vb, some (.ref a), some (.ref h), some .non, v4]) ∧ But (M3 kd mk pu) H H' ∧ ((j = 0 ∧ H' = H) ∨ (j = 1 ∧ St7 H' kd mk pu (i + dd.length) (runD nm s dd)))) ?_ ?_ ?_ ?_⟩
      · exact ⟨⟨_, rfl⟩, But.refl _ _, .inl ⟨rfl, rfl⟩⟩
      · rintro j σ' H' _ ⟨_, b, _⟩
        exact SqT.of (st.tups b _ _ e)
      · rintro j u σ' H' hj ⟨⟨v4, rfl⟩, b, cse⟩
        obtain rfl : j = 0 := by
          have := (List.getElem?_eq_some_iff.mp hj).1
          simp at this
          exact this
        rcases cse with ⟨_, rfl⟩ | ⟨z, _⟩
        · cases hj
          refine ⟨_, rfl, rfl, _, rfl, iteT ⟨_, rfl, h, _, rfl, dget_str hh rfl, _, rfl, iteT ?_⟩⟩
          refine ⟨_, rfl, _, rfl, _, rfl, vb, q, h, dd, nm, kd, fl, sy, mk, pu, i, s, ds, rfl, hpl, e0, hh, nhk, st, ha, oks, hi, gn, fun H2 b2 st2 => ?_⟩
          exact ⟨⟨_, rfl⟩, b2, .inr ⟨rfl, st2⟩⟩
        · cases z
      · rintro σ' H' ⟨⟨v4, rfl⟩, b, cse⟩
        rcases cse with ⟨z, _⟩ | ⟨_, st2⟩
        · cases z
        · exact ⟨_, rfl, k H' b st2⟩
  refine ⟨fun vs H Q E h => ?_, fun A outer s0 H args us vs Q E r1 r2 r3 r4 h => ?_⟩
  · obtain ⟨vb, v, h, wb, dd, nm, kd, fl, sy, mk, pu, i, s, ds, rfl, _⟩ := h
    rfl
  · obtain ⟨vb, v, h, wb, dd, nm, kd, fl, sy, mk, pu, i, s, ds, e, hpl, hd, hh, nhk, st, ha, oks, hi, gn, k⟩ := h
    cases wb with
    | true => exact main.run A outer s0 H args us vs Q E r1 r2 r3 r4 ⟨vb, v, h, dd, nm, kd, fl, sy, mk, pu, i, s, ds, e, hpl, hd, hh, nhk, st, ha, oks, hi, gn, k⟩
    | false => exact (G.mono (by decide : 4 ≤ 6)).run A outer s0 H args us vs Q E r1 r2 r3 r4 ⟨vb, v, h, dd, nm, kd, fl, sy, mk, pu, i, s, ds, e, hpl, hd, hh, nhk, st, oks, hi, gn, k⟩
end
end K3
namespace K3
open PySem PySem.Spec PyProof.Rows L2 GG
/-! ### law_k07: the law's act -/
def spLAct7 : Sp := fun vs H Q _ => ∃ (sl : Addr) (vb va : V) (nm : Str) (wb : Bool) (dd : List Dd) (kvs : List (Key × V)), vs = [vb, .str "k", .ref sl, .str nm, .str "1#0", .str "go", va] ∧ Pl7 H vb (topL wb dd) ∧ H sl = some (.dK kvs) ∧ Dt H va (.tuple [holdN "1#0"]) ∧ OkAll nm s07 dd ∧ dd.length ≤ 80 ∧ GoodNm nm ∧
  ∀ (t fl l1 l2 l3 k0 : Addr) (o : V) (ms ps : List V) (H' : Hp), Same H H' → H' t = some (.tup [o, .ref fl, .ref l1, .ref l2, .ref l3, .non]) → Dt H' o (.tuple [.str "kept", .none]) → H' l1 = some (.tup []) →
    H' l2 = some (.tup ms) → Al (MkAt k0 H') ms (runD nm s07 dd).mks → H' l3 = some (.tup ps) → Al (PuAt H') ps (runD nm s07 dd).pus → Q (.ref t) H'
abbrev hrA (nm : Str) (kn fl sy mk : Addr) : List (Key × V) := [(.inr "me", .str "1#0"), (.inr "call", .str nm), (.inr "fields", .ref fl), (.inr "known", .ref kn), (.inr "says", .ref sy), (.inr "makes", .ref mk)]
abbrev hrB (pu : Addr) : List (Key × V) := [(.inr "puts", .ref pu), (.inr "goes", .non), (.inr "answer", .non), (.inr "over", .bl false)]
section
variable {P : Program} {w : World} {K : PySem.W.Frag} {mg : Str → Option Value} {base : Heap}
theorem ok_lact7 {f fd' : Addr} {fd fdd : FuncData} (F : Fun K "_law_act" "_law_act" sLAct f fd) (T : Txt mg) (md : mg "_law_do" = some (.ref fd')) (kd : PySem.W.keepIn K (.ref fd') = true) (bd : Binds K fdd ["_law_book", "_law_deeds", "_law_here"] []) (Gd' : FnOk P w K mg base CX0 6 fd' fdd ["_law_book", "_law_deeds", "_law_here"] spTop7) :
    FnOk P w K mg base CX0 7 f fd ["_law_book", "_law_breed", "_law_slots", "_law_naming", "_law_who", "_law_term", "_law_bits"] spLAct7 := by
  refine F.ok scLA (fun vs H Q E h => ?_) (fun cdv A outer s0 H vs Q E hr h => ?_)
  · obtain ⟨sl, vb, va, nm, wb, dd, kvs, rfl, _⟩ := h
    rfl
  · obtain ⟨sl, vb, va, nm, wb, dd, kvs, rfl, hb, hsl, hva, oks, l80, gn, k⟩ := h
    have nd := scLA.nd
    have hu := hu_of hr
    refine ⟨_, pss_cons (ps_set (i := 7) nd rfl (Or.inl rfl) (pe_disp (pps_cons pe_str (pv 4) (pps_cons pe_str (pv 3) (pps_cons pe_str (pe_callTy GG.call_dictD (by rfl) T.dict (by decide +kernel) (pa_cons (pv 2) pa_nil)) (pps_cons pe_str pe_dnewK (pps_cons pe_str (pe_lst pa_nil) (pps_cons pe_str (pe_lst pa_nil) pps_nil))))))
          (by rfl) (by rfl) (fun z => by cases z) (by decide)))
      (pss_cons (ps_expr (pe_bm PySem.F.plainAttrs_dict PySem.F.slot_dict_update PySem.F.type_dict_update mt_update (pv 7) (pa_cons (pe_disp (pps_cons pe_str (pe_lst pa_nil) (pps_cons pe_str pe_non (pps_cons pe_str pe_non (pps_cons pe_str pe_bl pps_nil)))) (by rfl) (by rfl) (fun z => by cases z) (by decide)) pa_nil)))
      (pss_cons (ps_set (i := 8) nd rfl (Or.inl rfl) pe_str)
      (pss_cons (ps_for PassesOwn.never rfl (pi_tup (pe_ix ix_tup (pe_ix ix_list (pe_lc (own := [("_law_one", 13)]) (g := gName 13) rfl nd (pi_tup (pv 0)) (blkOk_by (N := nLA) (sc := defScope sLAct) (by decide +kernel)) (fun _ _ _ _ _ => pg_name (i := 13) nd rfl (Or.inl rfl))
            (fun _ _ _ _ _ => pts_one (pt_cmpR op_eq (pe_ix (r := rIxT K) ix_tup (pv 13) pe_int (fun _ _ => rfl)) (pv 1) (nomark _))) (fun _ _ _ _ _ => pv 13)) pe_int (fun _ _ => rfl)) pe_int (fun _ _ => rfl)))
          (pg_tup rfl (pgs_cons (pg_name (i := 9) nd rfl (Or.inl rfl)) (pgs_cons (pg_name (i := 10) nd rfl (Or.inr rfl)) (pgs_cons (pg_name (i := 11) nd rfl (Or.inl rfl)) pgs_nil))))
        (pss_one (ps_if (PW.pt (pw_and (pt_cmpR op_eq (pv 9) (pv 5) (nomark _)) (pw_and1 (pt_cmpR op_eq (pe_callB call_len_seq (by rfl) T.len PySem.boot_len (pa_cons (pv 10) pa_nil)) (pe_callB call_len_seq (by rfl) T.len PySem.boot_len (pa_cons (pv 6) pa_nil)) (nomark _)))))
          (pss_cons (ps_dput hu (pv 7) pe_str (pe_callTy (call_dictP rfl) (by rfl) T.dict (by decide +kernel) (pa_cons (pe_lc (own := [("_law_k", 14)]) (g := gName 14) (tt := tYes) rfl nd (pi_range1 (by rfl) T.range (pa_cons (pe_callB call_len_seq (by rfl) T.len PySem.boot_len (pa_cons (pv 6) pa_nil)) pa_nil))
              (blkOk_by (N := nLA) (sc := defScope sLAct) (by decide +kernel)) (fun _ _ _ _ _ => pg_name (i := 14) nd rfl (Or.inl rfl)) (fun _ _ _ _ _ => pts_nil)
              (fun _ _ _ _ _ => pe_tup (pa_cons (pe_ix (r := rIxT K) ix_tup (pv 10) (pv 14) (fun _ _ => rfl)) (pa_cons (pe_ix (r := rIxT K) ix_tup (pv 6) (pv 14) (fun _ _ => rfl)) pa_nil)))) pa_nil)) rfl)
          (pss_one (ps_set (i := 8) nd rfl (Or.inl rfl) (pe_call Gd' hr (by rfl) md kd bd .nil pass0 (pa_cons (pv 0) (pa_cons (pv 11) (pa_cons (pv 7) pa_nil))))))) pss_nil)))
      (pss_cons (ps_if (pt_cmpR op_notN (pv 8) pe_non (nomark _)) (pss_one (ps_ret (pe_tup (pa_cons (pe_tup (pa_cons pe_str (pa_cons (pv 8) pa_nil))) (pa_cons (pe_callTy GG.call_dictD (by rfl) T.dict (by decide +kernel) (pa_cons (pv 2) pa_nil))
          (pa_cons (pe_tup pa_nil) (pa_cons (pe_tup pa_nil) (pa_cons (pe_tup pa_nil) (pa_cons pe_non pa_nil))))))))) pss_nil)
      (pss_cons (ps_set (i := 12) nd rfl (Or.inl rfl) (pe_tup (pa_cons (pe_callTy call_tuple_of (by rfl) T.tuple (by decide +kernel) (pa_cons (pe_dget hu (pv 7) pe_str (fun _ _ => rfl)) pa_nil))
          (pa_cons (pe_callTy call_tuple_of (by rfl) T.tuple (by decide +kernel) (pa_cons (pe_dget hu (pv 7) pe_str (fun _ _ => rfl)) pa_nil)) (pa_cons (pe_callTy call_tuple_of (by rfl) T.tuple (by decide +kernel) (pa_cons (pe_dget hu (pv 7) pe_str (fun _ _ => rfl)) pa_nil)) pa_nil)))))
      (pss_one (ps_ret (pe_op op_catA (pe_op op_catA (pe_tup (pa_cons (pe_tup (pa_cons pe_str (pa_cons (pe_dget hu (pv 7) pe_str (fun _ _ => rfl)) pa_nil))) (pa_cons (pe_dget hu (pv 7) pe_str (fun _ _ => rfl)) pa_nil))) (pv 12))
        (pe_tup (pa_cons (pe_dget hu (pv 7) pe_str (fun _ _ => rfl)) pa_nil)))))))))), ?_⟩
    obtain ⟨bt, rfl⟩ := hva.ref_of
    obtain ⟨xs0, hbt, al⟩ := hva.tupI
    cases al with
    | @cons x1 _ _ _ hx1 al =>
    cases al
    intro h hh0
    refine ⟨_, rfl, _, rfl, _, rfl, sl, _, rfl, (by rw [upd_ne (ne_of_none hsl hh0)]; exact hsl), fun fl hfl0 => ?_⟩
    have s1 : Same H (upd (upd H h (.dK [])) fl (.dK kvs)) := same_new (same_new (Same.refl H) hh0) hfl0
    have nfh : fl ≠ h := fun z => by
      rw [z, upd_same] at hfl0
      cases hfl0
    have fh : upd (upd H h (.dK [])) fl (.dK kvs) h = some (.dK []) := by rw [upd_ne nfh.symm, upd_same]
    have ffl : upd (upd H h (.dK [])) fl (.dK kvs) fl = some (.dK kvs) := upd_same
    generalize upd (upd H h (.dK [])) fl (.dK kvs) = H1 at s1 fh ffl ⊢
    intro kn hkn0
    refine ⟨Nat.zero_le _, fun sy hsy0 => ?_⟩
    have q2 := same_new (same_new (Same.refl H1) hkn0 (o := .dK [])) hsy0 (o := .lst [])
    have fsy : upd (upd H1 kn (.dK [])) sy (.lst []) sy = some (.lst []) := upd_same
    generalize upd (upd H1 kn (.dK [])) sy (.lst []) = H2 at q2 fsy ⊢
    refine ⟨Nat.zero_le _, fun mk hmk0 => ?_⟩
    have q3' := same_new (Same.refl H2) hmk0 (o := .lst [])
    have q3 := q2.trans q3'
    have fmk : upd H2 mk (.lst []) mk = some (.lst []) := upd_same
    have mk0 : H mk = none := s1.free (q2.free hmk0)
    have nsm : sy ≠ mk := ne_of_none fsy hmk0
    have fsy3 := q3' _ _ fsy
    generalize upd H2 mk (.lst []) = H3 at q3 fmk fsy3 ⊢
    have fh3 := q3 _ _ fh
    have ffl3 := q3 _ _ ffl
    have s3 := s1.trans q3
    refine ⟨fh3, hrA nm kn fl sy mk, rfl, (by show 6 ≤ 15; decide), ?_⟩
    rw [show mergeK ([] : List (Key × V)) (hrA nm kn fl sy mk) = hrA nm kn fl sy mk from rfl]
    have nsh : sy ≠ h := fun z => by
      rw [z, fh3] at fsy3
      cases fsy3
    have nmh : mk ≠ h := fun z => by
      rw [z, fh3] at fmk
      cases fmk
    have s4 := same_mut (o := .dK (hrA nm kn fl sy mk)) s3 hh0
    have fh4 : upd H3 h (.dK (hrA nm kn fl sy mk)) h = some (.dK (hrA nm kn fl sy mk)) := upd_same
    have ffl4 : upd H3 h (.dK (hrA nm kn fl sy mk)) fl = some (.dK kvs) := by rw [upd_ne nfh]; exact ffl3
    have fsy4 : upd H3 h (.dK (hrA nm kn fl sy mk)) sy = some (.lst []) := by rw [upd_ne nsh]; exact fsy3
    have fmk4 : upd H3 h (.dK (hrA nm kn fl sy mk)) mk = some (.lst []) := by rw [upd_ne nmh]; exact fmk
    generalize upd H3 h (.dK (hrA nm kn fl sy mk)) = H4 at s4 fh4 ffl4 fsy4 fmk4 ⊢
    refine ⟨_, rfl, .inr (.inr (.inl ⟨rfl, .inl ⟨_, fh4⟩⟩)), fun p hp => ⟨Nat.zero_le _, fun pu hpu0 => ?_⟩⟩
    have q5 := same_new (same_new (Same.refl H4) hp (o := .dK [])) hpu0 (o := .lst [])
    have npp : p ≠ pu := fun z => by
      rw [← z, upd_same] at hpu0
      cases hpu0
    have pu4 : H4 pu = none := by
      rw [upd_ne npp.symm] at hpu0
      exact hpu0
    have pu0 : H pu = none := s4.free pu4
    have fp5 : upd (upd H4 p (.dK [])) pu (.lst []) p = some (.dK []) := by rw [upd_ne npp, upd_same]
    have fpu5 : upd (upd H4 p (.dK [])) pu (.lst []) pu = some (.lst []) := upd_same
    have nmp : mk ≠ pu := ne_of_none fmk4 pu4
    have nsp : sy ≠ pu := ne_of_none fsy4 pu4
    have nup : pu ≠ h := (ne_of_none fh4 pu4).symm
    generalize upd (upd H4 p (.dK [])) pu (.lst []) = H5 at q5 fp5 fpu5 ⊢
    refine ⟨fp5, hrB pu, rfl, (by show 4 ≤ 15; decide), ?_⟩
    have nhp : h ≠ p := ne_of_none fh4 hp
    refine ⟨h, p, _, _, rfl, rfl, nhp, (by rw [upd_ne nhp]; exact q5 _ _ fh4), upd_same, (by show 6 + 4 ≤ sizeLine; decide), ?_⟩
    have s6 := same_mut (o := .dK (mergeK (hrA nm kn fl sy mk) (mergeK [] (hrB pu)))) (same_mut (o := .dK (mergeK [] (hrB pu))) (s4.trans q5) (s4.free hp)) hh0
    have fh6 : upd (upd H5 p (.dK (mergeK [] (hrB pu)))) h (.dK (mergeK (hrA nm kn fl sy mk) (mergeK [] (hrB pu)))) h = some (.dK (hereX nm kn fl sy mk pu)) := by
      rw [upd_same]
      rfl
    have ffl6 : upd (upd H5 p (.dK (mergeK [] (hrB pu)))) h (.dK (mergeK (hrA nm kn fl sy mk) (mergeK [] (hrB pu)))) fl = some (.dK kvs) := by rw [upd_ne nfh, upd_ne (ne_of_none ffl4 hp)]; exact q5 _ _ ffl4
    have fsy6 : upd (upd H5 p (.dK (mergeK [] (hrB pu)))) h (.dK (mergeK (hrA nm kn fl sy mk) (mergeK [] (hrB pu)))) sy = some (.lst []) := by rw [upd_ne nsh, upd_ne (ne_of_none fsy4 hp)]; exact q5 _ _ fsy4
    have fmk6 : upd (upd H5 p (.dK (mergeK [] (hrB pu)))) h (.dK (mergeK (hrA nm kn fl sy mk) (mergeK [] (hrB pu)))) mk = some (.lst []) := by rw [upd_ne nmh, upd_ne (ne_of_none fmk4 hp)]; exact q5 _ _ fmk4
    have fpu6 : upd (upd H5 p (.dK (mergeK [] (hrB pu)))) h (.dK (mergeK (hrA nm kn fl sy mk) (mergeK [] (hrB pu)))) pu = some (.lst []) := by rw [upd_ne nup, upd_ne npp.symm]; exact fpu5
    generalize upd (upd H5 p (.dK (mergeK [] (hrB pu)))) h (.dK (mergeK (hrA nm kn fl sy mk) (mergeK [] (hrB pu)))) = H6 at s6 fh6 ffl6 fsy6 fmk6 fpu6 ⊢
    clear fp5 fpu5 q5 hpu0 hp fh4 ffl4 fsy4 fmk4 s4 fmk fsy3 fh3 ffl3 q3 s3 fsy q2 fh ffl s1
    have hb0 := hb
    obtain ⟨b, kk, rfl, eb, c, uf, mm, rfl, ec, hfl7, hm⟩ := hb
    obtain ⟨ma, rfl⟩ := hm.ref_of
    obtain ⟨mms, em, aml⟩ := hm.tupI
    cases aml with
    | @cons m0 _ _ _ gm aml =>
    cases aml
    obtain ⟨m, rfl⟩ := gm.ref_of
    obtain ⟨ts, em0, atl⟩ := gm.tupI
    cases atl with
    | @cons t0 _ _ _ f0 atl =>
    cases atl with
    | @cons t1 _ _ _ f1 atl =>
    cases atl with
    | @cons t2 _ _ _ f2 atl =>
    cases atl
    cases f0
    obtain ⟨pp, rfl⟩ := f1.ref_of
    obtain ⟨pps, ep, apl⟩ := f1.tupI
    cases apl with
    | @cons p0 _ _ _ g0 apl =>
    cases apl
    cases g0
    have c0 : atI [V.str "k", uf, V.ref ma] 0 = some (V.str "k") := atI_int (by decide) rfl
    have c2 : atI [V.str "k", uf, V.ref ma] 2 = some (V.ref ma) := atI_int (by decide) rfl
    have d0 : atI [V.ref c] 0 = some (V.ref c) := atI_int (by decide) rfl
    refine ⟨_, rfl, b, rfl, ⟨_, SqT.of (s6 _ _ eb)⟩, fun D hD => ?_⟩
    refine lc_tup (K := K) (a := b) (xs := [V.ref c]) (fun i H' => H' D = some (.lst ([V.ref c].take i)) ∧ Same H6 H') ?_ ?_ ?_ ?_
    · exact ⟨upd_same, same_new (Same.refl _) hD⟩
    · rintro i H' _ ⟨_, s'⟩
      exact SqT.of (s' _ _ (s6 _ _ eb))
    · rintro i y H' hi ⟨hDl, s'⟩
      obtain rfl : i = 0 := by
        have : i < 1 := (List.getElem?_eq_some_iff.mp hi).1
        omega
      cases hi
      refine ⟨rfl, _, rfl, c, _, _, _, rfl, rfl, SqT.of (s' _ _ (s6 _ _ ec)), c0, _, rfl, rfl, _, rfl, ?_⟩
      exact yesS ⟨_, rfl, _, hDl, small1000 (Nat.zero_le _), upd_same, same_mut s' hD⟩
    · rintro H7 ⟨hDl, s7⟩
      refine ⟨D, _, _, V.ref c, rfl, rfl, SqL.of hDl, d0, c, _, _, _, rfl, rfl, SqT.of (s7 _ _ (s6 _ _ ec)), c2, ma, rfl, ⟨_, SqT.of (s7 _ _ (s6 _ _ em))⟩, ?_⟩
      have sB := s6.trans s7
      have fh7 := s7 _ _ fh6
      have ffl7 := s7 _ _ ffl6
      have fsy7 := s7 _ _ fsy6
      have fmk7 := s7 _ _ fmk6
      have fpu7 := s7 _ _ fpu6
      refine for_tup (K := K) (a := ma) (xs := [V.ref m]) (fun i σ' H' => (i = 0 ∧ σ' = [some (V.ref b), some (.str "k"), some (.ref sl), some (.str nm), some (.str "1#0"), some (.str "go"), some (.ref bt), some (.ref h), some (.str "odd"), none, none, none, none, none, none] ∧ H7 = H') ∨
        (i = 1 ∧ Same H H' ∧ ∃ (o9 o10 o11 : Option V) (kn' : Addr), σ' = [some (V.ref b), some (.str "k"), some (.ref sl), some (.str nm), some (.str "1#0"), some (.str "go"), some (.ref bt), some (.ref h), some .non, o9, o10, o11, none, none, none] ∧
          H' h = some (.dK (hereX nm kn' fl sy mk pu)) ∧ H' sy = some (.lst []) ∧ St7 H' kn' mk pu dd.length (runD nm s07 dd))) (.inl ⟨rfl, rfl, rfl⟩) ?_ ?_ ?_
      · rintro i σ' H' _ (⟨_, _, rfl⟩ | ⟨_, s, _⟩)
        · exact SqT.of (sB _ _ em)
        · exact SqT.of (s _ _ em)
      · rintro i y σ' H' hi (⟨rfl, rfl, rfl⟩ | ⟨rfl, _⟩)
        rotate_left
        · cases hi
        cases hi
        refine ⟨m, _, rfl, SqT.of (sB _ _ em0), rfl, _, _, rfl, _, _, rfl, _, _, rfl, rfl, ?_⟩
        refine ⟨_, rfl, _, rfl, rfl, _, rfl, yesS ?_⟩
        refine ⟨_, rfl, pp, _, rfl, .inr (SqT.of (sB _ _ ep)), _, rfl, bt, _, rfl, .inr (SqT.of (sB _ _ hbt)), rfl, _, rfl, ?_⟩
        refine yesE rfl ?_
        refine ⟨_, rfl, bt, _, rfl, .inr (SqT.of (sB _ _ hbt)), _, rfl, (by show (-(2 ^ 62) : Int) ≤ 1; decide), (by show (1 : Int) < 2 ^ 62; decide), fun D2 hD2 => ?_⟩
        refine lc_range (lo := 0) (n := 1) (fun i H' => Same H7 H' ∧ ((i = 0 ∧ H' D2 = some (.lst [])) ∨ (i = 1 ∧ ∃ p0 : Addr, H' D2 = some (.lst [.ref p0]) ∧ H' p0 = some (.tup [.str "a", x1])))) ?_ ?_ ?_
        · exact ⟨same_new (Same.refl _) hD2, .inl ⟨rfl, upd_same⟩⟩
        · rintro i H' hi ⟨s', ⟨rfl, hDl⟩ | ⟨rfl, _⟩⟩
          · have sC := sB.trans s'
            refine ⟨rfl, _, rfl, _, rfl, pp, _, _, V.str "a", rfl, rfl, SqT.of (sC _ _ ep), (by exact atI_int (by decide) rfl), _, rfl, _, rfl, bt, _, _, x1, rfl, rfl, SqT.of (sC _ _ hbt), (by exact atI_int (by decide) rfl), (by show 2 ≤ sizeLine; decide), fun p0 hp0 => ?_⟩
            have nDp : D2 ≠ p0 := ne_of_none hDl hp0
            refine ⟨[], (by rw [upd_ne nDp]; exact hDl), small1000 (Nat.zero_le _), same_mut (same_new s' hp0) hD2, .inr ⟨rfl, p0, upd_same, ?_⟩⟩
            rw [upd_ne nDp.symm, upd_same]
          · omega
        · rintro H8 ⟨s8, ⟨z, _⟩ | ⟨_, p0, hDl, hp0⟩⟩
          · cases z
          have sC := sB.trans s8
          refine ⟨D2, [p0], [(.inr "a", x1)], rfl, SqL.of hDl, .cons (SqT.of hp0) .nil, fun kn' hkn' => ?_⟩
          rw [show mergeK ([] : List (Key × V)) [(.inr "a", x1)] = [(.inr "a", x1)] from rfl]
          have s9 := same_new s8 hkn' (o := .dK [(.inr "a", x1)])
          have b9 : upd H8 kn' (.dK [(.inr "a", x1)]) kn' = some (.dK [(.inr "a", x1)]) := upd_same
          have k0' : H kn' = none := sB.free (s8.free hkn')
          have nfk : fl ≠ kn' := ne_of_none (s8 _ _ ffl7) hkn'
          have nsk : sy ≠ kn' := ne_of_none (s8 _ _ fsy7) hkn'
          have nhk : h ≠ kn' := ne_of_none (s8 _ _ fh7) hkn'
          generalize upd H8 kn' (.dK [(.inr "a", x1)]) = H9 at s9 b9 ⊢
          have sD := sB.trans s9
          have fh9 := s9 _ _ fh7
          refine ⟨_, rfl, h, _, rfl, DPut.k (k := .inr "known") fh9 (by show 10 < sizeLine; decide), ?_⟩
          have eK : putK (hereX nm kn fl sy mk pu) (.inr "known") (.ref kn') = hereX nm kn' fl sy mk pu := rfl
          rw [eK]
          have fh10 : upd H9 h (.dK (hereX nm kn' fl sy mk pu)) h = some (.dK (hereX nm kn' fl sy mk pu)) := upd_same
          have sE := same_mut (o := .dK (hereX nm kn' fl sy mk pu)) sD hh0
          have fkn10 : upd H9 h (.dK (hereX nm kn' fl sy mk pu)) kn' = some (.dK [(.inr "a", x1)]) := by rw [upd_ne nhk.symm]; exact b9
          have fsy10 : upd H9 h (.dK (hereX nm kn' fl sy mk pu)) sy = some (.lst []) := by rw [upd_ne nsh]; exact s9 _ _ fsy7
          have fmk10 : upd H9 h (.dK (hereX nm kn' fl sy mk pu)) mk = some (.lst []) := by rw [upd_ne nmh]; exact s9 _ _ fmk7
          have fpu10 : upd H9 h (.dK (hereX nm kn' fl sy mk pu)) pu = some (.lst []) := by rw [upd_ne nup]; exact s9 _ _ fpu7
          generalize upd H9 h (.dK (hereX nm kn' fl sy mk pu)) = H10 at fh10 sE fkn10 fsy10 fmk10 fpu10 ⊢
          have hea : s07.env "a" = some ("1#0" : Str) := (if_pos rfl : (if ("a" : Str) = "a" then some ("1#0" : Str) else none) = some ("1#0" : Str))
          have st : St7 H10 kn' mk pu 0 s07 := by
            refine ⟨nmp, ⟨_, fkn10, (by show 1 ≤ 1; decide), fun x n q => ?_⟩, ⟨[], fmk10, .nil⟩, ⟨[], fpu10, .nil⟩, Nat.le_refl _, Nat.le_refl _, fun x n q => ?_⟩
            · have q' : (if x = "a" then some ("1#0" : Str) else none) = some n := q
              by_cases ex : x = "a"
              · subst ex
                rw [if_pos rfl] at q'
                cases q'
                exact ⟨x1, by simp [valV], hx1.mono (sameTups sE)⟩
              · rw [if_neg ex] at q'
                cases q'
            · have q' : (if x = "a" then some ("1#0" : Str) else none) = some n := q
              by_cases ex : x = "a"
              · rw [if_pos ex] at q'
                cases q'
                exact good10
              · rw [if_neg ex] at q'
                cases q'
          refine ⟨_, rfl, _, rfl, _, rfl, .ref b, t2, h, wb, dd, nm, kn', fl, sy, mk, pu, 0, s07, _, rfl, hb0.on sE, by rw [topD_eq]; exact f2.mono (sameTups sE), fh10, nhk, st, ⟨_, hea⟩, oks, by omega, gn, fun H11 b11 st11 => ?_⟩
          have hoff := st.hoff fh10 nhk
          have off : ∀ {a : Addr} {o : HO}, H a = some o → ¬ M3 kn' mk pu a := fun {a o} e m => by
            rcases m with m | m | m
            · rw [m, k0'] at e; cases e
            · rw [m, mk0] at e; cases e
            · rw [m, pu0] at e; cases e
          rw [Nat.zero_add] at st11
          exact .inr ⟨rfl, fun a o e => b11 a o (off e) (sE a o e), _, _, _, kn', rfl, b11 _ _ hoff fh10, b11 _ _ (fun m => by rcases m with m | m | m; exact nsk m; exact nsm m; exact nsp m) fsy10, st11⟩
      · rintro σ' H' (⟨z, _⟩ | ⟨_, s, o9, o10, o11, kn', rfl, eh, esy, st⟩)
        · cases z
        obtain ⟨ms, emk, ams⟩ := st.mks
        obtain ⟨ps, epu, aps⟩ := st.pus
        refine ⟨_, rfl, rfl, _, rfl, iteF ?_⟩
        have fin : ∀ {H1 : Hp}, Same H' H1 → H1 h = some (.dK (hereX nm kn' fl sy mk pu)) := fun q => q _ _ eh
        refine ⟨_, rfl, h, _, rfl, dget_str eh rfl, sy, [], rfl, .inl ⟨SqL.of esy, fun l1 hl1 => ?_⟩⟩
        have r1 := same_new (Same.refl H') hl1 (o := .tup [])
        have g1 : upd H' l1 (.tup []) l1 = some (.tup []) := upd_same
        generalize upd H' l1 (.tup []) = Ha1 at r1 g1 ⊢
        refine ⟨_, rfl, h, _, rfl, dget_str (fin r1) rfl, mk, ms, rfl, .inl ⟨SqL.of (r1 _ _ emk), fun l2 hl2 => ?_⟩⟩
        have r2' := same_new (Same.refl Ha1) hl2 (o := .tup ms)
        have r2 := r1.trans r2'
        have g2 : upd Ha1 l2 (.tup ms) l2 = some (.tup ms) := upd_same
        have g1 := r2' _ _ g1
        generalize upd Ha1 l2 (.tup ms) = Ha2 at r2 g2 g1 ⊢
        refine ⟨_, rfl, h, _, rfl, dget_str (fin r2) rfl, pu, ps, rfl, .inl ⟨SqL.of (r2 _ _ epu), fun l3 hl3 => ?_⟩⟩
        have r3' := same_new (Same.refl Ha2) hl3 (o := .tup ps)
        have r3 := r2.trans r3'
        have g3 : upd Ha2 l3 (.tup ps) l3 = some (.tup ps) := upd_same
        have g1 := r3' _ _ g1
        have g2 := r3' _ _ g2
        generalize upd Ha2 l3 (.tup ps) = Ha3 at r3 g3 g2 g1 ⊢
        refine ⟨(by show 3 ≤ sizeLine; decide), fun t3 ht3 => ?_⟩
        have r4' := same_new (Same.refl Ha3) ht3 (o := .tup [.ref l1, .ref l2, .ref l3])
        have r4 := r3.trans r4'
        have g4 : upd Ha3 t3 (.tup [.ref l1, .ref l2, .ref l3]) t3 = some (.tup [.ref l1, .ref l2, .ref l3]) := upd_same
        have g1 := r4' _ _ g1
        have g2 := r4' _ _ g2
        have g3 := r4' _ _ g3
        generalize upd Ha3 t3 (.tup [.ref l1, .ref l2, .ref l3]) = Ha at r4 g4 g3 g2 g1 ⊢
        refine ⟨_, rfl, h, _, rfl, dget_str (fin r4) rfl, (by show 2 ≤ sizeLine; decide), fun o ho => ?_⟩
        have r5' := same_new (Same.refl Ha) ho (o := .tup [.str "kept", .non])
        have r5 := r4.trans r5'
        have g5 : upd Ha o (.tup [.str "kept", .non]) o = some (.tup [.str "kept", .non]) := upd_same
        generalize upd Ha o (.tup [.str "kept", .non]) = Hb at r5 r5' g5 ⊢
        refine ⟨_, rfl, h, _, rfl, dget_str (fin r5) rfl, (by show 2 ≤ sizeLine; decide), fun t4 ht4 => ?_⟩
        have r6'' := same_new (Same.refl Hb) ht4 (o := .tup [.ref o, .ref fl])
        have r6 := r5.trans r6''
        have r6' := r5'.trans r6''
        have g6 : upd Hb t4 (.tup [.ref o, .ref fl]) t4 = some (.tup [.ref o, .ref fl]) := upd_same
        generalize upd Hb t4 (.tup [.ref o, .ref fl]) = Hc at r6 r6' r6'' g6 ⊢
        refine ⟨_, rfl, t4, t3, _, _, rfl, rfl, SqT.of g6, SqT.of (r6' _ _ g4), (by show 2 + 3 ≤ sizeLine; decide), (fun z => nomatch z), (fun _ z => nomatch z), fun _ _ t5 ht5 => ?_⟩
        have r7s := same_new (Same.refl Hc) ht5 (o := .tup ([.ref o, .ref fl] ++ [.ref l1, .ref l2, .ref l3]))
        have g7 : upd Hc t5 (.tup ([.ref o, .ref fl] ++ [.ref l1, .ref l2, .ref l3])) t5 = some (.tup ([.ref o, .ref fl] ++ [.ref l1, .ref l2, .ref l3])) := upd_same
        generalize upd Hc t5 (.tup ([.ref o, .ref fl] ++ [.ref l1, .ref l2, .ref l3])) = Hd at r7s g7 ⊢
        have r7 := r6.trans r7s
        refine ⟨_, rfl, h, _, rfl, dget_str (fin r7) rfl, (by show 1 ≤ sizeLine; decide), fun t6 ht6 => ?_⟩
        have r8s := same_new (Same.refl Hd) ht6 (o := .tup [.non])
        have g8 : upd Hd t6 (.tup [.non]) t6 = some (.tup [.non]) := upd_same
        have g7 := r8s _ _ g7
        generalize upd Hd t6 (.tup [.non]) = He at r8s g8 g7 ⊢
        refine ⟨t5, t6, _, _, rfl, rfl, SqT.of g7, SqT.of g8, (by show 5 + 1 ≤ sizeLine; decide), (fun z => nomatch z), (fun _ z => nomatch z), fun _ _ t7 ht7 => ?_⟩
        have r9s := same_new (Same.refl He) ht7 (o := .tup ([.ref o, .ref fl] ++ [.ref l1, .ref l2, .ref l3] ++ [.non]))
        have rA := ((r6''.trans r7s).trans r8s).trans r9s
        have rB := r5'.trans rA
        have rC := r5.trans rA
        exact k t7 fl l1 l2 l3 kn' (.ref o) ms ps _ (s.trans rC) upd_same (.tup (rA _ _ g5) (.cons (.str _) (.cons .non .nil))) (rB _ _ g1) (rB _ _ g2) (ams.imp fun u r m => st.mkB (sameBut rC _) m) (rB _ _ g3) (aps.imp fun u r m => st.puB (sameBut rC _) m)
end
end K3
namespace K3
open PySem PySem.Spec PyProof.Rows L2 GG
/-! ### law_k07: many deeds, drawn -/
theorem cutV_upto {xs : List V} {k : Nat} : cutV xs none (some (k : Int)) = xs.take k := by
  have e1 : HT.sIx xs.length xs.length (some (k : Int)) = min k xs.length := HT.sIx_nat ..
  have e0 : HT.sIx xs.length 0 none = 0 := rfl
  unfold cutV
  rw [e1, e0, Nat.sub_zero, List.drop_zero, List.take_eq_take_iff]
  omega
theorem cutV_uptoI {xs : List V} {k : Int} (h : 0 ≤ k) : cutV xs none (some k) = xs.take k.toNat := by
  have q := cutV_upto (xs := xs) (k := k.toNat)
  rwa [Int.toNat_of_nonneg h] at q
theorem runD_add {nm : Str} {s : Sm} {dd : List Dd} {d : Dd} : runD nm s (dd ++ [d]) = stepD nm (runD nm s dd) d := by
  unfold runD
  rw [List.foldl_append]
  rfl
theorem OkAll.add {nm : Str} {d : Dd} : ∀ {dd : List Dd} {s : Sm}, OkAll nm s dd → OkDd (runD nm s dd) d → OkAll nm s (dd ++ [d])
  | [], _, _, h => ⟨h, trivial⟩
  | x :: dd, s, g, h => ⟨g.1, OkAll.add (dd := dd) (s := stepD nm s x) g.2 h⟩
theorem env_more {nm : Str} {s : Sm} {d : Dd} {w : Str} (h : ∃ n, s.env w = some n) : ∃ n, (stepD nm s d).env w = some n := by
  cases d with
  | wh x xs => exact h
  | ca v x xs =>
    show ∃ n, (if w = v then some _ else s.env w) = some n
    by_cases e : w = v
    · exact ⟨_, if_pos e⟩
    · rw [if_neg e]
      exact h
  | mk v xs =>
    show ∃ n, (if w = v then some _ else s.env w) = some n
    by_cases e : w = v
    · exact ⟨_, if_pos e⟩
    · rw [if_neg e]
      exact h
structure Md (H0 H : Hp) (p c : Addr) (ns : List Int) (n : Nat) (fo kl : Addr) (i : Nat) (dd : List Dd) (ws : List Str) : Prop where
  pen : Pen H p c ns n
  fnd : ∃ vs, H fo = some (.lst vs) ∧ DtAll H vs (dd.map ddD)
  ln : dd.length = i
  kn : H kl = some (.lst (ws.map V.str))
  l1 : 1 ≤ ws.length
  lw : ws.length ≤ i + 1
  ok : ∀ nm, OkAll nm s07 dd
  ev : ∀ w ∈ ws, ∀ nm, ∃ n, (runD nm s07 dd).env w = some n
  ne : fo ≠ kl
  b : But (· = p) H0 H
  f0 : H0 fo = none
  np : fo ≠ p
  nc : fo ≠ c
section
variable {H0 H H' : Hp} {p c : Addr} {ns : List Int} {n m : Nat} {fo kl : Addr} {i : Nat} {dd : List Dd} {ws : List Str}
theorem Md.but (h : Md H0 H p c ns n fo kl i dd ws) (b : But (· = p) H H') (hP : Pen H' p c ns m) : Md H0 H' p c ns m fo kl i dd ws := by
  obtain ⟨vs, e, al⟩ := h.fnd
  exact ⟨hP, ⟨vs, b _ _ h.np e, al.mono (h.pen.tups b)⟩, h.ln, b _ _ (h.pen.ne h.kn) h.kn, h.l1, h.lw, h.ok, h.ev, h.ne, h.b.trans b, h.f0, h.np, h.nc⟩
theorem Md.on (h : Md H0 H p c ns n fo kl i dd ws) (s : Same H H') : Md H0 H' p c ns n fo kl i dd ws := h.but (sameBut s _) (h.pen.but (sameBut s fun _ => False) id id)
theorem Md.more (h : Md H0 H p c ns n fo kl i dd ws) (l : n ≤ m) : Md H0 H p c ns m fo kl i dd ws := h.but (But.refl _ _) (h.pen.mono l)
theorem Md.add (h : Md H0 H p c ns n fo kl i dd ws) {v : V} {vs : List V} {d : Dd} (e : H fo = some (.lst vs)) (hd : Dt H v (ddD d)) (okd : ∀ nm, OkDd (runD nm s07 dd) d) : Md H0 (upd H fo (.lst (vs ++ [v]))) p c ns n fo kl (i + 1) (dd ++ [d]) ws := by
  obtain ⟨vs', e', al⟩ := h.fnd
  rw [e] at e'
  cases e'
  have t : Tups H (upd H fo (.lst (vs ++ [v]))) := (Tups.refl _).mut e (by intro _ z; cases z)
  refine ⟨h.pen.mut h.np h.nc, ⟨_, upd_same, ?_⟩, by rw [List.length_append, h.ln]; rfl, by rw [upd_ne h.ne.symm]; exact h.kn, h.l1, Nat.le_succ_of_le h.lw, fun nm => (h.ok nm).add (okd nm), fun w hw nm => ?_, h.ne, h.b.mutNew h.f0, h.f0, h.np, h.nc⟩
  · rw [List.map_append]
    exact (al.app (.cons hd .nil)).mono t
  · rw [runD_add]
    exact env_more (h.ev w hw nm)
end
theorem Md.know {H0 H : Hp} {p c : Addr} {ns : List Int} {n : Nat} {fo kl : Addr} {i : Nat} {dd : List Dd} {ws : List Str} (h : Md H0 H p c ns n fo kl i dd ws) {k2 : Addr} (hk : H k2 = none) {zs : List Str} (few : (ws ++ zs).length ≤ i + 1) (ev : ∀ w ∈ zs, ∀ nm, ∃ n, (runD nm s07 dd).env w = some n) :
    Md H0 (upd H k2 (.lst ((ws ++ zs).map V.str))) p c ns n fo k2 i dd (ws ++ zs) := by
  obtain ⟨vs, e, al⟩ := h.fnd
  have nf : fo ≠ k2 := ne_of_none e hk
  have l1 := h.l1
  have s := same_new (Same.refl H) hk (o := .lst ((ws ++ zs).map V.str))
  exact ⟨h.pen.new hk, ⟨vs, s _ _ e, al.mono (sameTups s)⟩, h.ln, upd_same, by rw [List.length_append]; omega, few, h.ok, fun w hw nm => (List.mem_append.mp hw).elim (fun q => h.ev w q nm) (fun q => ev w q nm), nf, h.b.trans (sameBut s _), h.f0, h.np, h.nc⟩
def spMany : Sp := fun vs H Q _ => ∃ (p c : Addr) (ns : List Int) (n : Nat) (m : Int), vs = [.ref p, .int m] ∧ Pen H p c ns n ∧ n + 300 ≤ 1000000000 ∧ 0 ≤ m ∧ m ≤ 39 ∧
  ∀ (v : V) (dd : List Dd) (H' : Hp), Dt H' v (.tuple (dd.map ddD)) → dd.length ≤ 39 → (∀ nm, OkAll nm s07 dd) → Pen H' p c ns (n + 300) → But (· = p) H H' → Q v H'
abbrev sMany : Stmt := top 61
abbrev nMD : List Str := ["_law_pen_here", "_law_many", "_law_found", "_law_known", "_law_k", "_law_lot", "_law_term", "_law_some", "_law_j"]
theorem scMD : FnScope nMD ["_law_pen_here", "_law_many"] (defScope sMany) := ⟨rfl, rfl, rfl, by decide +kernel, rfl, by decide +kernel, by decide +kernel⟩
section
variable {P : Program} {w : World} {K : PySem.W.Frag} {mg : Str → Option Value} {base : Heap}
theorem ok_many {f : Addr} {fd : FuncData} (F : Fun K "_law_many_deeds" "_law_many_deeds" sMany f fd) (T : Txt mg) (CD : Cal P w K mg base "_law_draw" 1 ["_law_pen_here", "_law_many"] spDraw)
    (CP : Cal P w K mg base "_law_pick" 2 ["_law_pen_here", "_law_some"] spPick) : FnOk P w K mg base CX0 3 f fd ["_law_pen_here", "_law_many"] spMany := by
  obtain ⟨fD, fdD, mD, kD, bD, GD⟩ := CD
  obtain ⟨fP, fdP, mP, kP, bP, GP⟩ := CP
  refine F.ok scMD (fun vs H Q E h => ?_) (fun cdv A outer s H vs Q E hr h => ?_)
  · obtain ⟨p, c, ns, n, m, rfl, _⟩ := h
    rfl
  · obtain ⟨p, c, ns, n, m, rfl, hP, hn, m0, m39, k⟩ := h
    have nd := scMD.nd
    have hr1 : Room 1 _ := hr.mono (by decide)
    refine ⟨_, pss_cons (ps_asg (pe_tup (pa_cons (pe_lst pa_nil) (pa_cons (pe_lst (pa_cons pe_str pa_nil)) pa_nil))) (pg_tup rfl (pgs_cons (pg_name (i := 2) nd rfl (Or.inl rfl)) (pgs_cons (pg_name (i := 3) nd rfl (Or.inr rfl)) pgs_nil))))
      (pss_cons (ps_for PassesOwn.never rfl (pi_range1 rfl T.range (pa_cons (pv 1) pa_nil)) (pg_name (i := 4) nd rfl (Or.inl rfl))
        (C8.pss_cut (ps_par (i := 5) (j := 6) rfl nd rfl rfl (by decide) rfl rfl (pa_cons (pe_call GD hr1 (by rfl) mD kD bD .nil pass0 (pa_cons (pv 0) (pa_cons pe_int pa_nil)))
            (pa_cons (pe_call GP hr (by rfl) mP kP bP .nil pass0 (pa_cons (pv 0) (pa_cons (pe_lst (pa_cons pe_str (pa_cons pe_str (pa_cons pe_str (pa_cons pe_str pa_nil))))) pa_nil))) pa_nil)) (by rfl))
        (C8.pss_cut (ps_setLc (i := 7) (own := [("_law_j", 8)]) (g := gName 8) (tt := tYes) rfl nd rfl rfl (sw_true rfl rfl rfl (by decide +kernel)) (pi_range1 rfl T.range (pa_cons pe_int pa_nil))
            (blkOk_by (N := nMD) (sc := defScope sMany) (by decide +kernel)) (fun _ _ _ _ _ => pg_name (i := 8) nd rfl (Or.inl rfl)) (fun _ _ _ _ _ => pts_nil)
            (fun _ _ _ _ _ => pe_tup (pa_cons pe_str (pa_cons (pe_call GP hr (by rfl) mP kP bP .nil pass0 (pa_cons (pv 0) (pa_cons (pv 3) pa_nil))) pa_nil))))
        (C8.pss_cut (ps_if (pt_cmpR op_eq (pv 5) pe_int (nomark _))
            (pss_one (ps_expr (pe_bm PySem.F.plainAttrs_list PySem.F.slot_list_append PySem.F.type_list_append mt_append (pv 2) (pa_cons (pe_tup (pa_cons pe_str (pa_cons (pe_ix ix_list (pv 7) pe_int (fun _ _ => rfl)) (pa_cons pe_str
              (pa_cons (pe_callTy call_tuple_of (by rfl) T.tuple (by decide +kernel) (pa_cons (pe_slice sl_list (pv 7) po_none (po_some (pe_call GD hr1 (by rfl) mD kD bD .nil pass0 (pa_cons (pv 0) (pa_cons pe_int pa_nil))))) pa_nil)) pa_nil))))) pa_nil))))
            (pss_one (ps_if (pt_cmpR op_lt (pv 5) pe_int (nomark _))
              (pss_one (ps_expr (pe_bm PySem.F.plainAttrs_list PySem.F.slot_list_append PySem.F.type_list_append mt_append (pv 2) (pa_cons (pe_tup (pa_cons pe_str (pa_cons (pv 6) (pa_cons (pe_ix ix_list (pv 7) pe_int (fun _ _ => rfl)) (pa_cons pe_str
                (pa_cons (pe_callTy call_tuple_of (by rfl) T.tuple (by decide +kernel) (pa_cons (pe_slice sl_list (pv 7) po_none (po_some (pe_call GD hr1 (by rfl) mD kD bD .nil pass0 (pa_cons (pv 0) (pa_cons pe_int pa_nil))))) pa_nil)) pa_nil)))))) pa_nil))))
              (pss_one (ps_expr (pe_bm PySem.F.plainAttrs_list PySem.F.slot_list_append PySem.F.type_list_append mt_append (pv 2) (pa_cons (pe_tup (pa_cons pe_str (pa_cons (pv 6) (pa_cons pe_str
                (pa_cons (pe_callTy call_tuple_of (by rfl) T.tuple (by decide +kernel) (pa_cons (pe_slice sl_list (pv 7) po_none (po_some (pe_call GD hr1 (by rfl) mD kD bD .nil pass0 (pa_cons (pv 0) (pa_cons pe_int pa_nil))))) pa_nil)) pa_nil))))) pa_nil)))))))
        (pss_one (ps_set (i := 3) nd rfl (.inr rfl) (pe_op op_cat (pv 3) (pe_op op_rep (pe_lst (pa_cons (pv 6) pa_nil)) (pe_callTy call_int1 (by rfl) T.int (by decide +kernel) (pa_cons (pe_cmpR op_gt (pv 5) pe_int (nomark _)) pa_nil)))))))))) 
      (pss_one (ps_ret (pe_callTy call_tuple_of (by rfl) T.tuple (by decide +kernel) (pa_cons (pv 2) pa_nil))))), ?_⟩
    -- nothing found, a known
    refine ⟨Nat.zero_le _, fun fo hfo => ?_⟩
    have nf := hP.fresh hfo
    have s1 := same_new (Same.refl H) hfo (o := .lst [])
    have f1 : upd H fo (.lst []) fo = some (.lst []) := upd_same
    generalize upd H fo (.lst []) = H1 at s1 f1 ⊢
    refine ⟨(by show 1 ≤ sizeLine; decide), fun kl hkl => ?_⟩
    have nfk : fo ≠ kl := ne_of_none f1 hkl
    have s2' := same_new (Same.refl H1) hkl (o := .lst [.str "a"])
    have k2 : upd H1 kl (.lst [.str "a"]) kl = some (.lst [.str "a"]) := upd_same
    have f2 := s2' _ _ f1
    generalize upd H1 kl (.lst [.str "a"]) = H2 at s2' k2 f2 ⊢
    have s2 := s1.trans s2'
    refine ⟨(by show 2 ≤ sizeLine; decide), fun tt htt => ?_⟩
    have s3' := same_new (Same.refl H2) htt (o := .tup [.ref fo, .ref kl])
    have t3 : upd H2 tt (.tup [.ref fo, .ref kl]) tt = some (.tup [.ref fo, .ref kl]) := upd_same
    generalize upd H2 tt (.tup [.ref fo, .ref kl]) = H3 at s3' t3 ⊢
    have s3 := s2.trans s3'
    refine ⟨tt, _, rfl, SqT.of t3, rfl, _, _, rfl, _, _, rfl, rfl, ?_⟩
    have hea : s07.env "a" = some ("1#0" : Str) := (if_pos rfl : (if ("a" : Str) = "a" then some ("1#0" : Str) else none) = some ("1#0" : Str))
    have md0 : Md H H3 p c ns n fo kl 0 [] ["a"] := ⟨hP.but (sameBut s3 fun _ => False) id id, ⟨[], s3' _ _ f2, .nil⟩, rfl, s3' _ _ k2, by decide, by decide, fun _ => trivial, fun w hw nm => ⟨"1#0", by
      rw [List.mem_singleton.mp hw]
      exact hea⟩, nfk, sameBut s3 _, hfo, nf.1, nf.2⟩
    refine ⟨_, rfl, m, rfl, by omega, by omega, for_range (lo := 0) (n := m.toNat) (fun i σ' H' => ∃ (kl : Addr) (v4 v5 v6 v7 : Option V) (dd : List Dd) (ws : List Str), σ' = [some (.ref p), some (.int m), some (.ref fo), some (.ref kl), v4, v5, v6, v7, none] ∧ Md H H' p c ns (n + 6 * i) fo kl i dd ws) ?_ ?_ ?_⟩
    · exact ⟨kl, _, _, _, _, _, _, rfl, md0⟩
    · clear md0 s3 t3 s3' s2 f2 k2 s2' nfk hkl f1 s1 kl
      rintro i σ' H0 hi ⟨kl, v4, v5, v6, v7, dd, ws, rfl, md0⟩
      have i39 : i < 39 := by omega
      -- the lot, the term
      refine ⟨fun σ' H' => ∃ (v4 : Option V) (lot : Int) (tm : Str), 0 ≤ lot ∧ lot < 5 ∧ σ' = [some (.ref p), some (.int m), some (.ref fo), some (.ref kl), v4, some (.int lot), some (.str tm), v7, none] ∧ Md H H' p c ns (n + 6 * i + 2) fo kl i dd ws, ?_, ?_⟩
      · refine ⟨_, rfl, p, c, ns, _, 5, rfl, md0.pen, by omega, by decide, by decide, fun lot H1 l0 l5 hP1 b1 => ?_⟩
        have md1 := md0.but b1 hP1
        refine ⟨_, rfl, (by show 4 ≤ sizeLine; decide), fun l hl => ?_⟩
        have md2 := md1.on (same_new (Same.refl H1) hl (o := .lst [.str "v", .str "w", .str "x", .str "y"]))
        refine ⟨p, c, ns, _, _, [.str "v", .str "w", .str "x", .str "y"], rfl, md2.pen, by omega, ⟨by decide, by decide, .inl ⟨l, rfl, .inl upd_same⟩⟩, fun v H3 hv hP3 b3 => ?_⟩
        obtain ⟨z, rfl⟩ : ∃ z, v = .str z := by
          simp only [List.mem_cons, List.not_mem_nil, or_false] at hv
          rcases hv with rfl | rfl | rfl | rfl <;> exact ⟨_, rfl⟩
        exact ⟨_, _, rfl, _, lot, z, l0, l5, rfl, (md2.but b3 hP3).more (by omega)⟩
      rintro σ1 H1 ⟨v4, lot, tm, l0, l5, rfl, md1⟩
      clear md0
      -- three vars
      refine ⟨fun σ' H' => ∃ (sm : Addr) (us : List V) (xs : List Str), σ' = [some (.ref p), some (.int m), some (.ref fo), some (.ref kl), v4, some (.int lot), some (.str tm), some (.ref sm), none] ∧ H' sm = some (.lst us) ∧ DtAll H' us (xs.map vrD) ∧ xs.length = 3 ∧ (∀ x ∈ xs, x ∈ ws) ∧ Md H H' p c ns (n + 6 * i + 5) fo kl i dd ws, ?_, ?_⟩
      · refine ⟨3, rfl, by decide, by decide, fun D hD => ?_⟩
        have nD := md1.pen.fresh hD
        refine lc_range (lo := 0) (n := 3) (fun j H' => ∃ (us : List V) (xs : List Str), H' D = some (.lst us) ∧ DtAll H' us (xs.map vrD) ∧ xs.length = j ∧ (∀ x ∈ xs, x ∈ ws) ∧ Pen H' p c ns (n + 6 * i + 2 + j) ∧ But (· = p) H1 H') ?_ ?_ ?_
        · exact ⟨[], [], upd_same, .nil, rfl, fun x hx => absurd hx (by simp), md1.pen.new hD, (But.refl _ _).new hD⟩
        · rintro j H2 hj ⟨us, xs, hDa, al, lx, hx, hP2, b2⟩
          have md2 := md1.but b2 hP2
          have lw := md2.lw
          refine ⟨rfl, _, rfl, _, rfl, p, c, ns, _, _, _, rfl, hP2, by omega, ⟨by rw [List.length_map]; exact md2.l1, by rw [List.length_map]; omega, .inl ⟨kl, rfl, .inl md2.kn⟩⟩, fun v H3 hv hP3 b3 => ?_⟩
          obtain ⟨z, hz, rfl⟩ := List.mem_map.mp hv
          refine ⟨(by show 2 ≤ sizeLine; decide), fun t ht => ?_⟩
          have s4 := same_new (Same.refl H3) ht (o := .tup [.str "var", .str z])
          have e4 : upd H3 t (.tup [.str "var", .str z]) t = some (.tup [.str "var", .str z]) := upd_same
          have hP4 := hP3.new ht (o := .tup [.str "var", .str z])
          generalize upd H3 t (.tup [.str "var", .str z]) = H4 at s4 e4 hP4 ⊢
          have hD4 := s4 _ _ (b3 _ _ (hP2.ne hDa) hDa)
          have ll := al.length
          rw [List.length_map] at ll
          refine ⟨us, hD4, small1000 (by omega), us ++ [.ref t], xs ++ [z], upd_same, ?_, by simp [lx], fun x q => ?_, (hP4.mut nD.1 nD.2).mono (by omega), ((b2.trans b3).trans (sameBut s4 _)).mutNew hD⟩
          · have tm' : Tups H4 (upd H4 D (.lst (us ++ [.ref t]))) := (Tups.refl _).mut hD4 (by intro _ z; cases z)
            rw [List.map_append]
            exact ((((al.mono (hP2.tups b3)).mono (sameTups s4)).app (.cons (.tup e4 (.cons (.str _) (.cons (.str _) .nil))) .nil))).mono tm'
          · rcases List.mem_append.mp q with q | q
            · exact hx x q
            · rw [List.mem_singleton.mp q]
              exact hz
        · rintro H2 ⟨us, xs, hDa, al, lx, hx, hP2, b2⟩
          exact ⟨D, us, xs, rfl, hDa, al, lx, hx, md1.but b2 hP2⟩
      rintro σ2 H2 ⟨sm, us, xs, rfl, hsm, al, lx, hx, md⟩
      clear md1
      have ll := al.length
      rw [List.length_map, lx] at ll
      match us, xs, ll, lx with
      | [u0, u1, u2], [x0, x1, x2], _, _ =>
      have md2 := md
      obtain ⟨vs2, hfo2, _⟩ := md2.fnd
      have c0 : atI [u0, u1, u2] 0 = some u0 := atI_int (by decide) rfl
      -- the deed
      refine ⟨fun σ' H' => ∃ (d : Dd), σ' = [some (.ref p), some (.int m), some (.ref fo), some (.ref kl), v4, some (.int lot), some (.str tm), some (.ref sm), none] ∧ Md H H' p c ns (n + 6 * i + 6) fo kl (i + 1) (dd ++ [d]) ws ∧ (0 < lot → ∀ nm, ∃ n, (runD nm s07 (dd ++ [d])).env tm = some n), ?_, ?_⟩
      · refine ⟨_, rfl, rfl, _, rfl, ite2 (fun e => ?_) (fun ne => ⟨_, rfl, _, _, rfl, rfl, _, rfl, ite2 (fun e => ?_) (fun ne2 => ?_)⟩)⟩
        · have le0 : lot = 0 := by
            have e' : V.int lot = V.int 0 := of_decide_eq_true e
            cases e'
            rfl
          refine ⟨_, rfl, .inl ⟨rfl, _, SqL.of hfo2⟩, _, rfl, sm, _, _, u0, rfl, rfl, SqL.of hsm, c0, _, rfl, _, rfl, ?_⟩
          refine ⟨p, c, ns, _, 3, rfl, md2.pen, by omega, by decide, by decide, fun r H3 r0 r3 hP3 b3 => ⟨r, rfl, sm, _, rfl, SqL.of (b3 _ _ (md2.pen.ne hsm) hsm), fun q hq => ?_⟩⟩
          rw [cutV_uptoI r0]
          have md3 := md2.but b3 hP3
          have t3 := md2.pen.tups b3
          have s4 := same_new (Same.refl H3) hq (o := .lst ([u0, u1, u2].take r.toNat))
          have e4 : upd H3 q (.lst ([u0, u1, u2].take r.toNat)) q = some (.lst ([u0, u1, u2].take r.toNat)) := upd_same
          generalize upd H3 q (.lst ([u0, u1, u2].take r.toNat)) = H4 at s4 e4 ⊢
          refine ⟨q, _, rfl, .inl ⟨SqL.of e4, fun t ht => ?_⟩⟩
          have s5' := same_new (Same.refl H4) ht (o := .tup ([u0, u1, u2].take r.toNat))
          have e5 : upd H4 t (.tup ([u0, u1, u2].take r.toNat)) t = some (.tup ([u0, u1, u2].take r.toNat)) := upd_same
          generalize upd H4 t (.tup ([u0, u1, u2].take r.toNat)) = H5 at s5' e5 ⊢
          have s5 := s4.trans s5'
          refine ⟨(by show 4 ≤ sizeLine; decide), fun w hw => ?_⟩
          have s6' := same_new (Same.refl H5) hw (o := .tup [.str "when", u0, .str "go", .ref t])
          have e6 : upd H5 w (.tup [.str "when", u0, .str "go", .ref t]) w = some (.tup [.str "when", u0, .str "go", .ref t]) := upd_same
          generalize upd H5 w (.tup [.str "when", u0, .str "go", .ref t]) = H6 at s6' e6 ⊢
          have s6 := s5.trans s6'
          have md6 := md3.on s6
          have al6 := (al.mono t3).mono (sameTups s6)
          have tk : DtAll H6 ([u0, u1, u2].take r.toNat) (([x0, x1, x2].take r.toNat).map vrD) := by
            have q := al6.take r.toNat
            rwa [← List.map_take] at q
          have ht6 : Dt H6 (.ref t) (.tuple (([x0, x1, x2].take r.toNat).map vrD)) := .tup (s6' _ _ e5) tk
          cases al6 with
          | @cons _ _ _ _ g0 _ =>
          have hd : Dt H6 (.ref w) (ddD (.wh x0 ([x0, x1, x2].take r.toNat))) := .tup e6 (.cons (.str _) (.cons g0 (.cons (.str _) (.cons ht6 .nil))))
          have few : ([x0, x1, x2].take r.toNat).length ≤ 3 := List.length_take_le' _ _
          have sub : ∀ x ∈ [x0, x1, x2].take r.toNat, x ∈ ws := fun x q => hx x (List.mem_of_mem_take q)
          have okd : ∀ nm, OkDd (runD nm s07 dd) (.wh x0 ([x0, x1, x2].take r.toNat)) := fun nm => ⟨fun x q => md.ev x (by
            rcases List.mem_cons.mp q with rfl | q
            · exact hx _ (by simp)
            · exact sub x q) nm, by show (List.take _ _).length + 1 ≤ 4; omega, trivial⟩
          obtain ⟨vs, hfo6, _⟩ := md6.fnd
          have lv : vs.length = i := by rw [DtAll.length ‹_›, List.length_map, md6.ln]
          refine ⟨fo, _, _, rfl, rfl, hfo6, small1000 (by omega), ?_⟩
          exact ⟨.wh x0 ([x0, x1, x2].take r.toNat), rfl, (md6.add hfo6 hd okd).more (by omega), fun z => absurd z (by omega)⟩
        · refine ⟨_, rfl, .inl ⟨rfl, _, SqL.of hfo2⟩, _, rfl, _, rfl, sm, _, _, u0, rfl, rfl, SqL.of hsm, c0, _, rfl, _, rfl, ?_⟩
          refine ⟨p, c, ns, _, 4, rfl, md2.pen, by omega, by decide, by decide, fun r H3 r0 r3 hP3 b3 => ⟨r, rfl, sm, _, rfl, SqL.of (b3 _ _ (md2.pen.ne hsm) hsm), fun q hq => ?_⟩⟩
          rw [cutV_uptoI r0]
          have md3 := md2.but b3 hP3
          have t3 := md2.pen.tups b3
          have s4 := same_new (Same.refl H3) hq (o := .lst ([u0, u1, u2].take r.toNat))
          have e4 : upd H3 q (.lst ([u0, u1, u2].take r.toNat)) q = some (.lst ([u0, u1, u2].take r.toNat)) := upd_same
          generalize upd H3 q (.lst ([u0, u1, u2].take r.toNat)) = H4 at s4 e4 ⊢
          refine ⟨q, _, rfl, .inl ⟨SqL.of e4, fun t ht => ?_⟩⟩
          have s5' := same_new (Same.refl H4) ht (o := .tup ([u0, u1, u2].take r.toNat))
          have e5 : upd H4 t (.tup ([u0, u1, u2].take r.toNat)) t = some (.tup ([u0, u1, u2].take r.toNat)) := upd_same
          generalize upd H4 t (.tup ([u0, u1, u2].take r.toNat)) = H5 at s5' e5 ⊢
          have s5 := s4.trans s5'
          refine ⟨(by show 5 ≤ sizeLine; decide), fun w hw => ?_⟩
          have s6' := same_new (Same.refl H5) hw (o := .tup [.str "call", .str tm, u0, .str "go", .ref t])
          have e6 : upd H5 w (.tup [.str "call", .str tm, u0, .str "go", .ref t]) w = some (.tup [.str "call", .str tm, u0, .str "go", .ref t]) := upd_same
          generalize upd H5 w (.tup [.str "call", .str tm, u0, .str "go", .ref t]) = H6 at s6' e6 ⊢
          have s6 := s5.trans s6'
          have md6 := md3.on s6
          have al6 := (al.mono t3).mono (sameTups s6)
          have tk : DtAll H6 ([u0, u1, u2].take r.toNat) (([x0, x1, x2].take r.toNat).map vrD) := by
            have q := al6.take r.toNat
            rwa [← List.map_take] at q
          have ht6 : Dt H6 (.ref t) (.tuple (([x0, x1, x2].take r.toNat).map vrD)) := .tup (s6' _ _ e5) tk
          cases al6 with
          | @cons _ _ _ _ g0 _ =>
          have hd : Dt H6 (.ref w) (ddD (.ca tm x0 ([x0, x1, x2].take r.toNat))) := .tup e6 (.cons (.str _) (.cons (.str _) (.cons g0 (.cons (.str _) (.cons ht6 .nil)))))
          have few : ([x0, x1, x2].take r.toNat).length ≤ 3 := List.length_take_le' _ _
          have sub : ∀ x ∈ [x0, x1, x2].take r.toNat, x ∈ ws := fun x q => hx x (List.mem_of_mem_take q)
          have okd : ∀ nm, OkDd (runD nm s07 dd) (.ca tm x0 ([x0, x1, x2].take r.toNat)) := fun nm => ⟨fun x q => md.ev x (by
            rcases List.mem_cons.mp q with rfl | q
            · exact hx _ (by simp)
            · exact sub x q) nm, by show (List.take _ _).length + 1 ≤ 4; omega, trivial⟩
          obtain ⟨vs, hfo6, _⟩ := md6.fnd
          have lv : vs.length = i := by rw [DtAll.length ‹_›, List.length_map, md6.ln]
          refine ⟨fo, _, _, rfl, rfl, hfo6, small1000 (by omega), ?_⟩
          exact ⟨.ca tm x0 ([x0, x1, x2].take r.toNat), rfl, (md6.add hfo6 hd okd).more (by omega), fun _ nm => ⟨_, by rw [runD_add]; exact if_pos rfl⟩⟩
        · refine ⟨_, rfl, .inl ⟨rfl, _, SqL.of hfo2⟩, _, rfl, _, rfl, _, rfl, ?_⟩
          refine ⟨p, c, ns, _, 4, rfl, md2.pen, by omega, by decide, by decide, fun r H3 r0 r3 hP3 b3 => ⟨r, rfl, sm, _, rfl, SqL.of (b3 _ _ (md2.pen.ne hsm) hsm), fun q hq => ?_⟩⟩
          rw [cutV_uptoI r0]
          have md3 := md2.but b3 hP3
          have t3 := md2.pen.tups b3
          have s4 := same_new (Same.refl H3) hq (o := .lst ([u0, u1, u2].take r.toNat))
          have e4 : upd H3 q (.lst ([u0, u1, u2].take r.toNat)) q = some (.lst ([u0, u1, u2].take r.toNat)) := upd_same
          generalize upd H3 q (.lst ([u0, u1, u2].take r.toNat)) = H4 at s4 e4 ⊢
          refine ⟨q, _, rfl, .inl ⟨SqL.of e4, fun t ht => ?_⟩⟩
          have s5' := same_new (Same.refl H4) ht (o := .tup ([u0, u1, u2].take r.toNat))
          have e5 : upd H4 t (.tup ([u0, u1, u2].take r.toNat)) t = some (.tup ([u0, u1, u2].take r.toNat)) := upd_same
          generalize upd H4 t (.tup ([u0, u1, u2].take r.toNat)) = H5 at s5' e5 ⊢
          have s5 := s4.trans s5'
          refine ⟨(by show 4 ≤ sizeLine; decide), fun w hw => ?_⟩
          have s6' := same_new (Same.refl H5) hw (o := .tup [.str "make", .str tm, .str "k", .ref t])
          have e6 : upd H5 w (.tup [.str "make", .str tm, .str "k", .ref t]) w = some (.tup [.str "make", .str tm, .str "k", .ref t]) := upd_same
          generalize upd H5 w (.tup [.str "make", .str tm, .str "k", .ref t]) = H6 at s6' e6 ⊢
          have s6 := s5.trans s6'
          have md6 := md3.on s6
          have al6 := (al.mono t3).mono (sameTups s6)
          have tk : DtAll H6 ([u0, u1, u2].take r.toNat) (([x0, x1, x2].take r.toNat).map vrD) := by
            have q := al6.take r.toNat
            rwa [← List.map_take] at q
          have ht6 : Dt H6 (.ref t) (.tuple (([x0, x1, x2].take r.toNat).map vrD)) := .tup (s6' _ _ e5) tk
          cases al6 with
          | @cons _ _ _ _ g0 _ =>
          have hd : Dt H6 (.ref w) (ddD (.mk tm ([x0, x1, x2].take r.toNat))) := .tup e6 (.cons (.str _) (.cons (.str _) (.cons (.str _) (.cons ht6 .nil))))
          have few : ([x0, x1, x2].take r.toNat).length ≤ 3 := List.length_take_le' _ _
          have sub : ∀ x ∈ [x0, x1, x2].take r.toNat, x ∈ ws := fun x q => hx x (List.mem_of_mem_take q)
          have okd : ∀ nm, OkDd (runD nm s07 dd) (.mk tm ([x0, x1, x2].take r.toNat)) := fun nm => ⟨fun x q => md.ev x (sub x q) nm, by show (List.take _ _).length ≤ 4; omega, few⟩
          obtain ⟨vs, hfo6, _⟩ := md6.fnd
          have lv : vs.length = i := by rw [DtAll.length ‹_›, List.length_map, md6.ln]
          refine ⟨fo, _, _, rfl, rfl, hfo6, small1000 (by omega), ?_⟩
          exact ⟨.mk tm ([x0, x1, x2].take r.toNat), rfl, (md6.add hfo6 hd okd).more (by omega), fun _ nm => ⟨_, by rw [runD_add]; exact if_pos rfl⟩⟩
      rintro σ3 H3 ⟨d, rfl, md3, hev⟩
      have lw := md.lw
      refine ⟨_, rfl, _, rfl, (by show 1 ≤ sizeLine; decide), fun q hq => ?_⟩
      have md4 := md3.on (same_new (Same.refl H3) hq (o := .lst [.str tm]))
      have e4 : upd H3 q (.lst [.str tm]) q = some (.lst [.str tm]) := upd_same
      generalize upd H3 q (.lst [.str tm]) = H4 at md4 e4 ⊢
      refine ⟨_, rfl, _, _, rfl, rfl, .inr ⟨_, rfl, ?_⟩⟩
      by_cases hl : (0 : Int) < lot
      · rw [decide_eq_true hl]
        refine ⟨q, 1, [.str tm], rfl, rfl, e4, by decide, by decide, (by show 1 * _ ≤ sizeLine; decide), fun q2 hq2 => ?_⟩
        have md5 := md4.on (same_new (Same.refl H4) hq2 (o := .lst (List.replicate (1 : Int).toNat [V.str tm]).flatten))
        have e5 : upd H4 q2 (.lst (List.replicate (1 : Int).toNat [V.str tm]).flatten) q2 = some (.lst [V.str tm]) := by rw [upd_same]; rfl
        generalize upd H4 q2 (.lst (List.replicate (1 : Int).toNat [V.str tm]).flatten) = H5 at md5 e5 ⊢
        refine ⟨kl, q2, _, _, rfl, rfl, md5.kn, e5, Nat.le_of_lt (small1000 (by rw [List.length_map]; show ws.length + 1 ≤ 1000; omega)), fun k2 hk2 => ?_⟩
        have e6 : ws.map V.str ++ [V.str tm] = (ws ++ [tm]).map V.str := by rw [List.map_append]; rfl
        rw [e6]
        exact ⟨k2, _, _, _, _, _, _, rfl, md5.know hk2 (by rw [List.length_append]; show ws.length + 1 ≤ i + 1 + 1; omega) (fun w hw nm => by rw [List.mem_singleton.mp hw]; exact hev hl nm)⟩
      · rw [decide_eq_false hl]
        refine ⟨q, 0, [.str tm], rfl, rfl, e4, by decide, by decide, (by show 1 * _ ≤ sizeLine; decide), fun q2 hq2 => ?_⟩
        have md5 := md4.on (same_new (Same.refl H4) hq2 (o := .lst (List.replicate (0 : Int).toNat [V.str tm]).flatten))
        have e5 : upd H4 q2 (.lst (List.replicate (0 : Int).toNat [V.str tm]).flatten) q2 = some (.lst []) := by rw [upd_same]; rfl
        generalize upd H4 q2 (.lst (List.replicate (0 : Int).toNat [V.str tm]).flatten) = H5 at md5 e5 ⊢
        refine ⟨kl, q2, _, _, rfl, rfl, md5.kn, e5, Nat.le_of_lt (small1000 (by rw [List.length_map]; show ws.length + 0 ≤ 1000; omega)), fun k2 hk2 => ?_⟩
        have e6 : ws.map V.str ++ [] = (ws ++ []).map V.str := by rw [List.map_append]; rfl
        rw [e6]
        exact ⟨k2, _, _, _, _, _, _, rfl, md5.know hk2 (by rw [List.length_append]; show ws.length + 0 ≤ i + 1 + 1; omega) (fun w hw nm => absurd hw (by simp))⟩
    · rintro σ' H' ⟨kl', v4, v5, v6, v7, dd, ws, rfl, md⟩
      obtain ⟨vs, hfo', al⟩ := md.fnd
      refine ⟨_, rfl, fo, vs, rfl, .inl ⟨SqL.of hfo', fun l hl => ?_⟩⟩
      have s := same_new (Same.refl H') hl (o := .tup vs)
      have ln := md.ln
      exact k _ dd _ (.tup upd_same (al.mono (sameTups s))) (by omega) md.ok (((md.on s).pen).mono (by omega)) (md.b.trans (sameBut s _))
end
end K3
namespace K3
open PySem PySem.Spec PyProof.Rows L2 GG
/-! ### law_k07: what all names are good for; how long what is shown may be -/
structure Ck (n : Str) : Prop where
  g : GoodN n
  sz : (reprText n).length ≤ 40
def ckB (n : Str) : Bool := (isNameZ n && decide (n.length ≤ 400)) && ((PyData.strOk n && isHoldL (holdN n)) && decide ((reprText n).length ≤ 40))
theorem ckB_ok {n : Str} (h : ckB n = true) : Ck n := by
  simp only [ckB, Bool.and_eq_true] at h
  exact ⟨⟨h.1.1, of_decide_eq_true h.1.2, h.2.1.1, h.2.1.2⟩, of_decide_eq_true h.2.2⟩
def NmZ (nm : Str) : Prop := ∀ k, k < 100 → Ck (nmS nm "#" k) ∧ Ck (nmS nm "." k)
theorem NmZ.good {nm : Str} (h : NmZ nm) : GoodNm nm := fun k l => ⟨(h k l).1.g, (h k l).2.g⟩
abbrev nmsZ : List Str := ["0:0", "3:12", "5:1.10.2"]
theorem nms_table : (nmsZ.all fun nm => (List.range 100).all fun k => ckB (nmS nm "#" k) && ckB (nmS nm "." k)) = true := by decide +kernel
theorem nms_ok {nm : Str} (h : nm ∈ nmsZ) : NmZ nm := fun k l => by
  have t := List.all_eq_true.mp (List.all_eq_true.mp nms_table nm h) k (List.mem_range.mpr l)
  rw [Bool.and_eq_true] at t
  exact ⟨ckB_ok t.1, ckB_ok t.2⟩
theorem ck10 : Ck "1#0" := ⟨good10, by decide +kernel⟩
/-! data with bools, shown -/
mutual
def szB : PyData → Nat
  | .int _ => 16
  | .str z => (reprText z).length
  | .tuple xs => szBs xs + 3
  | _ => 8
def szBs : List PyData → Nat
  | [] => 0
  | x :: xs => szB x + 2 + szBs xs
end
mutual
def okB : PyData → Bool
  | .none => true
  | .str _ => true
  | .bool _ => true
  | .tuple xs => okBs xs
  | _ => false
def okBs : List PyData → Bool
  | [] => true
  | x :: xs => okB x && okBs xs
end
theorem tupleText_leB (ts : List Str) : (tupleText ts).length ≤ piled ts + 3 := by
  unfold tupleText
  rw [strLen_append, strLen_append]
  have e1 : (("(" : String) : Str).length = 1 := rfl
  have e2 : (Str.ofString (if (ts.length == 1) = true then ",)" else ")")).length ≤ 2 := by
    cases ts.length == 1
    · exact Nat.le_succ 1
    · exact Nat.le_refl 2
  cases ts with
  | nil =>
    have e3 : (Str.join ", " []).length = 0 := rfl
    rw [e1, e3]
    omega
  | cons t r =>
    have e3 := join_length_add (t :: r) (by simp)
    rw [e1]
    omega
mutual
theorem shown_szB : ∀ d : PyData, okB d = true → d.showable = true ∧ d.hasDict = false ∧ d.shown.length ≤ szB d
  | .none, _ => ⟨rfl, rfl, by decide +kernel⟩
  | .bool b, _ => ⟨by cases b <;> decide +kernel, by cases b <;> decide +kernel, by cases b <;> decide +kernel⟩
  | .str z, _ => ⟨rfl, rfl, by simp only [PyData.shown, szB]; exact Nat.le_refl _⟩
  | .tuple xs, h => by
    obtain ⟨a, b, c⟩ := shown_szBs xs (by simpa only [okB] using h)
    refine ⟨by simpa only [PyData.showable] using a, by simpa only [PyData.hasDict] using b, ?_⟩
    simp only [PyData.shown, szB]
    exact Nat.le_trans (tupleText_leB _) (by omega)
  | .list xs, h => by simp [okB] at h
  | .int xs, h => by simp [okB] at h
  | .dict xs, h => by simp [okB] at h
theorem shown_szBs : ∀ ds : List PyData, okBs ds = true → PyData.showableAll ds = true ∧ PyData.hasDictAll ds = false ∧ piled (PyData.shownAll ds) ≤ szBs ds
  | [], _ => ⟨rfl, rfl, Nat.le_refl _⟩
  | d :: ds, h => by
    simp only [okBs, Bool.and_eq_true] at h
    obtain ⟨a, b, c⟩ := shown_szB d h.1
    obtain ⟨a', b', c'⟩ := shown_szBs ds h.2
    refine ⟨by simp only [PyData.showableAll, a, a', Bool.and_self], by simp only [PyData.hasDictAll, b, b', Bool.or_self], ?_⟩
    simp only [PyData.shownAll, piled_cons, szBs]
    omega
end
theorem show_tup {xs : List PyData} (h1 : okBs xs = true) (h2 : szBs xs ≤ 1000000) (h3 : PyData.depthAll xs ≤ 20) : ShowOk (.tuple xs) := by
  obtain ⟨a, b, c⟩ := shown_szB (.tuple xs) (by simpa only [okB] using h1)
  refine ⟨a, b, by simp only [PyData.depth]; omega, Nat.le_trans c ?_, (fun i z => nomatch z), fun b z => nomatch z⟩
  simp only [szB]
  exact Nat.le_trans (Nat.add_le_add_right h2 3) (by decide)
theorem fits_all {m k : Nat} : ∀ {ds : List PyData}, (∀ d ∈ ds, okB d = true ∧ szB d ≤ m ∧ d.depth ≤ k) → okBs ds = true ∧ szBs ds ≤ ds.length * (m + 2) ∧ PyData.depthAll ds ≤ k
  | [], _ => ⟨rfl, Nat.zero_le _, by simp [PyData.depthAll]⟩
  | d :: ds, h => by
    obtain ⟨a, b, c⟩ := h d (List.mem_cons_self ..)
    obtain ⟨a', b', c'⟩ := fits_all (m := m) (k := k) (ds := ds) fun e he => h e (List.mem_cons_of_mem _ he)
    refine ⟨by simp only [okBs, a, a', Bool.and_self], ?_, by simp only [PyData.depthAll]; omega⟩
    simp only [szBs, List.length_cons, Nat.succ_mul]
    omega
end K3
namespace GG
open PySem PySem.Spec PyProof.Rows L2
/-! ### != of two dicts, or of two lists of dicts, whose worths are equal data -/
section
variable {X : Cx} {pins : List (Addr × Obj)} {σ : L2.St} {H : Hp} {s : Shared}
def EqF (K : PySem.W.Frag) (H : Hp) (x y : V) : Prop := ∃ d, Dp K H x d ∧ Dp K H y d ∧ SeqAt.shaped d = true
def EqG (K : PySem.W.Frag) (H : Hp) (x y : V) : Prop := EqR K H (EqF K H) x y
theorem eqF_run (I : L2.Inv X pins σ H s) {A : Around} (hu : A.units + 64 < cLine) (x y : V) (v u : Value) (h : EqF X.K H x y) (rx : RelV x v) (ry : RelV y u) : SeqAt.EqP X.prog X.w A s v u true := by
  obtain ⟨d, h1, h2, sh⟩ := h
  obtain ⟨as, r1⟩ := Dp.reads I d x v h1 rx
  obtain ⟨bs, r2⟩ := Dp.reads I d y u h2 ry
  have cl := SeqAt.canLay_of_shaped sh
  have q := SeqAt.eqAt_reads d d A s v u as bs r1 r2 cl cl (SeqAt.room_of_shaped sh hu)
  rw [SeqAt.eqv_refl d cl] at q
  exact q.eqP
theorem eqG_run (I : L2.Inv X pins σ H s) {A : Around} (hu : A.units + 66 < cLine) (x y : V) (v u : Value) (h : EqG X.K H x y) (rx : RelV x v) (ry : RelV y u) : SeqAt.EqP X.prog X.w A s v u true := by
  have go := eqR_run I (A := A) (by omega) (eqF_run I (A := A.in1) (by show A.units + 1 + 64 < cLine; omega)) h rx ry
  obtain ⟨a, b, rfl, rfl⟩ : ∃ a b, x = .ref a ∧ y = .ref b := by
    rcases h with ⟨a, b, _, _, e1, e2, _⟩ | ⟨a, b, _, _, e1, e2, _⟩ <;> exact ⟨a, b, e1, e2⟩
  cases (show v = Value.ref a from rx)
  cases (show u = Value.ref b from ry)
  by_cases e : a = b
  · subst e
    exact (SeqAt.EqAt.same _).eqP
  · exact SeqAt.eqP_refs e go
theorem ne_run (I : L2.Inv X pins σ H s) {A : Around} {F : V → V → Prop} (hu : A.units + 2 < cLine) (ih : ∀ x y v u, F x y → RelV x v → RelV y u → SeqAt.EqP X.prog X.w A.in1 s v u true) {x y : V} {v u : Value} (h : EqR X.K H F x y) (rx : RelV x v) (ry : RelV y u)
    {E Q : Value → Shared → Prop} (q : Q (.bool false) s) : wpAny (model X.prog X.w) A (richCompare .NotEq v u) Q E s := by
  rcases h with ⟨a, b, xs, ys, rfl, rfl, ha, hb, hp⟩ | ⟨a, b, ks, ls, rfl, rfl, ha, hb, hl, hp⟩
  · obtain rfl : v = Value.ref a := rx
    obtain rfl : u = Value.ref b := ry
    obtain ⟨us, r1, p1, _⟩ := I.list ha
    obtain ⟨ws, r2, p2, _⟩ := I.list hb
    have sz : us.toArray.size = ws.toArray.size := by
      have := Paired.length hp
      have := r1.length
      have := r2.length
      simp only [List.size_toArray]
      omega
    refine ne_lists p1.isList p2.isList sz (by omega) (fun j h1 h2 => ?_) q
    simpa using items_run ih hp r1 r2 j (by simpa using h1) (by simpa using h2)
  · obtain rfl : v = Value.ref a := rx
    obtain rfl : u = Value.ref b := ry
    obtain ⟨_, ya, va, ra, da⟩ := (show ObjOk X.prog X.w H s.heap a (.dK ks) from I.hok a _ ha)
    obtain ⟨_, yb, vb, rb, db⟩ := (show ObjOk X.prog X.w H s.heap b (.dK ls) from I.hok b _ hb)
    exact dict_ne_of ya yb da db (by omega) (by have := ra.length; have := rb.length; omega) (hits_run ih rb ra hp) q
end
section
variable {X : Cx}
def rNeF (K : PySem.W.Frag) : R2 := fun x y H Q => EqR K H (EqF K H) x y ∧ Q (.bl false) H
def rNeG (K : PySem.W.Frag) : R2 := fun x y H Q => EqR K H (EqG K H) x y ∧ Q (.bl false) H
theorem op_neF (hu : X.A.units + 68 < cLine) : OpR X (compareOp .NotEq) (rNeF X.K) := by
  rintro pins s σ H x y v u Q I rx ry ⟨h, q⟩
  exact ne_run I (A := X.A) (by omega) (eqF_run I (A := X.A.in1) (by show X.A.units + 1 + 64 < cLine; omega)) h rx ry ⟨.bl false, H, I, rfl, q⟩
theorem op_neG (hu : X.A.units + 68 < cLine) : OpR X (compareOp .NotEq) (rNeG X.K) := by
  rintro pins s σ H x y v u Q I rx ry ⟨h, q⟩
  exact ne_run I (A := X.A) (by omega) (eqG_run I (A := X.A.in1) (by show X.A.units + 1 + 66 < cLine; omega)) h rx ry ⟨.bl false, H, I, rfl, q⟩
end
end GG
namespace K3
open PySem PySem.Spec PyProof.Rows L2 GG
/-! ### what is made and put, in numbers -/
def putD (r : PutR) : PyData := .tuple [.str r.nm, r.to, .str "go", .tuple r.ar, .bool r.w]
structure Sz (nm : Str) (i : Nat) (s : Sm) : Prop where
  env : ∀ x n, s.env x = some n → Ck n
  lm : s.mks.length ≤ i
  lp : s.pus.length ≤ i
  nmP : s.pus.map (·.nm) = (List.range s.pus.length).map (nmS nm ".")
  nmM : s.mks.map (·.1) = (List.range s.mks.length).map (nmS nm "#")
  pus : ∀ r ∈ s.pus, okB (putD r) = true ∧ szB (putD r) ≤ 1000 ∧ (putD r).depth ≤ 10
  mks : ∀ r ∈ s.mks, ∀ d ∈ r.2, Gd 2 d
  mkn : ∀ r ∈ s.mks, PyData.strOk r.1 = true ∧ r.1.length ≤ 1000
  pun : ∀ r ∈ s.pus, PyData.strOk r.nm = true ∧ r.nm.length ≤ 1000
theorem hold_fits {n : Str} (h : Ck n) : okB (holdN n) = true ∧ szB (holdN n) ≤ 60 ∧ (holdN n).depth ≤ 2 := by
  have a := h.sz
  have b : (reprText "to").length ≤ 6 := by decide +kernel
  refine ⟨by simp [holdN, okB, okBs], ?_, by simp [holdN, PyData.depth, PyData.depthAll]⟩
  simp only [holdN, szB, szBs]
  omega
theorem put_fits {r : PutR} (h1 : (reprText r.nm).length ≤ 40) (h2 : okB r.to = true ∧ szB r.to ≤ 60 ∧ r.to.depth ≤ 2) (h3 : ∀ d ∈ r.ar, okB d = true ∧ szB d ≤ 60 ∧ d.depth ≤ 2) (h4 : r.ar.length ≤ 4) : okB (putD r) = true ∧ szB (putD r) ≤ 1000 ∧ (putD r).depth ≤ 10 := by
  obtain ⟨a, b, c⟩ := fits_all h3
  obtain ⟨a', b', c'⟩ := h2
  have d : (reprText "go").length ≤ 6 := by decide +kernel
  have e : r.ar.length * (60 + 2) ≤ 4 * 62 := Nat.mul_le_mul_right _ h4
  refine ⟨by simp [putD, okB, okBs, a, a'], ?_, ?_⟩
  · simp only [putD, szB, szBs]
    omega
  · simp only [putD, PyData.depth, PyData.depthAll]
    omega
theorem fill_gd {es : List PyData} (h : ∀ d ∈ es, Gd 2 d) (i : Nat) : Gd 2 (fillD es i) := by
  unfold fillD
  rw [List.getD_eq_getElem?_getD]
  cases e : (es ++ defs7.drop es.length)[i]? with
  | none => exact Gd.non
  | some d =>
    rcases List.mem_append.mp (List.mem_of_getElem? e) with q | q
    · exact h d q
    · have q' := List.mem_of_mem_drop q
      simp only [defs7, List.mem_cons, List.not_mem_nil, or_false] at q'
      rcases q' with rfl | rfl | rfl
      · exact Gd.int
      · exact ⟨(by show 2 ≤ 1000; decide), fun e he => by
          simp only [List.mem_cons, List.not_mem_nil, or_false] at he
          rcases he with rfl | rfl
          · exact Gd.strI (by decide) (by decide +kernel)
          · exact Gd.int⟩
      · exact Gd.non
theorem Sz.step {nm : Str} {i : Nat} {s : Sm} {d : Dd} (h : Sz nm i s) (z : NmZ nm) (hi : i < 90) (ok : OkDd s d) : Sz nm (i + 1) (stepD nm s d) := by
  have ck : ∀ x ∈ ddV d, Ck (s.of x) := fun x hx => by
    obtain ⟨n, e⟩ := ok.1 x hx
    rw [Sm.of_some e]
    exact h.env x n e
  have l4 := ok.2.1
  have lm := h.lm
  have lp := h.lp
  have zP := (z s.pus.length (by omega)).2
  have zM := (z s.mks.length (by omega)).1
  have envs : ∀ v n, Ck n → ∀ x m, setE s.env v n x = some m → Ck m := fun v n g x m e => by
    have e' : (if x = v then some n else s.env x) = some m := e
    by_cases q : x = v
    · rw [if_pos q] at e'
      cases e'
      exact g
    · rw [if_neg q] at e'
      exact h.env x m e'
  have sP : ∀ r : PutR, r.nm = nmS nm "." s.pus.length → (s.pus ++ [r]).map (·.nm) = (List.range (s.pus ++ [r]).length).map (nmS nm ".") := fun r e => by
    rw [List.length_append, List.length_singleton, List.range_succ, List.map_append, List.map_append, ← h.nmP]
    simp [e]
  have sM : ∀ r : Str × List PyData, r.1 = nmS nm "#" s.mks.length → (s.mks ++ [r]).map (·.1) = (List.range (s.mks ++ [r]).length).map (nmS nm "#") := fun r e => by
    rw [List.length_append, List.length_singleton, List.range_succ, List.map_append, List.map_append, ← h.nmM]
    simp [e]
  have holds : ∀ xs : List Str, (∀ x ∈ xs, x ∈ ddV d) → ∀ e ∈ xs.map (fun y => holdN (s.of y)), okB e = true ∧ szB e ≤ 60 ∧ e.depth ≤ 2 := fun xs hx e he => by
    obtain ⟨y, hy, rfl⟩ := List.mem_map.mp he
    exact hold_fits (ck y (hx y hy))
  cases d with
  | wh x xs =>
    have l4' : xs.length + 1 ≤ 4 := l4
    refine ⟨h.env, Nat.le_succ_of_le lm, ?_, sP _ rfl, h.nmM, fun r hr => ?_, h.mks, h.mkn, fun r hr => ?_⟩
    · show (s.pus ++ [_]).length ≤ i + 1
      rw [List.length_append]
      exact Nat.succ_le_succ lp
    · rcases List.mem_append.mp hr with q | q
      · exact h.pus r q
      · rw [List.mem_singleton.mp q]
        exact put_fits zP.sz (hold_fits (ck x (List.mem_cons_self ..))) (holds xs fun y hy => List.mem_cons_of_mem _ hy) (by show (xs.map _).length ≤ 4; rw [List.length_map]; omega)
    · rcases List.mem_append.mp hr with q | q
      · exact h.pun r q
      · rw [List.mem_singleton.mp q]
        exact ⟨zP.g.ok, Nat.le_trans zP.g.len (by decide)⟩
  | ca v x xs =>
    have l4' : xs.length + 1 ≤ 4 := l4
    refine ⟨envs v _ zP, Nat.le_succ_of_le lm, ?_, sP _ rfl, h.nmM, fun r hr => ?_, h.mks, h.mkn, fun r hr => ?_⟩
    · show (s.pus ++ [_]).length ≤ i + 1
      rw [List.length_append]
      exact Nat.succ_le_succ lp
    · rcases List.mem_append.mp hr with q | q
      · exact h.pus r q
      · rw [List.mem_singleton.mp q]
        have c := (ck x (List.mem_cons_self ..)).sz
        exact put_fits zP.sz ⟨rfl, by simp only [szB]; omega, by simp [PyData.depth]⟩ (holds xs fun y hy => List.mem_cons_of_mem _ hy) (by show (xs.map _).length ≤ 4; rw [List.length_map]; omega)
    · rcases List.mem_append.mp hr with q | q
      · exact h.pun r q
      · rw [List.mem_singleton.mp q]
        exact ⟨zP.g.ok, Nat.le_trans zP.g.len (by decide)⟩
  | mk v xs =>
    refine ⟨envs v _ zM, ?_, Nat.le_succ_of_le lp, h.nmP, sM _ rfl, h.pus, fun r hr d hd => ?_, fun r hr => ?_, h.pun⟩
    · show (s.mks ++ [_]).length ≤ i + 1
      rw [List.length_append]
      exact Nat.succ_le_succ lm
    · rcases List.mem_append.mp hr with q | q
      · exact h.mks r q d hd
      · rw [List.mem_singleton.mp q] at hd
        have all : ∀ e ∈ xs.map (fun y => holdN (s.of y)), Gd 2 e := fun e he => by
          obtain ⟨y, hy, rfl⟩ := List.mem_map.mp he
          exact gdN (ck y hy).g
        simp only [List.mem_cons, List.not_mem_nil, or_false] at hd
        rcases hd with rfl | rfl | rfl <;> exact fill_gd all _
    · rcases List.mem_append.mp hr with q | q
      · exact h.mkn r q
      · rw [List.mem_singleton.mp q]
        exact ⟨zM.g.ok, Nat.le_trans zM.g.len (by decide)⟩
theorem Sz.run {nm : Str} (z : NmZ nm) : ∀ {dd : List Dd} {i : Nat} {s : Sm}, Sz nm i s → i + dd.length ≤ 90 → OkAll nm s dd → Sz nm (i + dd.length) (runD nm s dd)
  | [], _, _, h, _, _ => h
  | d :: dd, i, s, h, l, ok => by
    simp only [List.length_cons] at l
    have q := Sz.run z (dd := dd) (h.step z (by omega) ok.1) (by omega) ok.2
    have e : i + 1 + dd.length = i + (d :: dd).length := by rw [List.length_cons]; omega
    rw [e] at q
    exact q
theorem sz07 {nm : Str} : Sz nm 0 s07 := by
  refine ⟨fun x n e => ?_, Nat.le_refl _, Nat.le_refl _, rfl, rfl, ?_, ?_, ?_, ?_⟩
  · have e' : (if x = "a" then some ("1#0" : Str) else none) = some n := e
    by_cases q : x = "a"
    · rw [if_pos q] at e'
      cases e'
      exact ck10
    · rw [if_neg q] at e'
      cases e'
  all_goals
    intro r hr
    exact (List.not_mem_nil hr).elim
end K3
namespace K3
open PySem PySem.Spec PyProof.Rows L2 GG
/-! ### displays of data -/
theorem sq_set {te : TE} {g : TG} {u : TS} {D : Ends} {σ : L2.St} {H : Hp} (h : te σ H fun v H1 => g v σ H1 (u D)) : tSeq (tAsg te g) u D σ H := h
theorem pl_set {te : TE} {g : TG} {D : Ends} {σ : L2.St} {H : Hp} (h : te σ H fun v H1 => g v σ H1 D.nx) : tAsg te g D σ H := h
def Rd (te : TE) (σ : L2.St) (H : Hp) (d : PyData) : Prop := ∀ H1, Same H H1 → ∀ Q : VK, (∀ v H', Same H1 H' → Dt H' v d → Q v H') → te σ H1 Q
def Rds (ta : TA) (σ : L2.St) (H : Hp) (ds : List PyData) : Prop := ∀ H1, Same H H1 → ∀ Q : List V → Hp → Prop, (∀ vs H', Same H1 H' → DtAll H' vs ds → Q vs H') → ta σ H1 Q
section
variable {σ : L2.St} {H : Hp} {te tb : TE} {ta : TA} {d : PyData} {ds es : List PyData}
theorem rd_str {z : Str} : Rd (tC (.str z)) σ H (.str z) := fun H1 _ Q k => k _ _ (Same.refl _) (.str _)
theorem rd_int {i : Int} : Rd (tC (.int i)) σ H (.int i) := fun H1 _ Q k => k _ _ (Same.refl _) (.int _)
theorem rd_non : Rd (tC .non) σ H .none := fun H1 _ Q k => k _ _ (Same.refl _) .non
theorem rd_neg {i : Int} : Rd (tUn (rU fun i => .int (-i)) (tC (.int i))) σ H (.int (-i)) := fun H1 _ Q k => ⟨i, rfl, k _ _ (Same.refl _) (.int _)⟩
theorem rd_var {i : Nat} {v : V} (e : σ[i]? = some (some v)) (h : Dt H v d) : Rd (tVar i) σ H d := fun H1 s Q k => ⟨v, e, k _ _ (Same.refl _) (h.mono (sameTups s))⟩
theorem rds_nil : Rds tNil σ H [] := fun H1 _ Q k => k _ _ (Same.refl _) .nil
theorem rds_cons (h : Rd te σ H d) (r : Rds ta σ H ds) : Rds (tCons te ta) σ H (d :: ds) := fun H1 s Q k =>
  h H1 s _ fun v H2 s2 h2 => r H2 (s.trans s2) _ fun vs H3 s3 h3 => k _ _ (s2.trans s3) (.cons (h2.mono (sameTups s3)) h3)
theorem rd_tup (h : Rds ta σ H ds) (l : ds.length ≤ 1000) : Rd (tTup ta) σ H (.tuple ds) := fun H1 s Q k =>
  h H1 s _ fun vs H2 s2 h2 => ⟨by rw [h2.length]; exact Nat.le_of_lt (small1000 l), fun p hp => by
    have s3 := same_new (Same.refl H2) hp (o := .tup vs)
    exact k _ _ (s2.trans s3) (.tup upd_same (h2.mono (sameTups s3)))⟩
theorem rd_catA {K : PySem.W.Frag} {xs ys : List PyData} (h1 : Rd te σ H (.tuple xs)) (h2 : Rd tb σ H (.tuple ys)) (l : xs.length + ys.length ≤ 1000) : Rd (tOp (rCatA K) te tb) σ H (.tuple (xs ++ ys)) := fun H1 s Q k =>
  h1 H1 s _ fun v H2 s2 e1 => h2 H2 (s.trans s2) _ fun u H3 s3 e2 => by
    have e1' := e1.mono (sameTups s3)
    obtain ⟨a, rfl⟩ := e1'.ref_of
    obtain ⟨b, rfl⟩ := e2.ref_of
    obtain ⟨vs, ha, da⟩ := e1'.tupI
    obtain ⟨us, hb, db⟩ := e2.tupI
    have s13 := s2.trans s3
    refine ⟨a, b, vs, us, rfl, rfl, SqT.of ha, SqT.of hb, by rw [da.length, db.length]; exact Nat.le_of_lt (small1000 l), fun q => ?_, fun _ q => ?_, fun _ _ p hp => ?_⟩
    · subst q
      cases da
      exact k _ _ s13 e2
    · subst q
      cases db
      rw [List.append_nil] at k
      exact k _ _ s13 e1'
    · have s4 := same_new (Same.refl H3) hp (o := .tup (vs ++ us))
      exact k _ _ (s13.trans s4) (.tup upd_same ((da.app db).mono (sameTups s4)))
theorem rd_rep2 {K : PySem.W.Frag} {xs : List PyData} (h1 : Rd te σ H (.tuple xs)) (n : xs ≠ []) (l : xs.length ≤ 100) : Rd (tOp (rRepT K) te (tC (.int 2))) σ H (.tuple (xs ++ xs)) := fun H1 s Q k =>
  h1 H1 s _ fun v H2 s2 e1 => by
    obtain ⟨a, rfl⟩ := e1.ref_of
    obtain ⟨vs, ha, da⟩ := e1.tupI
    have hl := da.length
    refine ⟨a, 2, vs, rfl, rfl, SqT.of ha, fun q => ?_, by decide, by decide, by omega, fun p hp => ?_⟩
    · subst q
      cases da
      exact n rfl
    · have e : (List.replicate (2 : Int).toNat vs).flatten = vs ++ vs := by
        show (List.replicate 2 vs).flatten = vs ++ vs
        simp [List.replicate]
      rw [e]
      have s4 := same_new (Same.refl H2) hp (o := .tup (vs ++ vs))
      exact k _ _ (s2.trans s4) (.tup upd_same ((da.app da).mono (sameTups s4)))
theorem rd_ixT {K : PySem.W.Frag} {xs : List PyData} {i : Nat} (h1 : Rd te σ H (.tuple xs)) (e : xs[i]? = some d) : Rd (tOp (rIxT K) te (tC (.int (i : Int)))) σ H d := fun H1 s Q k =>
  h1 H1 s _ fun v H2 s2 e1 => by
    obtain ⟨a, rfl⟩ := e1.ref_of
    obtain ⟨vs, ha, da⟩ := e1.tupI
    have hl := da.length
    have hi : i < xs.length := (List.getElem?_eq_some_iff.mp e).1
    obtain ⟨d', e2, q⟩ := da.get i (vs[i]'(by omega)) (List.getElem?_eq_getElem _)
    rw [e] at e2
    cases e2
    exact ⟨a, vs, (i : Int), _, rfl, rfl, SqT.of ha, atI_nat (List.getElem?_eq_getElem (by omega)), k _ _ s2 q⟩
/-- a new list of such -/
theorem rd_lst (h : Rds ta σ H ds) (l : ds.length ≤ 1000) {Q : VK} (k : ∀ p vs H', Same H H' → H' p = some (.lst vs) → DtAll H' vs ds → Q (.ref p) H') : tLst ta σ H Q :=
  h H (Same.refl H) _ fun vs H2 s2 h2 => ⟨by rw [h2.length]; exact Nat.le_of_lt (small1000 l), fun p hp => by
    have s3 := same_new (Same.refl H2) hp (o := .lst vs)
    exact k p vs _ (s2.trans s3) upd_same (h2.mono (sameTups s3))⟩
end
theorem same_pen {H H' : Hp} {p c : Addr} {ns : List Int} {n : Nat} (h : Pen H p c ns n) (s : Same H H') : Pen H' p c ns n := h.but (sameBut s fun _ => False) (fun z => z) (fun z => z)
theorem pl_op {r : R2} {te tb : TE} {σ : L2.St} {H : Hp} {Q : VK} (h : te σ H fun x H1 => tb σ H1 fun y H2 => r x y H2 Q) : tOp r te tb σ H Q := h
theorem pl_cons {te : TE} {ta : TA} {σ : L2.St} {H : Hp} {Q : List V → Hp → Prop} (h : te σ H fun x H1 => ta σ H1 fun xs H2 => Q (x :: xs) H2) : tCons te ta σ H Q := h
theorem pl_tup {ta : TA} {σ : L2.St} {H : Hp} {Q : VK} (h : ta σ H fun xs H1 => xs.length ≤ sizeLine ∧ ∀ p, H1 p = none → Q (.ref p) (upd H1 p (.tup xs))) : tTup ta σ H Q := h
theorem pl_tupF {ta : TA} {σ : L2.St} {H : Hp} {Q : VK} (h : ta σ H fun xs H1 => xs.length ≤ sizeLine ∧ ∀ (p : Addr) (o : Obj), H1 p = none → o.dict = none → Q (.ref p) (upd H1 p (.frz o (.tup xs)))) : tTupF ta σ H Q := h
theorem Pen.frzs {H H' : Hp} {p c : Addr} {ns : List Int} {n : Nat} (h : Pen H p c ns n) (b : But (· = p) H H') : Frzs H H' := b.frzs fun a o u m e => by
  obtain ⟨_, _, _, _, _, q, _⟩ := h
  rw [m, q] at e
  cases e
theorem rd_pl {K : PySem.W.Frag} {σ : L2.St} {H : Hp} {tf tm : TA} {ds : List PyData} (h1 : Rds tf σ H [.tuple [.str "f", .int 1], .tuple [.str "g", gDef], .tuple [.str "h", .none]]) (h2 : Rds tm σ H [methD7 ds]) {Q : VK} (k : ∀ v H', Same H H' → Pl7 H' v ds → Q v H') :
    tTup (tCons (tTup (tCons (tC (.str "k")) (tCons (tTupF tf) (tCons (tTup tm) tNil)))) tNil) σ H Q := by
  refine pl_tup (pl_cons (pl_tup (pl_cons ?_)))
  refine rd_str H (Same.refl H) _ fun vk H0 s0 hk => ?_
  cases hk
  refine pl_cons (pl_tupF ?_)
  refine h1 H0 s0 _ fun zs H1 s1' hzs => ⟨by rw [hzs.length]; decide, fun c o hc nod => ?_⟩
  have s1 := s0.trans s1'
  have s2' := same_new (Same.refl H1) hc (o := .frz o (.tup zs))
  have e2 : upd H1 c (.frz o (.tup zs)) c = some (.frz o (.tup zs)) := upd_same
  generalize upd H1 c (.frz o (.tup zs)) = H2 at s2' e2 ⊢
  have s2 := s1.trans s2'
  refine pl_cons (pl_tup ?_)
  refine h2 H2 s2 _ fun ms H3 s3 hms => ⟨by rw [hms.length]; show 1 ≤ sizeLine; decide, fun m hm => ?_⟩
  have s4' := same_new (Same.refl H3) hm (o := .tup ms)
  have e4 : upd H3 m (.tup ms) m = some (.tup ms) := upd_same
  generalize upd H3 m (.tup ms) = H4 at s4' e4 ⊢
  refine ⟨(by show 3 ≤ sizeLine; decide), fun b hb => ?_⟩
  have s5' := same_new (Same.refl H4) hb (o := .tup [.str "k", .ref c, .ref m])
  have e5 : upd H4 b (.tup [.str "k", .ref c, .ref m]) b = some (.tup [.str "k", .ref c, .ref m]) := upd_same
  generalize upd H4 b (.tup [.str "k", .ref c, .ref m]) = H5 at s5' e5 ⊢
  refine ⟨(by show 1 ≤ sizeLine; decide), fun a ha => ?_⟩
  have s6' := same_new (Same.refl H5) ha (o := .tup [.ref b])
  have s25 := (s3.trans s4').trans s5'
  have s26 := s25.trans s6'
  have s56 := s4'.trans (s5'.trans s6')
  exact k _ _ (s2.trans s26) ⟨a, _, rfl, upd_same, b, _, _, rfl, s6' _ _ e5, ⟨c, o, zs, rfl, s26 _ _ e2, nod, (hzs.mono (sameTups s2')).mono (sameTups s26)⟩, .tup ((s5'.trans s6') _ _ e4) (hms.mono (sameTups s56))⟩
theorem MkAt.on {k0 : Addr} {H H' : Hp} {v : V} {r : Str × List PyData} (h : MkAt k0 H v r) (s : Same H H') : MkAt k0 H' v r := by
  obtain ⟨t, d, x1, x2, x3, d1, d2, d3, rfl, ht, hd, nd, er, g1, g2, g3⟩ := h
  have tp := sameTups s
  exact ⟨t, d, x1, x2, x3, d1, d2, d3, rfl, s _ _ ht, s _ _ hd, nd, er, g1.mono tp, g2.mono tp, g3.mono tp⟩
theorem PuAt.on {H H' : Hp} {v : V} {r : PutR} (h : PuAt H v r) (s : Same H H') : PuAt H' v r := by
  obtain ⟨t, vt, va, rfl, ht, h1, h2⟩ := h
  exact ⟨t, vt, va, rfl, s _ _ ht, h1.mono (sameTups s), h2.mono (sameTups s)⟩
/-- what an act told, or what it was due -/
structure To (H : Hp) (t : Addr) (o : V) (f1 l1 l2 l3 k0 : Addr) (ms ps : List V) (R : Sm) : Prop where
  t : H t = some (.tup [o, .ref f1, .ref l1, .ref l2, .ref l3, .non])
  o : Dt H o (.tuple [.str "kept", .none])
  l1 : H l1 = some (.tup [])
  l2 : H l2 = some (.tup ms)
  ms : Al (MkAt k0 H) ms R.mks
  l3 : H l3 = some (.tup ps)
  ps : Al (PuAt H) ps R.pus
theorem To.on {H H' : Hp} {t : Addr} {o : V} {f1 l1 l2 l3 k0 : Addr} {ms ps : List V} {R : Sm} (h : To H t o f1 l1 l2 l3 k0 ms ps R) (s : Same H H') : To H' t o f1 l1 l2 l3 k0 ms ps R :=
  ⟨s _ _ h.t, h.o.mono (sameTups s), s _ _ h.l1, s _ _ h.l2, h.ms.imp fun _ _ m => m.on s, s _ _ h.l3, h.ps.imp fun _ _ m => m.on s⟩
theorem al_dp {K : PySem.W.Frag} {H : Hp} : ∀ {ps : List V} {rs : List PutR}, Al (PuAt H) ps rs → DpAll K H ps (rs.map putD)
  | _, _, .nil => .nil
  | _, _, .cons h a => by
    obtain ⟨t, vt, va, rfl, ht, h1, h2⟩ := h
    exact .cons (.tup (SqT.of ht) (.cons (.str _) (.cons h1.dp (.cons (.str _) (.cons h2.dp (.cons (.bl _) .nil)))))) (al_dp a)
end K3
namespace K3
open PySem PySem.Spec PyProof.Rows L2 GG
/-! ### law_k07: the law -/
theorem kbn_act7 {K : PySem.W.Frag} {f : Addr} {fd : FuncData} (F : FunD K "act" "act" (defArgs sAct) (defBody sAct) (defScope sAct) [] [] f fd) :
    KBn K fd ["plan", "kind", "fields", "call", "me", "word", "args"] 4 ["me", "word", "args"] (fun us ws => us ++ ws) (fun vs zs => vs ++ zs) := by
  obtain ⟨oc, od, dV, kV, doc, pm, an, cdv, ct, osl, rfl, lk, hcd, hD, hK⟩ := F.ex
  rcases hD with ⟨_, rfl⟩ | ⟨e, _⟩
  · refine ⟨fun s us ws X l1 l2 => ?_, fun r1 r2 => r1.append r2⟩
    match us, l1, ws, l2 with
    | [a, b, c, d], _, [x, y, z], _ => exact .of_eq rfl
  · exact absurd rfl e
def mkRow (r : Str × List PyData) : PyData := .tuple [.str r.1, .str "k"]
def DcAt (H : Hp) (v : V) (r : Str × List PyData) : Prop := ∃ (d : Addr) (w1 w2 w3 : V) (g1 g2 g3 : PyData), v = .ref d ∧ H d = some (.dK (fgh w1 w2 w3)) ∧ r.2 = [g1, g2, g3] ∧ Dt H w1 g1 ∧ Dt H w2 g2 ∧ Dt H w3 g3
theorem DcAt.on {H H' : Hp} {v : V} {r : Str × List PyData} (h : DcAt H v r) (s : Same H H') : DcAt H' v r := by
  obtain ⟨d, w1, w2, w3, g1, g2, g3, rfl, hd, er, q1, q2, q3⟩ := h
  have t := sameTups s
  exact ⟨d, w1, w2, w3, g1, g2, g3, rfl, s _ _ hd, er, q1.mono t, q2.mono t, q3.mono t⟩
theorem DcAt.mut {H : Hp} {v : V} {r : Str × List PyData} {D : Addr} {xs ys : List V} (h : DcAt H v r) (hD : H D = some (.lst xs)) : DcAt (upd H D (.lst ys)) v r := by
  obtain ⟨d, w1, w2, w3, g1, g2, g3, rfl, hd, er, q1, q2, q3⟩ := h
  have t : Tups H (upd H D (.lst ys)) := (Tups.refl _).mut hD (by intro _ z; cases z)
  have n : d ≠ D := fun z => by rw [z, hD] at hd; cases hd
  exact ⟨d, w1, w2, w3, g1, g2, g3, rfl, by rw [upd_ne n]; exact hd, er, q1.mono t, q2.mono t, q3.mono t⟩
theorem al_pair {R : Type} {p q : V → R → Prop} {F : V → V → Prop} : ∀ {vs us : List V} {rs : List R}, (∀ r ∈ rs, ∀ v u, p v r → q u r → F v u) → Al p vs rs → Al q us rs → Paired F vs us
  | _, _, _, _, .nil, .nil => .nil
  | _, _, _, f, .cons h a, .cons g b => .cons (f _ (List.mem_cons_self ..) _ _ h g) (al_pair (fun r hr => f r (List.mem_cons_of_mem _ hr)) a b)
theorem dc_eq {K : PySem.W.Frag} {H : Hp} {v u : V} {r : Str × List PyData} (g : ∀ d ∈ r.2, Gd 2 d) (h1 : DcAt H v r) (h2 : DcAt H u r) : EqG K H v u := by
  obtain ⟨d, w1, w2, w3, g1, g2, g3, rfl, hd, er, q1, q2, q3⟩ := h1
  obtain ⟨d', w1', w2', w3', g1', g2', g3', rfl, hd', er', q1', q2', q3'⟩ := h2
  rw [er] at er' g
  cases er'
  have e : ∀ {x y : V} {g : PyData}, Gd 2 g → Dt H x g → Dt H y g → EqF K H x y := fun gg a b => ⟨_, a.dp, b.dp, gg.shaped (by decide)⟩
  refine .inr ⟨d, d', _, _, rfl, rfl, hd, hd', rfl, fun q hq => ?_⟩
  simp only [List.mem_cons, List.not_mem_nil, or_false] at hq
  rcases hq with rfl | rfl | rfl
  · exact ⟨_, rfl, e (g _ (by simp)) q1 q1'⟩
  · exact ⟨_, rfl, e (g _ (by simp)) q2 q2'⟩
  · exact ⟨_, rfl, e (g _ (by simp)) q3 q3'⟩
abbrev sLaw : Stmt := top 62
abbrev lawN : List Str := ["_law_script", "_law_pen_here", "_law_turn", "_law_deeds", "_law_book", "_law_naming", "_law_bits", "_law_slots", "_law_told", "_law_due", "_law_names", "_law_one", "_law_k"]
theorem scLaw : FnScope lawN ["_law_script"] (defScope sLaw) := ⟨rfl, rfl, rfl, by decide +kernel, rfl, by decide +kernel, by decide +kernel⟩
def spLaw (K : PySem.W.Frag) : Sp := fun vs H Q _ => ∃ (a : Addr) (ns : List Int), vs = [.ref a] ∧ SqL K H a (ns.map V.int) ∧ ns.length ≤ 63 ∧ ∀ H', Q (.bl true) H'
section
variable {P : Program} {w : World} {K : PySem.W.Frag} {mg : Str → Option Value} {base : Heap}
theorem ok_law {f : Addr} {fd : FuncData} (F : Fun K "law" "law" sLaw f fd) (T : Txt mg) (zs : mg "str" = none)
    (CPen : Cal P w K mg base "_law_pen" 1 ["_law_script"] (spPen K)) (CD : Cal P w K mg base "_law_draw" 1 ["_law_pen_here", "_law_many"] spDraw) (CP : Cal P w K mg base "_law_pick" 2 ["_law_pen_here", "_law_some"] spPick)
    (CM : Cal P w K mg base "_law_many_deeds" 3 ["_law_pen_here", "_law_many"] spMany)
    (CL : Cal P w K mg base "_law_act" 7 ["_law_book", "_law_breed", "_law_slots", "_law_naming", "_law_who", "_law_term", "_law_bits"] spLAct7)
    {fa : Addr} {fda : FuncData} (ma : mg "act" = some (.ref fa)) (FA : FunD K "act" "act" (defArgs sAct) (defBody sAct) (defScope sAct) [] [] fa fda) (Ga : FnOk P w K mg base CX0 10 fa fda ["plan", "kind", "fields", "call", "me", "word", "args"] spAct7) :
    FnG P w K mg base CX0 11 f fd ["_law_script"] (spLaw K) := by
  obtain ⟨f1, fd1, m1, k1, b1, G1⟩ := CPen
  obtain ⟨f2, fd2, m2, k2, b2, G2⟩ := CD
  obtain ⟨f3, fd3, m3, k3, b3, G3⟩ := CP
  obtain ⟨f5, fd5, m5, k5, b5, G5⟩ := CM
  obtain ⟨f6, fd6, m6, k6, b6, G6⟩ := CL
  have ba := kbn_act7 FA
  refine fun_okG F scLaw (fun vs H Q E h => ?_) (fun cdv A outer s H vs Q E hg hr h => ?_)
  · obtain ⟨a, ns, rfl, _⟩ := h
    rfl
  · obtain ⟨a, ns, rfl, hS, h63, k⟩ := h
    have hu := hu_of hr
    have nd := scLaw.nd
    have r1 : Room 1 _ := hr.mono (by decide)
    have r2 : Room 2 _ := hr.mono (by decide)
    have r3 : Room 3 _ := hr.mono (by decide)
    have r7 : Room 7 _ := hr.mono (by decide)
    have hu68 : (A.deeper (envOfC "law" (defScope sLaw) s.heap.objs.size f cdv)).units + 68 < cLine := Nat.lt_of_le_of_lt (by omega) hr.un
    refine ⟨_, pss_cons (ps_set (i := 1) nd rfl (.inl rfl) (pe_call G1 r1 (by rfl) m1 k1 b1 .nil pass0 (pa_cons (pv 0) pa_nil)))
      (C8.pss_cut (ps_for PassesOwn.never rfl (pi_range1 rfl T.range (pa_cons pe_int pa_nil)) (pg_name (i := 2) nd rfl (Or.inl rfl))
        (C8.pss_cut (ps_set (i := 3) nd rfl (.inl rfl) (pe_call G5 r3 (by rfl) m5 k5 b5 .nil pass0 (pa_cons (pv 1) (pa_cons (pe_ix ix_list (pe_lst (pa_cons pe_int (pa_cons pe_int (pa_cons pe_int pa_nil)))) (pe_call G2 r1 (by rfl) m2 k2 b2 .nil pass0 (pa_cons (pv 1) (pa_cons pe_int pa_nil))) (fun _ _ => rfl)) pa_nil))))
        (C8.pss_cut (ps_if (pt_cmpR op_eq (pe_call G2 r1 (by rfl) m2 k2 b2 .nil pass0 (pa_cons (pv 1) (pa_cons pe_int pa_nil))) pe_int (nomark _)) (pss_one (ps_set (i := 3) nd rfl (.inl rfl) (pe_tup (pa_cons (pe_tup (pa_cons pe_str (pa_cons (pe_tup (pa_cons pe_str (pa_cons pe_str pa_nil))) (pa_cons (pv 3) (pa_cons (pe_tup pa_nil) pa_nil))))) pa_nil)))) pss_nil)
        (C8.pss_cut (ps_set (i := 4) nd rfl (.inl rfl) (pe_tup (pa_cons (pe_tup (pa_cons pe_str (pa_cons (pe_tupF (pa_cons (pe_tup (pa_cons pe_str (pa_cons pe_int pa_nil))) (pa_cons (pe_tup (pa_cons pe_str (pa_cons (pe_tup (pa_cons pe_str (pa_cons pe_int pa_nil))) pa_nil))) (pa_cons (pe_tup (pa_cons pe_str (pa_cons pe_non pa_nil))) pa_nil))))
            (pa_cons (pe_tup (pa_cons (pe_tup (pa_cons pe_str (pa_cons (pe_tup (pa_cons pe_str pa_nil)) (pa_cons (pv 3) pa_nil)))) pa_nil)) pa_nil)))) pa_nil)))
        (C8.pss_cut (ps_asg (pe_tup (pa_cons (pe_call G3 r2 (by rfl) m3 k3 b3 .nil pass0 (pa_cons (pv 1) (pa_cons (pe_lst (pa_cons pe_str (pa_cons pe_str (pa_cons pe_str pa_nil)))) pa_nil))) (pa_cons (pe_tup (pa_cons (pe_tup (pa_cons pe_str (pa_cons pe_str pa_nil))) pa_nil)) pa_nil))) (pg_tup rfl (pgs_cons (pg_name (i := 5) nd rfl (Or.inr rfl)) (pgs_cons (pg_name (i := 6) nd rfl (Or.inl rfl)) pgs_nil))))
        (C8.pss_cut (ps_set (i := 7) nd rfl (.inl rfl) (pe_disp (pps_cons pe_str pe_int (pps_cons pe_str pe_int (pps_cons pe_str pe_int pps_nil))) (by rfl) (by rfl) (fun z => by cases z) (by decide)))
        (C8.pss_cut (ps_set (i := 8) nd rfl (.inl rfl) (pe_callN Ga hr (by rfl) ma FA.kp ba pass0 (pa_cons (pv 4) (pa_cons pe_str (pa_cons (pv 7) (pa_cons (pv 5) pa_nil)))) (pk_cons pe_str (pk_cons pe_str (pk_cons (pv 6) pk_nil)))))
        (C8.pss_cut (ps_set (i := 9) nd rfl (.inl rfl) (pe_call G6 r7 (by rfl) m6 k6 b6 .nil pass0 (pa_cons (pv 4) (pa_cons pe_str (pa_cons (pv 7) (pa_cons (pv 5) (pa_cons pe_str (pa_cons pe_str (pa_cons (pv 6) pa_nil)))))))))
        (C8.pss_cut (ps_if (PW.pt (pw_or (pt_cmpR op_ne (pe_callB (call_repr hg hr.units) (by rfl) T.repr (by decide +kernel) (pa_cons (pe_tup (pa_cons (pe_ix ix_tup (pv 8) pe_int (fun _ _ => rfl)) (pa_cons (pe_ix ix_tup (pv 8) pe_int (fun _ _ => rfl)) pa_nil))) pa_nil))
            (pe_callB (call_repr hg hr.units) (by rfl) T.repr (by decide +kernel) (pa_cons (pe_tup (pa_cons (pe_ix ix_tup (pv 9) pe_int (fun _ _ => rfl)) (pa_cons (pe_ix ix_tup (pv 9) pe_int (fun _ _ => rfl)) pa_nil))) pa_nil)) (nomark _))
            (pw_or1 (pt_cmpR op_ne (pe_callB (call_repr hg hr.units) (by rfl) T.repr (by decide +kernel) (pa_cons (pe_slice sl_tup (pv 8) (po_some pe_int) po_none) pa_nil)) (pe_callB (call_repr hg hr.units) (by rfl) T.repr (by decide +kernel) (pa_cons (pe_slice sl_tup (pv 9) (po_some pe_int) po_none) pa_nil)) (nomark _))))) (pss_one (ps_ret pe_bl)) pss_nil)
        (C8.pss_cut (ps_if (pt_cmpR (op_neF hu68) (pe_ix ix_tup (pv 8) pe_int (fun _ _ => rfl)) (pv 7) (nomark _)) (pss_one (ps_ret pe_bl)) pss_nil)
        (C8.pss_cut (ps_if (PW.pt (pw_or (pt_not (pt_val (pe_callB call_isi (by rfl) T.isinstance (by decide +kernel) (pa_cons (pe_ix ix_tup (pv 8) pe_int (fun _ _ => rfl)) (pa_cons (pe_bltn (v := V.ty "tuple") (by rfl) T.tuple (by decide +kernel) rfl) pa_nil))))) (pw_or1 (pt_cmpR (op_neD hr.units) (pe_lc (own := [("_law_one", 11)]) (g := gName 11) (tt := tYes) rfl nd (pi_tup (pe_ix ix_tup (pv 8) pe_int (fun _ _ => rfl))) (blkOk_by (N := lawN) (sc := defScope sLaw) (by decide +kernel)) (fun _ _ _ _ _ => pg_name (i := 11) nd rfl (Or.inl rfl)) (fun _ _ _ _ _ => pts_nil)
            (fun _ _ _ _ _ => pe_slice (r := rSlT K) sl_tup (pv 11) po_none (po_some pe_int)))
            (pe_lc (own := [("_law_one", 11)]) (g := gName 11) (tt := tYes) rfl nd (pi_tup (pe_ix ix_tup (pv 9) pe_int (fun _ _ => rfl))) (blkOk_by (N := lawN) (sc := defScope sLaw) (by decide +kernel)) (fun _ _ _ _ _ => pg_name (i := 11) nd rfl (Or.inl rfl)) (fun _ _ _ _ _ => pts_nil)
            (fun _ _ _ _ _ => pe_slice (r := rSlT K) sl_tup (pv 11) po_none (po_some pe_int))) (nomark _))))) (pss_one (ps_ret pe_bl)) pss_nil)
        (C8.pss_cut (ps_if (pt_cmpR (op_neG hu68) (pe_lc (own := [("_law_one", 11)]) (g := gName 11) (tt := tYes) rfl nd (pi_tup (pe_ix ix_tup (pv 8) pe_int (fun _ _ => rfl))) (blkOk_by (N := lawN) (sc := defScope sLaw) (by decide +kernel)) (fun _ _ _ _ _ => pg_name (i := 11) nd rfl (Or.inl rfl)) (fun _ _ _ _ _ => pts_nil)
            (fun _ _ _ _ _ => pe_ix (r := rIxT K) ix_tup (pv 11) pe_int (fun _ _ => rfl)))
            (pe_lc (own := [("_law_one", 11)]) (g := gName 11) (tt := tYes) rfl nd (pi_tup (pe_ix ix_tup (pv 9) pe_int (fun _ _ => rfl))) (blkOk_by (N := lawN) (sc := defScope sLaw) (by decide +kernel)) (fun _ _ _ _ _ => pg_name (i := 11) nd rfl (Or.inl rfl)) (fun _ _ _ _ _ => pts_nil)
            (fun _ _ _ _ _ => pe_ix (r := rIxT K) ix_tup (pv 11) pe_int (fun _ _ => rfl))) (nomark _)) (pss_one (ps_ret pe_bl)) pss_nil)
        (C8.pss_cut (ps_setLc (i := 10) (own := [("_law_one", 11)]) (g := gName 11) (tt := tYes) rfl nd rfl rfl (sw_true rfl rfl rfl (by decide +kernel)) (pi_tup (pe_ix ix_tup (pv 8) pe_int (fun _ _ => rfl))) (blkOk_by (N := lawN) (sc := defScope sLaw) (by decide +kernel)) (fun _ _ _ _ _ => pg_name (i := 11) nd rfl (Or.inl rfl)) (fun _ _ _ _ _ => pts_nil)
            (fun _ _ _ _ _ => pe_ix (r := rIxT K) ix_tup (pv 11) pe_int (fun _ _ => rfl)))
        (C8.pss_cut (ps_if (pt_cmpR (op_neD hr.units) (pv 10) (pe_lc (own := [("_law_k", 12)]) (g := gName 12) (tt := tYes) rfl nd (pi_range1 (by rfl) T.range (pa_cons (pe_callB call_len_seq (by rfl) T.len PySem.boot_len (pa_cons (pv 10) pa_nil)) pa_nil)) (blkOk_by (N := lawN) (sc := defScope sLaw) (by decide +kernel)) (fun _ _ _ _ _ => pg_name (i := 12) nd rfl (Or.inl rfl)) (fun _ _ _ _ _ => pts_nil)
            (fun _ _ _ _ _ => pe_op op_add_str (pe_op op_add_str (pv 5) pe_str) (pe_callTy call_str_int (by rfl) zs (by decide +kernel) (pa_cons (pv 12) pa_nil)))) (nomark _)) (pss_one (ps_ret pe_bl)) pss_nil)
        (pss_one (ps_if (pt_cmpR (op_neD hr.units) (pe_lc (own := [("_law_one", 11)]) (g := gName 11) (tt := tYes) rfl nd (pi_tup (pe_ix ix_tup (pv 8) pe_int (fun _ _ => rfl))) (blkOk_by (N := lawN) (sc := defScope sLaw) (by decide +kernel)) (fun _ _ _ _ _ => pg_name (i := 11) nd rfl (Or.inl rfl)) (fun _ _ _ _ _ => pts_nil)
            (fun _ _ _ _ _ => pe_ix (r := rIxT K) ix_tup (pv 11) pe_int (fun _ _ => rfl)))
            (pe_lc (own := [("_law_k", 12)]) (g := gName 12) (tt := tYes) rfl nd (pi_range1 (by rfl) T.range (pa_cons (pe_callB call_len_seq (by rfl) T.len PySem.boot_len (pa_cons (pe_ix ix_tup (pv 8) pe_int (fun _ _ => rfl)) pa_nil)) pa_nil)) (blkOk_by (N := lawN) (sc := defScope sLaw) (by decide +kernel)) (fun _ _ _ _ _ => pg_name (i := 12) nd rfl (Or.inl rfl)) (fun _ _ _ _ _ => pts_nil)
            (fun _ _ _ _ _ => pe_op op_add_str (pe_op op_add_str (pv 5) pe_str) (pe_callTy call_str_int (by rfl) zs (by decide +kernel) (pa_cons (pv 12) pa_nil)))) (nomark _)) (pss_one (ps_ret pe_bl)) pss_nil))))))))))))))))
      (pss_one (ps_ret pe_bl))), ?_⟩
    refine ⟨_, rfl, a, ns, rfl, hS, h63, fun p c H1 hp hc hP s1 => ?_⟩
    refine ⟨fun _ _ => True, ?_, fun _ H' _ => k H'⟩
    refine ⟨4, rfl, by decide, by decide, for_range (lo := 0) (n := 4) (fun i σ' H' => (∃ v2 v3 v4 v5 v6 v7 v8 v9 v10 : Option V, σ' = [some (.ref a), some (.ref p), v2, v3, v4, v5, v6, v7, v8, v9, v10, none, none]) ∧ Pen H' p c ns (1000 * i)) ?_ ?_ fun _ _ _ => trivial⟩
    · exact ⟨⟨_, _, _, _, _, _, _, _, _, rfl⟩, hP⟩
    rintro i σ' H0 hi ⟨⟨v2, v3, v4, v5, v6, v7, v8, v9, v10, rfl⟩, hP0⟩
    clear hP s1 hS
    -- the deeds
    refine ⟨fun σ' H' => ∃ (v2 : Option V) (vd : V) (dd : List Dd), σ' = [some (.ref a), some (.ref p), v2, some vd, v4, v5, v6, v7, v8, v9, v10, none, none] ∧ Pen H' p c ns (1000 * i + 301) ∧ Dt H' vd (.tuple (dd.map ddD)) ∧ dd.length ≤ 39 ∧ ∀ nm, OkAll nm s07 dd, ?_, ?_⟩
    · refine ⟨_, rfl, (by show 3 ≤ sizeLine; decide), fun l hl => ?_⟩
      have hP1 := hP0.new hl (o := .lst [.int 10, .int 24, .int 39])
      have e1 : upd H0 l (.lst [.int 10, .int 24, .int 39]) l = some (.lst [.int 10, .int 24, .int 39]) := upd_same
      generalize upd H0 l (.lst [.int 10, .int 24, .int 39]) = H1 at hP1 e1 ⊢
      refine ⟨_, rfl, p, c, ns, _, 3, rfl, hP1, by omega, by decide, by decide, fun r H2 r0 r3' hP2 b2 => ?_⟩
      obtain ⟨m, em, m0, m39⟩ : ∃ m : Int, atI [V.int 10, V.int 24, V.int 39] r = some (.int m) ∧ 0 ≤ m ∧ m ≤ 39 := by
        rcases (by omega : r = 0 ∨ r = 1 ∨ r = 2) with rfl | rfl | rfl
        · exact ⟨10, atI_int (by decide) rfl, by decide, by decide⟩
        · exact ⟨24, atI_int (by decide) rfl, by decide, by decide⟩
        · exact ⟨39, atI_int (by decide) rfl, by decide, by decide⟩
      refine ⟨l, _, r, .int m, rfl, rfl, SqL.of (b2 _ _ (hP1.ne e1) e1), em, p, c, ns, _, m, rfl, hP2, by omega, m0, m39, fun v dd H3 hd l39 ok hP3 b3 => ?_⟩
      exact ⟨_, v, dd, rfl, hP3.mono (by omega), hd, l39, ok⟩
    rintro σ1 H1 ⟨v2, vd, dd, rfl, hP1, hd1, l39, oks⟩
    clear hP0
    -- as they are, or within an if
    refine ⟨fun σ' H' => ∃ (vd : V) (wb : Bool), σ' = [some (.ref a), some (.ref p), v2, some vd, v4, v5, v6, v7, v8, v9, v10, none, none] ∧ Pen H' p c ns (1000 * i + 302) ∧ Dt H' vd (.tuple (topL wb dd)), ?_, ?_⟩
    · refine ⟨_, rfl, p, c, ns, _, 3, rfl, hP1, by omega, by decide, by decide, fun r H2 r0 r3' hP2 b2 => ⟨rfl, _, rfl, ite2 (fun _ => ?_) (fun _ => ?_)⟩⟩
      · have hd2 := hd1.mono (hP1.tups b2)
        refine pl_set ?_
        exact rd_tup (ds := [.tuple [.str "if", vrD "a", .tuple (dd.map ddD), .tuple []]]) (rds_cons (rd_tup (rds_cons rd_str (rds_cons (rd_tup (rds_cons rd_str (rds_cons rd_str rds_nil)) (by simp)) (rds_cons (rd_var rfl hd2) (rds_cons (rd_tup rds_nil (by simp)) rds_nil)))) (by simp)) rds_nil) (by simp)
          H2 (Same.refl H2) _ fun v H3 s3 hv => ⟨v, true, rfl, (same_pen hP2 s3).mono (by omega), hv⟩
      · exact ⟨vd, false, rfl, hP2.mono (by omega), hd1.mono (hP1.tups b2)⟩
    rintro σ2 H2 ⟨vd, wb, rfl, hP2, hd2⟩
    clear hP1 hd1
    -- the book
    refine ⟨fun σ' H' => ∃ vb : V, σ' = [some (.ref a), some (.ref p), v2, some vd, some vb, v5, v6, v7, v8, v9, v10, none, none] ∧ Pen H' p c ns (1000 * i + 302) ∧ Pl7 H' vb (topL wb dd), ?_, ?_⟩
    · refine pl_set ?_
      exact rd_pl (K := K) (rds_cons (rd_tup (rds_cons rd_str (rds_cons rd_int rds_nil)) (by simp)) (rds_cons (rd_tup (rds_cons rd_str (rds_cons (rd_tup (rds_cons rd_str (rds_cons rd_int rds_nil)) (by simp)) rds_nil)) (by simp)) (rds_cons (rd_tup (rds_cons rd_str (rds_cons rd_non rds_nil)) (by simp)) rds_nil)))
        (rds_cons (rd_tup (rds_cons rd_str (rds_cons (rd_tup (rds_cons rd_str rds_nil) (by simp)) (rds_cons (rd_var rfl hd2) rds_nil))) (by simp)) rds_nil) fun v H3 s3 hv => ⟨v, rfl, same_pen hP2 s3, hv⟩
    rintro σ3 H3 ⟨vb, rfl, hP3, hb3⟩
    clear hP2 hd2
    -- the naming, the args
    refine ⟨fun σ' H' => ∃ (nm : Str) (bt : Addr), nm ∈ nmsZ ∧ σ' = [some (.ref a), some (.ref p), v2, some vd, some vb, some (.str nm), some (.ref bt), v7, v8, v9, v10, none, none] ∧ Pen H' p c ns (1000 * i + 303) ∧ Pl7 H' vb (topL wb dd) ∧ Dt H' (.ref bt) (.tuple [holdN "1#0"]), ?_, ?_⟩
    · refine ⟨_, rfl, (by show 3 ≤ sizeLine; decide), fun l hl => ?_⟩
      have s4 := same_new (Same.refl H3) hl (o := .lst [.str "0:0", .str "3:12", .str "5:1.10.2"])
      have e4 : upd H3 l (.lst [.str "0:0", .str "3:12", .str "5:1.10.2"]) l = some (.lst [.str "0:0", .str "3:12", .str "5:1.10.2"]) := upd_same
      generalize upd H3 l (.lst [.str "0:0", .str "3:12", .str "5:1.10.2"]) = H4 at s4 e4 ⊢
      have hP4 := same_pen hP3 s4
      refine ⟨p, c, ns, _, _, [.str "0:0", .str "3:12", .str "5:1.10.2"], rfl, hP4, by omega, ⟨by decide, by decide, .inl ⟨l, rfl, .inl e4⟩⟩, fun v H5 hv hP5 b5 => ?_⟩
      obtain ⟨nm, hnm, rfl⟩ : ∃ nm, nm ∈ nmsZ ∧ v = .str nm := by
        simp only [List.mem_cons, List.not_mem_nil, or_false] at hv
        rcases hv with rfl | rfl | rfl
        · exact ⟨_, List.mem_cons_self .., rfl⟩
        · exact ⟨_, List.mem_cons_of_mem _ (List.mem_cons_self ..), rfl⟩
        · exact ⟨_, List.mem_cons_of_mem _ (List.mem_cons_of_mem _ (List.mem_cons_self ..)), rfl⟩
      refine ⟨(by show 2 ≤ sizeLine; decide), fun h1 eh1 => ?_⟩
      have s6 := same_new (Same.refl H5) eh1 (o := .tup [.str "to", .str "1#0"])
      have f6 : upd H5 h1 (.tup [.str "to", .str "1#0"]) h1 = some (.tup [.str "to", .str "1#0"]) := upd_same
      generalize upd H5 h1 (.tup [.str "to", .str "1#0"]) = H6 at s6 f6 ⊢
      refine ⟨(by show 1 ≤ sizeLine; decide), fun bt hbt => ?_⟩
      have s7 := same_new (Same.refl H6) hbt (o := .tup [.ref h1])
      have f7 : upd H6 bt (.tup [.ref h1]) bt = some (.tup [.ref h1]) := upd_same
      have f67 := s7 _ _ f6
      generalize upd H6 bt (.tup [.ref h1]) = H7 at s7 f7 f67 ⊢
      refine ⟨(by show 2 ≤ sizeLine; decide), fun T0 hT0 => ?_⟩
      have s8 := same_new (Same.refl H7) hT0 (o := .tup [.str nm, .ref bt])
      have s68 := (s6.trans s7).trans s8
      refine ⟨T0, _, rfl, SqT.of upd_same, rfl, _, _, rfl, _, _, rfl, rfl, ?_⟩
      refine ⟨nm, bt, hnm, rfl, (same_pen hP5 s68).mono (by omega), ((hb3.on s4).mono (hP4.tups b5) (hP4.frzs b5)).on s68, .tup (s8 _ _ f7) (.cons (.tup (s8 _ _ f67) (.cons (.str _) (.cons (.str _) .nil))) .nil)⟩
    rintro σ4 H4 ⟨nm, bt, hnm, rfl, hP4, hb4, hbt4⟩
    clear hP3 hb3
    -- the fields
    refine ⟨fun σ' H' => ∃ (sl : Addr), σ' = [some (.ref a), some (.ref p), v2, some vd, some vb, some (.str nm), some (.ref bt), some (.ref sl), v8, v9, v10, none, none] ∧ Pen H' p c ns (1000 * i + 303) ∧ Pl7 H' vb (topL wb dd) ∧ Dt H' (.ref bt) (.tuple [holdN "1#0"]) ∧ H' sl = some (.dK (fgh (.int 0) (.int 0) (.int 0))), ?_, ?_⟩
    · intro sl hsl
      refine ⟨upd_same, fgh (.int 0) (.int 0) (.int 0), rfl, (by show 3 ≤ 15; decide), ?_⟩
      have s5 : Same H4 (upd (upd H4 sl (.dK [])) sl (.dK (mergeK [] (fgh (.int 0) (.int 0) (.int 0))))) := same_mut (same_new (Same.refl H4) hsl) hsl
      exact ⟨sl, rfl, same_pen hP4 s5, hb4.on s5, hbt4.mono (sameTups s5), upd_same⟩
    rintro σ5 H5 ⟨sl, rfl, hP5, hb5, hbt5, hsl5⟩
    clear hP4 hb4 hbt4
    have z := nms_ok hnm
    have ok := oks nm
    -- act
    refine ⟨fun σ' H' => ∃ (t1 f1 x1 x2 x3 k1 : Addr) (o1 : V) (ms1 ps1 : List V), σ' = [some (.ref a), some (.ref p), v2, some vd, some vb, some (.str nm), some (.ref bt), some (.ref sl), some (.ref t1), v9, v10, none, none] ∧ Same H5 H' ∧ To H' t1 o1 f1 x1 x2 x3 k1 ms1 ps1 (runD nm s07 dd) ∧ H' f1 = some (.dK (fgh (.int 0) (.int 0) (.int 0))), ?_, ?_⟩
    · refine ⟨_, rfl, _, rfl, _, rfl, _, rfl, rfl, rfl, sl, vb, .str "1#0", .ref bt, nm, wb, dd, fgh (.int 0) (.int 0) (.int 0), rfl, hb5, hsl5, ?_, by decide, by decide, hbt5, ok, by omega, z.good, fun t f1 x1 x2 x3 k1 o1 ms1 ps1 H6 s6 ht ho hf hx1 hx2 hm hx3 hp => ?_⟩
      · intro q hq
        simp only [List.mem_cons, List.not_mem_nil, or_false] at hq
        rcases hq with rfl | rfl | rfl <;> exact ⟨0, rfl⟩
      · exact ⟨t, f1, x1, x2, x3, k1, o1, ms1, ps1, rfl, s6, ⟨ht, ho, hx1, hx2, hm, hx3, hp⟩, hf⟩
    rintro σ6 H6 ⟨t1, f1, x1, x2, x3, k1, o1, ms1, ps1, rfl, s6, hT6, hf6⟩
    -- the law's act
    refine ⟨fun σ' H' => ∃ (t2 f2 y1 y2 y3 k2 : Addr) (o2 : V) (ms2 ps2 : List V), σ' = [some (.ref a), some (.ref p), v2, some vd, some vb, some (.str nm), some (.ref bt), some (.ref sl), some (.ref t1), some (.ref t2), v10, none, none] ∧ Same H6 H' ∧ To H' t2 o2 f2 y1 y2 y3 k2 ms2 ps2 (runD nm s07 dd), ?_, ?_⟩
    · refine ⟨_, rfl, _, rfl, _, rfl, _, rfl, sl, vb, .ref bt, nm, wb, dd, fgh (.int 0) (.int 0) (.int 0), rfl, hb5.on s6, s6 _ _ hsl5, hbt5.mono (sameTups s6), ok, by omega, z.good, fun t f2 y1 y2 y3 k2 o2 ms2 ps2 H7 s7 ht ho hx1 hx2 hm hx3 hp => ?_⟩
      exact ⟨t, f2, y1, y2, y3, k2, o2, ms2, ps2, rfl, s7, ⟨ht, ho, hx1, hx2, hm, hx3, hp⟩⟩
    rintro σ7 Hb ⟨t2, f2, y1, y2, y3, k2, o2, ms2, ps2, rfl, s7, hT2⟩
    have hT1 := hT6.on s7
    have hf1 := s7 _ _ hf6
    have hsl := (s6.trans s7) _ _ hsl5
    have hPb := same_pen hP5 (s6.trans s7)
    have sz : Sz nm (0 + dd.length) (runD nm s07 dd) := Sz.run z sz07 (by omega) ok
    clear hP5 hb5 hbt5 hsl5 s6 s7 hT6 hf6 oks
    generalize runD nm s07 dd = R at hT1 hT2 sz
    have sm1 := sz.lm
    have sp1 := sz.lp
    have lm1 := hT1.ms.length
    have lp1 := hT1.ps.length
    have lm2 := hT2.ms.length
    have e10 : atI [o1, .ref f1, .ref x1, .ref x2, .ref x3, .non] 0 = some o1 := atI_int (by decide) rfl
    have e11 : atI [o1, .ref f1, .ref x1, .ref x2, .ref x3, .non] 1 = some (.ref f1) := atI_int (by decide) rfl
    have e12 : atI [o1, .ref f1, .ref x1, .ref x2, .ref x3, .non] 2 = some (.ref x1) := atI_int (by decide) rfl
    have e13 : atI [o1, .ref f1, .ref x1, .ref x2, .ref x3, .non] 3 = some (.ref x2) := atI_int (by decide) rfl
    have e14 : atI [o1, .ref f1, .ref x1, .ref x2, .ref x3, .non] 4 = some (.ref x3) := atI_int (by decide) rfl
    have e20 : atI [o2, .ref f2, .ref y1, .ref y2, .ref y3, .non] 0 = some o2 := atI_int (by decide) rfl
    have e22 : atI [o2, .ref f2, .ref y1, .ref y2, .ref y3, .non] 2 = some (.ref y1) := atI_int (by decide) rfl
    have e23 : atI [o2, .ref f2, .ref y1, .ref y2, .ref y3, .non] 3 = some (.ref y2) := atI_int (by decide) rfl
    have not4 : ∀ {ys : List V}, ys.length = 6 → ¬ (HT.sIx ys.length 0 (some 4) = 0 ∧ HT.sIx ys.length ys.length none = ys.length) := fun e z => by
      rw [e] at z
      exact absurd z.1 (by decide)
    have okS0 : ShowOk (.tuple [.tuple [.str "kept", .none], .tuple []]) := show_tup (by decide +kernel) (by decide +kernel) (by decide +kernel)
    have okS1 : ShowOk (.tuple [.tuple (R.pus.map putD), .none]) := by
      obtain ⟨q1, q2, q3⟩ := fits_all (m := 1000) (k := 10) (ds := R.pus.map putD) fun d hd => by
        obtain ⟨r, hr1, rfl⟩ := List.mem_map.mp hd
        exact sz.pus r hr1
      rw [List.length_map] at q2
      have q4 : R.pus.length * (1000 + 2) ≤ 39 * (1000 + 2) := Nat.mul_le_mul_right _ (by omega)
      refine show_tup ?_ ?_ ?_
      · simp [okBs, okB, q1]
      · simp only [szBs, szB]
        omega
      · simp only [PyData.depthAll, PyData.depth]
        omega
    -- outcome, says, puts, goes
    refine ⟨fun σ' H' => σ' = [some (.ref a), some (.ref p), v2, some vd, some vb, some (.str nm), some (.ref bt), some (.ref sl), some (.ref t1), some (.ref t2), v10, none, none] ∧ Same Hb H', ?_, ?_⟩
    · refine ⟨_, rfl, t1, _, _, _, rfl, rfl, SqT.of hT1.t, e10, _, rfl, t1, _, _, _, rfl, rfl, SqT.of hT1.t, e12, (by show 2 ≤ sizeLine; decide), fun q1 hq1 => ?_⟩
      have r1 := same_new (Same.refl Hb) hq1 (o := .tup [o1, .ref x1])
      have g1 : upd Hb q1 (.tup [o1, .ref x1]) q1 = some (.tup [o1, .ref x1]) := upd_same
      generalize upd Hb q1 (.tup [o1, .ref x1]) = Ha1 at r1 g1 ⊢
      have T1 := hT1.on r1
      have T2 := hT2.on r1
      refine ⟨.ref q1, _, rfl, .tup (SqT.of g1) (.cons T1.o.dp (.cons (.tup (SqT.of T1.l1) .nil) .nil)), okS0, ?_⟩
      refine ⟨_, rfl, t2, _, _, _, rfl, rfl, SqT.of T2.t, e20, _, rfl, t2, _, _, _, rfl, rfl, SqT.of T2.t, e22, (by show 2 ≤ sizeLine; decide), fun q2 hq2 => ?_⟩
      have r2 := r1.trans (same_new (Same.refl Ha1) hq2 (o := .tup [o2, .ref y1]))
      have g2 : upd Ha1 q2 (.tup [o2, .ref y1]) q2 = some (.tup [o2, .ref y1]) := upd_same
      generalize upd Ha1 q2 (.tup [o2, .ref y1]) = Ha2 at r2 g2 ⊢
      have T1 := hT1.on r2
      have T2 := hT2.on r2
      refine ⟨.ref q2, _, rfl, .tup (SqT.of g2) (.cons T2.o.dp (.cons (.tup (SqT.of T2.l1) .nil) .nil)), okS0, rfl, _, rfl, iteNS rfl ?_⟩
      refine ⟨_, rfl, _, rfl, t1, _, rfl, SqT.of T1.t, not4 rfl, fun q3 hq3 => ?_⟩
      rw [show cutV [o1, .ref f1, .ref x1, .ref x2, .ref x3, .non] (some 4) none = [.ref x3, .non] from cutV_drop (k := 4)]
      have r3 := r2.trans (same_new (Same.refl Ha2) hq3 (o := .tup [.ref x3, .non]))
      have g3 : upd Ha2 q3 (.tup [.ref x3, .non]) q3 = some (.tup [.ref x3, .non]) := upd_same
      generalize upd Ha2 q3 (.tup [.ref x3, .non]) = Ha3 at r3 g3 ⊢
      have T1 := hT1.on r3
      have T2 := hT2.on r3
      refine ⟨.ref q3, _, rfl, .tup (SqT.of g3) (.cons (.tup (SqT.of T1.l3) (al_dp T1.ps)) (.cons .non .nil)), okS1, ?_⟩
      refine ⟨_, rfl, _, rfl, t2, _, rfl, SqT.of T2.t, not4 rfl, fun q4 hq4 => ?_⟩
      rw [show cutV [o2, .ref f2, .ref y1, .ref y2, .ref y3, .non] (some 4) none = [.ref y3, .non] from cutV_drop (k := 4)]
      have r4 := r3.trans (same_new (Same.refl Ha3) hq4 (o := .tup [.ref y3, .non]))
      have g4 : upd Ha3 q4 (.tup [.ref y3, .non]) q4 = some (.tup [.ref y3, .non]) := upd_same
      generalize upd Ha3 q4 (.tup [.ref y3, .non]) = Ha4 at r4 g4 ⊢
      have T2 := hT2.on r4
      refine ⟨.ref q4, _, rfl, .tup (SqT.of g4) (.cons (.tup (SqT.of T2.l3) (al_dp T2.ps)) (.cons .non .nil)), okS1, rfl, _, rfl, iteNS rfl ?_⟩
      exact ⟨rfl, r4⟩
    rintro _ H1 ⟨rfl, sA⟩
    -- the fields
    refine ⟨fun σ' H' => σ' = [some (.ref a), some (.ref p), v2, some vd, some vb, some (.str nm), some (.ref bt), some (.ref sl), some (.ref t1), some (.ref t2), v10, none, none] ∧ Same Hb H', ?_, ?_⟩
    · have T1 := hT1.on sA
      refine ⟨_, rfl, t1, _, _, _, rfl, rfl, SqT.of T1.t, e11, _, rfl, .inr ⟨f1, sl, _, _, rfl, rfl, sA _ _ hf1, sA _ _ hsl, rfl, fun q hq => ?_⟩, _, rfl, iteF ⟨rfl, sA⟩⟩
      simp only [List.mem_cons, List.not_mem_nil, or_false] at hq
      have zero : EqF K H1 (.int 0) (.int 0) := ⟨.int 0, .int 0, .int 0, by decide +kernel⟩
      rcases hq with rfl | rfl | rfl
      · exact ⟨_, rfl, zero⟩
      · exact ⟨_, rfl, zero⟩
      · exact ⟨_, rfl, zero⟩
    rintro _ H1 ⟨rfl, sA⟩
    -- what was made: names and kinds
    have shM : SeqAt.shaped (.list (R.mks.map mkRow)) = true := by
      have q := shaped_res (qs := R.mks.map fun r => some (mkRow r)) fun q' hq d e => by
        obtain ⟨r, hr1, rfl⟩ := List.mem_map.mp hq
        cases e
        obtain ⟨n1, n2⟩ := sz.mkn r hr1
        refine Gd.mono (n := 1) ⟨(by show 2 ≤ 1000; decide), fun e he => ?_⟩ (by decide)
        simp only [List.mem_cons, List.not_mem_nil, or_false] at he
        rcases he with rfl | rfl
        · exact Gd.strI n2 n1
        · exact Gd.strI (by decide) (by decide +kernel)
      rw [List.map_map] at q
      exact q
    refine ⟨fun σ' H' => σ' = [some (.ref a), some (.ref p), v2, some vd, some vb, some (.str nm), some (.ref bt), some (.ref sl), some (.ref t1), some (.ref t2), v10, none, none] ∧ Same Hb H', ?_, ?_⟩
    · have T1 := hT1.on sA
      refine ⟨_, rfl, t1, _, _, _, rfl, rfl, SqT.of T1.t, e13, _, .ty "tuple", _, .type "tuple", true, rfl, .ty _, .base (.tup T1.l2), kit_ty (show kitB "tuple" "tuple" = some true by decide +kernel), true, rfl, iteF ?_⟩
      refine ⟨_, rfl, t1, _, _, _, rfl, rfl, SqT.of T1.t, e13, x2, rfl, ⟨_, SqT.of T1.l2⟩, fun D hD => ?_⟩
      refine lc_tup (K := K) (a := x2) (xs := ms1) (fun j H' => Same H1 H' ∧ ∃ vs, H' D = some (.lst vs) ∧ vs.length = j ∧ DtAll H' vs ((R.mks.take j).map mkRow)) ?_ ?_ ?_ ?_
      · exact ⟨same_new (Same.refl _) hD, [], upd_same, rfl, .nil⟩
      · rintro j H' _ ⟨s', _⟩
        exact SqT.of (s' _ _ T1.l2)
      · rintro j u H' hj ⟨s', vs, hDl, lv, hvs⟩
        obtain ⟨r, hr1, t, d, w1, w2, w3, g1, g2, g3, rfl, ht, _⟩ := T1.ms.get j u hj
        refine ⟨rfl, _, rfl, _, rfl, t, _, rfl, SqT.of (s' _ _ ht), (fun z => absurd z.2 (by show ¬ HT.sIx 3 3 (some 2) = 3; decide)), fun q hq => ?_⟩
        rw [show cutV [V.str r.1, V.str "k", V.ref d] none (some 2) = [.str r.1, .str "k"] from cutV_upto (k := 2)]
        have sq := same_new (Same.refl H') hq (o := .tup [.str r.1, .str "k"])
        have eq' : upd H' q (.tup [.str r.1, .str "k"]) q = some (.tup [.str r.1, .str "k"]) := upd_same
        generalize upd H' q (.tup [.str r.1, .str "k"]) = H2 at sq eq' ⊢
        have jl : j < R.mks.length := (List.getElem?_eq_some_iff.mp hr1).1
        have tm' : Tups H2 (upd H2 D (.lst (vs ++ [.ref q]))) := (Tups.refl _).mut (sq _ _ hDl) (by intro _ z; cases z)
        refine ⟨vs, sq _ _ hDl, small1000 (by omega), same_mut (s'.trans sq) hD, vs ++ [.ref q], upd_same, by simp [lv], ?_⟩
        rw [List.take_add_one, hr1, List.map_append]
        exact ((hvs.mono (sameTups sq)).app (.cons (.tup eq' (.cons (.str _) (.cons (.str _) .nil))) .nil)).mono tm' 
      rintro H2 ⟨s2, vs1, hD1, lv1, hvs1⟩
      rw [lm1, List.take_length] at hvs1
      have T2 := hT2.on (sA.trans s2)
      refine ⟨_, rfl, t2, _, _, _, rfl, rfl, SqT.of T2.t, e23, y2, rfl, ⟨_, SqT.of T2.l2⟩, fun E hE => ?_⟩
      refine lc_tup (K := K) (a := y2) (xs := ms2) (fun j H' => Same H2 H' ∧ ∃ vs, H' E = some (.lst vs) ∧ vs.length = j ∧ DtAll H' vs ((R.mks.take j).map mkRow)) ?_ ?_ ?_ ?_
      · exact ⟨same_new (Same.refl _) hE, [], upd_same, rfl, .nil⟩
      · rintro j H' _ ⟨s', _⟩
        exact SqT.of (s' _ _ T2.l2)
      · rintro j u H' hj ⟨s', vs, hDl, lv, hvs⟩
        obtain ⟨r, hr1, t, d, w1, w2, w3, g1, g2, g3, rfl, ht, _⟩ := T2.ms.get j u hj
        refine ⟨rfl, _, rfl, _, rfl, t, _, rfl, SqT.of (s' _ _ ht), (fun z => absurd z.2 (by show ¬ HT.sIx 3 3 (some 2) = 3; decide)), fun q hq => ?_⟩
        rw [show cutV [V.str r.1, V.str "k", V.ref d] none (some 2) = [.str r.1, .str "k"] from cutV_upto (k := 2)]
        have sq := same_new (Same.refl H') hq (o := .tup [.str r.1, .str "k"])
        have eq' : upd H' q (.tup [.str r.1, .str "k"]) q = some (.tup [.str r.1, .str "k"]) := upd_same
        generalize upd H' q (.tup [.str r.1, .str "k"]) = H2 at sq eq' ⊢
        have jl : j < R.mks.length := (List.getElem?_eq_some_iff.mp hr1).1
        have tm' : Tups H2 (upd H2 E (.lst (vs ++ [.ref q]))) := (Tups.refl _).mut (sq _ _ hDl) (by intro _ z; cases z)
        refine ⟨vs, sq _ _ hDl, small1000 (by omega), same_mut (s'.trans sq) hE, vs ++ [.ref q], upd_same, by simp [lv], ?_⟩
        rw [List.take_add_one, hr1, List.map_append]
        exact ((hvs.mono (sameTups sq)).app (.cons (.tup eq' (.cons (.str _) (.cons (.str _) .nil))) .nil)).mono tm' 
      rintro H3 ⟨s3, vs2, hE1, lv2, hvs2⟩
      rw [lm2, List.take_length] at hvs2
      have cl := SeqAt.canLay_of_shaped shM
      refine ⟨_, _, .lst (SqL.of (s3 _ _ hD1)) (hvs1.mono (sameTups s3)).dp, .lst (SqL.of hE1) hvs2.dp, shM, shM, _, rfl, ?_⟩
      rw [SeqAt.eqv_refl _ cl]
      exact iteF ⟨rfl, (sA.trans s2).trans s3⟩
    rintro _ H1 ⟨rfl, sA⟩
    -- the fields of what was made
    refine ⟨fun σ' H' => σ' = [some (.ref a), some (.ref p), v2, some vd, some vb, some (.str nm), some (.ref bt), some (.ref sl), some (.ref t1), some (.ref t2), v10, none, none] ∧ Same Hb H', ?_, ?_⟩
    · have T1 := hT1.on sA
      refine ⟨_, rfl, t1, _, _, _, rfl, rfl, SqT.of T1.t, e13, x2, rfl, ⟨_, SqT.of T1.l2⟩, fun D hD => ?_⟩
      refine lc_tup (K := K) (a := x2) (xs := ms1) (fun j H' => Same H1 H' ∧ ∃ vs, H' D = some (.lst vs) ∧ vs.length = j ∧ Al (DcAt H') vs (R.mks.take j)) ?_ ?_ ?_ ?_
      · exact ⟨same_new (Same.refl _) hD, [], upd_same, rfl, .nil⟩
      · rintro j H' _ ⟨s', _⟩
        exact SqT.of (s' _ _ T1.l2)
      · rintro j u H' hj ⟨s', vs, hDl, lv, hvs⟩
        obtain ⟨r, hr1, t, d, w1, w2, w3, g1, g2, g3, rfl, ht, hd, nd, er, q1, q2, q3⟩ := T1.ms.get j u hj
        have ts := sameTups s'
        have jl : j < R.mks.length := (List.getElem?_eq_some_iff.mp hr1).1
        refine ⟨rfl, _, rfl, t, _, _, _, rfl, rfl, SqT.of (s' _ _ ht), (by exact atI_int (by decide) rfl), vs, hDl, small1000 (by omega), same_mut s' hD, vs ++ [.ref d], upd_same, by simp [lv], ?_⟩
        have hx : DcAt H' (.ref d) r := ⟨d, w1, w2, w3, g1, g2, g3, rfl, s' _ _ hd, er, q1.mono ts, q2.mono ts, q3.mono ts⟩
        rw [List.take_add_one, hr1]
        exact (Al.snoc hx hvs).imp fun v r m => m.mut hDl
      rintro H2 ⟨s2, vs1, hD1, lv1, hvs1⟩
      rw [lm1, List.take_length] at hvs1
      have T2 := hT2.on (sA.trans s2)
      refine ⟨_, rfl, t2, _, _, _, rfl, rfl, SqT.of T2.t, e23, y2, rfl, ⟨_, SqT.of T2.l2⟩, fun E hE => ?_⟩
      refine lc_tup (K := K) (a := y2) (xs := ms2) (fun j H' => Same H2 H' ∧ ∃ vs, H' E = some (.lst vs) ∧ vs.length = j ∧ Al (DcAt H') vs (R.mks.take j)) ?_ ?_ ?_ ?_
      · exact ⟨same_new (Same.refl _) hE, [], upd_same, rfl, .nil⟩
      · rintro j H' _ ⟨s', _⟩
        exact SqT.of (s' _ _ T2.l2)
      · rintro j u H' hj ⟨s', vs, hDl, lv, hvs⟩
        obtain ⟨r, hr1, t, d, w1, w2, w3, g1, g2, g3, rfl, ht, hd, nd, er, q1, q2, q3⟩ := T2.ms.get j u hj
        have ts := sameTups s'
        have jl : j < R.mks.length := (List.getElem?_eq_some_iff.mp hr1).1
        refine ⟨rfl, _, rfl, t, _, _, _, rfl, rfl, SqT.of (s' _ _ ht), (by exact atI_int (by decide) rfl), vs, hDl, small1000 (by omega), same_mut s' hE, vs ++ [.ref d], upd_same, by simp [lv], ?_⟩
        have hx : DcAt H' (.ref d) r := ⟨d, w1, w2, w3, g1, g2, g3, rfl, s' _ _ hd, er, q1.mono ts, q2.mono ts, q3.mono ts⟩
        rw [List.take_add_one, hr1]
        exact (Al.snoc hx hvs).imp fun v r m => m.mut hDl
      rintro H3 ⟨s3, vs2, hE1, lv2, hvs2⟩
      rw [lm2, List.take_length] at hvs2
      refine ⟨.inl ⟨D, E, vs1, vs2, rfl, rfl, SqL.of (s3 _ _ hD1), SqL.of hE1, al_pair (fun r hr v u h1 h2 => dc_eq (sz.mks r hr) h1 h2) (hvs1.imp fun v r m => m.on s3) hvs2⟩, _, rfl, iteF ⟨rfl, (sA.trans s2).trans s3⟩⟩
    rintro _ H1 ⟨rfl, sA⟩
    -- the names of the calls
    refine ⟨fun σ' H' => ∃ D : Addr, σ' = [some (.ref a), some (.ref p), v2, some vd, some vb, some (.str nm), some (.ref bt), some (.ref sl), some (.ref t1), some (.ref t2), some (.ref D), none, none] ∧ Same Hb H' ∧ H' D = some (.lst ((R.pus.map (·.nm)).map V.str)), ?_, ?_⟩
    · have T1 := hT1.on sA
      refine ⟨_, rfl, t1, _, _, _, rfl, rfl, SqT.of T1.t, e14, x3, rfl, ⟨_, SqT.of T1.l3⟩, fun D hD => ?_⟩
      refine lc_tup (K := K) (a := x3) (xs := ps1) (fun j H' => Same H1 H' ∧ H' D = some (.lst (((R.pus.take j).map (·.nm)).map V.str))) ?_ ?_ ?_ ?_
      · exact ⟨same_new (Same.refl _) hD, upd_same⟩
      · rintro j H' _ ⟨s', _⟩
        exact SqT.of (s' _ _ T1.l3)
      · rintro j u H' hj ⟨s', hDl⟩
        obtain ⟨r, hr1, t, vt, va, rfl, ht, _⟩ := T1.ps.get j u hj
        have jl : j < R.pus.length := (List.getElem?_eq_some_iff.mp hr1).1
        refine ⟨rfl, _, rfl, t, _, _, _, rfl, rfl, SqT.of (s' _ _ ht), (by exact atI_int (by decide) rfl), _, hDl, small1000 (by rw [List.length_map, List.length_map, List.length_take]; omega), same_mut s' hD, ?_⟩
        rw [upd_same, List.take_add_one, hr1, List.map_append, List.map_append]
        rfl
      rintro H2 ⟨s2, hD1⟩
      rw [lp1, List.take_length] at hD1
      exact ⟨D, rfl, sA.trans s2, hD1⟩
    rintro _ H1 ⟨D, rfl, sA, hD1⟩
    have shP : SeqAt.shaped (.list ((R.pus.map (·.nm)).map PyData.str)) = true := strs_shaped fun q hq => by
      obtain ⟨r, hr1, rfl⟩ := List.mem_map.mp hq
      exact (sz.pun r hr1).1
    refine ⟨fun σ' H' => σ' = [some (.ref a), some (.ref p), v2, some vd, some vb, some (.str nm), some (.ref bt), some (.ref sl), some (.ref t1), some (.ref t2), some (.ref D), none, none] ∧ Same Hb H', ?_, ?_⟩
    · refine ⟨_, rfl, _, rfl, D, _, rfl, .inl (SqL.of hD1), _, rfl, (by omega), (by rw [List.length_map, List.length_map]; omega), fun D2 hD2 => ?_⟩
      refine lc_range (lo := 0) (n := ((R.pus.map (·.nm)).map V.str).length) (fun j H' => Same H1 H' ∧ H' D2 = some (.lst (((List.range j).map (nmS nm ".")).map V.str))) ?_ ?_ ?_
      · exact ⟨same_new (Same.refl _) hD2, upd_same⟩
      · rintro j H' hj ⟨s', hDl⟩
        rw [show (0 : Int) + ((j : Nat) : Int) = ((j : Nat) : Int) from Int.zero_add _]
        have hj' := hj
        rw [List.length_map, List.length_map] at hj'
        have gl := (z j (by omega)).2.g
        obtain ⟨l1', l2'⟩ := nm_len gl.len
        have l3' := gl.len
        unfold nmS at l3'
        rw [strLen_append] at l3'
        refine ⟨rfl, _, rfl, _, _, rfl, rfl, Nat.le_of_lt (small1000 (by rw [strLen_append] at l2'; omega)), _, rfl, _, rfl, log_small (by omega), _, _, rfl, rfl, Nat.le_of_lt (small1000 (Nat.le_trans l3' (by decide))), _, hDl, small1000 (by rw [List.length_map, List.length_map, List.length_range]; omega), same_mut s' hD2, ?_⟩
        rw [upd_same, List.range_succ, List.map_append, List.map_append]
        rfl
      rintro H2 ⟨s2, hD3⟩
      rw [List.length_map, List.length_map, ← sz.nmP] at hD3
      have cl := SeqAt.canLay_of_shaped shP
      refine ⟨_, _, .lst (SqL.of (s2 _ _ hD1)) (dp_strs _), .lst (SqL.of hD3) (dp_strs _), shP, shP, _, rfl, ?_⟩
      rw [SeqAt.eqv_refl _ cl]
      exact iteF ⟨rfl, sA.trans s2⟩
    rintro _ H1' ⟨rfl, sA'⟩
    -- the names of what was made
    have shN : SeqAt.shaped (.list ((R.mks.map (·.1)).map PyData.str)) = true := strs_shaped fun q hq => by
      obtain ⟨r, hr1, rfl⟩ := List.mem_map.mp hq
      exact (sz.mkn r hr1).1
    have T1 := hT1.on sA'
    refine ⟨_, rfl, t1, _, _, _, rfl, rfl, SqT.of T1.t, e13, x2, rfl, ⟨_, SqT.of T1.l2⟩, fun E hE => ?_⟩
    refine lc_tup (K := K) (a := x2) (xs := ms1) (fun j H' => Same H1' H' ∧ H' E = some (.lst (((R.mks.take j).map (·.1)).map V.str))) ?_ ?_ ?_ ?_
    · exact ⟨same_new (Same.refl _) hE, upd_same⟩
    · rintro j H' _ ⟨s', _⟩
      exact SqT.of (s' _ _ T1.l2)
    · rintro j u H' hj ⟨s', hDl⟩
      obtain ⟨r, hr1, t, d, w1, w2, w3, g1, g2, g3, rfl, ht, _⟩ := T1.ms.get j u hj
      have jl : j < R.mks.length := (List.getElem?_eq_some_iff.mp hr1).1
      refine ⟨rfl, _, rfl, t, _, _, _, rfl, rfl, SqT.of (s' _ _ ht), (by exact atI_int (by decide) rfl), _, hDl, small1000 (by rw [List.length_map, List.length_map, List.length_take]; omega), same_mut s' hE, ?_⟩
      rw [upd_same, List.take_add_one, hr1, List.map_append, List.map_append]
      rfl
    rintro H2 ⟨s2, hE1⟩
    rw [lm1, List.take_length] at hE1
    have T1 := hT1.on (sA'.trans s2)
    refine ⟨_, rfl, t1, _, _, _, rfl, rfl, SqT.of T1.t, e13, x2, _, rfl, .inr (SqT.of T1.l2), _, rfl, (by omega), (by omega), fun D2 hD2 => ?_⟩
    refine lc_range (lo := 0) (n := ms1.length) (fun j H' => Same H2 H' ∧ H' D2 = some (.lst (((List.range j).map (nmS nm "#")).map V.str))) ?_ ?_ ?_
    · exact ⟨same_new (Same.refl _) hD2, upd_same⟩
    · rintro j H' hj ⟨s', hDl⟩
      rw [show (0 : Int) + ((j : Nat) : Int) = ((j : Nat) : Int) from Int.zero_add _]
      have gl := (z j (by omega)).1.g
      obtain ⟨l1', l2'⟩ := nm_len gl.len
      have l3' := gl.len
      unfold nmS at l3'
      rw [strLen_append] at l3'
      refine ⟨rfl, _, rfl, _, _, rfl, rfl, Nat.le_of_lt (small1000 (by rw [strLen_append] at l2'; omega)), _, rfl, _, rfl, log_small (by omega), _, _, rfl, rfl, Nat.le_of_lt (small1000 (Nat.le_trans l3' (by decide))), _, hDl, small1000 (by rw [List.length_map, List.length_map, List.length_range]; omega), same_mut s' hD2, ?_⟩
      rw [upd_same, List.range_succ, List.map_append, List.map_append]
      rfl
    rintro H3 ⟨s3, hD3⟩
    rw [lm1, ← sz.nmM] at hD3
    have cl := SeqAt.canLay_of_shaped shN
    refine ⟨_, _, .lst (SqL.of (s3 _ _ hE1)) (dp_strs _), .lst (SqL.of hD3) (dp_strs _), shN, shN, _, rfl, ?_⟩
    rw [SeqAt.eqv_refl _ cl]
    exact iteF ⟨⟨_, _, _, _, _, _, _, _, _, rfl⟩, (same_pen hPb ((sA'.trans s2).trans s3)).mono (by omega)⟩
end
end K3
namespace K3
open PySem PySem.Spec PyProof.Rows L2 GG
theorem all_mk {l : PySem.W.OpenLaw} {w : World} {K : PySem.W.Frag} {h : Heap} {mg : Str → Option Value} {fa : Addr} (X : K.In h) (G : h.Ns mainGlobals mg) (hfa : mg "law" = some (.ref fa))
    {f__law_pen : Addr} {od__law_pen an__law_pen : Option Addr} {sl__law_pen : Array (Option Value)} {oc__law_pen kV__law_pen dc__law_pen pm__law_pen cd__law_pen ct__law_pen : Value}
    {f__law_draw : Addr} {od__law_draw an__law_draw : Option Addr} {sl__law_draw : Array (Option Value)} {oc__law_draw kV__law_draw dc__law_draw pm__law_draw cd__law_draw ct__law_draw : Value}
    {f__law_pick : Addr} {od__law_pick an__law_pick : Option Addr} {sl__law_pick : Array (Option Value)} {oc__law_pick kV__law_pick dc__law_pick pm__law_pick cd__law_pick ct__law_pick : Value}
    {f__law_is_hold : Addr} {od__law_is_hold an__law_is_hold : Option Addr} {sl__law_is_hold : Array (Option Value)} {oc__law_is_hold kV__law_is_hold dc__law_is_hold pm__law_is_hold cd__law_is_hold ct__law_is_hold : Value}
    {f__law_worth : Addr} {od__law_worth an__law_worth : Option Addr} {sl__law_worth : Array (Option Value)} {oc__law_worth kV__law_worth dc__law_worth pm__law_worth cd__law_worth ct__law_worth : Value}
    {f__law_do : Addr} {od__law_do an__law_do : Option Addr} {sl__law_do : Array (Option Value)} {oc__law_do kV__law_do dc__law_do pm__law_do cd__law_do ct__law_do : Value}
    {f__law_do_one : Addr} {od__law_do_one an__law_do_one : Option Addr} {sl__law_do_one : Array (Option Value)} {oc__law_do_one kV__law_do_one dc__law_do_one pm__law_do_one cd__law_do_one ct__law_do_one : Value}
    {f__law_effect : Addr} {od__law_effect an__law_effect : Option Addr} {sl__law_effect : Array (Option Value)} {oc__law_effect kV__law_effect dc__law_effect pm__law_effect cd__law_effect ct__law_effect : Value}
    {f__law_new : Addr} {od__law_new an__law_new : Option Addr} {sl__law_new : Array (Option Value)} {oc__law_new kV__law_new dc__law_new pm__law_new cd__law_new ct__law_new : Value}
    {f__law_act : Addr} {od__law_act an__law_act : Option Addr} {sl__law_act : Array (Option Value)} {oc__law_act kV__law_act dc__law_act pm__law_act cd__law_act ct__law_act : Value}
    {f__law_many_deeds : Addr} {od__law_many_deeds an__law_many_deeds : Option Addr} {sl__law_many_deeds : Array (Option Value)} {oc__law_many_deeds kV__law_many_deeds dc__law_many_deeds pm__law_many_deeds cd__law_many_deeds ct__law_many_deeds : Value}
    {f_law : Addr} {od_law an_law : Option Addr} {sl_law : Array (Option Value)} {oc_law kV_law dc_law pm_law cd_law ct_law : Value}
    {f_is_count : Addr} {od_is_count an_is_count : Option Addr} {sl_is_count : Array (Option Value)} {oc_is_count kV_is_count dc_is_count pm_is_count cd_is_count ct_is_count : Value}
    {f_is_name : Addr} {od_is_name an_is_name : Option Addr} {sl_is_name : Array (Option Value)} {oc_is_name kV_is_name dc_is_name pm_is_name cd_is_name ct_is_name : Value}
    {f_is_hold : Addr} {od_is_hold an_is_hold : Option Addr} {sl_is_hold : Array (Option Value)} {oc_is_hold kV_is_hold dc_is_hold pm_is_hold cd_is_hold ct_is_hold : Value}
    {f_copied : Addr} {od_copied an_copied : Option Addr} {sl_copied : Array (Option Value)} {oc_copied kV_copied dc_copied pm_copied cd_copied ct_copied : Value}
    {f_kind_of : Addr} {od_kind_of an_kind_of : Option Addr} {sl_kind_of : Array (Option Value)} {oc_kind_of kV_kind_of dc_kind_of pm_kind_of cd_kind_of ct_kind_of : Value}
    {f_fields_of : Addr} {od_fields_of an_fields_of : Option Addr} {sl_fields_of : Array (Option Value)} {oc_fields_of kV_fields_of dc_fields_of pm_fields_of cd_fields_of ct_fields_of : Value}
    {f_filled : Addr} {od_filled an_filled : Option Addr} {sl_filled : Array (Option Value)} {oc_filled kV_filled dc_filled pm_filled cd_filled ct_filled : Value}
    {f_method_of : Addr} {od_method_of an_method_of : Option Addr} {sl_method_of : Array (Option Value)} {oc_method_of kV_method_of dc_method_of pm_method_of cd_method_of ct_method_of : Value}
    {f_done : Addr} {od_done an_done : Option Addr} {sl_done : Array (Option Value)} {oc_done kV_done dc_done pm_done cd_done ct_done : Value}
    {f_given_by : Addr} {od_given_by an_given_by : Option Addr} {sl_given_by : Array (Option Value)} {oc_given_by kV_given_by dc_given_by pm_given_by cd_given_by ct_given_by : Value}
    {f_chosen : Addr} {od_chosen an_chosen : Option Addr} {sl_chosen : Array (Option Value)} {oc_chosen kV_chosen dc_chosen pm_chosen cd_chosen ct_chosen : Value}
    {f_do_make : Addr} {od_do_make an_do_make : Option Addr} {sl_do_make : Array (Option Value)} {oc_do_make kV_do_make dc_do_make pm_do_make cd_do_make ct_do_make : Value}
    {f_do_call : Addr} {od_do_call an_do_call : Option Addr} {sl_do_call : Array (Option Value)} {oc_do_call kV_do_call dc_do_call pm_do_call cd_do_call ct_do_call : Value}
    {f_do_when : Addr} {od_do_when an_do_when : Option Addr} {sl_do_when : Array (Option Value)} {oc_do_when kV_do_when dc_do_when pm_do_when cd_do_when ct_do_when : Value}
    {f_worths_of : Addr} {od_worths_of an_worths_of : Option Addr} {sl_worths_of : Array (Option Value)} {oc_worths_of kV_worths_of dc_worths_of pm_worths_of cd_worths_of ct_worths_of : Value}
    {f_worth_of : Addr} {od_worth_of an_worth_of : Option Addr} {sl_worth_of : Array (Option Value)} {oc_worth_of kV_worth_of dc_worth_of pm_worth_of cd_worth_of ct_worth_of : Value}
    {C D dA hA : Addr} {h0 h1 h2 h3 h4 h5 tw tn tm tp : Tok} {dH : Option Addr} {nH nE : Nat} {slH : Array (Option Value)} {esE : Array DictEntry}
    {f_act : Addr} {od_act an_act : Option Addr} {sl_act : Array (Option Value)} {oc_act kV_act dc_act pm_act cd_act ct_act : Value}
    {f_J : Addr} {od_J an_J : Option Addr} {sl_J : Array (Option Value)} {oc_J kV_J dc_J pm_J cd_J ct_J : Value}
    (a__law_pen : PySem.W.nsIn K mainGlobals "_law_pen" = some (some (.ref f__law_pen)))
    (l__law_pen : K.lookup f__law_pen = some ⟨oc__law_pen, od__law_pen, .func (PySem.W.fnOf "_law_pen" "_law_pen" (defArgs sPen) (defBody sPen) (defScope sPen) .none kV__law_pen dc__law_pen pm__law_pen an__law_pen cd__law_pen ct__law_pen), sl__law_pen⟩)
    (c__law_pen : PySem.W.codeIn K cd__law_pen "_law_pen" = true)
    (k__law_pen : PySem.W.keepIn K (.ref f__law_pen) = true)
    (a__law_draw : PySem.W.nsIn K mainGlobals "_law_draw" = some (some (.ref f__law_draw)))
    (l__law_draw : K.lookup f__law_draw = some ⟨oc__law_draw, od__law_draw, .func (PySem.W.fnOf "_law_draw" "_law_draw" (defArgs sDraw) (defBody sDraw) (defScope sDraw) .none kV__law_draw dc__law_draw pm__law_draw an__law_draw cd__law_draw ct__law_draw), sl__law_draw⟩)
    (c__law_draw : PySem.W.codeIn K cd__law_draw "_law_draw" = true)
    (k__law_draw : PySem.W.keepIn K (.ref f__law_draw) = true)
    (a__law_pick : PySem.W.nsIn K mainGlobals "_law_pick" = some (some (.ref f__law_pick)))
    (l__law_pick : K.lookup f__law_pick = some ⟨oc__law_pick, od__law_pick, .func (PySem.W.fnOf "_law_pick" "_law_pick" (defArgs sPick) (defBody sPick) (defScope sPick) .none kV__law_pick dc__law_pick pm__law_pick an__law_pick cd__law_pick ct__law_pick), sl__law_pick⟩)
    (c__law_pick : PySem.W.codeIn K cd__law_pick "_law_pick" = true)
    (k__law_pick : PySem.W.keepIn K (.ref f__law_pick) = true)
    (a__law_is_hold : PySem.W.nsIn K mainGlobals "_law_is_hold" = some (some (.ref f__law_is_hold)))
    (l__law_is_hold : K.lookup f__law_is_hold = some ⟨oc__law_is_hold, od__law_is_hold, .func (PySem.W.fnOf "_law_is_hold" "_law_is_hold" (defArgs sLIs) (defBody sLIs) (defScope sLIs) .none kV__law_is_hold dc__law_is_hold pm__law_is_hold an__law_is_hold cd__law_is_hold ct__law_is_hold), sl__law_is_hold⟩)
    (c__law_is_hold : PySem.W.codeIn K cd__law_is_hold "_law_is_hold" = true)
    (k__law_is_hold : PySem.W.keepIn K (.ref f__law_is_hold) = true)
    (a__law_worth : PySem.W.nsIn K mainGlobals "_law_worth" = some (some (.ref f__law_worth)))
    (l__law_worth : K.lookup f__law_worth = some ⟨oc__law_worth, od__law_worth, .func (PySem.W.fnOf "_law_worth" "_law_worth" (defArgs sLW) (defBody sLW) (defScope sLW) .none kV__law_worth dc__law_worth pm__law_worth an__law_worth cd__law_worth ct__law_worth), sl__law_worth⟩)
    (c__law_worth : PySem.W.codeIn K cd__law_worth "_law_worth" = true)
    (k__law_worth : PySem.W.keepIn K (.ref f__law_worth) = true)
    (a__law_do : PySem.W.nsIn K mainGlobals "_law_do" = some (some (.ref f__law_do)))
    (l__law_do : K.lookup f__law_do = some ⟨oc__law_do, od__law_do, .func (PySem.W.fnOf "_law_do" "_law_do" (defArgs sDo) (defBody sDo) (defScope sDo) .none kV__law_do dc__law_do pm__law_do an__law_do cd__law_do ct__law_do), sl__law_do⟩)
    (c__law_do : PySem.W.codeIn K cd__law_do "_law_do" = true)
    (k__law_do : PySem.W.keepIn K (.ref f__law_do) = true)
    (a__law_do_one : PySem.W.nsIn K mainGlobals "_law_do_one" = some (some (.ref f__law_do_one)))
    (l__law_do_one : K.lookup f__law_do_one = some ⟨oc__law_do_one, od__law_do_one, .func (PySem.W.fnOf "_law_do_one" "_law_do_one" (defArgs sOne) (defBody sOne) (defScope sOne) .none kV__law_do_one dc__law_do_one pm__law_do_one an__law_do_one cd__law_do_one ct__law_do_one), sl__law_do_one⟩)
    (c__law_do_one : PySem.W.codeIn K cd__law_do_one "_law_do_one" = true)
    (k__law_do_one : PySem.W.keepIn K (.ref f__law_do_one) = true)
    (a__law_effect : PySem.W.nsIn K mainGlobals "_law_effect" = some (some (.ref f__law_effect)))
    (l__law_effect : K.lookup f__law_effect = some ⟨oc__law_effect, od__law_effect, .func (PySem.W.fnOf "_law_effect" "_law_effect" (defArgs sEff) (defBody sEff) (defScope sEff) .none kV__law_effect dc__law_effect pm__law_effect an__law_effect cd__law_effect ct__law_effect), sl__law_effect⟩)
    (c__law_effect : PySem.W.codeIn K cd__law_effect "_law_effect" = true)
    (k__law_effect : PySem.W.keepIn K (.ref f__law_effect) = true)
    (a__law_new : PySem.W.nsIn K mainGlobals "_law_new" = some (some (.ref f__law_new)))
    (l__law_new : K.lookup f__law_new = some ⟨oc__law_new, od__law_new, .func (PySem.W.fnOf "_law_new" "_law_new" (defArgs sLNew) (defBody sLNew) (defScope sLNew) .none kV__law_new dc__law_new pm__law_new an__law_new cd__law_new ct__law_new), sl__law_new⟩)
    (c__law_new : PySem.W.codeIn K cd__law_new "_law_new" = true)
    (k__law_new : PySem.W.keepIn K (.ref f__law_new) = true)
    (a__law_act : PySem.W.nsIn K mainGlobals "_law_act" = some (some (.ref f__law_act)))
    (l__law_act : K.lookup f__law_act = some ⟨oc__law_act, od__law_act, .func (PySem.W.fnOf "_law_act" "_law_act" (defArgs sLAct) (defBody sLAct) (defScope sLAct) .none kV__law_act dc__law_act pm__law_act an__law_act cd__law_act ct__law_act), sl__law_act⟩)
    (c__law_act : PySem.W.codeIn K cd__law_act "_law_act" = true)
    (k__law_act : PySem.W.keepIn K (.ref f__law_act) = true)
    (a__law_many_deeds : PySem.W.nsIn K mainGlobals "_law_many_deeds" = some (some (.ref f__law_many_deeds)))
    (l__law_many_deeds : K.lookup f__law_many_deeds = some ⟨oc__law_many_deeds, od__law_many_deeds, .func (PySem.W.fnOf "_law_many_deeds" "_law_many_deeds" (defArgs sMany) (defBody sMany) (defScope sMany) .none kV__law_many_deeds dc__law_many_deeds pm__law_many_deeds an__law_many_deeds cd__law_many_deeds ct__law_many_deeds), sl__law_many_deeds⟩)
    (c__law_many_deeds : PySem.W.codeIn K cd__law_many_deeds "_law_many_deeds" = true)
    (k__law_many_deeds : PySem.W.keepIn K (.ref f__law_many_deeds) = true)
    (a_law : PySem.W.nsIn K mainGlobals "law" = some (some (.ref f_law)))
    (l_law : K.lookup f_law = some ⟨oc_law, od_law, .func (PySem.W.fnOf "law" "law" (defArgs sLaw) (defBody sLaw) (defScope sLaw) .none kV_law dc_law pm_law an_law cd_law ct_law), sl_law⟩)
    (c_law : PySem.W.codeIn K cd_law "law" = true)
    (k_law : PySem.W.keepIn K (.ref f_law) = true)
    (a_is_count : PySem.W.nsIn K mainGlobals "is_count" = some (some (.ref f_is_count)))
    (l_is_count : K.lookup f_is_count = some ⟨oc_is_count, od_is_count, .func (PySem.W.fnOf "is_count" "is_count" (defArgs sCountP) (defBody sCountP) (defScope sCountP) .none kV_is_count dc_is_count pm_is_count an_is_count cd_is_count ct_is_count), sl_is_count⟩)
    (c_is_count : PySem.W.codeIn K cd_is_count "is_count" = true)
    (k_is_count : PySem.W.keepIn K (.ref f_is_count) = true)
    (a_is_name : PySem.W.nsIn K mainGlobals "is_name" = some (some (.ref f_is_name)))
    (l_is_name : K.lookup f_is_name = some ⟨oc_is_name, od_is_name, .func (PySem.W.fnOf "is_name" "is_name" (defArgs sNameP) (defBody sNameP) (defScope sNameP) .none kV_is_name dc_is_name pm_is_name an_is_name cd_is_name ct_is_name), sl_is_name⟩)
    (c_is_name : PySem.W.codeIn K cd_is_name "is_name" = true)
    (k_is_name : PySem.W.keepIn K (.ref f_is_name) = true)
    (a_is_hold : PySem.W.nsIn K mainGlobals "is_hold" = some (some (.ref f_is_hold)))
    (l_is_hold : K.lookup f_is_hold = some ⟨oc_is_hold, od_is_hold, .func (PySem.W.fnOf "is_hold" "is_hold" (defArgs sHoldP) (defBody sHoldP) (defScope sHoldP) .none kV_is_hold dc_is_hold pm_is_hold an_is_hold cd_is_hold ct_is_hold), sl_is_hold⟩)
    (c_is_hold : PySem.W.codeIn K cd_is_hold "is_hold" = true)
    (k_is_hold : PySem.W.keepIn K (.ref f_is_hold) = true)
    (a_copied : PySem.W.nsIn K mainGlobals "copied" = some (some (.ref f_copied)))
    (l_copied : K.lookup f_copied = some ⟨oc_copied, od_copied, .func (PySem.W.fnOf "copied" "copied" (defArgs sCopied) (defBody sCopied) (defScope sCopied) .none kV_copied dc_copied pm_copied an_copied cd_copied ct_copied), sl_copied⟩)
    (c_copied : PySem.W.codeIn K cd_copied "copied" = true)
    (k_copied : PySem.W.keepIn K (.ref f_copied) = true)
    (a_kind_of : PySem.W.nsIn K mainGlobals "kind_of" = some (some (.ref f_kind_of)))
    (l_kind_of : K.lookup f_kind_of = some ⟨oc_kind_of, od_kind_of, .func (PySem.W.fnOf "kind_of" "kind_of" (defArgs sKindOf) (defBody sKindOf) (defScope sKindOf) .none kV_kind_of dc_kind_of pm_kind_of an_kind_of cd_kind_of ct_kind_of), sl_kind_of⟩)
    (c_kind_of : PySem.W.codeIn K cd_kind_of "kind_of" = true)
    (k_kind_of : PySem.W.keepIn K (.ref f_kind_of) = true)
    (a_fields_of : PySem.W.nsIn K mainGlobals "fields_of" = some (some (.ref f_fields_of)))
    (l_fields_of : K.lookup f_fields_of = some ⟨oc_fields_of, od_fields_of, .func (PySem.W.fnOf "fields_of" "fields_of" (defArgs sFieldsOf) (defBody sFieldsOf) (defScope sFieldsOf) .none kV_fields_of dc_fields_of pm_fields_of an_fields_of cd_fields_of ct_fields_of), sl_fields_of⟩)
    (c_fields_of : PySem.W.codeIn K cd_fields_of "fields_of" = true)
    (k_fields_of : PySem.W.keepIn K (.ref f_fields_of) = true)
    (a_filled : PySem.W.nsIn K mainGlobals "filled" = some (some (.ref f_filled)))
    (l_filled : K.lookup f_filled = some ⟨oc_filled, od_filled, .func (PySem.W.fnOf "filled" "filled" (defArgs sFilled) (defBody sFilled) (defScope sFilled) .none kV_filled dc_filled pm_filled an_filled cd_filled ct_filled), sl_filled⟩)
    (c_filled : PySem.W.codeIn K cd_filled "filled" = true)
    (k_filled : PySem.W.keepIn K (.ref f_filled) = true)
    (a_method_of : PySem.W.nsIn K mainGlobals "method_of" = some (some (.ref f_method_of)))
    (l_method_of : K.lookup f_method_of = some ⟨oc_method_of, od_method_of, .func (PySem.W.fnOf "method_of" "method_of" (defArgs sMethOf) (defBody sMethOf) (defScope sMethOf) .none kV_method_of dc_method_of pm_method_of an_method_of cd_method_of ct_method_of), sl_method_of⟩)
    (c_method_of : PySem.W.codeIn K cd_method_of "method_of" = true)
    (k_method_of : PySem.W.keepIn K (.ref f_method_of) = true)
    (a_done : PySem.W.nsIn K mainGlobals "done" = some (some (.ref f_done)))
    (l_done : K.lookup f_done = some ⟨oc_done, od_done, .func (PySem.W.fnOf "done" "done" (defArgs sDone) (defBody sDone) (defScope sDone) .none kV_done dc_done pm_done an_done cd_done ct_done), sl_done⟩)
    (c_done : PySem.W.codeIn K cd_done "done" = true)
    (k_done : PySem.W.keepIn K (.ref f_done) = true)
    (a_given_by : PySem.W.nsIn K mainGlobals "given_by" = some (some (.ref f_given_by)))
    (l_given_by : K.lookup f_given_by = some ⟨oc_given_by, od_given_by, .func (PySem.W.fnOf "given_by" "given_by" (defArgs sGiven) (defBody sGiven) (defScope sGiven) .none kV_given_by dc_given_by pm_given_by an_given_by cd_given_by ct_given_by), sl_given_by⟩)
    (c_given_by : PySem.W.codeIn K cd_given_by "given_by" = true)
    (k_given_by : PySem.W.keepIn K (.ref f_given_by) = true)
    (a_chosen : PySem.W.nsIn K mainGlobals "chosen" = some (some (.ref f_chosen)))
    (l_chosen : K.lookup f_chosen = some ⟨oc_chosen, od_chosen, .func (PySem.W.fnOf "chosen" "chosen" (defArgs sCho) (defBody sCho) (defScope sCho) .none kV_chosen dc_chosen pm_chosen an_chosen cd_chosen ct_chosen), sl_chosen⟩)
    (c_chosen : PySem.W.codeIn K cd_chosen "chosen" = true)
    (k_chosen : PySem.W.keepIn K (.ref f_chosen) = true)
    (a_do_make : PySem.W.nsIn K mainGlobals "do_make" = some (some (.ref f_do_make)))
    (l_do_make : K.lookup f_do_make = some ⟨oc_do_make, od_do_make, .func (PySem.W.fnOf "do_make" "do_make" (defArgs sDoMake) (defBody sDoMake) (defScope sDoMake) .none kV_do_make dc_do_make pm_do_make an_do_make cd_do_make ct_do_make), sl_do_make⟩)
    (c_do_make : PySem.W.codeIn K cd_do_make "do_make" = true)
    (k_do_make : PySem.W.keepIn K (.ref f_do_make) = true)
    (a_do_call : PySem.W.nsIn K mainGlobals "do_call" = some (some (.ref f_do_call)))
    (l_do_call : K.lookup f_do_call = some ⟨oc_do_call, od_do_call, .func (PySem.W.fnOf "do_call" "do_call" (defArgs sDoCall) (defBody sDoCall) (defScope sDoCall) .none kV_do_call dc_do_call pm_do_call an_do_call cd_do_call ct_do_call), sl_do_call⟩)
    (c_do_call : PySem.W.codeIn K cd_do_call "do_call" = true)
    (k_do_call : PySem.W.keepIn K (.ref f_do_call) = true)
    (a_do_when : PySem.W.nsIn K mainGlobals "do_when" = some (some (.ref f_do_when)))
    (l_do_when : K.lookup f_do_when = some ⟨oc_do_when, od_do_when, .func (PySem.W.fnOf "do_when" "do_when" (defArgs sDoWhen) (defBody sDoWhen) (defScope sDoWhen) .none kV_do_when dc_do_when pm_do_when an_do_when cd_do_when ct_do_when), sl_do_when⟩)
    (c_do_when : PySem.W.codeIn K cd_do_when "do_when" = true)
    (k_do_when : PySem.W.keepIn K (.ref f_do_when) = true)
    (a_worths_of : PySem.W.nsIn K mainGlobals "worths_of" = some (some (.ref f_worths_of)))
    (l_worths_of : K.lookup f_worths_of = some ⟨oc_worths_of, od_worths_of, .func (PySem.W.fnOf "worths_of" "worths_of" (defArgs sWsP) (defBody sWsP) (defScope sWsP) .none kV_worths_of dc_worths_of pm_worths_of an_worths_of cd_worths_of ct_worths_of), sl_worths_of⟩)
    (c_worths_of : PySem.W.codeIn K cd_worths_of "worths_of" = true)
    (k_worths_of : PySem.W.keepIn K (.ref f_worths_of) = true)
    (a_worth_of : PySem.W.nsIn K mainGlobals "worth_of" = some (some (.ref f_worth_of)))
    (l_worth_of : K.lookup f_worth_of = some ⟨oc_worth_of, od_worth_of, .func (PySem.W.fnOf "worth_of" "worth_of" (defArgs sWoP) (defBody sWoP) (defScope sWoP) .none kV_worth_of dc_worth_of pm_worth_of an_worth_of cd_worth_of ct_worth_of), sl_worth_of⟩)
    (c_worth_of : PySem.W.codeIn K cd_worth_of "worth_of" = true)
    (k_worth_of : PySem.W.keepIn K (.ref f_worth_of) = true)
    (a_act : PySem.W.nsIn K mainGlobals "act" = some (some (.ref f_act)))
    (l_act : K.lookup f_act = some ⟨oc_act, od_act, .func (PySem.W.fnOf "act" "act" (defArgs sAct) (defBody sAct) (defScope sAct) .none kV_act dc_act pm_act an_act cd_act ct_act), sl_act⟩)
    (c_act : PySem.W.codeIn K cd_act "act" = true)
    (k_act : PySem.W.keepIn K (.ref f_act) = true)
    (aC : PySem.W.nsIn K mainGlobals "Doing" = some (some (.ref C)))
    (iJ : PySem.W.findIn K (.ref C) "__init__" = some (some (.ref f_J)))
    (fJ : PySem.W.isFn K (.ref f_J) = true)
    (l_J : K.lookup f_J = some ⟨oc_J, od_J, .func (PySem.W.fnOf "__init__" "Doing.__init__" (defArgs sDI) (defBody sDI) (defScope sDI) .none kV_J dc_J pm_J an_J cd_J ct_J), sl_J⟩)
    (c_J : PySem.W.codeIn K cd_J "Doing.__init__" = true)
    (k_J : PySem.W.keepIn K (.ref f_J) = true)
    (pg : PySem.W.plainGet K C Str.empty = true)
    (hd : PySem.W.hasDictIn K C = true)
    (po : PySem.W.plainOver K C = true)
    (sa : PySem.W.findIn K (.ref C) "__setattr__" = some (some (.builtin "object.__setattr__")))
    (mk : PySem.W.makesIn K C = true)
    (kc : PySem.W.keepIn K (.ref C) = true)
    (n_plan : PySem.W.findIn K (.ref C) "plan" = some none)
    (n_fields : PySem.W.findIn K (.ref C) "fields" = some none)
    (n_cause : PySem.W.findIn K (.ref C) "cause" = some none)
    (n_me : PySem.W.findIn K (.ref C) "me" = some none)
    (n_known : PySem.W.findIn K (.ref C) "known" = some none)
    (n_says : PySem.W.findIn K (.ref C) "says" = some none)
    (n_makes : PySem.W.findIn K (.ref C) "makes" = some none)
    (n_puts : PySem.W.findIn K (.ref C) "puts" = some none)
    (n_goes : PySem.W.findIn K (.ref C) "goes" = some none)
    (aD : PySem.W.nsIn K mainGlobals "Fault" = some (some (.ref D)))
    (cW : PySem.W.nsIn K mainGlobals "MOST_WORD" = some (some (.int 8 tw)))
    (cN : PySem.W.nsIn K mainGlobals "MOST_NAME" = some (some (.int 400 tn)))
    (cM : PySem.W.nsIn K mainGlobals "MOST_NUMBER" = some (some (.int 999999999 tm)))
    (cP : PySem.W.nsIn K mainGlobals "MOST_PARTS" = some (some (.int 5 tp)))
    (aH : PySem.W.nsIn K mainGlobals "HOUSES" = some (some (.ref hA)))
    (lH : K.lookup hA = some ⟨.type "tuple", dH, .seq #[.str "0" h0, .str "1" h1, .str "2" h2, .str "3" h3, .str "4" h4, .str "5" h5] nH, slH⟩)
    (aE : PySem.W.nsIn K mainGlobals "DEEDS" = some (some (.ref dA)))
    (lE : K.lookup dA = some ⟨.type "dict", none, .dict esE nE, #[]⟩)
    (kE : PySem.W.KeysLit w.params esE.toList)
    (p_when : PySem.W.nsIn K dA "when" = some (some (.ref f_do_when)))
    (p_call : PySem.W.nsIn K dA "call" = some (some (.ref f_do_call)))
    (p_make : PySem.W.nsIn K dA "make" = some (some (.ref f_do_make)))
    (z_len : PySem.W.nsIn K mainGlobals "len" = some none) (z_abs : PySem.W.nsIn K mainGlobals "abs" = some none) (z_list : PySem.W.nsIn K mainGlobals "list" = some none) (z_tuple : PySem.W.nsIn K mainGlobals "tuple" = some none) (z_dict : PySem.W.nsIn K mainGlobals "dict" = some none) (z_range : PySem.W.nsIn K mainGlobals "range" = some none) (z_int : PySem.W.nsIn K mainGlobals "int" = some none) (z_max : PySem.W.nsIn K mainGlobals "max" = some none) (z_sorted : PySem.W.nsIn K mainGlobals "sorted" = some none) (z_repr : PySem.W.nsIn K mainGlobals "repr" = some none) (z_isinstance : PySem.W.nsIn K mainGlobals "isinstance" = some none) (z_bool : PySem.W.nsIn K mainGlobals "bool" = some none) (z_all : PySem.W.nsIn K mainGlobals "all" = some none) (z_str : PySem.W.nsIn K mainGlobals "str" = some none) (z_zip : PySem.W.nsIn K mainGlobals "zip" = some none) :
    ∃ fd : FuncData, (∀ (s : Shared) (v : Value), BindsTo s fd ⟨[v], []⟩ [("_law_script", v)]) ∧ ∀ base : Heap, K.In base → base.Ns mainGlobals mg → FnG l.prog w K mg base CX0 11 fa fd ["_law_script"] (spLaw K) := by
  have e := hfa.symm.trans (PySem.W.mg_of X G a_law)
  cases e
  have T : Txt mg := ⟨PySem.W.mg_none_of X G z_len, PySem.W.mg_none_of X G z_abs, PySem.W.mg_none_of X G z_list, PySem.W.mg_none_of X G z_tuple, PySem.W.mg_none_of X G z_dict, PySem.W.mg_none_of X G z_range, PySem.W.mg_none_of X G z_int, PySem.W.mg_none_of X G z_max, PySem.W.mg_none_of X G z_sorted, PySem.W.mg_none_of X G z_repr, PySem.W.mg_none_of X G z_isinstance⟩
  have y_bool := PySem.W.mg_none_of X G z_bool
  have y_all := PySem.W.mg_none_of X G z_all
  have y_str := PySem.W.mg_none_of X G z_str
  have y_zip := PySem.W.mg_none_of X G z_zip
  have F__law_pen := fun_mk (st := sPen) l__law_pen c__law_pen k__law_pen
  have m__law_pen := PySem.W.mg_of X G a__law_pen
  have b__law_pen := F__law_pen.binds (ps := ["_law_script"]) fun _ _ _ _ _ _ us hl => match us, hl with | [_], _ => rfl
  have F__law_draw := fun_mk (st := sDraw) l__law_draw c__law_draw k__law_draw
  have m__law_draw := PySem.W.mg_of X G a__law_draw
  have b__law_draw := F__law_draw.binds (ps := ["_law_pen_here", "_law_many"]) fun _ _ _ _ _ _ us hl => match us, hl with | [_, _], _ => rfl
  have F__law_pick := fun_mk (st := sPick) l__law_pick c__law_pick k__law_pick
  have m__law_pick := PySem.W.mg_of X G a__law_pick
  have b__law_pick := F__law_pick.binds (ps := ["_law_pen_here", "_law_some"]) fun _ _ _ _ _ _ us hl => match us, hl with | [_, _], _ => rfl
  have F__law_is_hold := fun_mk (st := sLIs) l__law_is_hold c__law_is_hold k__law_is_hold
  have m__law_is_hold := PySem.W.mg_of X G a__law_is_hold
  have b__law_is_hold := F__law_is_hold.binds (ps := ["_law_worth_here"]) fun _ _ _ _ _ _ us hl => match us, hl with | [_], _ => rfl
  have F__law_worth := fun_mk (st := sLW) l__law_worth c__law_worth k__law_worth
  have m__law_worth := PySem.W.mg_of X G a__law_worth
  have b__law_worth := F__law_worth.binds (ps := ["_law_told", "_law_here"]) fun _ _ _ _ _ _ us hl => match us, hl with | [_, _], _ => rfl
  have F__law_do := fun_mk (st := sDo) l__law_do c__law_do k__law_do
  have m__law_do := PySem.W.mg_of X G a__law_do
  have b__law_do := F__law_do.binds (ps := ["_law_book", "_law_deeds", "_law_here"]) fun _ _ _ _ _ _ us hl => match us, hl with | [_, _, _], _ => rfl
  have F__law_do_one := fun_mk (st := sOne) l__law_do_one c__law_do_one k__law_do_one
  have m__law_do_one := PySem.W.mg_of X G a__law_do_one
  have b__law_do_one := F__law_do_one.binds (ps := ["_law_book", "_law_task", "_law_here"]) fun _ _ _ _ _ _ us hl => match us, hl with | [_, _, _], _ => rfl
  have F__law_effect := fun_mk (st := sEff) l__law_effect c__law_effect k__law_effect
  have m__law_effect := PySem.W.mg_of X G a__law_effect
  have b__law_effect := F__law_effect.binds (ps := ["_law_book", "_law_task", "_law_some", "_law_here"]) fun _ _ _ _ _ _ us hl => match us, hl with | [_, _, _, _], _ => rfl
  have F__law_new := fun_mk (st := sLNew) l__law_new c__law_new k__law_new
  have m__law_new := PySem.W.mg_of X G a__law_new
  have b__law_new := F__law_new.binds (ps := ["_law_book", "_law_breed", "_law_bits"]) fun _ _ _ _ _ _ us hl => match us, hl with | [_, _, _], _ => rfl
  have F__law_act := fun_mk (st := sLAct) l__law_act c__law_act k__law_act
  have m__law_act := PySem.W.mg_of X G a__law_act
  have b__law_act := F__law_act.binds (ps := ["_law_book", "_law_breed", "_law_slots", "_law_naming", "_law_who", "_law_term", "_law_bits"]) fun _ _ _ _ _ _ us hl => match us, hl with | [_, _, _, _, _, _, _], _ => rfl
  have F__law_many_deeds := fun_mk (st := sMany) l__law_many_deeds c__law_many_deeds k__law_many_deeds
  have m__law_many_deeds := PySem.W.mg_of X G a__law_many_deeds
  have b__law_many_deeds := F__law_many_deeds.binds (ps := ["_law_pen_here", "_law_many"]) fun _ _ _ _ _ _ us hl => match us, hl with | [_, _], _ => rfl
  have F_law := fun_mk (st := sLaw) l_law c_law k_law
  have m_law := PySem.W.mg_of X G a_law
  have F_is_count := fun_mk (st := sCountP) l_is_count c_is_count k_is_count
  have m_is_count := PySem.W.mg_of X G a_is_count
  have b_is_count := F_is_count.binds (ps := ["text"]) fun _ _ _ _ _ _ us hl => match us, hl with | [_], _ => rfl
  have F_is_name := fun_mk (st := sNameP) l_is_name c_is_name k_is_name
  have m_is_name := PySem.W.mg_of X G a_is_name
  have b_is_name := F_is_name.binds (ps := ["thing"]) fun _ _ _ _ _ _ us hl => match us, hl with | [_], _ => rfl
  have F_is_hold := fun_mk (st := sHoldP) l_is_hold c_is_hold k_is_hold
  have m_is_hold := PySem.W.mg_of X G a_is_hold
  have b_is_hold := F_is_hold.binds (ps := ["thing"]) fun _ _ _ _ _ _ us hl => match us, hl with | [_], _ => rfl
  have F_copied := fun_mk (st := sCopied) l_copied c_copied k_copied
  have m_copied := PySem.W.mg_of X G a_copied
  have b_copied := F_copied.binds (ps := ["thing"]) fun _ _ _ _ _ _ us hl => match us, hl with | [_], _ => rfl
  have F_kind_of := fun_mk (st := sKindOf) l_kind_of c_kind_of k_kind_of
  have m_kind_of := PySem.W.mg_of X G a_kind_of
  have b_kind_of := F_kind_of.binds (ps := ["plan", "kind"]) fun _ _ _ _ _ _ us hl => match us, hl with | [_, _], _ => rfl
  have F_fields_of := fun_mk (st := sFieldsOf) l_fields_of c_fields_of k_fields_of
  have m_fields_of := PySem.W.mg_of X G a_fields_of
  have b_fields_of := F_fields_of.binds (ps := ["plan", "kind"]) fun _ _ _ _ _ _ us hl => match us, hl with | [_, _], _ => rfl
  have F_filled := fun_mk (st := sFilled) l_filled c_filled k_filled
  have m_filled := PySem.W.mg_of X G a_filled
  have b_filled := F_filled.binds (ps := ["plan", "kind", "args"]) fun _ _ _ _ _ _ us hl => match us, hl with | [_, _, _], _ => rfl
  have F_method_of := fun_mk (st := sMethOf) l_method_of c_method_of k_method_of
  have m_method_of := PySem.W.mg_of X G a_method_of
  have b_method_of := F_method_of.binds (ps := ["plan", "kind", "word", "many"]) fun _ _ _ _ _ _ us hl => match us, hl with | [_, _, _, _], _ => rfl
  have F_done := fun_mk (st := sDone) l_done c_done k_done
  have m_done := PySem.W.mg_of X G a_done
  have b_done := F_done.binds (ps := ["doing", "method", "args"]) fun _ _ _ _ _ _ us hl => match us, hl with | [_, _, _], _ => rfl
  have F_given_by := fun_mk (st := sGiven) l_given_by c_given_by k_given_by
  have m_given_by := PySem.W.mg_of X G a_given_by
  have b_given_by := F_given_by.binds (ps := ["deeds", "doing"]) fun _ _ _ _ _ _ us hl => match us, hl with | [_, _], _ => rfl
  have F_chosen := fun_mk (st := sCho) l_chosen c_chosen k_chosen
  have m_chosen := PySem.W.mg_of X G a_chosen
  have b_chosen := F_chosen.binds (ps := ["deed", "doing"]) fun _ _ _ _ _ _ us hl => match us, hl with | [_, _], _ => rfl
  have F_do_make := fun_mk (st := sDoMake) l_do_make c_do_make k_do_make
  have m_do_make := PySem.W.mg_of X G a_do_make
  have b_do_make := F_do_make.binds (ps := ["deed", "doing"]) fun _ _ _ _ _ _ us hl => match us, hl with | [_, _], _ => rfl
  have F_do_call := fun_mk (st := sDoCall) l_do_call c_do_call k_do_call
  have m_do_call := PySem.W.mg_of X G a_do_call
  have b_do_call := F_do_call.binds (ps := ["deed", "doing"]) fun _ _ _ _ _ _ us hl => match us, hl with | [_, _], _ => rfl
  have F_do_when := fun_mk (st := sDoWhen) l_do_when c_do_when k_do_when
  have m_do_when := PySem.W.mg_of X G a_do_when
  have b_do_when := F_do_when.binds (ps := ["deed", "doing"]) fun _ _ _ _ _ _ us hl => match us, hl with | [_, _], _ => rfl
  have F_worths_of := fun_mk (st := sWsP) l_worths_of c_worths_of k_worths_of
  have m_worths_of := PySem.W.mg_of X G a_worths_of
  have b_worths_of := F_worths_of.binds (ps := ["xs", "doing"]) fun _ _ _ _ _ _ us hl => match us, hl with | [_, _], _ => rfl
  have F_worth_of := fun_mk (st := sWoP) l_worth_of c_worth_of k_worth_of
  have m_worth_of := PySem.W.mg_of X G a_worth_of
  have b_worth_of := F_worth_of.binds (ps := ["x", "doing"]) fun _ _ _ _ _ _ us hl => match us, hl with | [_, _], _ => rfl
  have F_J := fun_mk (st := sDI) l_J c_J k_J
  have b_J := F_J.binds (ps := ["self", "plan", "fields", "cause", "me"]) fun _ _ _ _ _ _ us hl => match us, hl with | [_, _, _, _, _], _ => rfl
  have FA : FunD K "act" "act" (defArgs sAct) (defBody sAct) (defScope sAct) [] [] f_act _ := ⟨⟨_, _, _, _, _, _, _, _, _, _, rfl, l_act, c_act, .inl ⟨rfl, rfl⟩, .inl rfl⟩, k_act⟩
  have mA := PySem.W.mg_of X G a_act
  have CC : Cst K mg hA := ⟨⟨_, PySem.W.mg_of X G cW, ⟨_, rfl⟩⟩, ⟨_, PySem.W.mg_of X G cN, ⟨_, rfl⟩⟩, ⟨_, PySem.W.mg_of X G cM, ⟨_, rfl⟩⟩, ⟨_, PySem.W.mg_of X G cP, ⟨_, rfl⟩⟩, PySem.W.mg_of X G aH,
    fun H => .inr ⟨_, _, _, lH, rfl, rfl, by show 6 ≤ sizeLine; decide, .cons ⟨_, rfl⟩ (.cons ⟨_, rfl⟩ (.cons ⟨_, rfl⟩ (.cons ⟨_, rfl⟩ (.cons ⟨_, rfl⟩ (.cons ⟨_, rfl⟩ .nil)))))⟩⟩
  have DT : DTxt K C := ⟨⟨pg, hd, po, sa⟩, n_plan, n_fields, n_cause, n_me, n_known, n_says, n_makes, n_puts, n_goes⟩
  refine ⟨PySem.W.fnOf "law" "law" (defArgs sLaw) (defBody sLaw) (defScope sLaw) .none kV_law dc_law pm_law an_law cd_law ct_law, fun s v => .of_eq rfl, fun base hb hn => ?_⟩
  have Gct : FnOk l.prog w K mg base CX0 1 f_is_count _ ["text"] spCountT := ok_countT F_is_count
  have Gna : FnOk l.prog w K mg base CX0 2 f_is_name _ ["thing"] spName := ok_name F_is_name T y_str y_all CC m_is_count k_is_count b_is_count Gct
  have Gho : FnOk l.prog w K mg base CX0 3 f_is_hold _ ["thing"] spHold := ok_hold F_is_hold T m_is_name k_is_name b_is_name Gna
  have Gko : FnOk l.prog w K mg base CX0 1 f_kind_of _ ["plan", "kind"] spKindOf7 := ok_kindOf7 F_kind_of
  have Gmo : FnOk l.prog w K mg base CX0 2 f_method_of _ ["plan", "kind", "word", "many"] spMethOf7 := ok_methOf7 F_method_of T m_kind_of k_kind_of b_kind_of Gko
  have Gfo : FnOk l.prog w K mg base CX0 4 f_fields_of _ ["plan", "kind"] spFieldsOf7 := ok_fieldsOf7 F_fields_of m_kind_of k_kind_of b_kind_of Gko m_copied k_copied b_copied (ok_co F_copied T m_copied b_copied 2)
  have Gfl : FnOk l.prog w K mg base CX0 5 f_filled _ ["plan", "kind", "args"] spFilled7 := ok_filled7 F_filled T y_zip m_fields_of k_fields_of b_fields_of Gfo
  have Gwo : FnOk l.prog w K mg base CX0 1 f_worth_of _ ["x", "doing"] (spWoV C) := ok_woV F_worth_of DT
  have Gws : FnOk l.prog w K mg base CX0 2 f_worths_of _ ["xs", "doing"] (spWsV C) := ok_wsV F_worths_of T m_worth_of k_worth_of b_worth_of Gwo
  have Gdw : FnOk l.prog w K mg base CX0 6 f_do_when _ ["deed", "doing"] (spDeed C "when") := ok_dowhen F_do_when T DT m_worth_of k_worth_of b_worth_of Gwo m_worths_of k_worths_of b_worths_of Gws
  have Gdc : FnOk l.prog w K mg base CX0 6 f_do_call _ ["deed", "doing"] (spDeed C "call") := ok_docall F_do_call T DT m_worth_of k_worth_of b_worth_of Gwo m_worths_of k_worths_of b_worths_of Gws m_is_hold k_is_hold b_is_hold Gho
  have Gdm : FnOk l.prog w K mg base CX0 6 f_do_make _ ["deed", "doing"] (spDeed C "make") := ok_domake F_do_make T DT m_worths_of k_worths_of b_worths_of Gws m_filled k_filled b_filled Gfl
  have hD : ∀ o ∈ (["when", "call", "make"] : List Str), ∃ fo, KDct K w dA o (.ref fo) ∧ DeedAt l.prog w K mg base C o fo := fun o ho => by
    have ho' : o = "when" ∨ o = "call" ∨ o = "make" := by simpa using ho
    rcases ho' with rfl | rfl | rfl
    · exact ⟨f_do_when, ⟨_, _, _, lE, kE, p_when, rfl⟩, _, _, Gdw, k_do_when, b_do_when⟩
    · exact ⟨f_do_call, ⟨_, _, _, lE, kE, p_call, rfl⟩, _, _, Gdc, k_do_call, b_do_call⟩
    · exact ⟨f_do_make, ⟨_, _, _, lE, kE, p_make, rfl⟩, _, _, Gdm, k_do_make, b_do_make⟩
  have Gg1 : FnOk l.prog w K mg base CX0 7 f_given_by _ ["deeds", "doing"] (spGiv C) := ok_giv F_given_by (PySem.W.mg_of X G aE) hD
  have Gch : FnOk l.prog w K mg base CX0 2 f_chosen _ ["deed", "doing"] (spCho C) := ok_cho F_chosen m_worth_of k_worth_of b_worth_of Gwo
  have Gg2 : FnOk l.prog w K mg base CX0 8 f_given_by _ ["deeds", "doing"] (spGiv2 C) := ok_giv2 F_given_by m_given_by b_given_by Gg1 m_chosen k_chosen b_chosen Gch
  have Gdn : FnOk l.prog w K mg base CX0 9 f_done _ ["doing", "method", "args"] (spDone7 C) := ok_done7 F_done DT y_zip m_given_by k_given_by b_given_by Gg2
  have Gdi : FnOk l.prog w K mg base CX0 1 f_J _ ["self", "plan", "fields", "cause", "me"] (spDI7 C) := ok_di7 F_J DT
  have Gac : FnOk l.prog w K mg base CX0 10 f_act _ ["plan", "kind", "fields", "call", "me", "word", "args"] spAct7 := ok_act7 FA T DT (PySem.W.mg_of X G aD) m_method_of k_method_of b_method_of Gmo m_copied k_copied b_copied (ok_co F_copied T m_copied b_copied 3) (ok_coI F_copied T m_copied b_copied (ok_co F_copied T m_copied b_copied 0)) (PySem.W.mg_of X G aC) ⟨mk, iJ, fJ, kc⟩ b_J Gdi m_done k_done b_done Gdn
  have C1 : Cal l.prog w K mg base "_law_pen" 1 ["_law_script"] (spPen K) := ⟨_, _, m__law_pen, k__law_pen, b__law_pen, ok_pen F__law_pen T⟩
  have C2 : Cal l.prog w K mg base "_law_draw" 1 ["_law_pen_here", "_law_many"] spDraw := ⟨_, _, m__law_draw, k__law_draw, b__law_draw, ok_draw F__law_draw T⟩
  have C3 : Cal l.prog w K mg base "_law_pick" 2 ["_law_pen_here", "_law_some"] spPick := ⟨_, _, m__law_pick, k__law_pick, b__law_pick, ok_pick F__law_pick T C2⟩
  have C4 : Cal l.prog w K mg base "_law_many_deeds" 3 ["_law_pen_here", "_law_many"] spMany := ⟨_, _, m__law_many_deeds, k__law_many_deeds, b__law_many_deeds, ok_many F__law_many_deeds T C2 C3⟩
  have Gli : FnOk l.prog w K mg base CX0 1 f__law_is_hold _ ["_law_worth_here"] spLIs := ok_lis F__law_is_hold T y_str
  have Glw : FnOk l.prog w K mg base CX0 1 f__law_worth _ ["_law_told", "_law_here"] spLWV := ok_lwV F__law_worth T
  have Gln : FnOk l.prog w K mg base CX0 1 f__law_new _ ["_law_book", "_law_breed", "_law_bits"] spLNew := ok_lnew F__law_new T
  have Gle : FnOk l.prog w K mg base CX0 2 f__law_effect _ ["_law_book", "_law_task", "_law_some", "_law_here"] spEff7 := ok_eff7 F__law_effect T y_str m__law_new k__law_new b__law_new Gln
  have Gl1 : FnOk l.prog w K mg base CX0 3 f__law_do_one _ ["_law_book", "_law_task", "_law_here"] spOne7 := ok_one7 F__law_do_one T m__law_worth k__law_worth b__law_worth Glw m__law_is_hold k__law_is_hold b__law_is_hold Gli m__law_effect k__law_effect b__law_effect Gle
  have Gl2 : FnOk l.prog w K mg base CX0 4 f__law_do _ ["_law_book", "_law_deeds", "_law_here"] spLDo7 := ok_do7 F__law_do m__law_do_one k__law_do_one b__law_do_one Gl1
  have Gl3 : FnOk l.prog w K mg base CX0 5 f__law_do_one _ ["_law_book", "_law_task", "_law_here"] spIf7 := ok_if7 F__law_do_one m__law_worth k__law_worth b__law_worth Glw m__law_do k__law_do b__law_do Gl2
  have Gl4 : FnOk l.prog w K mg base CX0 6 f__law_do _ ["_law_book", "_law_deeds", "_law_here"] spTop7 := ok_top7 F__law_do Gl2 m__law_do_one k__law_do_one b__law_do_one Gl3
  have C6 : Cal l.prog w K mg base "_law_act" 7 ["_law_book", "_law_breed", "_law_slots", "_law_naming", "_law_who", "_law_term", "_law_bits"] spLAct7 := ⟨_, _, m__law_act, k__law_act, b__law_act, ok_lact7 F__law_act T m__law_do k__law_do b__law_do Gl4⟩
  exact ok_law F_law T y_str C1 C2 C3 C4 C6 mA FA Gac
theorem walk {l : PySem.W.OpenLaw} {q : Program} {loose : List Str} {XP : (Str → Option Value) → Heap → Prop} {YP : World → Heap → Prop} {d : DefRec} {K : Params → PySem.W.Frag} (hn : l.most = some 63) (hd : d.params.defaults = [])
    (hY : ∀ (w : World) (h : Heap), YP w h → (K w.params).In h)
    (F : ∀ (w : World) (mg : Str → Option Value) (fa : Addr) (h : Heap), (K w.params).In h → h.Ns mainGlobals mg → mg d.name = some (.ref fa) → ∃ fd : FuncData, (∀ (s : Shared) (u : Value), BindsTo s fd ⟨[u], []⟩ [("_law_script", u)]) ∧
      ∀ b : Heap, (K w.params).In b → b.Ns mainGlobals mg → FnG l.prog w (K w.params) mg b CX0 11 fa fd ["_law_script"] (spLaw (K w.params))) :
    PySem.W.WalkO q loose XP YP l.row.toRowW d [] (fun f vs => PySem.call f vs) :=
  walk_ofG (n := 63) (k := 11) (x := "_law_script") (sp := fun K => spLaw K) hn (by decide) hd ⟨rfl, by decide, by decide⟩ hY F (fun _ _ a ns hl _ hS => ⟨a, ns, rfl, hS, hl, fun _ => rfl⟩)
end K3
open PySem PySem.W PyProof.Rows in
set_option maxRecDepth 100000 in
set_option maxHeartbeats 0 in
theorem PySem.Challenge.cw_farcalls_k07_many_made_and_put_holds : PySem.Challenge.rw_farcalls_k07_many_made_and_put.Holds := by
  w_on; o_law; k_head; (case hw => w_witness2)
  k_fill
  refine K3.walk (l := PySem.Challenge.rw_farcalls_k07_many_made_and_put) rfl rfl (fun w h Y => PySem.W.kIn_of Y) ?F
  case F =>
    intro w mg fa h KX G hmg
    refine' K3.all_mk KX G hmg ?a__law_pen ?l__law_pen ?c__law_pen ?k__law_pen ?a__law_draw ?l__law_draw ?c__law_draw ?k__law_draw ?a__law_pick ?l__law_pick ?c__law_pick ?k__law_pick ?a__law_is_hold ?l__law_is_hold ?c__law_is_hold ?k__law_is_hold ?a__law_worth ?l__law_worth ?c__law_worth ?k__law_worth ?a__law_do ?l__law_do ?c__law_do ?k__law_do ?a__law_do_one ?l__law_do_one ?c__law_do_one ?k__law_do_one ?a__law_effect ?l__law_effect ?c__law_effect ?k__law_effect ?a__law_new ?l__law_new ?c__law_new ?k__law_new ?a__law_act ?l__law_act ?c__law_act ?k__law_act ?a__law_many_deeds ?l__law_many_deeds ?c__law_many_deeds ?k__law_many_deeds ?a_law ?l_law ?c_law ?k_law ?a_is_count ?l_is_count ?c_is_count ?k_is_count ?a_is_name ?l_is_name ?c_is_name ?k_is_name ?a_is_hold ?l_is_hold ?c_is_hold ?k_is_hold ?a_copied ?l_copied ?c_copied ?k_copied ?a_kind_of ?l_kind_of ?c_kind_of ?k_kind_of ?a_fields_of ?l_fields_of ?c_fields_of ?k_fields_of ?a_filled ?l_filled ?c_filled ?k_filled ?a_method_of ?l_method_of ?c_method_of ?k_method_of ?a_done ?l_done ?c_done ?k_done ?a_given_by ?l_given_by ?c_given_by ?k_given_by ?a_chosen ?l_chosen ?c_chosen ?k_chosen ?a_do_make ?l_do_make ?c_do_make ?k_do_make ?a_do_call ?l_do_call ?c_do_call ?k_do_call ?a_do_when ?l_do_when ?c_do_when ?k_do_when ?a_worths_of ?l_worths_of ?c_worths_of ?k_worths_of ?a_worth_of ?l_worth_of ?c_worth_of ?k_worth_of ?a_act ?l_act ?c_act ?k_act ?aC ?iJ ?fJ ?l_J ?c_J ?k_J ?pg ?hd ?po ?sa ?mk ?kc ?n_plan ?n_fields ?n_cause ?n_me ?n_known ?n_says ?n_makes ?n_puts ?n_goes ?aD ?cW ?cN ?cM ?cP ?aH ?lH ?aE ?lE ?kE ?p_when ?p_call ?p_make ?z_len ?z_abs ?z_list ?z_tuple ?z_dict ?z_range ?z_int ?z_max ?z_sorted ?z_repr ?z_isinstance ?z_bool ?z_all ?z_str ?z_zip
    (case a__law_pen => k_is)
    (case l__law_pen => k_is)
    (case c__law_pen => k_is)
    (case k__law_pen => k_is)
    (case a__law_draw => k_is)
    (case l__law_draw => k_is)
    (case c__law_draw => k_is)
    (case k__law_draw => k_is)
    (case a__law_pick => k_is)
    (case l__law_pick => k_is)
    (case c__law_pick => k_is)
    (case k__law_pick => k_is)
    (case a__law_is_hold => k_is)
    (case l__law_is_hold => k_is)
    (case c__law_is_hold => k_is)
    (case k__law_is_hold => k_is)
    (case a__law_worth => k_is)
    (case l__law_worth => k_is)
    (case c__law_worth => k_is)
    (case k__law_worth => k_is)
    (case a__law_do => k_is)
    (case l__law_do => k_is)
    (case c__law_do => k_is)
    (case k__law_do => k_is)
    (case a__law_do_one => k_is)
    (case l__law_do_one => k_is)
    (case c__law_do_one => k_is)
    (case k__law_do_one => k_is)
    (case a__law_effect => k_is)
    (case l__law_effect => k_is)
    (case c__law_effect => k_is)
    (case k__law_effect => k_is)
    (case a__law_new => k_is)
    (case l__law_new => k_is)
    (case c__law_new => k_is)
    (case k__law_new => k_is)
    (case a__law_act => k_is)
    (case l__law_act => k_is)
    (case c__law_act => k_is)
    (case k__law_act => k_is)
    (case a__law_many_deeds => k_is)
    (case l__law_many_deeds => k_is)
    (case c__law_many_deeds => k_is)
    (case k__law_many_deeds => k_is)
    (case a_law => k_is)
    (case l_law => k_is)
    (case c_law => k_is)
    (case k_law => k_is)
    (case a_is_count => k_is)
    (case l_is_count => k_is)
    (case c_is_count => k_is)
    (case k_is_count => k_is)
    (case a_is_name => k_is)
    (case l_is_name => k_is)
    (case c_is_name => k_is)
    (case k_is_name => k_is)
    (case a_is_hold => k_is)
    (case l_is_hold => k_is)
    (case c_is_hold => k_is)
    (case k_is_hold => k_is)
    (case a_copied => k_is)
    (case l_copied => k_is)
    (case c_copied => k_is)
    (case k_copied => k_is)
    (case a_kind_of => k_is)
    (case l_kind_of => k_is)
    (case c_kind_of => k_is)
    (case k_kind_of => k_is)
    (case a_fields_of => k_is)
    (case l_fields_of => k_is)
    (case c_fields_of => k_is)
    (case k_fields_of => k_is)
    (case a_filled => k_is)
    (case l_filled => k_is)
    (case c_filled => k_is)
    (case k_filled => k_is)
    (case a_method_of => k_is)
    (case l_method_of => k_is)
    (case c_method_of => k_is)
    (case k_method_of => k_is)
    (case a_done => k_is)
    (case l_done => k_is)
    (case c_done => k_is)
    (case k_done => k_is)
    (case a_given_by => k_is)
    (case l_given_by => k_is)
    (case c_given_by => k_is)
    (case k_given_by => k_is)
    (case a_chosen => k_is)
    (case l_chosen => k_is)
    (case c_chosen => k_is)
    (case k_chosen => k_is)
    (case a_do_make => k_is)
    (case l_do_make => k_is)
    (case c_do_make => k_is)
    (case k_do_make => k_is)
    (case a_do_call => k_is)
    (case l_do_call => k_is)
    (case c_do_call => k_is)
    (case k_do_call => k_is)
    (case a_do_when => k_is)
    (case l_do_when => k_is)
    (case c_do_when => k_is)
    (case k_do_when => k_is)
    (case a_worths_of => k_is)
    (case l_worths_of => k_is)
    (case c_worths_of => k_is)
    (case k_worths_of => k_is)
    (case a_worth_of => k_is)
    (case l_worth_of => k_is)
    (case c_worth_of => k_is)
    (case k_worth_of => k_is)
    (case a_act => k_is)
    (case l_act => k_is)
    (case c_act => k_is)
    (case k_act => k_is)
    (case aC => k_is)
    (case iJ => k_is)
    (case fJ => k_is)
    (case l_J => k_is)
    (case c_J => k_is)
    (case k_J => k_is)
    (case pg => k_is)
    (case hd => k_is)
    (case po => k_is)
    (case sa => k_is)
    (case mk => k_is)
    (case kc => k_is)
    (case n_plan => k_is)
    (case n_fields => k_is)
    (case n_cause => k_is)
    (case n_me => k_is)
    (case n_known => k_is)
    (case n_says => k_is)
    (case n_makes => k_is)
    (case n_puts => k_is)
    (case n_goes => k_is)
    (case aD => k_is)
    (case cW => k_is)
    (case cN => k_is)
    (case cM => k_is)
    (case cP => k_is)
    (case aH => k_is)
    (case lH => k_is)
    (case aE => k_is)
    (case lE => k_is)
    (case kE => k_keys)
    (case p_when => k_is)
    (case p_call => k_is)
    (case p_make => k_is)
    (case z_len => k_is)
    (case z_abs => k_is)
    (case z_list => k_is)
    (case z_tuple => k_is)
    (case z_dict => k_is)
    (case z_range => k_is)
    (case z_int => k_is)
    (case z_max => k_is)
    (case z_sorted => k_is)
    (case z_repr => k_is)
    (case z_isinstance => k_is)
    (case z_bool => k_is)
    (case z_all => k_is)
    (case z_str => k_is)
    (case z_zip => k_is)
