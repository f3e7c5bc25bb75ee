import PyProof.Rows.All
import Wide.All
import OpenK.AllK
import Wide.FinOn
import HandS.ForMost
import HandS.Wide
import HandS.Style
import HandS.Codes
import HandS.Conv
import HandS.OwnEq
import HandS.TupAny
import HandS.Flow
import HandS.IsInst
import HandS.Deep
import HandS.ForExc
import HandS.ExcInit
import HandS.ExcIs
import HandS.StrMore
import HandS.Text
import HandS.Defaults
import HandS.Iter
import KE.KExcIs
import KE.GoesComp
import KE.GoesRaise
import HandS.Walk
import HandS.ExcSuper
import HandS.ExcCtx
import HandS.HotCalls
import HandS.ExcField
import HandS.CallLocal
import HandS.TupMul
import HandS.MethStar
import HandS.DeepEq
import HandS.DictEq
import HandS.DictComp
import HandS.Zip
import HandS.MakeKwOnly
import HandS.MakeKw
import KE.KDictZip
import HandS.FStr
import HandS.Lambda
import HandS.EndTab
import HandS.EndOwn
import HandS.Finally
import PySem.Challenge.RW_farcalls_k03_fields_and_words
set_option Elab.async false
set_option maxRecDepth 100000
set_option maxHeartbeats 4000000
namespace K3
open PySem L2
def top (i : Nat) : Stmt := PySem.Challenge.pw_farcalls_k03_fields_and_words.main.body.getD i (.Pass ⟨0, 0, 0, 0⟩)
abbrev sPen : Stmt := top 11
abbrev sDraw : Stmt := top 12
abbrev sPick : Stmt := top 13
/-! ### frames -/
/-- all that stood stands as it stood, but at M -/
def But (M : Addr → Prop) (H H' : Hp) : Prop := ∀ b o, ¬ M b → H b = some o → H' b = some o
theorem But.refl (M : Addr → Prop) (H : Hp) : But M H H := fun _ _ _ h => h
theorem But.trans {M : Addr → Prop} {H H1 H2 : Hp} (a : But M H H1) (b : But M H1 H2) : But M H H2 := fun c o m h => b c o m (a c o m h)
theorem But.new {M : Addr → Prop} {H H' : Hp} (a : But M H H') {p : Addr} {o : HO} (h : H' p = none) : But M H (upd H' p o) := fun c u m e => by
  have e1 := a c u m e
  rw [upd_ne (ne_of_none e1 h)]
  exact e1
theorem But.mut {M : Addr → Prop} {H H' : Hp} (a : But M H H') {p : Addr} {o : HO} (h : M p) : But M H (upd H' p o) := fun c u m e => by
  have e1 := a c u m e
  rw [upd_ne (fun z => m (by rw [z]; exact h))]
  exact e1
theorem But.mono {M N : Addr → Prop} {H H' : Hp} (a : But M H H') (h : ∀ b, M b → N b) : But N H H' := fun c o m e => a c o (fun z => m (h c z)) e
/-- what was new and is not M is new or .. (used for new objects made on the way) -/
theorem But.mutNew {M : Addr → Prop} {H H' : Hp} (a : But M H H') {p : Addr} {o : HO} (h : H p = none) : But M H (upd H' p o) := fun c u m e => by
  have e1 := a c u m e
  rw [upd_ne (ne_of_none e h)]
  exact e1
theorem But.free {M : Addr → Prop} {H H' : Hp} (a : But M H H') {l : Addr} (h : H' l = none) (n : ¬ M l) : H l = none := by
  cases q : H l with
  | none => rfl
  | some o =>
    rw [a l o n q] at h
    cases h
/-! ### the pen -/
def penK (c : Addr) (at' lf : Int) : List (Key × V) := [(Sum.inr "cells", .ref c), (Sum.inr "at", .int at'), (Sum.inr "left", .int lf)]
/-- the pen at p, its cells the list at c; at most n were begun -/
def Pen (H : Hp) (p c : Addr) (ns : List Int) (n : Nat) : Prop :=
  ∃ at' lf : Int, 0 ≤ at' ∧ at' ≤ (n : Int) ∧ 0 ≤ lf ∧ H p = some (.dK (penK c at' lf)) ∧ H c = some (.lst (ns.map V.int)) ∧ ns.length ≤ 63
theorem pen_cells (c : Addr) (a l : Int) : valV (penK c a l) (Sum.inr "cells") = some (.ref c) := rfl
theorem pen_at (c : Addr) (a l : Int) : valV (penK c a l) (Sum.inr "at") = some (.int a) := rfl
theorem pen_left (c : Addr) (a l : Int) : valV (penK c a l) (Sum.inr "left") = some (.int l) := rfl
theorem pen_put_at (c : Addr) (a l b : Int) : putK (penK c a l) (Sum.inr "at") (.int b) = penK c b l := rfl
theorem pen_put_left (c : Addr) (a l b : Int) : putK (penK c a l) (Sum.inr "left") (.int b) = penK c a b := rfl
theorem pen_gl {H : Hp} {p c : Addr} {a l : Int} (h : H p = some (.dK (penK c a l))) : DGet H p (.str "left") (some (.int l)) := DGet.k (k := Sum.inr "left") h
theorem pen_ga {H : Hp} {p c : Addr} {a l : Int} (h : H p = some (.dK (penK c a l))) : DGet H p (.str "at") (some (.int a)) := DGet.k (k := Sum.inr "at") h
theorem pen_gc {H : Hp} {p c : Addr} {a l : Int} (h : H p = some (.dK (penK c a l))) : DGet H p (.str "cells") (some (.ref c)) := DGet.k (k := Sum.inr "cells") h
theorem pen_pl {H : Hp} {p c : Addr} {a l b : Int} (h : H p = some (.dK (penK c a l))) : DPut H p (.str "left") (.int b) (upd H p (.dK (penK c a b))) := DPut.k (k := Sum.inr "left") h (by show 3 < sizeLine; decide)
theorem pen_pa {H : Hp} {p c : Addr} {a l b : Int} (h : H p = some (.dK (penK c a l))) : DPut H p (.str "at") (.int b) (upd H p (.dK (penK c b l))) := DPut.k (k := Sum.inr "at") h (by show 3 < sizeLine; decide)
theorem dp_ints {K : PySem.W.Frag} {H : Hp} : ∀ ns : List Int, DpAll K H (ns.map V.int) (ns.map PyData.int)
  | [] => .nil
  | n :: r => .cons (.int n) (dp_ints r)
theorem lay_ints : ∀ ns : List Int, PyData.canLayAll0 (ns.map PyData.int) = true ∧ PyData.depthAll (ns.map PyData.int) ≤ 1
  | [] => ⟨rfl, Nat.zero_le _⟩
  | n :: r => by
    obtain ⟨a, b⟩ := lay_ints r
    simp only [List.map_cons, PyData.canLayAll0, PyData.canLay0, PyData.depthAll, PyData.depth, a, Bool.and_self, true_and]
    omega
theorem shaped_ints (ns : List Int) : SeqAt.shaped (.list (ns.map PyData.int)) = true := by
  obtain ⟨a, b⟩ := lay_ints ns
  unfold SeqAt.shaped
  simp only [PyData.canLay0, PyData.depth, a, Bool.true_and]
  exact decide_eq_true (by omega)
theorem eqv_ints (ns : List Int) : PyData.eqv (.list (ns.map PyData.int)) (.list []) = ns.isEmpty := by
  cases ns <;> rfl
theorem atI_int {α : Type} {xs : List α} {i : Int} {v : α} (h0 : 0 ≤ i) (h : xs[i.toNat]? = some v) : atI xs i = some v := by
  have e : ((i.toNat : Nat) : Int) = i := Int.toNat_of_nonneg h0
  rw [← e]
  exact atI_nat h
theorem get_map_int {ns : List Int} {j : Nat} (h : j < ns.length) : (ns.map V.int)[j]? = some (V.int ns[j]) := by
  rw [List.getElem?_map, List.getElem?_eq_getElem h]
  rfl
structure Txt (mg : Str → Option Value) : Prop where
  len : mg "len" = none
  abs : mg "abs" = none
  list : mg "list" = none
  tuple : mg "tuple" = none
  dict : mg "dict" = none
  range : mg "range" = none
  int : mg "int" = none
  max : mg "max" = none
  sorted : mg "sorted" = none
  repr : mg "repr" = none
  isinstance : mg "isinstance" = none
def spDraw : Sp := fun vs H Q _ => ∃ (p c : Addr) (ns : List Int) (n : Nat) (m : Int), vs = [.ref p, .int m] ∧ Pen H p c ns n ∧ n ≤ 1000000000 ∧ 1 ≤ m ∧ m ≤ 1000000 ∧
  ∀ (r : Int) (H' : Hp), 0 ≤ r → r < m → Pen H' p c ns (n + 1) → But (· = p) H H' → Q (.int r) H'
end K3
namespace K3
open PySem L2
section
variable {P : Program} {w : World} {K : PySem.W.Frag} {mg : Str → Option Value} {base : Heap}
theorem scD : FnScope ["_law_pen_here", "_law_many", "_law_digit", "_law_at", "_law_cell", "_law_number"] ["_law_pen_here", "_law_many"] (defScope sDraw) := ⟨rfl, rfl, rfl, by decide +kernel, rfl, by decide +kernel, by decide +kernel⟩
theorem ok_draw {f : Addr} {fd : FuncData} (F : Fun K "_law_draw" "_law_draw" sDraw f fd) (T : Txt mg) : FnOk P w K mg base CX0 1 f fd ["_law_pen_here", "_law_many"] spDraw := by
  refine F.ok scD (fun vs H Q E h => ?_) (fun cdv A outer s H vs Q E hr h => ?_)
  · obtain ⟨p, c, ns, n, m, rfl, _⟩ := h
    rfl
  · obtain ⟨p, c, ns, n, m, rfl, ⟨at', lf, a0, a1, l0, hp, hc, h63⟩, hn, m1, m2, k⟩ := h
    have hu := hu_of hr
    refine ⟨_, pss_cons (ps_if (pt_cmpR op_gt (pe_dget hu (pv 0) pe_str (fun _ _ => rfl)) pe_int (nomark _))
        (pss_cons (ps_set (i := 2) scD.nd rfl (.inl rfl) (pe_op op_modN (pe_dget hu (pv 0) pe_str (fun _ _ => rfl)) (pv 1)))
        (pss_cons (ps_dput hu (pv 0) pe_str (pe_op op_fdivN (pe_dget hu (pv 0) pe_str (fun _ _ => rfl)) (pv 1)) rfl)
        (pss_one (ps_ret (pv 2))))) pss_nil)
      (pss_cons (ps_set (i := 3) scD.nd rfl (.inl rfl) (pe_dget hu (pv 0) pe_str (fun _ _ => rfl)))
      (pss_cons (ps_dput hu (pv 0) pe_str (pe_op op_add (pv 3) pe_int) rfl)
      (pss_cons (ps_set (i := 4) scD.nd rfl (.inl rfl) pe_int)
      (C8.pss_cut (ps_if (pt_cmpR (op_neD hr.units) (pe_dget hu (pv 0) pe_str (fun _ _ => rfl)) (pe_lst pa_nil) (nomark _))
        (pss_one (ps_set (i := 4) scD.nd rfl (.inl rfl) (pe_ix ix_list (pe_dget hu (pv 0) pe_str (fun _ _ => rfl)) (pe_op op_modN (pv 3) (pe_callB call_len_seq (by rfl) T.len PySem.boot_len (pa_cons (pe_dget hu (pv 0) pe_str (fun _ _ => rfl)) pa_nil))) (fun _ _ => rfl)))) pss_nil)
      (C8.pss_cut (ps_if (PW.pt (pw_and (pt_cmpR op_lt (pv 3) (pe_callB call_len_seq (by rfl) T.len PySem.boot_len (pa_cons (pe_dget hu (pv 0) pe_str (fun _ _ => rfl)) pa_nil)) (nomark _)) (pw_and1 (pt_cmpR op_ge (pe_callB call_abs (by rfl) T.abs (by decide +kernel) (pa_cons (pv 4) pa_nil)) (pe_op op_pow pe_int pe_int) (nomark _)))))
        (pss_cons (ps_dput hu (pv 0) pe_str (pe_op op_fdivN (pe_op op_sub (pe_callB call_abs (by rfl) T.abs (by decide +kernel) (pa_cons (pv 4) pa_nil)) (pe_op op_pow pe_int pe_int)) (pv 1)) rfl)
        (pss_one (ps_ret (pe_op op_modN (pe_op op_sub (pe_callB call_abs (by rfl) T.abs (by decide +kernel) (pa_cons (pv 4) pa_nil)) (pe_op op_pow pe_int pe_int)) (pv 1))))) pss_nil)
      (pss_cons (ps_set (i := 5) scD.nd rfl (.inl rfl) (pe_op op_add (pe_op op_add (pe_op op_add (pe_op op_modN (pv 4) pe_int) (pe_op op_mul (pe_op op_mul pe_int (pv 3)) (pv 3))) (pe_op op_mul pe_int (pv 3))) pe_int))
      (C8.pss_cut (ps_set (i := 5) scD.nd rfl (.inl rfl) (pe_op op_modN (pe_op op_mul (pv 5) pe_int) pe_int))
      (C8.pss_cut (ps_set (i := 5) scD.nd rfl (.inl rfl) (pe_op op_modN (pe_op op_add (pe_op op_add (pe_op op_mul (pv 5) (pv 5)) (pe_op op_mul pe_int (pv 5))) (pv 3)) pe_int))
      (pss_one (ps_ret (pe_op op_modN (pe_op op_fdivN (pe_op op_modN (pe_op op_mul (pv 5) (pe_op op_add (pv 5) pe_int)) pe_int) pe_int) (pv 1)))))))))))), ?_⟩
    have npc : p ≠ c := ne_of hp hc (by intro z; cases z)
    have nm : m ≠ 0 := by omega
    have dm : CDivN 0 m := ⟨nm, by omega⟩
    refine ⟨_, rfl, p, _, rfl, pen_gl hp, lf, 0, rfl, rfl, _, rfl, ?_⟩
    refine ite2 (fun hl => ?_) (fun hl => ?_)
    · -- a great one's next digit
      refine ⟨_, rfl, p, _, rfl, pen_gl hp, _, rfl, _, _, rfl, rfl, nm, ?_⟩
      refine ⟨_, rfl, p, _, rfl, pen_gl hp, _, rfl, _, _, rfl, rfl, dm, _, rfl, p, _, rfl, pen_pl hp, ?_⟩
      refine ⟨_, rfl, ?_⟩
      refine k _ _ (Int.fmod_nonneg_of_pos _ (by omega)) (Int.fmod_lt_of_pos _ (by omega)) ⟨at', _, a0, by omega, ?_, upd_same, by rw [upd_ne npc.symm]; exact hc, h63⟩ ((But.refl _ H).mut rfl)
      rw [Int.fdiv_eq_ediv_of_nonneg _ (by omega)]
      exact Int.ediv_nonneg l0 (by omega)
    · -- the cell, mixed
      refine ⟨_, rfl, p, _, rfl, pen_ga hp, ?_⟩
      refine ⟨_, rfl, _, _, rfl, rfl, _, rfl, p, _, rfl, pen_pa hp, ?_⟩
      have hp1 : upd H p (HO.dK (penK c (at' + 1) lf)) p = some (.dK (penK c (at' + 1) lf)) := upd_same
      have hc1 : upd H p (HO.dK (penK c (at' + 1) lf)) c = some (.lst (ns.map V.int)) := by rw [upd_ne npc.symm]; exact hc
      have b1 : But (· = p) H (upd H p (HO.dK (penK c (at' + 1) lf))) := (But.refl _ H).mut rfl
      generalize upd H p (HO.dK (penK c (at' + 1) lf)) = H1 at hp1 hc1 b1 ⊢
      refine ⟨fun σ' H' => (∃ cell : Int, σ' = [some (.ref p), some (.int m), none, some (.int at'), some (.int cell), none]) ∧ H' p = some (.dK (penK c (at' + 1) lf)) ∧ H' c = some (.lst (ns.map V.int)) ∧ But (· = p) H H', ?_, ?_⟩
      · refine ⟨_, rfl, p, _, rfl, pen_gc hp1, Nat.zero_le _, fun l hl => ?_⟩
        have hp2 : upd H1 l (.lst []) p = some (.dK (penK c (at' + 1) lf)) := by rw [upd_ne (ne_of_none hp1 hl)]; exact hp1
        have hc2 : upd H1 l (.lst []) c = some (.lst (ns.map V.int)) := by rw [upd_ne (ne_of_none hc1 hl)]; exact hc1
        have hl2 : upd H1 l (.lst []) l = some (.lst []) := upd_same
        have b2 : But (· = p) H (upd H1 l (.lst [])) := b1.new hl
        generalize upd H1 l (.lst []) = H2 at hp2 hc2 hl2 b2 ⊢
        refine ⟨_, _, .lst (SqL.of hc2) (dp_ints ns), .lst (SqL.of hl2) .nil, shaped_ints ns, by decide +kernel, _, rfl, ?_⟩
        rw [eqv_ints]
        cases he : ns.isEmpty with
        | true => exact iteF ⟨⟨_, rfl⟩, hp2, hc2, b2⟩
        | false =>
          have hlen : 1 ≤ ns.length := by
            cases ns with
            | nil => cases he
            | cons _ _ => exact Nat.le_add_left _ _
          have hm1 := Int.fmod_nonneg_of_pos at' (b := ((ns.map V.int).length : Int)) (by rw [List.length_map]; omega)
          have hm2 := Int.fmod_lt_of_pos at' (b := ((ns.map V.int).length : Int)) (by rw [List.length_map]; omega)
          have hidx : (at'.fmod ((ns.map V.int).length : Int)).toNat < ns.length := by rw [List.length_map] at hm1 hm2 ⊢; omega
          have hat := atI_int hm1 (get_map_int hidx)
          refine iteT ?_
          refine ⟨_, rfl, p, _, rfl, pen_gc hp2, _, rfl, _, rfl, p, _, rfl, pen_gc hp2, c, _, rfl, .inl (SqL.of hc2), _, _, rfl, rfl, (by rw [List.length_map]; omega), c, _, _, _, rfl, rfl, SqL.of hc2, hat, ?_⟩
          exact ⟨⟨_, rfl⟩, hp2, hc2, b2⟩
      · rintro σ' H2 ⟨⟨cell, rfl⟩, hp2, hc2, b2⟩
        have ab : ∀ x : Int, 0 ≤ (if x < 0 then -x else x) := fun x => by split <;> omega
        refine ⟨fun σ' H' => σ' = [some (.ref p), some (.int m), none, some (.int at'), some (.int cell), none] ∧ H' p = some (.dK (penK c (at' + 1) lf)) ∧ H' c = some (.lst (ns.map V.int)) ∧ But (· = p) H H', ?_, ?_⟩
        · refine ⟨_, rfl, _, rfl, p, _, rfl, pen_gc hp2, c, _, rfl, .inl (SqL.of hc2), _, _, rfl, rfl, _, rfl, ?_⟩
          refine ite2 (fun ha => ?_) (fun ha => ?_)
          · refine ⟨_, rfl, _, rfl, _, _, rfl, rfl, ⟨by decide, by decide, by decide⟩, _, _, rfl, rfl, _, rfl, ?_⟩
            refine ite2 (fun hg => ?_) (fun hg => ?_)
            · have hge : (10 : Int) ^ (Int.toNat 18) ≤ (if cell < 0 then -cell else cell) := of_decide_eq_true hg
              refine ⟨_, rfl, _, rfl, _, _, rfl, rfl, ⟨by decide, by decide, by decide⟩, _, _, rfl, rfl, _, rfl, _, _, rfl, rfl, dm, _, rfl, p, _, rfl, pen_pl hp2, ?_⟩
              refine ⟨_, rfl, _, rfl, _, _, rfl, rfl, ⟨by decide, by decide, by decide⟩, _, _, rfl, rfl, _, rfl, _, _, rfl, rfl, nm, ?_⟩
              refine k _ _ (Int.fmod_nonneg_of_pos _ (by omega)) (Int.fmod_lt_of_pos _ (by omega)) ⟨at' + 1, _, by omega, by omega, ?_, upd_same, by rw [upd_ne npc.symm]; exact hc2, h63⟩ (b2.mut rfl)
              rw [Int.fdiv_eq_ediv_of_nonneg _ (by omega)]
              exact Int.ediv_nonneg (by omega) (by omega)
            · exact ⟨rfl, hp2, hc2, b2⟩
          · exact ⟨rfl, hp2, hc2, b2⟩
        · rintro σ' H3 ⟨rfl, hp3, hc3, b3⟩
          have sq : 0 ≤ at' * at' := Int.mul_nonneg a0 a0
          have at9 : at' ≤ 1000000000 := Int.le_trans a1 (Int.ofNat_le.mpr hn)
          refine ⟨_, rfl, _, _, rfl, rfl, (show (2147483629 : Int) ≠ 0 by decide), _, rfl, _, _, rfl, rfl, .inl ⟨by decide, by decide⟩, _, rfl, _, _, rfl, rfl, .inl ⟨by omega, by omega⟩, _, _, rfl, rfl, _, rfl, _, _, rfl, rfl, .inl ⟨by decide, by decide⟩, _, _, rfl, rfl, _, _, rfl, rfl, ?_⟩
          refine ⟨fun σ' H' => ∃ y : Int, 0 ≤ y ∧ y < 2147483647 ∧ σ' = [some (.ref p), some (.int m), none, some (.int at'), some (.int cell), some (.int y)] ∧ H' = H3, ?_, ?_⟩
          · exact ⟨_, rfl, _, _, rfl, rfl, .inr ⟨by decide, by decide⟩, _, _, rfl, rfl, (show (2147483647 : Int) ≠ 0 by decide), _, Int.fmod_nonneg_of_pos _ (by decide), Int.fmod_lt_of_pos _ (by decide), rfl, rfl⟩
          · rintro σ' H' ⟨y, y0, y1, rfl, rfl⟩
            refine ⟨fun σ2 H2 => ∃ y : Int, 0 ≤ y ∧ y < 2147483587 ∧ σ2 = [some (.ref p), some (.int m), none, some (.int at'), some (.int cell), some (.int y)] ∧ H2 = H', ?_, ?_⟩
            · exact ⟨_, rfl, _, rfl, _, _, rfl, rfl, .inl ⟨by omega, by omega⟩, _, rfl, _, _, rfl, rfl, .inl ⟨by decide, by decide⟩, _, _, rfl, rfl, _, rfl, _, _, rfl, rfl, _, _, rfl, rfl, (show (2147483587 : Int) ≠ 0 by decide), _, Int.fmod_nonneg_of_pos _ (by decide), Int.fmod_lt_of_pos _ (by decide), rfl, rfl⟩
            · rintro σ2 H2 ⟨z, z0, z1, rfl, rfl⟩
              refine ⟨_, rfl, _, rfl, _, _, rfl, rfl, _, _, rfl, rfl, .inl ⟨by omega, by omega⟩, _, _, rfl, rfl, (show (2147483563 : Int) ≠ 0 by decide), _, _, rfl, rfl, (show CDivN 0 64 from ⟨by decide, by decide⟩), _, rfl, _, _, rfl, rfl, nm, ?_⟩
              exact k _ _ (Int.fmod_nonneg_of_pos _ (by omega)) (Int.fmod_lt_of_pos _ (by omega)) ⟨at' + 1, lf, by omega, by omega, l0, hp3, hc3, h63⟩ b3
end
end K3
namespace K3
open PySem L2
/-- what a caller wants of a def by its name -/
def Cal (P : Program) (w : World) (K : PySem.W.Frag) (mg : Str → Option Value) (base : Heap) (x : Str) (k : Nat) (ps : List Str) (sp : Sp) : Prop :=
  ∃ f fd, mg x = some (.ref f) ∧ PySem.W.keepIn K (.ref f) = true ∧ Binds K fd ps [] ∧ FnOk P w K mg base CX0 k f fd ps sp
theorem But.seqL {K : PySem.W.Frag} {M : Addr → Prop} {H H' : Hp} {a : Addr} {xs : List V} (e : But M H H') (n : ¬ M a) (h : SqL K H a xs) : SqL K H' a xs := by
  rcases h with (h | ⟨o, h⟩) | h
  · exact .inl (.inl (e _ _ n h))
  · exact .inl (.inr ⟨o, e _ _ n h⟩)
  · exact .inr h
theorem But.seqT {K : PySem.W.Frag} {M : Addr → Prop} {H H' : Hp} {a : Addr} {xs : List V} (e : But M H H') (n : ¬ M a) (h : SqT K H a xs) : SqT K H' a xs := by
  rcases h with (h | ⟨o, h⟩) | h
  · exact .inl (.inl (e _ _ n h))
  · exact .inl (.inr ⟨o, e _ _ n h⟩)
  · exact .inr h
/-- the items of a text -/
def signs (z : Str) : List V := z.cps.toList.map fun c => V.str ⟨#[c]⟩
theorem signs_len (z : Str) : (signs z).length = z.length := by
  unfold signs
  rw [List.length_map]
  rfl
/-- x is a list or a tuple of ys that stands in H, or a text of these signs -/
def Menu (H : Hp) (x : V) (ys : List V) : Prop :=
  1 ≤ ys.length ∧ ys.length ≤ 1000 ∧ ((∃ l, x = .ref l ∧ (H l = some (.lst ys) ∨ H l = some (.tup ys))) ∨ ∃ z : Str, x = .str z ∧ ys = signs z)
theorem Menu.but {M : Addr → Prop} {H H' : Hp} {x : V} {ys : List V} (h : Menu H x ys) (e : But M H H') (n : ∀ l, M l → H l ≠ some (.lst ys) ∧ H l ≠ some (.tup ys)) : Menu H' x ys := by
  obtain ⟨h1, h2, h3⟩ := h
  refine ⟨h1, h2, ?_⟩
  rcases h3 with ⟨l, rfl, q | q⟩ | q
  · exact .inl ⟨l, rfl, .inl (e l _ (fun m => (n l m).1 q) q)⟩
  · exact .inl ⟨l, rfl, .inr (e l _ (fun m => (n l m).2 q) q)⟩
  · exact .inr q
def spPick : Sp := fun vs H Q _ => ∃ (p c : Addr) (ns : List Int) (n : Nat) (x : V) (ys : List V), vs = [.ref p, x] ∧ Pen H p c ns n ∧ n ≤ 1000000000 ∧ Menu H x ys ∧
  ∀ (v : V) (H' : Hp), v ∈ ys → Pen H' p c ns (n + 1) → But (· = p) H H' → Q v H'
theorem scP : FnScope ["_law_pen_here", "_law_some"] ["_law_pen_here", "_law_some"] (defScope sPick) := ⟨rfl, rfl, rfl, by decide +kernel, rfl, by decide +kernel, by decide +kernel⟩
section
variable {P : Program} {w : World} {K : PySem.W.Frag} {mg : Str → Option Value} {base : Heap}
theorem ok_pick {f : Addr} {fd : FuncData} (F : Fun K "_law_pick" "_law_pick" sPick f fd) (T : Txt mg) (CD : Cal P w K mg base "_law_draw" 1 ["_law_pen_here", "_law_many"] spDraw) : FnOk P w K mg base CX0 2 f fd ["_law_pen_here", "_law_some"] spPick := by
  obtain ⟨fD, fdD, mD, kD, bD, GD⟩ := CD
  refine F.ok scP (fun vs H Q E h => ?_) (fun cdv A outer s H vs Q E hr h => ?_)
  · obtain ⟨p, c, ns, n, x, ys, rfl, _⟩ := h
    rfl
  · obtain ⟨p, c, ns, n, x, ys, rfl, hP, hn, hM, k⟩ := h
    obtain ⟨_, _, _, _, _, hp, _, _⟩ := id hP
    refine ⟨_, pss_one (ps_ret (pe_ix ix_seq (pv 1) (pe_call GD hr (by rfl) mD kD bD .nil pass0 (pa_cons (pv 0) (pa_cons (pe_callB call_len (by rfl) T.len PySem.boot_len (pa_cons (pv 1) pa_nil)) pa_nil))) (fun _ _ => rfl))), ?_⟩
    have hL : LenV K x H ys.length := by
      obtain ⟨_, _, h3⟩ := id hM
      rcases h3 with ⟨l, rfl, q | q⟩ | ⟨z, rfl, rfl⟩
      · exact .inl ⟨_, SqL.of q, rfl⟩
      · exact .inr ⟨_, SqT.of q, rfl⟩
      · refine ⟨?_, signs_len z⟩
        have e := signs_len z
        have h1 := hM.2.1
        rw [e] at h1
        exact Nat.le_trans h1 (by decide)
    refine ⟨_, rfl, _, rfl, _, rfl, x, ys.length, rfl, hL, ?_⟩
    refine ⟨p, c, ns, n, _, rfl, hP, hn, Int.ofNat_le.mpr hM.1, ?_, fun r H' r0 r1 hP' b => ?_⟩
    · have := hM.2.1
      omega
    · have hM' := hM.but b (fun l q => by rw [q]; exact ⟨fun z => (by rw [hp] at z; cases z), fun z => (by rw [hp] at z; cases z)⟩)
      have hr' : r.toNat < ys.length := by omega
      have hv := List.getElem?_eq_getElem hr'
      have kk := k ys[r.toNat] H' (List.getElem_mem _) hP' b
      obtain ⟨_, h1000, h3⟩ := hM'
      rcases h3 with ⟨l, rfl, q | q⟩ | ⟨z, rfl, rfl⟩
      · exact .inl ⟨l, _, _, _, rfl, rfl, SqL.of q, atI_int r0 hv, kk⟩
      · exact .inr (.inl ⟨l, _, _, _, rfl, rfl, SqT.of q, atI_int r0 hv, kk⟩)
      · have hz : r.toNat < z.cps.toList.length := by
          have e : (signs z).length = z.cps.toList.length := List.length_map _
          rw [e] at hr'
          exact hr'
        refine .inr (.inr ⟨z, r, z.cps.toList[r.toNat], rfl, rfl, ?_, atI_int r0 (List.getElem?_eq_getElem hz), ?_⟩)
        · rw [signs_len z] at h1000
          exact Nat.le_trans h1000 (by decide)
        · have e : (signs z)[r.toNat] = V.str ⟨#[z.cps.toList[r.toNat]]⟩ := List.getElem_map _
          rw [e] at kk
          exact kk
end
end K3
namespace K3
open PySem L2
def spPen (K : PySem.W.Frag) : Sp := fun vs H Q _ => ∃ (a : Addr) (ns : List Int), vs = [.ref a] ∧ SqL K H a (ns.map V.int) ∧ ns.length ≤ 63 ∧
  ∀ (p c : Addr) (H' : Hp), H p = none → H c = none → Pen H' p c ns 0 → Same H H' → Q (.ref p) H'
theorem scN : FnScope ["_law_script"] ["_law_script"] (defScope sPen) := ⟨rfl, rfl, rfl, by decide +kernel, rfl, by decide +kernel, by decide +kernel⟩
theorem cut63 {xs : List V} (h : xs.length ≤ 63) : cutV xs none (some 63) = xs := by
  have e : HT.sIx xs.length xs.length (some 63) = xs.length := by
    unfold HT.sIx
    simp
    omega
  have e0 : HT.sIx xs.length 0 none = 0 := rfl
  unfold cutV
  rw [e, e0]
  simp
section
variable {P : Program} {w : World} {K : PySem.W.Frag} {mg : Str → Option Value} {base : Heap}
theorem ok_pen {f : Addr} {fd : FuncData} (F : Fun K "_law_pen" "_law_pen" sPen f fd) (T : Txt mg) : FnOk P w K mg base CX0 1 f fd ["_law_script"] (spPen K) := by
  refine F.ok scN (fun vs H Q E h => ?_) (fun cdv A outer s H vs Q E hr h => ?_)
  · obtain ⟨a, ns, rfl, _⟩ := h
    rfl
  · obtain ⟨a, ns, rfl, hS, h63, k⟩ := h
    refine ⟨_, pss_one (ps_ret (pe_disp (pps_cons pe_str (pe_callTy call_list_of (by rfl) T.list (by decide +kernel) (pa_cons (pe_slice sl_list (pv 0) po_none (po_some pe_int)) pa_nil)) (pps_cons pe_str pe_int (pps_cons pe_str pe_int pps_nil))) (by rfl) (by rfl) (fun z => by cases z) (by decide))), ?_⟩
    intro p hp
    refine ⟨_, rfl, _, rfl, a, _, rfl, (Same.seq (fun b o e => by rw [upd_ne (ne_of_none e hp)]; exact e) hS), fun t ht => ?_⟩
    rw [cut63 (by rw [List.length_map]; exact h63)]
    refine ⟨t, _, rfl, .inl (SqL.of upd_same), fun l hl => ?_⟩
    have ntl : t ≠ l := ne_of_none upd_same hl
    have hl1 : upd H p (HO.dK []) l = none := by rw [upd_ne ntl.symm] at hl; exact hl
    have npl : p ≠ l := ne_of_none upd_same hl1
    have hl0 : H l = none := by rw [upd_ne npl.symm] at hl1; exact hl1
    have npt : p ≠ t := ne_of_none upd_same ht
    refine ⟨by rw [upd_ne npl, upd_ne npt, upd_same], [(Sum.inr "cells", .ref l), (Sum.inr "at", .int 0), (Sum.inr "left", .int 0)], rfl, (by show 3 ≤ 15; decide), ?_⟩
    refine k p l _ hp hl0 ⟨0, 0, Int.le_refl _, Int.le_refl _, Int.le_refl _, upd_same, by rw [upd_ne npl.symm, upd_same], h63⟩ (fun b o e => ?_)
    have ht0 : H t = none := by rw [upd_ne npt.symm] at ht; exact ht
    rw [upd_ne (ne_of_none e hp), upd_ne (ne_of_none e hl0), upd_ne (ne_of_none e ht0), upd_ne (ne_of_none e hp)]
    exact e
end
end K3
namespace K3
open PySem L2
theorem Pen.but {M : Addr → Prop} {H H' : Hp} {p c : Addr} {ns : List Int} {n : Nat} (h : Pen H p c ns n) (e : But M H H') (n1 : ¬ M p) (n2 : ¬ M c) : Pen H' p c ns n := by
  obtain ⟨a, l, h1, h2, h3, h4, h5, h6⟩ := h
  exact ⟨a, l, h1, h2, h3, e _ _ n1 h4, e _ _ n2 h5, h6⟩
theorem Pen.new {H : Hp} {p c : Addr} {ns : List Int} {n : Nat} (h : Pen H p c ns n) {l : Addr} {o : HO} (hl : H l = none) : Pen (upd H l o) p c ns n :=
  h.but (M := fun _ => False) ((But.refl _ H).new hl) (fun z => z) (fun z => z)
theorem Pen.fresh {H : Hp} {p c : Addr} {ns : List Int} {n : Nat} (h : Pen H p c ns n) {l : Addr} (hl : H l = none) : l ≠ p ∧ l ≠ c := by
  obtain ⟨a, b, _, _, _, h4, h5, _⟩ := h
  exact ⟨(ne_of_none h4 hl).symm, (ne_of_none h5 hl).symm⟩
/-- an object beside the pen changes -/
theorem Pen.mut {H : Hp} {p c : Addr} {ns : List Int} {n : Nat} (h : Pen H p c ns n) {l : Addr} {o : HO} (n1 : l ≠ p) (n2 : l ≠ c) : Pen (upd H l o) p c ns n :=
  h.but (M := (· = l)) ((But.refl _ H).mut rfl) (fun z => n1 z.symm) (fun z => n2 z.symm)
theorem Pen.mono {H : Hp} {p c : Addr} {ns : List Int} {n m : Nat} (h : Pen H p c ns n) (hm : n ≤ m) : Pen H p c ns m := by
  obtain ⟨a, l, h1, h2, h3, h4, h5, h6⟩ := h
  exact ⟨a, l, h1, by omega, h3, h4, h5, h6⟩
theorem Pen.ne {H : Hp} {p c : Addr} {ns : List Int} {n : Nat} (h : Pen H p c ns n) {l : Addr} {xs : List V} (q : H l = some (.lst xs)) : l ≠ p := by
  obtain ⟨a, b, _, _, _, h4, _, _⟩ := h
  exact ne_of q h4 (by intro z; cases z)
theorem Pen.neT {H : Hp} {p c : Addr} {ns : List Int} {n : Nat} (h : Pen H p c ns n) {l : Addr} {xs : List V} (q : H l = some (.tup xs)) : l ≠ p := by
  obtain ⟨a, b, _, _, _, h4, _, _⟩ := h
  exact ne_of q h4 (by intro z; cases z)
end K3
namespace K3
open PySem L2
/-! ### data of tuples -/
def Tups (H H' : Hp) : Prop := ∀ a xs, H a = some (.tup xs) → H' a = some (.tup xs)
theorem Tups.refl (H : Hp) : Tups H H := fun _ _ h => h
theorem Tups.trans {H H1 H2 : Hp} (a : Tups H H1) (b : Tups H1 H2) : Tups H H2 := fun c o h => b c o (a c o h)
theorem But.tups {M : Addr → Prop} {H H' : Hp} (e : But M H H') (n : ∀ a xs, M a → H a ≠ some (.tup xs)) : Tups H H' := fun a xs h => e a _ (fun m => n a xs m h) h
theorem Tups.new {H H' : Hp} (e : Tups H H') {p : Addr} {o : HO} (h : H' p = none) : Tups H (upd H' p o) := fun a xs z => by
  have z1 := e a xs z
  rw [upd_ne (ne_of_none z1 h)]
  exact z1
theorem Tups.mut {H H' : Hp} (e : Tups H H') {p : Addr} {u o : HO} (h : H' p = some u) (n : ∀ xs, u ≠ .tup xs) : Tups H (upd H' p o) := fun a xs z => by
  have z1 := e a xs z
  rw [upd_ne (fun q => by rw [q, h] at z1; exact n xs (Option.some.inj z1))]
  exact z1
theorem Pen.tups {H H' : Hp} {p c : Addr} {ns : List Int} {n : Nat} (h : Pen H p c ns n) (e : But (· = p) H H') : Tups H H' := e.tups fun a xs q z => by
  obtain ⟨_, _, _, _, _, h4, _, _⟩ := h
  rw [q, h4] at z
  cases z
mutual
inductive Dt (H : Hp) : V → PyData → Prop
  | non : Dt H .non .none
  | int (i : Int) : Dt H (.int i) (.int i)
  | str (z : Str) : Dt H (.str z) (.str z)
  | tup {a : Addr} {xs : List V} {ds : List PyData} : H a = some (.tup xs) → DtAll H xs ds → Dt H (.ref a) (.tuple ds)
inductive DtAll (H : Hp) : List V → List PyData → Prop
  | nil : DtAll H [] []
  | cons {v : V} {vs : List V} {d : PyData} {ds : List PyData} : Dt H v d → DtAll H vs ds → DtAll H (v :: vs) (d :: ds)
end
mutual
theorem Dt.mono {H H' : Hp} (e : Tups H H') : ∀ {d : PyData} {v : V}, Dt H v d → Dt H' v d
  | _, _, .non => .non
  | _, _, .int i => .int i
  | _, _, .str z => .str z
  | _, _, .tup h a => .tup (e _ _ h) (DtAll.mono e a)
theorem DtAll.mono {H H' : Hp} (e : Tups H H') : ∀ {ds : List PyData} {vs : List V}, DtAll H vs ds → DtAll H' vs ds
  | _, _, .nil => .nil
  | _, _, .cons h a => .cons (Dt.mono e h) (DtAll.mono e a)
end
mutual
theorem Dt.dp {K : PySem.W.Frag} {H : Hp} : ∀ {d : PyData} {v : V}, Dt H v d → Dp K H v d
  | _, _, .non => .non
  | _, _, .int i => .int i
  | _, _, .str z => .str z
  | _, _, .tup h a => .tup (SqT.of h) (DtAll.dp a)
theorem DtAll.dp {K : PySem.W.Frag} {H : Hp} : ∀ {ds : List PyData} {vs : List V}, DtAll H vs ds → DpAll K H vs ds
  | _, _, .nil => .nil
  | _, _, .cons h a => .cons (Dt.dp h) (DtAll.dp a)
end
theorem DtAll.length {H : Hp} : ∀ {ds : List PyData} {vs : List V}, DtAll H vs ds → vs.length = ds.length
  | _, _, .nil => rfl
  | _, _, .cons _ a => by rw [List.length_cons, List.length_cons, DtAll.length a]
theorem DtAll.app {H : Hp} : ∀ {ds es : List PyData} {vs ws : List V}, DtAll H vs ds → DtAll H ws es → DtAll H (vs ++ ws) (ds ++ es)
  | _, _, _, _, .nil, b => b
  | _, _, _, _, .cons h a, b => .cons h (DtAll.app a b)
theorem DtAll.drop {H : Hp} : ∀ (n : Nat) {ds : List PyData} {vs : List V}, DtAll H vs ds → DtAll H (vs.drop n) (ds.drop n)
  | 0, _, _, h => h
  | n + 1, _, _, .nil => .nil
  | n + 1, _, _, .cons _ a => DtAll.drop n a
theorem DtAll.take {H : Hp} : ∀ (n : Nat) {ds : List PyData} {vs : List V}, DtAll H vs ds → DtAll H (vs.take n) (ds.take n)
  | 0, _, _, h => .nil
  | n + 1, _, _, .nil => .nil
  | n + 1, _, _, .cons h a => .cons h (DtAll.take n a)
theorem DtAll.get {H : Hp} : ∀ {ds : List PyData} {vs : List V}, DtAll H vs ds → ∀ (i : Nat) (v : V), vs[i]? = some v → ∃ d, ds[i]? = some d ∧ Dt H v d
  | _, _, .nil, i, v, e => by simp at e
  | _, _, .cons h a, 0, v, e => by
    cases e
    exact ⟨_, rfl, h⟩
  | _, _, .cons h a, i + 1, v, e => DtAll.get a i v e
theorem DtAll.mem {H : Hp} : ∀ {ds : List PyData} {vs : List V}, DtAll H vs ds → ∀ v, v ∈ vs → ∃ d, d ∈ ds ∧ Dt H v d
  | _, _, .nil, v, e => absurd e (by simp)
  | _, _, .cons h a, v, e => by
    rcases List.mem_cons.mp e with rfl | e
    · exact ⟨_, List.mem_cons_self .., h⟩
    · obtain ⟨d, h1, h2⟩ := DtAll.mem a v e
      exact ⟨d, List.mem_cons_of_mem _ h1, h2⟩
theorem Dt.tupI {H : Hp} {a : Addr} {ds : List PyData} (h : Dt H (.ref a) (.tuple ds)) : ∃ xs, H a = some (.tup xs) ∧ DtAll H xs ds := by
  cases h with
  | tup h1 h2 => exact ⟨_, h1, h2⟩
theorem Dt.ref_of {H : Hp} {v : V} {ds : List PyData} (h : Dt H v (.tuple ds)) : ∃ a, v = .ref a := by
  cases h with
  | tup h1 h2 => exact ⟨_, rfl⟩
theorem sameBut {H H' : Hp} (s : Same H H') (M : Addr → Prop) : But M H H' := fun b o _ e => s b o e
theorem sameTups {H H' : Hp} (s : Same H H') : Tups H H' := fun a xs e => s a _ e
end K3
namespace GG
open PySem PySem.Spec PyProof.Rows L2
/-! ### defs that are called where no repr is under way: the same promises, for such callers alone -/
section
variable {P : Program} {w : World} {K : PySem.W.Frag} {mg : Str → Option Value} {base : Heap} {CX : CXT} {k : Nat} {f : Addr} {fd : FuncData} {ps : List Str} {sp : Sp}
/-- nothing is being shown by the callers -/
abbrev Free (A : Around) : Prop := A.guards = some []
def FnG (P : Program) (w : World) (K : PySem.W.Frag) (mg : Str → Option Value) (base : Heap) (CX : CXT) (k : Nat) (f : Addr) (fd : FuncData) (ps : List Str) (sp : Sp) : Prop :=
  (∀ vs H Q E, sp vs H Q E → vs.length = ps.length) ∧
  ∀ (A : Around), Free A → Room k A → ∀ (outer : List Env) (s : Shared) (H : Hp), Env0 P w K mg base A outer s H →
    ∀ (args : Args) (us : List Value) (vs : List V), BindsTo s fd args (ps.zip us) → Vals vs us → ∀ (Q : VK) (E : XK), sp vs H Q E →
      codeAny (model P w) A (.call (.ref f) args) (CR CX outer P w H s Q E) s
theorem FnG.of (F : FnOk P w K mg base CX k f fd ps sp) : FnG P w K mg base CX k f fd ps sp :=
  ⟨F.len, fun A _ hr outer s H e0 args us vs hb hv Q E hs => F.run A outer s H args us vs Q E hr e0 hb hv hs⟩
end
theorem fng_fn {CX : CXT} {P : Program} {w : World} {K : PySem.W.Frag} {mg : Str → Option Value} {base : Heap} {k : Nat} {f : Addr} {nm qn : Str} {pa : Arguments} {bd : List Stmt} {sc : Scope} {dv kv doc pm cv ct oc : Value} {an od : Option Addr}
    {sl : Array (Option Value)} {N ps : List Str} {sp : Sp} (lk : K.lookup f = some ⟨oc, od, .func (PySem.W.fnOf nm qn pa bd sc dv kv doc pm an cv ct), sl⟩) (hc : PySem.W.codeIn K cv qn = true) (S : FnScope N ps sc)
    (ln : ∀ vs H Q E, sp vs H Q E → vs.length = ps.length)
    (hbd : ∀ (A : Around) (outer : List Env) (s : Shared) (H : Hp) (vs : List V) (Q : VK) (E : XK), Free A → Room k (A.deeper (envOfC qn sc s.heap.objs.size f cv)) → sp vs H Q E →
      ∃ t, PSs (cxOf CX P w K mg base N qn sc f cv A outer s H E) bd t ∧ t { nx := fun _ H' => Q .non H', rt := Q } (start N vs) H) :
    FnG P w K mg base CX (k + 1) f (PySem.W.fnOf nm qn pa bd sc dv kv doc pm an cv ct) ps sp := by
  refine ⟨ln, ?_⟩
  intro A hg hr outer s H e0 args us vs hb rv Q E hs
  have many := ln _ _ _ _ hs
  have stay : ∀ b o, base.get? b = some o → s.heap.get? b = some o := fun b o e => (e0.bs b o e).1
  have kin : K.In s.heap := e0.mod.kin.keeps stay
  have kinds : ∀ z ∈ ps.zip us, sc.names.lookup z.1 = some .local ∨ (sc.names.lookup z.1 = some .cell ∧ ((cellsFrom (s.heap.objs.size + 1) sc.names []).lookup z.1).isSome = true) := by
    rintro ⟨y, v⟩ hz
    rcases S.par y (List.of_mem_zip hz).1 with h | h
    · exact Or.inl h
    · exact Or.inr ⟨h, PySem.W.cellsFrom_some _ _ _ (Or.inl h)⟩
  refine codeAny_call_function hr.depth (kin _ _ lk) rfl S.co S.gen rfl (PySem.W.codeRec_of kin hc) (hb _ _ _ _ (wpAny_newFunctionEnv_cells S.kind kinds ?_))
  intro env eenv s1 x
  subst eenv
  refine ⟨(e0.mod.nolimit.keeps stay).keeps x.toInCall.keep, codeAny_func ?_⟩
  obtain ⟨t, ht, hq⟩ := hbd A outer s H vs Q E hg (hr.deeper _) hs
  have I0 := inv_start (CX := CX) (E := E) S hr.hd e0 many rv x
  refine wpAny_mono (ht.run [] s1 (start N vs) H _ I0 hq) ?_ (fun e s' z => z)
  intro fl s' z
  match fl, z with
  | .ret u, ⟨v, σ', H', J, r1, q1⟩ => exact ⟨v, H', J.os, J.bare, J.base, J.hok, r1, q1⟩
  | .next, ⟨σ', H', J, q1⟩ => exact ⟨V.non, H', J.os, J.bare, J.base, J.hok, rfl, q1⟩
  | .brk, ⟨_, _, _, q1⟩ => exact q1.elim
  | .cont, ⟨_, _, _, q1⟩ => exact q1.elim
theorem deeper_free {A : Around} {e : Env} (h : Free A) : Free (A.deeper e) := h
/-- a def of the text -/
theorem fun_okG {P : Program} {w : World} {K : PySem.W.Frag} {mg : Str → Option Value} {base : Heap} {x qn : Str} {st : Stmt} {f : Addr} {fd : FuncData} {N ps : List Str} {k : Nat} {sp : Sp} (F : Fun K x qn st f fd) (S : FnScope N ps (defScope st))
    (ln : ∀ vs H Q E, sp vs H Q E → vs.length = ps.length)
    (hbd : ∀ (cdv : Value) (A : Around) (outer : List Env) (s : Shared) (H : Hp) (vs : List V) (Q : VK) (E : XK), Free (A.deeper (envOfC qn (defScope st) s.heap.objs.size f cdv)) → Room k (A.deeper (envOfC qn (defScope st) s.heap.objs.size f cdv)) → sp vs H Q E →
      ∃ t, PSs (cxOf CX0 P w K mg base N qn (defScope st) f cdv A outer s H E).nox (defBody st) t ∧ t { nx := fun _ H' => Q .non H', rt := Q } (start N vs) H) : FnG P w K mg base CX0 (k + 1) f fd ps sp := by
  obtain ⟨_, _, _, _, _, _, cdv, _, _, rfl, lk, hc⟩ := F.ex
  refine fng_fn lk hc S ln ?_
  intro A outer s H vs Q E hg hr hs
  obtain ⟨t, h1, h2⟩ := hbd cdv A outer s H vs Q E (deeper_free hg) hr hs
  exact ⟨t, h1.nox, h2⟩
section
variable {X : Cx} {CX : CXT} {k : Nat} {f : Addr} {fd : FuncData} {ps : List Str} {sp : Sp} {dvs : List V} {ds : List Value} {E : XK} {x : Str} {p pos : Pos} {e : Expr} {es : List Expr} {t : TA}
/-- f(e, ..) of such a def -/
theorem pe_callG (F : FnG X.prog X.w X.K X.mg X.base CX k f fd ps sp) (hf : Free X.A) (hr : Room k X.A) (hg : Gl X x) (hm : X.mg x = some (.ref f)) (hk : PySem.W.keepIn X.K (.ref f) = true) (hb : Binds X.K fd ps ds) (hd : Vals dvs ds) (hx : Passes CX X E)
    (ha : PA X (e :: es) t) (h1 : (x == ("__debug__" : Str)) = false := by decide) (h2 : starEach (e :: es) X.env = (false, eval e X.env) :: starEach es X.env := by rfl) (h3 : (backTo pos (starEach es X.env)).any (·.1) = false := by rfl) :
    PE X (.Call (.Name x p) (e :: es) [] pos) (tCall sp dvs E t) := by
  constructor
  intro pins s σ H Q I h
  refine wpAny_Call_Name_kw (ld_glob I hg hm (PySem.W.callWith_K (h₀ := X.base) I.ok.mod.kin hk (thn (ha.run pos pins s σ H _ I h) ?_) h2 h3) h1)
  rintro us s1 ⟨vs, H1, I1, r, q⟩
  refine ⟨I1.kIn, ?_⟩
  have r2 := r.append hd
  have many : (us ++ ds).length = ps.length := r2.length.symm.trans (F.1 _ _ _ _ q)
  refine wpAny_call (codeAny_mono (F.2 X.A hf hr X.stack s1 H1 I1.env0 ⟨us, []⟩ (us ++ ds) (vs ++ dvs) (hb s1 us I1.kIn many) r2 Q E q) ?_)
  intro r s' z
  match r, z with
  | .error e, z => exact hx pins σ H1 s1 e s' I1 z
  | .ok (.ret u), z => exact I1.after z
  | .ok .next, z => exact z.elim
  | .ok .brk, z => exact z.elim
  | .ok .cont, z => exact z.elim
/-- repr of data without dicts -/
def ShowOk (d : PyData) : Prop := d.showable = true ∧ d.hasDict = false ∧ d.depth ≤ 60 ∧ d.shown.length ≤ sizeLine ∧ (∀ i, d = .int i → i.natAbs.log2 < 1920) ∧ (∀ b, d ≠ .bool b)
def rRepr (K : PySem.W.Frag) : List V → Hp → VK → Prop := fun xs H Q => ∃ (v : V) (d : PyData), xs = [v] ∧ Dp K H v d ∧ ShowOk d ∧ Q (.str d.shown) H
end
section
variable {X : Cx}
theorem call_repr (hf : Free X.A) (hu : X.A.units + 64 < cLine) : CallR X (.builtin "repr") (rRepr X.K) := by
  intro pins s σ H xs us Q I r h
  obtain ⟨v, d, rfl, hd, ⟨h1, h2, h3, h4, h5, h6⟩, q⟩ := h
  obtain ⟨u, rfl, rv⟩ := vals1 r
  obtain ⟨as, hr⟩ := Dp.reads I d v u hd rv
  cases hd with
  | non =>
    obtain rfl : u = Value.none := rv
    exact PySem.P.repr_of_none ⟨.str _, H, I.tok _, ⟨_, rfl⟩, q⟩
  | bl b => exact absurd rfl (h6 b)
  | int i =>
    obtain ⟨t, rfl⟩ := rv
    exact PySem.P.repr_of_int (h5 i rfl) ⟨.str _, H, I.tok _, ⟨_, rfl⟩, q⟩
  | str z =>
    obtain ⟨t, rfl⟩ := rv
    exact PySem.P.repr_of_str ⟨.str _, H, I.tok _, ⟨_, rfl⟩, q⟩ h4
  | lst _ _ =>
    cases rv
    exact repr_of_reads' hr h1 (fun z => by rw [h2] at z; cases z) hf (by omega) (fun _ _ e => e) (fun h' t tk hk => ⟨.str _, H, I.kept hk, ⟨_, rfl⟩, q⟩) h4
  | tup _ _ =>
    cases rv
    exact repr_of_reads' hr h1 (fun z => by rw [h2] at z; cases z) hf (by omega) (fun _ _ e => e) (fun h' t tk hk => ⟨.str _, H, I.kept hk, ⟨_, rfl⟩, q⟩) h4
end
end GG
namespace GG
open PySem PySem.Spec PyProof.Rows L2
/-- the law itself, where its own text shows things -/
theorem law_callG {P : Program} {w : World} {K : PySem.W.Frag} {mg mb : Str → Option Value} {k : Nat} {fa a : Addr} {fd : FuncData} {x : Str} {sp : Sp} {s₁ : Shared} {vs : List Value} {ns : List Int}
    (KX : K.In s₁.heap) (gN : s₁.heap.Ns mainGlobals mg) (bN : s₁.heap.Ns builtinsNs mb) (bB : ∀ x : Str, x ≠ "__name__" → mb x = bootBuiltins x) (lim : s₁.heap.NoLimit) (gen : s₁.gens = #[])
    (ha : s₁.heap.get? a = some { cls := .type "list", data := .seq vs.toArray }) (hi : IntsAre vs ns) (hl : ns.length ≤ sizeLine) (hr : Room k callerA)
    (F : ∀ b : Heap, K.In b → b.Ns mainGlobals mg → FnG P w K mg b CX0 k fa fd [x] sp) (hb : ∀ (s : Shared) (u : Value), BindsTo s fd ⟨[u], []⟩ [(x, u)])
    (hs : ∀ H : Hp, Only H → SqL K H a (ns.map V.int) → sp [.ref a] H (fun v _ => v = .bl true) fun _ _ _ => False) :
    codeAny (model P w) callerA (.call (.ref fa) ⟨[.ref a], []⟩) (fun r s' => r = .ok (.ret (.bool true)) ∧ OldK s₁.heap s'.heap ∧ s'.os = s₁.os ∧ AllBare s'.gens) s₁ := by
  have main : ∀ H : Hp, Only H → SqL K H a (ns.map V.int) → HOk P w H s₁.heap → (∀ b, H b ≠ none → b = a ∧ K.lookup a = none) →
      codeAny (model P w) callerA (.call (.ref fa) ⟨[.ref a], []⟩) (fun r s' => r = .ok (.ret (.bool true)) ∧ OldK s₁.heap s'.heap ∧ s'.os = s₁.os ∧ AllBare s'.gens) s₁ := by
    intro H hO hS ok only
    have dic : ∀ {b : Addr} {o : Obj} {es : Array DictEntry} {ep : Nat}, s₁.heap.get? b = some o → o.data = .dict es ep → H b = none := by
      intro b o es ep e d
      match q : H b with
      | none => rfl
      | some u =>
        obtain ⟨rfl, _⟩ := only b (by rw [q]; exact fun z => by cases z)
        rw [ha] at e
        cases e
        cases d
    have ns1 : ∀ {b : Addr} {m : Str → Option Value}, s₁.heap.Ns b m → (hidT s₁.heap H).Ns b m := by
      rintro b m ⟨o, es, ep, e, d, r⟩
      exact ⟨o, es, ep, hidT_get e (dic e d), d, r⟩
    have kin : K.In (hidT s₁.heap H) := by
      intro b o e
      refine hidT_get (KX b o e) ?_
      match q : H b with
      | none => rfl
      | some u =>
        obtain ⟨rfl, h2⟩ := only b (by rw [q]; exact fun z => by cases z)
        rw [h2] at e
        cases e
    obtain ⟨mc, l1, l2⟩ := lim
    have e0 : Env0 P w K mg (hidT s₁.heap H) callerA [] s₁ H :=
      { frames := rfl, mod := ⟨kin, ns1 gN, ⟨mb, ns1 bN, bB⟩, ⟨mc, ns1 l1, l2⟩⟩, bs := fun b o e => of_hidT e, bsz := Nat.le_of_eq (hidT_size _ _), funs := trivial, frf := fun b z => (List.not_mem_nil (show b ∈ ([] : List Addr) from z)).elim, hok := ok, bare := .of_eq gen }
    refine codeAny_mono ((F _ kin (ns1 gN)).2 callerA rfl hr [] s₁ H e0 ⟨[.ref a], []⟩ [.ref a] [.ref a] (hb s₁ (.ref a)) (.cons rfl .nil) _ _ (hs H hO hS)) ?_
    intro r s' z
    match r, z with
    | .error e, z => exact z.elim
    | .ok .next, z => exact z.elim
    | .ok .brk, z => exact z.elim
    | .ok .cont, z => exact z.elim
    | .ok (.ret u), ⟨v, H', os, bare, un, ok', rv, q⟩ =>
      have q' : v = .bl true := q
      subst q'
      have eu : u = Value.bool true := rv
      subst eu
      refine ⟨rfl, OldK.of_keep ?_, os, bare⟩
      intro b o e
      match q : H b with
      | none => exact un.keep b o e q (fun z => List.not_mem_nil (show b ∈ ([] : List Addr) from z)) (fun z => List.not_mem_nil (show b ∈ ([] : List Addr) from z))
      | some u =>
        rcases hO b with z | ⟨ob, xs, z⟩
        · rw [z] at q
          cases q
        · have i1 := (ok b _ z).1
          have i2 := (ok' b _ (un.frzs b ob _ z)).1
          rw [e] at i1
          cases i1
          exact i2
  have rv := vals_ints hi
  match hk : K.lookup a with
  | some o =>
    have e := KX a o hk
    rw [ha] at e
    cases e
    exact main (fun _ => none) (fun _ => .inl rfl) (.inr ⟨_, vs.toArray, _, hk, rfl, rfl, rfl, by rw [List.size_toArray, hi.length]; exact hl, by simpa using rv⟩) (fun b u z => nomatch z) (fun b z => absurd rfl z)
  | none =>
    have atA : ∀ {b : Addr} {u : HO}, (if b = a then some (HO.frz { cls := .type "list", data := .seq vs.toArray } (.lst (ns.map V.int))) else none) = some u → b = a ∧ u = HO.frz { cls := .type "list", data := .seq vs.toArray } (.lst (ns.map V.int)) := by
      intro b u z
      by_cases hb : b = a
      · rw [if_pos hb] at z
        exact ⟨hb, (Option.some.inj z).symm⟩
      · rw [if_neg hb] at z
        cases z
    refine main (fun b => if b = a then some (.frz { cls := .type "list", data := .seq vs.toArray } (.lst (ns.map V.int))) else none) ?_ (.inl (.inr ⟨{ cls := .type "list", data := .seq vs.toArray }, if_pos rfl⟩)) ?_ ?_
    · intro b
      by_cases hb : b = a
      · exact .inr ⟨_, _, if_pos hb⟩
      · exact .inl (if_neg hb)
    · intro b u z
      obtain ⟨rfl, rfl⟩ := atA z
      exact ⟨ha, by rw [List.length_map]; exact hl, vs, _, rv, ha⟩
    · intro b z
      refine ⟨?_, hk⟩
      by_cases hb : b = a
      · exact hb
      · exact absurd (if_neg hb) z
/-- the end of a law whose text shows things -/
theorem walk_ofG {l : PySem.W.OpenLaw} {n k : Nat} {q : Program} {loose : List Str} {XP : (Str → Option Value) → Heap → Prop} {YP : World → Heap → Prop} {d : DefRec} {K : Params → PySem.W.Frag} {sp : PySem.W.Frag → Sp} {x : Str}
    (hn : l.most = some n) (h2 : n ≤ sizeLine) (hd : d.params.defaults = []) (hr : Room k callerA) (hY : ∀ (w : World) (h : Heap), YP w h → (K w.params).In h)
    (F : ∀ (w : World) (mg : Str → Option Value) (fa : Addr) (h : Heap), (K w.params).In h → h.Ns mainGlobals mg → mg d.name = some (.ref fa) → ∃ fd : FuncData, (∀ (s : Shared) (u : Value), BindsTo s fd ⟨[u], []⟩ [(x, u)]) ∧
      ∀ b : Heap, (K w.params).In b → b.Ns mainGlobals mg → FnG l.prog w (K w.params) mg b CX0 k fa fd [x] (sp (K w.params)))
    (hs : ∀ (K : PySem.W.Frag) (H : Hp) (a : Addr) (ns : List Int), ns.length ≤ n → Only H → SqL K H a (ns.map V.int) → sp K [.ref a] H (fun v _ => v = .bl true) fun _ _ _ => False) :
    PySem.W.WalkO q loose XP YP l.row.toRowW d [] (fun f vs => PySem.call f vs) := by
  refine Att.attach_call hn hd ?_
  intro w s₀ s₁ mg mb fa o pm cd doc a vs ns G Y ho hod hcd hmg hobj hints hlen hg
  have KX := hY w _ Y
  obtain ⟨fd, hb, hF⟩ := F w mg fa _ KX G.T.g hmg
  exact law_callG KX G.T.g G.T.b G.T.builtins G.T.nolimit hg hobj hints (Nat.le_trans hlen h2) hr hF hb (fun H hO hS => hs (K w.params) H a ns hlen hO hS)
end GG
namespace K3
open PySem L2 GG
theorem cutV_drop {xs : List V} {k : Nat} : cutV xs (some (k : Int)) none = xs.drop k := by
  have e1 : HT.sIx xs.length 0 (some (k : Int)) = min k xs.length := HT.sIx_nat ..
  have e2 : HT.sIx xs.length xs.length none = xs.length := rfl
  unfold cutV
  rw [e1, e2]
  by_cases h : k ≤ xs.length
  · rw [Nat.min_eq_left h]
    apply List.take_of_length_le
    rw [List.length_drop]
    exact Nat.le_refl _
  · rw [Nat.min_eq_right (by omega), List.drop_eq_nil_of_le (Nat.le_refl _), List.drop_eq_nil_of_le (by omega)]
    simp
theorem same_new {H H' : Hp} (s : Same H H') {p : Addr} {o : HO} (h : H' p = none) : Same H (upd H' p o) := fun b u z => by
  have z1 := s _ _ z
  rw [upd_ne (ne_of_none z1 h)]
  exact z1
theorem same_mut {H H' : Hp} (s : Same H H') {p : Addr} {o : HO} (h : H p = none) : Same H (upd H' p o) := fun b u z => by
  rw [upd_ne (ne_of_none z h)]
  exact s _ _ z
theorem iteYes {c A B : Prop} [Decidable c] (hc : c) (h : A) : if decide c = true then A else B := by
  rw [decide_eq_true hc]
  exact iteT h
/-! ### objects made one behind the other -/
def Trk (H : Hp) (O : List Addr) : Prop := O.Nodup ∧ ∀ a ∈ O, ∃ u, H a = some u
theorem Trk.same {H H' : Hp} {O : List Addr} (h : Trk H O) (s : Same H H') : Trk H' O := ⟨h.1, fun a m => by
  obtain ⟨u, hu⟩ := h.2 a m
  exact ⟨u, s a u hu⟩⟩
theorem Trk.not {H : Hp} {O : List Addr} (h : Trk H O) {l : Addr} (hl : H l = none) : l ∉ O := fun m => by
  obtain ⟨v, hv⟩ := h.2 l m
  rw [hl] at hv
  cases hv
theorem Trk.add {H H' : Hp} {O : List Addr} (h : Trk H O) {l : Addr} {u : HO} (hl : H l = none) (s : Same H H') (e : H' l = some u) : Trk H' (l :: O) := by
  refine ⟨List.nodup_cons.mpr ⟨h.not hl, h.1⟩, fun a m => ?_⟩
  rcases List.mem_cons.mp m with rfl | m
  · exact ⟨u, e⟩
  · exact (h.same s).2 a m
theorem Trk.two {H H' : Hp} {O : List Addr} (h : Trk H O) {l m : Addr} {u v : HO} (hl : H l = none) (hm : H m = none) (n : l ≠ m) (s : Same H H') (e : H' l = some u) (f : H' m = some v) : Trk H' (m :: l :: O) := by
  refine ⟨List.nodup_cons.mpr ⟨fun z => ?_, (h.add hl s e).1⟩, fun a z => ?_⟩
  · rcases List.mem_cons.mp z with z | z
    · exact n z.symm
    · exact h.not hm z
  · rcases List.mem_cons.mp z with rfl | z
    · exact ⟨v, f⟩
    · exact (h.add hl s e).2 a z
/-- a wire's objects beside others -/
def Dj (H : Hp) (fp O : List Addr) : Prop := (∀ a ∈ fp, ∃ u, H a = some u) ∧ ∀ a ∈ fp, a ∉ O
theorem Dj.same {H H' : Hp} {fp O : List Addr} (h : Dj H fp O) (s : Same H H') : Dj H' fp O := ⟨fun a m => by
  obtain ⟨u, hu⟩ := h.1 a m
  exact ⟨u, s a u hu⟩, h.2⟩
theorem Dj.add {H H' : Hp} {fp O : List Addr} (h : Dj H fp O) {l : Addr} (hl : H l = none) (s : Same H H') : Dj H' fp (l :: O) := ⟨(h.same s).1, fun a m z => by
  rcases List.mem_cons.mp z with z | z
  · obtain ⟨u, hu⟩ := h.1 a m
    rw [z, hl] at hu
    cases hu
  · exact h.2 a m z⟩
theorem Dj.two {H H' : Hp} {fp O : List Addr} (h : Dj H fp O) {l m : Addr} (hl : H l = none) (hm : H m = none) (s : Same H H') : Dj H' fp (m :: l :: O) := ⟨(h.same s).1, fun a z q => by
  obtain ⟨u, hu⟩ := h.1 a z
  rcases List.mem_cons.mp q with q | q
  · rw [q, hm] at hu
    cases hu
  · rcases List.mem_cons.mp q with q | q
    · rw [q, hl] at hu
      cases hu
    · exact h.2 a z q⟩
end K3
namespace GG
open PySem PySem.Spec PyProof.Rows L2
/-! ### an exception that is kept behind its clause: from there on it is tracked -/
/-- at a stands an exception of the class cls, its own dict at d -/
def exk (a : Addr) (cls : Value) (d : Option Addr) : HO := .ext fun h => ∃ (oe : Obj) (vs : Array Value), h.get? a = some oe ∧ Zc cls d oe ∧ oe.data = .fields vs
section
variable {P : Program} {w : World} {H : Hp} {h : Heap} {a : Addr} {cls : Value} {d : Option Addr}
theorem exk_ok {oe : Obj} {vs : Array Value} (e : h.get? a = some oe) (z : Zc cls d oe) (hd : oe.data = .fields vs) : ObjOk P w H h a (exk a cls d) :=
  ⟨⟨oe, vs, e, z, hd⟩, ⟨oe, e⟩, fun h1 h2 ⟨o1, v1, e1, z1, d1⟩ k => ⟨o1, v1, k _ e1, z1, d1⟩⟩
theorem exk_at (ok : HOk P w H h) (e : H a = some (exk a cls d)) : ∃ (oe : Obj) (vs : Array Value), h.get? a = some oe ∧ Zc cls d oe ∧ oe.data = .fields vs :=
  (show ObjOk P w H h a (.ext fun h => ∃ (oe : Obj) (vs : Array Value), h.get? a = some oe ∧ Zc cls d oe ∧ oe.data = .fields vs) from ok a _ e).1
end
section
variable {X : Cx} {pins : List (Addr × Obj)} {σ : L2.St} {H : Hp} {s : Shared} {a : Addr}
/-- what is known of an object of the state may be tracked from now on, where it is new and nothing leans on it -/
theorem track (I : Inv X pins σ H s) {cls : Value} {d : Option Addr} {oe : Obj} {vs : Array Value} (e : s.heap.get? a = some oe) (z : Zc cls d oe) (hd : oe.data = .fields vs) (na : H a = none) (nl : a ≠ X.env.locals)
    (n0 : X.s_0.heap.get? a = none) (np : ∀ p ∈ X.pn ++ pins, p.1 ≠ a) : Inv X pins σ (upd H a (exk a cls d)) s := by
  have no : ∀ {b : Addr} {u : HO}, H b = some u → b ≠ a := fun {b u} q r => by
    rw [r, na] at q
    cases q
  refine { ok := I.ok, os := I.os, bare := I.bare, loc := I.loc, cell := I.cell, len := I.len, base := ⟨I.base.keep, I.base.slot, fun b o q n x => ?_, I.base.there, fun b xs q => ?_, fun b o u q => ?_, fun b ps q => ?_⟩, free := ?_, freeC := fun x c q => ?_, pin := fun p hp => ?_, hok := fun b u q => ?_ }
  · have ne : b ≠ a := fun r => by
      rw [r, n0] at q
      cases q
    rw [upd_ne ne]
    exact I.base.free b o q n x
  · have q' := I.base.tups b xs q
    rw [upd_ne (no q')]
    exact q'
  · have q' := I.base.frzs b o u q
    rw [upd_ne (no q')]
    exact q'
  · obtain ⟨more, q'⟩ := I.base.tbls b ps q
    refine ⟨more, ?_⟩
    rw [upd_ne (no q')]
    exact q'
  · rw [upd_ne (Ne.symm nl)]
    exact I.free
  · have ne : c ≠ a := fun r => by
      obtain ⟨v, o, q1, q2⟩ := I.cell x c q
      rw [r, e] at q1
      cases q1
      rw [hd] at q2
      cases q2
    rw [upd_ne ne]
    exact I.freeC x c q
  · obtain ⟨q1, q2, q3⟩ := I.pin p hp
    refine ⟨q1, ?_, q3⟩
    rw [upd_ne (np p hp)]
    exact q2
  · by_cases r : b = a
    · subst r
      rw [upd_same] at q
      cases q
      exact exk_ok e z hd
    · rw [upd_ne r] at q
      refine (I.hok b u q).stay (fun _ _ _ y => y) (fun c y => ?_) (fun c xs y => ?_)
      · rw [upd_ne (no y)]
        exact y
      · rw [upd_ne (no y)]
        exact y
end
/-- what a clause 'except x as n' wishes of an exception of the body: slot i is n's; behind the suite the exception stands in the heap -/
def wKeep (K : PySem.W.Frag) (c : Value) (i : Nat) (ts : Addr → Value → Option Addr → TS) (Wo : WX) (D : Ends) : WX := fun cls d σ H =>
  ∃ b, PySem.W.exmOne K cls c = some b ∧ (b = true → ∀ a, H a = none → ts a cls d { nx := fun σ' H' => H' a = none → D.nx (σ'.set i none) (upd H' a (exk a cls d)), rt := D.rt, bk := fun σ' H' => D.bk (σ'.set i none) H', ct := fun σ' H' => D.ct (σ'.set i none) H' } (σ.set i (some (.ref a))) H) ∧
    (b = false → Wo cls d σ H)
section
variable {X : Cx} {x n : Str} {c : Value} {i : Nat} {body suite : List Stmt} {b₀ : Stmt} {np pos pos' : Pos} {tb : WX → TS} {ts : Addr → Value → Option Addr → TS} {Wo : WX}
theorem ps_try_keep (hs : X.stack = X.env :: X.outer) (hf : X.env.frame = some X.env.locals) (hex : X.ex = []) (hN : X.N.Nodup) (hi : X.N[i]? = some n) (hln : X.env.kindOf n = some .local) (hc : Names X x c) (tk : Takes X Wo)
    (hb : ∀ (W : WX) (pn : List (Addr × Obj)) (xe : Value → Shared → Prop), Takes (X.tr pn xe) W → PassesOwn (model X.prog X.w) X.A X.env xe → PSs (X.tr pn xe) body (tb W))
    (hsu : ∀ (a : Addr) (oe : Obj) (cls : Value) (d : Option Addr) (pn : List (Addr × Obj)), Zc cls d oe → (∃ vs, oe.data = .fields vs) → PSs (X.suite a ((a, oe) :: pn)) (b₀ :: suite) (ts a cls d)) :
    PS X (.Try body [.ExceptHandler (some (.Name x np)) (some n) (b₀ :: suite) pos'] [] [] pos) (fun D σ H => tb (wKeep X.K c i ts Wo D) D σ H) := by
  constructor
  intro pins s σ H D I h
  have ok := I.ok
  have frA : X.A.frames = some (X.env :: X.outer) := ok.frames.trans (congrArg some hs)
  have back : ∀ {f : Flow} {s1 : Shared} {pn' : List (Addr × Obj)} {xe : Value → Shared → Prop}, SP (X.tr (X.pn ++ pins) xe) pn' D f s1 → SP X pins D f s1 := by
    intro f s1 pn' xe q
    cases f with
    | ret u =>
      obtain ⟨v, σ1, H1, J, r, q1⟩ := q
      exact ⟨v, σ1, H1, J.ofTry ok, r, q1⟩
    | next =>
      obtain ⟨σ1, H1, J, q1⟩ := q
      exact ⟨σ1, H1, J.ofTry ok, q1⟩
    | brk =>
      obtain ⟨σ1, H1, J, q1⟩ := q
      exact ⟨σ1, H1, J.ofTry ok, q1⟩
    | cont =>
      obtain ⟨σ1, H1, J, q1⟩ := q
      exact ⟨σ1, H1, J.ofTry ok, q1⟩
  let xe : Value → Shared → Prop := fun e s₁ => wpAny (model X.prog X.w) X.A (noteFrame e X.env) (fun _ s₂ => wpAny (model X.prog X.w) X.A (setFlight e none) (fun _ s₃ =>
    wpAny (model X.prog X.w) X.A (handleBy e X.env [.ExceptHandler (some (.Name x np)) (some n) (b₀ :: suite) pos']) (SP X pins D) X.xe s₃) X.xe s₂) X.xe s₁
  have takes : Takes (X.tr (X.pn ++ pins) xe) (wKeep X.K c i ts Wo D) := by
    rintro _ s1 ⟨a, B, sI, pn1, σ1, H1, cls, d, rfl, J1, ground, up, sky, na, os, bare, b, eb, yes, not⟩
    have J : Inv X pins σ1 H1 sI := J1.ofTry ok
    have sky1 : Sky B (X.env :: X.outer) a (Zc cls d) X.env.locals s1.heap := hs ▸ sky
    refine Sky.land Zc.steady frA hf sky1 fun h2 fl up2 => ?_
    have J2 : Inv X pins σ1 H1 { s1 with heap := h2 } := J.landed ground fl.1 (up.trans up2) os bare
    obtain ⟨oe, vs, ea, za, da⟩ := fl.there
    have off : ∀ {b : Addr}, b ∈ frs (X.env :: X.outer) → b ≠ a := fun {b} m r => by
      obtain ⟨_, o, q1, q2⟩ := fl.2.2.1.mem m
      rw [r, ea] at q1
      cases q1
      exact q2 _ da
    have nl : a ≠ X.env.locals := fun r => off (List.mem_filterMap.mpr ⟨X.env, List.mem_cons_self, hf⟩) r.symm
    have nf : a ∉ X.fs := fun m => by
      obtain ⟨e, q1, q2⟩ := List.mem_filterMap.mp m
      exact off (List.mem_filterMap.mpr ⟨e, List.mem_cons_of_mem _ q1, q2⟩) rfl
    have gone : B.get? a = none := fl.2.1
    have noI : sI.heap.get? a = none := by
      cases q : sI.heap.get? a with
      | none => rfl
      | some o =>
        have y := ground a o q fun m => off (hs ▸ m) rfl
        rw [gone] at y
        cases y
    have n0 : X.s_0.heap.get? a = none := by
      cases q : X.s_0.heap.get? a with
      | none => rfl
      | some o =>
        obtain ⟨o', y⟩ := J.base.there a o q (by rw [hex]; exact List.not_mem_nil)
        rw [noI] at y
        cases y
    have npn : ∀ p ∈ X.pn ++ pins, p.1 ≠ a := fun p hp r => by
      have y := (J.pin p hp).1
      rw [r, noI] at y
      cases y
    refine wpAny_handleBy_cons (codeAny_handlers_test ?_) (by intro q; cases q)
    have ty : PySem.W.Looks (model X.prog X.w) h2 (typeOf (.ref a)) cls := fun A Q E s k q => wpAny_typeOf_ref (k _ _ ea) (by rw [za.1]; exact q)
    have S2 := J2.suite ea da na nl nf
    have named : ∀ {Q : Value → Shared → Prop} {E : Value → Shared → Prop}, Q c { s1 with heap := h2 } → wpAny (model X.prog X.w) (X.A.mark (some (.ref a))) (eval (.Name x np) X.env) Q E { s1 with heap := h2 } := by
      intro Q E q
      rcases hc with ⟨g1, g2, m | ⟨m, v, nn⟩⟩
      · exact ld_glob S2 g1 m q g2
      · exact ld_blt S2 g1 m v q nn g2
    refine named ((PySem.W.exm_one (M := model X.prog X.w) J2.kIn ty eb).here ?_)
    cases b with
    | false =>
      refine wpAny_handleBy_nil ?_
      obtain ⟨_, _, _, oe', vs', T, oT, ts', q1, q2, q3, q4, _⟩ := id fl
      unfold PySem.passOn
      refine wpAny_bind (wpAny_field q1 q3 q4 ?_)
      rw [if_neg (by simp)]
      have on : wpAny (model X.prog X.w) X.A (setFlight (.ref a) X.env.frame) (fun _ s4 => wpAny (model X.prog X.w) X.A (throw (.ref a) : Sem Flow) (SP X pins D) X.xe s4) X.xe { s1 with heap := h2 } := by
        rw [hf]
        exact HandSPX.setFlight_upZ fl fun h3 held up3 => wpAny_throw (tk _ _ ⟨a, B, sI, pins, σ1, H1, cls, d, rfl, J, ground, (up.trans up2).trans up3, .inr (.inr (hs.symm ▸ held)), na, os, bare, not rfl⟩)
      first
        | exact wpAny_bind (wpAny_pure (wpAny_bind on))
        | exact wpAny_bind on
    | true =>
      refine codeAny_handlers_suite_as ?_
      refine HandSPX.lands_againZ fl fun h3 fl3 up3 => ?_
      have J3 : Inv X pins σ1 H1 { s1 with heap := h3 } := J.landed ground fl3.1 ((up.trans up2).trans up3) os bare
      obtain ⟨o3, v3, e3, z3, d3⟩ := fl3.there
      refine store_ok (X := X.suite a ((a, o3) :: (X.pn ++ pins))) (v := .ref a) (J3.suite e3 d3 na nl nf) hN hi (show Loc X.env.scope n from .inl hln) rfl (fun s4 S4 => ?_) (.inr hln)
      refine wpAny_mono ((hsu a o3 cls d (X.pn ++ pins) z3 ⟨_, d3⟩).run [] s4 _ H1 _ S4 (yes rfl a na)) (fun f s5 q => ?_) (fun _ _ r => r.elim)
      have ends : ∀ {σ5 : L2.St} {H5 : Hp} {Q : Shared → Prop}, Inv (X.suite a ((a, o3) :: (X.pn ++ pins))) [] σ5 H5 s5 → (∀ s6, Inv (X.suite a ((a, o3) :: (X.pn ++ pins))) [] (σ5.set i none) H5 s6 → Q s6) →
          wpAny (model X.prog X.w) X.A (do bindName X.env n .none; unbindBehindTheSuite X.env n pos') (fun _ s6 => Q s6) X.xe s5 := fun {σ5 H5 Q} S k => gone_ok (X := X.suite a ((a, o3) :: (X.pn ++ pins))) S hN hi hln k
      cases f with
      | next =>
        obtain ⟨σ5, H5, S5, q5⟩ := q
        refine ends S5 fun s6 S6 => ?_
        obtain ⟨p1, p2, _⟩ := S6.pin (a, o3) (List.mem_append_left _ List.mem_cons_self)
        exact ⟨_, _, track (S6.unsuite ok) p1 z3 d3 p2 nl n0 npn, q5 p2⟩
      | brk =>
        obtain ⟨σ5, H5, S5, q5⟩ := q
        exact ends S5 fun s6 S6 => ⟨_, _, S6.unsuite ok, q5⟩
      | cont =>
        obtain ⟨σ5, H5, S5, q5⟩ := q
        exact ends S5 fun s6 S6 => ⟨_, _, S6.unsuite ok, q5⟩
      | ret u =>
        obtain ⟨v5, σ5, H5, S5, r5, q5⟩ := q
        exact ends S5 fun s6 S6 => ⟨_, _, _, S6.unsuite ok, r5, q5⟩
  refine wpAny_Try_except (wpAny_mono ((hb _ _ xe takes PassesOwn.looking).run [] s σ H D (I.toTry _) h) (fun f s1 q => ?_) fun _ _ q => q)
  have q' := back q
  cases f with
  | next => exact wpAny_execs_nil q'
  | ret u => exact q'
  | brk => exact q'
  | cont => exact q'
end
/-! ### what is asked of such a one -/
/-- what the class D says, so that its instances can be asked -/
structure ExkC (K : PySem.W.Frag) (D : Addr) : Prop where
  hg : PySem.W.findIn K (.ref D) "__getattribute__" = some (some (.builtin "BaseException.__getattribute__"))
  hk : PySem.W.findIn K (.ref D) "__getattr__" = some none
  hs : PySem.W.subIn K (.ref D) (.type "BaseException") = some true
  hd : PySem.W.hasDictIn K D = true
  ha : PySem.W.findIn K (.ref D) "__class__" = some (some (.builtin "object.__class__"))
  hn : PySem.W.specialIn K (.builtin "object.__class__") "__get__" = some (some (.builtin "getset_descriptor.__get__"))
  ht : PySem.W.takesIn K (.builtin "object.__class__") = some true
  hm : PySem.W.mroIn K D (.type "object") = some true
section
variable {X : Cx} {pins : List (Addr × Obj)} {σ : L2.St} {H : Hp} {s : Shared} {a D dd : Addr} {fs : List (Str × V)}
theorem exk_inst (I : Inv X pins σ H s) (e : H a = some (exk a (.ref D) (some dd))) (ed : H dd = some (.xd fs)) : ∃ (ox od : Obj), PySem.W.InstAt s.heap a ox D (some od) ∧ s.heap.get? dd = some od ∧ ∃ mA, s.heap.Ns1 dd mA ∧ ∀ f, RelO (fs.lookup f) (mA f) := by
  obtain ⟨oe, vs, q1, q2, q3⟩ := exk_at I.hok e
  obtain ⟨mA, ns, r⟩ := (show ObjOk X.prog X.w H s.heap dd (.xd fs) from I.hok dd _ ed)
  obtain ⟨od, _, _, q4, _⟩ := id ns
  exact ⟨oe, od, ⟨q1, q2.1, by unfold PySem.W.notCls; rw [q3] <;> rfl, by rw [q2.2]; exact q4⟩, q4, mA, ns, r⟩
theorem exk_kit (C : ExkC X.K D) {ox od : Obj} : PySem.W.KitX X.K (.ref a) (.ref D) (fun h => PySem.W.InstAt h a ox D (some od)) := by
  obtain ⟨cd, hc, _⟩ := PySem.W.any_some C.hd
  exact PySem.W.kitx_exc (by rw [hc]; rfl) C.hg C.hk C.hs C.ha C.hn C.ht C.hm
/-- isinstance(e, c), e a kept exception -/
def rIsiK1 (K : PySem.W.Frag) : List V → Hp → VK → Prop := fun xs H Q => ∃ (a D dd : Addr) (fs : List (Str × V)) (c : V) (u : Value) (b : Bool), xs = [.ref a, c] ∧ ClsV c u ∧ H a = some (exk a (.ref D) (some dd)) ∧ H dd = some (.xd fs) ∧ ExkC K D ∧ PySem.W.kitOne K (.ref D) u = some b ∧ Q (.bl b) H
/-- isinstance(e, (c1, ..)) -/
def rIsiKT (K : PySem.W.Frag) : List V → Hp → VK → Prop := fun xs H Q => ∃ (a D dd tp : Addr) (fs : List (Str × V)) (cs : List V) (us : List Value) (b : Bool), xs = [.ref a, .ref tp] ∧ H tp = some (.tup cs) ∧ Paired ClsV cs us ∧ H a = some (exk a (.ref D) (some dd)) ∧ H dd = some (.xd fs) ∧ ExkC K D ∧
  PySem.W.kitAny K (.ref D) us = some b ∧ Q (.bl b) H
theorem call_isiK1 : CallR X (.builtin "isinstance") (rIsiK1 X.K) := by
  intro pins s σ H xs us Q I r h
  obtain ⟨a, D, dd, fs, c, u, b, rfl, k, e, ed, C, kb, q⟩ := h
  obtain ⟨u1, u2, rfl, r1, r2⟩ := vals2 r
  cases (show u1 = Value.ref a from r1)
  cases k.eq r2
  obtain ⟨ox, od, J, _⟩ := exk_inst I e ed
  exact PySem.W.kia_one (exk_kit C) I.kIn J kb (fun z => nomatch z) fun tk => ⟨.bl b, H, I.tok tk, rfl, q⟩
theorem call_isiKT : CallR X (.builtin "isinstance") (rIsiKT X.K) := by
  intro pins s σ H xs us Q I r h
  obtain ⟨a, D, dd, tp, fs, cs, ws, b, rfl, hT, k, e, ed, C, kb, q⟩ := h
  obtain ⟨u1, u2, rfl, r1, r2⟩ := vals2 r
  cases (show u1 = Value.ref a from r1)
  cases (show u2 = Value.ref tp from r2)
  obtain ⟨ox, od, J, _⟩ := exk_inst I e ed
  obtain ⟨_, its, rv, o, h1, h2, n, h3⟩ := (show ObjOk X.prog X.w H s.heap tp (.tup cs) from I.hok tp _ hT)
  cases ClsV.all k rv
  obtain ⟨oc, od', dt, sl⟩ := o
  simp only at h2 h3
  subst h2 h3
  exact PySem.W.kia_tup (exk_kit C) I.kIn J h1 kb (fun z => nomatch z) fun tk => ⟨.bl b, H, I.tok tk, rfl, q⟩
/-- e.f, e a kept exception -/
def tExf (K : PySem.W.Frag) (f : Str) (te : TE) : TE := fun σ H Q => te σ H fun x H1 => ∃ (a D dd : Addr) (fs : List (Str × V)) (v : V), x = .ref a ∧ H1 a = some (exk a (.ref D) (some dd)) ∧ H1 dd = some (.xd fs) ∧ ExkC K D ∧ PySem.W.findIn K (.ref D) f = some none ∧ fs.lookup f = some v ∧ Q v H1
theorem pe_exf {e : Expr} {te : TE} {f : Str} {pos : Pos} (he : PE X e te) (hb : attributeBase e f X.env (eval e X.env) = eval e X.env := by rfl) : PE X (.Attribute e f pos) (tExf X.K f te) := by
  constructor
  intro pins s σ H Q I h
  refine attr_of hb (thn (he.run pins s σ H _ I h) ?_)
  rintro u s1 ⟨x, H1, I1, rx, a, D, dd, fs, v, rfl, ea, ed, C, hn, hv, q⟩
  obtain rfl : u = Value.ref a := rx
  obtain ⟨ox, od, J, q4, mA, ns, r⟩ := exk_inst I1 ea ed
  obtain ⟨od', q5, l⟩ := lookIn_ns ns
  rw [q4] at q5
  cases q5
  obtain ⟨u', hu, ru⟩ := RelO.some_of (v := v) (o := mA f) (hv ▸ r f)
  exact HandSPX.exc_get I1.kIn J C.hg C.hk C.hs (PySem.W.findObj_own C.hd hn rfl (by rw [l, hu])) (handed_of ru) ⟨v, H1, I1.tok _, ru, q⟩
end
end GG
namespace K3
open PySem PySem.Spec PyProof.Rows L2 GG
/-! ### data with truths, lists and dicts; where they stand, nothing of M stands -/
def keyD : Key → PyData
  | .inl i => .int i
  | .inr z => .str z
mutual
inductive Dx (M : Addr → Prop) (H : Hp) : V → PyData → Prop
  | non : Dx M H .non .none
  | bl (b : Bool) : Dx M H (.bl b) (.bool b)
  | int (i : Int) : Dx M H (.int i) (.int i)
  | str (z : Str) : Dx M H (.str z) (.str z)
  | lst {a : Addr} {xs : List V} {ds : List PyData} : ¬ M a → H a = some (.lst xs) → DxAll M H xs ds → Dx M H (.ref a) (.list ds)
  | tup {a : Addr} {xs : List V} {ds : List PyData} : ¬ M a → H a = some (.tup xs) → DxAll M H xs ds → Dx M H (.ref a) (.tuple ds)
  | dic {a : Addr} {kvs : List (Key × V)} {es : List (PyData × PyData)} : ¬ M a → H a = some (.dK kvs) → DxKv M H kvs es → Dx M H (.ref a) (.dict es)
inductive DxAll (M : Addr → Prop) (H : Hp) : List V → List PyData → Prop
  | nil : DxAll M H [] []
  | cons {v : V} {vs : List V} {d : PyData} {ds : List PyData} : Dx M H v d → DxAll M H vs ds → DxAll M H (v :: vs) (d :: ds)
inductive DxKv (M : Addr → Prop) (H : Hp) : List (Key × V) → List (PyData × PyData) → Prop
  | nil : DxKv M H [] []
  | cons {k : Key} {v : V} {d : PyData} {kvs : List (Key × V)} {es : List (PyData × PyData)} : Dx M H v d → DxKv M H kvs es → DxKv M H ((k, v) :: kvs) ((keyD k, d) :: es)
end
mutual
theorem Dx.mono {M : Addr → Prop} {H H' : Hp} (e : But M H H') : ∀ {d : PyData} {v : V}, Dx M H v d → Dx M H' v d
  | _, _, .non => .non
  | _, _, .bl b => .bl b
  | _, _, .int i => .int i
  | _, _, .str z => .str z
  | _, _, .lst n h a => .lst n (e _ _ n h) (DxAll.mono e a)
  | _, _, .tup n h a => .tup n (e _ _ n h) (DxAll.mono e a)
  | _, _, .dic n h a => .dic n (e _ _ n h) (DxKv.mono e a)
theorem DxAll.mono {M : Addr → Prop} {H H' : Hp} (e : But M H H') : ∀ {ds : List PyData} {vs : List V}, DxAll M H vs ds → DxAll M H' vs ds
  | _, _, .nil => .nil
  | _, _, .cons h a => .cons (Dx.mono e h) (DxAll.mono e a)
theorem DxKv.mono {M : Addr → Prop} {H H' : Hp} (e : But M H H') : ∀ {es : List (PyData × PyData)} {kvs : List (Key × V)}, DxKv M H kvs es → DxKv M H' kvs es
  | _, _, .nil => .nil
  | _, _, .cons h a => .cons (Dx.mono e h) (DxKv.mono e a)
end
mutual
theorem Dt.dx {M : Addr → Prop} {H : Hp} (n : ∀ a xs, M a → H a ≠ some (.tup xs)) : ∀ {d : PyData} {v : V}, Dt H v d → Dx M H v d
  | _, _, .non => .non
  | _, _, .int i => .int i
  | _, _, .str z => .str z
  | _, _, .tup h a => .tup (fun m => n _ _ m h) h (DtAll.dx n a)
theorem DtAll.dx {M : Addr → Prop} {H : Hp} (n : ∀ a xs, M a → H a ≠ some (.tup xs)) : ∀ {ds : List PyData} {vs : List V}, DtAll H vs ds → DxAll M H vs ds
  | _, _, .nil => .nil
  | _, _, .cons h a => .cons (Dt.dx n h) (DtAll.dx n a)
end
theorem DxAll.length {M : Addr → Prop} {H : Hp} : ∀ {ds : List PyData} {vs : List V}, DxAll M H vs ds → vs.length = ds.length
  | _, _, .nil => rfl
  | _, _, .cons _ a => by rw [List.length_cons, List.length_cons, DxAll.length a]
theorem DxAll.app {M : Addr → Prop} {H : Hp} : ∀ {ds es : List PyData} {vs ws : List V}, DxAll M H vs ds → DxAll M H ws es → DxAll M H (vs ++ ws) (ds ++ es)
  | _, _, _, _, .nil, b => b
  | _, _, _, _, .cons h a, b => .cons h (DxAll.app a b)
theorem DxAll.drop {M : Addr → Prop} {H : Hp} : ∀ (n : Nat) {ds : List PyData} {vs : List V}, DxAll M H vs ds → DxAll M H (vs.drop n) (ds.drop n)
  | 0, _, _, h => h
  | n + 1, _, _, .nil => .nil
  | n + 1, _, _, .cons _ a => DxAll.drop n a
theorem DxAll.take {M : Addr → Prop} {H : Hp} : ∀ (n : Nat) {ds : List PyData} {vs : List V}, DxAll M H vs ds → DxAll M H (vs.take n) (ds.take n)
  | 0, _, _, h => .nil
  | n + 1, _, _, .nil => .nil
  | n + 1, _, _, .cons h a => .cons h (DxAll.take n a)
theorem DxAll.rev {M : Addr → Prop} {H : Hp} : ∀ {ds : List PyData} {vs : List V}, DxAll M H vs ds → DxAll M H vs.reverse ds.reverse
  | _, _, .nil => .nil
  | _, _, .cons h a => by
    rw [List.reverse_cons, List.reverse_cons]
    exact (DxAll.rev a).app (.cons h .nil)
theorem DxAll.get {M : Addr → Prop} {H : Hp} : ∀ {ds : List PyData} {vs : List V}, DxAll M H vs ds → ∀ (i : Nat) (v : V), vs[i]? = some v → ∃ d, ds[i]? = some d ∧ Dx M H v d
  | _, _, .nil, i, v, e => by simp at e
  | _, _, .cons h a, 0, v, e => by
    cases e
    exact ⟨_, rfl, h⟩
  | _, _, .cons h a, i + 1, v, e => DxAll.get a i v e
theorem Dx.tupI {M : Addr → Prop} {H : Hp} {a : Addr} {ds : List PyData} (h : Dx M H (.ref a) (.tuple ds)) : ∃ xs, H a = some (.tup xs) ∧ DxAll M H xs ds := by
  cases h with
  | tup n h1 h2 => exact ⟨_, h1, h2⟩
theorem Dx.ref_of {M : Addr → Prop} {H : Hp} {v : V} {ds : List PyData} (h : Dx M H v (.tuple ds)) : ∃ a, v = .ref a := by
  cases h with
  | tup n h1 h2 => exact ⟨_, rfl⟩
/-- the type of data -/
def tyD : PyData → String
  | .none => "NoneType"
  | .bool _ => "bool"
  | .int _ => "int"
  | .str _ => "str"
  | .list _ => "list"
  | .tuple _ => "tuple"
  | .dict _ => "dict"
theorem Dx.type {K : PySem.W.Frag} {M : Addr → Prop} {H : Hp} {v : V} {d : PyData} (h : Dx M H v d) : TyX K H v (.type (tyD d)) := by
  cases h with
  | non => exact .base .non
  | bl b => exact .base (.bl b)
  | int i => exact .base (.int i)
  | str z => exact .base (.str z)
  | lst n e a => exact .base (.lst e)
  | tup n e a => exact .base (.tup e)
  | dic n e a => exact .base (.dK e)
section
variable {X : Cx} {pins : List (Addr × Obj)} {σ : L2.St} {H : Hp} {s : Shared} {M : Addr → Prop}
theorem key_reads {k : Key} {u : Value} (e : keyIs k u = true) : Reads s.heap u (keyD k) [] := by
  rcases keyIs_shape e with ⟨i, t, rfl, rfl⟩ | ⟨z, t, rfl, rfl⟩
  · exact .int i t
  · exact .str z t
mutual
theorem Dx.reads (I : Inv X pins σ H s) : ∀ (d : PyData) (v : V) (u : Value), Dx M H v d → RelV v u → ∃ as, Reads s.heap u d as
  | .none, _, u, h, r => by
    cases h
    obtain rfl : u = .none := r
    exact ⟨_, .none⟩
  | .bool b, _, u, h, r => by
    cases h
    obtain rfl : u = .bool b := r
    exact ⟨_, .bool b⟩
  | .int i, _, u, h, r => by
    cases h
    obtain ⟨t, rfl⟩ := r
    exact ⟨_, .int i t⟩
  | .str z, _, u, h, r => by
    cases h
    obtain ⟨t, rfl⟩ := r
    exact ⟨_, .str z t⟩
  | .list ds, _, u, h, r => by
    cases h with
    | lst n e a =>
      obtain rfl : u = .ref _ := r
      obtain ⟨_, its, n', rv, q⟩ := (show ObjOk X.prog X.w H s.heap _ (.lst _) from I.hok _ _ e)
      obtain ⟨as, q2⟩ := DxAll.reads I ds _ its a rv
      exact ⟨_, .list q rfl rfl (by simpa using q2)⟩
  | .tuple ds, _, u, h, r => by
    cases h with
    | tup n e a =>
      obtain rfl : u = .ref _ := r
      obtain ⟨_, its, rv, o, q, qc, n', qd⟩ := (show ObjOk X.prog X.w H s.heap _ (.tup _) from I.hok _ _ e)
      obtain ⟨as, q2⟩ := DxAll.reads I ds _ its a rv
      exact ⟨_, .tuple q qc qd (by simpa using q2)⟩
  | .dict es, _, u, h, r => by
    cases h with
    | dic n e a =>
      obtain rfl : u = .ref _ := r
      obtain ⟨_, _, vs, rel, o, es', ep, q, qx, qd, _, qp, _⟩ := (show ObjOk X.prog X.w H s.heap _ (.dK _) from I.hok _ _ e)
      obtain ⟨as, bs, q1, q2⟩ := DxKv.reads I es _ vs es'.toList a rel qp
      exact ⟨_, .dict q qx.1 qd q1 q2⟩
theorem DxAll.reads (I : Inv X pins σ H s) : ∀ (ds : List PyData) (vs : List V) (us : List Value), DxAll M H vs ds → Vals vs us → ∃ as, ReadsAll s.heap us ds as
  | [], _, _, h, r => by
    cases h
    cases r
    exact ⟨_, .nil⟩
  | d :: ds, _, _, h, r => by
    cases h with
    | cons h1 h2 =>
      cases r with
      | cons r1 r2 =>
        obtain ⟨as, q1⟩ := Dx.reads I d _ _ h1 r1
        obtain ⟨bs, q2⟩ := DxAll.reads I ds _ _ h2 r2
        exact ⟨_, .cons q1 q2⟩
theorem DxKv.reads (I : Inv X pins σ H s) : ∀ (es : List (PyData × PyData)) (kvs : List (Key × V)) (vs : List (Key × Value)) (l : List DictEntry), DxKv M H kvs es → KV kvs vs → Pairs (mixKind X.prog X.w) l vs →
    ∃ as bs, ReadsAll s.heap (l.map (·.key)) (es.map (·.1)) as ∧ ReadsAll s.heap (l.map (·.val)) (es.map (·.2)) bs
  | [], _, _, _, h, r, p => by
    cases h
    cases r
    cases p
    exact ⟨_, _, .nil, .nil⟩
  | e :: es, _, _, _, h, r, p => by
    cases h with
    | cons h1 h2 =>
      cases r with
      | cons r1 r2 =>
        cases p with
        | cons p1 p2 p3 =>
          obtain ⟨rk, rv⟩ := r1
          obtain ⟨as, q1⟩ := Dx.reads I _ _ _ h1 rv
          obtain ⟨cs, ds, q2, q3⟩ := DxKv.reads I es _ _ _ h2 r2 p3
          simp only at rk
          subst rk
          refine ⟨_, _, .cons (key_reads p1) q2, .cons (p2.symm ▸ q1) q3⟩
end
end
end K3
namespace GG
open PySem PySem.Spec PyProof.Rows L2
/-! ### an own class over Exception, its own __init__ storing one field -/
structure OexE (K : PySem.W.Frag) (C : Addr) : Prop where
  seen : ∃ nm q N bs sn sub ab col dd k0 k1 k2 k3 k5, K.lookup C = some (excClassObj nm q C N bs PySem.ESX.exTail true sn sub ab col dd k0 k1 k2 k3 k5 "Exception.__new__")
  store : PySem.W.findIn K (.ref C) "__setattr__" = some (some (.builtin "object.__setattr__"))
  base : PySem.W.subIn K (.ref C) (.type "BaseException") = some true
  type : PySem.W.typeIn K (.ref C) = some (.type "type")
  keep : PySem.W.keepIn K (.ref C) = true
/-- self.f = e in such an __init__ -/
def tOne (K : PySem.W.Frag) (f : Str) (to te : TE) : TS := fun D σ H => te σ H fun y H1 => to σ H1 fun x H2 => ∃ a C : Addr, x = .ref a ∧ OexE K C ∧ PySem.W.findIn K (.ref C) f = some none ∧ H2 a = some (exo a C none) ∧
  ∀ dx, H2 dx = none → dx ≠ a → D.nx σ (upd (upd H2 dx (exd dx [(f, y)])) a (exo a C (some dx)))
section
variable {X : Cx} {pins : List (Addr × Obj)} {σ : L2.St} {H : Hp} {s : Shared} {a C : Addr} {f : Str} {y : V} {u : Value} {Q : Unit → Shared → Prop} {E : Value → Shared → Prop} {A : Around}
/-- the field is stored: the instance has a dict of its own now -/
theorem one_stored (T : OexE X.K C) (I : Inv X pins σ H s) (ea : H a = some (exo a C none)) (no : PySem.W.findIn X.K (.ref C) f = some none) (ry : RelV y u)
    (k : ∀ dx s', H dx = none → dx ≠ a → Inv X pins σ (upd (upd H dx (exd dx [(f, y)])) a (exo a C (some dx))) s' → Q () s') : wpAny (model X.prog X.w) A (setAttr (.ref a) f u) Q E s := by
  obtain ⟨nm, q, N, bs, sn, sub, ab, col, dd, k0, k1, k2, k3, k5, hC⟩ := T.seen
  have cd : ∃ cd, PySem.W.clsIn X.K C = some cd ∧ cd.mro = .ref C :: PySem.ESX.exTail ∧ cd.hasDict = true := by
    unfold PySem.W.clsIn
    rw [hC]
    exact ⟨_, rfl, rfl, rfl⟩
  obtain ⟨cd, c1, c2, c3⟩ := cd
  obtain ⟨t1, at1⟩ := exo_at I.hok ea
  obtain ⟨hp, g, d, t, os⟩ := s
  refine PySem.W.set_plain I.kIn (od := none) ⟨at1, rfl, rfl, trivial⟩ T.store (PySem.ESX.osa_new I.kIn at1 c1 c2 c3 no fun h' tk' dx same far off here names => ?_)
  have z : H dx = none := I.hok.fresh far
  have old : ∀ b o, hp.get? b = some o → b ≠ dx := fun b o r => Nat.ne_of_lt (Nat.lt_of_lt_of_le (Heap.lt_size r) far)
  have other : ∀ b, H b = none → b ≠ a := fun b r w => nomatch (show none = some (exo a C none) by rw [← ea, ← w, r])
  have tracked : ∀ b (o : HO), H b = some o → b ≠ dx := fun b o r w => nomatch (show none = some o by rw [← r, w, z])
  have unlike : ∀ b (o : HO), H b = some o → exo a C none ≠ o → b ≠ a := fun b o r d w => d (Option.some.inj (ea.symm.trans (w ▸ r)))
  have gone : ∀ b (o : HO), H b = some o → exo a C none ≠ o → upd (upd H dx (exd dx [(f, y)])) a (exo a C (some dx)) b = some o := fun b o r d => by
    rw [upd_ne (unlike b o r d), upd_ne (tracked b o r), r]
  refine k dx ⟨h', g, d, tk', os⟩ z off (I.un (t' := tk') ⟨fun b o r n _ _ => same b o (other b n) r, fun b o r n _ _ => ⟨_, same b o (other b n) r⟩, fun b o r n _ => ?_, fun b o r _ => ?_, fun b xs r => gone b _ r exo_tup,
    fun b o v r => gone b _ r exo_frz, fun b ps r => ⟨#[], ?_⟩⟩ fun b o r => ?_)
  · rw [upd_ne (other b n), upd_ne (old b o r), n]
  · by_cases w : b = a
    · exact ⟨_, w ▸ here⟩
    · exact ⟨_, same b o w r⟩
  · rw [gone b _ r exo_tbl]
    simp
  · by_cases w : b = a
    · subst w
      cases upd_same.symm.trans r
      exact exo_ok here
    · rw [upd_ne w] at r
      by_cases v : b = dx
      · subst v
        cases upd_same.symm.trans r
        exact exd_ok names (relO_put (fs := []) ry fun _ => True.intro)
      · rw [upd_ne v] at r
        refine (I.hok b o r).stay (fun c o' hc q' => same c o' ?_ q') (fun c hc => gone c _ hc exo_own) (fun c xs hc => gone c _ hc exo_tup)
        exact hc.elim (fun q => q ▸ w) fun q => unlike c _ q exo_own
end
section
variable {X : Cx} {o e : Expr} {es : List Expr} {to te : TE} {ta : TA} {f : Str} {p p' pos : Pos}
theorem ps_one1 (ho : PE X o to) (he : PE X e te) (hs : swapsWith e (some (.Attribute o f p')) pos.line X.env = pure false := by rfl) : PS X (.Assign [.Attribute o f p'] e pos) (tOne X.K f to te) := by
  constructor
  intro pins s σ H D I h
  refine plainObj_wpAny_Assign_Attribute (thn (he.run pins s σ H _ I h) ?_) hs
  rintro v s1 ⟨y, H1, I1, r1, q1⟩
  refine thn (ho.run pins s1 σ H1 _ I1 q1) ?_
  rintro u s2 ⟨x, H2, I2, r2, a, C, rfl, T, no, ea, q⟩
  cases (show u = Value.ref a from r2)
  exact one_stored T I2 ea no r1 fun dx s' n ne J => ⟨σ, _, J, q dx n ne⟩
/-- C(e, ..), to be raised -/
theorem pmk_one {CX : CXT} {x : Str} {C fI : Addr} {k : Nat} {fd : FuncData} {ps : List Str} {sp : Sp} {ds : List Value} {dvs : List V} (T : OexE X.K C) (iC : PySem.W.findIn X.K (.ref C) "__init__" = some (some (.ref fI))) (tI : PySem.W.typeIn X.K (.ref fI) = some (.type "function"))
    (GI : FnOk X.prog X.w X.K X.mg X.base CX k fI fd ps sp) (hr : Room (k + 1) X.A) (hb : Binds X.K fd ps ds) (hd : Vals dvs ds) (hx : Passes CX X (fun _ _ _ => False)) (hg : Gl X x) (hm : X.mg x = some (.ref C)) (ha : PA X (e :: es) ta)
    (dbg : (x == ("__debug__" : Str)) = false := by decide) (one : starEach (e :: es) X.env = (false, eval e X.env) :: starEach es X.env := by rfl) (hpl : (backTo pos (starEach es X.env)).any (·.1) = false := by rfl) :
    L2N.PMk X (.Call (.Name x p) (e :: es) [] pos) (tMkO C sp dvs ta) := by
  intro pins s σ H Q I h
  obtain ⟨nm, q, N, bs, sn, sub, ab, col, dd, k0, k1, k2, k3, k5, hC⟩ := T.seen
  refine wpAny_Call_Name_kw (ld_glob I hg hm ?_ dbg)
  refine PySem.W.callWith_K (h₀ := X.base) I.ok.mod.kin T.keep (thn (ha.run pos pins s σ H _ I h) ?_) one hpl
  rintro us ⟨hp, g, dr, tk, os⟩ ⟨vs, H1, I1, r1, hz, q1⟩
  refine ⟨I1.kIn, ?_⟩
  show wpAny _ _ (call (.ref C) us) _ _ _
  -- the new instance stands behind the tuple of its arguments
  have free1 : H1 (hp.objs.size + 1) = none := I1.hok.fresh (Nat.le_succ _)
  have hq := q1 _ free1
  generalize hG : (hp.push (PySem.W.kdv_tup us)).push (PySem.HandSPX.excO C hp.objs.size) = G
  have grown : ∀ b o, hp.get? b = some o → G.get? b = some o := fun b o r => hG ▸ Heap.get?_push_of_some _ (Heap.get?_push_of_some _ r)
  have newAt : G.get? (hp.objs.size + 1) = some (PySem.HandSPX.excO C hp.objs.size) := by
    rw [← hG]
    heap_get
  have I2 : Inv X pins σ (upd H1 (hp.objs.size + 1) (exo (hp.objs.size + 1) C none)) ⟨G, g, dr, tk, os⟩ := I1.laid (t' := tk) grown (Nat.le_succ _) (exo_ok newAt)
  have r2 : Vals (V.ref (hp.objs.size + 1) :: (vs ++ dvs)) (Value.ref (hp.objs.size + 1) :: (us ++ ds)) := Paired.cons rfl (r1.append hd)
  have many : us.length ≤ sizeLine := by
    rw [← Paired.length r1]
    exact Nat.le_trans hz (by decide)
  have even : (Value.ref (hp.objs.size + 1) :: us ++ ds).length = ps.length := r2.length.symm.trans (GI.len _ _ _ _ hq)
  have run := GI.run _ X.stack _ _ ⟨Value.ref (hp.objs.size + 1) :: us, []⟩ (Value.ref (hp.objs.size + 1) :: (us ++ ds)) _ _ (fun _ _ _ => False) (hr.make C us []) (I2.env0.make C us []) (hb _ (Value.ref (hp.objs.size + 1) :: us) I2.kIn even) r2 hq
  refine wpAny_call (PySem.HandSPX.call_own PySem.F.excBase_Exception (fun _ => rfl) (I1.kIn _ _ hC) (PySem.W.looks_findIn I1.kIn iC) (fun self => PySem.W.bind_fn I1.kIn self tI) many ?_)
  rw [hG]
  refine codeAny_mono run ?_
  rintro (er | fl) s' out
  · exact hx pins σ _ _ er s' I2 out
  cases fl with
  | ret u =>
    obtain ⟨v, H2, os2, bare, un, ok2, rv, rfl, d, fs, e1, e2, e3, q2⟩ := out
    obtain ⟨h2, g2, d2, t2, os'⟩ := s'
    obtain ⟨t0, B, J, kB, gB, hoe, na⟩ := mk_end0 (d2 := d2) (t2 := t2) I1 (Nat.le_succ _) grown un ok2 os2 bare e1 e2 e3
    exact ⟨rv, hp.objs.size + 1, _, _, ⟨B, g2, d2, t2, os'⟩, _, .ref C, some d, rfl, J, kB, gB, hoe, ⟨rfl, rfl, fun vs q => by cases q; rfl⟩, rfl, rfl, na, rfl, bare, raises_own T.base T.type, q2⟩
  | next => exact out.elim
  | brk => exact out.elim
  | cont => exact out.elim
end
/-- a def that may raise where nothing is handled: its exceptions' context is None -/
theorem okN {P : Program} {w : World} {K : PySem.W.Frag} {mg : Str → Option Value} {base : Heap} {x qual : Str} {st : Stmt} {f : Addr} {fd : FuncData} {N ps : List Str} {k : Nat} {sp : Sp} (F : Fun K x qual st f fd) (S : FnScope N ps (defScope st)) (len : ∀ vs H Q E, sp vs H Q E → vs.length = ps.length)
    (walk : ∀ (cdv : Value) (A : Around) (outer : List Env) (s : Shared) (H : Hp) (vs : List V) (Q : VK) (E : XK), Room k (A.deeper (envOfC qual (defScope st) s.heap.objs.size f cdv)) → sp vs H Q E →
      ∃ t, PSs (cxOf (L2N.CX P w) P w K mg base N qual (defScope st) f cdv A outer s H E) (defBody st) t ∧ t { nx := fun _ H' => Q .non H', rt := Q } (L2.start N vs) H) : FnOk P w K mg base (L2N.CX P w) (k + 1) f fd ps sp := by
  obtain ⟨_, _, _, _, _, _, cdv, _, _, rfl, lk, hcd⟩ := F.ex
  exact fn_of lk hcd S len fun A outer s H vs Q E hr h => walk cdv A outer s H vs Q E hr h
end GG
namespace K3
open PySem L2 GG
abbrev sCopied : Stmt := top 1
theorem scCo : FnScope ["thing", "rows", "key", "part", "parts"] ["thing"] (defScope sCopied) := ⟨rfl, rfl, rfl, by decide +kernel, rfl, by decide +kernel, by decide +kernel⟩
theorem depthAll_mem : ∀ {ds : List PyData} {d : PyData}, d ∈ ds → d.depth ≤ PyData.depthAll ds
  | a :: r, d, h => by
    simp only [PyData.depthAll]
    rcases List.mem_cons.mp h with rfl | h
    · omega
    · have := depthAll_mem h
      omega
theorem kit_any {K : PySem.W.Frag} {t a b : Value} {x y : Bool} (h1 : PySem.W.kitOne K t a = some x) (h2 : PySem.W.kitOne K t b = some y) : PySem.W.kitAny K t [a, b] = some (x || y) := by
  cases x <;> cases y <;> simp [PySem.W.kitAny, h1, h2]
end K3
namespace K3
open PySem PySem.Spec PyProof.Rows L2 GG
/-! ### what stands away from an address; copied, of data with lists and dicts -/
section
variable {M : Addr → Prop} {H : Hp}
mutual
theorem Dx.det : ∀ {d d' : PyData} {v : V}, Dx M H v d → Dx M H v d' → d = d'
  | _, _, _, .non, h => by cases h; rfl
  | _, _, _, .bl b, h => by cases h; rfl
  | _, _, _, .int i, h => by cases h; rfl
  | _, _, _, .str z, h => by cases h; rfl
  | _, _, _, .lst n e a, h => by
    cases h with
    | lst n' e' a' =>
      rw [e] at e'
      cases e'
      rw [DxAll.det a a']
    | tup n' e' a' =>
      rw [e] at e'
      cases e'
    | dic n' e' a' =>
      rw [e] at e'
      cases e'
  | _, _, _, .tup n e a, h => by
    cases h with
    | lst n' e' a' =>
      rw [e] at e'
      cases e'
    | tup n' e' a' =>
      rw [e] at e'
      cases e'
      rw [DxAll.det a a']
    | dic n' e' a' =>
      rw [e] at e'
      cases e'
  | _, _, _, .dic n e a, h => by
    cases h with
    | lst n' e' a' =>
      rw [e] at e'
      cases e'
    | tup n' e' a' =>
      rw [e] at e'
      cases e'
    | dic n' e' a' =>
      rw [e] at e'
      cases e'
      rw [DxKv.det a a']
theorem DxAll.det : ∀ {ds ds' : List PyData} {vs : List V}, DxAll M H vs ds → DxAll M H vs ds' → ds = ds'
  | _, _, _, .nil, h => by cases h; rfl
  | _, _, _, .cons h1 h2, h => by
    cases h with
    | cons h1' h2' => rw [Dx.det h1 h1', DxAll.det h2 h2']
theorem DxKv.det : ∀ {es es' : List (PyData × PyData)} {kvs : List (Key × V)}, DxKv M H kvs es → DxKv M H kvs es' → es = es'
  | _, _, _, .nil, h => by cases h; rfl
  | _, _, _, .cons h1 h2, h => by
    cases h with
    | cons h1' h2' => rw [Dx.det h1 h1', DxKv.det h2 h2']
end
variable {a : Addr} {n : Nat}
mutual
/-- what is not so deep as the data at a don't stand at a -/
theorem Dx.away (w : ∀ d', Dx M H (.ref a) d' → n < d'.depth) : ∀ {d : PyData} {v : V}, Dx M H v d → d.depth ≤ n → Dx (fun b => M b ∨ b = a) H v d
  | _, _, .non, _ => .non
  | _, _, .bl b, _ => .bl b
  | _, _, .int i, _ => .int i
  | _, _, .str z, _ => .str z
  | _, _, .lst (a := b) nm e h, q => .lst (fun z => z.elim nm fun r => by
      subst r
      have := w _ (.lst nm e h)
      omega) e (DxAll.away w h (by simp only [PyData.depth] at q; omega))
  | _, _, .tup (a := b) nm e h, q => .tup (fun z => z.elim nm fun r => by
      subst r
      have := w _ (.tup nm e h)
      omega) e (DxAll.away w h (by simp only [PyData.depth] at q; omega))
  | _, _, .dic (a := b) nm e h, q => .dic (fun z => z.elim nm fun r => by
      subst r
      have := w _ (.dic nm e h)
      omega) e (DxKv.away w h (by simp only [PyData.depth] at q; omega))
theorem DxAll.away (w : ∀ d', Dx M H (.ref a) d' → n < d'.depth) : ∀ {ds : List PyData} {vs : List V}, DxAll M H vs ds → PyData.depthAll ds ≤ n → DxAll (fun b => M b ∨ b = a) H vs ds
  | _, _, .nil, _ => .nil
  | _, _, .cons h1 h2, q => .cons (Dx.away w h1 (by simp only [PyData.depthAll] at q; omega)) (DxAll.away w h2 (by simp only [PyData.depthAll] at q; omega))
theorem DxKv.away (w : ∀ d', Dx M H (.ref a) d' → n < d'.depth) : ∀ {es : List (PyData × PyData)} {kvs : List (Key × V)}, DxKv M H kvs es → PyData.depthKv es ≤ n → DxKv (fun b => M b ∨ b = a) H kvs es
  | _, _, .nil, _ => .nil
  | _, _, .cons h1 h2, q => .cons (Dx.away w h1 (by simp only [PyData.depthKv] at q; omega)) (DxKv.away w h2 (by simp only [PyData.depthKv] at q; omega))
end
end
section
variable {M N : Addr → Prop} {H : Hp}
mutual
theorem Dx.weak (w : ∀ b, N b → M b) : ∀ {d : PyData} {v : V}, Dx M H v d → Dx N H v d
  | _, _, .non => .non
  | _, _, .bl b => .bl b
  | _, _, .int i => .int i
  | _, _, .str z => .str z
  | _, _, .lst n e h => .lst (fun z => n (w _ z)) e (DxAll.weak w h)
  | _, _, .tup n e h => .tup (fun z => n (w _ z)) e (DxAll.weak w h)
  | _, _, .dic n e h => .dic (fun z => n (w _ z)) e (DxKv.weak w h)
theorem DxAll.weak (w : ∀ b, N b → M b) : ∀ {ds : List PyData} {vs : List V}, DxAll M H vs ds → DxAll N H vs ds
  | _, _, .nil => .nil
  | _, _, .cons h1 h2 => .cons (Dx.weak w h1) (DxAll.weak w h2)
theorem DxKv.weak (w : ∀ b, N b → M b) : ∀ {es : List (PyData × PyData)} {kvs : List (Key × V)}, DxKv M H kvs es → DxKv N H kvs es
  | _, _, .nil => .nil
  | _, _, .cons h1 h2 => .cons (Dx.weak w h1) (DxKv.weak w h2)
end
theorem DxKv.keys : ∀ {es : List (PyData × PyData)} {kvs : List (Key × V)}, DxKv M H kvs es → es.map (·.1) = kvs.map fun q => keyD q.1
  | _, _, .nil => rfl
  | _, _, .cons _ h2 => by rw [List.map_cons, List.map_cons, DxKv.keys h2]
theorem DxKv.length : ∀ {es : List (PyData × PyData)} {kvs : List (Key × V)}, DxKv M H kvs es → kvs.length = es.length
  | _, _, .nil => rfl
  | _, _, .cons _ h2 => by rw [List.length_cons, List.length_cons, DxKv.length h2]
theorem DxKv.app : ∀ {es fs : List (PyData × PyData)} {kvs lvs : List (Key × V)}, DxKv M H kvs es → DxKv M H lvs fs → DxKv M H (kvs ++ lvs) (es ++ fs)
  | _, _, _, _, .nil, b => b
  | _, _, _, _, .cons h a, b => .cons h (DxKv.app a b)
theorem DxKv.get : ∀ {es : List (PyData × PyData)} {kvs : List (Key × V)}, DxKv M H kvs es → ∀ (i : Nat) (k : Key) (v : V), kvs[i]? = some (k, v) → ∃ d, es[i]? = some (keyD k, d) ∧ Dx M H v d
  | _, _, .nil, i, k, v, e => by simp at e
  | _, _, .cons h a, 0, k, v, e => by
    cases e
    exact ⟨_, rfl, h⟩
  | _, _, .cons h a, i + 1, k, v, e => DxKv.get a i k v e
end
theorem put_new {kvs : List (Key × V)} {k : Key} {v : V} (h : k ∉ kvs.map (·.1)) : putK kvs k v = kvs ++ [(k, v)] := by
  unfold putK
  rw [if_neg]
  intro z
  obtain ⟨q, hq, e⟩ := List.any_eq_true.mp z
  exact h (List.mem_map.mpr ⟨q, hq, of_decide_eq_true e⟩)
section
variable {M : Addr → Prop} {H : Hp} {l : Addr}
mutual
/-- where nothing stands, no data do -/
theorem Dx.apart (h : H l = none) : ∀ {d : PyData} {v : V}, Dx M H v d → Dx (fun b => M b ∨ b = l) H v d
  | _, _, .non => .non
  | _, _, .bl b => .bl b
  | _, _, .int i => .int i
  | _, _, .str z => .str z
  | _, _, .lst nm e q => .lst (fun z => z.elim nm fun r => by rw [r, h] at e; cases e) e (DxAll.apart h q)
  | _, _, .tup nm e q => .tup (fun z => z.elim nm fun r => by rw [r, h] at e; cases e) e (DxAll.apart h q)
  | _, _, .dic nm e q => .dic (fun z => z.elim nm fun r => by rw [r, h] at e; cases e) e (DxKv.apart h q)
theorem DxAll.apart (h : H l = none) : ∀ {ds : List PyData} {vs : List V}, DxAll M H vs ds → DxAll (fun b => M b ∨ b = l) H vs ds
  | _, _, .nil => .nil
  | _, _, .cons h1 h2 => .cons (Dx.apart h h1) (DxAll.apart h h2)
theorem DxKv.apart (h : H l = none) : ∀ {es : List (PyData × PyData)} {kvs : List (Key × V)}, DxKv M H kvs es → DxKv (fun b => M b ∨ b = l) H kvs es
  | _, _, .nil => .nil
  | _, _, .cons h1 h2 => .cons (Dx.apart h h1) (DxKv.apart h h2)
end
end
theorem not_in_take {α : Type} : ∀ {l : List α} {i : Nat} {x : α}, l.Nodup → l[i]? = some x → x ∉ l.take i
  | [], i, x, _, h => by simp at h
  | a :: l, 0, x, _, _ => by simp
  | a :: l, i + 1, x, n, h => by
    rw [List.take_succ_cons]
    intro z
    have h' : l[i]? = some x := by simpa using h
    rcases List.mem_cons.mp z with z | z
    · subst z
      exact (List.nodup_cons.mp n).1 (List.mem_of_getElem? h')
    · exact not_in_take (List.nodup_cons.mp n).2 h' z
/-- how many there are at each place -/
def FewX : Nat → PyData → Prop
  | 0, _ => True
  | n + 1, d => (∀ ds, d = .list ds ∨ d = .tuple ds → ds.length ≤ 1000 ∧ ∀ e ∈ ds, FewX n e) ∧ ∀ es, d = .dict es → es.length ≤ 1000 ∧ (es.map (·.1)).Nodup ∧ ∀ e ∈ es, FewX n e.2
def spCopiedX (M : Addr → Prop) (n : Nat) : Sp := fun vs H Q _ => ∃ (v : V) (d : PyData), vs = [v] ∧ Dx M H v d ∧ d.depth ≤ n ∧ FewX n d ∧ (∀ b, M b → H b ≠ none) ∧ ∀ (v' : V) (H' : Hp), Dx M H' v' d → Same H H' → Q v' H'
/-- for all M at once -/
def spCopiedA (n : Nat) : Sp := fun vs H Q E => ∃ M, spCopiedX M n vs H Q E
def spBelowA : Nat → Sp
  | 0 => fun _ _ _ _ => False
  | n + 1 => spCopiedA n
theorem depthKv_mem : ∀ {es : List (PyData × PyData)} {e : PyData × PyData}, e ∈ es → e.2.depth ≤ PyData.depthKv es
  | a :: r, d, h => by
    simp only [PyData.depthKv]
    rcases List.mem_cons.mp h with rfl | h
    · omega
    · have := depthKv_mem h
      omega
section
variable {P : Program} {w : World} {K : PySem.W.Frag} {mg : Str → Option Value} {base : Heap}
theorem kit_not {T U : String} (h : kitB T U = some false) : PySem.W.kitOne K (.type T) (.type U) = some false := kit_ty h
theorem ok_copiedX {f : Addr} {fd : FuncData} (F : Fun K "copied" "copied" sCopied f fd) (T : Txt mg) (m : mg "copied" = some (.ref f)) (b : Binds K fd ["thing"] []) : ∀ n : Nat, FnOk P w K mg base CX0 (n + 1) f fd ["thing"] (spCopiedA n) := by
  have main : ∀ n : Nat, FnOk P w K mg base CX0 n f fd ["thing"] (spBelowA n) → FnOk P w K mg base CX0 (n + 1) f fd ["thing"] (spCopiedA n) := by
    intro n G
    refine F.ok scCo (fun vs H Q E h => ?_) (fun cdv A outer s H vs Q E hr h => ?_)
    · obtain ⟨M, v, d, rfl, _⟩ := h
      rfl
    · obtain ⟨M, v, d, rfl, hd, hn, hfew, hM, k⟩ := h
      have nd := scCo.nd
      have hu := hu_of hr
      have flat : ∀ {Ty : String}, TyX K H v (.type Ty) → Ty ∈ ["NoneType", "bool", "int", "str"] → ∃ t, PSs (cxOf CX0 P w K mg base ["thing", "rows", "key", "part", "parts"] "copied" (defScope sCopied) f cdv A outer s H E).nox (defBody sCopied) t ∧ t { nx := fun _ H' => Q .non H', rt := Q } (start ["thing", "rows", "key", "part", "parts"] [v]) H := by
        intro Ty hT hm
        refine ⟨_, pss_cons (ps_if (pt_val (pe_callB call_isi (by rfl) T.isinstance (by decide +kernel) (pa_cons (pv 0) (pa_cons (pe_bltn (v := V.ty "dict") (by rfl) T.dict (by decide +kernel) rfl) pa_nil)))) (pss_cons ps_never (pss_cons ps_never (pss_one ps_never))) pss_nil)
          (pss_cons (ps_if (pt_not (pt_val (pe_callB call_isiT (by rfl) T.isinstance (by decide +kernel) (pa_cons (pv 0) (pa_cons (pe_tup (pa_cons (pe_bltn (v := V.ty "list") (by rfl) T.list (by decide +kernel) rfl) (pa_cons (pe_bltn (v := V.ty "tuple") (by rfl) T.tuple (by decide +kernel) rfl) pa_nil))) pa_nil))))) (pss_one (ps_ret (pv 0))) pss_nil)
          (pss_cons ps_never (pss_cons ps_never (pss_one ps_never)))), ?_⟩
        have q1 : kitB Ty "dict" = some false ∧ kitB Ty "list" = some false ∧ kitB Ty "tuple" = some false := by
          simp only [List.mem_cons, List.not_mem_nil, or_false] at hm
          rcases hm with rfl | rfl | rfl | rfl <;> decide +kernel
        refine ⟨_, rfl, v, .ty "dict", .type Ty, .type "dict", false, rfl, .ty _, hT, kit_ty q1.1, false, rfl, iteF ?_⟩
        refine ⟨_, rfl, (by show 2 ≤ sizeLine; decide), fun tp htp => ?_⟩
        have s1 : Same H (upd H tp (.tup [.ty "list", .ty "tuple"])) := same_new (Same.refl _) htp
        have a1 : upd H tp (.tup [.ty "list", .ty "tuple"]) tp = some (.tup [.ty "list", .ty "tuple"]) := upd_same
        generalize upd H tp (.tup [.ty "list", .ty "tuple"]) = H1 at s1 a1 ⊢
        have hd1 := hd.mono (sameBut s1 _)
        have hT1 : TyX K H1 v (.type Ty) := by
          cases hT with
          | base b =>
            cases b with
            | non => exact .base .non
            | bl x => exact .base (.bl x)
            | int x => exact .base (.int x)
            | str x => exact .base (.str x)
            | lst e => simp at hm
            | frz e => simp at hm
            | tup e => simp at hm
            | dK e => simp at hm
            | dT e => simp at hm
            | flt x => simp at hm
          | byt x => simp at hm
          | set e => simp at hm
          | kList e c => simp at hm
          | kTuple e c => simp at hm
          | kDict e c => simp at hm
          | fTuple e => simp at hm
          | fDict e => simp at hm
        refine ⟨v, tp, _, .type Ty, [.type "list", .type "tuple"], false, rfl, a1, .cons (.ty _) (.cons (.ty _) .nil), hT1, kit_any (x := false) (y := false) (kit_ty q1.2.1) (kit_ty q1.2.2), false, rfl, iteT ?_⟩
        exact ⟨_, rfl, k v H1 hd1 s1⟩
      cases hd with
      | non => exact flat (.base .non) (by decide)
      | bl x => exact flat (.base (.bl x)) (by decide)
      | int x => exact flat (.base (.int x)) (by decide)
      | str x => exact flat (.base (.str x)) (by decide)
      | @lst a xs ds nM e hA =>
        clear flat
        refine ⟨_, pss_cons (ps_if (pt_val (pe_callB call_isi (by rfl) T.isinstance (by decide +kernel) (pa_cons (pv 0) (pa_cons (pe_bltn (v := V.ty "dict") (by rfl) T.dict (by decide +kernel) rfl) pa_nil)))) (pss_cons ps_never (pss_cons ps_never (pss_one ps_never))) pss_nil)
          (pss_cons (ps_if (pt_not (pt_val (pe_callB call_isiT (by rfl) T.isinstance (by decide +kernel) (pa_cons (pv 0) (pa_cons (pe_tup (pa_cons (pe_bltn (v := V.ty "list") (by rfl) T.list (by decide +kernel) rfl) (pa_cons (pe_bltn (v := V.ty "tuple") (by rfl) T.tuple (by decide +kernel) rfl) pa_nil))) pa_nil))))) (pss_one (ps_ret (pv 0))) pss_nil)
        (pss_cons (ps_set (i := 4) nd rfl (.inl rfl) (pe_lst pa_nil))
        (pss_cons (ps_for PassesOwn.never rfl (pi_list (pv 0)) (pg_name (i := 3) nd rfl (Or.inl rfl))
          (pss_one (ps_expr (pe_bm PySem.F.plainAttrs_list PySem.F.slot_list_append PySem.F.type_list_append mt_append (pv 4) (pa_cons (pe_call G hr (by rfl) m F.kp b .nil pass0 (pa_cons (pv 3) pa_nil)) pa_nil)))))
        (pss_one (ps_ret (pe_ifExp (pt_val (pe_callB call_isi (by rfl) T.isinstance (by decide +kernel) (pa_cons (pv 0) (pa_cons (pe_bltn (v := V.ty "list") (by rfl) T.list (by decide +kernel) rfl) pa_nil)))) (pv 4)
          (pe_callTy call_tuple_of (by rfl) T.tuple (by decide +kernel) (pa_cons (pv 4) pa_nil)))))))), ?_⟩
        have hT := TyX.base (K := K) (TyOf.lst e)
        refine ⟨_, rfl, .ref a, .ty "dict", .type "list", .type "dict", false, rfl, .ty _, hT, kit_ty (by decide +kernel), false, rfl, iteF ?_⟩
        refine ⟨_, rfl, (by show 2 ≤ sizeLine; decide), fun tp htp => ?_⟩
        have s1 : Same H (upd H tp (.tup [.ty "list", .ty "tuple"])) := same_new (Same.refl _) htp
        have a1 : upd H tp (.tup [.ty "list", .ty "tuple"]) tp = some (.tup [.ty "list", .ty "tuple"]) := upd_same
        generalize upd H tp (.tup [.ty "list", .ty "tuple"]) = H1 at s1 a1 ⊢
        have e1 := s1 _ _ e
        have hA1 := hA.mono (sameBut s1 _)
        have hM1 : ∀ b, M b → H1 b ≠ none := fun b mb z => hM b mb (s1.free z)
        refine ⟨.ref a, tp, _, .type "list", [.type "list", .type "tuple"], true, rfl, a1, .cons (.ty _) (.cons (.ty _) .nil), .base (.lst e1), kit_any (x := true) (y := false) (kit_ty (by decide +kernel)) (kit_ty (by decide +kernel)), true, rfl, iteF ?_⟩
        obtain ⟨n, rfl⟩ : ∃ n', n = n' + 1 := by
          cases n with
          | zero => simp [PyData.depth] at hn
          | succ n' => exact ⟨n', rfl⟩
        obtain ⟨hlen, hfe⟩ := hfew.1 ds (.inl rfl)
        have hdep : PyData.depthAll ds ≤ n := by
          simp only [PyData.depth] at hn
          omega
        refine ⟨Nat.zero_le _, fun l hl => ?_⟩
        have nMl : ¬ M l := fun z => hM1 l z hl
        refine ⟨_, rfl, a, rfl, ⟨xs, SqL.of (by rw [upd_ne (ne_of_none e1 hl)]; exact e1)⟩, for_list (K := K) (a := a) (xs := xs) (fun i σ' H' => ∃ (pw : Option V) (ys : List V), σ' = [some (.ref a), none, none, pw, some (.ref l)] ∧ H' l = some (.lst ys) ∧ DxAll (fun b => M b ∨ b = l) H' ys (ds.take i) ∧ Same H1 H') ?_ ?_ ?_ ?_⟩
        · exact ⟨none, [], rfl, upd_same, .nil, same_new (Same.refl _) hl⟩
        · rintro i σ' H' _ ⟨pw, ys, rfl, hL, hy, s⟩
          exact SqL.of (s _ _ e1)
        · rintro i x σ' H' hi ⟨pw, ys, rfl, hL, hy, s⟩
          obtain ⟨d, hdi, hdx⟩ := hA1.get i x hi
          have hdm := List.mem_of_getElem? hdi
          have hil : i < ds.length := (List.getElem?_eq_some_iff.mp hdi).1
          have hdl : Dx (fun b => M b ∨ b = l) H1 x d := hdx.apart hl
          refine ⟨_, rfl, .inl ⟨rfl, _, SqL.of hL⟩, _, rfl, _, x, d, rfl, hdl.mono (sameBut s _), Nat.le_trans (depthAll_mem hdm) hdep, hfe d hdm, fun b z q => z.elim (fun z => hM1 b z (s.free q)) (fun z => by rw [z, hL] at q; cases q), fun v' H2 hv s2 => ?_⟩
          refine ⟨l, _, _, rfl, rfl, s2 _ _ hL, small1000 (by rw [hy.length, List.length_take]; omega), ?_⟩
          have tt : But (fun b => M b ∨ b = l) H2 (upd H2 l (.lst (ys ++ [v']))) := (But.refl _ _).mut (.inr rfl)
          refine ⟨_, _, rfl, upd_same, ?_, same_mut (s.trans s2) hl⟩
          rw [List.take_add_one, hdi]
          exact ((hy.mono (sameBut s2 _)).app (.cons hv .nil)).mono tt
        · rintro σ' H' ⟨pw, ys, rfl, hL, hy, s⟩
          rw [hA1.length, List.take_length] at hy
          have hyM := hy.weak (N := M) fun b z => .inl z
          refine ⟨_, rfl, .ref a, .ty "list", .type "list", .type "list", true, rfl, .ty _, .base (.lst (s _ _ e1)), kit_ty (by decide +kernel), true, rfl, iteT ?_⟩
          exact ⟨_, rfl, k _ _ (.lst nMl hL hyM) (s1.trans s)⟩
      | @tup a xs ds nM e hA =>
        clear flat
        refine ⟨_, pss_cons (ps_if (pt_val (pe_callB call_isi (by rfl) T.isinstance (by decide +kernel) (pa_cons (pv 0) (pa_cons (pe_bltn (v := V.ty "dict") (by rfl) T.dict (by decide +kernel) rfl) pa_nil)))) (pss_cons ps_never (pss_cons ps_never (pss_one ps_never))) pss_nil)
          (pss_cons (ps_if (pt_not (pt_val (pe_callB call_isiT (by rfl) T.isinstance (by decide +kernel) (pa_cons (pv 0) (pa_cons (pe_tup (pa_cons (pe_bltn (v := V.ty "list") (by rfl) T.list (by decide +kernel) rfl) (pa_cons (pe_bltn (v := V.ty "tuple") (by rfl) T.tuple (by decide +kernel) rfl) pa_nil))) pa_nil))))) (pss_one (ps_ret (pv 0))) pss_nil)
        (pss_cons (ps_set (i := 4) nd rfl (.inl rfl) (pe_lst pa_nil))
        (pss_cons (ps_for PassesOwn.never rfl (pi_tup (pv 0)) (pg_name (i := 3) nd rfl (Or.inl rfl))
          (pss_one (ps_expr (pe_bm PySem.F.plainAttrs_list PySem.F.slot_list_append PySem.F.type_list_append mt_append (pv 4) (pa_cons (pe_call G hr (by rfl) m F.kp b .nil pass0 (pa_cons (pv 3) pa_nil)) pa_nil)))))
        (pss_one (ps_ret (pe_ifExp (pt_val (pe_callB call_isi (by rfl) T.isinstance (by decide +kernel) (pa_cons (pv 0) (pa_cons (pe_bltn (v := V.ty "list") (by rfl) T.list (by decide +kernel) rfl) pa_nil)))) (pv 4)
          (pe_callTy call_tuple_of (by rfl) T.tuple (by decide +kernel) (pa_cons (pv 4) pa_nil)))))))), ?_⟩
        have hT := TyX.base (K := K) (TyOf.tup e)
        refine ⟨_, rfl, .ref a, .ty "dict", .type "tuple", .type "dict", false, rfl, .ty _, hT, kit_ty (by decide +kernel), false, rfl, iteF ?_⟩
        refine ⟨_, rfl, (by show 2 ≤ sizeLine; decide), fun tp htp => ?_⟩
        have s1 : Same H (upd H tp (.tup [.ty "list", .ty "tuple"])) := same_new (Same.refl _) htp
        have a1 : upd H tp (.tup [.ty "list", .ty "tuple"]) tp = some (.tup [.ty "list", .ty "tuple"]) := upd_same
        generalize upd H tp (.tup [.ty "list", .ty "tuple"]) = H1 at s1 a1 ⊢
        have e1 := s1 _ _ e
        have hA1 := hA.mono (sameBut s1 _)
        have hM1 : ∀ b, M b → H1 b ≠ none := fun b mb z => hM b mb (s1.free z)
        refine ⟨.ref a, tp, _, .type "tuple", [.type "list", .type "tuple"], true, rfl, a1, .cons (.ty _) (.cons (.ty _) .nil), .base (.tup e1), kit_any (x := false) (y := true) (kit_ty (by decide +kernel)) (kit_ty (by decide +kernel)), true, rfl, iteF ?_⟩
        obtain ⟨n, rfl⟩ : ∃ n', n = n' + 1 := by
          cases n with
          | zero => simp [PyData.depth] at hn
          | succ n' => exact ⟨n', rfl⟩
        obtain ⟨hlen, hfe⟩ := hfew.1 ds (.inr rfl)
        have hdep : PyData.depthAll ds ≤ n := by
          simp only [PyData.depth] at hn
          omega
        refine ⟨Nat.zero_le _, fun l hl => ?_⟩
        have nMl : ¬ M l := fun z => hM1 l z hl
        refine ⟨_, rfl, a, rfl, ⟨xs, SqT.of (by rw [upd_ne (ne_of_none e1 hl)]; exact e1)⟩, for_tup (K := K) (a := a) (xs := xs) (fun i σ' H' => ∃ (pw : Option V) (ys : List V), σ' = [some (.ref a), none, none, pw, some (.ref l)] ∧ H' l = some (.lst ys) ∧ DxAll (fun b => M b ∨ b = l) H' ys (ds.take i) ∧ Same H1 H') ?_ ?_ ?_ ?_⟩
        · exact ⟨none, [], rfl, upd_same, .nil, same_new (Same.refl _) hl⟩
        · rintro i σ' H' _ ⟨pw, ys, rfl, hL, hy, s⟩
          exact SqT.of (s _ _ e1)
        · rintro i x σ' H' hi ⟨pw, ys, rfl, hL, hy, s⟩
          obtain ⟨d, hdi, hdx⟩ := hA1.get i x hi
          have hdm := List.mem_of_getElem? hdi
          have hil : i < ds.length := (List.getElem?_eq_some_iff.mp hdi).1
          have hdl : Dx (fun b => M b ∨ b = l) H1 x d := hdx.apart hl
          refine ⟨_, rfl, .inl ⟨rfl, _, SqL.of hL⟩, _, rfl, _, x, d, rfl, hdl.mono (sameBut s _), Nat.le_trans (depthAll_mem hdm) hdep, hfe d hdm, fun b z q => z.elim (fun z => hM1 b z (s.free q)) (fun z => by rw [z, hL] at q; cases q), fun v' H2 hv s2 => ?_⟩
          refine ⟨l, _, _, rfl, rfl, s2 _ _ hL, small1000 (by rw [hy.length, List.length_take]; omega), ?_⟩
          have tt : But (fun b => M b ∨ b = l) H2 (upd H2 l (.lst (ys ++ [v']))) := (But.refl _ _).mut (.inr rfl)
          refine ⟨_, _, rfl, upd_same, ?_, same_mut (s.trans s2) hl⟩
          rw [List.take_add_one, hdi]
          exact ((hy.mono (sameBut s2 _)).app (.cons hv .nil)).mono tt
        · rintro σ' H' ⟨pw, ys, rfl, hL, hy, s⟩
          rw [hA1.length, List.take_length] at hy
          have hyM := hy.weak (N := M) fun b z => .inl z
          refine ⟨_, rfl, .ref a, .ty "list", .type "tuple", .type "list", false, rfl, .ty _, .base (.tup (s _ _ e1)), kit_ty (by decide +kernel), false, rfl, iteF ?_⟩
          refine ⟨_, rfl, l, _, rfl, .inl ⟨SqL.of hL, fun t ht => ?_⟩⟩
          exact k _ _ (.tup (fun z => hM1 t z (s.free ht)) upd_same (hyM.mono ((But.refl _ _).new ht))) (same_new (s1.trans s) ht)
      | @dic a kvs es nM e hA =>
        clear flat
        refine ⟨_, pss_cons (ps_if (pt_val (pe_callB call_isi (by rfl) T.isinstance (by decide +kernel) (pa_cons (pv 0) (pa_cons (pe_bltn (v := V.ty "dict") (by rfl) T.dict (by decide +kernel) rfl) pa_nil))))
          (pss_cons (ps_set (i := 1) nd rfl (.inl rfl) pe_dnewK)
          (pss_cons (ps_lock (ps_for PassesOwn.never rfl (pi_items (pv 0)) (pg_tup rfl (pgs_cons (pg_name (i := 2) nd rfl (Or.inl rfl)) (pgs_cons (pg_name (i := 3) nd rfl (Or.inl rfl)) pgs_nil)))
            (pss_one (ps_dput hu (pv 1) (pv 2) (pe_call G hr (by rfl) m F.kp b .nil pass0 (pa_cons (pv 3) pa_nil)) rfl))))
          (pss_one (ps_ret (pv 1))))) pss_nil)
          (pss_cons ps_never (pss_cons ps_never (pss_cons ps_never (pss_one ps_never)))), ?_⟩
        refine ⟨_, rfl, .ref a, .ty "dict", .type "dict", .type "dict", true, rfl, .ty _, .base (.dK e), kit_ty (by decide +kernel), true, rfl, iteT ?_⟩
        obtain ⟨n, rfl⟩ : ∃ n', n = n' + 1 := by
          cases n with
          | zero => simp [PyData.depth] at hn
          | succ n' => exact ⟨n', rfl⟩
        obtain ⟨hlen, hnd, hfe⟩ := hfew.2 es rfl
        have hdep : PyData.depthKv es ≤ n := by
          simp only [PyData.depth] at hn
          omega
        have hA0 : DxKv (fun b => M b ∨ b = a) H kvs es := hA.away (a := a) (n := PyData.depthKv es) (fun d' z => by
          rw [z.det (.dic nM e hA)]
          simp only [PyData.depth]
          omega) (Nat.le_refl _)
        have knd : (kvs.map (·.1)).Nodup := by
          rw [hA.keys] at hnd
          have z := List.pairwise_map.mp hnd
          exact List.pairwise_map.mpr (z.imp fun q r => q (congrArg keyD r))
        intro l hl
        have nla : l ≠ a := fun z => by rw [z, e] at hl; cases hl
        have nMl : ¬ M l := fun z => hM l z hl
        have hA1 := hA0.apart hl
        refine ⟨a, .dK kvs, (by rw [upd_ne nla.symm]; exact e), trivial, fun od => ?_⟩
        have b0 : But (· = a) H (upd (upd H l (.dK [])) a (.frz od (.dK kvs))) := ((But.refl _ _).new hl).mut rfl
        have l0 : upd (upd H l (.dK [])) a (.frz od (.dK kvs)) l = some (.dK []) := by rw [upd_ne nla, upd_same]
        have a0 : upd (upd H l (.dK [])) a (.frz od (.dK kvs)) a = some (.frz od (.dK kvs)) := upd_same
        generalize upd (upd H l (.dK [])) a (.frz od (.dK kvs)) = H1 at b0 l0 a0 ⊢
        refine ⟨_, rfl, a, od, kvs, rfl, a0, for_it walk_items (fun i σ' H' => ∃ (kw pw : Option V) (rs : List (Key × V)), σ' = [some (.ref a), some (.ref l), kw, pw, none] ∧ H' l = some (.dK rs) ∧ rs.map (·.1) = (kvs.map (·.1)).take i ∧
            DxKv (fun b => (M b ∨ b = a) ∨ b = l) H' rs (es.take i) ∧ But (· = a) H H' ∧ H' a = some (.frz od (.dK kvs))) ?_ ?_ ?_ ?_⟩
        · exact ⟨none, none, [], rfl, l0, rfl, .nil, b0, a0⟩
        · rintro i σ' H' _ ⟨kw, pw, rs, rfl, z1, z2, z3, z4, z5⟩
          exact z5
        · rintro i _ σ' H' _ hi ⟨kw, pw, rs, rfl, z1, z2, z3, z4, z5⟩ ⟨Tp, kx, vx, rfl, hT, rfl, hk, hv⟩
          obtain ⟨⟨kk, vv⟩, hkv⟩ : ∃ q, kvs[i]? = some q := ⟨_, List.getElem?_eq_getElem hi⟩
          simp only [hkv, Option.map_some, Option.some.injEq] at hk hv
          subst hk hv
          obtain ⟨d, hdi, hdx⟩ := hA1.get i kk vv hkv
          have hdm := List.mem_of_getElem? hdi
          have b1 : But (· = a) H (upd H' Tp (.tup [kV kk, vv])) := z4.new hT
          have l1 : upd H' Tp (.tup [kV kk, vv]) l = some (.dK rs) := by rw [upd_ne (ne_of_none z1 hT)]; exact z1
          have a1 : upd H' Tp (.tup [kV kk, vv]) a = some (.frz od (.dK kvs)) := by rw [upd_ne (ne_of_none z5 hT)]; exact z5
          have t1 : upd H' Tp (.tup [kV kk, vv]) Tp = some (.tup [kV kk, vv]) := upd_same
          have r1 : DxKv (fun b => (M b ∨ b = a) ∨ b = l) (upd H' Tp (.tup [kV kk, vv])) rs (es.take i) := z3.mono ((But.refl _ _).new hT)
          generalize upd H' Tp (.tup [kV kk, vv]) = H2 at b1 l1 a1 t1 r1 ⊢
          have hne : ∀ b, (M b ∨ b = a) ∨ b = l → H2 b ≠ none := fun b z q => by
            rcases z with (z | z) | z
            · by_cases hba : b = a
              · rw [hba, a1] at q
                cases q
              · cases y : H b with
                | none => exact hM b z y
                | some u =>
                  rw [b1 b u hba y] at q
                  cases q
            · rw [z, a1] at q
              cases q
            · rw [z, l1] at q
              cases q
          refine ⟨Tp, _, rfl, SqT.of t1, rfl, _, _, rfl, _, _, rfl, rfl, ?_⟩
          refine ⟨_, rfl, _, vv, d, rfl, hdx.mono (b1.mono fun b z => .inl (.inr z)), Nat.le_trans (depthKv_mem hdm) hdep, hfe _ hdm, hne, fun v' H3 hv3 s3 => ?_⟩
          have fresh : kk ∉ rs.map (·.1) := by
            rw [z2]
            exact not_in_take knd (by rw [List.getElem?_map, hkv]; rfl)
          have rl : rs.length ≤ 1000 := by
            rw [r1.length, List.length_take]
            omega
          refine ⟨_, rfl, _, rfl, l, _, rfl, DPut.k (k := kk) (s3 _ _ l1) (small1000 rl), ?_⟩
          rw [put_new fresh]
          refine ⟨_, _, _, rfl, upd_same, ?_, ?_, (b1.trans (sameBut s3 _)).mutNew hl, ?_⟩
          · rw [List.map_append, z2, List.take_add_one, List.getElem?_map, hkv]
            rfl
          · rw [List.take_add_one, hdi]
            exact ((r1.mono (sameBut s3 _)).app (.cons hv3 .nil)).mono ((But.refl _ _).mut (.inr rfl))
          · rw [upd_ne nla.symm]
            exact s3 _ _ a1
        · rintro σ' H' ⟨kw, pw, rs, rfl, z1, z2, z3, z4, z5⟩
          rw [hA.length, List.take_length] at z3
          refine ⟨z5, _, rfl, ?_⟩
          have e2 : upd H' a (.dK kvs) l = some (.dK rs) := by rw [upd_ne nla]; exact z1
          refine k _ _ (.dic nMl e2 ((z3.weak (N := fun b => M b ∨ b = a) fun b z => .inl z).mono ((But.refl _ _).mut (.inr rfl)) |>.weak fun b z => .inl z)) (fun b u z => ?_)
          by_cases hba : b = a
          · subst hba
            rw [e] at z
            cases z
            exact upd_same
          · rw [upd_ne hba]
            exact z4 b u hba z
  intro n
  induction n with
  | zero => exact main 0 ⟨fun vs H Q E h => h.elim, fun A outer s H args us vs Q E _ _ _ _ h => h.elim⟩
  | succ n ih => exact main (n + 1) ih
end
end K3
namespace K3
open PySem L2
/-! ### texts by their codes -/
def tx (l : List Nat) : Str := ⟨l.toArray⟩
theorem tx_toList (l : List Nat) : (tx l).cps.toList = l := rfl
theorem tx_len (l : List Nat) : (tx l).length = l.length := by
  show l.toArray.size = l.length
  simp
theorem tx_of (z : Str) : z = tx z.cps.toList := by
  cases z
  simp [tx]
theorem tx_inj {a b : List Nat} (h : tx a = tx b) : a = b := by
  have e := congrArg (fun z : Str => z.cps.toList) h
  exact e
theorem tx_app (a b : List Nat) : tx a ++ tx b = tx (a ++ b) := by
  show (⟨a.toArray ++ b.toArray⟩ : Str) = ⟨(a ++ b).toArray⟩
  simp
theorem glue_nil : ∀ (r : List Nat) (a : Array Nat), (r.map fun c => tx [c]).foldl (fun acc p => acc ++ (#[] : Array Nat) ++ p.cps) a = a ++ r.toArray
  | [], a => by simp
  | c :: r, a => by
    rw [List.map_cons, List.foldl_cons, glue_nil r]
    show a ++ #[] ++ [c].toArray ++ r.toArray = a ++ (c :: r).toArray
    apply Array.ext'
    simp
theorem join_tx (acc : List Nat) : Txt.join "" (acc.map fun c => tx [c]) = tx acc := by
  cases acc with
  | nil => decide +kernel
  | cons c r =>
    show (⟨((r.map fun c => tx [c])).foldl (fun acc p => acc ++ (Str.ofString "").cps ++ p.cps) (tx [c]).cps⟩ : Str) = tx (c :: r)
    have e : (Str.ofString "").cps = #[] := by decide +kernel
    rw [e, glue_nil]
    show (⟨[c].toArray ++ r.toArray⟩ : Str) = ⟨(c :: r).toArray⟩
    simp
theorem cut_from (l : List Nat) (i : Int) (h0 : 0 ≤ i) : cutS (tx l) (some i) none = tx (l.drop i.toNat) := by
  have e : ((i.toNat : Nat) : Int) = i := Int.toNat_of_nonneg h0
  have e1 : HT.sIx (tx l).length 0 (some ((i.toNat : Nat) : Int)) = min i.toNat l.length := by rw [HT.sIx_nat, tx_len]
  rw [e] at e1
  have e2 : HT.sIx (tx l).length (tx l).length none = l.length := tx_len l
  unfold cutS
  rw [e1, e2, tx_toList]
  show tx _ = _
  congr 1
  by_cases hh : i.toNat ≤ l.length
  · rw [Nat.min_eq_left hh]
    apply List.take_of_length_le
    rw [List.length_drop]
    omega
  · rw [Nat.min_eq_right (by omega), List.drop_eq_nil_of_le (Nat.le_refl _), List.drop_eq_nil_of_le (by omega)]
    simp
theorem cut_to (l : List Nat) (i : Int) (h0 : 0 ≤ i) : cutS (tx l) none (some i) = tx (l.take i.toNat) := by
  have e : ((i.toNat : Nat) : Int) = i := Int.toNat_of_nonneg h0
  have e1 : HT.sIx (tx l).length (tx l).length (some ((i.toNat : Nat) : Int)) = min i.toNat l.length := by rw [HT.sIx_nat, tx_len]
  rw [e] at e1
  have e2 : HT.sIx (tx l).length 0 none = 0 := rfl
  unfold cutS
  rw [e1, e2, tx_toList]
  show tx _ = _
  congr 1
  rw [List.drop_zero, Nat.sub_zero]
  by_cases hh : i.toNat ≤ l.length
  · rw [Nat.min_eq_left hh]
  · rw [Nat.min_eq_right (by omega), List.take_of_length_le (Nat.le_refl _), List.take_of_length_le (by omega)]
/-! ### the words -/
/-- words that are unlike at one place -/
structure Wd where
  pre : List Nat
  sg : Nat → Nat
  tl : Nat → List Nat
def Wd.at (W : Wd) (k : Nat) : Str := tx (W.pre ++ W.sg k :: W.tl k)
structure Wd.Ok (W : Wd) : Prop where
  inj : ∀ j k, j < 26 → k < 26 → W.sg j = W.sg k → j = k
  low : ∀ k, k < 26 → ∀ x ∈ W.pre ++ W.sg k :: W.tl k, 97 ≤ x ∧ x < 123
  len : ∀ k, (W.pre ++ W.sg k :: W.tl k).length ≤ 8
theorem Wd.Ok.unlike {W : Wd} (h : W.Ok) {j k : Nat} (hj : j < 26) (hk : k < 26) (e : W.at j = W.at k) : j = k := by
  have e1 := tx_inj e
  have e2 : (W.pre ++ W.sg j :: W.tl j)[W.pre.length]? = (W.pre ++ W.sg k :: W.tl k)[W.pre.length]? := by rw [e1]
  simp at e2
  exact h.inj j k hj hk e2
def Wd.list (W : Wd) (m : Nat) : List V := (List.range m).map fun k => V.str (W.at k)
theorem sum_one : ∀ acc : List Nat, ((acc.map fun c => tx [c]).map (fun x => x.length)).sum = acc.length
  | [] => rfl
  | c :: r => by
    rw [List.map_cons, List.map_cons, List.sum_cons, sum_one r, List.length_cons, tx_len]
    simp
    omega
theorem map_str (acc : List Nat) : (acc.map fun c => V.str (tx [c])) = (acc.map fun c => tx [c]).map V.str := by
  rw [List.map_map]
  rfl
/-- the words that a draw gives: base b, place a, first sign i, step q, cut j -/
def tails (T : List Nat) : List (List Nat) := [T, T.take 2, []]
def Wd.of (b : List Nat) (a i q j : Int) : Wd where
  pre := b.take a.toNat
  sg := fun k => 97 + ((i + q * (k : Int)).fmod 26).toNat
  tl := fun k => (tails (b.drop (a + 1).toNat)).getD (j * ((k : Int).fmod 3)).toNat []
theorem tails_len (T : List Nat) (x : Nat) : ((tails T).getD x []).length ≤ T.length := by
  unfold tails
  match x with
  | 0 => exact Nat.le_refl _
  | 1 => simp; omega
  | 2 => simp
  | n + 3 => simp
theorem tails_mem (T : List Nat) (x : Nat) : ∀ y ∈ (tails T).getD x [], y ∈ T := by
  unfold tails
  match x with
  | 0 => exact fun y h => h
  | 1 => exact fun y h => List.mem_of_mem_take h
  | 2 => exact fun y h => absurd h (by simp)
  | n + 3 => exact fun y h => absurd h (by simp)
theorem tails_two (T : List Nat) (x : Nat) : (tails T).getD x [] = T ∨ ((tails T).getD x []).length ≤ 2 := by
  unfold tails
  match x with
  | 0 => exact .inl rfl
  | 1 => exact .inr (by simp; omega)
  | 2 => exact .inr (by simp)
  | n + 3 => exact .inr (by simp)
theorem Wd.of_ok {b : List Nat} {a i q j : Int} (hb : b.length ≤ 8) (hl : ∀ x ∈ b, 97 ≤ x ∧ x < 123) (a0 : 0 ≤ a) (a1 : a < (b.length : Int)) (i0 : 0 ≤ i) (i1 : i < 26)
    (hq : q ∈ ([1, 3, 5, 7, 9, 11, 15, 17, 19, 21, 23, 25] : List Int)) : (Wd.of b a i q j).Ok := by
  have m0 : ∀ x : Int, 0 ≤ x.fmod 26 ∧ x.fmod 26 < 26 := fun x => ⟨Int.fmod_nonneg_of_pos _ (by decide), Int.fmod_lt_of_pos _ (by decide)⟩
  refine ⟨fun x y hx hy e => ?_, fun x hx y hy => ?_, fun x => ?_⟩
  · have e1 : 97 + ((i + q * (x : Int)).fmod 26).toNat = 97 + ((i + q * (y : Int)).fmod 26).toNat := e
    have h1 := m0 (i + q * (x : Int))
    have h2 := m0 (i + q * (y : Int))
    have e2 : (i + q * (x : Int)).fmod 26 = (i + q * (y : Int)).fmod 26 := by omega
    rw [Int.fmod_eq_emod_of_nonneg _ (by decide), Int.fmod_eq_emod_of_nonneg _ (by decide)] at e2
    simp only [List.mem_cons, List.not_mem_nil, or_false] at hq
    rcases hq with rfl | rfl | rfl | rfl | rfl | rfl | rfl | rfl | rfl | rfl | rfl | rfl <;> omega
  · have h1 := m0 (i + q * (x : Int))
    rcases List.mem_append.mp hy with z | z
    · exact hl y (List.mem_of_mem_take z)
    · rcases List.mem_cons.mp z with z | z
      · have e : y = 97 + ((i + q * (x : Int)).fmod 26).toNat := z
        omega
      · exact hl y (List.mem_of_mem_drop (tails_mem _ _ y z))
  · have h1 := tails_len (b.drop (a + 1).toNat) (j * ((x : Int).fmod 3)).toNat
    show (b.take a.toNat ++ _ :: (tails (b.drop (a + 1).toNat)).getD (j * ((x : Int).fmod 3)).toNat []).length ≤ 8
    rw [List.length_append, List.length_cons, List.length_take]
    rw [List.length_drop] at h1
    omega
theorem Wd.of_two (b : List Nat) (a i q j : Int) (k : Nat) : (Wd.of b a i q j).tl k = (Wd.of b a i q j).tl 0 ∨ ((Wd.of b a i q j).tl k).length ≤ 2 := by
  have e0 : (Wd.of b a i q j).tl 0 = b.drop (a + 1).toNat := by
    show (tails (b.drop (a + 1).toNat)).getD (j * (((0 : Nat) : Int).fmod 3)).toNat [] = _
    have : j * (((0 : Nat) : Int).fmod 3) = 0 := by simp
    rw [this]
    rfl
  rw [e0]
  exact tails_two _ _
abbrev notes : List Nat := (Str.ofString "abcdefghijklmnopqrstuvwxyz").cps.toList
theorem notes_eq : notes = (List.range 26).map (97 + ·) := by decide +kernel
theorem notes_tx : (Str.ofString "abcdefghijklmnopqrstuvwxyz") = tx notes := tx_of _
theorem notes_low {x : Nat} (h : x ∈ notes) : 97 ≤ x ∧ x < 123 := by
  rw [notes_eq] at h
  obtain ⟨k, hk, rfl⟩ := List.mem_map.mp h
  have := List.mem_range.mp hk
  omega
theorem notes_at {i : Nat} (h : i < 26) : notes[i]? = some (97 + i) := by
  rw [notes_eq, List.getElem?_map, List.getElem?_range h]
  rfl
theorem notes_menu (H : Hp) : Menu H (.str (tx notes)) (signs (tx notes)) := by
  refine ⟨?_, ?_, .inr ⟨_, rfl, rfl⟩⟩
  · rw [signs_len, tx_len]; decide +kernel
  · rw [signs_len, tx_len]; decide +kernel
theorem mem_signs {v : V} {l : List Nat} (h : v ∈ signs (tx l)) : ∃ c, c ∈ l ∧ v = .str (tx [c]) := by
  obtain ⟨c, hc, e⟩ := List.mem_map.mp h
  exact ⟨c, hc, e.symm⟩
end K3
namespace K3
open PySem L2
abbrev sWords : Stmt := top 14
def spWords : Sp := fun vs H Q _ => ∃ (p c : Addr) (ns : List Int) (n m : Nat), vs = [.ref p, .int m] ∧ Pen H p c ns n ∧ n + 20 ≤ 1000000000 ∧ m ≤ 26 ∧
  ∀ (l : Addr) (W : Wd) (H' : Hp), H l = none → W.Ok → (∀ k, W.tl k = W.tl 0 ∨ (W.tl k).length ≤ 2) → H' l = some (.lst (W.list m)) → Pen H' p c ns (n + 20) → But (· = p) H H' → Q (.ref l) H'
theorem scW : FnScope ["_law_pen_here", "_law_many", "_law_notes", "_law_k", "_law_base", "_law_at", "_law_first", "_law_cut", "_law_step", "_law_tails", "_law_found", "_law_sign"] ["_law_pen_here", "_law_many"] (defScope sWords) := ⟨rfl, rfl, rfl, by decide +kernel, rfl, by decide +kernel, by decide +kernel⟩
section
variable {P : Program} {w : World} {K : PySem.W.Frag} {mg : Str → Option Value} {base : Heap}
theorem ok_words {f : Addr} {fd : FuncData} (F : Fun K "_law_words" "_law_words" sWords f fd) (T : Txt mg) (CD : Cal P w K mg base "_law_draw" 1 ["_law_pen_here", "_law_many"] spDraw)
    (CP : Cal P w K mg base "_law_pick" 2 ["_law_pen_here", "_law_some"] spPick) : FnOk P w K mg base CX0 3 f fd ["_law_pen_here", "_law_many"] spWords := by
  obtain ⟨fD, fdD, mD, kD, bD, GD⟩ := CD
  obtain ⟨fP, fdP, mP, kP, bP, GP⟩ := CP
  refine F.ok scW (fun vs H Q E h => ?_) (fun cdv A outer s H vs Q E hr h => ?_)
  · obtain ⟨p, c, ns, n, m, rfl, _⟩ := h
    rfl
  · obtain ⟨p, c, ns, n, m, rfl, hP, hn, hm, k⟩ := h
    have hr1 : Room 1 _ := hr.mono (by decide)
    refine ⟨_, pss_cons (ps_set (i := 2) scW.nd rfl (.inr rfl) pe_str)
      (C8.pss_cut (ps_set (i := 4) scW.nd rfl (.inl rfl) (pe_join pe_str (pe_lc (own := [("_law_k", 3)]) (g := gName 3) (tt := tYes) rfl scW.nd
          (pi_range1 rfl T.range (pa_cons (pe_op op_add pe_int (pe_call GD hr1 (by rfl) mD kD bD .nil pass0 (pa_cons (pv 0) (pa_cons pe_int pa_nil)))) pa_nil))
          (blkOk_by (N := ["_law_pen_here", "_law_many", "_law_notes", "_law_k", "_law_base", "_law_at", "_law_first", "_law_cut", "_law_step", "_law_tails", "_law_found", "_law_sign"]) (sc := defScope sWords) (by decide +kernel))
          (fun _ _ _ _ _ => pg_name (i := 3) scW.nd rfl (Or.inl rfl)) (fun _ _ _ _ _ => pts_nil)
          (fun _ _ _ _ _ => pe_call GP hr (by rfl) mP kP bP .nil pass0 (pa_cons (pv 0) (pa_cons (pv 2) pa_nil))))))
      (C8.pss_cut (ps_par3 (i := 5) (j := 6) (l := 7) rfl scW.nd rfl rfl rfl (by decide) (by decide) (by decide) rfl rfl rfl
          (pa_cons (pe_call GD hr1 (by rfl) mD kD bD .nil pass0 (pa_cons (pv 0) (pa_cons (pe_callB call_len_str (by rfl) T.len PySem.boot_len (pa_cons (pv 4) pa_nil)) pa_nil)))
            (pa_cons (pe_call GD hr1 (by rfl) mD kD bD .nil pass0 (pa_cons (pv 0) (pa_cons pe_int pa_nil)))
            (pa_cons (pe_call GD hr1 (by rfl) mD kD bD .nil pass0 (pa_cons (pv 0) (pa_cons pe_int pa_nil))) pa_nil))) rfl)
      (C8.pss_cut (ps_set (i := 8) scW.nd rfl (.inl rfl) (pe_call GP hr (by rfl) mP kP bP .nil pass0 (pa_cons (pv 0) (pa_cons (pe_lst (pa_cons pe_int (pa_cons pe_int (pa_cons pe_int (pa_cons pe_int (pa_cons pe_int (pa_cons pe_int (pa_cons pe_int (pa_cons pe_int (pa_cons pe_int (pa_cons pe_int (pa_cons pe_int (pa_cons pe_int pa_nil))))))))))))) pa_nil))))
      (C8.pss_cut (ps_set (i := 9) scW.nd rfl (.inl rfl) (pe_lst (pa_cons (pe_slice sl_str (pv 4) (po_some (pe_op op_add (pv 5) pe_int)) po_none) (pa_cons (pe_slice sl_str (pe_slice sl_str (pv 4) (po_some (pe_op op_add (pv 5) pe_int)) po_none) po_none (po_some pe_int)) (pa_cons pe_str pa_nil)))))
      (C8.pss_cut (ps_set (i := 10) scW.nd rfl (.inl rfl) (pe_lst pa_nil))
      (C8.pss_cut (ps_for PassesOwn.never rfl (pi_range1 rfl T.range (pa_cons (pv 1) pa_nil)) (pg_name (i := 3) scW.nd rfl (Or.inl rfl))
        (pss_cons (ps_set (i := 11) scW.nd rfl (.inl rfl) (pe_ix ix_str (pv 2) (pe_op op_modN (pe_op op_add (pv 6) (pe_op op_mul (pv 8) (pv 3))) pe_int) (fun _ _ => rfl)))
        (pss_one (ps_expr (pe_bm PySem.F.plainAttrs_list PySem.F.slot_list_append PySem.F.type_list_append mt_append (pv 10)
          (pa_cons (pe_op op_add_str (pe_op op_add_str (pe_slice sl_str (pv 4) po_none (po_some (pv 5))) (pv 11)) (pe_ix ix_list (pv 9) (pe_op op_mul (pv 7) (pe_op op_modN (pv 3) pe_int)) (fun _ _ => rfl))) pa_nil))))))
      (pss_one (ps_ret (pv 10))))))))), ?_⟩
    refine ⟨fun σ' H' => ∃ b : List Nat, 1 ≤ b.length ∧ b.length ≤ 8 ∧ (∀ x ∈ b, 97 ≤ x ∧ x < 123) ∧ σ' = [some (.ref p), some (.int m), some (.str (tx notes)), none, some (.str (tx b)), none, none, none, none, none, none, none] ∧ Pen H' p c ns (n + 9) ∧ But (· = p) H H', ?_, ?_⟩
    · refine ⟨⟨_, rfl⟩, _, rfl, p, c, ns, n, 8, rfl, hP, by omega, by decide, by decide, fun r H1 r0 r1 hP1 b1 => ?_⟩
      refine ⟨_, _, rfl, rfl, _, rfl, ?_⟩
      refine ⟨by omega, by omega, fun D hD => ?_⟩
      have nD := hP1.fresh hD
      refine lc_range (lo := 0) (n := (1 + r).toNat) (fun i H' => ∃ acc : List Nat, acc.length = i ∧ (∀ x ∈ acc, 97 ≤ x ∧ x < 123) ∧ H' D = some (.lst (acc.map fun c => V.str (tx [c]))) ∧ Pen H' p c ns (n + 1 + i) ∧ But (· = p) H H') ?_ ?_ ?_
      · exact ⟨[], rfl, fun x hx => absurd hx (by simp), upd_same, hP1.new hD, b1.new hD⟩
      · rintro i H2 hi ⟨acc, ha, hl, hDa, hP2, b2⟩
        refine ⟨rfl, _, rfl, _, rfl, p, c, ns, n + 1 + i, _, _, rfl, hP2, by omega, notes_menu H2, fun v H3 hv hP3 b3 => ?_⟩
        obtain ⟨x, hx, rfl⟩ := mem_signs hv
        refine ⟨_, b3 _ _ (hP2.ne hDa) hDa, ?_, acc ++ [x], ?_, ?_, ?_, ?_, ?_⟩
        · rw [List.length_map]
          exact small1000 (by omega)
        · rw [List.length_append, List.length_singleton]; omega
        · intro y hy
          rcases List.mem_append.mp hy with q | q
          · exact hl y q
          · rw [List.mem_singleton.mp q]; exact notes_low hx
        · rw [upd_same, List.map_append]
          rfl
        · exact hP3.mut nD.1 nD.2
        · exact (b2.trans b3).mutNew (b1.free hD nD.1)
      · rintro H2 ⟨acc, ha, hl, hDa, hP2, b2⟩
        refine ⟨_, D, acc.map fun c => tx [c], rfl, rfl, .inl (by rw [← map_str]; exact SqL.of hDa), ?_, ?_⟩
        · rw [sum_one, List.length_map]
          show acc.length + acc.length * 0 ≤ _
          omega
        · rw [join_tx]
          exact ⟨acc, by omega, by omega, hl, rfl, hP2.mono (by omega), b2⟩
    rintro σ1 H1 ⟨b, hb1, hb8, hbl, rfl, hP1, b1⟩
    -- at, first, cut
    refine ⟨fun σ' H' => ∃ a i j : Int, 0 ≤ a ∧ a < (b.length : Int) ∧ 0 ≤ i ∧ i < 26 ∧ 0 ≤ j ∧ j < 2 ∧ σ' = [some (.ref p), some (.int m), some (.str (tx notes)), none, some (.str (tx b)), some (.int a), some (.int i), some (.int j), none, none, none, none] ∧ Pen H' p c ns (n + 12) ∧ But (· = p) H H', ?_, ?_⟩
    · refine ⟨_, rfl, _, rfl, _, rfl, by rw [tx_len]; exact Nat.le_trans hb8 (by decide), p, c, ns, n + 9, _, rfl, hP1, by omega, by rw [tx_len]; omega, by rw [tx_len]; omega, fun a H2 a0 a1 hP2 b2 => ?_⟩
      rw [tx_len] at a1
      refine ⟨_, rfl, p, c, ns, n + 9 + 1, 26, rfl, hP2, by omega, by decide, by decide, fun i H3 i0 i1 hP3 b3 => ?_⟩
      refine ⟨_, rfl, p, c, ns, n + 9 + 1 + 1, 2, rfl, hP3, by omega, by decide, by decide, fun j H4 j0 j1 hP4 b4 => ?_⟩
      exact ⟨_, _, _, rfl, a, i, j, a0, a1, i0, i1, j0, j1, rfl, hP4, ((b1.trans b2).trans b3).trans b4⟩
    rintro σ2 H2 ⟨a, i, j, a0, a1, i0, i1, j0, j1, rfl, hP2, b2⟩
    -- step
    refine ⟨fun σ' H' => ∃ q : Int, q ∈ ([1, 3, 5, 7, 9, 11, 15, 17, 19, 21, 23, 25] : List Int) ∧ σ' = [some (.ref p), some (.int m), some (.str (tx notes)), none, some (.str (tx b)), some (.int a), some (.int i), some (.int j), some (.int q), none, none, none] ∧ Pen H' p c ns (n + 13) ∧ But (· = p) H H', ?_, ?_⟩
    · refine ⟨_, rfl, (by show 12 ≤ sizeLine; decide), fun l hl => ?_⟩
      refine ⟨p, c, ns, n + 12, _, _, rfl, hP2.new hl, by omega, ⟨by show 1 ≤ 12; decide, by show 12 ≤ 1000; decide, .inl ⟨l, rfl, .inl upd_same⟩⟩, fun v H3 hv hP3 b3 => ?_⟩
      have hv' : v ∈ ([1, 3, 5, 7, 9, 11, 15, 17, 19, 21, 23, 25] : List Int).map V.int := hv
      obtain ⟨q, hq, rfl⟩ := List.mem_map.mp hv'
      exact ⟨q, hq, rfl, hP3, (b2.new hl).trans b3⟩
    rintro σ3 H3 ⟨q, hq, rfl, hP3, b3⟩
    -- tails
    refine ⟨fun σ' H' => ∃ t : Addr, H t = none ∧ t ≠ p ∧ t ≠ c ∧ σ' = [some (.ref p), some (.int m), some (.str (tx notes)), none, some (.str (tx b)), some (.int a), some (.int i), some (.int j), some (.int q), some (.ref t), none, none] ∧ H' t = some (.lst ((tails (b.drop (a + 1).toNat)).map fun l => V.str (tx l))) ∧ Pen H' p c ns (n + 13) ∧ But (· = p) H H', ?_, ?_⟩
    · have sz : ∀ l : List Nat, l.length ≤ 8 → (tx l).length ≤ sizeLine := fun l h => by rw [tx_len]; exact Nat.le_trans h (by decide)
      have szd : (b.drop (a + 1).toNat).length ≤ 8 := by rw [List.length_drop]; omega
      refine ⟨_, rfl, _, rfl, _, _, rfl, rfl, _, rfl, _, rfl, sz _ hb8, ?_⟩
      rw [cut_from b (a + 1) (by omega)]
      refine ⟨_, rfl, _, rfl, _, _, rfl, rfl, _, rfl, _, rfl, sz _ hb8, ?_⟩
      rw [cut_from b (a + 1) (by omega)]
      refine ⟨_, rfl, _, rfl, sz _ szd, ?_⟩
      rw [cut_to _ 2 (by decide)]
      refine ⟨(by show 3 ≤ sizeLine; decide), fun t ht => ?_⟩
      have nt := hP3.fresh ht
      exact ⟨t, b3.free ht nt.1, nt.1, nt.2, rfl, by rw [upd_same]; rfl, hP3.new ht, b3.new ht⟩
    rintro σ4 H4 ⟨t, ht, ntp, ntc, rfl, hT, hP4, b4⟩
    -- found
    refine ⟨fun σ' H' => ∃ l : Addr, H l = none ∧ l ≠ p ∧ l ≠ c ∧ l ≠ t ∧ σ' = [some (.ref p), some (.int m), some (.str (tx notes)), none, some (.str (tx b)), some (.int a), some (.int i), some (.int j), some (.int q), some (.ref t), some (.ref l), none] ∧ H' t = some (.lst ((tails (b.drop (a + 1).toNat)).map fun l => V.str (tx l))) ∧ H' l = some (.lst []) ∧ Pen H' p c ns (n + 13) ∧ But (· = p) H H', ?_, ?_⟩
    · refine ⟨Nat.zero_le _, fun l hl => ?_⟩
      have nl := hP4.fresh hl
      have nlt : t ≠ l := ne_of_none hT hl
      exact ⟨l, b4.free hl nl.1, nl.1, nl.2, nlt.symm, rfl, by rw [upd_ne nlt]; exact hT, upd_same, hP4.new hl, b4.new hl⟩
    rintro σ5 H5 ⟨l, hl, nlp, nlc, nlt, rfl, hT, hL, hP5, b5⟩
    have W := Wd.of b a i q j
    refine ⟨fun σ' H' => ∃ kv sv, σ' = [some (.ref p), some (.int m), some (.str (tx notes)), kv, some (.str (tx b)), some (.int a), some (.int i), some (.int j), some (.int q), some (.ref t), some (.ref l), sv] ∧ H' l = some (.lst ((Wd.of b a i q j).list m)) ∧ Pen H' p c ns (n + 13) ∧ But (· = p) H H', ?_, ?_⟩
    · refine ⟨_, rfl, _, rfl, by omega, by omega, for_range (lo := 0) (n := ((m : Int)).toNat) (fun x σ' H' => ∃ kv sv, σ' = [some (.ref p), some (.int m), some (.str (tx notes)), kv, some (.str (tx b)), some (.int a), some (.int i), some (.int j), some (.int q), some (.ref t), some (.ref l), sv] ∧ H' t = some (.lst ((tails (b.drop (a + 1).toNat)).map fun l => V.str (tx l))) ∧ H' l = some (.lst ((Wd.of b a i q j).list x)) ∧ Pen H' p c ns (n + 13) ∧ But (· = p) H H') ?_ ?_ ?_⟩
      · exact ⟨none, none, rfl, hT, hL, hP5, b5⟩
      · rintro x σ' H' hx ⟨kv, sv, rfl, hT', hL', hP', b'⟩
        have m0 := Int.fmod_nonneg_of_pos (i + q * (0 + (x : Int))) (b := 26) (by decide)
        have m1 := Int.fmod_lt_of_pos (i + q * (0 + (x : Int))) (b := 26) (by decide)
        have hq2 : 1 ≤ q ∧ q ≤ 25 := by
          simp only [List.mem_cons, List.not_mem_nil, or_false] at hq
          omega
        have hidx : ((i + q * (0 + (x : Int))).fmod 26).toNat < 26 := by omega
        refine ⟨_, rfl, _, rfl, _, rfl, _, rfl, _, _, rfl, rfl, .inl ⟨by omega, by omega⟩, _, _, rfl, rfl, _, _, rfl, rfl, (show (26 : Int) ≠ 0 by decide), _, _, _, rfl, rfl, (by rw [tx_len]; decide +kernel), atI_int m0 (notes_at hidx), ?_⟩
        have k0 := Int.fmod_nonneg_of_pos (0 + (x : Int)) (b := 3) (by decide)
        have k1 := Int.fmod_lt_of_pos (0 + (x : Int)) (b := 3) (by decide)
        have hj : j = 0 ∨ j = 1 := by omega
        have jk0 : 0 ≤ j * (0 + (x : Int)).fmod 3 := by rcases hj with rfl | rfl <;> omega
        have jk1 : (j * (0 + (x : Int)).fmod 3).toNat < 3 := by rcases hj with rfl | rfl <;> omega
        have e0 : (0 : Int) + (x : Int) = (x : Int) := Int.zero_add _
        have hat : ((tails (b.drop (a + 1).toNat)).map fun l => V.str (tx l))[(j * (0 + (x : Int)).fmod 3).toNat]? = some (V.str (tx ((Wd.of b a i q j).tl x))) := by
          rw [List.getElem?_map]
          show Option.map _ _ = some (V.str (tx ((tails (b.drop (a + 1).toNat)).getD (j * ((x : Int).fmod 3)).toNat [])))
          rw [e0] at jk1 ⊢
          rw [List.getD_eq_getElem?_getD, List.getElem?_eq_getElem (show _ < (tails _).length from jk1)]
          rfl
        have wl : ((Wd.of b a i q j).pre ++ (Wd.of b a i q j).sg x :: (Wd.of b a i q j).tl x).length ≤ 8 := (Wd.of_ok hb8 hbl a0 a1 i0 i1 hq).len x
        have wl' := wl
        rw [List.length_append, List.length_cons] at wl'
        refine ⟨_, rfl, .inl ⟨rfl, _, SqL.of hL'⟩, _, rfl, _, rfl, _, rfl, _, rfl, (by rw [tx_len]; exact Nat.le_trans hb8 (by decide)), ?_⟩
        rw [cut_to b a a0]
        refine ⟨_, rfl, _, _, rfl, rfl, ?_, ?_⟩
        · rw [tx_len]
          show (b.take a.toNat).length + 1 ≤ sizeLine
          exact Nat.le_trans (show (b.take a.toNat).length + 1 ≤ 9 by rw [List.length_take]; omega) (by decide)
        refine ⟨_, rfl, _, rfl, _, rfl, _, _, rfl, rfl, (show (3 : Int) ≠ 0 by decide), _, _, rfl, rfl, .inl ⟨by omega, by omega⟩, t, _, _, _, rfl, rfl, SqL.of hT', atI_int jk0 hat, ?_⟩
        have ew : tx (b.take a.toNat) ++ (⟨#[97 + ((i + q * (0 + (x : Int))).fmod 26).toNat]⟩ : Str) ++ tx ((Wd.of b a i q j).tl x) = (Wd.of b a i q j).at x := by
          show tx (b.take a.toNat) ++ tx [97 + ((i + q * (0 + (x : Int))).fmod 26).toNat] ++ tx ((Wd.of b a i q j).tl x) = _
          rw [tx_app, tx_app, e0, List.append_assoc]
          rfl
        refine ⟨_, _, rfl, rfl, ?_, ?_⟩
        · show (tx (b.take a.toNat) ++ tx [97 + ((i + q * (0 + (x : Int))).fmod 26).toNat]).length + _ ≤ _
          rw [tx_app, tx_len, tx_len, List.length_append, List.length_singleton]
          have : ((Wd.of b a i q j).pre).length = (b.take a.toNat).length := rfl
          exact Nat.le_trans (show _ ≤ 8 by omega) (by decide)
        rw [ew]
        refine ⟨l, _, _, rfl, rfl, hL', ?_, ?_⟩
        · show ((List.range x).map _).length < sizeLine
          rw [List.length_map, List.length_range]
          exact small1000 (by omega)
        · refine ⟨_, _, rfl, by rw [upd_ne nlt.symm]; exact hT', ?_, hP'.mut nlp nlc, b'.mutNew hl⟩
          rw [upd_same]
          unfold Wd.list
          rw [List.range_succ, List.map_append]
          rfl
      · rintro σ' H' ⟨kv, sv, rfl, hT', hL', hP', b'⟩
        exact ⟨kv, sv, rfl, hL', hP', b'⟩
    · rintro σ6 H6 ⟨kv, sv, rfl, hL6, hP6, b6⟩
      exact ⟨_, rfl, k l _ H6 hl (Wd.of_ok hb8 hbl a0 a1 i0 i1 hq) (Wd.of_two b a i q j) hL6 (hP6.mono (by omega)) b6⟩
end
end K3
namespace K3
open PySem PySem.Spec PyProof.Rows L2
/-! ### a comprehension whose element may let an exception out of a call -/
/-- in the air of the block Y, behind a call of its element -/
def XF (Y : Cx) (W : XK) (u : Value) (s' : Shared) : Prop :=
  ∃ (a : Addr) (B : Heap) (sI : Shared) (pins : List (Addr × Obj)) (σ : L2.St) (H : Hp) (cls : Value) (d : Option Addr), u = .ref a ∧ Inv Y pins σ H sI ∧ (∀ b o, sI.heap.get? b = some o → b ∉ frs Y.stack → B.get? b = some o) ∧
    sI.heap.UpToSlots s'.heap ∧ HandSPX.FlyingZ B Y.stack a (L2N.Zn cls d) s'.heap ∧ H a = none ∧ s'.os = sI.os ∧ AllBare s'.gens ∧ W cls d H
abbrev blkX (X : Cx) (W : XK) (s : Shared) (H : Hp) (scope : Scope) (ce : Env) (fp : List Addr) : Cx := { X.blk s H scope ce fp with xe := XF (X.blk s H scope ce fp) W }
section
variable {X : Cx} {W E : XK} {s0 : Shared} {H0 : Hp} {scope : Scope} {ce : Env} {fp : List Addr}
theorem toX {pins : List (Addr × Obj)} {σ : L2.St} {H : Hp} {s : Shared} (I : Inv (X.blk s0 H0 scope ce fp) pins σ H s) : Inv (blkX X W s0 H0 scope ce fp) pins σ H s := Inv.unwish (X := blkX X W s0 H0 scope ce fp) (E := fun _ _ => False) I
theorem ofX {pins : List (Addr × Obj)} {σ : L2.St} {H : Hp} {s : Shared} (I : Inv (blkX X W s0 H0 scope ce fp) pins σ H s) : Inv (X.blk s0 H0 scope ce fp) pins σ H s := Inv.unwish (X := X.blk s0 H0 scope ce fp) (E := XF (X.blk s0 H0 scope ce fp) W) I
/-- what a callee lets out of the element -/
theorem passes_blk (hW : ∀ cls d H, E cls d H → W cls d H) : Passes (L2N.CX X.prog X.w) (blkX X W s0 H0 scope ce fp) E := by
  intro pins σ H s e s' I c
  have c1 : L2N.CX X.prog X.w X.stack H s E e s' := c
  obtain ⟨a, B, sI, pins', σ', H', cls, d, rfl, I', nb, up, sky, na, os, ag, w⟩ := L2N.XE.of_call (X := X.blk s0 H0 scope ce fp) (W := fun cls d _ H => W cls d H) (ofX I) (fun cls d H' h => hW cls d H' h) c1
  refine ⟨a, B, sI, pins', σ', H', cls, d, rfl, I', nb, up, ?_, na, os, ag, w⟩
  obtain ⟨a2, B2, _, _, _, e2, fl2, _⟩ := c1
  cases e2
  obtain ⟨_, _, _, oe, vs, T, oT, ts, he, _, hd, h1, _, _, hT, hdT, h3⟩ := fl2
  rcases sky with ⟨_, _, _, oe', vs', he', _, hd', h1'⟩ | fl | hh
  · rw [he] at he'
    cases he'
    rw [hd] at hd'
    cases hd'
    rw [h1] at h1'
    cases h1'
  · exact fl
  · obtain ⟨_, _, _, oe', vs', T', oT', ts', he', _, hd', h1', _, _, hT', hdT', h3'⟩ := hh
    rw [he] at he'
    cases he'
    rw [hd] at hd'
    cases hd'
    rw [h1] at h1'
    cases h1'
    rw [hT] at hT'
    cases hT'
    rw [hdT] at hdT'
    cases hdT'
    rw [h3] at h3'
    cases h3'
/-- from the block's air into the def's -/
theorem block_fails {pins : List (Addr × Obj)} {σ : L2.St} {cl : List (Str × Addr)} {C : Addr} {u : Value} {s' : Shared} (tk : L2N.Takes X (fun cls d _ H => W cls d H)) (hs : X.stack = X.env :: X.outer) (hf : X.env.frame = some X.env.locals)
    (I3 : Inv X pins σ H0 s0) (f3 : ∀ b ∈ fp, FpOk X pins H0 b ∧ b < s0.heap.objs.size) (hC : s0.heap.objs.size ≤ C) (x : XF (X.blk s0 H0 scope (compEnvC scope cl C X.env) fp) W u s') :
    notedBy (model X.prog X.w) X.A (compEnvC scope cl C X.env) (CompFails (model X.prog X.w) X.A X.xe (compEnvC scope cl C X.env)) u s' := by
  obtain ⟨a, B, sI, pins', σ', H, cls, d, rfl, I, nb, up, fl, na, os, ag, w⟩ := x
  have fl : HandSPX.FlyingZ B X.stack a (L2N.Zn cls d) s'.heap := fl
  have nb : ∀ b o, sI.heap.get? b = some o → b ∉ frs X.stack → B.get? b = some o := nb
  have hfr : X.A.frames = some (X.env :: X.outer) := by rw [I3.ok.frames, hs]
  have eF := noteFrame_env (.ref a) (show (compEnvC scope cl C X.env).frame = X.env.frame from rfl)
  unfold notedBy
  rw [eF]
  rw [hs] at fl
  refine PXN.looks_onZ L2N.Zn.steady hfr hf fl fun h1 held up1 => ?_
  obtain ⟨m, hn, _⟩ := I.loc
  have hn : sI.heap.Ns C m := hn
  refine ⟨m, hn.upToSlots (up.trans up1), fun h2 m2 hn2 sb => ?_⟩
  have hn1 : h1.Ns C m := hn.upToSlots (up.trans up1)
  have sb : Heap.SameBut C h1 h2 := sb
  have hn2 : h2.Ns C m2 := hn2
  obtain ⟨g1, g2, g3, oe, vs, T, oT, ts, he, hz, hd, hv1, nT, nTe, hT, hdT, hv3⟩ := held
  -- what stands at C is no record
  have noC : ∀ {b o fs}, h1.get? b = some o → o.data = .fields fs → b ≠ C := fun {b o fs} e q z => by
    obtain ⟨oL, es, ep, hoL, hdL, _⟩ := hn1
    rw [z] at e
    have e' : some oL = some o := hoL.symm.trans e
    cases e'
    rw [hdL] at q
    cases q
  have in2 : ∀ b o, (PySem.W.hideAll B [C]).get? b = some o → b ≠ C ∧ B.get? b = some o := by
    intro b o e
    refine ⟨fun z => ?_, PySem.W.of_hideAll [C] e⟩
    rw [z, PySem.W.hideAll_none [C] (List.mem_singleton.mpr rfl)] at e
    cases e
  have to2 : ∀ {h : Heap} {b : Addr} {o : Obj}, h.get? b = some o → b ≠ C → (PySem.W.hideAll h [C]).get? b = some o := fun e n => PySem.W.hideAll_get [C] e fun z => n (List.mem_singleton.mp z)
  have none2 : ∀ b, B.get? b = none → (PySem.W.hideAll B [C]).get? b = none := fun b e => by
    match q : (PySem.W.hideAll B [C]).get? b with
    | none => rfl
    | some o =>
      rw [(in2 b o q).2] at e
      cases e
  have st2 : (PySem.W.hideAll B [C]).StaysIn h2 := fun b o e => by
    obtain ⟨n, e1⟩ := in2 b o e
    exact (sb.2 b n).trans (g1 b o e1)
  have ff2 : h2.FunFrames (PySem.W.hideAll B [C]) (X.env :: X.outer) := funFrames_none (Heap.FunFrames.sameBut sb hn2 g3) fun L hL => none2 L (Heap.FunFrames.mem g3 hL).1
  have nTC : T ≠ C := noC hT hdT
  have naC : a ≠ C := noC he hd
  have tr2 : HandSPX.TracedZ h2 (PySem.W.hideAll B [C]) a (L2N.Zn cls d) (rawInt X.env.locals) :=
    ⟨oe, vs, T, oT, ts, (sb.2 a naC).trans he, hz, hd, hv1, none2 T nT, nTe, (sb.2 T nTC).trans hT, hdT, hv3⟩
  show wpAny _ _ (PySem.passOn "comprehension.variables-let-go" (.ref a) (compEnvC scope cl C X.env) : Sem Value) _ _ _
  unfold PySem.passOn
  refine wpAny_bind (wpAny_field ((sb.2 a naC).trans he) hd hv1 ?_)
  have noN : ¬ ((Value.ref T == Value.none) = true) := by simp
  rw [if_neg noN]
  refine wpAny_bind (HandSPX.setFlight_anyZ (fr := X.env.frame) st2 ff2 tr2 fun h3 k1 k2 k3 k4 => ?_)
  refine wpAny_throw (tk _ _ ⟨a, PySem.W.hideAll B [C], { sI with heap := PySem.W.hideAll sI.heap [C] }, pins, σ, H, cls, d, rfl, ?_, ?_, ?_, .inr (.inr ?_), na, os, ag, w⟩)
  · have below : ∀ {b : Addr} {o : Obj}, s0.heap.get? b = some o → b ≠ C := fun {b o} e => Nat.ne_of_lt (Nat.lt_of_lt_of_le (Heap.lt_size e) hC)
    have U : Un (frs X.stack) fp H0 H s0.heap sI.heap := I.base
    refine I3.call' (ch := fp) I.os ⟨?_, ?_, U.free, ?_, U.tups, U.frzs, U.tbls⟩ ?_ I.bare fun b hb => ⟨(f3 b hb).1.2.2.2.1, (f3 b hb).1.2.1, (f3 b hb).1.2.2.2.2.1, (f3 b hb).1.2.2.2.2.2⟩
    · exact fun b o e n nf nx => to2 (U.keep b o e n nf nx) (below e)
    · intro b o e n nf nx
      obtain ⟨sl, e1⟩ := U.slot b o e n nf nx
      exact ⟨sl, to2 e1 (below e)⟩
    · intro b o e nx
      obtain ⟨o', e1⟩ := U.there b o e nx
      exact ⟨o', to2 e1 (below e)⟩
    · refine fun b o q => (I.hok b o q).stay (fun c v hc r => to2 r fun z => ?_) (fun _ r => r) fun _ _ r => r
      have fz : H C = none := I.free
      rw [z] at hc
      rcases hc with hc | hc
      · rw [← hc, fz] at q
        cases q
      · rw [fz] at hc
        cases hc
  · intro b o e hb
    have n : b ≠ C := fun z => by
      have e' : (PySem.W.hideAll sI.heap [C]).get? b = some o := e
      rw [z, PySem.W.hideAll_none [C] (List.mem_singleton.mpr rfl)] at e'
      cases e'
    exact to2 (nb b o (PySem.W.of_hideAll [C] e) hb) n
  · refine Heap.UpToSlots.trans (h₂ := h2) (fun b o e hnf => ?_) k4
    have n : b ≠ C := fun z => by
      have e' : (PySem.W.hideAll sI.heap [C]).get? b = some o := e
      rw [z, PySem.W.hideAll_none [C] (List.mem_singleton.mpr rfl)] at e'
      cases e'
    obtain ⟨sl, e1⟩ := (up.trans up1) b o (PySem.W.of_hideAll [C] e) hnf
    exact ⟨sl, (sb.2 b n).trans e1⟩
  · rw [hf] at k3
    rw [hs]
    exact ⟨k1, none2 a g2, k2, k3⟩
end
end K3
namespace K3
open PySem PySem.Spec PyProof.Rows L2
section
variable {X : Cx} {W : XK}
/-- [elt for tg in iter if ..], the element one that may raise what W says -/
theorem pe_lcX {elt tg iter : Expr} {ifs : List Expr} {scope : Scope} {own : List (Str × Nat)} {pos : Pos} {wi : TI} {g : TG} {tt : TT} {te : TE}
    (tk : L2N.Takes X (fun cls d _ H => W cls d H)) (hst : X.stack = X.env :: X.outer) (hfr : X.env.frame = some X.env.locals)
    (hc : X.calm = true) (hN : X.N.Nodup) (hi : PI X tg iter wi) (ok : BlkOk X.N X.env.scope scope own)
    (hg : ∀ (s0 : Shared) (H0 : Hp) (C : Addr) (cl : List (Str × Addr)) (fp : List Addr), PG (X.blk s0 H0 scope (compEnvC scope cl C X.env) fp) tg g)
    (ht : ∀ (s0 : Shared) (H0 : Hp) (C : Addr) (cl : List (Str × Addr)) (fp : List Addr), PTs (X.blk s0 H0 scope (compEnvC scope cl C X.env) fp) ifs tt)
    (he : ∀ (s0 : Shared) (H0 : Hp) (C : Addr) (cl : List (Str × Addr)) (fp : List Addr), PE (blkX X W s0 H0 scope (compEnvC scope cl C X.env) fp) elt te)
    (hfold : ∀ x, foldedSetIterable iter X.env x = pure x := by intro _; rfl) :
    PE X (.ListComp elt [⟨tg, iter, ifs, 0⟩] scope pos) (tLc wi g tt te (own.map (·.2))) := by
  refine ⟨fun pins s σ H Q I h => ?_⟩
  rw [eval_ListComp]
  have has : ∀ y ∈ scope.names, y.2 = .free → ∃ c, X.env.cells.lookup y.1 = some c := by
    intro y hy e
    exact I.ok.has _ ((ok.free y hy e).elim (fun k => .inl k) (fun k => .inr k))
  have uni : ∀ y ∈ scope.names, y.2 = .local → scope.names.lookup y.1 = some .local := by
    intro y hy e
    rw [ok.uniq y hy, e]
  refine comprehension_at (use := none) rfl hfold (closure_ok has) ok.kind uni (thn (hi.run pins s σ H _ I h) fun xv s1 hx => thn hx fun itv s2 h2 => ?_)
  obtain ⟨it, fp, tn, J, H2, e, I2, T, st2, f2, q⟩ := h2
  subst e
  refine wpAny_newObj_type (newEnv_comp ?_) (by show 0 ≤ sizeLine; decide)
  have hDn : H2 s2.heap.objs.size = none := I2.hok.fresh (Nat.le_refl _)
  obtain ⟨Wt, ⟨m0, w0⟩, turn⟩ := q s2.heap.objs.size hDn
  generalize hD : s2.heap.objs.size = D at hDn w0 turn ⊢
  have low : ∀ b ∈ fp, b < D := by
    intro b hb
    obtain ⟨o, e, _⟩ := T.obj _ _ st2 b hb
    rw [← hD]
    exact Heap.lt_size e
  generalize h3' : ({ s2 with heap := s2.heap.push { cls := .type "list", data := .seq ([] : List Value).toArray } } : Shared) = s3
  have h3 : s3.heap = s2.heap.push { cls := .type "list", data := .seq ([] : List Value).toArray } := by rw [← h3']
  have z3 : D < s3.heap.objs.size := by
    rw [h3, Heap.size_push, hD]
    exact Nat.lt_succ_self _
  have k3 : ∀ b o, s2.heap.get? b = some o → s3.heap.get? b = some o := by
    intro b o e
    rw [h3]
    exact Heap.get?_push_of_some _ e
  have I3 : Inv X pins σ (upd H2 D (.lst [])) s3 := by
    rw [← h3']
    refine I2.laid (t' := s2.toks) (fun b o e => Heap.get?_push_of_some _ e) (Nat.le_of_eq hD) ⟨Nat.zero_le _, [], 0, .nil, ?_⟩
    rw [← hD]
    exact Heap.get?_push_size _ rfl
  have f3 : ∀ b ∈ fp, FpOk X pins (upd H2 D (.lst [])) b ∧ b < s3.heap.objs.size := by
    intro b hb
    have hlt := low b hb
    refine ⟨⟨?_, (f2 b hb).2⟩, Nat.lt_trans hlt z3⟩
    rw [upd_ne (Nat.ne_of_lt hlt)]
    exact (f2 b hb).1
  have I4 := block_start I3 ok hN f3
  generalize hcl : cellsFrom (s3.heap.objs.size + 1) scope.names (cloFrom X.env.cells scope.names []) = cl at I4
  generalize hH3 : upd H2 D (.lst []) = H3 at I3 I4 w0 f3
  have pg := hg s3 H3 s3.heap.objs.size cl fp
  have pt := ht s3 H3 s3.heap.objs.size cl fp
  have pe := he s3 H3 s3.heap.objs.size cl fp
  have bad : ∀ u s', XF (X.blk s3 H3 scope (compEnvC scope cl s3.heap.objs.size X.env) fp) W u s' → notedBy (model X.prog X.w) X.A (compEnvC scope cl s3.heap.objs.size X.env) (CompFails (model X.prog X.w) X.A X.xe (compEnvC scope cl s3.heap.objs.size X.env)) u s' :=
    fun u s' x => block_fails tk hst hfr I3 f3 (Nat.le_refl _) x
  show codeAny _ _ (.compStart (.ListComp elt [⟨tg, iter, ifs, 0⟩] scope pos) 0 (.ref it) (.ref D) (compEnvC scope cl s3.heap.objs.size X.env)) (compEnds (model X.prog X.w) X.A X.xe none (EP X pins σ Q) (.ref D) (compEnvC scope cl s3.heap.objs.size X.env)) { s3 with heap := pushCells (s3.heap.push { cls := .type "dict", data := .dict #[] }) scope.names }
  have cL : (compEnvC scope cl s3.heap.objs.size X.env).locals = s3.heap.objs.size := rfl
  generalize hC : s3.heap.objs.size = C at pg pt pe bad I4 cL ⊢
  generalize hce : compEnvC scope cl C X.env = ce at pg pt pe bad I4 cL ⊢
  generalize hs4 : ({ s3 with heap := pushCells (s3.heap.push { cls := .type "dict", data := .dict #[] }) scope.names } : Shared) = s4 at I4 ⊢
  have st4 : tn 0 s4.heap := T.keep _ _ _ st2 fun b _ o e => by
    rw [← hs4]
    exact pushCells_keeps _ _ _ _ (Heap.get?_push_of_some _ (k3 b o e))
  have stat : ∀ {σ' : L2.St} {H' : Hp} {s' : Shared}, Inv (X.blk s3 H3 scope ce fp) [] σ' H' s' → (∀ b ∈ fp, H' b = none) → ∀ b ∈ fp, FpOk (X.blk s3 H3 scope ce fp) [] H' b := by
    intro σ' H' s' I' hn b hb
    exact ⟨hn b hb, (I'.ok.exf b hb).1, I'.ok.exfs b hb, .inl hb, fun x c e => (I'.ok.exf b hb).2 x c e, fun p hp => absurd (show p ∈ ([] : List (Addr × Obj)) ++ [] from hp) (by simp)⟩
  have loop : codeAny (model X.prog X.w) X.A (.compLoop (.ListComp elt [⟨tg, iter, ifs, 0⟩] scope pos) 0 (.ref it) (.ref D) ce) (compEnds (model X.prog X.w) X.A X.xe none (EP X pins σ Q) (.ref D) ce) s4 := by
    refine compLoop_any (fun n s' => ∃ i H', Inv (X.blk s3 H3 scope ce fp) [] (wipe σ (own.map (·.2))) H' s' ∧ tn i s'.heap ∧ (∀ b ∈ fp, H' b = none) ∧ Wt i n H') ?_ m0 ⟨0, H3, I4, st4, fun b hb => (f3 b hb).1.1, w0⟩
    rintro n s5 ⟨i, H5, I5, st5, n5, w5⟩
    rcases turn i n H5 w5 with ⟨stop, qq⟩ | ⟨go, Nx, hNx, step⟩
    · refine thnF (T.done (X.blk s3 H3 scope ce fp) rfl rfl rfl hc i [] s5 _ H5 (fun _ _ => False) I5 (stat I5 n5) st5 stop) fun r s6 ⟨hr, I6⟩ => ?_
      subst hr
      have nC : H5 C = none := by
        rw [← cL]
        exact I6.free
      have I7 : Inv X pins σ H5 s6 := I3.call' (ch := fp) I6.os I6.base I6.hok I6.bare fun b hb => ⟨(f3 b hb).1.2.2.2.1, (f3 b hb).1.2.1, (f3 b hb).1.2.2.2.2.1, (f3 b hb).1.2.2.2.2.2⟩
      obtain ⟨m, hn, _⟩ := I6.loc
      obtain ⟨p0, p1, p2, p3, p4, p5⟩ := I3.fpOk (Nat.le_of_eq hC) nC
      refine ⟨m, hn, fun h' sb => ⟨.ref D, H5, I7.turned (t' := s6.toks) (fun b o hb e => (sb.2 b (by rw [show (X.blk s3 H3 scope ce fp).env.locals = ce.locals from rfl, cL] at *; exact hb)).trans e) p0 p1 p3 p4 p5, rfl, qq⟩⟩
    · refine thnF (T.item (X.blk s3 H3 scope ce fp) rfl rfl rfl hc i [] s5 _ H5 (fun _ _ => False) I5 (stat I5 n5) st5 go) fun r s6 ⟨u, hr, h6⟩ => ?_
      subst hr
      refine thnF h6 fun _ s7 ⟨x, H7, I7, r7, y7, st7, n7⟩ => ?_
      have P7 := I7.pinned (stat I7 n7) (T.obj _ _ st7)
      refine thnF (pg.run _ s7 _ H7 x u _ P7 r7 (step x H7 y7)) fun _ s8 ⟨σ8, H8, I8, hw8, q8⟩ => ?_
      refine thnF (pt.run _ s8 σ8 H8 _ I8 q8) fun b s9 ⟨H9, I9, q9⟩ => ?_
      have fin : ∀ {s' : Shared} {H' : Hp}, Inv (X.blk s3 H3 scope ce fp) ([] ++ pinsAt fp s7.heap) σ8 H' s' → Nx H' →
          ∃ m, m < n ∧ ∃ i H', Inv (X.blk s3 H3 scope ce fp) [] (wipe σ (own.map (·.2))) H' s' ∧ tn i s'.heap ∧ (∀ b ∈ fp, H' b = none) ∧ Wt i m H' := by
        intro s' H' I' nx
        obtain ⟨m', hm, w'⟩ := hNx H' nx
        have stay : ∀ b ∈ fp, ∀ o, s7.heap.get? b = some o → s'.heap.get? b = some o ∧ H' b = none := by
          intro b hb o e
          obtain ⟨z1, z2, _⟩ := I'.pin (b, o) (List.mem_append_right _ (List.mem_append_right _ (mem_pinsAt hb e)))
          exact ⟨z1, z2⟩
        refine ⟨m', hm, i + 1, H', (I'.unpinned (pins := [])).weak (by rw [← hw8, wipe_length]) (fun j v e => ?_), T.keep _ _ _ st7 fun b hb o e => (stay b hb o e).1, fun b hb => ?_, w'⟩
        · rw [← hw8] at e
          exact (wipe_some e).1
        · obtain ⟨o, e, _⟩ := T.obj _ _ st7 b hb
          exact (stay b hb o e).2
      cases b with
      | false =>
        simp only [Bool.false_eq_true, if_false] at q9 ⊢
        exact fin I9 q9
      | true =>
        simp only [if_true] at q9 ⊢
        refine wpAny_mono (pe.run _ s9 σ8 H9 _ (toX I9) q9) (fun z s10 hz => ?_) fun u s' x => bad u s' x
        obtain ⟨yv, H10, I10, r10, acc, hD10, hz10, nx⟩ := hz
        exact app_ok (X := X.blk s3 H3 scope ce fp) (ofX I10) hD10 hz10 r10 fun s11 I11 => fin I11 nx
  exact codeAny_compStart_list loop (T.self X.A 0 _ _ _ st4 loop)
end
end K3
namespace K3
open PySem L2
/-- a worth without holds, as a draw gives it -/
def PlainD (d : PyData) : Prop := d = .none ∨ (∃ i : Int, -999999999 ≤ i ∧ i ≤ 999999999 ∧ d = .int i) ∨ (∃ z : Str, z ∈ ([("a" : Str), "ab", "b", "to", "zzzzzzzz", "odd"] : List Str) ∧ d = .str z) ∨
  d = .tuple [.int 1, .str "a"] ∨ d = .tuple [.str "to", .str "a"] ∨ d = .tuple []
theorem PlainD.lay {d : PyData} (h : PlainD d) : d.canLay0 = true ∧ d.depth ≤ 3 := by
  rcases h with rfl | ⟨i, _, _, rfl⟩ | ⟨z, hz, rfl⟩ | rfl | rfl | rfl
  · exact ⟨rfl, by decide⟩
  · exact ⟨rfl, by simp [PyData.depth]⟩
  · refine ⟨?_, by simp [PyData.depth]⟩
    simp only [List.mem_cons, List.not_mem_nil, or_false] at hz
    rcases hz with rfl | rfl | rfl | rfl | rfl | rfl <;> decide +kernel
  · exact ⟨by decide +kernel, by decide +kernel⟩
  · exact ⟨by decide +kernel, by decide +kernel⟩
  · exact ⟨by decide +kernel, by decide +kernel⟩
def spPlain : Sp := fun vs H Q _ => ∃ (p c : Addr) (ns : List Int) (n : Nat), vs = [.ref p] ∧ Pen H p c ns n ∧ n + 5 ≤ 1000000000 ∧
  ∀ (v : V) (d : PyData) (H' : Hp), Dt H' v d → PlainD d → Pen H' p c ns (n + 5) → But (· = p) H H' → Q v H'
abbrev sPlain : Stmt := top 15
theorem scPl : FnScope ["_law_pen_here", "_law_some"] ["_law_pen_here"] (defScope sPlain) := ⟨rfl, rfl, rfl, by decide +kernel, rfl, by decide +kernel, by decide +kernel⟩
section
variable {P : Program} {w : World} {K : PySem.W.Frag} {mg : Str → Option Value} {base : Heap}
theorem ok_plain {f : Addr} {fd : FuncData} (F : Fun K "_law_plain" "_law_plain" sPlain f fd) (T : Txt mg) (CD : Cal P w K mg base "_law_draw" 1 ["_law_pen_here", "_law_many"] spDraw)
    (CP : Cal P w K mg base "_law_pick" 2 ["_law_pen_here", "_law_some"] spPick) : FnOk P w K mg base CX0 3 f fd ["_law_pen_here"] spPlain := by
  obtain ⟨fD, fdD, mD, kD, bD, GD⟩ := CD
  obtain ⟨fP, fdP, mP, kP, bP, GP⟩ := CP
  refine F.ok scPl (fun vs H Q E h => ?_) (fun cdv A outer s H vs Q E hr h => ?_)
  · obtain ⟨p, c, ns, n, rfl, _⟩ := h
    rfl
  · obtain ⟨p, c, ns, n, rfl, hP, hn, k⟩ := h
    have hr1 : Room 1 _ := hr.mono (by decide)
    refine ⟨_, C8.pss_cut (ps_set (i := 1) scPl.nd rfl (.inl rfl) (pe_lst (pa_cons pe_non (pa_cons pe_int (pa_cons pe_int (pa_cons (pe_call GD hr1 (by rfl) mD kD bD .nil pass0 (pa_cons (pv 0) (pa_cons pe_int pa_nil)))
          (pa_cons (pe_call GP hr (by rfl) mP kP bP .nil pass0 (pa_cons (pv 0) (pa_cons (pe_lst (pa_cons (pe_un un_neg pe_int) (pa_cons pe_int (pa_cons pe_int (pa_cons pe_int (pa_cons pe_int (pa_cons (pe_un un_neg pe_int) pa_nil))))))) pa_nil))) pa_nil)))))))
      (C8.pss_cut (ps_set (i := 1) scPl.nd rfl (.inl rfl) (pe_op op_cat (pv 1) (pe_lst
          (pa_cons (pe_call GP hr (by rfl) mP kP bP .nil pass0 (pa_cons (pv 0) (pa_cons (pe_lst (pa_cons pe_str (pa_cons pe_str (pa_cons pe_str (pa_cons pe_str (pa_cons pe_str (pa_cons pe_str pa_nil))))))) pa_nil)))
          (pa_cons (pe_tup (pa_cons pe_int (pa_cons pe_str pa_nil))) (pa_cons (pe_tup (pa_cons pe_str (pa_cons pe_str pa_nil))) (pa_cons (pe_tup pa_nil) pa_nil)))))))
      (pss_one (ps_ret (pe_ix ix_list (pv 1) (pe_call GD hr1 (by rfl) mD kD bD .nil pass0 (pa_cons (pv 0) (pa_cons pe_int pa_nil))) (fun _ _ => rfl))))), ?_⟩
    refine ⟨fun σ' H' => ∃ (l : Addr) (xs : List V) (ds : List PyData), l ≠ p ∧ l ≠ c ∧ σ' = [some (.ref p), some (.ref l)] ∧ xs.length = 5 ∧ H' l = some (.lst xs) ∧ DtAll H' xs ds ∧ (∀ d ∈ ds, PlainD d) ∧ Pen H' p c ns (n + 2) ∧ But (· = p) H H', ?_, ?_⟩
    · refine ⟨_, rfl, p, c, ns, n, 12, rfl, hP, by omega, by decide, by decide, fun r H1 r0 r1 hP1 b1 => ?_⟩
      refine ⟨_, rfl, _, rfl, _, rfl, (by show 6 ≤ sizeLine; decide), fun l hl => ?_⟩
      refine ⟨p, c, ns, n + 1, _, _, rfl, hP1.new hl, by omega, ⟨by show 1 ≤ 6; decide, by show 6 ≤ 1000; decide, .inl ⟨l, rfl, .inl upd_same⟩⟩, fun v H2 hv hP2 b2 => ?_⟩
      refine ⟨(by show 5 ≤ sizeLine; decide), fun l2 hl2 => ?_⟩
      have hv' : v ∈ ([-9, 10, 99, 100, 999999999, -999999999] : List Int).map V.int := hv
      obtain ⟨q, hq, rfl⟩ := List.mem_map.mp hv'
      have nl := hP2.fresh hl2
      refine ⟨l2, _, [.none, .int 0, .int 1, .int r, .int q], nl.1, nl.2, rfl, rfl, upd_same, .cons .non (.cons (.int _) (.cons (.int _) (.cons (.int _) (.cons (.int _) .nil)))), ?_, hP2.new hl2, ((b1.new hl).trans b2).new hl2⟩
      intro d hd
      simp only [List.mem_cons, List.not_mem_nil, or_false] at hd hq
      rcases hd with rfl | rfl | rfl | rfl | rfl
      · exact .inl rfl
      · exact .inr (.inl ⟨_, by decide, by decide, rfl⟩)
      · exact .inr (.inl ⟨_, by decide, by decide, rfl⟩)
      · exact .inr (.inl ⟨_, by omega, by omega, rfl⟩)
      · exact .inr (.inl ⟨_, by omega, by omega, rfl⟩)
    rintro σ1 H1 ⟨l, xs, ds, nlp, nlc, rfl, hx5, hL, hD, hPl, hP1, b1⟩
    refine ⟨fun σ' H' => ∃ (l : Addr) (xs : List V) (ds : List PyData), l ≠ p ∧ l ≠ c ∧ σ' = [some (.ref p), some (.ref l)] ∧ xs.length = 9 ∧ H' l = some (.lst xs) ∧ DtAll H' xs ds ∧ (∀ d ∈ ds, PlainD d) ∧ Pen H' p c ns (n + 3) ∧ But (· = p) H H', ?_, ?_⟩
    · refine ⟨_, rfl, _, rfl, (by show 6 ≤ sizeLine; decide), fun l1 hl1 => ?_⟩
      refine ⟨p, c, ns, n + 2, _, _, rfl, hP1.new hl1, by omega, ⟨by show 1 ≤ 6; decide, by show 6 ≤ 1000; decide, .inl ⟨l1, rfl, .inl upd_same⟩⟩, fun v H2 hv hP2 b2 => ?_⟩
      have hv' : v ∈ ([("a" : Str), "ab", "b", "to", "zzzzzzzz", "odd"] : List Str).map V.str := hv
      obtain ⟨q, hq, rfl⟩ := List.mem_map.mp hv'
      have T1 : Tups H1 (upd H1 l1 (.lst [.str "a", .str "ab", .str "b", .str "to", .str "zzzzzzzz", .str "odd"])) := (Tups.refl _).new hl1
      have T2 : Tups H1 H2 := T1.trans ((hP1.new hl1).tups b2)
      have hL2 : H2 l = some (.lst xs) := b2 _ _ nlp (by rw [upd_ne (ne_of_none hL hl1)]; exact hL)
      refine ⟨(by show 2 ≤ sizeLine; decide), fun t1 ht1 => ⟨(by show 2 ≤ sizeLine; decide), fun t2 ht2 => ⟨Nat.zero_le _, fun t3 ht3 => ⟨(by show 4 ≤ sizeLine; decide), fun l2 hl2 => ?_⟩⟩⟩⟩
      have T3 : Tups H1 (upd (upd (upd H2 t1 (.tup [.int 1, .str "a"])) t2 (.tup [.str "to", .str "a"])) t3 (.tup [])) := ((T2.new ht1).new ht2).new ht3
      have n12 : t1 ≠ t2 := ne_of_none upd_same ht2
      have n23 : t2 ≠ t3 := ne_of_none upd_same ht3
      have n13 : t1 ≠ t3 := ne_of_none (show upd (upd H2 t1 (.tup [.int 1, .str "a"])) t2 (.tup [.str "to", .str "a"]) t1 = some (.tup [.int 1, .str "a"]) by rw [upd_ne n12, upd_same]) ht3
      have a1 : upd (upd (upd H2 t1 (.tup [.int 1, .str "a"])) t2 (.tup [.str "to", .str "a"])) t3 (.tup []) t1 = some (.tup [.int 1, .str "a"]) := by rw [upd_ne n13, upd_ne n12, upd_same]
      have a2 : upd (upd (upd H2 t1 (.tup [.int 1, .str "a"])) t2 (.tup [.str "to", .str "a"])) t3 (.tup []) t2 = some (.tup [.str "to", .str "a"]) := by rw [upd_ne n23, upd_same]
      have a3 : upd (upd (upd H2 t1 (.tup [.int 1, .str "a"])) t2 (.tup [.str "to", .str "a"])) t3 (.tup []) t3 = some (.tup []) := upd_same
      have hL3 : upd (upd (upd H2 t1 (.tup [.int 1, .str "a"])) t2 (.tup [.str "to", .str "a"])) t3 (.tup []) l = some (.lst xs) := ((((But.refl (fun _ => False) H2).new ht1).new ht2).new ht3) _ _ (fun z => z) hL2
      have hP3 := ((hP2.new ht1).new ht2 (o := .tup [.str "to", .str "a"])).new ht3 (o := .tup [])
      have b3 : But (· = p) H (upd (upd (upd H2 t1 (.tup [.int 1, .str "a"])) t2 (.tup [.str "to", .str "a"])) t3 (.tup [])) := (((b1.new hl1).trans b2).new ht1).new ht2 |>.new ht3
      generalize upd (upd (upd H2 t1 (.tup [.int 1, .str "a"])) t2 (.tup [.str "to", .str "a"])) t3 (.tup []) = H3 at *
      have hl3 : upd H3 l2 (.lst [.str q, .ref t1, .ref t2, .ref t3]) l = some (.lst xs) := by rw [upd_ne (ne_of_none hL3 hl2)]; exact hL3
      refine ⟨l, l2, _, _, rfl, rfl, hl3, upd_same, (by show xs.length + 4 ≤ sizeLine; rw [hx5]; decide), fun l4 hl4 => ?_⟩
      have nl := ((hP3.new hl2).fresh hl4)
      refine ⟨l4, _, ds ++ [.str q, .tuple [.int 1, .str "a"], .tuple [.str "to", .str "a"], .tuple []], nl.1, nl.2, rfl, ?_, upd_same, ?_, ?_, (hP3.new hl2).new hl4, (b3.new hl2).new hl4⟩
      · rw [List.length_append, hx5]; rfl
      · have D3 : DtAll H3 (xs ++ [.str q, .ref t1, .ref t2, .ref t3]) (ds ++ [.str q, .tuple [.int 1, .str "a"], .tuple [.str "to", .str "a"], .tuple []]) :=
          (hD.mono T3).app (.cons (.str _) (.cons (.tup a1 (.cons (.int _) (.cons (.str _) .nil))) (.cons (.tup a2 (.cons (.str _) (.cons (.str _) .nil))) (.cons (.tup a3 .nil) .nil))))
        exact D3.mono (((Tups.refl _).new hl2).new hl4)
      · intro d hd
        rcases List.mem_append.mp hd with hd | hd
        · exact hPl d hd
        · simp only [List.mem_cons, List.not_mem_nil, or_false] at hd
          rcases hd with rfl | rfl | rfl | rfl
          · exact .inr (.inr (.inl ⟨q, hq, rfl⟩))
          · exact .inr (.inr (.inr (.inl rfl)))
          · exact .inr (.inr (.inr (.inr (.inl rfl))))
          · exact .inr (.inr (.inr (.inr (.inr rfl))))
    rintro σ2 H2 ⟨l, xs, ds, nlp, nlc, rfl, hx9, hL, hD, hPl, hP2, b2⟩
    refine ⟨_, rfl, _, rfl, p, c, ns, n + 3, 9, rfl, hP2, by omega, by decide, by decide, fun r H3 r0 r1 hP3 b3 => ?_⟩
    have hr9 : r.toNat < xs.length := by omega
    obtain ⟨d, hd, hdt⟩ := hD.get _ _ (List.getElem?_eq_getElem hr9)
    refine ⟨l, _, _, _, rfl, rfl, SqL.of (b3 _ _ nlp hL), atI_int r0 (List.getElem?_eq_getElem hr9), ?_⟩
    exact k _ d H3 (hdt.mono (hP2.tups b3)) (hPl d (List.mem_of_getElem? hd)) (hP3.mono (by omega)) (b2.trans b3)
end
end K3
namespace GG
open PySem PySem.Spec PyProof.Rows L2
/-! ### dict(d), d.update(e) of dicts -/
section
variable {X : Cx}
theorem call_dictD : CallR X (.type "dict") (fun xs H Q => ∃ (a : Addr) (kvs : List (Key × V)), xs = [.ref a] ∧ H a = some (.dK kvs) ∧ ∀ p, H p = none → Q (.ref p) (upd H p (.dK kvs))) := by
  rintro pins s σ H xs us Q I r ⟨a, kvs, rfl, ha, q⟩
  obtain ⟨u, rfl, rx⟩ := vals1 r
  cases rx
  obtain ⟨few, low, vs, kv, hd⟩ := (show ObjOk X.prog X.w H s.heap a (.dK kvs) from I.hok a _ ha)
  have fv : vs.length ≤ sizeLine := by
    rw [← kv.length]
    exact few
  refine kt_call_dict (knd := mixKind X.prog X.w) low hd fv fun h' hd' sb => ?_
  have low' : (s.heap.objs.size == sysModules) = false := beq_eq_false_iff_ne.mpr (Nat.ne_of_gt I.big)
  exact ⟨.ref s.heap.objs.size, _, I.laid (t' := s.toks) (o := .dK kvs) (fun b o e => (sb.2 b (Nat.ne_of_lt (Heap.lt_size e))).trans (Heap.get?_push_of_some _ e)) (Nat.le_refl _) ⟨few, low', vs, kv, hd'⟩, rfl, q _ (I.hok.fresh (Nat.le_refl _))⟩
def rUpdate : V → List V → Hp → VK → Prop := fun x xs H Q => ∃ (a b : Addr) (kvs es : List (Key × V)), x = .ref a ∧ xs = [.ref b] ∧ a ≠ b ∧ H a = some (.dK kvs) ∧ H b = some (.dK es) ∧ kvs.length + es.length ≤ sizeLine ∧ Q .non (upd H a (.dK (mergeK kvs es)))
theorem mt_update : MtR X "dict.update" rUpdate := by
  rintro pins s σ H x xs v us Q I rx rs ⟨a, b, kvs, es, rfl, rfl, ne, ha, hb, few, q⟩
  obtain ⟨u, rfl, ru⟩ := vals1 rs
  cases rx
  cases ru
  obtain ⟨f1, l1, v1, k1, d1⟩ := (show ObjOk X.prog X.w H s.heap a (.dK kvs) from I.hok a _ ha)
  obtain ⟨f2, l2, v2, k2, d2⟩ := (show ObjOk X.prog X.w H s.heap b (.dK es) from I.hok b _ hb)
  have e1 := k1.length
  have e2 := k2.length
  refine call_meetsIn PySem.F.slot_dict_update d1.typeIs PySem.F.entry_dict_update (PySem.F.args_dict_update_2 _ _) (meets_dict_update (mixKind X.prog X.w) a b ne l2) ⟨v1, v2, d1, d2, by omega, fun h' d1' d2' sb => ?_⟩
  have many : (mergeK kvs es).length ≤ sizeLine := by
    have := length_mergeK es kvs
    omega
  have here : ∃ u, h'.get? a = some u := by
    obtain ⟨o, _, _, ho, _⟩ := id d1'
    exact ⟨o, ho⟩
  exact ⟨.non, _, I.write (t' := s.toks) (x := a) (e := a) (o := .dK (mergeK kvs es)) (by rw [ha]; exact True.intro) (.inl rfl) (fun c o nc e => (sb.2 c nc).trans e) here ⟨many, l1, _, KV.merge k2 k1, d1'⟩, rfl, q⟩
end
end GG
namespace K3
open PySem PySem.Spec PyProof.Rows L2 GG
/-! ### drawn plans: a scene -/
structure ScD where
  W : Wd
  kk : Nat
  m : Nat → Nat
  ct : List Int
  to : V
  vars : List Str
def ScD.fs (S : ScD) (i : Nat) : List Str := (List.range (S.m i)).map fun j => S.W.at (3 + j)
def scK (kd fd wd ct : Addr) (to : V) (left : Int) (vd : Addr) : List (Key × V) := [(.inr "kinds", .ref kd), (.inr "fields", .ref fd), (.inr "words", .ref wd), (.inr "counts", .ref ct), (.inr "to", to), (.inr "left", .int left), (.inr "vars", .ref vd)]
structure ScD.Ok (S : ScD) : Prop where
  w : S.W.Ok
  kk : 1 ≤ S.kk ∧ S.kk ≤ 3
  m : ∀ i, S.m i ≤ 3
  ct : ∃ a b c d e : Int, S.ct = [a, b, c, d, e] ∧ 0 ≤ a ∧ a ≤ 2 ∧ 0 ≤ b ∧ b ≤ 3 ∧ 0 ≤ c ∧ c ≤ 3 ∧ 2 ≤ d ∧ d ≤ 3 ∧ 0 ≤ e ∧ e ≤ 2
  vars : S.vars = (List.range 5).map (fun j => S.W.at (3 + j)) ∨ S.vars = (List.range 5).map (fun j => S.W.at (11 + j))
structure Scn (H : Hp) (p sc : Addr) (S : ScD) : Prop where
  ok : S.Ok
  ex : ∃ (kd fd wd ct vd : Addr) (fl : Nat → Addr) (left : Int), H sc = some (.dK (scK kd fd wd ct S.to left vd)) ∧ H kd = some (.lst ((List.range S.kk).map fun i => V.str (S.W.at i))) ∧ H fd = some (.dK ((List.range S.kk).map fun i => (.inr (S.W.at i), .ref (fl i)))) ∧
    (∀ i, i < S.kk → H (fl i) = some (.lst ((S.fs i).map V.str)) ∧ fl i ≠ p) ∧ H wd = some (.lst ((List.range 5).map fun i => V.str (S.W.at (6 + i)))) ∧ H ct = some (.lst (S.ct.map V.int)) ∧ H vd = some (.lst (S.vars.map V.str)) ∧
    sc ≠ p ∧ kd ≠ p ∧ fd ≠ p ∧ wd ≠ p ∧ ct ≠ p ∧ vd ≠ p
theorem cutV_mid {xs : List V} {a b : Nat} (h1 : a ≤ b) (h2 : b ≤ xs.length) : cutV xs (some (a : Int)) (some (b : Int)) = (xs.drop a).take (b - a) := by
  have e1 : HT.sIx xs.length 0 (some (a : Int)) = min a xs.length := HT.sIx_nat ..
  have e2 : HT.sIx xs.length xs.length (some (b : Int)) = min b xs.length := HT.sIx_nat ..
  unfold cutV
  rw [e1, e2, Nat.min_eq_left h2, Nat.min_eq_left (Nat.le_trans h1 h2)]
theorem words_mid (W : Wd) {a b : Nat} (h1 : a ≤ b) (h2 : b ≤ 16) : cutV (W.list 16) (some (a : Int)) (some (b : Int)) = (List.range (b - a)).map fun j => V.str (W.at (a + j)) := by
  rw [cutV_mid h1 (by simp [Wd.list, h2])]
  apply List.ext_getElem?
  intro i
  simp only [Wd.list, List.getElem?_take, List.getElem?_drop, List.getElem?_map, List.getElem?_range]
  by_cases hi : i < b - a
  · rw [if_pos hi, List.getElem?_range (by omega), List.getElem?_range hi]
    rfl
  · rw [if_neg hi, List.getElem?_eq_none (l := List.range (b - a)) (by simp; omega)]
    rfl
/-- the kinds' lists of fields, so far -/
def fldK (W : Wd) (fl : Nat → Addr) (j : Nat) : List (Key × V) := (List.range j).map fun i => (.inr (W.at i), .ref (fl i))
def spScene : Sp := fun vs H Q _ => ∃ (p c : Addr) (ns : List Int) (n : Nat) (to : V), vs = [.ref p, to] ∧ Pen H p c ns n ∧ n + 50 ≤ 900000000 ∧
  ∀ (sc : Addr) (S : ScD) (H' : Hp), S.to = to → Scn H' p sc S → H sc = none → Pen H' p c ns (n + 50) → But (· = p) H H' → Q (.ref sc) H'
abbrev sScene : Stmt := top 16
abbrev nSc : List Str := ["_law_pen_here", "_law_houses", "_law_words_here", "_law_kinds", "_law_slots", "_law_counts", "_law_found", "_law_breed"]
theorem scSc : FnScope nSc ["_law_pen_here", "_law_houses"] (defScope sScene) := ⟨rfl, rfl, rfl, by decide +kernel, rfl, by decide +kernel, by decide +kernel⟩
theorem valV_out : ∀ (acc : List (Key × V)) (k : Key), (∀ r ∈ acc, r.1 ≠ k) → valV acc k = none
  | [], _, _ => by simp [valV]
  | r :: acc, k, h => by
    have e := valV_out acc k fun q hq => h q (List.mem_cons_of_mem _ hq)
    have n : r.1 ≠ k := h r (List.mem_cons_self ..)
    simp [valV, n] at e ⊢
    exact e
theorem mergeK_fresh : ∀ (ks acc : List (Key × V)), (∀ q ∈ ks, ∀ r ∈ acc, r.1 ≠ q.1) → (ks.map (·.1)).Nodup → mergeK acc ks = acc ++ ks
  | [], acc, _, _ => by
    rw [List.append_nil]
    rfl
  | q :: ks, acc, h, nd => by
    have e : putK acc q.1 q.2 = acc ++ [q] := putK_new q.2 (valV_out acc q.1 fun r hr => h q (List.mem_cons_self ..) r hr)
    have nd' := List.nodup_cons.mp nd
    show mergeK (putK acc q.1 q.2) ks = _
    rw [e, mergeK_fresh ks (acc ++ [q]) (fun q' hq' r hr => ?_) nd'.2, List.append_assoc]
    · rfl
    · rcases List.mem_append.mp hr with hr | hr
      · exact h q' (List.mem_cons_of_mem _ hq') r hr
      · rw [List.mem_singleton.mp hr]
        exact fun z => nd'.1 (List.mem_map.mpr ⟨q', hq', z.symm⟩)
theorem paired_snoc {α β : Type} {F : α → β → Prop} {a : α} {b : β} (h : F a b) : ∀ {l₁ : List α} {l₂ : List β}, Paired F l₁ l₂ → Paired F (l₁ ++ [a]) (l₂ ++ [b])
  | _, _, .nil => .cons h .nil
  | _, _, .cons g t => .cons g (paired_snoc h t)
section
variable {P : Program} {w : World} {K : PySem.W.Frag} {mg : Str → Option Value} {base : Heap}
theorem ok_scene {f : Addr} {fd : FuncData} (F : Fun K "_law_scene" "_law_scene" sScene f fd) (T : Txt mg) (CD : Cal P w K mg base "_law_draw" 1 ["_law_pen_here", "_law_many"] spDraw) (CW : Cal P w K mg base "_law_words" 3 ["_law_pen_here", "_law_many"] spWords) :
    FnOk P w K mg base CX0 4 f fd ["_law_pen_here", "_law_houses"] spScene := by
  obtain ⟨fD, fdD, mD, kD, bD, GD⟩ := CD
  obtain ⟨fW, fdW, mW, kW, bW, GW⟩ := CW
  refine F.ok scSc (fun vs H Q E h => ?_) (fun cdv A outer s H vs Q E hr h => ?_)
  · obtain ⟨p, c, ns, n, to, rfl, _⟩ := h
    rfl
  · obtain ⟨p, c, ns, n, to, rfl, hP, hn, go⟩ := h
    have nd := scSc.nd
    have hr1 : Room 1 _ := hr.mono (by decide)
    refine ⟨_, pss_cons (ps_set (i := 2) nd rfl (.inr rfl) (pe_call GW hr (by rfl) mW kW bW .nil pass0 (pa_cons (pv 0) (pa_cons pe_int pa_nil))))
      (C8.pss_cut (ps_set (i := 3) nd rfl (.inl rfl) (pe_slice sl_list (pv 2) po_none (po_some (pe_op op_add pe_int (pe_call GD hr1 (by rfl) mD kD bD .nil pass0 (pa_cons (pv 0) (pa_cons pe_int pa_nil)))))))
      (C8.pss_cut (ps_set (i := 4) nd rfl (.inl rfl) (pe_callTy (call_dictP rfl) (by rfl) T.dict (by decide +kernel) (pa_cons (pe_lc (own := [("_law_breed", 7)]) (g := gName 7) (tt := tYes) rfl nd (pi_list (pv 3))
          (blkOk_by (N := nSc) (sc := defScope sScene) (by decide +kernel)) (fun _ _ _ _ _ => pg_name (i := 7) nd rfl (Or.inl rfl)) (fun _ _ _ _ _ => pts_nil)
          (fun _ _ _ _ _ => pe_tup (pa_cons (pv 7) (pa_cons (pe_slice (r := rSlL K) sl_list (pv 2) (po_some pe_int) (po_some (pe_op op_add pe_int (pe_call GD hr1 (by rfl) mD kD bD .nil pass0 (pa_cons (pv 0) (pa_cons pe_int pa_nil)))))) pa_nil)))) pa_nil)))
      (C8.pss_cut (ps_set (i := 5) nd rfl (.inl rfl) (pe_lst (pa_cons (pe_call GD hr1 (by rfl) mD kD bD .nil pass0 (pa_cons (pv 0) (pa_cons pe_int pa_nil))) (pa_cons (pe_call GD hr1 (by rfl) mD kD bD .nil pass0 (pa_cons (pv 0) (pa_cons pe_int pa_nil))) (pa_cons (pe_call GD hr1 (by rfl) mD kD bD .nil pass0 (pa_cons (pv 0) (pa_cons pe_int pa_nil))) (pa_cons (pe_op op_add pe_int (pe_call GD hr1 (by rfl) mD kD bD .nil pass0 (pa_cons (pv 0) (pa_cons pe_int pa_nil)))) (pa_cons (pe_call GD hr1 (by rfl) mD kD bD .nil pass0 (pa_cons (pv 0) (pa_cons pe_int pa_nil))) pa_nil)))))))
      (pss_cons (ps_set (i := 6) nd rfl (.inl rfl) (pe_disp (pps_cons pe_str (pv 3) (pps_cons pe_str (pv 4) (pps_cons pe_str (pe_slice sl_list (pv 2) (po_some pe_int) (po_some pe_int)) (pps_cons pe_str (pv 5) pps_nil)))) (by rfl) (by rfl) (fun z => by cases z) (by decide)))
      (pss_cons (ps_expr (pe_bm PySem.F.plainAttrs_dict PySem.F.slot_dict_update PySem.F.type_dict_update mt_update (pv 6) (pa_cons (pe_disp (pps_cons pe_str (pv 1) (pps_cons pe_str pe_int (pps_cons pe_str (pe_ifExp (pt_cmpR op_eq (pe_ix ix_list (pv 5) pe_int (fun _ _ => rfl)) pe_int (nomark _)) (pe_slice sl_list (pv 2) (po_some pe_int) (po_some pe_int)) (pe_slice sl_list (pv 2) (po_some pe_int) po_none)) pps_nil))) (by rfl) (by rfl) (fun z => by cases z) (by decide)) pa_nil)))
      (pss_one (ps_ret (pv 6)))))))), ?_⟩
    refine ⟨_, rfl, p, c, ns, n, 16, rfl, hP, by omega, by decide, fun l W H1 hl hW _ hL hP1 b1 => ?_⟩
    have nl := hP1.ne hL
    -- the kinds
    refine ⟨fun σ' H' => ∃ (kd : Addr) (kk : Nat), 1 ≤ kk ∧ kk ≤ 3 ∧ σ' = [some (.ref p), some to, some (.ref l), some (.ref kd), none, none, none, none] ∧ H' kd = some (.lst ((List.range kk).map fun i => V.str (W.at i))) ∧ Pen H' p c ns (n + 21) ∧ But (· = p) H1 H', ?_, ?_⟩
    · refine ⟨_, rfl, _, rfl, p, c, ns, _, 3, rfl, hP1, by omega, by decide, by decide, fun r H2 r0 r3 hP2 b2 => ?_⟩
      obtain ⟨kk, q1, q2, q3⟩ : ∃ kk : Nat, 1 ≤ kk ∧ kk ≤ 3 ∧ cutV (W.list 16) none (some (1 + r)) = (List.range kk).map fun i => V.str (W.at i) := by
        rcases (by omega : r = 0 ∨ r = 1 ∨ r = 2) with rfl | rfl | rfl
        · exact ⟨1, by decide, by decide, rfl⟩
        · exact ⟨2, by decide, by decide, rfl⟩
        · exact ⟨3, by decide, by decide, rfl⟩
      refine ⟨_, _, rfl, rfl, _, rfl, l, _, rfl, SqL.of (b2 _ _ nl hL), fun q hq => ?_⟩
      rw [q3]
      exact ⟨q, kk, q1, q2, rfl, upd_same, hP2.new hq, b2.new hq⟩
    rintro σ2 H2 ⟨kd, kk, kk1, kk3, rfl, hkd, hP2, b2⟩
    have nkd := hP2.ne hkd
    have hL2 := b2 _ _ nl hL
    -- the fields
    refine ⟨fun σ' H' => ∃ (fdd : Addr) (fl : Nat → Addr) (m : Nat → Nat), (∀ i, m i ≤ 3) ∧ σ' = [some (.ref p), some to, some (.ref l), some (.ref kd), some (.ref fdd), none, none, none] ∧ H' fdd = some (.dK (fldK W fl kk)) ∧ (∀ i, i < kk → H' (fl i) = some (.lst ((List.range (m i)).map fun j => V.str (W.at (3 + j)))) ∧ fl i ≠ p) ∧ fdd ≠ p ∧ Pen H' p c ns (n + 24) ∧ But (· = p) H2 H', ?_, ?_⟩
    · refine ⟨_, rfl, kd, rfl, ⟨_, SqL.of hkd⟩, fun D hD => ?_⟩
      have nD := hP2.fresh hD
      refine lc_list (K := K) (a := kd) (xs := (List.range kk).map fun i => V.str (W.at i)) (fun j H' => ∃ (ps : List Addr) (fl : Nat → Addr) (m : Nat → Nat), (∀ i, m i ≤ 3) ∧ ps.length = j ∧ H' D = some (.lst (ps.map V.ref)) ∧ Paired (fun a (kv : Key × V) => H' a = some (.tup [kV kv.1, kv.2])) ps (fldK W fl j) ∧
        (∀ i, i < j → H' (fl i) = some (.lst ((List.range (m i)).map fun j => V.str (W.at (3 + j)))) ∧ fl i ≠ p ∧ fl i ≠ D) ∧ Pen H' p c ns (n + 21 + j) ∧ But (· = p) H2 H') ?_ ?_ ?_ ?_
      · exact ⟨[], fun _ => 0, fun _ => 0, fun _ => Nat.zero_le _, rfl, upd_same, .nil, fun i hi => absurd hi (Nat.not_lt_zero _), hP2.new hD, (But.refl _ _).new hD⟩
      · rintro j H' _ ⟨_, _, _, _, _, _, _, _, _, b⟩
        exact SqL.of (b _ _ nkd hkd)
      · rintro j x H' hj ⟨ps, fl, m, hm, lp, hDa, pr, hfl, hP3, b3⟩
        rw [List.getElem?_map] at hj
        obtain ⟨j', hj', rfl⟩ := Option.map_eq_some_iff.mp hj
        have jk : j < kk := by
          have := (List.getElem?_eq_some_iff.mp hj').1
          simpa using this
        obtain rfl : j = j' := by
          rw [List.getElem?_range jk] at hj'
          exact Option.some.inj hj'
        refine ⟨rfl, _, rfl, _, rfl, _, rfl, _, rfl, p, c, ns, _, 4, rfl, hP3, by omega, by decide, by decide, fun r H4 r0 r4 hP4 b4 => ?_⟩
        obtain ⟨mm, q1, q3⟩ : ∃ mm : Nat, mm ≤ 3 ∧ cutV (W.list 16) (some 3) (some (3 + r)) = (List.range mm).map fun i => V.str (W.at (3 + i)) := by
          rcases (by omega : r = 0 ∨ r = 1 ∨ r = 2 ∨ r = 3) with rfl | rfl | rfl | rfl
          · exact ⟨0, by decide, rfl⟩
          · exact ⟨1, by decide, rfl⟩
          · exact ⟨2, by decide, rfl⟩
          · exact ⟨3, by decide, rfl⟩
        have t4 := hP3.tups b4
        have hD4 := b4 _ _ (hP3.ne hDa) hDa
        refine ⟨_, _, rfl, rfl, _, rfl, l, _, rfl, SqL.of (b4 _ _ (hP3.ne (b3 _ _ nl hL2)) (b3 _ _ nl hL2)), fun q hq => ?_⟩
        rw [q3]
        have s5 := same_new (Same.refl H4) hq (o := .lst ((List.range mm).map fun i => V.str (W.at (3 + i))))
        have e5 : upd H4 q (.lst ((List.range mm).map fun i => V.str (W.at (3 + i)))) q = some (.lst ((List.range mm).map fun i => V.str (W.at (3 + i)))) := upd_same
        have nqD : q ≠ D := (ne_of_none hD4 hq).symm
        have nqp : q ≠ p := (hP4.fresh hq).1
        have hP5 := hP4.new hq (o := .lst ((List.range mm).map fun i => V.str (W.at (3 + i))))
        generalize upd H4 q (.lst ((List.range mm).map fun i => V.str (W.at (3 + i)))) = H5 at s5 e5 hP5 ⊢
        refine ⟨(by show 2 ≤ sizeLine; decide), fun t ht => ?_⟩
        have s6' := same_new (Same.refl H5) ht (o := .tup [.str (W.at j), .ref q])
        have e6 : upd H5 t (.tup [.str (W.at j), .ref q]) t = some (.tup [.str (W.at j), .ref q]) := upd_same
        have hP6 := hP5.new ht (o := .tup [.str (W.at j), .ref q])
        generalize upd H5 t (.tup [.str (W.at j), .ref q]) = H6 at s6' e6 hP6 ⊢
        have s6 := s5.trans s6'
        have hD6 := s6 _ _ hD4
        have ntD : t ≠ D := fun z => by rw [z, hD6] at e6; cases e6
        have fe : ∀ i, i < j → (fun i => if i = j then q else fl i) i = fl i := fun i hi => if_neg (by omega)
        have fk : fldK W (fun i => if i = j then q else fl i) (j + 1) = fldK W fl j ++ [(.inr (W.at j), .ref q)] := by
          unfold fldK
          rw [List.range_succ, List.map_append]
          congr 1
          · apply List.map_congr_left
            intro i hi
            show ((Sum.inr (W.at i), V.ref (if i = j then q else fl i)) : Key × V) = _
            rw [if_neg (Nat.ne_of_lt (List.mem_range.mp hi))]
          · simp
        refine ⟨ps.map V.ref, hD6, small1000 (by rw [List.length_map]; omega), ps ++ [t], (fun i => if i = j then q else fl i), (fun i => if i = j then mm else m i), fun i => ?_, by simp [lp], by rw [upd_same, List.map_append]; rfl, ?_, fun i hi => ?_, (hP6.mut nD.1 nD.2).mono (by omega), ((b3.trans b4).trans (sameBut s6 _)).mutNew hD⟩
        · show (if i = j then mm else m i) ≤ 3
          split
          · exact q1
          · exact hm i
        · rw [fk]
          refine paired_snoc ?_ (L2.Paired.mapP pr fun a kv e => ?_)
          · show upd H6 D _ t = some (.tup [.str (W.at j), .ref q])
            rw [upd_ne ntD]
            exact e6
          · rw [upd_ne (fun z => by rw [z, hDa] at e; cases e)]
            exact s6 _ _ (t4 _ _ e)
        · show upd H6 D _ (if i = j then q else fl i) = some (.lst ((List.range (if i = j then mm else m i)).map fun j => V.str (W.at (3 + j)))) ∧ (if i = j then q else fl i) ≠ p ∧ (if i = j then q else fl i) ≠ D
          by_cases e : i = j
          · rw [if_pos e, if_pos e, upd_ne nqD]
            exact ⟨s6' _ _ e5, nqp, nqD⟩
          · rw [if_neg e, if_neg e]
            obtain ⟨g1, g2, g3⟩ := hfl i (by omega)
            rw [upd_ne g3]
            exact ⟨s6 _ _ (b4 _ _ g2 g1), g2, g3⟩
      · rintro H3 ⟨ps, fl, m, hm, lp, hDa, pr, hfl, hP3, b3⟩
        have lk : ((List.range kk).map fun i => V.str (W.at i)).length = kk := by simp
        rw [lk] at pr hfl hP3
        refine ⟨D, ps, fldK W fl kk, rfl, SqL.of hDa, L2.Paired.mapP pr (fun a kv e => SqT.of e), fun fdd hfd => ?_⟩
        have em : mergeK [] (fldK W fl kk) = fldK W fl kk := by
          rw [mergeK_fresh _ _ (fun _ _ r hr => absurd hr (by simp)) ?_, List.nil_append]
          unfold fldK
          rw [List.map_map]
          refine List.pairwise_map.mpr (List.nodup_range.imp_of_mem fun {x y} hx hy ne e => ne (hW.unlike ?_ ?_ (by injection e)))
          · have := List.mem_range.mp hx
            omega
          · have := List.mem_range.mp hy
            omega
        rw [em]
        have s4 := same_new (Same.refl H3) hfd (o := .dK (fldK W fl kk))
        exact ⟨fdd, fl, m, hm, rfl, upd_same, fun i hi => ⟨s4 _ _ (hfl i hi).1, (hfl i hi).2.1⟩, (hP3.fresh hfd).1, (hP3.new hfd).mono (by omega), b3.new hfd⟩
    rintro σ3 H3 ⟨fdd, fl, m, hm, rfl, hfd, hfl, nfd, hP3, b3⟩
    -- the counts
    refine ⟨fun σ' H' => ∃ (ct : Addr) (cs : List Int), (∃ a b c d e : Int, cs = [a, b, c, d, e] ∧ 0 ≤ a ∧ a ≤ 2 ∧ 0 ≤ b ∧ b ≤ 3 ∧ 0 ≤ c ∧ c ≤ 3 ∧ 2 ≤ d ∧ d ≤ 3 ∧ 0 ≤ e ∧ e ≤ 2) ∧ σ' = [some (.ref p), some to, some (.ref l), some (.ref kd), some (.ref fdd), some (.ref ct), none, none] ∧ H' ct = some (.lst (cs.map V.int)) ∧ ct ≠ p ∧ Pen H' p c ns (n + 29) ∧ But (· = p) H3 H', ?_, ?_⟩
    · refine ⟨_, rfl, p, c, ns, _, 3, rfl, hP3, by omega, by decide, by decide, fun q1 I1 q10 q11 hQ1 d1 => ⟨_, rfl, p, c, ns, _, 4, rfl, hQ1, by omega, by decide, by decide, fun q2 I2 q20 q21 hQ2 d2 => ⟨_, rfl, p, c, ns, _, 4, rfl, hQ2, by omega, by decide, by decide, fun q3 I3 q30 q31 hQ3 d3 => ⟨_, rfl, p, c, ns, _, 2, rfl, hQ3, by omega, by decide, by decide, fun q4 I4 q40 q41 hQ4 d4 => ⟨_, _, rfl, rfl, _, rfl, p, c, ns, _, 3, rfl, hQ4, by omega, by decide, by decide, fun q5 I5 q50 q51 hQ5 d5 => ⟨(by show 5 ≤ sizeLine; decide), fun ct hct => ?_⟩⟩⟩⟩⟩⟩
      exact ⟨ct, [q1, q2, q3, 2 + q4, q5], ⟨q1, q2, q3, 2 + q4, q5, rfl, by omega, by omega, by omega, by omega, by omega, by omega, by omega, by omega, by omega, by omega⟩, rfl, upd_same, (hQ5.fresh hct).1, (hQ5.new hct).mono (by omega), ((((d1.trans d2).trans d3).trans d4).trans d5).new hct⟩
    rintro σ4 H4 ⟨ct, cs, hcs, rfl, hct, nct, hP4, b4⟩
    have b24 := b3.trans b4
    have b14 := b2.trans b24
    have hL4 := b14 _ _ nl hL
    have hkd4 := b24 _ _ nkd hkd
    have hfd4 := b4 _ _ nfd hfd
    have hfl4 : ∀ i, i < kk → H4 (fl i) = some (.lst ((List.range (m i)).map fun j => V.str (W.at (3 + j)))) := fun i hi => b4 _ _ (hfl i hi).2 (hfl i hi).1
    intro sc hsc
    have hscF : H1 sc = none := b14.free hsc (hP4.fresh hsc).1
    have nscp : sc ≠ p := (hP4.fresh hsc).1
    have s5 := same_new (Same.refl H4) hsc (o := .dK [])
    have e5 : upd H4 sc (.dK []) sc = some (.dK []) := upd_same
    generalize upd H4 sc (.dK []) = H5 at s5 e5 ⊢
    refine ⟨_, rfl, _, rfl, _, rfl, _, rfl, _, rfl, l, _, rfl, SqL.of (s5 _ _ hL4), fun wd hwd => ?_⟩
    rw [show cutV (W.list 16) (some 6) (some 11) = (List.range 5).map fun i => V.str (W.at (6 + i)) from rfl]
    have s5b := same_new (Same.refl H5) hwd (o := .lst ((List.range 5).map fun i => V.str (W.at (6 + i))))
    have ewd' : upd H5 wd (.lst ((List.range 5).map fun i => V.str (W.at (6 + i)))) wd = some (.lst ((List.range 5).map fun i => V.str (W.at (6 + i)))) := upd_same
    have nws : wd ≠ sc := (ne_of_none e5 hwd).symm
    have nwp : wd ≠ p := ((hP4.but (sameBut s5 fun _ => False) id id).fresh hwd).1
    generalize upd H5 wd (.lst ((List.range 5).map fun i => V.str (W.at (6 + i)))) = H5b at s5b ewd' ⊢
    refine ⟨_, rfl, s5b _ _ e5, [(.inr "kinds", .ref kd), (.inr "fields", .ref fdd), (.inr "words", .ref wd), (.inr "counts", .ref ct)], rfl, (by show 4 ≤ 15; decide), ?_⟩
    have s6 := same_mut (o := .dK (mergeK [] [(.inr "kinds", .ref kd), (.inr "fields", .ref fdd), (.inr "words", .ref wd), (.inr "counts", .ref ct)])) (s5.trans s5b) hsc
    have e6 : upd H5b sc (.dK (mergeK [] [(.inr "kinds", .ref kd), (.inr "fields", .ref fdd), (.inr "words", .ref wd), (.inr "counts", .ref ct)])) sc = some (.dK (mergeK [] [(.inr "kinds", .ref kd), (.inr "fields", .ref fdd), (.inr "words", .ref wd), (.inr "counts", .ref ct)])) := upd_same
    have ewd : upd H5b sc (.dK (mergeK [] [(.inr "kinds", .ref kd), (.inr "fields", .ref fdd), (.inr "words", .ref wd), (.inr "counts", .ref ct)])) wd = some (.lst ((List.range 5).map fun i => V.str (W.at (6 + i)))) := by rw [upd_ne nws]; exact ewd'
    generalize upd H5b sc (.dK (mergeK [] [(.inr "kinds", .ref kd), (.inr "fields", .ref fdd), (.inr "words", .ref wd), (.inr "counts", .ref ct)])) = H6 at s6 e6 ewd ⊢
    have hL6 := s6 _ _ hL4
    refine ⟨_, rfl, .inr (.inr (.inl ⟨rfl, .inl ⟨_, e6⟩⟩)), fun p2 p20 => ?_⟩
    have nsp : sc ≠ p2 := ne_of_none e6 p20
    have nw2 : wd ≠ p2 := ne_of_none ewd p20
    have s7 := same_new (Same.refl H6) p20 (o := .dK [])
    have hp27 : upd H6 p2 (.dK []) p2 = some (.dK []) := upd_same
    have hP7 : Pen (upd H6 p2 (.dK [])) p c ns (n + 29) := hP4.but (sameBut (s6.trans s7) fun _ => False) id id
    generalize upd H6 p2 (.dK []) = H7 at s7 hp27 hP7 ⊢
    obtain ⟨z0, hz0⟩ : ∃ z0, atI (cs.map V.int) 0 = some (V.int z0) := by
      obtain ⟨a, b, c', d, e, rfl, _⟩ := hcs
      exact ⟨a, atI_int (by decide) rfl⟩
    refine ⟨_, rfl, _, rfl, ct, _, _, _, rfl, rfl, SqL.of ((s6.trans s7) _ _ hct), hz0, rfl, _, rfl, ite2 (fun _ => ?_) (fun _ => ?_)⟩
    · refine ⟨_, rfl, _, rfl, _, rfl, l, _, rfl, SqL.of (s7 _ _ hL6), fun vd hvd => ?_⟩
      rw [show cutV (W.list 16) (some 3) (some 8) = ((List.range 5).map fun j => W.at (3 + j)).map V.str from rfl]
      have s8' := same_new (Same.refl H7) hvd (o := .lst (((List.range 5).map fun j => W.at (3 + j)).map V.str))
      have e8 : upd H7 vd (.lst (((List.range 5).map fun j => W.at (3 + j)).map V.str)) vd = some (.lst (((List.range 5).map fun j => W.at (3 + j)).map V.str)) := upd_same
      have nvp : vd ≠ p := (hP7.fresh hvd).1
      have nvs : vd ≠ sc := (ne_of_none (s7 _ _ e6) hvd).symm
      have nv2 : vd ≠ p2 := (ne_of_none hp27 hvd).symm
      generalize upd H7 vd (.lst (((List.range 5).map fun j => W.at (3 + j)).map V.str)) = H8 at s8' e8 ⊢
      have s8 := s7.trans s8'
      refine ⟨s8' _ _ hp27, [(.inr "to", to), (.inr "left", .int 0), (.inr "vars", .ref vd)], rfl, (by show 3 ≤ 15; decide), ?_⟩
      refine ⟨sc, p2, _, _, rfl, rfl, nsp, (by rw [upd_ne nsp]; exact s8 _ _ e6), upd_same, (by show 4 + 3 ≤ sizeLine; decide), ?_⟩
      have sF : Same H4 (upd (upd H8 p2 (.dK (mergeK [] [(.inr "to", to), (.inr "left", .int 0), (.inr "vars", .ref vd)]))) sc (.dK (mergeK (mergeK [] [(.inr "kinds", .ref kd), (.inr "fields", .ref fdd), (.inr "words", .ref wd), (.inr "counts", .ref ct)]) (mergeK [] [(.inr "to", to), (.inr "left", .int 0), (.inr "vars", .ref vd)])))) := same_mut (same_mut (s6.trans s8) (s6.free p20)) hsc
      have kp : ∀ (a : Addr) (o : HO), a ≠ sc → a ≠ p2 → H8 a = some o → upd (upd H8 p2 (.dK (mergeK [] [(.inr "to", to), (.inr "left", .int 0), (.inr "vars", .ref vd)]))) sc (.dK (mergeK (mergeK [] [(.inr "kinds", .ref kd), (.inr "fields", .ref fdd), (.inr "words", .ref wd), (.inr "counts", .ref ct)]) (mergeK [] [(.inr "to", to), (.inr "left", .int 0), (.inr "vars", .ref vd)]))) a = some o := fun a o n1 n2 e => by
        rw [upd_ne n1, upd_ne n2]
        exact e
      refine ⟨_, rfl, go sc ⟨W, kk, m, cs, to, (List.range 5).map fun j => W.at (3 + j)⟩ _ rfl ⟨⟨hW, ⟨kk1, kk3⟩, hm, hcs, .inl rfl⟩, ⟨kd, fdd, wd, ct, vd, fl, 0, upd_same, sF _ _ hkd4, sF _ _ hfd4, fun i hi => ⟨?_, (hfl i hi).2⟩, kp _ _ nws nw2 (s8 _ _ ewd), sF _ _ hct, kp _ _ nvs nv2 e8, nscp, nkd, nfd, nwp, nct, nvp⟩⟩ (b1.free hscF nscp) ?_ ?_⟩
      · have q := sF _ _ (hfl4 i hi)
        rw [q]
        simp [ScD.fs]
      · exact (hP4.but (sameBut sF fun _ => False) id id).mono (by omega)
      · exact (b1.trans b14).trans (sameBut sF _)
    · refine ⟨_, rfl, _, rfl, l, _, rfl, SqL.of (s7 _ _ hL6), fun vd hvd => ?_⟩
      rw [show cutV (W.list 16) (some 11) none = ((List.range 5).map fun j => W.at (11 + j)).map V.str from rfl]
      have s8' := same_new (Same.refl H7) hvd (o := .lst (((List.range 5).map fun j => W.at (11 + j)).map V.str))
      have e8 : upd H7 vd (.lst (((List.range 5).map fun j => W.at (11 + j)).map V.str)) vd = some (.lst (((List.range 5).map fun j => W.at (11 + j)).map V.str)) := upd_same
      have nvp : vd ≠ p := (hP7.fresh hvd).1
      have nvs : vd ≠ sc := (ne_of_none (s7 _ _ e6) hvd).symm
      have nv2 : vd ≠ p2 := (ne_of_none hp27 hvd).symm
      generalize upd H7 vd (.lst (((List.range 5).map fun j => W.at (11 + j)).map V.str)) = H8 at s8' e8 ⊢
      have s8 := s7.trans s8'
      refine ⟨s8' _ _ hp27, [(.inr "to", to), (.inr "left", .int 0), (.inr "vars", .ref vd)], rfl, (by show 3 ≤ 15; decide), ?_⟩
      refine ⟨sc, p2, _, _, rfl, rfl, nsp, (by rw [upd_ne nsp]; exact s8 _ _ e6), upd_same, (by show 4 + 3 ≤ sizeLine; decide), ?_⟩
      have sF : Same H4 (upd (upd H8 p2 (.dK (mergeK [] [(.inr "to", to), (.inr "left", .int 0), (.inr "vars", .ref vd)]))) sc (.dK (mergeK (mergeK [] [(.inr "kinds", .ref kd), (.inr "fields", .ref fdd), (.inr "words", .ref wd), (.inr "counts", .ref ct)]) (mergeK [] [(.inr "to", to), (.inr "left", .int 0), (.inr "vars", .ref vd)])))) := same_mut (same_mut (s6.trans s8) (s6.free p20)) hsc
      have kp : ∀ (a : Addr) (o : HO), a ≠ sc → a ≠ p2 → H8 a = some o → upd (upd H8 p2 (.dK (mergeK [] [(.inr "to", to), (.inr "left", .int 0), (.inr "vars", .ref vd)]))) sc (.dK (mergeK (mergeK [] [(.inr "kinds", .ref kd), (.inr "fields", .ref fdd), (.inr "words", .ref wd), (.inr "counts", .ref ct)]) (mergeK [] [(.inr "to", to), (.inr "left", .int 0), (.inr "vars", .ref vd)]))) a = some o := fun a o n1 n2 e => by
        rw [upd_ne n1, upd_ne n2]
        exact e
      refine ⟨_, rfl, go sc ⟨W, kk, m, cs, to, (List.range 5).map fun j => W.at (11 + j)⟩ _ rfl ⟨⟨hW, ⟨kk1, kk3⟩, hm, hcs, .inr rfl⟩, ⟨kd, fdd, wd, ct, vd, fl, 0, upd_same, sF _ _ hkd4, sF _ _ hfd4, fun i hi => ⟨?_, (hfl i hi).2⟩, kp _ _ nws nw2 (s8 _ _ ewd), sF _ _ hct, kp _ _ nvs nv2 e8, nscp, nkd, nfd, nwp, nct, nvp⟩⟩ (b1.free hscF nscp) ?_ ?_⟩
      · have q := sF _ _ (hfl4 i hi)
        rw [q]
        simp [ScD.fs]
      · exact (hP4.but (sameBut sF fun _ => False) id id).mono (by omega)
      · exact (b1.trans b14).trans (sameBut sF _)
end
end K3
namespace K3
open PySem PySem.Spec PyProof.Rows L2 GG
/-! ### drawn plans: a value -/
def opsX : List Str := ["plus", "times", "less", "same"]
/-- an X as it is drawn: of fields fs, vars kn, of nesting below n -/
def WfX (fs kn : List Str) : Nat → PyData → Prop
  | 0, _ => False
  | n + 1, x => (∃ v, v ∈ kn ∧ x = .tuple [.str "var", .str v]) ∨ (∃ f, f ∈ fs ∧ x = .tuple [.str "own", .str f]) ∨ x = .tuple [.str "me"] ∨ (∃ d, PlainD d ∧ x = .tuple [.str "is", d]) ∨
      (∃ t k, 0 ≤ k ∧ k < 3 ∧ WfX fs kn n t ∧ x = .tuple [.str "at", t, .int k]) ∨ (∃ ts, ts.length ≤ 2 ∧ (∀ t ∈ ts, WfX fs kn n t) ∧ x = .tuple (.str "row" :: ts)) ∨
      (∃ o t i, o ∈ opsX ∧ 0 ≤ i ∧ i < 9 ∧ WfX fs kn n t ∧ x = .tuple [.str o, .tuple [.str "is", .int i], t])
theorem subOne (e : Nat) : (((e + 1 : Nat) : Int) - 1) = (e : Int) := by omega
theorem dgS {H : Hp} {kd : Addr} {kvs : List (Key × V)} {z : Str} {w : V} (h : H kd = some (.dK kvs)) (e : valV kvs (.inr z) = some w) : DGet H kd (.str z) (some w) := by
  rw [← e]
  exact DGet.k (k := Sum.inr z) h
theorem shapedS {l : List Str} (h : ∀ z ∈ l, PyData.strOk z = true) : SeqAt.shaped (.list (l.map PyData.str)) = true := by
  have all : PyData.canLayAll0 (l.map PyData.str) = true ∧ PyData.depthAll (l.map PyData.str) = 0 := by
    induction l with
    | nil => exact ⟨by simp [PyData.canLayAll0], by simp [PyData.depthAll]⟩
    | cons a r ih =>
      obtain ⟨q1, q2⟩ := ih fun e he => h e (List.mem_cons_of_mem _ he)
      exact ⟨by simp only [List.map_cons, PyData.canLayAll0, PyData.canLay0, h a (List.mem_cons_self ..), q1, Bool.and_self], by simp only [List.map_cons, PyData.depthAll, PyData.depth, q2, Nat.max_self]⟩
  have e1 : PyData.canLay0 (.list (l.map PyData.str)) = true := by simp only [PyData.canLay0, all.1]
  have e2 : PyData.depth (.list (l.map PyData.str)) ≤ 64 := by simp only [PyData.depth]; omega
  exact Bool.and_eq_true_iff.mpr ⟨e1, decide_eq_true e2⟩
theorem dpS {K : PySem.W.Frag} {H : Hp} : ∀ l : List Str, DpAll K H (l.map V.str) (l.map PyData.str)
  | [] => .nil
  | z :: l => .cons (.str z) (dpS l)
theorem eqvS (l : List Str) : (!PyData.eqv (.list (l.map PyData.str)) (.list [])) = decide (l ≠ []) := by
  cases l with
  | nil => decide +kernel
  | cons a r => simp [PyData.eqv, PyData.eqvAll]
/-- a scene: its list of fields for a kind -/
structure ScF (H : Hp) (p sc : Addr) (br : Str) (fs : List Str) : Prop where
  ex : ∃ (kvs fvs : List (Key × V)) (fd fl : Addr), H sc = some (.dK kvs) ∧ valV kvs (.inr "fields") = some (.ref fd) ∧ H fd = some (.dK fvs) ∧ valV fvs (.inr br) = some (.ref fl) ∧ H fl = some (.lst (fs.map V.str)) ∧ sc ≠ p ∧ fd ≠ p ∧ fl ≠ p
  few : fs.length ≤ 100
  ok : ∀ f ∈ fs, PyData.strOk f = true
theorem ScF.but {H H' : Hp} {p sc : Addr} {br : Str} {fs : List Str} (h : ScF H p sc br fs) (b : But (· = p) H H') : ScF H' p sc br fs := by
  obtain ⟨kvs, fvs, fd, fl, h1, h2, h3, h4, h5, n1, n2, n3⟩ := h.ex
  exact ⟨⟨kvs, fvs, fd, fl, b _ _ n1 h1, h2, b _ _ n2 h3, h4, b _ _ n3 h5, n1, n2, n3⟩, h.few, h.ok⟩
/-- so many draws at the most -/
def drV : Nat → Nat
  | 0 => 0
  | n + 1 => 7 + 2 * drV n
def spVal (k : Nat) : Sp := fun vs H Q _ => ∃ (p c sc kl : Addr) (ns : List Int) (n d : Nat) (br : Str) (fs kn : List Str), k = d + 1 ∧ vs = [.ref p, .ref sc, .str br, .ref kl, .int d] ∧ Pen H p c ns n ∧ n + drV k ≤ 900000000 ∧ ScF H p sc br fs ∧ H kl = some (.lst (kn.map V.str)) ∧ kn.length ≤ 100 ∧ (∀ f ∈ kn, PyData.strOk f = true) ∧
  ∀ (v : V) (x : PyData) (H' : Hp), Dt H' v x → WfX fs kn k x → Pen H' p c ns (n + drV k) → But (· = p) H H' → Q v H'
abbrev sVal : Stmt := top 17
abbrev nVl : List Str := ["_law_pen_here", "_law_scene_here", "_law_breed", "_law_known", "_law_deep", "_law_lot", "_law_slots", "_law_some", "_law_term", "_law_k"]
theorem scVl : FnScope nVl ["_law_pen_here", "_law_scene_here", "_law_breed", "_law_known", "_law_deep"] (defScope sVal) := ⟨rfl, rfl, rfl, by decide +kernel, rfl, by decide +kernel, by decide +kernel⟩
section
variable {P : Program} {w : World} {K : PySem.W.Frag} {mg : Str → Option Value} {base : Heap}
theorem ok_val {f : Addr} {fd : FuncData} {k : Nat} (F : Fun K "_law_value" "_law_value" sVal f fd) (T : Txt mg) (mf : mg "_law_value" = some (.ref f)) (bf : Binds K fd ["_law_pen_here", "_law_scene_here", "_law_breed", "_law_known", "_law_deep"] [])
    (CD : Cal P w K mg base "_law_draw" 1 ["_law_pen_here", "_law_many"] spDraw) (CP : Cal P w K mg base "_law_pick" 2 ["_law_pen_here", "_law_some"] spPick) (CL : Cal P w K mg base "_law_plain" 3 ["_law_pen_here"] spPlain)
    (G : FnOk P w K mg base CX0 (k + 3) f fd ["_law_pen_here", "_law_scene_here", "_law_breed", "_law_known", "_law_deep"] (spVal k)) : FnOk P w K mg base CX0 (k + 4) f fd ["_law_pen_here", "_law_scene_here", "_law_breed", "_law_known", "_law_deep"] (spVal (k + 1)) := by
  obtain ⟨fD, fdD, mD, kD, bD, GD⟩ := CD
  obtain ⟨fP, fdP, mP, kP, bP, GP⟩ := CP
  obtain ⟨fL, fdL, mL, kL, bL, GL⟩ := CL
  refine F.ok scVl (fun vs H Q E h => ?_) (fun cdv A outer s H vs Q E hr h => ?_)
  · obtain ⟨p, c, sc, kl, ns, n, d, br, fs, kn, _, rfl, _⟩ := h
    rfl
  · obtain ⟨p, c, sc, kl, ns, n, d, br, fs, kn, ed, rfl, hP, hn, hS, hkl, few, okn, go⟩ := h
    have nd := scVl.nd
    have hu := hu_of hr
    have hr1 : Room 1 _ := hr.mono (by omega)
    have hr2 : Room 2 _ := hr.mono (by omega)
    have hr3 : Room 3 _ := hr.mono (by omega)
    refine ⟨_, pss_cons (ps_par (i := 5) (j := 6) rfl nd rfl rfl (by decide) rfl rfl (pa_cons (pe_call GD hr1 (by rfl) mD kD bD .nil pass0 (pa_cons (pv 0) (pa_cons pe_int pa_nil))) (pa_cons (pe_dget hu (pe_dget hu (pv 1) pe_str (fun _ _ => rfl)) (pv 2) (fun _ _ => rfl)) pa_nil)) (by rfl))
      (C8.pss_cut (ps_if (PW.pt (pw_and (pt_cmpR op_lt (pv 5) pe_int (nomark _)) (pw_and1 (pt_cmpR (op_neD hr.units) (pv 3) (pe_lst pa_nil) (nomark _))))) (pss_one (ps_ret (pe_tup (pa_cons pe_str (pa_cons (pe_call GP hr2 (by rfl) mP kP bP .nil pass0 (pa_cons (pv 0) (pa_cons (pv 3) pa_nil))) pa_nil))))) pss_nil)
      (C8.pss_cut (ps_if (PW.pt (pw_and (pt_cmpR op_lt (pv 5) pe_int (nomark _)) (pw_and1 (pt_cmpR (op_neD hr.units) (pv 6) (pe_lst pa_nil) (nomark _))))) (pss_one (ps_ret (pe_tup (pa_cons pe_str (pa_cons (pe_call GP hr2 (by rfl) mP kP bP .nil pass0 (pa_cons (pv 0) (pa_cons (pv 6) pa_nil))) pa_nil))))) pss_nil)
      (C8.pss_cut (ps_if (pt_cmpR op_eq (pv 5) pe_int (nomark _)) (pss_one (ps_ret (pe_tup (pa_cons pe_str pa_nil)))) pss_nil)
      (C8.pss_cut (ps_if (PW.pt (pw_or (pt_cmpR op_lt (pv 5) pe_int (nomark _)) (pw_or1 (pt_cmpR op_eq (pv 4) pe_int (nomark _))))) (pss_one (ps_ret (pe_tup (pa_cons pe_str (pa_cons (pe_call GL hr3 (by rfl) mL kL bL .nil pass0 (pa_cons (pv 0) pa_nil)) pa_nil))))) pss_nil)
      (C8.pss_cut (ps_if (pt_cmpR op_eq (pv 5) pe_int (nomark _)) (pss_one (ps_ret (pe_tup (pa_cons pe_str (pa_cons (pe_call G hr (by rfl) mf F.kp bf .nil pass0 (pa_cons (pv 0) (pa_cons (pv 1) (pa_cons (pv 2) (pa_cons (pv 3) (pa_cons (pe_op op_sub (pv 4) pe_int) pa_nil)))))) (pa_cons (pe_call GD hr1 (by rfl) mD kD bD .nil pass0 (pa_cons (pv 0) (pa_cons pe_int pa_nil))) pa_nil)))))) pss_nil)
      (C8.pss_cut (ps_if (pt_cmpR op_eq (pv 5) pe_int (nomark _)) (pss_cons (ps_setLc (i := 7) (own := [("_law_k", 9)]) (g := gName 9) (tt := tYes) rfl nd rfl rfl (sw_true rfl rfl rfl (by decide +kernel)) (pi_range1 rfl T.range (pa_cons (pe_call GD hr1 (by rfl) mD kD bD .nil pass0 (pa_cons (pv 0) (pa_cons pe_int pa_nil))) pa_nil))
            (blkOk_by (N := nVl) (sc := defScope sVal) (by decide +kernel)) (fun _ _ _ _ _ => pg_name (i := 9) nd rfl (Or.inl rfl)) (fun _ _ _ _ _ => pts_nil)
            (fun _ _ _ _ _ => (pe_call G hr (by rfl) mf F.kp bf .nil pass0 (pa_cons (pv 0) (pa_cons (pv 1) (pa_cons (pv 2) (pa_cons (pv 3) (pa_cons (pe_op op_sub (pv 4) pe_int) pa_nil))))))))
          (pss_one (ps_ret (pe_op op_catA (pe_tup (pa_cons pe_str pa_nil)) (pe_callTy call_tuple_of (by rfl) T.tuple (by decide +kernel) (pa_cons (pv 7) pa_nil)))))) pss_nil)
      (pss_cons (ps_set (i := 8) nd rfl (.inl rfl) (pe_call GP hr2 (by rfl) mP kP bP .nil pass0 (pa_cons (pv 0) (pa_cons (pe_lst (pa_cons pe_str (pa_cons pe_str (pa_cons pe_str (pa_cons pe_str pa_nil))))) pa_nil))))
      (pss_one (ps_ret (pe_tup (pa_cons (pv 8) (pa_cons (pe_tup (pa_cons pe_str (pa_cons (pe_call GD hr1 (by rfl) mD kD bD .nil pass0 (pa_cons (pv 0) (pa_cons pe_int pa_nil))) pa_nil))) (pa_cons (pe_call G hr (by rfl) mf F.kp bf .nil pass0 (pa_cons (pv 0) (pa_cons (pv 1) (pa_cons (pv 2) (pa_cons (pv 3) (pa_cons (pe_op op_sub (pv 4) pe_int) pa_nil)))))) pa_nil))))))))))))), ?_⟩
    obtain rfl : k = d := Nat.succ.inj ed
    have e7 : drV (k + 1) = 7 + 2 * drV k := rfl
    refine ⟨_, rfl, p, c, ns, _, 14, rfl, hP, by omega, by decide, by decide, fun lot H1 l0 l14 hP1 b1 => ?_⟩
    have S1 := hS.but b1
    have k1 := b1 _ _ (hP.ne hkl) hkl
    obtain ⟨kvs, fvs, fd, fl, h1, h2, h3, h4, h5, n1, n2, n3⟩ := S1.ex
    refine ⟨_, rfl, sc, _, rfl, dgS h1 h2, _, rfl, fd, _, rfl, dgS h3 h4, _, _, rfl, ?_⟩
    have sb := Same.refl H1
    -- a var
    refine ⟨fun σ' H' => σ' = [some (.ref p), some (.ref sc), some (.str br), some (.ref kl), some (.int k), some (.int lot), some (.ref fl), none, none, none] ∧ Same H1 H', ?_, ?_⟩
    · refine ⟨_, rfl, _, _, rfl, rfl, _, rfl, ite2 (fun _ => ?_) (fun _ => ⟨rfl, sb⟩)⟩
      refine ⟨_, rfl, Nat.zero_le _, fun l hl => ?_⟩
      have sa := sb.trans (same_new (Same.refl H1) hl (o := .lst []))
      have el : upd H1 l (.lst []) l = some (.lst []) := upd_same
      generalize upd H1 l (.lst []) = Ha at sa el ⊢
      refine ⟨.list (kn.map PyData.str), .list [], .lst (SqL.of (sa _ _ k1)) (dpS _), .lst (SqL.of el) .nil, shapedS okn, by decide +kernel, _, rfl, ?_⟩
      rw [eqvS]
      have hPa := hP1.but (sameBut sa fun _ => False) id id
      have ba := b1.trans (sameBut sa _)
      refine ite2 (fun ne => ?_) (fun _ => ⟨rfl, sa⟩)
      · have ll := hS.few
        refine ⟨_, rfl, _, rfl, p, c, ns, _, _, kn.map V.str, rfl, hPa, by omega, ⟨by rw [List.length_map]; exact List.length_pos_iff.mpr (of_decide_eq_true ne), by rw [List.length_map]; omega, .inl ⟨kl, rfl, .inl (sa _ _ k1)⟩⟩, fun v H2 hv hP2 b2 => ?_⟩
        obtain ⟨z, hz, rfl⟩ := List.mem_map.mp hv
        refine ⟨(by show 2 ≤ sizeLine; decide), fun t ht => ?_⟩
        have s3 := same_new (Same.refl H2) ht (o := .tup [.str "var", .str z])
        exact go _ _ _ (.tup upd_same (.cons (.str _) (.cons (.str _) .nil))) (.inl ⟨z, hz, rfl⟩) ((hP2.but (sameBut s3 fun _ => False) id id).mono (by omega)) ((ba.trans b2).trans (sameBut s3 _))
    rintro _ Hb ⟨rfl, sb⟩
    -- a field
    refine ⟨fun σ' H' => σ' = [some (.ref p), some (.ref sc), some (.str br), some (.ref kl), some (.int k), some (.int lot), some (.ref fl), none, none, none] ∧ Same H1 H', ?_, ?_⟩
    · refine ⟨_, rfl, _, _, rfl, rfl, _, rfl, ite2 (fun _ => ?_) (fun _ => ⟨rfl, sb⟩)⟩
      refine ⟨_, rfl, Nat.zero_le _, fun l hl => ?_⟩
      have sa := sb.trans (same_new (Same.refl Hb) hl (o := .lst []))
      have el : upd Hb l (.lst []) l = some (.lst []) := upd_same
      generalize upd Hb l (.lst []) = Ha at sa el ⊢
      refine ⟨.list (fs.map PyData.str), .list [], .lst (SqL.of (sa _ _ h5)) (dpS _), .lst (SqL.of el) .nil, shapedS hS.ok, by decide +kernel, _, rfl, ?_⟩
      rw [eqvS]
      have hPa := hP1.but (sameBut sa fun _ => False) id id
      have ba := b1.trans (sameBut sa _)
      refine ite2 (fun ne => ?_) (fun _ => ⟨rfl, sa⟩)
      · have ll := hS.few
        refine ⟨_, rfl, _, rfl, p, c, ns, _, _, fs.map V.str, rfl, hPa, by omega, ⟨by rw [List.length_map]; exact List.length_pos_iff.mpr (of_decide_eq_true ne), by rw [List.length_map]; omega, .inl ⟨fl, rfl, .inl (sa _ _ h5)⟩⟩, fun v H2 hv hP2 b2 => ?_⟩
        obtain ⟨z, hz, rfl⟩ := List.mem_map.mp hv
        refine ⟨(by show 2 ≤ sizeLine; decide), fun t ht => ?_⟩
        have s3 := same_new (Same.refl H2) ht (o := .tup [.str "own", .str z])
        exact go _ _ _ (.tup upd_same (.cons (.str _) (.cons (.str _) .nil))) (.inr (.inl ⟨z, hz, rfl⟩)) ((hP2.but (sameBut s3 fun _ => False) id id).mono (by omega)) ((ba.trans b2).trans (sameBut s3 _))
    rintro _ Hc ⟨rfl, sb⟩
    -- me
    refine ⟨fun σ' H' => σ' = [some (.ref p), some (.ref sc), some (.str br), some (.ref kl), some (.int k), some (.int lot), some (.ref fl), none, none, none] ∧ Same H1 H', ?_, ?_⟩
    · refine ⟨_, rfl, rfl, _, rfl, ite2 (fun _ => ?_) (fun _ => ⟨rfl, sb⟩)⟩
      refine ⟨(by show 1 ≤ sizeLine; decide), fun t ht => ?_⟩
      have sa := sb.trans (same_new (Same.refl Hc) ht (o := .tup [.str "me"]))
      exact go _ _ _ (.tup upd_same (.cons (.str _) .nil)) (.inr (.inr (.inl rfl))) ((hP1.but (sameBut sa fun _ => False) id id).mono (by omega)) (b1.trans (sameBut sa _))
    rintro _ Hd ⟨rfl, sb⟩
    have hPd := hP1.but (sameBut sb fun _ => False) id id
    have bd := b1.trans (sameBut sb _)
    -- a plain worth
    refine ⟨fun σ' H' => σ' = [some (.ref p), some (.ref sc), some (.str br), some (.ref kl), some (.int k), some (.int lot), some (.ref fl), none, none, none] ∧ Hd = H' ∧ k ≠ 0, ?_, ?_⟩
    · refine ⟨_, rfl, _, _, rfl, rfl, _, rfl, ite2 (fun _ => ?_) (fun _ => ⟨_, rfl, rfl, _, rfl, ite2 (fun _ => ?_) (fun ne => ⟨rfl, rfl, fun z => ne (by rw [z]; exact decide_eq_true rfl)⟩)⟩)⟩
      · refine ⟨_, rfl, p, c, ns, _, rfl, hPd, by omega, fun v d H2 hv pd hP2 b2 => ⟨(by show 2 ≤ sizeLine; decide), fun t ht => ?_⟩⟩
        have s3 := same_new (Same.refl H2) ht (o := .tup [.str "is", v])
        exact go _ _ _ (.tup upd_same (.cons (.str _) (.cons (hv.mono (sameTups s3)) .nil))) (.inr (.inr (.inr (.inl ⟨d, pd, rfl⟩)))) ((hP2.but (sameBut s3 fun _ => False) id id).mono (by omega)) ((bd.trans b2).trans (sameBut s3 _))
      · refine ⟨_, rfl, p, c, ns, _, rfl, hPd, by omega, fun v d H2 hv pd hP2 b2 => ⟨(by show 2 ≤ sizeLine; decide), fun t ht => ?_⟩⟩
        have s3 := same_new (Same.refl H2) ht (o := .tup [.str "is", v])
        exact go _ _ _ (.tup upd_same (.cons (.str _) (.cons (hv.mono (sameTups s3)) .nil))) (.inr (.inr (.inr (.inl ⟨d, pd, rfl⟩)))) ((hP2.but (sameBut s3 fun _ => False) id id).mono (by omega)) ((bd.trans b2).trans (sameBut s3 _))
    rintro _ _ ⟨rfl, rfl, k0⟩
    obtain ⟨e, rfl⟩ : ∃ e, k = e + 1 := ⟨k - 1, by omega⟩
    have sd := S1.but (sameBut sb _)
    have kd := sb _ _ k1
    -- a part
    refine ⟨fun σ' H' => σ' = [some (.ref p), some (.ref sc), some (.str br), some (.ref kl), some (.int ((e + 1 : Nat) : Int)), some (.int lot), some (.ref fl), none, none, none] ∧ Hd = H', ?_, ?_⟩
    · refine ⟨_, rfl, rfl, _, rfl, ite2 (fun _ => ?_) (fun _ => ⟨rfl, rfl⟩)⟩
      refine ⟨_, rfl, _, rfl, _, rfl, _, rfl, _, rfl, _, _, rfl, rfl, p, c, sc, kl, ns, _, e, br, fs, kn, rfl, (by show [V.ref p, V.ref sc, V.str br, V.ref kl, V.int (((e + 1 : Nat) : Int) - 1)] = _; rw [subOne]), hPd, by omega, sd, kd, few, okn, fun v x H2 hv wx hP2 b2 => ?_⟩
      refine ⟨_, rfl, p, c, ns, _, 3, rfl, hP2, by omega, by decide, by decide, fun r H3 r0 r3 hP3 b3 => ⟨(by show 3 ≤ sizeLine; decide), fun t ht => ?_⟩⟩
      have s4 := same_new (Same.refl H3) ht (o := .tup [.str "at", v, .int r])
      exact go _ _ _ (.tup upd_same (.cons (.str _) (.cons ((hv.mono (hP2.tups b3)).mono (sameTups s4)) (.cons (.int _) .nil)))) (.inr (.inr (.inr (.inr (.inl ⟨x, r, r0, r3, wx, rfl⟩))))) ((hP3.but (sameBut s4 fun _ => False) id id).mono (by omega)) (((bd.trans b2).trans b3).trans (sameBut s4 _))
    rintro _ _ ⟨rfl, rfl⟩
    -- a row
    refine ⟨fun σ' H' => σ' = [some (.ref p), some (.ref sc), some (.str br), some (.ref kl), some (.int ((e + 1 : Nat) : Int)), some (.int lot), some (.ref fl), none, none, none] ∧ Hd = H', ?_, ?_⟩
    · refine ⟨_, rfl, rfl, _, rfl, ite2 (fun _ => ?_) (fun _ => ⟨rfl, rfl⟩)⟩
      refine ⟨_, rfl, p, c, ns, _, 3, rfl, hPd, by omega, by decide, by decide, fun r H2 r0 r3 hP2 b2 => ⟨r, rfl, by omega, by omega, fun D hD => ?_⟩⟩
      have nD := hP2.fresh hD
      have few2 : r.toNat ≤ 2 := by omega
      refine lc_range (lo := 0) (n := r.toNat) (fun j H' => ∃ (us : List V) (xs : List PyData), H' D = some (.lst us) ∧ DtAll H' us xs ∧ xs.length = j ∧ (∀ x ∈ xs, WfX fs kn (e + 1) x) ∧ Pen H' p c ns (n + 2 + j * drV (e + 1)) ∧ But (· = p) H2 H') ?_ ?_ ?_
      · exact ⟨[], [], upd_same, .nil, rfl, fun x hx => absurd hx (by simp), (hP2.new hD).mono (by omega), (But.refl _ _).new hD⟩
      · rintro j H3 hj ⟨us, xs, hDa, al, lx, hx, hP3, b3⟩
        have bb := b2.trans b3
        have j1 : j ≤ 1 := by omega
        have jm : j * drV (e + 1) ≤ 1 * drV (e + 1) := Nat.mul_le_mul_right _ j1
        refine ⟨rfl, _, rfl, _, rfl, _, rfl, _, rfl, _, rfl, _, _, rfl, rfl, p, c, sc, kl, ns, _, e, br, fs, kn, rfl, (by show [V.ref p, V.ref sc, V.str br, V.ref kl, V.int (((e + 1 : Nat) : Int) - 1)] = _; rw [subOne]), hP3, by omega, sd.but bb, bb _ _ (hPd.ne kd) kd, few, okn, fun v x H4 hv wx hP4 b4 => ?_⟩
        have ll := al.length
        have hD4 := b4 _ _ (hP3.ne hDa) hDa
        have tm : Tups H4 (upd H4 D (.lst (us ++ [v]))) := (Tups.refl _).mut hD4 (by intro _ z; cases z)
        refine ⟨us, hD4, small1000 (by omega), us ++ [v], xs ++ [x], upd_same, ((al.mono (hP3.tups b4)).app (.cons hv .nil)).mono tm, by simp [lx], fun y q => ?_, (hP4.mut nD.1 nD.2).mono (by rw [Nat.succ_mul]; omega), (b3.trans b4).mutNew hD⟩
        rcases List.mem_append.mp q with q | q
        · exact hx y q
        · rw [List.mem_singleton.mp q]
          exact wx
      · rintro H3 ⟨us, xs, hDa, al, lx, hx, hP3, b3⟩
        have ll := al.length
        have jm : r.toNat * drV (e + 1) ≤ 2 * drV (e + 1) := Nat.mul_le_mul_right _ few2
        refine ⟨(by show 1 ≤ sizeLine; decide), fun t1 ht1 => ?_⟩
        have s4 := same_new (Same.refl H3) ht1 (o := .tup [.str "row"])
        have e4 : upd H3 t1 (.tup [.str "row"]) t1 = some (.tup [.str "row"]) := upd_same
        generalize upd H3 t1 (.tup [.str "row"]) = H4 at s4 e4 ⊢
        refine ⟨_, rfl, D, _, rfl, .inl ⟨SqL.of (s4 _ _ hDa), fun t2 ht2 => ?_⟩⟩
        have s5 := s4.trans (same_new (Same.refl H4) ht2 (o := .tup us))
        have s5' := same_new (Same.refl H4) ht2 (o := .tup us)
        have e5 : upd H4 t2 (.tup us) t2 = some (.tup us) := upd_same
        generalize upd H4 t2 (.tup us) = H5 at s5 s5' e5 ⊢
        have wf : WfX fs kn (e + 1 + 1) (.tuple (.str "row" :: xs)) := .inr (.inr (.inr (.inr (.inr (.inl ⟨xs, by omega, hx, rfl⟩)))))
        refine ⟨t1, t2, _, _, rfl, rfl, SqT.of (s5' _ _ e4), SqT.of e5, Nat.le_of_lt (small1000 (by show 1 + us.length ≤ 1000; omega)), (fun z => nomatch z), fun _ z => ?_, fun _ _ t3 ht3 => ?_⟩
        · subst z
          cases al
          exact go _ _ _ (.tup (s5' _ _ e4) (.cons (.str _) .nil)) wf ((hP3.but (sameBut s5 fun _ => False) id id).mono (by omega)) (((bd.trans b2).trans b3).trans (sameBut s5 _))
        · have s6 := s5.trans (same_new (Same.refl H5) ht3 (o := .tup ([.str "row"] ++ us)))
          exact go _ _ _ (.tup upd_same (.cons (.str _) (al.mono (sameTups s6)))) wf ((hP3.but (sameBut s6 fun _ => False) id id).mono (by omega)) (((bd.trans b2).trans b3).trans (sameBut s6 _))
    rintro _ _ ⟨rfl, rfl⟩
    -- two worths
    refine ⟨_, rfl, (by show 4 ≤ sizeLine; decide), fun l hl => ?_⟩
    have s2 := same_new (Same.refl Hd) hl (o := .lst [.str "plus", .str "times", .str "less", .str "same"])
    have hP2 := hPd.but (sameBut s2 fun _ => False) id id
    have e2 : upd Hd l (.lst [.str "plus", .str "times", .str "less", .str "same"]) l = some (.lst [.str "plus", .str "times", .str "less", .str "same"]) := upd_same
    generalize upd Hd l (.lst [.str "plus", .str "times", .str "less", .str "same"]) = H2 at s2 hP2 e2 ⊢
    refine ⟨p, c, ns, _, _, opsX.map V.str, rfl, hP2, by omega, ⟨by decide, by decide, .inl ⟨l, rfl, .inl e2⟩⟩, fun v H3 hv hP3 b3 => ?_⟩
    obtain ⟨o, ho, rfl⟩ := List.mem_map.mp hv
    refine ⟨_, rfl, _, rfl, p, c, ns, _, 9, rfl, hP3, by omega, by decide, by decide, fun r H4 r0 r9 hP4 b4 => ⟨(by show 2 ≤ sizeLine; decide), fun t1 ht1 => ?_⟩⟩
    have s5 := same_new (Same.refl H4) ht1 (o := .tup [.str "is", .int r])
    have hP5 := hP4.but (sameBut s5 fun _ => False) id id
    have e5 : upd H4 t1 (.tup [.str "is", .int r]) t1 = some (.tup [.str "is", .int r]) := upd_same
    generalize upd H4 t1 (.tup [.str "is", .int r]) = H5 at s5 hP5 e5 ⊢
    have bb := (((sameBut s2 (· = p)).trans b3).trans b4).trans (sameBut s5 _)
    refine ⟨_, rfl, _, rfl, _, rfl, _, rfl, _, rfl, _, _, rfl, rfl, p, c, sc, kl, ns, _, e, br, fs, kn, rfl, (by show [V.ref p, V.ref sc, V.str br, V.ref kl, V.int (((e + 1 : Nat) : Int) - 1)] = _; rw [subOne]), hP5, by omega, sd.but bb, bb _ _ (hPd.ne kd) kd, few, okn, fun v x H6 hv6 wx hP6 b6 => ?_⟩
    have e6 := b6 _ _ (hP5.neT e5) e5
    refine ⟨(by show 3 ≤ sizeLine; decide), fun t2 ht2 => ?_⟩
    have s7 := same_new (Same.refl H6) ht2 (o := .tup [.str o, .ref t1, v])
    exact go _ _ _ (.tup upd_same (.cons (.str _) (.cons (.tup (s7 _ _ e6) (.cons (.str _) (.cons (.int _) .nil))) (.cons (hv6.mono (sameTups s7)) .nil)))) (.inr (.inr (.inr (.inr (.inr (.inr ⟨o, x, r, ho, r0, r9, wx, rfl⟩))))))
      ((hP6.but (sameBut s7 fun _ => False) id id).mono (by omega)) (((bd.trans bb).trans b6).trans (sameBut s7 _))
end
end K3
namespace K3
open PySem PySem.Spec PyProof.Rows L2 GG
/-! ### drawn plans: values, something to call -/
def spVals : Sp := fun vs H Q _ => ∃ (p c sc kl : Addr) (ns : List Int) (n : Nat) (m : Int) (br : Str) (fs kn : List Str), vs = [.ref p, .ref sc, .str br, .ref kl, .int m] ∧ 0 ≤ m ∧ m ≤ 10 ∧ Pen H p c ns n ∧ n + 500 ≤ 900000000 ∧ ScF H p sc br fs ∧ H kl = some (.lst (kn.map V.str)) ∧ kn.length ≤ 100 ∧ (∀ f ∈ kn, PyData.strOk f = true) ∧
  ∀ (v : V) (xs : List PyData) (H' : Hp), Dt H' v (.tuple xs) → xs.length = m.toNat → (∀ x ∈ xs, WfX fs kn 3 x) → Pen H' p c ns (n + 500) → But (· = p) H H' → Q v H'
abbrev sVals : Stmt := top 18
abbrev nVs : List Str := ["_law_pen_here", "_law_scene_here", "_law_breed", "_law_known", "_law_many", "_law_k"]
theorem scVs : FnScope nVs ["_law_pen_here", "_law_scene_here", "_law_breed", "_law_known", "_law_many"] (defScope sVals) := ⟨rfl, rfl, rfl, by decide +kernel, rfl, by decide +kernel, by decide +kernel⟩
section
variable {P : Program} {w : World} {K : PySem.W.Frag} {mg : Str → Option Value} {base : Heap}
theorem ok_val0 {f : Addr} {fd : FuncData} {k : Nat} : FnOk P w K mg base CX0 k f fd ["_law_pen_here", "_law_scene_here", "_law_breed", "_law_known", "_law_deep"] (spVal 0) :=
  ⟨fun vs H Q E h => by
    obtain ⟨p, c, sc, kl, ns, n, d, br, fs, kn, z, _⟩ := h
    exact absurd z (by omega), fun A outer s0 H args us vs Q E _ _ _ _ h => by
    obtain ⟨p, c, sc, kl, ns, n, d, br, fs, kn, z, _⟩ := h
    exact absurd z (by omega)⟩
theorem ok_vals {f fv : Addr} {fd fdv : FuncData} (F : Fun K "_law_values" "_law_values" sVals f fd) (T : Txt mg) (mv : mg "_law_value" = some (.ref fv)) (kv : PySem.W.keepIn K (.ref fv) = true) (bv : Binds K fdv ["_law_pen_here", "_law_scene_here", "_law_breed", "_law_known", "_law_deep"] [])
    (G : FnOk P w K mg base CX0 6 fv fdv ["_law_pen_here", "_law_scene_here", "_law_breed", "_law_known", "_law_deep"] (spVal 3)) : FnOk P w K mg base CX0 7 f fd ["_law_pen_here", "_law_scene_here", "_law_breed", "_law_known", "_law_many"] spVals := by
  refine F.ok scVs (fun vs H Q E h => ?_) (fun cdv A outer s H vs Q E hr h => ?_)
  · obtain ⟨p, c, sc, kl, ns, n, m, br, fs, kn, rfl, _⟩ := h
    rfl
  · obtain ⟨p, c, sc, kl, ns, n, m, br, fs, kn, rfl, m0, m10, hP, hn, hS, hkl, few, okn, go⟩ := h
    have nd := scVs.nd
    refine ⟨_, pss_one (ps_ret (pe_callTy call_tuple_of (by rfl) T.tuple (by decide +kernel) (pa_cons (pe_lc (own := [("_law_k", 5)]) (g := gName 5) (tt := tYes) rfl nd (pi_range1 rfl T.range (pa_cons (pv 4) pa_nil))
      (blkOk_by (N := nVs) (sc := defScope sVals) (by decide +kernel)) (fun _ _ _ _ _ => pg_name (i := 5) nd rfl (Or.inl rfl)) (fun _ _ _ _ _ => pts_nil)
      (fun _ _ _ _ _ => pe_call G hr (by rfl) mv kv bv .nil pass0 (pa_cons (pv 0) (pa_cons (pv 1) (pa_cons (pv 2) (pa_cons (pv 3) (pa_cons pe_int pa_nil))))))) pa_nil))), ?_⟩
    have d3 : drV 3 = 49 := rfl
    refine ⟨_, rfl, m, rfl, by omega, by omega, fun D hD => ?_⟩
    have nD := hP.fresh hD
    refine lc_range (lo := 0) (n := m.toNat) (fun j H' => ∃ (us : List V) (xs : List PyData), H' D = some (.lst us) ∧ DtAll H' us xs ∧ xs.length = j ∧ (∀ x ∈ xs, WfX fs kn 3 x) ∧ Pen H' p c ns (n + 49 * j) ∧ But (· = p) H H') ?_ ?_ ?_
    · exact ⟨[], [], upd_same, .nil, rfl, fun x hx => absurd hx (by simp), hP.new hD, (But.refl _ _).new hD⟩
    · rintro j H3 hj ⟨us, xs, hDa, al, lx, hx, hP3, b3⟩
      have j10 : j < 10 := by omega
      refine ⟨rfl, _, rfl, _, rfl, _, rfl, _, rfl, p, c, sc, kl, ns, _, 2, br, fs, kn, rfl, rfl, hP3, by omega, hS.but b3, b3 _ _ (hP.ne hkl) hkl, few, okn, fun v x H4 hv wx hP4 b4 => ?_⟩
      have ll := al.length
      have hD4 := b4 _ _ (hP3.ne hDa) hDa
      have tm : Tups H4 (upd H4 D (.lst (us ++ [v]))) := (Tups.refl _).mut hD4 (by intro _ z; cases z)
      refine ⟨us, hD4, small1000 (by omega), us ++ [v], xs ++ [x], upd_same, ((al.mono (hP3.tups b4)).app (.cons hv .nil)).mono tm, by simp [lx], fun y q => ?_, (hP4.mut nD.1 nD.2).mono (by omega), (b3.trans b4).mutNew hD⟩
      rcases List.mem_append.mp q with q | q
      · exact hx y q
      · rw [List.mem_singleton.mp q]
        exact wx
    · rintro H3 ⟨us, xs, hDa, al, lx, hx, hP3, b3⟩
      refine ⟨D, us, rfl, .inl ⟨SqL.of hDa, fun t ht => ?_⟩⟩
      have s4 := same_new (Same.refl H3) ht (o := .tup us)
      exact go _ xs _ (.tup upd_same (al.mono (sameTups s4))) lx hx ((hP3.but (sameBut s4 fun _ => False) id id).mono (by omega)) (b3.trans (sameBut s4 _))
end
end K3
namespace K3
open PySem PySem.Spec PyProof.Rows L2 GG
/-! ### drawn plans: what is called -/
def varX (z : Str) : PyData := .tuple [.str "var", .str z]
def ownX (z : Str) : PyData := .tuple [.str "own", .str z]
def spHoldOf : Sp := fun vs H Q _ => ∃ (p c sc kl : Addr) (ns : List Int) (n : Nat) (br : Str) (fs kn : List Str), vs = [.ref p, .ref sc, .str br, .ref kl] ∧ Pen H p c ns n ∧ n + 1 ≤ 900000000 ∧ ScF H p sc br fs ∧ H kl = some (.lst (kn.map V.str)) ∧ kn.length ≤ 100 ∧
  ∀ (v : V) (x : PyData) (H' : Hp), Dt H' v x → (∀ m, WfX fs kn (m + 1) x) → Pen H' p c ns (n + 1) → But (· = p) H H' → Q v H'
abbrev sHoldOf : Stmt := top 19
abbrev nHo : List Str := ["_law_pen_here", "_law_scene_here", "_law_breed", "_law_known", "_law_some", "_law_term"]
theorem scHo : FnScope nHo ["_law_pen_here", "_law_scene_here", "_law_breed", "_law_known"] (defScope sHoldOf) := ⟨rfl, rfl, rfl, by decide +kernel, rfl, by decide +kernel, by decide +kernel⟩
section
variable {P : Program} {w : World} {K : PySem.W.Frag} {mg : Str → Option Value} {base : Heap}
theorem ok_holdOf {f : Addr} {fd : FuncData} (F : Fun K "_law_hold_of" "_law_hold_of" sHoldOf f fd) (T : Txt mg) (CP : Cal P w K mg base "_law_pick" 2 ["_law_pen_here", "_law_some"] spPick) :
    FnOk P w K mg base CX0 3 f fd ["_law_pen_here", "_law_scene_here", "_law_breed", "_law_known"] spHoldOf := by
  obtain ⟨fP, fdP, mP, kP, bP, GP⟩ := CP
  refine F.ok scHo (fun vs H Q E h => ?_) (fun cdv A outer s H vs Q E hr h => ?_)
  · obtain ⟨p, c, sc, kl, ns, n, br, fs, kn, rfl, _⟩ := h
    rfl
  · obtain ⟨p, c, sc, kl, ns, n, br, fs, kn, rfl, hP, hn, hS, hkl, few, go⟩ := h
    have nd := scHo.nd
    have hu := hu_of hr
    refine ⟨_, pss_cons (ps_set (i := 4) nd rfl (.inl rfl) (pe_op op_cat (pe_op op_rep (pe_lc (own := [("_law_term", 5)]) (g := gName 5) (tt := tYes) rfl nd (pi_list (pv 3))
        (blkOk_by (N := nHo) (sc := defScope sHoldOf) (by decide +kernel)) (fun _ _ _ _ _ => pg_name (i := 5) nd rfl (Or.inl rfl)) (fun _ _ _ _ _ => pts_nil) (fun _ _ _ _ _ => pe_tup (pa_cons pe_str (pa_cons (pv 5) pa_nil)))) pe_int) (pe_lst (pa_cons (pe_tup (pa_cons pe_str pa_nil)) pa_nil))))
      (pss_one (ps_ret (pe_call GP hr (by rfl) mP kP bP .nil pass0 (pa_cons (pv 0) (pa_cons (pe_op op_cat (pv 4) (pe_lc (own := [("_law_term", 5)]) (g := gName 5) (tt := tYes) rfl nd (pi_list (pe_dget hu (pe_dget hu (pv 1) pe_str (fun _ _ => rfl)) (pv 2) (fun _ _ => rfl)))
        (blkOk_by (N := nHo) (sc := defScope sHoldOf) (by decide +kernel)) (fun _ _ _ _ _ => pg_name (i := 5) nd rfl (Or.inl rfl)) (fun _ _ _ _ _ => pts_nil) (fun _ _ _ _ _ => pe_tup (pa_cons pe_str (pa_cons (pv 5) pa_nil))))) pa_nil))))), ?_⟩
    have ff := hS.few
    refine ⟨_, rfl, kl, rfl, ⟨_, SqL.of hkl⟩, fun D hD => ?_⟩
    refine lc_list (K := K) (a := kl) (xs := kn.map V.str) (fun j H' => Same H H' ∧ ∃ us, H' D = some (.lst us) ∧ us.length = j ∧ DtAll H' us ((kn.take j).map varX)) ?_ ?_ ?_ ?_
    · exact ⟨same_new (Same.refl _) hD, [], upd_same, rfl, .nil⟩
    · rintro j H' _ ⟨s', _⟩
      exact SqL.of (s' _ _ hkl)
    · rintro j x H' hj ⟨s', us, hDa, lu, al⟩
      rw [List.getElem?_map] at hj
      obtain ⟨z, hz, rfl⟩ := Option.map_eq_some_iff.mp hj
      have jl : j < kn.length := (List.getElem?_eq_some_iff.mp hz).1
      refine ⟨rfl, _, rfl, (by show 2 ≤ sizeLine; decide), fun t ht => ?_⟩
      have s2 := same_new (Same.refl H') ht (o := .tup [.str "var", .str z])
      have e2 : upd H' t (.tup [.str "var", .str z]) t = some (.tup [.str "var", .str z]) := upd_same
      generalize upd H' t (.tup [.str "var", .str z]) = H2 at s2 e2 ⊢
      have tm : Tups H2 (upd H2 D (.lst (us ++ [.ref t]))) := (Tups.refl _).mut (s2 _ _ hDa) (by intro _ z; cases z)
      refine ⟨us, s2 _ _ hDa, small1000 (by omega), same_mut (s'.trans s2) hD, us ++ [.ref t], upd_same, by simp [lu], ?_⟩
      rw [List.take_add_one, hz, List.map_append]
      exact ((al.mono (sameTups s2)).app (.cons (.tup e2 (.cons (.str _) (.cons (.str _) .nil))) .nil)).mono tm
    · rintro H1 ⟨s1, us, hDa, lu, al⟩
      rw [List.length_map] at lu
      rw [List.length_map, List.take_length] at al
      have nr : (List.replicate (2 : Int).toNat us).flatten = us ++ us := by
        show (List.replicate 2 us).flatten = us ++ us
        simp [List.replicate]
      refine ⟨D, 2, us, rfl, rfl, hDa, by decide, by decide, Nat.le_of_lt (small1000 (by show us.length * 2 ≤ 1000; omega)), fun q hq => ?_⟩
      rw [nr]
      have s2 := s1.trans (same_new (Same.refl H1) hq (o := .lst (us ++ us)))
      have e2 : upd H1 q (.lst (us ++ us)) q = some (.lst (us ++ us)) := upd_same
      have al2 := (al.app al).mono (sameTups (same_new (Same.refl H1) hq (o := .lst (us ++ us))))
      generalize upd H1 q (.lst (us ++ us)) = H2 at s2 e2 al2 ⊢
      refine ⟨(by show 1 ≤ sizeLine; decide), fun t ht => ?_⟩
      have s3' := same_new (Same.refl H2) ht (o := .tup [.str "me"])
      have e3 : upd H2 t (.tup [.str "me"]) t = some (.tup [.str "me"]) := upd_same
      generalize upd H2 t (.tup [.str "me"]) = H3 at s3' e3 ⊢
      refine ⟨(by show 1 ≤ sizeLine; decide), fun l hl => ?_⟩
      have s4' := same_new (Same.refl H3) hl (o := .lst [.ref t])
      have e4 : upd H3 l (.lst [.ref t]) l = some (.lst [.ref t]) := upd_same
      generalize upd H3 l (.lst [.ref t]) = H4 at s4' e4 ⊢
      have s24 := s3'.trans s4'
      have al4 : DtAll H4 ((us ++ us) ++ [.ref t]) ((kn.map varX ++ kn.map varX) ++ [.tuple [.str "me"]]) := (al2.mono (sameTups s24)).app (.cons (.tup (s4' _ _ e3) (.cons (.str _) .nil)) .nil)
      refine ⟨q, l, _, _, rfl, rfl, s24 _ _ e2, e4, Nat.le_of_lt (small1000 (by rw [List.length_append]; show us.length + us.length + 1 ≤ 1000; omega)), fun l2 hl2 => ?_⟩
      have s5' := same_new (Same.refl H4) hl2 (o := .lst ((us ++ us) ++ [.ref t]))
      have e5 : upd H4 l2 (.lst ((us ++ us) ++ [.ref t])) l2 = some (.lst ((us ++ us) ++ [.ref t])) := upd_same
      have al5 := al4.mono (sameTups s5')
      have s5 := (s2.trans s24).trans s5'
      have len5 : ((us ++ us) ++ [V.ref t]).length ≤ 201 := by
        rw [List.length_append, List.length_append]
        show us.length + us.length + 1 ≤ 201
        omega
      have pos5 : 1 ≤ ((us ++ us) ++ [V.ref t]).length := by
        rw [List.length_append]
        show 1 ≤ _ + 1
        omega
      generalize upd H4 l2 (.lst ((us ++ us) ++ [.ref t])) = H5 at s5 e5 al5 ⊢
      generalize (us ++ us) ++ [V.ref t] = ws at e5 al5 len5 pos5 ⊢
      obtain ⟨kvs, fvs, fd', fl, h1, h2, h3, h4, h5, n1, n2, n3⟩ := hS.ex
      refine ⟨_, rfl, _, rfl, _, rfl, sc, _, rfl, dgS (s5 _ _ h1) h2, _, rfl, fd', _, rfl, dgS (s5 _ _ h3) h4, fl, rfl, ⟨_, SqL.of (s5 _ _ h5)⟩, fun D2 hD2 => ?_⟩
      refine lc_list (K := K) (a := fl) (xs := fs.map V.str) (fun j H' => Same H5 H' ∧ ∃ us, H' D2 = some (.lst us) ∧ us.length = j ∧ DtAll H' us ((fs.take j).map ownX)) ?_ ?_ ?_ ?_
      · exact ⟨same_new (Same.refl _) hD2, [], upd_same, rfl, .nil⟩
      · rintro j H' _ ⟨s', _⟩
        exact SqL.of (s' _ _ (s5 _ _ h5))
      · rintro j x H' hj ⟨s', us, hDa, lu, al⟩
        rw [List.getElem?_map] at hj
        obtain ⟨z, hz, rfl⟩ := Option.map_eq_some_iff.mp hj
        have jl : j < fs.length := (List.getElem?_eq_some_iff.mp hz).1
        refine ⟨rfl, _, rfl, (by show 2 ≤ sizeLine; decide), fun t ht => ?_⟩
        have s2 := same_new (Same.refl H') ht (o := .tup [.str "own", .str z])
        have e2 : upd H' t (.tup [.str "own", .str z]) t = some (.tup [.str "own", .str z]) := upd_same
        generalize upd H' t (.tup [.str "own", .str z]) = H2 at s2 e2 ⊢
        have tm : Tups H2 (upd H2 D2 (.lst (us ++ [.ref t]))) := (Tups.refl _).mut (s2 _ _ hDa) (by intro _ z; cases z)
        refine ⟨us, s2 _ _ hDa, small1000 (by omega), same_mut (s'.trans s2) hD2, us ++ [.ref t], upd_same, by simp [lu], ?_⟩
        rw [List.take_add_one, hz, List.map_append]
        exact ((al.mono (sameTups s2)).app (.cons (.tup e2 (.cons (.str _) (.cons (.str _) .nil))) .nil)).mono tm
      · rintro H6 ⟨s6, os, hD3, lo, alo⟩
        rw [List.length_map] at lo
        rw [List.length_map, List.take_length] at alo
        refine ⟨l2, D2, ws, os, rfl, rfl, s6 _ _ e5, hD3, Nat.le_of_lt (small1000 (by omega)), fun l3 hl3 => ?_⟩
        have s7' := same_new (Same.refl H6) hl3 (o := .lst (ws ++ os))
        have e7 : upd H6 l3 (.lst (ws ++ os)) l3 = some (.lst (ws ++ os)) := upd_same
        have al7 := ((al5.mono (sameTups s6)).app alo).mono (sameTups s7')
        have s7 := (s5.trans s6).trans s7'
        generalize upd H6 l3 (.lst (ws ++ os)) = H7 at s7 e7 al7 ⊢
        have hP7 := hP.but (sameBut s7 fun _ => False) id id
        refine ⟨p, c, ns, _, _, ws ++ os, rfl, hP7, by omega, ⟨by rw [List.length_append]; omega, by rw [List.length_append]; omega, .inl ⟨l3, rfl, .inl e7⟩⟩, fun v H8 hv hP8 b8 => ?_⟩
        obtain ⟨x, hx, hvx⟩ := al7.mem v hv
        refine go v x H8 (hvx.mono (hP7.tups b8)) (fun m => ?_) hP8 ((sameBut s7 _).trans b8)
        rcases List.mem_append.mp hx with hx | hx
        · rcases List.mem_append.mp hx with hx | hx
          · have hx' : x ∈ kn.map varX := (List.mem_append.mp hx).elim id id
            obtain ⟨z, hz, rfl⟩ := List.mem_map.mp hx'
            exact .inl ⟨z, hz, rfl⟩
          · rw [List.mem_singleton.mp hx]
            exact .inr (.inr (.inl rfl))
        · obtain ⟨z, hz, rfl⟩ := List.mem_map.mp hx
          exact .inr (.inl ⟨z, hz, rfl⟩)
end
end K3
namespace K3
open PySem PySem.Spec PyProof.Rows L2 GG
/-! ### drawn plans: a scene's parts -/
theorem valV_at {W : Wd} (hW : W.Ok) {fl : Nat → Addr} : ∀ {k i : Nat}, k ≤ 16 → i < k → valV ((List.range k).map fun i => ((.inr (W.at i), .ref (fl i)) : Key × V)) (.inr (W.at i)) = some (.ref (fl i))
  | 0, i, _, h => absurd h (Nat.not_lt_zero _)
  | k + 1, i, hk, h => by
    have e : ∀ (xs ys : List (Key × V)) (q : Key), valV (xs ++ ys) q = (valV xs q).or (valV ys q) := fun xs ys q => by
      unfold valV
      rw [List.find?_append]
      cases xs.find? (fun kv => decide (kv.1 = q)) <;> rfl
    rw [List.range_succ, List.map_append, e]
    by_cases hi : i < k
    · rw [valV_at hW (k := k) (by omega) hi]
      rfl
    · obtain rfl : i = k := by omega
      have out : valV ((List.range i).map fun i => ((.inr (W.at i), .ref (fl i)) : Key × V)) (.inr (W.at i)) = none := valV_out _ _ fun r hr => by
        obtain ⟨j, hj, rfl⟩ := List.mem_map.mp hr
        have hj' := List.mem_range.mp hj
        intro z
        have := hW.unlike (j := j) (k := i) (by omega) (by omega) (by injection z)
        omega
      rw [out]
      simp [valV]
theorem Wd.Ok.strOk {W : Wd} (h : W.Ok) {k : Nat} (hk : k < 26) : PyData.strOk (W.at k) = true := by
  have low := h.low k hk
  show ((W.pre ++ W.sg k :: W.tl k).toArray.all (· < 0x110000)) = true
  rw [List.all_toArray, List.all_eq_true]
  intro x hx
  have := low x hx
  exact decide_eq_true (by omega)
section
variable {H : Hp} {p sc : Addr} {S : ScD}
theorem Scn.f (h : Scn H p sc S) {i : Nat} (hi : i < S.kk) : ScF H p sc (S.W.at i) (S.fs i) := by
  obtain ⟨kd, fd, wd, ct, vd, fl, left, h1, h2, h3, h4, h5, h6, h7, n1, n2, n3, n4, n5, n6⟩ := h.ex
  have kk := h.ok.kk
  have m3 := h.ok.m i
  refine ⟨⟨_, _, fd, fl i, h1, rfl, h3, valV_at h.ok.w (by omega) hi, (h4 i hi).1, n1, n3, (h4 i hi).2⟩, by simp [ScD.fs]; omega, fun f hf => ?_⟩
  obtain ⟨j, hj, rfl⟩ := List.mem_map.mp hf
  have := List.mem_range.mp hj
  exact h.ok.w.strOk (by omega)
theorem Scn.but {H' : Hp} (h : Scn H p sc S) (b : But (· = p) H H') : Scn H' p sc S := by
  obtain ⟨kd, fd, wd, ct, vd, fl, left, h1, h2, h3, h4, h5, h6, h7, n1, n2, n3, n4, n5, n6⟩ := h.ex
  exact ⟨h.ok, kd, fd, wd, ct, vd, fl, left, b _ _ n1 h1, b _ _ n2 h2, b _ _ n3 h3, fun i hi => ⟨b _ _ (h4 i hi).2 (h4 i hi).1, (h4 i hi).2⟩, b _ _ n4 h5, b _ _ n5 h6, b _ _ n6 h7, n1, n2, n3, n4, n5, n6⟩
/-- how many calls may still be put is told anew -/
theorem Scn.left (h : Scn H p sc S) : ∃ kvs left, H sc = some (.dK kvs) ∧ valV kvs (.inr "left") = some (.int left) ∧ kvs.length = 7 ∧ ∀ x : Int, Scn (upd H sc (.dK (putK kvs (.inr "left") (.int x)))) p sc S := by
  obtain ⟨kd, fd, wd, ct, vd, fl, left, h1, h2, h3, h4, h5, h6, h7, n1, n2, n3, n4, n5, n6⟩ := h.ex
  refine ⟨_, left, h1, rfl, rfl, fun x => ⟨h.ok, kd, fd, wd, ct, vd, fl, x, by rw [upd_same]; rfl, ?_, ?_, fun i hi => ⟨?_, (h4 i hi).2⟩, ?_, ?_, ?_, n1, n2, n3, n4, n5, n6⟩⟩
  · rw [upd_ne (fun z => by rw [z, h1] at h2; cases h2)]; exact h2
  · by_cases e : fd = sc
    · exfalso
      rw [e, h1] at h3
      have k1 := h.ok.kk.1
      have e2 := congrArg (fun o : Option HO => match o with | some (.dK k) => k.length | _ => 0) h3
      have e3 : 7 = S.kk := by simpa [scK] using e2
      have := h.ok.kk.2
      omega
    · rw [upd_ne e]; exact h3
  · have q := (h4 i hi).1
    rw [upd_ne (fun z => by rw [z, h1] at q; cases q)]; exact q
  · rw [upd_ne (fun z => by rw [z, h1] at h5; cases h5)]; exact h5
  · rw [upd_ne (fun z => by rw [z, h1] at h6; cases h6)]; exact h6
  · rw [upd_ne (fun z => by rw [z, h1] at h7; cases h7)]; exact h7
end
end K3
namespace GG
open PySem PySem.Calls PySem.F PySem.HandSPX
/-! ### a class of one's own over an exception that has no __new__ of its own (KeyError): made by what stands in its line -/
section
variable {M : Model} {A : Around} {E : Value → Shared → Prop} {h : Heap} {g : Array GenState} {d : Drawn} {t : Nat} {os : OsState}
variable {nm q : Str} {C N : Addr} {bs bm bmB : List Value} {hd : Bool} {sn : List Str} {sub : List Value} {ab : Bool} {col : Option Bool} {dd : Option Addr} {k0 k1 k2 k3 k5 : Option Value} {B nw ini : String}
/-- what is asked of the class's line -/
structure InLine (C : Addr) (bm : List Value) (B : String) : Prop where
  b : (Value.ref C :: bm).contains (.type B) = true
  a : (Value.ref C :: bm).contains (.type "AttributeError") = false
  n : (Value.ref C :: bm).contains (.type "NameError") = false
theorem line_check (F : ExcBaseFacts B nw ini bmB) (L : InLine C bm B) {rest : List Value} {Q : Unit → Shared → Prop}
    (hC : h.get? C = some (excClassObj nm q C N bs bm hd sn sub ab col dd k0 k1 k2 k3 k5 nw)) (fin : Q () ⟨h, g, d, t, os⟩) :
    wpAny M A (checkBuiltinCall nw ⟨.ref C :: rest, []⟩) Q E ⟨h, g, d, t, os⟩ := by
  have inB := L.b
  have few := F.noStar
  simp only [checkBuiltinCall, F.newRow, F.newKind, F.newSplit]
  repeat
    first
    | refine wpAny_staticBase_exc hC ?_
    | refine wpAny_madeBy_exc hC ?_
    | refine wpAny_loadPart_at hC ?_
    | (refine wpAny_isSubtype_exc hC ?_
       rw [inB])
    | simp only [bne_self_eq_false, Bool.false_eq_true, if_false]
    | wp_step
  exact fin
end
section
variable {prog : Program} {w : World} {A : Around} {E : Value → Shared → Prop} {R : Result → Shared → Prop} {h : Heap} {g : Array GenState} {d : Drawn} {t : Nat} {os : OsState}
variable {nm q : Str} {C N : Addr} {bs bm bmB : List Value} {hd : Bool} {sn : List Str} {sub : List Value} {ab : Bool} {col : Option Bool} {dd : Option Addr} {k0 k1 k2 k3 k5 : Option Value} {B nw ini : String}
theorem line_new (F : ExcBaseFacts B nw ini bmB) (L : InLine C bm B) {rest : List Value} (few : rest.length ≤ sizeLine)
    (hC : h.get? C = some (excClassObj nm q C N bs bm hd sn sub ab col dd k0 k1 k2 k3 k5 nw))
    (fin : R (.ok (.ret (.ref (h.objs.size + 1)))) ⟨(h.push { cls := .type "tuple", data := .seq rest.toArray }).push (excO C h.objs.size), g, d, t, os⟩) :
    codeAny (model prog w) A (.builtin nw ⟨.ref C :: rest, []⟩) R ⟨h, g, d, t, os⟩ := by
  obtain ⟨inB, inA, inN⟩ := L
  have ends := F.ends
  refine codeAny_builtinAt F.entry (show wpAt _ _ _ (Builtin.«BaseException.__new__» _) _ _ _ from ?_)
  unfold Builtin.«BaseException.__new__»
  refine wpAt_bind (show wpAt _ _ _ (stack >>= _) _ _ _ from ?_)
  refine wpAt_bind (wpAt_stack fun _ _ => wpAt_of_wpAny ?_)
  wp_walk
  refine wpAt_of_wpAny ?_
  rw [F.owner]
  repeat
    first
    | with_reducible refine wpAny_loadPart_at hC ?_
    | with_reducible refine wpAny_madeHere_exc F.canon hC ?_
    | (with_reducible refine wpAny_isSubtype_exc hC ?_
       first
       | rw [inA]
       | rw [inN]
       | rw [inB])
    | wp_step
  have two := fin
  rw [← Heap.size_push (o := { cls := .type "tuple", data := .seq rest.toArray })] at two
  exact two
theorem line_typecall (F : ExcBaseFacts B nw ini bmB) (L : InLine C bm B) {rest : List Value} {fI : Addr} {Q : Fin → Shared → Prop} (few : rest.length ≤ sizeLine)
    (hC : h.get? C = some (excClassObj nm q C N bs bm hd sn sub ab col dd k0 k1 k2 k3 k5 nw))
    (look : W.Looks (model prog w) h (typeLookup (.ref C) "__init__") (some (.ref fI))) (bnd : ∀ x, W.Looks (model prog w) h (bindSpecial (.ref fI) x) (.ref fI, [x]))
    (fin : codeAny (model prog w) A (.call (.ref fI) ⟨.ref (h.objs.size + 1) :: rest, []⟩)
      (fun r s' => match r with
        | .ok (.ret v) => v = .none ∧ Q (.done (.ret (.ref (h.objs.size + 1)))) s'
        | .ok _ => False
        | .error e => E e s') ⟨(h.push (W.kdv_tup rest)).push (excO C h.objs.size), g, d, t, os⟩) :
    wpAny (model prog w) A (Builtin.«type.__call__» ⟨.ref C :: rest, []⟩) Q E ⟨h, g, d, t, os⟩ := by
  repeat
    first
    | with_reducible refine wpAny_madeBy_exc hC ?_
    | with_reducible refine wpAny_loadPart_at hC ?_
    | wp_step
  refine codeAny_call_builtin_code (Code.quiet_builtin _ F.quiet) (line_check F L hC (line_new F L few hC ?_))
  show wpAny _ _ _ _ _ _
  have old : ∀ b o, h.get? b = some o → ((h.push (W.kdv_tup rest)).push (excO C h.objs.size)).get? b = some o := fun _ _ e => Heap.get?_push_of_some _ (Heap.get?_push_of_some _ e)
  have made : ((h.push (W.kdv_tup rest)).push (excO C h.objs.size)).get? (h.objs.size + 1) = some (excO C h.objs.size) := by heap_get
  have there := old _ _ hC
  have self : (Value.ref C :: bm).contains (.ref C) = true := by simp
  have l1 := look.keeps old
  have l2 := (bnd (.ref (h.objs.size + 1))).keeps old
  unfold isInstance
  repeat
    first
    | with_reducible refine wpAny_loadPart_at made ?_
    | (with_reducible refine wpAny_isSubtype_exc there ?_
       rw [self])
    | wp_step
  refine (show wpAny _ _ (typeLookup (.ref C) _) _ _ _ from l1.at ?_)
  refine wpAny_holding (wpAny_bind (l2.at (wpAny_bind (wpAny_call (codeAny_mono fin fun r s' z => ?_)))))
  match r, z with
  | .error e, z => exact z
  | .ok (.ret v), z =>
    obtain ⟨rfl, z⟩ := z
    first
      | exact wpAny_pure (wpAny_pure z)
      | (wp_walk
         exact z)
  | .ok .next, z => exact z.elim
  | .ok .brk, z => exact z.elim
  | .ok .cont, z => exact z.elim
theorem line_call (F : ExcBaseFacts B nw ini bmB) (L : InLine C bm B) {rest : List Value} {fI : Addr} (few : rest.length ≤ sizeLine)
    (hC : h.get? C = some (excClassObj nm q C N bs bm hd sn sub ab col dd k0 k1 k2 k3 k5 nw))
    (look : W.Looks (model prog w) h (typeLookup (.ref C) "__init__") (some (.ref fI))) (bnd : ∀ x, W.Looks (model prog w) h (bindSpecial (.ref fI) x) (.ref fI, [x]))
    (fin : codeAny (model prog w) (A.under (.builtin "type.__call__" ⟨.ref C :: rest, []⟩)) (.call (.ref fI) ⟨.ref (h.objs.size + 1) :: rest, []⟩) (W.InitBack (h.objs.size + 1) R)
      ⟨(h.push (W.kdv_tup rest)).push (excO C h.objs.size), g, d, t, os⟩) :
    codeAny (model prog w) A (.call (.ref C) ⟨rest, []⟩) R ⟨h, g, d, t, os⟩ := by
  have f1 := tc_lookup
  have f2 := tc_bind (.ref C)
  have isTy : (⟨h, g, d, t, os⟩ : Shared).TypeIs (.ref C) "type" := ⟨_, hC, rfl⟩
  refine codeAny_of_tree (show wpAny _ _ (callAny (.ref C) _) _ _ _ from ?_)
  repeat (any_goals (first | assumption | with_reducible refine wpAny_loadPart_at hC ?_ | wp_step))
  refine ⟨rfl, codeAny_call_builtin_at (Code.quiet_builtin _ (by decide +kernel)) entry_typeCall (wpAny_check_type_call_sub hC (line_typecall F L few hC look bnd (codeAny_mono fin fun r s' z => ?_)))⟩
  match r, z with
  | .error e, z => exact z
  | .ok (.ret v), z => exact z
  | .ok .next, z => exact z
  | .ok .brk, z => exact z
  | .ok .cont, z => exact z
end
end GG
namespace GG
open PySem PySem.Spec PyProof.Rows L2
/-! ### an own class over KeyError, its own __init__ storing one field -/
abbrev keyTail : List Value := [.type "KeyError", .type "LookupError", .type "Exception", .type "BaseException", .type "object"]
theorem inKey (C : Addr) : InLine C keyTail "LookupError" := by
  constructor
  · rw [List.contains_cons, show keyTail.contains (.type "LookupError") = true by decide +kernel, Bool.or_true]
  · rw [List.contains_cons, show keyTail.contains (.type "AttributeError") = false by decide +kernel]
    rfl
  · rw [List.contains_cons, show keyTail.contains (.type "NameError") = false by decide +kernel]
    rfl
section
open Builtin Builtin.ObjectAttr
variable {prog : Program} {w : World} {A : Around} {R : Result → Shared → Prop} {hp : Heap} {g : Array GenState} {d : Drawn} {t : Nat} {os : OsState}
theorem key_passes (x : Value) : refuseLoop x "__setattr__" keyTail = pure () := by kernel_rfl
theorem key_object {K : PySem.W.Frag} {C : Addr} {cd : ClassData} (hcd : PySem.W.clsIn K C = some cd) (hm : cd.mro = .ref C :: keyTail) : PySem.W.mroIn K C (.type "object") = some true := by
  have has : (Value.ref C :: keyTail).contains (.type "object") = true := by
    rw [List.contains_cons, show keyTail.contains (.type "object") = true by decide +kernel, Bool.or_true]
  unfold PySem.W.mroIn
  rw [hcd, Option.bind_some, hm]
  rw [if_neg (show ¬ (List.isEmpty (Value.ref C :: keyTail) = true) from Bool.false_ne_true), has]
/-- self.name = v of such an instance that has no dict yet -/
theorem key_store {K : PySem.W.Frag} {name : Str} {tk : Tok} {v : Value} {x C : Addr} {fv : Array Value} {cd : ClassData} (X : K.In hp) (hx : hp.get? x = some { cls := .ref C, data := .fields fv }) (hcd : PySem.W.clsIn K C = some cd)
    (hm : cd.mro = .ref C :: keyTail) (own : cd.hasDict = true) (ha : PySem.W.findIn K (.ref C) name = some none)
    (fin : ∀ h' tk' dx, (∀ b o, b ≠ x → hp.get? b = some o → h'.get? b = some o) → hp.objs.size ≤ dx → dx ≠ x → h'.get? x = some { cls := .ref C, dict := some dx, data := .fields fv } →
      h'.Ns1 dx (fun y => if y = name then some v else none) → R (.ok (.ret .none)) ⟨h', g, d, tk', os⟩) :
    codeAny (model prog w) A (.call (.builtin "object.__setattr__") ⟨[.ref x, .str name tk, v], []⟩) R ⟨hp, g, d, t, os⟩ := by
  have inst : PySem.W.InstAt hp x { cls := .ref C, data := .fields fv } C none := ⟨hx, rfl, rfl, trivial⟩
  have apart : x ≠ hp.objs.size := Nat.ne_of_lt (Heap.lt_size hx)
  have SF := PySem.F.store_object
  have sub : PySem.W.Looks (model prog w) hp (isInstance (.ref x) (.type "object")) true := inst.type.andThen (PySem.W.looks_mroIn X (key_object hcd hm))
  refine codeAny_call_builtin SF.slot.plain SF.entry (@PySem.W.check_slot (model prog w) _ _ ⟨hp, g, d, t, os⟩ "object.__setattr__" "object" "__setattr__" (.ref x) [.str name tk, v] [] _ SF.kind SF.split sub (SF.args _ _ _) ?_)
  have line : PySem.W.Looks (model prog w) hp (mroOf (.ref C)) cd.mro := (PySem.W.looks_clsIn X hcd).andThen .now
  have taker : PySem.W.Looks (model prog w) hp (storeTaker? none) none := .now
  have pass : refuseLoop (.ref x) "__setattr__" cd.mro = pure () := by
    rw [hm, PySem.refuseLoop_ref]
    exact key_passes _
  rw [PySem.W.osa_eq, PySem.refuse_eq]
  refine wpAny_bind (wpAny_bind (inst.type.at (wpAny_bind (line.at ?_))))
  rw [pass]
  refine wpAny_pure (wpAny_bind (inst.type.at (wpAny_bind ((PySem.W.looks_findIn X ha).at (wpAny_bind (taker.at ?_))))))
  have cls : PySem.W.Looks (model prog w) hp (classData C) cd := PySem.W.looks_clsIn X hcd
  obtain ⟨_, _, _, _, _, hd, _, _, _, _, _⟩ := cd
  obtain rfl : hd = true := own
  unfold storeInOwnDict ownDictForStores
  repeat
    first
    | with_reducible refine PySem.HandSPX.store_in_new ?_ ?_
    | with_reducible refine wpAny_loadPart_at hx ?_
    | with_reducible refine cls.at ?_
    | wp_step
  · exact ⟨_, #[], _, (Heap.get?_update_ne _ _ _ _ apart.symm).trans (Heap.get?_push_at rfl rfl), rfl, fun e he => absurd he (by simp), fun _ => rfl⟩
  · intro h' tk' names same
    have here : (hp.push { cls := .type "dict", data := .dict #[] }).get? x = some { cls := .ref C, data := .fields fv } := Heap.get?_push_of_some _ hx
    refine fin h' tk' hp.objs.size (fun b o nb old => ?_) (Nat.le_refl _) apart.symm ?_ names
    · have q1 := same.2 b (Nat.ne_of_lt (Heap.lt_size old))
      exact q1.trans ((Heap.get?_update_ne _ _ _ _ nb).trans (Heap.get?_push_of_some _ old))
    · exact (same.2 x apart).trans (Heap.get?_update_self _ here rfl)
end
structure OexK (K : PySem.W.Frag) (C : Addr) : Prop where
  seen : ∃ nm q N bs sn sub ab col dd k0 k1 k2 k3 k5, K.lookup C = some (excClassObj nm q C N bs keyTail true sn sub ab col dd k0 k1 k2 k3 k5 "LookupError.__new__")
  store : PySem.W.findIn K (.ref C) "__setattr__" = some (some (.builtin "object.__setattr__"))
  base : PySem.W.subIn K (.ref C) (.type "BaseException") = some true
  type : PySem.W.typeIn K (.ref C) = some (.type "type")
  keep : PySem.W.keepIn K (.ref C) = true
/-- self.f = e in such an __init__ -/
def tOneK (K : PySem.W.Frag) (f : Str) (to te : TE) : TS := fun D σ H => te σ H fun y H1 => to σ H1 fun x H2 => ∃ a C : Addr, x = .ref a ∧ OexK K C ∧ PySem.W.findIn K (.ref C) f = some none ∧ H2 a = some (exo a C none) ∧
  ∀ dx, H2 dx = none → dx ≠ a → D.nx σ (upd (upd H2 dx (exd dx [(f, y)])) a (exo a C (some dx)))
section
variable {X : Cx} {pins : List (Addr × Obj)} {σ : L2.St} {H : Hp} {s : Shared} {a C : Addr} {f : Str} {y : V} {u : Value} {Q : Unit → Shared → Prop} {E : Value → Shared → Prop} {A : Around}
/-- the field is stored: the instance has a dict of its own now -/
theorem one_storedK (T : OexK X.K C) (I : Inv X pins σ H s) (ea : H a = some (exo a C none)) (no : PySem.W.findIn X.K (.ref C) f = some none) (ry : RelV y u)
    (k : ∀ dx s', H dx = none → dx ≠ a → Inv X pins σ (upd (upd H dx (exd dx [(f, y)])) a (exo a C (some dx))) s' → Q () s') : wpAny (model X.prog X.w) A (setAttr (.ref a) f u) Q E s := by
  obtain ⟨nm, q, N, bs, sn, sub, ab, col, dd, k0, k1, k2, k3, k5, hC⟩ := T.seen
  have cd : ∃ cd, PySem.W.clsIn X.K C = some cd ∧ cd.mro = .ref C :: keyTail ∧ cd.hasDict = true := by
    unfold PySem.W.clsIn
    rw [hC]
    exact ⟨_, rfl, rfl, rfl⟩
  obtain ⟨cd, c1, c2, c3⟩ := cd
  obtain ⟨t1, at1⟩ := exo_at I.hok ea
  obtain ⟨hp, g, d, t, os⟩ := s
  refine PySem.W.set_plain I.kIn (od := none) ⟨at1, rfl, rfl, trivial⟩ T.store (key_store I.kIn at1 c1 c2 c3 no fun h' tk' dx same far off here names => ?_)
  have z : H dx = none := I.hok.fresh far
  have old : ∀ b o, hp.get? b = some o → b ≠ dx := fun b o r => Nat.ne_of_lt (Nat.lt_of_lt_of_le (Heap.lt_size r) far)
  have other : ∀ b, H b = none → b ≠ a := fun b r w => nomatch (show none = some (exo a C none) by rw [← ea, ← w, r])
  have tracked : ∀ b (o : HO), H b = some o → b ≠ dx := fun b o r w => nomatch (show none = some o by rw [← r, w, z])
  have unlike : ∀ b (o : HO), H b = some o → exo a C none ≠ o → b ≠ a := fun b o r d w => d (Option.some.inj (ea.symm.trans (w ▸ r)))
  have gone : ∀ b (o : HO), H b = some o → exo a C none ≠ o → upd (upd H dx (exd dx [(f, y)])) a (exo a C (some dx)) b = some o := fun b o r d => by
    rw [upd_ne (unlike b o r d), upd_ne (tracked b o r), r]
  refine k dx ⟨h', g, d, tk', os⟩ z off (I.un (t' := tk') ⟨fun b o r n _ _ => same b o (other b n) r, fun b o r n _ _ => ⟨_, same b o (other b n) r⟩, fun b o r n _ => ?_, fun b o r _ => ?_, fun b xs r => gone b _ r exo_tup,
    fun b o v r => gone b _ r exo_frz, fun b ps r => ⟨#[], ?_⟩⟩ fun b o r => ?_)
  · rw [upd_ne (other b n), upd_ne (old b o r), n]
  · by_cases w : b = a
    · exact ⟨_, w ▸ here⟩
    · exact ⟨_, same b o w r⟩
  · rw [gone b _ r exo_tbl]
    simp
  · by_cases w : b = a
    · subst w
      cases upd_same.symm.trans r
      exact exo_ok here
    · rw [upd_ne w] at r
      by_cases v : b = dx
      · subst v
        cases upd_same.symm.trans r
        exact exd_ok names (relO_put (fs := []) ry fun _ => True.intro)
      · rw [upd_ne v] at r
        refine (I.hok b o r).stay (fun c o' hc q' => same c o' ?_ q') (fun c hc => gone c _ hc exo_own) (fun c xs hc => gone c _ hc exo_tup)
        exact hc.elim (fun q => q ▸ w) fun q => unlike c _ q exo_own
end
section
variable {X : Cx} {o e : Expr} {es : List Expr} {to te : TE} {ta : TA} {f : Str} {p p' pos : Pos}
theorem ps_one1K (ho : PE X o to) (he : PE X e te) (hs : swapsWith e (some (.Attribute o f p')) pos.line X.env = pure false := by rfl) : PS X (.Assign [.Attribute o f p'] e pos) (tOneK X.K f to te) := by
  constructor
  intro pins s σ H D I h
  refine plainObj_wpAny_Assign_Attribute (thn (he.run pins s σ H _ I h) ?_) hs
  rintro v s1 ⟨y, H1, I1, r1, q1⟩
  refine thn (ho.run pins s1 σ H1 _ I1 q1) ?_
  rintro u s2 ⟨x, H2, I2, r2, a, C, rfl, T, no, ea, q⟩
  cases (show u = Value.ref a from r2)
  exact one_storedK T I2 ea no r1 fun dx s' n ne J => ⟨σ, _, J, q dx n ne⟩
/-- C(e, ..), to be raised -/
theorem pmk_oneK {CX : CXT} {x : Str} {C fI : Addr} {k : Nat} {fd : FuncData} {ps : List Str} {sp : Sp} {ds : List Value} {dvs : List V} (T : OexK X.K C) (iC : PySem.W.findIn X.K (.ref C) "__init__" = some (some (.ref fI))) (tI : PySem.W.typeIn X.K (.ref fI) = some (.type "function"))
    (GI : FnOk X.prog X.w X.K X.mg X.base CX k fI fd ps sp) (hr : Room (k + 1) X.A) (hb : Binds X.K fd ps ds) (hd : Vals dvs ds) (hx : Passes CX X (fun _ _ _ => False)) (hg : Gl X x) (hm : X.mg x = some (.ref C)) (ha : PA X (e :: es) ta)
    (dbg : (x == ("__debug__" : Str)) = false := by decide) (one : starEach (e :: es) X.env = (false, eval e X.env) :: starEach es X.env := by rfl) (hpl : (backTo pos (starEach es X.env)).any (·.1) = false := by rfl) :
    L2N.PMk X (.Call (.Name x p) (e :: es) [] pos) (tMkO C sp dvs ta) := by
  intro pins s σ H Q I h
  obtain ⟨nm, q, N, bs, sn, sub, ab, col, dd, k0, k1, k2, k3, k5, hC⟩ := T.seen
  refine wpAny_Call_Name_kw (ld_glob I hg hm ?_ dbg)
  refine PySem.W.callWith_K (h₀ := X.base) I.ok.mod.kin T.keep (thn (ha.run pos pins s σ H _ I h) ?_) one hpl
  rintro us ⟨hp, g, dr, tk, os⟩ ⟨vs, H1, I1, r1, hz, q1⟩
  refine ⟨I1.kIn, ?_⟩
  show wpAny _ _ (call (.ref C) us) _ _ _
  -- the new instance stands behind the tuple of its arguments
  have free1 : H1 (hp.objs.size + 1) = none := I1.hok.fresh (Nat.le_succ _)
  have hq := q1 _ free1
  generalize hG : (hp.push (PySem.W.kdv_tup us)).push (PySem.HandSPX.excO C hp.objs.size) = G
  have grown : ∀ b o, hp.get? b = some o → G.get? b = some o := fun b o r => hG ▸ Heap.get?_push_of_some _ (Heap.get?_push_of_some _ r)
  have newAt : G.get? (hp.objs.size + 1) = some (PySem.HandSPX.excO C hp.objs.size) := by
    rw [← hG]
    heap_get
  have I2 : Inv X pins σ (upd H1 (hp.objs.size + 1) (exo (hp.objs.size + 1) C none)) ⟨G, g, dr, tk, os⟩ := I1.laid (t' := tk) grown (Nat.le_succ _) (exo_ok newAt)
  have r2 : Vals (V.ref (hp.objs.size + 1) :: (vs ++ dvs)) (Value.ref (hp.objs.size + 1) :: (us ++ ds)) := Paired.cons rfl (r1.append hd)
  have many : us.length ≤ sizeLine := by
    rw [← Paired.length r1]
    exact Nat.le_trans hz (by decide)
  have even : (Value.ref (hp.objs.size + 1) :: us ++ ds).length = ps.length := r2.length.symm.trans (GI.len _ _ _ _ hq)
  have run := GI.run _ X.stack _ _ ⟨Value.ref (hp.objs.size + 1) :: us, []⟩ (Value.ref (hp.objs.size + 1) :: (us ++ ds)) _ _ (fun _ _ _ => False) (hr.make C us []) (I2.env0.make C us []) (hb _ (Value.ref (hp.objs.size + 1) :: us) I2.kIn even) r2 hq
  refine wpAny_call (line_call PySem.F.excBase_LookupError (inKey C) many (I1.kIn _ _ hC) (PySem.W.looks_findIn I1.kIn iC) (fun self => PySem.W.bind_fn I1.kIn self tI) ?_)
  rw [hG]
  refine codeAny_mono run ?_
  rintro (er | fl) s' out
  · exact hx pins σ _ _ er s' I2 out
  cases fl with
  | ret u =>
    obtain ⟨v, H2, os2, bare, un, ok2, rv, rfl, d, fs, e1, e2, e3, q2⟩ := out
    obtain ⟨h2, g2, d2, t2, os'⟩ := s'
    obtain ⟨t0, B, J, kB, gB, hoe, na⟩ := mk_end0 (d2 := d2) (t2 := t2) I1 (Nat.le_succ _) grown un ok2 os2 bare e1 e2 e3
    exact ⟨rv, hp.objs.size + 1, _, _, ⟨B, g2, d2, t2, os'⟩, _, .ref C, some d, rfl, J, kB, gB, hoe, ⟨rfl, rfl, fun vs q => by cases q; rfl⟩, rfl, rfl, na, rfl, bare, raises_own T.base T.type, q2⟩
  | next => exact out.elim
  | brk => exact out.elim
  | cont => exact out.elim
end
end GG
namespace K3
open PySem PySem.Spec PyProof.Rows L2 GG
/-! ### law_k03: a plan's kinds, as they stand -/
structure Kd3 where
  nm : Str
  sl : List (Str × PyData)
  me : List PyData
/-- a kind: its fields' tuple is known to be bare, so that dict(it) may be made -/
def KdAt (H : Hp) (v : V) (k : Kd3) : Prop := ∃ (b c : Addr) (m : V) (o : Obj) (zs : List V), v = .ref b ∧ H b = some (.tup [.str k.nm, .ref c, m]) ∧ H c = some (.frz o (.tup zs)) ∧ o.dict = none ∧ DtAll H zs (k.sl.map fun q => .tuple [.str q.1, q.2]) ∧ Dt H m (.tuple k.me)
inductive KdAll (H : Hp) : List V → List Kd3 → Prop
  | nil : KdAll H [] []
  | cons {v : V} {vs : List V} {k : Kd3} {ks : List Kd3} : KdAt H v k → KdAll H vs ks → KdAll H (v :: vs) (k :: ks)
theorem KdAll.get {H : Hp} : ∀ {vs : List V} {ks : List Kd3}, KdAll H vs ks → ∀ (i : Nat) (v : V), vs[i]? = some v → ∃ k, ks[i]? = some k ∧ KdAt H v k
  | _, _, .nil, i, v, e => by simp at e
  | _, _, .cons h _, 0, v, e => by
    cases e
    exact ⟨_, rfl, h⟩
  | _, _, .cons _ a, i + 1, v, e => a.get i v e
theorem KdAll.length {H : Hp} : ∀ {vs : List V} {ks : List Kd3}, KdAll H vs ks → vs.length = ks.length
  | _, _, .nil => rfl
  | _, _, .cons _ a => by rw [List.length_cons, List.length_cons, a.length]
def PlAt (H : Hp) (v : V) (ks : List Kd3) : Prop := ∃ (a : Addr) (us : List V), v = .ref a ∧ H a = some (.tup us) ∧ KdAll H us ks
theorem KdAt.mono {H H' : Hp} {v : V} {k : Kd3} (h : KdAt H v k) (t : Tups H H') (f : ∀ a o u, H a = some (.frz o u) → H' a = some (.frz o u)) : KdAt H' v k := by
  obtain ⟨b, c, m, o, zs, rfl, eb, ec, nod, al, em⟩ := h
  exact ⟨b, c, m, o, zs, rfl, t _ _ eb, f _ _ _ ec, nod, al.mono t, em.mono t⟩
theorem KdAll.mono {H H' : Hp} (t : Tups H H') (f : ∀ a o u, H a = some (.frz o u) → H' a = some (.frz o u)) : ∀ {vs : List V} {ks : List Kd3}, KdAll H vs ks → KdAll H' vs ks
  | _, _, .nil => .nil
  | _, _, .cons h a => .cons (h.mono t f) (a.mono t f)
theorem PlAt.mono {H H' : Hp} {v : V} {ks : List Kd3} (h : PlAt H v ks) (t : Tups H H') (f : ∀ a o u, H a = some (.frz o u) → H' a = some (.frz o u)) : PlAt H' v ks := by
  obtain ⟨a, us, rfl, e, al⟩ := h
  exact ⟨a, us, rfl, t _ _ e, al.mono t f⟩
def spKind3 : Sp := fun vs H Q _ => ∃ (v : V) (b : Str) (ks : List Kd3), vs = [v, .str b] ∧ PlAt H v ks ∧ (∃ k ∈ ks, k.nm = b) ∧ ∀ u k, k ∈ ks → k.nm = b → KdAt H u k → Q u H
abbrev sKind3 : Stmt := top 7
theorem scK3 : FnScope ["plan", "kind", "row"] ["plan", "kind"] (defScope sKind3) := ⟨rfl, rfl, rfl, by decide +kernel, rfl, by decide +kernel, by decide +kernel⟩
section
variable {P : Program} {w : World} {K : PySem.W.Frag} {mg : Str → Option Value} {base : Heap}
theorem ok_kind3 {f : Addr} {fd : FuncData} (F : Fun K "kind_of" "kind_of" sKind3 f fd) : FnOk P w K mg base CX0 1 f fd ["plan", "kind"] spKind3 := by
  refine F.ok scK3 (fun vs H Q E h => ?_) (fun cdv A outer s H vs Q E hr h => ?_)
  · obtain ⟨v, b, ks, rfl, _⟩ := h
    rfl
  · obtain ⟨v, b, ks, rfl, ⟨a, us, rfl, e, al⟩, ⟨k0, hk0, nk0⟩, go⟩ := h
    have nd := scK3.nd
    refine ⟨_, pss_cons (ps_for PassesOwn.never rfl (pi_tup (pv 0)) (pg_name (i := 2) nd rfl (Or.inl rfl)) (pss_one (ps_if (pt_cmpR op_eq (pe_ix ix_tup (pv 2) pe_int (fun _ _ => rfl)) (pv 1) (nomark _)) (pss_one (ps_ret (pv 2))) pss_nil))) (pss_one ps_never), ?_⟩
    have ll := al.length
    refine ⟨_, rfl, a, rfl, ⟨_, SqT.of e⟩, for_tup (K := K) (a := a) (xs := us) (fun i σ' H' => H' = H ∧ (∃ v2 : Option V, σ' = [some (.ref a), some (.str b), v2]) ∧ ∀ j k, j < i → ks[j]? = some k → k.nm ≠ b) ?_ ?_ ?_ ?_⟩
    · exact ⟨rfl, ⟨_, rfl⟩, fun j k hj _ => absurd hj (Nat.not_lt_zero _)⟩
    · rintro i σ' H' _ ⟨rfl, _⟩
      exact SqT.of e
    · rintro i x σ' H' hi ⟨rfl, ⟨v2, rfl⟩, no⟩
      obtain ⟨k, hk, kat⟩ := al.get i x hi
      have kat' := kat
      obtain ⟨bb, c, m, o, zs, rfl, eb, _⟩ := kat
      have b0 : atI [V.str k.nm, V.ref c, m] 0 = some (V.str k.nm) := atI_int (by decide) rfl
      refine ⟨_, rfl, bb, _, _, _, rfl, rfl, SqT.of eb, b0, _, rfl, rfl, _, rfl, ite2 (fun y => ?_) (fun n => ?_)⟩
      · have y' : V.str k.nm = V.str b := of_decide_eq_true y
        exact ⟨_, rfl, go _ k (List.mem_of_getElem? hk) (by injection y') kat'⟩
      · refine ⟨rfl, ⟨_, rfl⟩, fun j k' hj hk' => ?_⟩
        by_cases ej : j = i
        · subst ej
          rw [hk] at hk'
          cases hk'
          exact fun z => n (decide_eq_true (by rw [z]))
        · exact no j k' (by omega) hk'
    · rintro σ' H' ⟨rfl, _, no⟩
      obtain ⟨j, hj, ej⟩ := List.mem_iff_getElem.mp hk0
      exact absurd nk0 (no j k0 (by omega) (by rw [List.getElem?_eq_getElem hj, ej]))
end
end K3
namespace K3
open PySem PySem.Spec PyProof.Rows L2 GG
/-! ### law_k03: words_of -/
/-- methods, by their words -/
def MeOk (me : List PyData) (ws : List Str) : Prop := me.length = ws.length ∧ ∀ (i : Nat) (d : PyData), me[i]? = some d → ∃ w rest, ws[i]? = some w ∧ d = .tuple (.str w :: rest)
def spWords3 : Sp := fun vs H Q _ => ∃ (v : V) (b : Str) (ks : List Kd3), vs = [v, .str b] ∧ PlAt H v ks ∧ (∃ k ∈ ks, k.nm = b) ∧ (∀ k ∈ ks, k.me.length ≤ 50 ∧ ∃ ws, MeOk k.me ws) ∧
  ∀ (l : Addr) (k : Kd3) (ws ys : List Str) H', k ∈ ks → k.nm = b → MeOk k.me ws → ys.Perm ws → sortedS ys = true → Same H H' → H l = none → H' l = some (.lst (ys.map V.str)) → Q (.ref l) H'
abbrev sWords3 : Stmt := top 9
theorem scW3 : FnScope ["plan", "kind", "method"] ["plan", "kind"] (defScope sWords3) := ⟨rfl, rfl, rfl, by decide +kernel, rfl, by decide +kernel, by decide +kernel⟩
section
variable {P : Program} {w : World} {K : PySem.W.Frag} {mg : Str → Option Value} {base : Heap}
theorem ok_words3 {f fk : Addr} {fd fdk : FuncData} (F : Fun K "words_of" "words_of" sWords3 f fd) (T : Txt mg) (mk : mg "kind_of" = some (.ref fk)) (kk : PySem.W.keepIn K (.ref fk) = true) (bk : Binds K fdk ["plan", "kind"] []) (Gk : FnOk P w K mg base CX0 1 fk fdk ["plan", "kind"] spKind3) :
    FnOk P w K mg base CX0 2 f fd ["plan", "kind"] spWords3 := by
  refine F.ok scW3 (fun vs H Q E h => ?_) (fun cdv A outer s H vs Q E hr h => ?_)
  · obtain ⟨v, b, ks, rfl, _⟩ := h
    rfl
  · obtain ⟨v, b, ks, rfl, hpl, hin, hme, go⟩ := h
    have nd := scW3.nd
    refine ⟨_, pss_one (ps_ret (pe_callB cr_sortedS (by rfl) T.sorted (by decide +kernel) (pa_cons (pe_lc (own := [("method", 2)]) (g := gName 2) (tt := tYes) rfl nd (pi_tup (pe_ix ix_tup (pe_call Gk hr (by rfl) mk kk bk .nil pass0 (pa_cons (pv 0) (pa_cons (pv 1) pa_nil))) pe_int (fun _ _ => rfl)))
      (blkOk_by (N := ["plan", "kind", "method"]) (sc := defScope sWords3) (by decide +kernel)) (fun _ _ _ _ _ => pg_name (i := 2) nd rfl (Or.inl rfl)) (fun _ _ _ _ _ => pts_nil)
      (fun _ _ _ _ _ => pe_ix (r := rIxT K) ix_tup (pv 2) pe_int (fun _ _ => rfl))) pa_nil))), ?_⟩
    refine ⟨_, rfl, _, rfl, v, b, ks, rfl, hpl, hin, fun u k hk hnm kat => ?_⟩
    obtain ⟨few, ws, lw, hws⟩ := hme k hk
    obtain ⟨bb, c, m, o, zs, rfl, eb, _, _, _, hm⟩ := kat
    obtain ⟨mm, rfl⟩ := hm.ref_of
    obtain ⟨ms, em, al⟩ := hm.tupI
    have ll := al.length
    have b2 : atI [V.str k.nm, V.ref c, V.ref mm] 2 = some (V.ref mm) := atI_int (by decide) rfl
    refine ⟨bb, _, _, _, rfl, rfl, SqT.of eb, b2, mm, rfl, ⟨_, SqT.of em⟩, fun D hD => ?_⟩
    refine lc_tup (K := K) (a := mm) (xs := ms) (fun j H' => Same H H' ∧ H' D = some (.lst ((ws.take j).map V.str))) ?_ ?_ ?_ ?_
    · exact ⟨same_new (Same.refl _) hD, upd_same⟩
    · rintro j H' _ ⟨s', _⟩
      exact SqT.of (s' _ _ em)
    · rintro j x H' hj ⟨s', hDl⟩
      obtain ⟨d, hd, hx⟩ := al.get j x hj
      obtain ⟨wd, rest, hw, rfl⟩ := hws j d hd
      obtain ⟨t, rfl⟩ := hx.ref_of
      obtain ⟨us, et, ut⟩ := hx.tupI
      cases ut with
      | cons c0 ut =>
      cases c0
      have jl : j < ws.length := (List.getElem?_eq_some_iff.mp hw).1
      refine ⟨rfl, _, rfl, t, _, _, _, rfl, rfl, SqT.of (s' _ _ et), (by exact atI_int (by decide) rfl), _, hDl, small1000 (by rw [List.length_map, List.length_take]; omega), same_mut s' hD, ?_⟩
      rw [upd_same, List.take_add_one, hw, List.map_append]
      rfl
    · rintro H1 ⟨s1, hDl⟩
      rw [show ms.length = ws.length by omega, List.take_length] at hDl
      exact ⟨D, ws, rfl, SqL.of hDl, by omega, fun ys p hp hs hp0 => go p k ws ys _ hk hnm ⟨lw, hws⟩ hp hs (same_new s1 hp0) (s1.free hp0) upd_same⟩
end
end K3
namespace K3
open PySem PySem.Spec PyProof.Rows L2 GG
/-! ### law_k03: NoKind, raised -/
abbrev sNoKindI : Stmt := inClass (top 4) 0
theorem scNI : FnScope ["self", "kind"] ["self", "kind"] (defScope sNoKindI) := ⟨rfl, rfl, rfl, by decide +kernel, rfl, by decide +kernel, by decide +kernel⟩
structure NkC (K : PySem.W.Frag) (D : Addr) : Prop where
  ox : OexK K D
  no : PySem.W.findIn K (.ref D) "kind" = some none
def spNI (D : Addr) : Sp := fun vs H Q _ => ∃ (a : Addr) (v : V), vs = [.ref a, v] ∧ H a = some (exo a D none) ∧ ∀ dx, H dx = none → dx ≠ a → Q .non (upd (upd H dx (exd dx [("kind", v)])) a (exo a D (some dx)))
/-- a refusal of this thing comes out -/
def Nk (D : Addr) (v : V) (E : XK) (H : Hp) : Prop := ∀ (dd : Addr) (H' : Hp), H' dd = some (.xd [("kind", v)]) → Same H H' → E (.ref D) (some dd) H'
structure NkK (P : Program) (w : World) (K : PySem.W.Frag) (mg : Str → Option Value) (base : Heap) (D : Addr) : Prop where
  c : NkC K D
  m : mg "NoKind" = some (.ref D)
  ini : ∃ fI fdI, PySem.W.findIn K (.ref D) "__init__" = some (some (.ref fI)) ∧ PySem.W.typeIn K (.ref fI) = some (.type "function") ∧ Binds K fdI ["self", "kind"] [] ∧ FnOk P w K mg base CX0 1 fI fdI ["self", "kind"] (spNI D)
theorem ok_noKindInit {P : Program} {w : World} {K : PySem.W.Frag} {mg : Str → Option Value} {base : Heap} {D f : Addr} {fd : FuncData} (F : Fun K "__init__" "NoKind.__init__" sNoKindI f fd) (T : NkC K D) : FnOk P w K mg base CX0 1 f fd ["self", "kind"] (spNI D) := by
  refine F.ok scNI (fun vs H Q E h => ?_) (fun cdv A outer s H vs Q E hr h => ?_)
  · obtain ⟨a, v, rfl, _⟩ := h
    rfl
  · obtain ⟨a, v, rfl, ha, k⟩ := h
    exact ⟨_, pss_one (ps_one1K (pv 0) (pv 1)), _, rfl, _, rfl, a, D, rfl, T.ox, T.no, ha, fun dx h1 h2 => k dx h1 h2⟩
theorem ps_nokind {X : Cx} {W : WX} {D : Addr} {e : Expr} {ta : TA} {p pos pos' : Pos} (NK : NkK X.prog X.w X.K X.mg X.base D) (hc : X.calm = true) (tk : L2N.Takes X W) (hg : Gl X "NoKind") (hr : Room 2 X.A) (ha : PA X [e] ta)
    (mon : ∀ (σ : L2.St) (H : Hp) (Q Q' : List V → Hp → Prop), (∀ vs H1, Q vs H1 → Q' vs H1) → ta σ H Q → ta σ H Q')
    (one : starEach [e] X.env = (false, eval e X.env) :: starEach [] X.env := by rfl) (hpl : (backTo pos (starEach [] X.env)).any (·.1) = false := by rfl) :
    PS X (.Raise (some (.Call (.Name "NoKind" p) [e] [] pos)) none pos') (fun _ σ H => ta σ H fun vs H1 => ∃ v, vs = [v] ∧ Nk D v (fun cls d H' => W cls d σ H') H1) := by
  obtain ⟨fI, fdI, i1, i2, b, G⟩ := NK.ini
  refine ⟨fun pins s σ H D' I h => (L2N.ps_raise hc tk (pmk_oneK NK.c.ox i1 i2 G hr b .nil pass0 hg NK.m ha (by decide) one hpl)).run pins s σ H D' I ?_⟩
  refine mon σ H _ _ (fun vs H1 q => ?_) h
  obtain ⟨v, rfl, k⟩ := q
  refine ⟨by show 1 ≤ 1000; decide, fun a ha => ?_⟩
  refine ⟨a, v, rfl, upd_same, fun dx h1 h2 => ⟨rfl, dx, [("kind", v)], upd_same, by rw [upd_ne h2, upd_same], (by rw [upd_ne h2] at h1; exact h1), ?_⟩⟩
  have h3 : H1 dx = none := by rw [upd_ne h2] at h1; exact h1
  refine k dx _ upd_same fun b o r => ?_
  have n1 := ne_of_none r ha
  have n2 := ne_of_none r h3
  rw [upd_ne n2, del_ne n1, upd_ne n1, upd_ne n2, upd_ne n1]
  exact r
end K3
namespace K3
open PySem PySem.Spec PyProof.Rows L2 GG
/-! ### drawn plans: a scene by its parts N, beside a list of what is known -/
theorem upd_self {H : Hp} {a : Addr} {o : HO} (h : H a = some o) : upd H a o = H := by
  funext b
  by_cases e : b = a
  · rw [e, upd_same, h]
  · rw [upd_ne e]
structure ScP (H : Hp) (sc : Addr) (S : ScD) (N : Addr → Prop) (ts : List Int) : Prop where
  ok : S.Ok
  ns : ¬ N sc
  ex : ∃ (kd fd wd ct vd ta : Addr) (fl : Nat → Addr) (left : Int), H sc = some (.dK (scK kd fd wd ct S.to left vd)) ∧ H kd = some (.lst ((List.range S.kk).map fun i => V.str (S.W.at i))) ∧ H fd = some (.dK ((List.range S.kk).map fun i => (.inr (S.W.at i), .ref (fl i)))) ∧
    (∀ i, i < S.kk → H (fl i) = some (.lst ((S.fs i).map V.str)) ∧ N (fl i)) ∧ H wd = some (.lst ((List.range 5).map fun i => V.str (S.W.at (6 + i)))) ∧ H ct = some (.lst (S.ct.map V.int)) ∧ H vd = some (.lst (S.vars.map V.str)) ∧ S.to = .ref ta ∧ H ta = some (.lst (ts.map V.int)) ∧
    N kd ∧ N fd ∧ N wd ∧ N ct ∧ N vd ∧ N ta
  few : ts.length ≤ 100
  al : ∀ a, N a → ∃ o, H a = some o
section
variable {H H' : Hp} {p c sc : Addr} {S : ScD} {N : Addr → Prop} {ts : List Int}
/-- a scene's parts -/
theorem Scn.parts (h : Scn H p sc S) {ta : Addr} (et : S.to = .ref ta) (ht : H ta = some (.lst (ts.map V.int))) (few : ts.length ≤ 100) (tp : ta ≠ p) : ∃ N : Addr → Prop, ScP H sc S N ts ∧ ¬ N p ∧ sc ≠ p := by
  obtain ⟨kd, fd, wd, ct, vd, fl, left, h1, h2, h3, h4, h5, h6, h7, n1, n2, n3, n4, n5, n6⟩ := h.ex
  have fs : fd ≠ sc := fun e => by
    rw [e, h1] at h3
    have k1 := h.ok.kk.1
    have e2 := congrArg (fun o : Option HO => match o with | some (.dK k) => k.length | _ => 0) h3
    have e3 : 7 = S.kk := by simpa [scK] using e2
    have := h.ok.kk.2
    omega
  have lst : ∀ {a : Addr} {xs : List V}, H a = some (.lst xs) → a ≠ sc := fun e z => by rw [z, h1] at e; cases e
  refine ⟨fun a => a = kd ∨ a = fd ∨ a = wd ∨ a = ct ∨ a = vd ∨ a = ta ∨ ∃ i, i < S.kk ∧ a = fl i, ⟨h.ok, ?_, ⟨kd, fd, wd, ct, vd, ta, fl, left, h1, h2, h3, fun i hi => ⟨(h4 i hi).1, .inr (.inr (.inr (.inr (.inr (.inr ⟨i, hi, rfl⟩)))))⟩, h5, h6, h7, et, ht, .inl rfl, .inr (.inl rfl), .inr (.inr (.inl rfl)), .inr (.inr (.inr (.inl rfl))), .inr (.inr (.inr (.inr (.inl rfl)))), .inr (.inr (.inr (.inr (.inr (.inl rfl)))))⟩, few, ?_⟩, ?_, n1⟩
  · rintro (z | z | z | z | z | z | ⟨i, hi, z⟩)
    · exact lst h2 z.symm
    · exact fs z.symm
    · exact lst h5 z.symm
    · exact lst h6 z.symm
    · exact lst h7 z.symm
    · exact lst ht z.symm
    · exact lst (h4 i hi).1 z.symm
  · rintro a (z | z | z | z | z | z | ⟨i, hi, z⟩)
    · exact ⟨_, z ▸ h2⟩
    · exact ⟨_, z ▸ h3⟩
    · exact ⟨_, z ▸ h5⟩
    · exact ⟨_, z ▸ h6⟩
    · exact ⟨_, z ▸ h7⟩
    · exact ⟨_, z ▸ ht⟩
    · exact ⟨_, z ▸ (h4 i hi).1⟩
  · rintro (z | z | z | z | z | z | ⟨i, hi, z⟩)
    · exact n2 z.symm
    · exact n3 z.symm
    · exact n4 z.symm
    · exact n5 z.symm
    · exact n6 z.symm
    · exact tp z.symm
    · exact (h4 i hi).2 z.symm
theorem ScP.but (h : ScP H sc S N ts) {M : Addr → Prop} (b : But M H H') (m : ∀ a, N a → ¬ M a) (ms : ¬ M sc) : ScP H' sc S N ts := by
  obtain ⟨kd, fd, wd, ct, vd, ta, fl, left, h1, h2, h3, h4, h5, h6, h7, h8, h9, n1, n2, n3, n4, n5, n6⟩ := h.ex
  exact ⟨h.ok, h.ns, ⟨kd, fd, wd, ct, vd, ta, fl, left, b _ _ ms h1, b _ _ (m _ n1) h2, b _ _ (m _ n2) h3, fun i hi => ⟨b _ _ (m _ (h4 i hi).2) (h4 i hi).1, (h4 i hi).2⟩, b _ _ (m _ n3) h5, b _ _ (m _ n4) h6, b _ _ (m _ n5) h7, h8, b _ _ (m _ n6) h9, n1, n2, n3, n4, n5, n6⟩, h.few, fun a ha => (h.al a ha).imp fun o e => b _ _ (m _ ha) e⟩
/-- what a pen's draws leave -/
theorem ScP.pen (h : ScP H sc S N ts) (b : But (· = p) H H') (np : ¬ N p) (ns : sc ≠ p) : ScP H' sc S N ts := h.but b (fun a ha z => np (by rw [← z]; exact ha)) ns
theorem ScP.same (h : ScP H sc S N ts) (s : Same H H') : ScP H' sc S N ts := h.but (sameBut s fun _ => False) (fun _ _ z => z) (fun z => z)
theorem ScP.free (h : ScP H sc S N ts) {a : Addr} (ha : H a = none) : ¬ N a := fun z => by
  obtain ⟨o, e⟩ := h.al a z
  rw [ha] at e
  cases e
theorem ScP.scn (h : ScP H sc S N ts) (np : ¬ N p) (ns : sc ≠ p) : Scn H p sc S := by
  obtain ⟨kd, fd, wd, ct, vd, ta, fl, left, h1, h2, h3, h4, h5, h6, h7, h8, h9, n1, n2, n3, n4, n5, n6⟩ := h.ex
  have off : ∀ {a : Addr}, N a → a ≠ p := fun ha z => np (by rw [← z]; exact ha)
  exact ⟨h.ok, kd, fd, wd, ct, vd, fl, left, h1, h2, h3, fun i hi => ⟨(h4 i hi).1, off (h4 i hi).2⟩, h5, h6, h7, ns, off n1, off n2, off n3, off n4, off n5⟩
theorem ScP.left (h : ScP H sc S N ts) : ∃ kvs left, H sc = some (.dK kvs) ∧ valV kvs (.inr "left") = some (.int left) ∧ kvs.length = 7 ∧ ∀ x : Int, ScP (upd H sc (.dK (putK kvs (.inr "left") (.int x)))) sc S N ts := by
  obtain ⟨kd, fd, wd, ct, vd, ta, fl, left, h1, h2, h3, h4, h5, h6, h7, h8, h9, n1, n2, n3, n4, n5, n6⟩ := h.ex
  have off : ∀ {a : Addr}, N a → a ≠ sc := fun ha z => h.ns (by rw [← z]; exact ha)
  refine ⟨_, left, h1, rfl, rfl, fun x => ⟨h.ok, h.ns, ⟨kd, fd, wd, ct, vd, ta, fl, x, by rw [upd_same]; rfl, ?_, ?_, fun i hi => ⟨?_, (h4 i hi).2⟩, ?_, ?_, ?_, h8, ?_, n1, n2, n3, n4, n5, n6⟩, h.few, fun a ha => (h.al a ha).imp fun o e => by rw [upd_ne (off ha)]; exact e⟩⟩
  · rw [upd_ne (off n1)]; exact h2
  · rw [upd_ne (off n2)]; exact h3
  · rw [upd_ne (off (h4 i hi).2)]; exact (h4 i hi).1
  · rw [upd_ne (off n3)]; exact h5
  · rw [upd_ne (off n4)]; exact h6
  · rw [upd_ne (off n5)]; exact h7
  · rw [upd_ne (off n6)]; exact h9
/-- what stands under each of a scene's words -/
theorem ScP.get (h : ScP H sc S N ts) : ∃ (kvs fvs : List (Key × V)) (kd fd wd ct vd ta : Addr) (fl : Nat → Addr), H sc = some (.dK kvs) ∧ valV kvs (.inr "kinds") = some (.ref kd) ∧ valV kvs (.inr "fields") = some (.ref fd) ∧ valV kvs (.inr "words") = some (.ref wd) ∧ valV kvs (.inr "counts") = some (.ref ct) ∧ valV kvs (.inr "to") = some (.ref ta) ∧ valV kvs (.inr "vars") = some (.ref vd) ∧
    H kd = some (.lst ((List.range S.kk).map fun i => V.str (S.W.at i))) ∧ H fd = some (.dK fvs) ∧ (∀ i, i < S.kk → valV fvs (.inr (S.W.at i)) = some (.ref (fl i)) ∧ H (fl i) = some (.lst ((S.fs i).map V.str)) ∧ N (fl i)) ∧ H wd = some (.lst ((List.range 5).map fun i => V.str (S.W.at (6 + i)))) ∧ H ct = some (.lst (S.ct.map V.int)) ∧ H vd = some (.lst (S.vars.map V.str)) ∧ H ta = some (.lst (ts.map V.int)) ∧
    N kd ∧ N fd ∧ N wd ∧ N ct ∧ N vd ∧ N ta := by
  obtain ⟨kd, fd, wd, ct, vd, ta, fl, left, h1, h2, h3, h4, h5, h6, h7, h8, h9, n1, n2, n3, n4, n5, n6⟩ := h.ex
  have kk := h.ok.kk
  rw [h8] at h1
  exact ⟨_, _, kd, fd, wd, ct, vd, ta, fl, h1, rfl, rfl, rfl, rfl, rfl, rfl, h2, h3, fun i hi => ⟨valV_at h.ok.w (by omega) hi, (h4 i hi).1, (h4 i hi).2⟩, h5, h6, h7, h9, n1, n2, n3, n4, n5, n6⟩
theorem ScP.f (h : ScP H sc S N ts) (np : ¬ N p) (ns : sc ≠ p) {i : Nat} (hi : i < S.kk) : ScF H p sc (S.W.at i) (S.fs i) := (h.scn np ns).f hi
theorem ScD.Ok.vok (h : S.Ok) : S.vars.length = 5 ∧ ∀ z ∈ S.vars, PyData.strOk z = true := by
  rcases h.vars with e | e
  · rw [e]
    refine ⟨by simp, fun z hz => ?_⟩
    obtain ⟨j, hj, rfl⟩ := List.mem_map.mp hz
    have := List.mem_range.mp hj
    exact h.w.strOk (by omega)
  · rw [e]
    refine ⟨by simp, fun z hz => ?_⟩
    obtain ⟨j, hj, rfl⟩ := List.mem_map.mp hz
    have := List.mem_range.mp hj
    exact h.w.strOk (by omega)
theorem ScD.Ok.fok (h : S.Ok) (i : Nat) : (S.fs i).length ≤ 3 ∧ ∀ z ∈ S.fs i, PyData.strOk z = true := by
  have m3 := h.m i
  refine ⟨by simp [ScD.fs]; omega, fun f hf => ?_⟩
  obtain ⟨j, hj, rfl⟩ := List.mem_map.mp hf
  have := List.mem_range.mp hj
  exact h.w.strOk (by omega)
end
end K3
namespace K3
open PySem PySem.Spec PyProof.Rows L2 GG
/-! ### drawn plans: a deed -/
def drD : Nat → Nat
  | 0 => 600
  | n + 1 => 610 + 2 * (1 + 5 * drD n)
/-- what a deed changes: the pen, how many calls are left, what is known -/
def dM (p sc kl : Addr) : Addr → Prop := fun a => a = p ∨ a = sc ∨ a = kl
structure DdIn (H : Hp) (p c sc kl : Addr) (ns : List Int) (n : Nat) (S : ScD) (N : Addr → Prop) (ts : List Int) (kn : List Str) : Prop where
  pen : Pen H p c ns n
  scp : ScP H sc S N ts
  np : ¬ N p
  nk : ¬ N kl
  sp : sc ≠ p
  kc : kl ≠ c
  hkl : H kl = some (.lst (kn.map V.str))
  ok : ∀ f ∈ kn, PyData.strOk f = true
def spDeed (wi : Nat) : Sp := fun vs H Q _ => ∃ (p c sc kl : Addr) (ns : List Int) (n i : Nat) (r : Int) (S : ScD) (N : Addr → Prop) (ts : List Int) (kn : List Str), vs = [.ref p, .ref sc, .str (S.W.at i), .int r, .ref kl, .int wi] ∧ DdIn H p c sc kl ns n S N ts kn ∧ n + drD wi ≤ 900000000 ∧ i < S.kk ∧ 0 ≤ r ∧ r ≤ 4 ∧ kn.length + 10 * wi ≤ 90 ∧
  ∀ (v : V) (x : PyData) (kn' : List Str) (H' : Hp), Dt H' v x → DdIn H' p c sc kl ns (n + drD wi) S N ts kn' → kn'.length ≤ kn.length + 1 → But (dM p sc kl) H H' → Q v H'
def spDeeds (wi : Nat) : Sp := fun vs H Q _ => ∃ (p c sc kl : Addr) (ns : List Int) (n i e m : Nat) (r : Int) (S : ScD) (N : Addr → Prop) (ts : List Int) (kn : List Str), wi = e + 1 ∧ vs = [.ref p, .ref sc, .str (S.W.at i), .int r, .ref kl, .int e, .int m] ∧ 1 ≤ m ∧ m ≤ 5 ∧ DdIn H p c sc kl ns n S N ts kn ∧ n + (1 + 5 * drD e) ≤ 900000000 ∧ i < S.kk ∧ 0 ≤ r ∧ r ≤ 4 ∧ kn.length + 10 * e + 5 ≤ 90 ∧
  ∀ (v : V) (xs : List PyData) (kn' : List Str) (H' : Hp), Dt H' v (.tuple xs) → DdIn H' p c sc kl ns (n + (1 + 5 * drD e)) S N ts kn' → kn'.length ≤ kn.length + 5 → But (dM p sc kl) H H' → Q v H'
abbrev sDeed : Stmt := top 20
abbrev psDd : List Str := ["_law_pen_here", "_law_scene_here", "_law_breed", "_law_rank", "_law_known", "_law_within"]
abbrev psDs : List Str := ["_law_pen_here", "_law_scene_here", "_law_breed", "_law_rank", "_law_known", "_law_within", "_law_many"]
abbrev nDd : List Str := ["_law_pen_here", "_law_scene_here", "_law_breed", "_law_rank", "_law_known", "_law_within", "_law_lot", "_law_later", "_law_some", "_law_term", "_law_other_here", "_law_many", "_law_task", "_law_to", "_law_bits", "_law_told", "_law_k"]
theorem scDd : FnScope nDd psDd (defScope sDeed) := ⟨rfl, rfl, rfl, by decide +kernel, rfl, by decide +kernel, by decide +kernel⟩
section
variable {H H' : Hp} {p c sc kl : Addr} {ns : List Int} {n : Nat} {S : ScD} {N : Addr → Prop} {ts : List Int} {kn : List Str}
theorem DdIn.kp (h : DdIn H p c sc kl ns n S N ts kn) : kl ≠ p := h.pen.ne h.hkl
theorem DdIn.ks (h : DdIn H p c sc kl ns n S N ts kn) : kl ≠ sc := fun z => by
  obtain ⟨kvs, left, e, _⟩ := h.scp.left
  have e2 := h.hkl
  rw [z, e] at e2
  cases e2
theorem DdIn.cs (h : DdIn H p c sc kl ns n S N ts kn) : sc ≠ c := fun z => by
  obtain ⟨kvs, left, e, _⟩ := h.scp.left
  obtain ⟨a, l, h1, h2, h3, h4, h5, h6⟩ := h.pen
  rw [← z, e] at h5
  cases h5
theorem DdIn.step (h : DdIn H p c sc kl ns n S N ts kn) {m : Nat} (hp : Pen H' p c ns m) (b : But (· = p) H H') : DdIn H' p c sc kl ns m S N ts kn :=
  ⟨hp, h.scp.pen b h.np h.sp, h.np, h.nk, h.sp, h.kc, b _ _ h.kp h.hkl, h.ok⟩
theorem DdIn.same (h : DdIn H p c sc kl ns n S N ts kn) (s : Same H H') : DdIn H' p c sc kl ns n S N ts kn := h.step (h.pen.but (sameBut s fun _ => False) id id) (sameBut s _)
theorem DdIn.mono (h : DdIn H p c sc kl ns n S N ts kn) {m : Nat} (hm : n ≤ m) : DdIn H p c sc kl ns m S N ts kn := { h with pen := h.pen.mono hm }
/-- a name is known -/
theorem DdIn.add (h : DdIn H p c sc kl ns n S N ts kn) {z : Str} (hz : PyData.strOk z = true) : DdIn (upd H kl (.lst (kn.map V.str ++ [.str z]))) p c sc kl ns n S N ts (kn ++ [z]) := by
  have b : But (· = kl) H (upd H kl (.lst (kn.map V.str ++ [.str z]))) := (But.refl _ H).mut rfl
  refine ⟨h.pen.mut h.kp h.kc, h.scp.but b (fun a ha q => h.nk (by rw [← q]; exact ha)) h.ks.symm, h.np, h.nk, h.sp, h.kc, ?_, fun f hf => ?_⟩
  · rw [upd_same, List.map_append]
    rfl
  · rcases List.mem_append.mp hf with q | q
    · exact h.ok f q
    · rw [List.mem_singleton.mp q]
      exact hz
/-- how many calls are left is told anew -/
theorem DdIn.left (h : DdIn H p c sc kl ns n S N ts kn) : ∃ kvs left, H sc = some (.dK kvs) ∧ valV kvs (.inr "left") = some (.int left) ∧ kvs.length = 7 ∧ ∀ x : Int, DdIn (upd H sc (.dK (putK kvs (.inr "left") (.int x)))) p c sc kl ns n S N ts kn := by
  obtain ⟨kvs, left, e1, e2, e3, g⟩ := h.scp.left
  exact ⟨kvs, left, e1, e2, e3, fun x => ⟨h.pen.mut h.sp h.cs, g x, h.np, h.nk, h.sp, h.kc, by rw [upd_ne h.ks]; exact h.hkl, h.ok⟩⟩
theorem DdIn.tups (h : DdIn H p c sc kl ns n S N ts kn) (b : But (dM p sc kl) H H') : Tups H H' := fun a xs e => b _ _ (fun z => by
  rcases z with z | z | z
  · exact h.pen.neT e z
  · obtain ⟨_, _, e1, _⟩ := h.scp.left
    rw [z, e1] at e
    cases e
  · have e1 := h.hkl
    rw [← z, e] at e1
    cases e1) e
/-- another object changes -/
theorem DdIn.off (h : DdIn H p c sc kl ns n S N ts kn) {D : Addr} {o : HO} (n1 : D ≠ p) (n2 : D ≠ c) (n3 : D ≠ sc) (n4 : D ≠ kl) (n5 : ¬ N D) : DdIn (upd H D o) p c sc kl ns n S N ts kn :=
  ⟨h.pen.mut n1 n2, h.scp.but ((But.refl (· = D) H).mut rfl) (fun a ha q => n5 (by rw [← q]; exact ha)) n3.symm, h.np, h.nk, h.sp, h.kc, by rw [upd_ne n4.symm]; exact h.hkl, h.ok⟩
theorem dM.pen (b : But (· = p) H H') : But (dM p sc kl) H H' := b.mono fun _ z => .inl z
theorem dM.same (s : Same H H') : But (dM p sc kl) H H' := sameBut s _
def rListOf (K : PySem.W.Frag) : List V → Hp → VK → Prop := fun xs H Q => ∃ p ys, xs = [.ref p] ∧ (SqL K H p ys ∨ SqT K H p ys) ∧ ∀ l, H l = none → Q (.ref l) (upd H l (.lst ys))
theorem tup_mut {a : Addr} {o : HO} (q : ∀ xs, H a ≠ some (.tup xs)) : Tups H (upd H a o) := fun b xs e => by
  rw [upd_ne (fun z => q xs (by rw [← z]; exact e))]
  exact e
end
section
variable {P : Program} {w : World} {K : PySem.W.Frag} {mg : Str → Option Value} {base : Heap}
theorem ok_deeds0 {f : Addr} {fd : FuncData} {k : Nat} : FnOk P w K mg base CX0 k f fd psDs (spDeeds 0) :=
  ⟨fun vs H Q E h => by
    obtain ⟨p, c, sc, kl, ns, n, i, e, m, r, S, N, ts, kn, z, _⟩ := h
    exact absurd z (by omega), fun A outer s0 H args us vs Q E _ _ _ _ h => by
    obtain ⟨p, c, sc, kl, ns, n, i, e, m, r, S, N, ts, kn, z, _⟩ := h
    exact absurd z (by omega)⟩
theorem ok_deed {f fs fl fv : Addr} {fd fds fdl fdv : FuncData} {k wi : Nat} (F : Fun K "_law_deed" "_law_deed" sDeed f fd) (T : Txt mg) (k7 : 7 ≤ k)
    (ms : mg "_law_deeds" = some (.ref fs)) (ks : PySem.W.keepIn K (.ref fs) = true) (bs : Binds K fds psDs []) (Gs : FnOk P w K mg base CX0 k fs fds psDs (spDeeds wi))
    (mX : mg "_law_value" = some (.ref fl)) (kX : PySem.W.keepIn K (.ref fl) = true) (bX : Binds K fdl ["_law_pen_here", "_law_scene_here", "_law_breed", "_law_known", "_law_deep"] []) (Gl : FnOk P w K mg base CX0 6 fl fdl ["_law_pen_here", "_law_scene_here", "_law_breed", "_law_known", "_law_deep"] (spVal 3))
    (mv : mg "_law_values" = some (.ref fv)) (kv : PySem.W.keepIn K (.ref fv) = true) (bv : Binds K fdv ["_law_pen_here", "_law_scene_here", "_law_breed", "_law_known", "_law_many"] []) (Gv : FnOk P w K mg base CX0 7 fv fdv ["_law_pen_here", "_law_scene_here", "_law_breed", "_law_known", "_law_many"] spVals)
    (CD : Cal P w K mg base "_law_draw" 1 ["_law_pen_here", "_law_many"] spDraw) (CP : Cal P w K mg base "_law_pick" 2 ["_law_pen_here", "_law_some"] spPick) (CH : Cal P w K mg base "_law_hold_of" 3 ["_law_pen_here", "_law_scene_here", "_law_breed", "_law_known"] spHoldOf) :
    FnOk P w K mg base CX0 (k + 1) f fd psDd (spDeed wi) := by
  obtain ⟨fD, fdD, mD, kD, bD, GD⟩ := CD
  obtain ⟨fP, fdP, mP, kP, bP, GP⟩ := CP
  obtain ⟨fH, fdH, mH, kH, bH, GH⟩ := CH
  refine F.ok scDd (fun vs H Q E h => ?_) (fun cdv A outer s H vs Q E hr h => ?_)
  · obtain ⟨p, c, sc, kl, ns, n, i, r, S, N, ts, kn, rfl, _⟩ := h
    rfl
  · obtain ⟨p, c, sc, kl, ns, n, i, r, S, N, ts, kn, rfl, hD, hn, hi, r0, r4, lk, go⟩ := h
    have nd := scDd.nd
    have hu := hu_of hr
    have hr1 : Room 1 _ := hr.mono (by omega)
    have hr2 : Room 2 _ := hr.mono (by omega)
    have hr3 : Room 3 _ := hr.mono (by omega)
    have hr6 : Room 6 _ := hr.mono (by omega)
    have hr7 : Room 7 _ := hr.mono (by omega)
    refine ⟨_, pss_cons (ps_par (i := 6) (j := 7) rfl nd rfl rfl (by decide) rfl rfl (pa_cons (pe_call GD hr1 (by rfl) mD kD bD .nil pass0 (pa_cons (pv 0) (pa_cons pe_int pa_nil)))
        (pa_cons (pe_op op_add (pe_op op_add (pv 3) pe_int) (pe_call GD hr1 (by rfl) mD kD bD .nil pass0 (pa_cons (pv 0) (pa_cons (pe_callB (call_max2 rfl) (by rfl) T.max (by decide +kernel) (pa_cons pe_int (pa_cons (pe_op op_sub pe_int (pv 3)) pa_nil))) pa_nil)))) pa_nil)) (by rfl))
      (C8.pss_cut (ps_if (PW.pt (pw_and (pt_cmpR op_lt (pv 6) pe_int (nomark _)) (pw_and1 (pt_cmpR (op_neD hr.units) (pe_dget hu (pe_dget hu (pv 1) pe_str (fun _ _ => rfl)) (pv 2) (fun _ _ => rfl)) (pe_lst pa_nil) (nomark _)))))
        (pss_one (ps_ret (pe_tup (pa_cons pe_str (pa_cons (pe_call GP hr2 (by rfl) mP kP bP .nil pass0 (pa_cons (pv 0) (pa_cons (pe_dget hu (pe_dget hu (pv 1) pe_str (fun _ _ => rfl)) (pv 2) (fun _ _ => rfl)) pa_nil))) (pa_cons (pe_call Gl hr6 (by rfl) mX kX bX .nil pass0 (pa_cons (pv 0) (pa_cons (pv 1) (pa_cons (pv 2) (pa_cons (pv 4) (pa_cons pe_int pa_nil)))))) pa_nil)))))) pss_nil)
      (C8.pss_cut (ps_if (PW.pt (pw_and (pt_cmpR op_eq (pv 6) pe_int (nomark _)) (pw_and1 (pt_cmpR op_gt (pv 5) pe_int (nomark _)))))
        (pss_cons (ps_setLc (i := 8) (own := [("_law_k", 16)]) (g := gName 16) (tt := tYes) rfl nd rfl rfl (sw_true rfl rfl rfl (by decide +kernel)) (pi_range1 rfl T.range (pa_cons pe_int pa_nil))
            (blkOk_by (N := nDd) (sc := defScope sDeed) (by decide +kernel)) (fun _ _ _ _ _ => pg_name (i := 16) nd rfl (Or.inl rfl)) (fun _ _ _ _ _ => pts_nil)
            (fun _ _ _ _ _ => pe_call Gs hr (by rfl) ms ks bs .nil pass0 (pa_cons (pv 0) (pa_cons (pv 1) (pa_cons (pv 2) (pa_cons (pv 3) (pa_cons (pe_callTy (T := "list") (r := rListOf K) call_list_of (by rfl) T.list (by decide +kernel) (pa_cons (pv 4) pa_nil)) (pa_cons (pe_op op_sub (pv 5) pe_int) (pa_cons pe_int pa_nil)))))))))
        (pss_one (ps_ret (pe_tup (pa_cons pe_str (pa_cons (pe_call Gl hr6 (by rfl) mX kX bX .nil pass0 (pa_cons (pv 0) (pa_cons (pv 1) (pa_cons (pv 2) (pa_cons (pv 4) (pa_cons pe_int pa_nil)))))) (pa_cons (pe_ix ix_list (pv 8) pe_int (fun _ _ => rfl)) (pa_cons (pe_ix ix_list (pv 8) pe_int (fun _ _ => rfl)) pa_nil)))))))) pss_nil)
      (C8.pss_cut (ps_if (PW.pt (pw_and (pt_cmpR op_eq (pv 6) pe_int (nomark _)) (pw_and1 (pt_cmpR (op_neD hr.units) (pe_dget hu (pv 1) pe_str (fun _ _ => rfl)) (pe_lst pa_nil) (nomark _)))))
        (pss_one (ps_ret (pe_tup (pa_cons pe_str (pa_cons (pe_call GP hr2 (by rfl) mP kP bP .nil pass0 (pa_cons (pv 0) (pa_cons (pe_dget hu (pv 1) pe_str (fun _ _ => rfl)) pa_nil))) pa_nil))))) pss_nil)
      (C8.pss_cut (ps_if (pt_cmpR op_in_seq (pv 6) (pe_tup (pa_cons pe_int (pa_cons pe_int pa_nil))) rfl)
        (pss_cons (ps_par (i := 9) (j := 10) rfl nd rfl rfl (by decide) rfl rfl (pa_cons (pe_call GP hr2 (by rfl) mP kP bP .nil pass0 (pa_cons (pv 0) (pa_cons (pe_dget hu (pv 1) pe_str (fun _ _ => rfl)) pa_nil))) (pa_cons (pe_call GP hr2 (by rfl) mP kP bP .nil pass0 (pa_cons (pv 0) (pa_cons (pe_dget hu (pv 1) pe_str (fun _ _ => rfl)) pa_nil))) pa_nil)) (by rfl))
        (pss_cons (ps_set (i := 11) nd rfl (.inl rfl) (pe_call GD hr1 (by rfl) mD kD bD .nil pass0 (pa_cons (pv 0) (pa_cons (pe_op op_add (pe_callB call_len_seq (by rfl) T.len PySem.boot_len (pa_cons (pe_dget hu (pe_dget hu (pv 1) pe_str (fun _ _ => rfl)) (pv 10) (fun _ _ => rfl)) pa_nil)) pe_int) pa_nil))))
        (pss_cons (ps_set (i := 12) nd rfl (.inl rfl) (pe_tup (pa_cons pe_str (pa_cons (pv 9) (pa_cons (pv 10) (pa_cons (pe_call Gv hr7 (by rfl) mv kv bv .nil pass0 (pa_cons (pv 0) (pa_cons (pv 1) (pa_cons (pv 2) (pa_cons (pv 4) (pa_cons (pv 11) pa_nil)))))) pa_nil))))))
        (pss_cons (ps_expr (pe_bm PySem.F.plainAttrs_list PySem.F.slot_list_append PySem.F.type_list_append mt_append (pv 4) (pa_cons (pv 9) pa_nil)))
        (pss_one (ps_ret (pv 12))))))) pss_nil)
      (C8.pss_cut (ps_if (PW.pt (pw_and (pt_chain op_lt op_lt pe_int (pv 6) pe_int) (pw_and (pt_cmpR op_lt (pv 7) pe_int (nomark _)) (pw_and1 (pt_cmpR op_gt (pe_dget hu (pv 1) pe_str (fun _ _ => rfl)) pe_int (nomark _))))))
        (pss_cons (ps_dput hu (pv 1) pe_str (pe_op op_sub (pe_dget hu (pv 1) pe_str (fun _ _ => rfl)) pe_int) rfl)
        (pss_cons (ps_par (i := 13) (j := 11) rfl nd rfl rfl (by decide) rfl rfl (pa_cons (pe_call GH hr3 (by rfl) mH kH bH .nil pass0 (pa_cons (pv 0) (pa_cons (pv 1) (pa_cons (pv 2) (pa_cons (pv 4) pa_nil))))) (pa_cons (pe_ix ix_list (pe_dget hu (pv 1) pe_str (fun _ _ => rfl)) (pv 7) (fun _ _ => rfl)) pa_nil)) (by rfl))
        (C8.pss_cut (ps_if (PW.pt (pw_and (pt_cmpR op_eq (pv 6) pe_int (nomark _)) (pw_and1 (pt_cmpR op_gt (pv 11) pe_int (nomark _)))))
          (pss_cons (ps_set (i := 14) nd rfl (.inl rfl) (pe_call Gv hr7 (by rfl) mv kv bv .nil pass0 (pa_cons (pv 0) (pa_cons (pv 1) (pa_cons (pv 2) (pa_cons (pv 4) (pa_cons (pe_op op_sub (pv 11) pe_int) pa_nil)))))))
          (pss_one (ps_ret (pe_tup (pa_cons pe_str (pa_cons (pv 13) (pa_cons (pe_ix ix_list (pe_dget hu (pv 1) pe_str (fun _ _ => rfl)) (pv 7) (fun _ _ => rfl)) (pa_cons (pv 14) pa_nil))))))))
          pss_nil)
        (pss_cons (ps_par (i := 9) (j := 14) rfl nd rfl rfl (by decide) rfl rfl (pa_cons (pe_call GP hr2 (by rfl) mP kP bP .nil pass0 (pa_cons (pv 0) (pa_cons (pe_dget hu (pv 1) pe_str (fun _ _ => rfl)) pa_nil))) (pa_cons (pe_call Gv hr7 (by rfl) mv kv bv .nil pass0 (pa_cons (pv 0) (pa_cons (pv 1) (pa_cons (pv 2) (pa_cons (pv 4) (pa_cons (pv 11) pa_nil)))))) pa_nil)) (by rfl))
        (pss_cons (ps_expr (pe_bm PySem.F.plainAttrs_list PySem.F.slot_list_append PySem.F.type_list_append mt_append (pv 4) (pa_cons (pv 9) pa_nil)))
        (pss_one (ps_ret (pe_tup (pa_cons pe_str (pa_cons (pv 9) (pa_cons (pv 13) (pa_cons (pe_ix ix_list (pe_dget hu (pv 1) pe_str (fun _ _ => rfl)) (pv 7) (fun _ _ => rfl)) (pa_cons (pv 14) pa_nil))))))))))))) pss_nil)
      (C8.pss_cut (ps_if (PW.pt (pw_and (pt_cmpR op_eq (pv 6) pe_int (nomark _)) (pw_and1 (pt_cmpR op_eq (pe_call GD hr1 (by rfl) mD kD bD .nil pass0 (pa_cons (pv 0) (pa_cons pe_int pa_nil))) pe_int (nomark _)))))
        (pss_one (ps_ret (pe_tup (pa_cons pe_str (pa_cons (pe_call GP hr2 (by rfl) mP kP bP .nil pass0 (pa_cons (pv 0) (pa_cons (pe_lst (pa_cons pe_str (pa_cons pe_str (pa_cons pe_str pa_nil)))) pa_nil))) pa_nil))))) pss_nil)
      (C8.pss_cut (ps_if (PW.pt (pw_and (pt_cmpR op_eq (pv 6) pe_int (nomark _)) (pw_and1 (pt_cmpR op_eq (pe_call GD hr1 (by rfl) mD kD bD .nil pass0 (pa_cons (pv 0) (pa_cons pe_int pa_nil))) pe_int (nomark _)))))
        (pss_cons (ps_par (i := 9) (j := 15) rfl nd rfl rfl (by decide) rfl rfl (pa_cons (pe_call GP hr2 (by rfl) mP kP bP .nil pass0 (pa_cons (pv 0) (pa_cons (pe_dget hu (pv 1) pe_str (fun _ _ => rfl)) pa_nil))) (pa_cons (pe_call Gl hr6 (by rfl) mX kX bX .nil pass0 (pa_cons (pv 0) (pa_cons (pv 1) (pa_cons (pv 2) (pa_cons (pv 4) (pa_cons pe_int pa_nil)))))) pa_nil)) (by rfl))
        (pss_cons (ps_expr (pe_bm PySem.F.plainAttrs_list PySem.F.slot_list_append PySem.F.type_list_append mt_append (pv 4) (pa_cons (pv 9) pa_nil)))
        (pss_one (ps_ret (pe_tup (pa_cons pe_str (pa_cons (pv 9) (pa_cons (pv 15) pa_nil)))))))) pss_nil)
      (pss_one (ps_ret (pe_tup (pa_cons (pe_ix ix_list (pe_lst (pa_cons pe_str (pa_cons pe_str pa_nil))) (pe_op op_modN (pv 6) pe_int) (fun _ _ => rfl)) (pa_cons (pe_call Gl hr6 (by rfl) mX kX bX .nil pass0 (pa_cons (pv 0) (pa_cons (pv 1) (pa_cons (pv 2) (pa_cons (pv 4) (pa_cons pe_int pa_nil)))))) pa_nil)))))))))))), ?_⟩
    have d0 : 600 ≤ drD wi := by cases wi <;> simp [drD] <;> omega
    have d3 : drV 3 = 49 := rfl
    obtain ⟨fl3, fok⟩ := hD.scp.ok.fok i
    refine ⟨_, rfl, p, c, ns, _, 16, rfl, hD.pen, by omega, by decide, by decide, fun lot H1 l0 l16 hP1 b1 => ?_⟩
    have mx : 1 ≤ (if 4 - r > 1 then 4 - r else (1 : Int)) ∧ (if 4 - r > 1 then 4 - r else (1 : Int)) ≤ 4 ∧ r + 1 + (if 4 - r > 1 then 4 - r else (1 : Int)) ≤ 6 := by split <;> omega
    refine ⟨_, rfl, _, _, rfl, rfl, _, rfl, _, rfl, _, _, rfl, rfl, _, _, rfl, p, c, ns, _, _, rfl, hP1, by omega, mx.1, by omega, fun q H2 q0 qm hP2 b2 => ⟨_, _, rfl, rfl, _, _, rfl, ?_⟩⟩
    have lat0 : 0 ≤ r + 1 + q := by omega
    have lat1 : r + 1 + q ≤ 5 := by omega
    have hA := ((hD.step hP1 b1).step hP2 b2).mono (show n + 1 + 1 ≤ n + 4 by omega)
    have bA := b1.trans b2
    generalize H2 = Ha at hA bA ⊢
    clear b1 b2 hP1 hP2
    -- set
    refine ⟨fun σ' H' => σ' = [some (.ref p), some (.ref sc), some (.str (S.W.at i)), some (.int r), some (.ref kl), some (.int wi), some (.int lot), some (.int (r + 1 + q)), none, none, none, none, none, none, none, none, none] ∧ DdIn H' p c sc kl ns (n + 4) S N ts kn ∧ But (· = p) H H', ?_, ?_⟩
    · refine ⟨_, rfl, _, _, rfl, rfl, _, rfl, ite2 (fun _ => ?_) (fun _ => ⟨rfl, hA, bA⟩)⟩
      obtain ⟨kvs, fvs, kd, fd, wd, ct, vd, ta, fl, g1, gk, gf, gw, gc, gt, gv, h1, h2, h3, h4, h5, h6, h7, m1, m2, m3, m4, m5, m6⟩ := hA.scp.get
      obtain ⟨e1, e2, e3⟩ := h3 i hi
      refine ⟨_, rfl, sc, _, rfl, dgS g1 gf, _, rfl, fd, _, rfl, dgS h2 e1, Nat.zero_le _, fun l hl => ?_⟩
      have sa := same_new (Same.refl Ha) hl (o := .lst [])
      have el : upd Ha l (.lst []) l = some (.lst []) := upd_same
      generalize upd Ha l (.lst []) = Hb at sa el ⊢
      refine ⟨.list ((S.fs i).map PyData.str), .list [], .lst (SqL.of (sa _ _ e2)) (dpS _), .lst (SqL.of el) .nil, shapedS fok, by decide +kernel, _, rfl, ?_⟩
      rw [eqvS]
      have hB := hA.same sa
      have bB := bA.trans (sameBut sa _)
      refine ite2 (fun ne => ?_) (fun _ => ⟨rfl, hB, bB⟩)
      refine ⟨_, rfl, _, rfl, sc, _, rfl, dgS (sa _ _ g1) gf, _, rfl, fd, _, rfl, dgS (sa _ _ h2) e1, p, c, ns, _, _, (S.fs i).map V.str, rfl, hB.pen, by omega, ⟨by rw [List.length_map]; exact List.length_pos_iff.mpr (of_decide_eq_true ne), by rw [List.length_map]; omega, .inl ⟨fl i, rfl, .inl (sa _ _ e2)⟩⟩, fun v H2 hv hP2 b2 => ?_⟩
      obtain ⟨z, hz, rfl⟩ := List.mem_map.mp hv
      have hC := hB.step hP2 b2
      refine ⟨_, rfl, _, rfl, _, rfl, _, rfl, p, c, sc, kl, ns, _, 2, _, S.fs i, kn, rfl, rfl, hC.pen, by omega, hC.scp.f hC.np hC.sp hi, hC.hkl, by omega, hC.ok, fun v3 x3 H3 hv3 wx hP3 b3 => ⟨(by show 3 ≤ sizeLine; decide), fun t ht => ?_⟩⟩
      have s4 := same_new (Same.refl H3) ht (o := .tup [.str "set", .str z, v3])
      exact go _ (.tuple [.str "set", .str z, x3]) kn _ (.tup upd_same (.cons (.str _) (.cons (.str _) (.cons (hv3.mono (sameTups s4)) .nil)))) (((hC.step hP3 b3).same s4).mono (by omega)) (by omega) (dM.pen (((bB.trans b2).trans b3).trans (sameBut s4 _)))
    clear hA bA Ha
    rintro _ Ha ⟨rfl, hA, bA⟩
    generalize r + 1 + q = lat at lat0 lat1 ⊢
    -- if
    refine ⟨fun σ' H' => σ' = [some (.ref p), some (.ref sc), some (.str (S.W.at i)), some (.int r), some (.ref kl), some (.int wi), some (.int lot), some (.int lat), none, none, none, none, none, none, none, none, none] ∧ DdIn H' p c sc kl ns (n + 4) S N ts kn ∧ But (· = p) H H', ?_, ?_⟩
    · refine ⟨_, rfl, rfl, _, rfl, ite2 (fun _ => ⟨_, rfl, _, _, rfl, rfl, _, rfl, ite2 (fun w0 => ?_) (fun _ => ⟨rfl, hA, bA⟩)⟩) (fun _ => ⟨rfl, hA, bA⟩)⟩
      have w1 : (0 : Int) < (wi : Int) := of_decide_eq_true w0
      obtain ⟨e, rfl⟩ : ∃ e, wi = e + 1 := ⟨wi - 1, by omega⟩
      have de : drD (e + 1) = 610 + 2 * (1 + 5 * drD e) := rfl
      refine ⟨2, rfl, by decide, by decide, fun D hDn => ?_⟩
      have nDp : D ≠ p := (hA.pen.fresh hDn).1
      have nDc : D ≠ c := (hA.pen.fresh hDn).2
      have nDk : D ≠ kl := (ne_of_none hA.hkl hDn).symm
      have nDs : D ≠ sc := fun z => by
        obtain ⟨_, _, e1, _⟩ := hA.scp.left
        rw [z, e1] at hDn
        cases hDn
      have nDN : ¬ N D := hA.scp.free hDn
      refine lc_range (lo := 0) (n := 2) (fun j H' => ∃ (us : List V) (xs : List PyData), H' D = some (.lst us) ∧ DtAll H' us xs ∧ xs.length = j ∧ DdIn H' p c sc kl ns (n + 4 + j * (1 + 5 * drD e)) S N ts kn ∧ But (dM p sc kl) H H') ?_ ?_ ?_
      · exact ⟨[], [], upd_same, .nil, rfl, (hA.same (same_new (Same.refl Ha) hDn)).mono (by omega), (dM.pen bA).new hDn⟩
      · rintro j H3 hj ⟨us, xs, hDa, al, lx, hC, b3⟩
        have jm : j * (1 + 5 * drD e) ≤ 1 * (1 + 5 * drD e) := Nat.mul_le_mul_right _ (by omega)
        refine ⟨rfl, _, rfl, _, rfl, _, rfl, _, rfl, _, rfl, kl, _, rfl, .inl (SqL.of hC.hkl), fun l hl => ⟨_, rfl, _, _, rfl, rfl, ?_⟩⟩
        have sl := same_new (Same.refl H3) hl (o := .lst (kn.map V.str))
        have el : upd H3 l (.lst (kn.map V.str)) l = some (.lst (kn.map V.str)) := upd_same
        generalize upd H3 l (.lst (kn.map V.str)) = H4 at sl el ⊢
        have hl0 := hC.same sl
        have nlD : l ≠ D := (ne_of_none hDa hl).symm
        have nlk : l ≠ kl := (ne_of_none hC.hkl hl).symm
        have hI : DdIn H4 p c sc l ns (n + 4 + j * (1 + 5 * drD e)) S N ts kn := ⟨hl0.pen, hl0.scp, hl0.np, hC.scp.free hl, hl0.sp, (hC.pen.fresh hl).2, el, hl0.ok⟩
        refine ⟨p, c, sc, l, ns, _, i, e, 3, r, S, N, ts, kn, rfl, (by show [V.ref p, V.ref sc, V.str (S.W.at i), V.int r, V.ref l, V.int (((e + 1 : Nat) : Int) - 1), V.int 3] = _; rw [subOne]; rfl), by decide, by decide, hI, by omega, hi, r0, r4, by omega, fun v ys kn' H5 hv hJ lk' b5 => ?_⟩
        have ll := al.length
        have t5 := hI.tups b5
        have hD4 : H4 D = some (.lst us) := sl _ _ hDa
        have hD5 : H5 D = some (.lst us) := b5 _ _ (fun z => z.elim nDp fun z => z.elim nDs fun z => nlD z.symm) hD4
        have hK5 : H5 kl = some (.lst (kn.map V.str)) := b5 _ _ (fun z => z.elim hC.kp fun z => z.elim hC.ks fun z => nlk z.symm) (sl _ _ hC.hkl)
        have hE : DdIn H5 p c sc kl ns (n + 4 + j * (1 + 5 * drD e) + (1 + 5 * drD e)) S N ts kn := ⟨hJ.pen, hJ.scp, hJ.np, hC.nk, hJ.sp, hC.kc, hK5, hC.ok⟩
        have tm : Tups H5 (upd H5 D (.lst (us ++ [v]))) := tup_mut fun xs z => by rw [hD5] at z; cases z
        have bl : But (fun a => dM p sc l a) H3 H5 := (dM.same sl).trans b5
        refine ⟨us, hD5, small1000 (by omega), us ++ [v], xs ++ [.tuple ys], upd_same, (((al.mono (sameTups sl)).mono t5).app (.cons hv .nil)).mono tm, by simp [lx], ?_, ?_⟩
        · have h6 := (hE.off (o := .lst (us ++ [v])) nDp nDc nDs nDk nDN)
          exact h6.mono (Nat.le_of_eq (by rw [Nat.succ_mul j (1 + 5 * drD e)]; exact Nat.add_assoc ..))
        · have b6 : But (dM p sc kl) H3 H5 := fun b o nb eb => by
            by_cases z : b = l
            · rw [z, hl] at eb
              cases eb
            · exact bl b o (fun q => q.elim (fun q => nb (.inl q)) fun q => q.elim (fun q => nb (.inr (.inl q))) fun q => z q) eb
          exact (b3.trans b6).mutNew (bA.free hDn nDp)
      · rintro H3 ⟨us, xs, hDa, al, lx, hC, b3⟩
        have ll := al.length
        refine ⟨_, rfl, _, rfl, _, rfl, _, rfl, p, c, sc, kl, ns, _, 2, _, S.fs i, kn, rfl, rfl, hC.pen, by omega, hC.scp.f hC.np hC.sp hi, hC.hkl, by omega, hC.ok, fun v3 x3 H4 hv3 wx hP4 b4 => ?_⟩
        have hD4 := b4 _ _ nDp hDa
        have al4 := al.mono (hC.pen.tups b4)
        have hE := hC.step hP4 b4
        obtain ⟨u0, u1, rfl⟩ : ∃ u0 u1, us = [u0, u1] := by
          match us, (show us.length = 2 by omega) with
          | [u0, u1], _ => exact ⟨_, _, rfl⟩
        cases al4 with
        | cons d0 al4 =>
        cases al4 with
        | cons d1 al4 =>
        cases al4
        refine ⟨_, rfl, D, _, _, _, rfl, rfl, SqL.of hD4, (by exact atI_int (by decide) rfl), _, rfl, D, _, _, _, rfl, rfl, SqL.of hD4, (by exact atI_int (by decide) rfl), (by show 4 ≤ sizeLine; decide), fun t ht => ?_⟩
        have s4 := same_new (Same.refl H4) ht (o := .tup [.str "if", v3, u0, u1])
        exact go _ _ kn _ (.tup upd_same (.cons (.str _) (.cons (hv3.mono (sameTups s4)) (.cons (d0.mono (sameTups s4)) (.cons (d1.mono (sameTups s4)) .nil))))) ((hE.same s4).mono (by omega)) (by omega) ((b3.trans (dM.pen b4)).trans (dM.same s4))
    clear hA bA Ha
    rintro _ Ha ⟨rfl, hA, bA⟩
    -- move
    refine ⟨fun σ' H' => σ' = [some (.ref p), some (.ref sc), some (.str (S.W.at i)), some (.int r), some (.ref kl), some (.int wi), some (.int lot), some (.int lat), none, none, none, none, none, none, none, none, none] ∧ DdIn H' p c sc kl ns (n + 4) S N ts kn ∧ But (· = p) H H', ?_, ?_⟩
    · refine ⟨_, rfl, rfl, _, rfl, ite2 (fun _ => ?_) (fun _ => ⟨rfl, hA, bA⟩)⟩
      obtain ⟨kvs, fvs, kd, fd, wd, ct, vd, ta, fl, g1, gk, gf, gw, gc, gt, gv, h1, h2, h3, h4, h5, h6, h7, m1, m2, m3, m4, m5, m6⟩ := hA.scp.get
      refine ⟨_, rfl, sc, _, rfl, dgS g1 gt, Nat.zero_le _, fun l hl => ?_⟩
      have sa := same_new (Same.refl Ha) hl (o := .lst [])
      have el : upd Ha l (.lst []) l = some (.lst []) := upd_same
      generalize upd Ha l (.lst []) = Hb at sa el ⊢
      refine ⟨.list (ts.map PyData.int), .list [], .lst (SqL.of (sa _ _ h7)) (dp_ints ts), .lst (SqL.of el) .nil, shaped_ints ts, by decide +kernel, _, rfl, ?_⟩
      rw [eqv_ints]
      have hB := hA.same sa
      have bB := bA.trans (sameBut sa _)
      have fts := hA.scp.few
      cases he : ts.isEmpty with
      | true => exact iteF ⟨rfl, hB, bB⟩
      | false =>
        have pos : 1 ≤ ts.length := by
          cases ts with
          | nil => cases he
          | cons _ _ => exact Nat.le_add_left _ _
        refine iteT ⟨_, rfl, _, rfl, sc, _, rfl, dgS (sa _ _ g1) gt, p, c, ns, _, _, ts.map V.int, rfl, hB.pen, by omega, ⟨by rw [List.length_map]; exact pos, by rw [List.length_map]; omega, .inl ⟨ta, rfl, .inl (sa _ _ h7)⟩⟩, fun v H2 hv hP2 b2 => ⟨(by show 2 ≤ sizeLine; decide), fun t ht => ?_⟩⟩
        obtain ⟨z, hz, rfl⟩ := List.mem_map.mp hv
        have s4 := same_new (Same.refl H2) ht (o := .tup [.str "move", .int z])
        exact go _ _ kn _ (.tup upd_same (.cons (.str _) (.cons (.int _) .nil))) (((hB.step hP2 b2).same s4).mono (by omega)) (by omega) (dM.pen ((bB.trans b2).trans (sameBut s4 _)))
    clear hA bA Ha
    rintro _ Ha ⟨rfl, hA, bA⟩
    -- make
    refine ⟨fun σ' H' => σ' = [some (.ref p), some (.ref sc), some (.str (S.W.at i)), some (.int r), some (.ref kl), some (.int wi), some (.int lot), some (.int lat), none, none, none, none, none, none, none, none, none] ∧ DdIn H' p c sc kl ns (n + 4) S N ts kn ∧ But (· = p) H H', ?_, ?_⟩
    · refine ⟨_, rfl, (by show 2 ≤ sizeLine; decide), fun t ht => ?_⟩
      have sa := same_new (Same.refl Ha) ht (o := .tup [.int 5, .int 6])
      have et : upd Ha t (.tup [.int 5, .int 6]) t = some (.tup [.int 5, .int 6]) := upd_same
      generalize upd Ha t (.tup [.int 5, .int 6]) = Hb at sa et ⊢
      have hB := hA.same sa
      have bB := bA.trans (sameBut sa _)
      refine ⟨t, _, rfl, .inr (SqT.of et), rfl, rfl, _, rfl, ite2 (fun _ => ?_) (fun _ => ⟨rfl, hB, bB⟩)⟩
      have okB := hB.scp.ok
      have kk := okB.kk
      obtain ⟨vl, vok⟩ := okB.vok
      obtain ⟨kvs, fvs, kd, fd, wd, ct, vd, ta, fl, g1, gk, gf, gw, gc, gt, gv, h1, h2, h3, h4, h5, h6, h7, m1, m2, m3, m4, m5, m6⟩ := hB.scp.get
      refine ⟨_, rfl, _, rfl, sc, _, rfl, dgS g1 gv, p, c, ns, _, _, S.vars.map V.str, rfl, hB.pen, by omega, ⟨by rw [List.length_map]; omega, by rw [List.length_map]; omega, .inl ⟨vd, rfl, .inl h6⟩⟩, fun v H2 hv hP2 b2 => ?_⟩
      obtain ⟨z, hz, rfl⟩ := List.mem_map.mp hv
      have hC := hB.step hP2 b2
      obtain ⟨kvs, fvs, kd, fd, wd, ct, vd, ta, fl, g1, gk, gf, gw, gc, gt, gv, h1, h2, h3, h4, h5, h6, h7, m1, m2, m3, m4, m5, m6⟩ := hC.scp.get
      refine ⟨_, rfl, _, rfl, sc, _, rfl, dgS g1 gk, p, c, ns, _, _, (List.range S.kk).map fun i => V.str (S.W.at i), rfl, hC.pen, by omega, ⟨by simp; omega, by simp; omega, .inl ⟨kd, rfl, .inl h1⟩⟩, fun v H3 hv hP3 b3 => ?_⟩
      obtain ⟨i', hi', rfl⟩ := List.mem_map.mp hv
      have hi2 := List.mem_range.mp hi'
      have hE := hC.step hP3 b3
      obtain ⟨kvs, fvs, kd, fd, wd, ct, vd, ta, fl, g1, gk, gf, gw, gc, gt, gv, h1, h2, h3, h4, h5, h6, h7, m1, m2, m3, m4, m5, m6⟩ := hE.scp.get
      obtain ⟨e1, e2, e3⟩ := h3 i' hi2
      obtain ⟨fi3, fiok⟩ := okB.fok i'
      refine ⟨_, _, rfl, _, rfl, _, rfl, sc, _, rfl, dgS g1 gf, _, rfl, fd, _, rfl, dgS h2 e1, fl i', _, rfl, .inl (SqL.of e2), _, _, rfl, rfl, p, c, ns, _, _, rfl, hE.pen, by omega, (by rw [List.length_map]; omega), (by rw [List.length_map]; omega), fun m H4 m0 m1 hP4 b4 => ?_⟩
      rw [List.length_map] at m1
      have hF := hE.step hP4 b4
      refine ⟨_, rfl, _, rfl, _, rfl, _, rfl, _, rfl, _, rfl, _, rfl, p, c, sc, kl, ns, _, m, _, S.fs i, kn, rfl, m0, by omega, hF.pen, by omega, hF.scp.f hF.np hF.sp hi, hF.hkl, by omega, hF.ok, fun v5 xs5 H5 hv5 lx wx hP5 b5 => ⟨(by show 4 ≤ sizeLine; decide), fun t2 ht2 => ?_⟩⟩
      have s6 := same_new (Same.refl H5) ht2 (o := .tup [.str "make", .str z, .str (S.W.at i'), v5])
      have e6 : upd H5 t2 (.tup [.str "make", .str z, .str (S.W.at i'), v5]) t2 = some (.tup [.str "make", .str z, .str (S.W.at i'), v5]) := upd_same
      have d6 : Dt (upd H5 t2 (.tup [.str "make", .str z, .str (S.W.at i'), v5])) (.ref t2) (.tuple [.str "make", .str z, .str (S.W.at i'), .tuple xs5]) := .tup e6 (.cons (.str _) (.cons (.str _) (.cons (.str _) (.cons (hv5.mono (sameTups s6)) .nil))))
      have hG := (hF.step hP5 b5).same s6
      have bG := ((((bB.trans b2).trans b3).trans b4).trans b5).trans (sameBut s6 _)
      generalize upd H5 t2 (.tup [.str "make", .str z, .str (S.W.at i'), v5]) = H6 at s6 d6 hG bG ⊢
      refine ⟨_, rfl, .inl ⟨rfl, _, SqL.of hG.hkl⟩, _, rfl, kl, _, _, rfl, rfl, hG.hkl, small1000 (by rw [List.length_map]; omega), _, rfl, ?_⟩
      have tm : Tups H6 (upd H6 kl (.lst (kn.map V.str ++ [.str z]))) := tup_mut fun xs z => by rw [hG.hkl] at z; cases z
      exact go _ _ (kn ++ [z]) _ (d6.mono tm) ((hG.add (vok z hz)).mono (by omega)) (by simp) ((dM.pen bG).mut (.inr (.inr rfl)))
    clear hA bA Ha
    rintro _ Ha ⟨rfl, hA, bA⟩
    -- call, when
    have ctk : ∀ j : Nat, j < 5 → ∃ x : Int, (S.ct.map V.int)[j]? = some (V.int x) ∧ 0 ≤ x ∧ x ≤ 3 := by
      obtain ⟨a, b, c', d, e, ec, q⟩ := hD.scp.ok.ct
      rw [ec]
      intro j hj
      rcases (by omega : j = 0 ∨ j = 1 ∨ j = 2 ∨ j = 3 ∨ j = 4) with rfl | rfl | rfl | rfl | rfl
      · exact ⟨a, rfl, by omega, by omega⟩
      · exact ⟨b, rfl, by omega, by omega⟩
      · exact ⟨c', rfl, by omega, by omega⟩
      · exact ⟨d, rfl, by omega, by omega⟩
      · exact ⟨e, rfl, by omega, by omega⟩
    have wdk : ∀ j : Nat, j < 5 → ((List.range 5).map fun i => V.str (S.W.at (6 + i)))[j]? = some (V.str (S.W.at (6 + j))) := fun j hj => by
      rw [List.getElem?_map, List.getElem?_range hj]
      rfl
    refine ⟨fun σ' H' => σ' = [some (.ref p), some (.ref sc), some (.str (S.W.at i)), some (.int r), some (.ref kl), some (.int wi), some (.int lot), some (.int lat), none, none, none, none, none, none, none, none, none] ∧ DdIn H' p c sc kl ns (n + 4) S N ts kn ∧ But (· = p) H H', ?_, ?_⟩
    · refine ⟨_, rfl, _, _, rfl, rfl, _, rfl, ite2 (fun _ => ⟨_, _, rfl, rfl, _, rfl, ite2 (fun _ => ?_) (fun _ => ⟨rfl, hA, bA⟩)⟩) (fun _ => ⟨_, rfl, iteF ⟨rfl, hA, bA⟩⟩)⟩
      refine ⟨_, rfl, _, _, rfl, rfl, _, rfl, ite2 (fun l5' => ?_) (fun _ => ⟨rfl, hA, bA⟩)⟩
      have l5 : lat < 5 := of_decide_eq_true l5'
      obtain ⟨kvs, left, e1, e2, e3, gL⟩ := hA.left
      refine ⟨_, rfl, sc, _, rfl, dgS e1 e2, _, _, rfl, rfl, _, rfl, ite2 (fun _ => ?_) (fun _ => ⟨rfl, hA, bA⟩)⟩
      refine ⟨_, rfl, sc, _, rfl, dgS e1 e2, _, _, rfl, rfl, _, rfl, sc, _, rfl, DPut.k (k := Sum.inr "left") e1 (by rw [e3]; decide), ?_⟩
      have hB := gL (left - 1)
      have bB : But (dM p sc kl) H (upd Ha sc (.dK (putK kvs (.inr "left") (.int (left - 1))))) := (dM.pen bA).mut (.inr (.inl rfl))
      generalize upd Ha sc (.dK (putK kvs (.inr "left") (.int (left - 1)))) = Hb at hB bB ⊢
      have okB := hB.scp.ok
      obtain ⟨vl, vok⟩ := okB.vok
      obtain ⟨mn, em, mn0, mn3⟩ := ctk lat.toNat (by omega)
      refine ⟨_, rfl, _, rfl, _, rfl, _, rfl, p, c, sc, kl, ns, _, _, S.fs i, kn, rfl, hB.pen, by omega, hB.scp.f hB.np hB.sp hi, hB.hkl, by omega, fun v2 x2 H2 hv2 wf2 hP2 b2 => ?_⟩
      have hC := hB.step hP2 b2
      obtain ⟨kvs, fvs, kd, fd, wd, ct, vd, ta, fl, g1, gk, gf, gw, gc, gt, gv, h1, h2, h3, h4, h5, h6, h7, m1, m2, m3, m4, m5, m6⟩ := hC.scp.get
      refine ⟨_, rfl, sc, _, rfl, dgS g1 gc, _, rfl, ct, _, _, _, rfl, rfl, SqL.of h5, atI_int lat0 em, _, _, rfl, ?_⟩
      refine ⟨fun σ' H' => σ' = [some (.ref p), some (.ref sc), some (.str (S.W.at i)), some (.int r), some (.ref kl), some (.int wi), some (.int lot), some (.int lat), none, none, none, some (.int mn), none, some v2, none, none, none] ∧ H' = H2, ?_, ?_⟩
      · refine ⟨_, rfl, rfl, _, rfl, ite2 (fun _ => ⟨_, rfl, _, _, rfl, rfl, _, rfl, ite2 (fun m1' => ?_) (fun _ => ⟨rfl, rfl⟩)⟩) (fun _ => ⟨rfl, rfl⟩)⟩
        have m1 : 1 < mn := of_decide_eq_true m1'
        refine ⟨_, rfl, _, rfl, _, rfl, _, rfl, _, rfl, _, _, rfl, rfl, p, c, sc, kl, ns, _, mn - 2, _, S.fs i, kn, rfl, by omega, by omega, hC.pen, by omega, hC.scp.f hC.np hC.sp hi, hC.hkl, by omega, hC.ok, fun v5 xs5 H5 hv5 lx wx hP5 b5 => ?_⟩
        have hE := hC.step hP5 b5
        have d2 := hv2.mono (hC.pen.tups b5)
        obtain ⟨kvs, fvs, kd, fd, wd, ct, vd, ta, fl, g1, gk, gf, gw, gc, gt, gv, h1, h2, h3, h4, h5, h6, h7, m1, m2, m3, m4, m5, m6⟩ := hE.scp.get
        refine ⟨_, rfl, _, rfl, sc, _, rfl, dgS g1 gw, _, rfl, wd, _, _, _, rfl, rfl, SqL.of h4, atI_int lat0 (wdk _ (by omega)), _, rfl, (by show 4 ≤ sizeLine; decide), fun t ht => ?_⟩
        have s6 := same_new (Same.refl H5) ht (o := .tup [.str "when", v2, .str (S.W.at (6 + lat.toNat)), v5])
        exact go _ (.tuple [.str "when", x2, .str (S.W.at (6 + lat.toNat)), .tuple xs5]) kn _ (.tup upd_same (.cons (.str _) (.cons (d2.mono (sameTups s6)) (.cons (.str _) (.cons (hv5.mono (sameTups s6)) .nil))))) ((hE.same s6).mono (by omega)) (by omega) (((bB.trans (dM.pen b2)).trans (dM.pen b5)).trans (dM.same s6))
      · rintro _ _ ⟨rfl, rfl⟩
        refine ⟨_, rfl, _, rfl, sc, _, rfl, dgS g1 gv, p, c, ns, _, _, S.vars.map V.str, rfl, hC.pen, by omega, ⟨by rw [List.length_map]; omega, by rw [List.length_map]; omega, .inl ⟨vd, rfl, .inl h6⟩⟩, fun v H3 hv hP3 b3 => ?_⟩
        obtain ⟨z, hz, rfl⟩ := List.mem_map.mp hv
        have hE := hC.step hP3 b3
        refine ⟨_, rfl, _, rfl, _, rfl, _, rfl, _, rfl, p, c, sc, kl, ns, _, mn, _, S.fs i, kn, rfl, by omega, by omega, hE.pen, by omega, hE.scp.f hE.np hE.sp hi, hE.hkl, by omega, hE.ok, fun v5 xs5 H5 hv5 lx wx hP5 b5 => ⟨_, _, rfl, ?_⟩⟩
        have hF := hE.step hP5 b5
        have d2 := (hv2.mono (hC.pen.tups b3)).mono (hE.pen.tups b5)
        refine ⟨_, rfl, .inl ⟨rfl, _, SqL.of hF.hkl⟩, _, rfl, kl, _, _, rfl, rfl, hF.hkl, small1000 (by rw [List.length_map]; omega), ?_⟩
        have tm : Tups H5 (upd H5 kl (.lst (kn.map V.str ++ [.str z]))) := tup_mut fun xs z => by rw [hF.hkl] at z; cases z
        have hG := hF.add (vok z hz)
        have bG : But (dM p sc kl) H (upd H5 kl (.lst (kn.map V.str ++ [.str z]))) := (((bB.trans (dM.pen b2)).trans (dM.pen b3)).trans (dM.pen b5)).mut (.inr (.inr rfl))
        generalize upd H5 kl (.lst (kn.map V.str ++ [.str z])) = H6 at tm hG bG ⊢
        obtain ⟨kvs, fvs, kd, fd, wd, ct, vd, ta, fl, g1, gk, gf, gw, gc, gt, gv, h1, h2, h3, h4, h5, h6, h7, m1, m2, m3, m4, m5, m6⟩ := hG.scp.get
        refine ⟨_, rfl, _, rfl, _, rfl, sc, _, rfl, dgS g1 gw, _, rfl, wd, _, _, _, rfl, rfl, SqL.of h4, atI_int lat0 (wdk _ (by omega)), _, rfl, (by show 5 ≤ sizeLine; decide), fun t ht => ?_⟩
        have s6 := same_new (Same.refl H6) ht (o := .tup [.str "call", .str z, v2, .str (S.W.at (6 + lat.toNat)), v5])
        exact go _ (.tuple [.str "call", .str z, x2, .str (S.W.at (6 + lat.toNat)), .tuple xs5]) (kn ++ [z]) _ (.tup upd_same (.cons (.str _) (.cons (.str _) (.cons ((d2.mono tm).mono (sameTups s6)) (.cons (.str _) (.cons ((hv5.mono tm).mono (sameTups s6)) .nil)))))) ((hG.same s6).mono (by omega)) (by simp) (bG.trans (dM.same s6))
    clear hA bA Ha
    rintro _ Ha ⟨rfl, hA, bA⟩
    -- fail
    refine ⟨fun σ' H' => σ' = [some (.ref p), some (.ref sc), some (.str (S.W.at i)), some (.int r), some (.ref kl), some (.int wi), some (.int lot), some (.int lat), none, none, none, none, none, none, none, none, none] ∧ DdIn H' p c sc kl ns (n + 5) S N ts kn ∧ But (· = p) H H', ?_, ?_⟩
    · refine ⟨_, rfl, rfl, _, rfl, ite2 (fun _ => ?_) (fun _ => ⟨rfl, hA.mono (by omega), bA⟩)⟩
      refine ⟨_, rfl, p, c, ns, _, 4, rfl, hA.pen, by omega, by decide, by decide, fun q1 H1 q10 q14 hP1 b1 => ⟨rfl, _, rfl, ite2 (fun _ => ?_) (fun _ => ⟨rfl, hA.step hP1 b1, bA.trans b1⟩)⟩⟩
      refine ⟨_, rfl, (by show 3 ≤ sizeLine; decide), fun l hl => ?_⟩
      have s2 := same_new (Same.refl H1) hl (o := .lst [.str "no", .str "odd", .str "lost"])
      have e2 : upd H1 l (.lst [.str "no", .str "odd", .str "lost"]) l = some (.lst [.str "no", .str "odd", .str "lost"]) := upd_same
      have hB := (hA.step hP1 b1).same s2
      have bB := (bA.trans b1).trans (sameBut s2 _)
      generalize upd H1 l (.lst [.str "no", .str "odd", .str "lost"]) = H2 at s2 hB bB e2 ⊢
      refine ⟨p, c, ns, _, _, [V.str "no", V.str "odd", V.str "lost"], rfl, hB.pen, by omega, ⟨by decide, by decide, .inl ⟨l, rfl, .inl e2⟩⟩, fun v H3 hv hP3 b3 => ⟨(by show 2 ≤ sizeLine; decide), fun t ht => ?_⟩⟩
      obtain ⟨z, rfl⟩ : ∃ z, v = .str z := by
        simp only [List.mem_cons, List.not_mem_nil, or_false] at hv
        rcases hv with rfl | rfl | rfl <;> exact ⟨_, rfl⟩
      have s4 := same_new (Same.refl H3) ht (o := .tup [.str "fail", .str z])
      exact go _ _ kn _ (.tup upd_same (.cons (.str _) (.cons (.str _) .nil))) (((hB.step hP3 b3).same s4).mono (by omega)) (by omega) (dM.pen ((bB.trans b3).trans (sameBut s4 _)))
    clear hA bA Ha
    rintro _ Ha ⟨rfl, hA, bA⟩
    -- let
    refine ⟨fun σ' H' => σ' = [some (.ref p), some (.ref sc), some (.str (S.W.at i)), some (.int r), some (.ref kl), some (.int wi), some (.int lot), some (.int lat), none, none, none, none, none, none, none, none, none] ∧ DdIn H' p c sc kl ns (n + 6) S N ts kn ∧ But (· = p) H H', ?_, ?_⟩
    · refine ⟨_, rfl, rfl, _, rfl, ite2 (fun _ => ?_) (fun _ => ⟨rfl, hA.mono (by omega), bA⟩)⟩
      refine ⟨_, rfl, p, c, ns, _, 2, rfl, hA.pen, by omega, by decide, by decide, fun q1 H1 q10 q14 hP1 b1 => ⟨rfl, _, rfl, ite2 (fun _ => ?_) (fun _ => ⟨rfl, hA.step hP1 b1, bA.trans b1⟩)⟩⟩
      have hB := hA.step hP1 b1
      have bB := bA.trans b1
      obtain ⟨vl, vok⟩ := hB.scp.ok.vok
      obtain ⟨kvs, fvs, kd, fd, wd, ct, vd, ta, fl, g1, gk, gf, gw, gc, gt, gv, h1, h2, h3, h4, h5, h6, h7, m1, m2, m3, m4, m5, m6⟩ := hB.scp.get
      refine ⟨_, rfl, _, rfl, sc, _, rfl, dgS g1 gv, p, c, ns, _, _, S.vars.map V.str, rfl, hB.pen, by omega, ⟨by rw [List.length_map]; omega, by rw [List.length_map]; omega, .inl ⟨vd, rfl, .inl h6⟩⟩, fun v H2 hv hP2 b2 => ?_⟩
      obtain ⟨z, hz, rfl⟩ := List.mem_map.mp hv
      have hC := hB.step hP2 b2
      refine ⟨_, rfl, _, rfl, _, rfl, _, rfl, p, c, sc, kl, ns, _, 2, _, S.fs i, kn, rfl, rfl, hC.pen, by omega, hC.scp.f hC.np hC.sp hi, hC.hkl, by omega, hC.ok, fun v3 x3 H3 hv3 wx hP3 b3 => ⟨_, _, rfl, ?_⟩⟩
      have hF := hC.step hP3 b3
      refine ⟨_, rfl, .inl ⟨rfl, _, SqL.of hF.hkl⟩, _, rfl, kl, _, _, rfl, rfl, hF.hkl, small1000 (by rw [List.length_map]; omega), ?_⟩
      have tm : Tups H3 (upd H3 kl (.lst (kn.map V.str ++ [.str z]))) := tup_mut fun xs z => by rw [hF.hkl] at z; cases z
      have hG := hF.add (vok z hz)
      have bG : But (dM p sc kl) H (upd H3 kl (.lst (kn.map V.str ++ [.str z]))) := (((dM.pen bB).trans (dM.pen b2)).trans (dM.pen b3)).mut (.inr (.inr rfl))
      generalize upd H3 kl (.lst (kn.map V.str ++ [.str z])) = H6 at tm hG bG ⊢
      refine ⟨_, rfl, _, rfl, (by show 3 ≤ sizeLine; decide), fun t ht => ?_⟩
      have s6 := same_new (Same.refl H6) ht (o := .tup [.str "let", .str z, v3])
      exact go _ (.tuple [.str "let", .str z, x3]) (kn ++ [z]) _ (.tup upd_same (.cons (.str _) (.cons (.str _) (.cons ((hv3.mono tm).mono (sameTups s6)) .nil)))) ((hG.same s6).mono (by omega)) (by simp) (bG.trans (dM.same s6))
    clear hA bA Ha
    rintro _ Ha ⟨rfl, hA, bA⟩
    -- say, give
    refine ⟨(by show 2 ≤ sizeLine; decide), fun l hl => ?_⟩
    have sa := same_new (Same.refl Ha) hl (o := .lst [.str "say", .str "give"])
    have el : upd Ha l (.lst [.str "say", .str "give"]) l = some (.lst [.str "say", .str "give"]) := upd_same
    generalize upd Ha l (.lst [.str "say", .str "give"]) = Hb at sa el ⊢
    have hB := hA.same sa
    have bB := bA.trans (sameBut sa _)
    have f0 : 0 ≤ lot.fmod 2 := Int.fmod_nonneg_of_pos _ (by omega)
    have f2 : lot.fmod 2 < 2 := Int.fmod_lt_of_pos _ (by omega)
    obtain ⟨o, eo⟩ : ∃ o : Str, atI [V.str "say", V.str "give"] (lot.fmod 2) = some (V.str o) := by
      rcases (by omega : lot.fmod 2 = 0 ∨ lot.fmod 2 = 1) with z | z
      · exact ⟨"say", by rw [z]; exact atI_int (by decide) rfl⟩
      · exact ⟨"give", by rw [z]; exact atI_int (by decide) rfl⟩
    refine ⟨_, rfl, _, _, rfl, rfl, (by show (2 : Int) ≠ 0; decide), l, _, _, _, rfl, rfl, SqL.of el, eo, ?_⟩
    refine ⟨_, rfl, _, rfl, _, rfl, _, rfl, p, c, sc, kl, ns, _, 2, _, S.fs i, kn, rfl, rfl, hB.pen, by omega, hB.scp.f hB.np hB.sp hi, hB.hkl, by omega, hB.ok, fun v3 x3 H3 hv3 wx hP3 b3 => ⟨(by show 2 ≤ sizeLine; decide), fun t ht => ?_⟩⟩
    have s4 := same_new (Same.refl H3) ht (o := .tup [.str o, v3])
    exact go _ (.tuple [.str o, x3]) kn _ (.tup upd_same (.cons (.str _) (.cons (hv3.mono (sameTups s4)) .nil))) (((hB.step hP3 b3).same s4).mono (by omega)) (by omega) (dM.pen ((bB.trans b3).trans (sameBut s4 _)))
end
end K3
namespace K3
open PySem PySem.Spec PyProof.Rows L2 GG
/-! ### drawn plans: deeds -/
abbrev sDeeds : Stmt := top 21
abbrev nDs : List Str := ["_law_pen_here", "_law_scene_here", "_law_breed", "_law_rank", "_law_known", "_law_within", "_law_many", "_law_upto", "_law_k"]
theorem scDs : FnScope nDs psDs (defScope sDeeds) := ⟨rfl, rfl, rfl, by decide +kernel, rfl, by decide +kernel, by decide +kernel⟩
section
variable {P : Program} {w : World} {K : PySem.W.Frag} {mg : Str → Option Value} {base : Heap}
theorem ok_deeds {f g : Addr} {fd fdg : FuncData} {k e : Nat} (F : Fun K "_law_deeds" "_law_deeds" sDeeds f fd) (T : Txt mg) (k1 : 1 ≤ k)
    (mg' : mg "_law_deed" = some (.ref g)) (kg : PySem.W.keepIn K (.ref g) = true) (bg : Binds K fdg psDd []) (G : FnOk P w K mg base CX0 k g fdg psDd (spDeed e))
    (CD : Cal P w K mg base "_law_draw" 1 ["_law_pen_here", "_law_many"] spDraw) : FnOk P w K mg base CX0 (k + 1) f fd psDs (spDeeds (e + 1)) := by
  obtain ⟨fD, fdD, mD, kD, bD, GD⟩ := CD
  refine F.ok scDs (fun vs H Q E h => ?_) (fun cdv A outer s H vs Q E hr h => ?_)
  · obtain ⟨p, c, sc, kl, ns, n, i, e', m, r, S, N, ts, kn, _, rfl, _⟩ := h
    rfl
  · obtain ⟨p, c, sc, kl, ns, n, i, e', m, r, S, N, ts, kn, ee, rfl, m1, m5, hD, hn, hi, r0, r4, lk, go⟩ := h
    obtain rfl : e = e' := Nat.succ.inj ee
    have nd := scDs.nd
    have hr1 : Room 1 _ := hr.mono k1
    refine ⟨_, pss_cons (ps_set (i := 7) nd rfl (.inl rfl) (pe_op op_add pe_int (pe_call GD hr1 (by rfl) mD kD bD .nil pass0 (pa_cons (pv 0) (pa_cons (pv 6) pa_nil)))))
      (pss_one (ps_ret (pe_callTy call_tuple_of (by rfl) T.tuple (by decide +kernel) (pa_cons (pe_lc (own := [("_law_k", 8)]) (g := gName 8) (tt := tYes) rfl nd (pi_range1 rfl T.range (pa_cons (pv 7) pa_nil))
        (blkOk_by (N := nDs) (sc := defScope sDeeds) (by decide +kernel)) (fun _ _ _ _ _ => pg_name (i := 8) nd rfl (Or.inl rfl)) (fun _ _ _ _ _ => pts_nil)
        (fun _ _ _ _ _ => pe_call G hr (by rfl) mg' kg bg .nil pass0 (pa_cons (pv 0) (pa_cons (pv 1) (pa_cons (pv 2) (pa_cons (pv 3) (pa_cons (pv 4) (pa_cons (pv 5) pa_nil)))))))) pa_nil)))), ?_⟩
    refine ⟨_, rfl, _, rfl, p, c, ns, _, m, rfl, hD.pen, by omega, by omega, by omega, fun q H1 q0 qm hP1 b1 => ⟨_, _, rfl, rfl, _, rfl, _, rfl, by omega, by omega, fun D hDn => ?_⟩⟩
    have hA := hD.step hP1 b1
    have nDp : D ≠ p := (hA.pen.fresh hDn).1
    have nDc : D ≠ c := (hA.pen.fresh hDn).2
    have nDk : D ≠ kl := (ne_of_none hA.hkl hDn).symm
    have nDs : D ≠ sc := fun z => by
      obtain ⟨_, _, e1, _⟩ := hA.scp.left
      rw [z, e1] at hDn
      cases hDn
    have nDN : ¬ N D := hA.scp.free hDn
    refine lc_range (lo := 0) (n := (1 + q).toNat) (fun j H' => ∃ (us : List V) (xs : List PyData) (kj : List Str), H' D = some (.lst us) ∧ DtAll H' us xs ∧ xs.length = j ∧ DdIn H' p c sc kl ns (n + 1 + j * drD e) S N ts kj ∧ kj.length ≤ kn.length + j ∧ But (dM p sc kl) H H') ?_ ?_ ?_
    · exact ⟨[], [], kn, upd_same, .nil, rfl, (hA.same (same_new (Same.refl H1) hDn)).mono (by omega), by omega, (dM.pen b1).new hDn⟩
    · rintro j H3 hj ⟨us, xs, kj, hDa, al, lx, hC, lj, b3⟩
      have j4 : j ≤ 4 := by omega
      have jm : j * drD e ≤ 4 * drD e := Nat.mul_le_mul_right _ j4
      refine ⟨rfl, _, rfl, _, rfl, _, rfl, _, rfl, _, rfl, _, rfl, p, c, sc, kl, ns, _, i, r, S, N, ts, kj, rfl, hC, by omega, hi, r0, r4, by omega, fun v x kn' H4 hv hE lk' b4 => ?_⟩
      have ll := al.length
      have hD4 := b4 D _ (fun z => z.elim nDp fun z => z.elim nDs nDk) hDa
      have tm : Tups H4 (upd H4 D (.lst (us ++ [v]))) := tup_mut fun xs z => by rw [hD4] at z; cases z
      refine ⟨us, hD4, small1000 (by omega), us ++ [v], xs ++ [x], kn', upd_same, ((al.mono (hC.tups b4)).app (.cons hv .nil)).mono tm, by simp [lx], ?_, by omega, ?_⟩
      · exact (hE.off nDp nDc nDs nDk nDN).mono (Nat.le_of_eq (by rw [Nat.succ_mul j (drD e)]; exact Nat.add_assoc ..))
      · exact (b3.trans b4).mutNew (b1.free hDn nDp)
    · rintro H3 ⟨us, xs, kj, hDa, al, lx, hC, lj, b3⟩
      have q5 : (1 + q).toNat ≤ 5 := by omega
      have jm : (1 + q).toNat * drD e ≤ 5 * drD e := Nat.mul_le_mul_right _ q5
      refine ⟨D, us, rfl, .inl ⟨SqL.of hDa, fun t ht => ?_⟩⟩
      have s4 := same_new (Same.refl H3) ht (o := .tup us)
      exact go _ xs kj _ (.tup upd_same (al.mono (sameTups s4))) ((hC.same s4).mono (by omega)) (by omega) (b3.trans (dM.same s4))
end
end K3
namespace GG
open PySem PySem.Spec PyProof.Rows L2
/-! ### tuple(list), t + u: the new tuple's object is known -/
section
variable {X : Cx}
/-- what a tuple just made is -/
theorem frz_new {X : Cx} {pins : List (Addr × Obj)} {σ : L2.St} {H : Hp} {h : Heap} {os : List Value} {ys : List V} (few : ys.length ≤ sizeLine) (r : Vals ys os) :
    ObjOk X.prog X.w (upd H h.objs.size (.frz { cls := .type "tuple", data := .seq os.toArray } (.tup ys))) (h.push { cls := .type "tuple", data := .seq os.toArray }) h.objs.size (.frz { cls := .type "tuple", data := .seq os.toArray } (.tup ys)) :=
  ⟨Heap.get?_push_size _ rfl, few, os, r, _, Heap.get?_push_size _ rfl, rfl, _, rfl⟩
theorem call_tupleF : CallR X (.type "tuple") (fun xs H Q => ∃ p ys, xs = [.ref p] ∧ SqL X.K H p ys ∧ ∀ (l : Addr) (o : Obj), H l = none → o.dict = none → Q (.ref l) (upd H l (.frz o (.tup ys)))) := by
  rintro pins s σ H xs us Q I r ⟨p, ys, rfl, hq, q⟩
  obtain ⟨u, rfl, rx⟩ := vals1 r
  cases rx
  obtain ⟨os, rv, here, few⟩ := I.list hq
  have len := rv.length
  refine call_tuple_list here.isList (fun h2 grown => ?_) (by rw [List.size_toArray]; omega)
  have J : Inv X pins σ H { s with heap := h2 } := I.kept (t' := s.toks) grown
  exact ⟨.ref h2.objs.size, _, J.laid (t' := s.toks) (o := .frz { cls := .type "tuple", data := .seq os.toArray } (.tup ys)) (fun _ _ old => Heap.get?_push_of_some _ old) (Nat.le_refl _) (frz_new (X := X) (pins := pins) (σ := σ) few rv), rfl, q _ _ (J.hok.fresh (Nat.le_refl _)) rfl⟩
def rCatF (K : PySem.W.Frag) : R2 := fun x y H Q => ∃ (a b : Addr) (o : Obj) (xs ys : List V), x = .ref a ∧ y = .ref b ∧ SqT K H a xs ∧ H b = some (.frz o (.tup ys)) ∧ xs.length + ys.length ≤ sizeLine ∧ ys ≠ [] ∧
  (xs = [] → Q (.ref b) H) ∧ (xs ≠ [] → ∀ (p : Addr) (o' : Obj), H p = none → o'.dict = none → Q (.ref p) (upd H p (.frz o' (.tup (xs ++ ys)))))
theorem op_catF : OpR X (binaryOp .Add) (rCatF X.K) := by
  rintro pins s σ H x y v u Q I rx ry ⟨a, b, o, xs, ys, rfl, rfl, ha, hb, few, full, q0, q1⟩
  have hb' : SqT X.K H b ys := .inl (.inr ⟨o, hb⟩)
  by_cases e : xs = []
  · exact op_catA pins s σ H _ _ v u Q I rx ry ⟨a, b, xs, ys, rfl, rfl, ha, hb', few, q0, fun n => absurd e n, fun n => absurd e n⟩
  · cases rx
    cases ry
    obtain ⟨os, r1, p1, _⟩ := I.tuple ha
    obtain ⟨us, r2, p2, _⟩ := I.tuple hb'
    have l1 := r1.length
    have l2 := r2.length
    refine HT.cat_tup p1 p2 (fun z => e (r1.nil_iff.mp z)) (fun z => absurd (r2.nil_iff.mp z) full) (fun _ => ?_) (by omega)
    exact ⟨.ref s.heap.objs.size, _, I.laid (t' := s.toks) (o := .frz { cls := .type "tuple", data := .seq (os ++ us).toArray } (.tup (xs ++ ys))) (fun _ _ old => Heap.get?_push_of_some _ old) (Nat.le_refl _) (frz_new (X := X) (pins := pins) (σ := σ) (by rw [List.length_append]; exact few) (r1.append r2)), rfl, q1 e _ _ (I.hok.fresh (Nat.le_refl _)) rfl⟩
end
end GG
namespace K3
open PySem PySem.Spec PyProof.Rows L2 GG
/-! ### drawn plans: a plan -/
theorem strs_of {L : List Str} : ∀ {ys : List V}, (∀ y ∈ ys, ∃ z ∈ L, y = .str z) → ∃ kn : List Str, ys = kn.map V.str ∧ ∀ z ∈ kn, z ∈ L
  | [], _ => ⟨[], rfl, fun z h => absurd h (by simp)⟩
  | y :: ys, h => by
    obtain ⟨z, hz, rfl⟩ := h y (List.mem_cons_self ..)
    obtain ⟨kn, rfl, hk⟩ := strs_of (L := L) (ys := ys) fun y hy => h y (List.mem_cons_of_mem _ hy)
    refine ⟨z :: kn, rfl, fun a ha => ?_⟩
    rcases List.mem_cons.mp ha with q | q
    · rw [q]
      exact hz
    · exact hk a q
theorem cutV_mem {xs : List V} {lo hi : Option Int} {y : V} (h : y ∈ cutV xs lo hi) : y ∈ xs := List.mem_of_mem_drop (List.mem_of_mem_take h)
theorem MeOk.snoc {me : List PyData} {ws : List Str} (h : MeOk me ws) (w : Str) (rest : List PyData) : MeOk (me ++ [.tuple (.str w :: rest)]) (ws ++ [w]) := by
  obtain ⟨l, g⟩ := h
  refine ⟨by simp [l], fun i d e => ?_⟩
  by_cases hi : i < me.length
  · rw [List.getElem?_append_left hi] at e
    obtain ⟨w', r', e1, e2⟩ := g i d e
    exact ⟨w', r', by rw [List.getElem?_append_left (by omega)]; exact e1, e2⟩
  · rw [List.getElem?_append_right (by omega)] at e
    have i0 : i - me.length = 0 := by
      have := (List.getElem?_eq_some_iff.mp e).1
      simp at this
      omega
    rw [i0] at e
    refine ⟨w, rest, ?_, by simpa using e.symm⟩
    rw [List.getElem?_append_right (by omega), show i - ws.length = 0 by omega]
    rfl
theorem KdAll.snoc {H : Hp} {v : V} {k : Kd3} (h : KdAt H v k) : ∀ {vs : List V} {ks : List Kd3}, KdAll H vs ks → KdAll H (vs ++ [v]) (ks ++ [k])
  | _, _, .nil => .cons h .nil
  | _, _, .cons g a => .cons g (a.snoc h)
/-- a drawn kind -/
structure KdOk (S : ScD) (i : Nat) (k : Kd3) : Prop where
  nm : k.nm = S.W.at i
  sl : k.sl.map (·.1) = S.fs i
  pl : ∀ q ∈ k.sl, PlainD q.2
  few : k.me.length ≤ 5
  me : ∃ ws, MeOk k.me ws
def PlOk (S : ScD) (ks : List Kd3) : Prop := ks.length = S.kk ∧ ∀ i k, ks[i]? = some k → KdOk S i k
def pM (p sc : Addr) : Addr → Prop := fun a => a = p ∨ a = sc
def Soft (H : Hp) (a : Addr) : Prop := (∃ kvs, H a = some (.dK kvs)) ∨ ∃ xs, H a = some (.lst xs)
theorem Soft.tups {H H' : Hp} {M : Addr → Prop} (b : But M H H') (h : ∀ a, M a → Soft H a) : Tups H H' := b.tups fun a xs m e => by
  rcases h a m with ⟨k, z⟩ | ⟨k, z⟩ <;> rw [e] at z <;> cases z
theorem Soft.frzs {H H' : Hp} {M : Addr → Prop} (b : But M H H') (h : ∀ a, M a → Soft H a) : ∀ a o u, H a = some (.frz o u) → H' a = some (.frz o u) := fun a o u e => b a _ (fun m => by
  rcases h a m with ⟨k, z⟩ | ⟨k, z⟩ <;> rw [e] at z <;> cases z) e
def spPlan : Sp := fun vs H Q _ => ∃ (p c sc : Addr) (ns : List Int) (n : Nat) (S : ScD) (N : Addr → Prop) (ts : List Int), vs = [.ref p, .ref sc] ∧ Pen H p c ns n ∧ n + 700000 ≤ 900000000 ∧ ScP H sc S N ts ∧ ¬ N p ∧ sc ≠ p ∧
  ∀ (v : V) (ks : List Kd3) (H' : Hp), PlAt H' v ks → PlOk S ks → Pen H' p c ns (n + 700000) → ScP H' sc S N ts → But (pM p sc) H H' → Q v H'
abbrev sPlan : Stmt := top 22
abbrev nPn : List Str := ["_law_pen_here", "_law_scene_here", "_law_found", "_law_breed", "_law_methods", "_law_rank", "_law_params", "_law_deeds_here", "_law_slots", "_law_field"]
theorem scPn : FnScope nPn ["_law_pen_here", "_law_scene_here"] (defScope sPlan) := ⟨rfl, rfl, rfl, by decide +kernel, rfl, by decide +kernel, by decide +kernel⟩
section
variable {P : Program} {w : World} {K : PySem.W.Frag} {mg : Str → Option Value} {base : Heap}
theorem ok_plan {f fs : Addr} {fd fds : FuncData} {k : Nat} (F : Fun K "_law_plan" "_law_plan" sPlan f fd) (T : Txt mg) (k3 : 3 ≤ k)
    (ms : mg "_law_deeds" = some (.ref fs)) (ks : PySem.W.keepIn K (.ref fs) = true) (bs : Binds K fds psDs []) (Gs : FnOk P w K mg base CX0 k fs fds psDs (spDeeds 2))
    (CD : Cal P w K mg base "_law_draw" 1 ["_law_pen_here", "_law_many"] spDraw) (CL : Cal P w K mg base "_law_plain" 3 ["_law_pen_here"] spPlain) :
    FnOk P w K mg base CX0 (k + 1) f fd ["_law_pen_here", "_law_scene_here"] spPlan := by
  obtain ⟨fD, fdD, mD, kD, bD, GD⟩ := CD
  obtain ⟨fL, fdL, mL, kL, bL, GL⟩ := CL
  refine F.ok scPn (fun vs H Q E h => ?_) (fun cdv A outer s H vs Q E hr h => ?_)
  · obtain ⟨p, c, sc, ns, n, S, N, ts, rfl, _⟩ := h
    rfl
  · obtain ⟨p, c, sc, ns, n, S, N, ts, rfl, hP, hn, hS, np, sp, go⟩ := h
    have nd := scPn.nd
    have hu := hu_of hr
    have hr1 : Room 1 _ := hr.mono (by omega)
    have hr3 : Room 3 _ := hr.mono (by omega)
    refine ⟨_, pss_cons (ps_set (i := 2) nd rfl (.inl rfl) (pe_lst pa_nil))
      (pss_cons (ps_for PassesOwn.never rfl (pi_list (pe_dget hu (pv 1) pe_str (fun _ _ => rfl))) (pg_name (i := 3) nd rfl (Or.inl rfl))
        (pss_cons (ps_set (i := 4) nd rfl (.inl rfl) (pe_lst pa_nil))
        (pss_cons (ps_for PassesOwn.never rfl (pi_range1 rfl T.range (pa_cons pe_int pa_nil)) (pg_name (i := 5) nd rfl (Or.inl rfl))
          (pss_cons (ps_set (i := 6) nd rfl (.inl rfl) (pe_slice sl_list (pe_revL (pe_dget hu (pv 1) pe_str (fun _ _ => rfl))) po_none (po_some (pe_ix ix_list (pe_dget hu (pv 1) pe_str (fun _ _ => rfl)) (pv 5) (fun _ _ => rfl)))))
          (pss_cons (ps_dput hu (pv 1) pe_str pe_int rfl)
          (pss_cons (ps_set (i := 7) nd rfl (.inl rfl) (pe_call Gs hr (by rfl) ms ks bs .nil pass0 (pa_cons (pv 0) (pa_cons (pv 1) (pa_cons (pv 3) (pa_cons (pv 5) (pa_cons (pe_callTy call_list_of (by rfl) T.list (by decide +kernel) (pa_cons (pv 6) pa_nil)) (pa_cons pe_int (pa_cons pe_int pa_nil)))))))))
          (pss_one (ps_expr (pe_bm PySem.F.plainAttrs_list PySem.F.slot_list_extend PySem.F.type_list_extend mt_extend (pv 4) (pa_cons (pe_op op_rep (pe_lst (pa_cons (pe_tup (pa_cons (pe_ix ix_list (pe_dget hu (pv 1) pe_str (fun _ _ => rfl)) (pv 5) (fun _ _ => rfl)) (pa_cons (pe_callTy call_tuple_of (by rfl) T.tuple (by decide +kernel) (pa_cons (pv 6) pa_nil)) (pa_cons (pv 7) pa_nil)))) pa_nil))
            (pe_callTy call_int1 (by rfl) T.int (by decide +kernel) (pa_cons (pe_cmpR op_gt (pe_call GD hr1 (by rfl) mD kD bD .nil pass0 (pa_cons (pv 0) (pa_cons pe_int pa_nil))) pe_int (nomark _)) pa_nil))) pa_nil))))))))
        (pss_cons (ps_set (i := 8) nd rfl (.inl rfl) (pe_callTy call_tupleF (by rfl) T.tuple (by decide +kernel) (pa_cons (pe_lc (own := [("_law_field", 9)]) (g := gName 9) (tt := tYes) rfl nd (pi_list (pe_dget hu (pe_dget hu (pv 1) pe_str (fun _ _ => rfl)) (pv 3) (fun _ _ => rfl)))
            (blkOk_by (N := nPn) (sc := defScope sPlan) (by decide +kernel)) (fun _ _ _ _ _ => pg_name (i := 9) nd rfl (Or.inl rfl)) (fun _ _ _ _ _ => pts_nil)
            (fun _ _ _ _ _ => pe_tup (pa_cons (pv 9) (pa_cons (pe_call GL hr3 (by rfl) mL kL bL .nil pass0 (pa_cons (pv 0) pa_nil)) pa_nil)))) pa_nil)))
        (pss_one (ps_expr (pe_bm PySem.F.plainAttrs_list PySem.F.slot_list_append PySem.F.type_list_append mt_append (pv 2) (pa_cons (pe_tup (pa_cons (pv 3) (pa_cons (pv 8) (pa_cons (pe_callTy call_tuple_of (by rfl) T.tuple (by decide +kernel) (pa_cons (pv 4) pa_nil)) pa_nil)))) pa_nil))))))))
      (pss_one (ps_ret (pe_callTy call_tuple_of (by rfl) T.tuple (by decide +kernel) (pa_cons (pv 2) pa_nil))))), ?_⟩
    have d1 : 1 + 5 * drD 1 = 33061 := by decide
    have okS := hS.ok
    have kk3 := okS.kk.2
    have offN : ∀ {a : Addr}, N a → a ≠ p ∧ a ≠ sc := fun ha => ⟨fun z => np (z ▸ ha), fun z => hS.ns (z ▸ ha)⟩
    refine ⟨Nat.zero_le _, fun lf hlf => ?_⟩
    have s0 := same_new (Same.refl H) hlf (o := .lst [])
    have e0 : upd H lf (.lst []) lf = some (.lst []) := upd_same
    have nlp := hP.fresh hlf
    have nlN := hS.free hlf
    have nls : lf ≠ sc := fun z => by
      obtain ⟨_, _, e1, _⟩ := hS.left
      rw [z, e1] at hlf
      cases hlf
    obtain ⟨kvs, fvs, kd, fd, wd, ct, vd, ta, fl, g1, gk, gf, gw, gc, gt, gv, h1, h2, h3, h4, h5, h6, h7, m1, m2, m3, m4, m5, m6⟩ := hS.get
    have nkd := offN m1
    refine ⟨_, rfl, sc, _, rfl, dgS (s0 _ _ g1) gk, kd, rfl, ⟨_, SqL.of (s0 _ _ h1)⟩, for_list (K := K) (a := kd) (xs := (List.range S.kk).map fun i => V.str (S.W.at i)) (fun i σ' H' => (∃ v3 v4 v5 v6 v7 v8 : Option V, σ' = [some (.ref p), some (.ref sc), some (.ref lf), v3, v4, v5, v6, v7, v8, none]) ∧ ∃ (vs : List V) (ks : List Kd3), H' lf = some (.lst vs) ∧ KdAll H' vs ks ∧ ks.length = i ∧ (∀ j k, ks[j]? = some k → KdOk S j k) ∧ Pen H' p c ns (n + i * 200100) ∧ ScP H' sc S N ts ∧ But (pM p sc) H H') ?_ ?_ ?_ ?_⟩
    · exact ⟨⟨_, _, _, _, _, _, rfl⟩, [], [], e0, .nil, rfl, fun j k e => by simp at e, (hP.new hlf).mono (by omega), hS.same s0, sameBut s0 _⟩
    · rintro i σ' H' _ ⟨_, vs, ks, _, _, _, _, _, _, b⟩
      exact SqL.of (b _ _ (fun z => z.elim nkd.1 nkd.2) h1)
    · rintro i x σ' H1 hx ⟨⟨v3, v4, v5, v6, v7, v8, rfl⟩, vs, ks, hvs, kal, lk, kok, hP1, hS1, b1⟩
      clear g1 gk gf gw gc gt gv h1 h2 h3 h4 h5 h6 h7 m1 m2 m3 m4 m5 m6 nkd kvs fvs kd fd wd ct vd ta fl
      rw [List.getElem?_map] at hx
      obtain ⟨i', hi', rfl⟩ := Option.map_eq_some_iff.mp hx
      have hi : i < S.kk := by
        have := (List.getElem?_eq_some_iff.mp hi').1
        simpa using this
      obtain rfl : i = i' := by
        rw [List.getElem?_range hi] at hi'
        exact Option.some.inj hi'
      have i2 : i * 200100 ≤ 2 * 200100 := Nat.mul_le_mul_right _ (by omega)
      refine ⟨Nat.zero_le _, fun mt hmt => ?_⟩
      have s1 := same_new (Same.refl H1) hmt (o := .lst [])
      have e1 : upd H1 mt (.lst []) mt = some (.lst []) := upd_same
      have nmp := hP1.fresh hmt
      have nmN := hS1.free hmt
      have nml : mt ≠ lf := (ne_of_none hvs hmt).symm
      have nms : mt ≠ sc := fun z => by
        obtain ⟨_, _, e1, _⟩ := hS1.left
        rw [z, e1] at hmt
        cases hmt
      refine ⟨5, rfl, by decide, by decide, for_range (lo := 0) (n := 5) (fun j σ' H' => (∃ v5 v6 v7 : Option V, σ' = [some (.ref p), some (.ref sc), some (.ref lf), some (.str (S.W.at i)), some (.ref mt), v5, v6, v7, v8, none]) ∧ ∃ (us : List V) (me : List PyData) (ws : List Str), H' mt = some (.lst us) ∧ DtAll H' us me ∧ MeOk me ws ∧ me.length ≤ j ∧ Pen H' p c ns (n + i * 200100 + j * 40000) ∧ ScP H' sc S N ts ∧ But (pM p sc) H1 H') ?_ ?_ ?_⟩
      · exact ⟨⟨_, _, _, rfl⟩, [], [], [], e1, .nil, ⟨rfl, fun i d e => by simp at e⟩, Nat.le_refl _, (hP1.new hmt).mono (by omega), hS1.same s1, sameBut s1 _⟩
      · rintro j σ' H3 hj ⟨⟨v5, v6, v7, rfl⟩, us, me, ws, hm, mal, mok, lme, hP3, hS3, b3⟩
        have j4 : j * 40000 ≤ 4 * 40000 := Nat.mul_le_mul_right _ (by omega)
        have j0 : (0 : Int) ≤ 0 + (j : Int) := by omega
        have jt : (0 + (j : Int)).toNat = j := by omega
        obtain ⟨kvs, fvs, kd, fd, wd, ct, vd, ta, fl, g1, gk, gf, gw, gc, gt, gv, h1, h2, h3, h4, h5, h6, h7, m1, m2, m3, m4, m5, m6⟩ := hS3.get
        obtain ⟨xc, ec⟩ : ∃ x : Int, (S.ct.map V.int)[(0 + (j : Int)).toNat]? = some (V.int x) := by
          obtain ⟨a, b, c', d, e, ec, _⟩ := okS.ct
          rw [ec, jt]
          rcases (by omega : j = 0 ∨ j = 1 ∨ j = 2 ∨ j = 3 ∨ j = 4) with rfl | rfl | rfl | rfl | rfl <;> exact ⟨_, rfl⟩
        have ew : ((List.range 5).map fun i => V.str (S.W.at (6 + i)))[(0 + (j : Int)).toNat]? = some (V.str (S.W.at (6 + j))) := by
          rw [jt, List.getElem?_map, List.getElem?_range hj]
          rfl
        obtain ⟨vl, vok⟩ := okS.vok
        refine ⟨_, rfl, sc, _, rfl, dgS g1 gv, vd, _, rfl, SqL.of h6, fun r hr' => ?_⟩
        have s4 := same_new (Same.refl H3) hr' (o := .lst (S.vars.map V.str).reverse)
        have e4 : upd H3 r (.lst (S.vars.map V.str).reverse) r = some (.lst (S.vars.map V.str).reverse) := upd_same
        generalize upd H3 r (.lst (S.vars.map V.str).reverse) = H4 at s4 e4 ⊢
        refine ⟨_, rfl, sc, _, rfl, dgS (s4 _ _ g1) gc, _, rfl, ct, _, _, _, rfl, rfl, SqL.of (s4 _ _ h5), atI_int j0 ec, _, rfl, r, _, rfl, SqL.of e4, fun pl hpl => ?_⟩
        obtain ⟨kn, ekn, kin⟩ := strs_of (L := S.vars) (ys := cutV (S.vars.map V.str).reverse none (some xc)) fun y hy => by
          obtain ⟨z, hz, rfl⟩ := List.mem_map.mp (List.mem_reverse.mp (cutV_mem hy))
          exact ⟨z, hz, rfl⟩
        have lkn : kn.length ≤ 5 := by
          have q := cutV_length (S.vars.map V.str).reverse none (some xc)
          rw [ekn, List.length_map, List.length_reverse, List.length_map, vl] at q
          exact q
        rw [ekn]
        have s5 := s4.trans (same_new (Same.refl H4) hpl (o := .lst (kn.map V.str)))
        have e5 : upd H4 pl (.lst (kn.map V.str)) pl = some (.lst (kn.map V.str)) := upd_same
        generalize upd H4 pl (.lst (kn.map V.str)) = H5 at s5 e5 ⊢
        have hP5 := hP3.but (sameBut s5 fun _ => False) id id
        have hS5 := hS3.same s5
        have b5 := sameBut s5 (pM p sc)
        obtain ⟨kvs', left, q1, q2, q3, gL⟩ := hS5.left
        refine ⟨_, rfl, sc, _, rfl, DPut.k (k := Sum.inr "left") q1 (by rw [q3]; decide), ?_⟩
        have nps : pl ≠ sc := fun z => by rw [z, q1] at e5; cases e5
        have ncs : sc ≠ c := fun z => by
          obtain ⟨a, l, _, _, _, _, z5, _⟩ := hP5
          rw [← z, q1] at z5
          cases z5
        have hS6 := gL 2
        have hP6 := hP5.mut (o := .dK (putK kvs' (.inr "left") (.int 2))) sp ncs
        have e6 : upd H5 sc (.dK (putK kvs' (.inr "left") (.int 2))) pl = some (.lst (kn.map V.str)) := by rw [upd_ne nps]; exact e5
        have b6 := b5.mut (o := .dK (putK kvs' (.inr "left") (.int 2))) (.inr rfl)
        generalize upd H5 sc (.dK (putK kvs' (.inr "left") (.int 2))) = H6 at hS6 hP6 e6 b6 ⊢
        have npN := hS5.free (a := pl)
        refine ⟨_, rfl, _, rfl, _, rfl, _, rfl, _, rfl, pl, _, rfl, .inl (SqL.of e6), fun l hl => ?_⟩
        have s7 := same_new (Same.refl H6) hl (o := .lst (kn.map V.str))
        have e7 : upd H6 l (.lst (kn.map V.str)) l = some (.lst (kn.map V.str)) := upd_same
        have lP := hP6.fresh hl
        have lN := hS6.free hl
        have hP7 := hP6.new hl (o := .lst (kn.map V.str))
        have nlpl : l ≠ pl := (ne_of_none e6 hl).symm
        have nsl : sc ≠ l := fun z => by
          obtain ⟨_, _, e1, _⟩ := hS6.left
          rw [z, hl] at e1
          cases e1
        have hS7 := hS6.same s7
        have b7 := b6.trans (sameBut s7 _)
        have e67 := s7 _ _ e6
        have hm7 : upd H6 l (.lst (kn.map V.str)) mt = some (.lst us) := b7 _ _ (fun z => z.elim nmp.1 nms) hm
        have mlt : mt ≠ l := fun z => by
          have q := (sameBut s4 (pM p sc)) _ _ (fun z => z.elim nmp.1 nms) hm
          have q2 := b6 _ _ (fun z => z.elim nmp.1 nms) hm
          rw [z, hl] at q2
          cases q2
        have tp6 : Tups H3 H6 := b6.tups fun a xs m e => m.elim (fun z => hP3.neT e z) fun z => by
          obtain ⟨_, _, e1, _⟩ := hS3.left
          rw [z, e1] at e
          cases e
        have mal7 := (mal.mono tp6).mono (sameTups s7)
        generalize upd H6 l (.lst (kn.map V.str)) = H7 at s7 e7 hP7 hS7 b7 e67 hm7 mal7 ⊢
        have hI : DdIn H7 p c sc l ns (n + i * 200100 + j * 40000) S N ts kn := ⟨hP7, hS7, np, lN, sp, lP.2, e7, fun f hf => vok f (kin f hf)⟩
        refine ⟨p, c, sc, l, ns, _, i, 1, 5, 0 + j, S, N, ts, kn, rfl, rfl, by decide, by decide, hI, by omega, hi, j0, by omega, by omega, fun v xs kn' H8 hv hI8 _ b8 => ?_⟩
        have tp8 := hI.tups b8
        have off8 : ∀ {a : Addr} {o : HO}, a ≠ p → a ≠ sc → a ≠ l → H7 a = some o → H8 a = some o := fun h1 h2 h3 e => b8 _ _ (fun z => z.elim h1 fun z => z.elim h2 h3) e
        have e8 := off8 (hP7.ne e67) nps nlpl.symm e67
        have hm8 := off8 nmp.1 nms mlt hm7
        have mal8 := mal7.mono tp8
        have b38 : But (pM p sc) H3 H8 := fun a o na ea => by
          have q6 := b6 a o na ea
          by_cases z : a = l
          · rw [z, hl] at q6
            cases q6
          · exact b8 a o (fun y => y.elim (fun y => na (.inl y)) fun y => y.elim (fun y => na (.inr y)) z) (s7 _ _ q6)
        have hP8 := hI8.pen
        have hS8 := hI8.scp
        obtain ⟨kvs, fvs, kd, fd, wd, ct, vd, ta, fl, g1, gk, gf, gw, gc, gt, gv, h1, h2, h3, h4, h5, h6, h7, m1, m2, m3, m4, m5, m6⟩ := hS8.get
        refine ⟨_, rfl, .inl ⟨rfl, _, SqL.of hm8⟩, _, rfl, sc, _, rfl, dgS g1 gw, _, rfl, wd, _, _, _, rfl, rfl, SqL.of h4, atI_int j0 ew, _, rfl, pl, _, rfl, .inl ⟨SqL.of e8, fun t1 ht1 => ?_⟩⟩
        have s9 := same_new (Same.refl H8) ht1 (o := .tup (kn.map V.str))
        have e9 : upd H8 t1 (.tup (kn.map V.str)) t1 = some (.tup (kn.map V.str)) := upd_same
        generalize upd H8 t1 (.tup (kn.map V.str)) = H9 at s9 e9 ⊢
        have dkn : ∀ l : List Str, DtAll H9 (l.map V.str) (l.map PyData.str) := fun l => by
          induction l with
          | nil => exact .nil
          | cons a r ih => exact .cons (.str _) ih
        refine ⟨_, rfl, (by show 3 ≤ sizeLine; decide), fun t2 ht2 => ?_⟩
        have s10 := same_new (Same.refl H9) ht2 (o := .tup [.str (S.W.at (6 + j)), .ref t1, v])
        have d10 : Dt (upd H9 t2 (.tup [.str (S.W.at (6 + j)), .ref t1, v])) (.ref t2) (.tuple (.str (S.W.at (6 + j)) :: [.tuple (kn.map PyData.str), .tuple xs])) :=
          .tup upd_same (.cons (.str _) (.cons (.tup (s10 _ _ e9) ((dkn kn).mono (sameTups s10))) (.cons ((hv.mono (sameTups s9)).mono (sameTups s10)) .nil)))
        have s8 := s9.trans s10
        generalize upd H9 t2 (.tup [.str (S.W.at (6 + j)), .ref t1, v]) = H10 at s8 d10 ⊢
        clear s10
        refine ⟨(by show 1 ≤ sizeLine; decide), fun l1 hl1 => ?_⟩
        have s11 := s8.trans (same_new (Same.refl H10) hl1 (o := .lst [.ref t2]))
        have e11 : upd H10 l1 (.lst [.ref t2]) l1 = some (.lst [.ref t2]) := upd_same
        have d11 := d10.mono (sameTups (same_new (Same.refl H10) hl1 (o := .lst [.ref t2])))
        generalize upd H10 l1 (.lst [.ref t2]) = H11 at s11 e11 d11 ⊢
        have hP11 := hP8.but (sameBut s11 fun _ => False) id id
        refine ⟨_, rfl, p, c, ns, _, 6, rfl, hP11, by omega, by decide, by decide, fun q H12 q0 q6 hP12 b12 => ⟨_, _, rfl, rfl, .inr ⟨_, rfl, ?_⟩⟩⟩
        have nl1 := hP11.ne e11
        have e12 := b12 _ _ nl1 e11
        have d12 := d11.mono (hP11.tups b12)
        have hm12 := b12 _ _ nmp.1 (s11 _ _ hm8)
        have mal12 := (mal8.mono (sameTups s11)).mono (hP11.tups b12)
        have hS12 := (hS8.same s11).pen b12 np sp
        have b312 : But (pM p sc) H3 H12 := (b38.trans (sameBut s11 _)).trans (b12.mono fun _ z => .inl z)
        have lus := mal.length
        have join : ∀ (zs : List V) (e : List PyData) (ws' : List Str) (k : Int) (q : Addr), (List.replicate k.toNat [V.ref t2]).flatten = zs → DtAll H12 zs e → MeOk (me ++ e) ws' → e.length ≤ 1 → H12 q = none →
            ∃ l b xs zs', (V.ref mt : V) = .ref l ∧ [V.ref q] = [.ref b] ∧ upd H12 q (.lst (List.replicate k.toNat [V.ref t2]).flatten) l = some (.lst xs) ∧ upd H12 q (.lst (List.replicate k.toNat [V.ref t2]).flatten) b = some (.lst zs') ∧ xs.length + zs'.length ≤ sizeLine ∧
              (fun (σ' : L2.St) (H' : Hp) => (∃ v5 v6 v7 : Option V, σ' = [some (.ref p), some (.ref sc), some (.ref lf), some (.str (S.W.at i)), some (.ref mt), v5, v6, v7, v8, none]) ∧ ∃ (us : List V) (me : List PyData) (ws : List Str), H' mt = some (.lst us) ∧ DtAll H' us me ∧ MeOk me ws ∧ me.length ≤ j + 1 ∧ Pen H' p c ns (n + i * 200100 + (j + 1) * 40000) ∧ ScP H' sc S N ts ∧ But (pM p sc) H1 H')
                [some (.ref p), some (.ref sc), some (.ref lf), some (.str (S.W.at i)), some (.ref mt), some (.int (0 + j)), some (.ref pl), some v, v8, none] (upd (upd H12 q (.lst (List.replicate k.toNat [V.ref t2]).flatten)) l (.lst (xs ++ zs'))) := by
          intro zs e ws' k q ez dz mz le hq
          have lz := dz.length
          have sq := same_new (Same.refl H12) hq (o := .lst zs)
          have nqm : mt ≠ q := ne_of_none hm12 hq
          rw [ez]
          refine ⟨mt, q, us, zs, rfl, rfl, sq _ _ hm12, upd_same, Nat.le_of_lt (small1000 (by omega)), ⟨_, _, _, rfl⟩, us ++ zs, me ++ e, ws', upd_same, ?_, mz, by rw [List.length_append]; omega, ?_, ?_, ?_⟩
          · exact ((mal12.app dz).mono (sameTups sq)).mono (tup_mut fun xs z => by rw [sq _ _ hm12] at z; cases z)
          · exact ((hP12.new hq).mut nmp.1 nmp.2).mono (by omega)
          · exact (hS12.same sq).but ((But.refl (· = mt) _).mut rfl) (fun a ha z => nmN (z ▸ ha)) nms.symm
          · exact ((b3.trans b312).trans (sameBut sq _)).mutNew hmt
        by_cases q1 : q > 0
        · have k1 : (if decide (q > 0) = true then (1 : Int) else 0) = 1 := if_pos (decide_eq_true q1)
          rw [k1]
          exact ⟨l1, 1, _, rfl, rfl, e12, by decide, by decide, Nat.le_of_lt (small1000 (by show 1 * 1 ≤ 1000; decide)), fun q hq => join [.ref t2] _ _ 1 q rfl (.cons d12 .nil) (mok.snoc _ _) (Nat.le_refl _) hq⟩
        · have k1 : (if decide (q > 0) = true then (1 : Int) else 0) = 0 := if_neg (by simpa using q1)
          rw [k1]
          exact ⟨l1, 0, _, rfl, rfl, e12, by decide, by decide, Nat.le_of_lt (small1000 (by show 1 * 0 ≤ 1000; decide)), fun q hq => join [] [] ws 0 q rfl .nil (by rw [List.append_nil]; exact mok) (by decide) hq⟩
      · rintro σ3 H3 ⟨⟨v5, v6, v7, rfl⟩, us, me, ws, hm, mal, mok, lme, hP3, hS3, b3⟩
        have hvs3 : H3 lf = some (.lst vs) := b3 _ _ (fun z => z.elim nlp.1 nls) hvs
        have soft1 : ∀ a, pM p sc a → Soft H1 a := fun a m => m.elim (fun z => by
          obtain ⟨_, _, _, _, _, z4, _⟩ := hP1
          exact .inl ⟨_, z ▸ z4⟩) fun z => by
          obtain ⟨_, _, e1, _⟩ := hS1.left
          exact .inl ⟨_, z ▸ e1⟩
        have kal3 := kal.mono (Soft.tups b3 soft1) (Soft.frzs b3 soft1)
        obtain ⟨kvs, fvs, kd, fd, wd, ct, vd, ta, fl, g1, gk, gf, gw, gc, gt, gv, h1, h2, h3, h4, h5, h6, h7, m1, m2, m3, m4, m5, m6⟩ := hS3.get
        obtain ⟨f1, f2, f3⟩ := h3 i hi
        have nfl := offN f3
        have lS3 := (okS.fok i).1
        refine ⟨_, rfl, sc, _, rfl, dgS g1 gf, _, rfl, fd, _, rfl, dgS h2 f1, fl i, rfl, ⟨_, SqL.of f2⟩, fun D hD => ?_⟩
        have nDp := hP3.fresh hD
        have nDs : D ≠ sc := fun z => by
          obtain ⟨_, _, e1, _⟩ := hS3.left
          rw [z, e1] at hD
          cases hD
        refine lc_list (K := K) (a := fl i) (xs := (S.fs i).map V.str) (fun j H' => ∃ (zs : List V) (sl : List (Str × PyData)), H' D = some (.lst zs) ∧ DtAll H' zs (sl.map fun q => .tuple [.str q.1, q.2]) ∧ sl.map (·.1) = (S.fs i).take j ∧ (∀ q ∈ sl, PlainD q.2) ∧ Pen H' p c ns (n + i * 200100 + 5 * 40000 + j * 5) ∧ But (· = p) H3 H') ?_ ?_ ?_ ?_
        · exact ⟨[], [], upd_same, .nil, rfl, fun q hq => absurd hq (by simp), hP3.new hD, (But.refl _ _).new hD⟩
        · rintro j H' _ ⟨zs, sl, _, _, _, _, _, b⟩
          exact SqL.of (b _ _ nfl.1 f2)
        · rintro j x H4 hj ⟨zs, sl, hDz, zal, esl, pls, hP4, b4⟩
          rw [List.getElem?_map] at hj
          obtain ⟨z, hz, rfl⟩ := Option.map_eq_some_iff.mp hj
          have jl : j < (S.fs i).length := (List.getElem?_eq_some_iff.mp hz).1
          have lsl : sl.length = j := by
            have q := congrArg List.length esl
            rw [List.length_map, List.length_take] at q
            omega
          have lz := zal.length
          rw [List.length_map] at lz
          refine ⟨rfl, _, rfl, _, rfl, p, c, ns, _, rfl, hP4, by omega, fun v d H5 hv pd hP5 b5 => ⟨(by show 2 ≤ sizeLine; decide), fun t ht => ?_⟩⟩
          have s6 := same_new (Same.refl H5) ht (o := .tup [.str z, v])
          have d6 : Dt (upd H5 t (.tup [.str z, v])) (.ref t) (.tuple [.str z, d]) := .tup upd_same (.cons (.str _) (.cons (hv.mono (sameTups s6)) .nil))
          have hD6 := s6 _ _ (b5 _ _ nDp.1 hDz)
          have zal6 := (zal.mono (hP4.tups b5)).mono (sameTups s6)
          have hP6 := hP5.new ht (o := .tup [.str z, v])
          have b6 := (b4.trans b5).new ht (o := .tup [.str z, v])
          generalize upd H5 t (.tup [.str z, v]) = H6 at d6 hD6 zal6 hP6 b6 ⊢
          refine ⟨zs, hD6, small1000 (by omega), zs ++ [.ref t], sl ++ [(z, d)], upd_same, ?_, ?_, fun q hq => ?_, (hP6.mut nDp.1 nDp.2).mono (by omega), b6.mutNew hD⟩
          · rw [List.map_append]
            exact (zal6.app (.cons d6 .nil)).mono (tup_mut fun xs z => by rw [hD6] at z; cases z)
          · rw [List.map_append, esl, List.take_add_one, hz]
            rfl
          · rcases List.mem_append.mp hq with q' | q'
            · exact pls q q'
            · rw [List.mem_singleton.mp q']
              exact pd
        · rintro H4 ⟨zs, sl, hDz, zal, esl, pls, hP4, b4⟩
          rw [List.length_map, List.take_length] at esl
          rw [List.length_map] at hP4
          have tp4 := hP3.tups b4
          have b34 : But (pM p sc) H3 H4 := b4.mono fun _ z => .inl z
          have soft3 : ∀ a, pM p sc a → Soft H3 a := fun a m => m.elim (fun z => by
            obtain ⟨_, _, _, _, _, z4, _⟩ := hP3
            exact .inl ⟨_, z ▸ z4⟩) fun z => by
            obtain ⟨_, _, e1, _⟩ := hS3.left
            exact .inl ⟨_, z ▸ e1⟩
          have kal4 := kal3.mono tp4 (Soft.frzs b34 soft3)
          have mal4 := mal.mono tp4
          have hm4 := b4 _ _ nmp.1 hm
          have hvs4 := b4 _ _ nlp.1 hvs3
          have hS4 := hS3.pen b4 np sp
          refine ⟨D, _, rfl, SqL.of hDz, fun u o hu' nod => ?_⟩
          have s5 := same_new (Same.refl H4) hu' (o := .frz o (.tup zs))
          have e5 : upd H4 u (.frz o (.tup zs)) u = some (.frz o (.tup zs)) := upd_same
          generalize upd H4 u (.frz o (.tup zs)) = H5 at s5 e5 ⊢
          refine ⟨_, rfl, .inl ⟨rfl, _, SqL.of (s5 _ _ hvs4)⟩, _, rfl, _, rfl, _, rfl, mt, _, rfl, .inl ⟨SqL.of (s5 _ _ hm4), fun t1 ht1 => ?_⟩⟩
          have s6 := s5.trans (same_new (Same.refl H5) ht1 (o := .tup us))
          have s6' := same_new (Same.refl H5) ht1 (o := .tup us)
          have e6 : upd H5 t1 (.tup us) t1 = some (.tup us) := upd_same
          generalize upd H5 t1 (.tup us) = H6 at s6 s6' e6 ⊢
          refine ⟨(by show 3 ≤ sizeLine; decide), fun t2 ht2 => ?_⟩
          have s7' := same_new (Same.refl H6) ht2 (o := .tup [.str (S.W.at i), .ref u, .ref t1])
          have s7 := s6.trans s7'
          have e7 : upd H6 t2 (.tup [.str (S.W.at i), .ref u, .ref t1]) t2 = some (.tup [.str (S.W.at i), .ref u, .ref t1]) := upd_same
          generalize upd H6 t2 (.tup [.str (S.W.at i), .ref u, .ref t1]) = H7 at s7 s7' e7 ⊢
          have hvs7 := s7 _ _ hvs4
          have lvs := kal.length
          have ka : KdAt H7 (.ref t2) ⟨S.W.at i, sl, me⟩ := ⟨t2, u, .ref t1, o, zs, rfl, e7, s7' _ _ (s6' _ _ e5), nod, zal.mono (sameTups s7), .tup (s7' _ _ e6) (mal4.mono (sameTups s7))⟩
          have kal7 := (kal4.mono (sameTups s7) fun a o u e => s7 _ _ e).snoc ka
          refine ⟨lf, _, _, rfl, rfl, hvs7, small1000 (by omega), ?_⟩
          have bl : But (· = lf) H7 (upd H7 lf (.lst (vs ++ [.ref t2]))) := (But.refl _ _).mut rfl
          have softl : ∀ a, a = lf → Soft H7 a := fun a z => .inr ⟨_, z ▸ hvs7⟩
          refine ⟨⟨_, _, _, _, _, _, rfl⟩, vs ++ [.ref t2], ks ++ [⟨S.W.at i, sl, me⟩], upd_same, kal7.mono (Soft.tups bl softl) (Soft.frzs bl softl), by simp [lk], fun j k' e => ?_, ?_, ?_, ?_⟩
          · by_cases hj : j < ks.length
            · rw [List.getElem?_append_left hj] at e
              exact kok j k' e
            · rw [List.getElem?_append_right (by omega)] at e
              have j0 : j - ks.length = 0 := by
                have := (List.getElem?_eq_some_iff.mp e).1
                simp at this
                omega
              rw [j0] at e
              obtain rfl : (⟨S.W.at i, sl, me⟩ : Kd3) = k' := by simpa using e
              obtain rfl : j = i := by omega
              exact ⟨rfl, esl, pls, lme, _, mok⟩
          · exact ((hP4.but (sameBut s7 fun _ => False) id id).mut nlp.1 nlp.2).mono (by omega)
          · exact (hS4.same s7).but bl (fun a ha z => nlN (z ▸ ha)) nls.symm
          · exact (((b1.trans b3).trans b34).trans (sameBut s7 _)).mutNew hlf
    · rintro σ1 H1 ⟨⟨v3, v4, v5, v6, v7, v8, rfl⟩, vs, ks, hvs, kal, lk, kok, hP1, hS1, b1⟩
      have lr : ((List.range S.kk).map fun i => V.str (S.W.at i)).length = S.kk := by simp
      rw [lr] at lk hP1
      have kk2 : S.kk * 200100 ≤ 3 * 200100 := Nat.mul_le_mul_right _ kk3
      refine ⟨_, rfl, lf, _, rfl, .inl ⟨SqL.of hvs, fun t ht => ?_⟩⟩
      have s2 := same_new (Same.refl H1) ht (o := .tup vs)
      exact go _ ks _ ⟨t, vs, rfl, upd_same, kal.mono (sameTups s2) fun a o u e => s2 _ _ e⟩ ⟨lk, kok⟩ ((hP1.new ht).mono (by omega)) (hS1.same s2) (b1.trans (sameBut s2 _))
end
end K3
namespace GG
open PySem PySem.Spec PyProof.Rows L2
/-! ### a text beside a thing of any kind -/
section
variable {A : Around} {s : Shared}
theorem dict_eq_text (l : Addr) (es : Array DictEntry) (n : Nat) (dd : Option Addr) (sl : Array (Option Value)) (b : Str) (u : Tok) :
    Meets (Builtin.«dict.__eq__» ⟨[.ref l, .str b u], []⟩) (fun _ R s => s.heap.get? l = some { cls := .type "dict", dict := dd, data := .dict es n, slots := sl } ∧ R (.ok (.ret .notImplemented)) s) :=
  .of_wp fun prog w A R s h => by
    obtain ⟨hp, g, d, tk, os⟩ := s
    obtain ⟨hl, h⟩ := h
    have f1 : isSubtype (.type "str") (.type "dict") = pure false := by kernel_rfl
    wp_walk using wpAny_loadPart' hl
    exact ⟨_, rfl, h⟩
theorem text_eq_dict (b : Str) (u : Tok) (l : Addr) (es : Array DictEntry) (n : Nat) (dd : Option Addr) (sl : Array (Option Value)) :
    Meets (Builtin.«str.__eq__» ⟨[.str b u, .ref l], []⟩) (fun _ R s => s.heap.get? l = some { cls := .type "dict", dict := dd, data := .dict es n, slots := sl } ∧ R (.ok (.ret .notImplemented)) s) :=
  .of_wp fun prog w A R s h => by
    obtain ⟨hp, g, d, tk, os⟩ := s
    obtain ⟨hl, h⟩ := h
    wp_walk using wpAny_loadPart' hl, wpAny_load hl
    exact ⟨_, rfl, h⟩
theorem text_dict_eq {prog : Program} {w : World} {E : Value → Shared → Prop} {Q : Value → Shared → Prop} {l : Addr} {o : Obj} {es : Array DictEntry} {n : Nat} (b : Str) (u : Tok) (ho : s.heap.get? l = some o) (hc : o.cls = .type "dict") (hd : o.data = .dict es n) (hu : A.units < cLine) (h : Q (.bool false) s) :
    wpAny (model prog w) A (richCompare .Eq (.str b u) (.ref l)) Q E s := by
  obtain ⟨cls, dd, data, sl⟩ := o
  simp only at hc hd
  subst hc hd
  exact SeqAt.rc_eq_decline_or (k := false) (typeIs_str s b u) ⟨_, ho, rfl⟩ (by decide) (by kernel_rfl) F.slot_str_eq F.slot_dict_eq_refl
    (fun _ hq => call_meets F.slot_str_eq (typeIs_str s b u) F.entry_str_eq (F.args_str_eq_2 _ _) (text_eq_dict b u l es n dd sl) ⟨ho, hq⟩)
    (fun _ hq => call_meets F.slot_dict_eq_refl ⟨_, ho, rfl⟩ F.entry_dict_eq (F.args_dict_eq_2 _ _) (dict_eq_text l es n dd sl b u) ⟨ho, hq⟩)
    (fun _ hq => wpAny_of_eq (rfl : isSame (.str b u) (.ref l) = pure false) hq) (.inr hu) h
end
end GG
namespace K3
open PySem PySem.Spec PyProof.Rows L2 GG
/-- the text that data are -/
def isTx (z : Str) : PyData → Bool
  | .str w => z == w
  | _ => false
def rEqTx (M : Addr → Prop) : R2 := fun x y H Q => ∃ (d : PyData) (z : Str), x = .str z ∧ Dx M H y d ∧ Q (.bl (isTx z d)) H
theorem op_eqTx {X : Cx} {M : Addr → Prop} (hu : X.A.units + 64 < cLine) : OpR X (compareOp .Eq) (rEqTx M) := by
  intro pins s σ H x y v u Q I rx ry h
  obtain ⟨d, z, rfl, hd, q⟩ := h
  obtain ⟨t, rfl⟩ := rx
  have fin : ∀ b : Bool, b = isTx z d → EP X pins σ Q (.bool b) s := fun b e => ⟨.bl b, H, I, rfl, e ▸ q⟩
  cases hd with
  | non =>
    obtain rfl : u = Value.none := ry
    exact SeqAt.RcAt.str_none z t _ _ _ _ (fin false rfl)
  | bl b =>
    obtain rfl : u = Value.bool b := ry
    exact SeqAt.RcAt.str_bool z t b _ _ _ _ (fin false rfl)
  | int i =>
    obtain ⟨t', rfl⟩ := ry
    exact SeqAt.RcAt.str_int z t i t' _ _ _ _ (fin false rfl)
  | str w =>
    obtain ⟨t', rfl⟩ := ry
    exact SeqAt.RcAt.str_str z t w t' _ _ _ _ (fin _ rfl)
  | @lst a xs ds n e hA =>
    obtain rfl : u = Value.ref a := ry
    obtain ⟨_, its, n', rv, o⟩ := (show ObjOk X.prog X.w H s.heap _ (.lst _) from I.hok _ _ e)
    exact SeqAt.RcAt.str_list (items := its.toArray) z t ⟨_, o, rfl, _, rfl⟩ (by omega) _ _ _ _ (fin false rfl)
  | @tup a xs ds n e hA =>
    obtain rfl : u = Value.ref a := ry
    obtain ⟨_, its, rv, o, q1, qc, n', qd⟩ := (show ObjOk X.prog X.w H s.heap _ (.tup _) from I.hok _ _ e)
    exact SeqAt.RcAt.str_tuple (items := its.toArray) z t ⟨_, q1, qc, _, qd⟩ (by omega) _ _ _ _ (fin false rfl)
  | @dic a kvs es n e hA =>
    obtain rfl : u = Value.ref a := ry
    obtain ⟨_, sm, vs, rel, o, es', ep, q1, qx, qd, _, qp, _⟩ := (show ObjOk X.prog X.w H s.heap _ (.dK _) from I.hok _ _ e)
    exact text_dict_eq z t q1 qx.1 qd (by omega) (fin false rfl)
/-! ### kind_of, fields_of, words_of, of what is no kind -/
def nM : Addr → Prop := fun _ => False
/-- a thing that is none of the names -/
structure OddD (nms : List Str) (d : PyData) : Prop where
  no : ∀ z ∈ nms, isTx z d = false
  dp : d.depth ≤ 2
  few : FewX 2 d
def spKindX (D : Addr) : Sp := fun vs H Q E => ∃ (v u : V) (ks : List Kd3) (d : PyData), vs = [v, u] ∧ PlAt H v ks ∧ Dx nM H u d ∧ OddD (ks.map (·.nm)) d ∧ ∀ (dd : Addr) (u' : V) (H' : Hp), Same H H' → H' dd = some (.xd [("kind", u')]) → Dx nM H' u' d → E (.ref D) (some dd) H'
section
variable {P : Program} {w : World} {K : PySem.W.Frag} {mg : Str → Option Value} {base : Heap} {D : Addr}
theorem ok_kindX {f fc : Addr} {fd fdc : FuncData} (F : Fun K "kind_of" "kind_of" sKind3 f fd) (NK : NkK P w K mg base D)
    (mc : mg "copied" = some (.ref fc)) (kc : PySem.W.keepIn K (.ref fc) = true) (bc : Binds K fdc ["thing"] []) (Gc : FnOk P w K mg base CX0 3 fc fdc ["thing"] (spCopiedA 2)) :
    FnOk P w K mg base (L2N.CX P w) 4 f fd ["plan", "kind"] (spKindX D) := by
  refine GG.okN F scK3 (fun vs H Q E h => ?_) (fun cdv A outer s H vs Q E hr h => ?_)
  · obtain ⟨v, u, ks, d, rfl, _⟩ := h
    rfl
  · obtain ⟨v, u, ks, d, rfl, ⟨a, us, rfl, e, al⟩, hu, odd, go⟩ := h
    have nd := scK3.nd
    refine ⟨_, pss_cons (ps_for PassesOwn.leaving rfl (pi_tup (pv 0)) (pg_name (i := 2) nd rfl (Or.inl rfl)) (pss_one (ps_if (pt_cmpR (op_eqTx (M := nM) hr.units) (pe_ix ix_tup (pv 2) pe_int (fun _ _ => rfl)) (pv 1) (nomark _)) (pss_one (ps_ret (pv 2))) pss_nil)))
      (pss_one (ps_nokind NK rfl (L2N.takes_of rfl rfl rfl rfl) (by rfl) (hr.mono (by decide)) (pa_cons (pe_call Gc hr (by rfl) mc kc bc .nil pass0 (pa_cons (pv 1) pa_nil)) pa_nil) (by
        rintro σ H Q Q' m ⟨v, e, M, v0, d, h1, h2, h3, h4, h5, k⟩
        exact ⟨v, e, M, v0, d, h1, h2, h3, h4, h5, fun v' H' q1 q2 => m _ _ (k v' H' q1 q2)⟩))), ?_⟩
    refine ⟨_, rfl, a, rfl, ⟨_, SqT.of e⟩, for_tup (K := K) (a := a) (xs := us) (fun i σ' H' => H' = H ∧ ∃ v2 : Option V, σ' = [some (.ref a), some u, v2]) ?_ ?_ ?_ ?_⟩
    · exact ⟨rfl, _, rfl⟩
    · rintro i σ' H' _ ⟨rfl, _⟩
      exact SqT.of e
    · rintro i x σ' H' hi ⟨rfl, v2, rfl⟩
      obtain ⟨k, hk, kat⟩ := al.get i x hi
      obtain ⟨bb, c, m, o, zs, rfl, eb, _⟩ := kat
      have b0 : atI [V.str k.nm, V.ref c, m] 0 = some (V.str k.nm) := atI_int (by decide) rfl
      refine ⟨_, rfl, bb, _, _, _, rfl, rfl, SqT.of eb, b0, _, rfl, d, k.nm, rfl, hu, _, rfl, ?_⟩
      rw [odd.no k.nm (List.mem_map.mpr ⟨k, List.mem_of_getElem? hk, rfl⟩)]
      exact iteF ⟨rfl, _, rfl⟩
    · rintro σ' H' ⟨rfl, v2, rfl⟩
      exact ⟨_, rfl, nM, u, d, rfl, hu, odd.dp, odd.few, fun b z => z.elim, fun u' H1 hu' s1 => ⟨u', rfl, fun dd H2 e2 s2 => go dd u' H2 (s1.trans s2) e2 (hu'.mono (sameBut s2 _))⟩⟩
end
end K3
namespace K3
open PySem PySem.Spec PyProof.Rows L2 GG
/-! ### fields_of; it and words_of of what is no kind -/
theorem sqF3 {K : PySem.W.Frag} {H : Hp} {c : Addr} {o : Obj} {zs : List V} (h : H c = some (.frz o (.tup zs))) : SqT K H c zs := .inl (.inr ⟨o, h⟩)
inductive SlKv (H : Hp) : List (Key × V) → List (Str × PyData) → Prop
  | nil : SlKv H [] []
  | cons {f : Str} {v : V} {d : PyData} {kvs : List (Key × V)} {sl : List (Str × PyData)} : Dt H v d → SlKv H kvs sl → SlKv H ((.inr f, v) :: kvs) ((f, d) :: sl)
theorem SlKv.mono {H H' : Hp} (t : Tups H H') : ∀ {kvs : List (Key × V)} {sl : List (Str × PyData)}, SlKv H kvs sl → SlKv H' kvs sl
  | _, _, .nil => .nil
  | _, _, .cons h a => .cons (h.mono t) (a.mono t)
theorem SlKv.snoc {H : Hp} {f : Str} {v : V} {d : PyData} (h : Dt H v d) : ∀ {kvs : List (Key × V)} {sl : List (Str × PyData)}, SlKv H kvs sl → SlKv H (kvs ++ [(.inr f, v)]) (sl ++ [(f, d)])
  | _, _, .nil => .cons h .nil
  | _, _, .cons g a => .cons g (a.snoc h)
theorem SlKv.keys {H : Hp} : ∀ {kvs : List (Key × V)} {sl : List (Str × PyData)}, SlKv H kvs sl → kvs.map (·.1) = sl.map fun q => .inr q.1
  | _, _, .nil => rfl
  | _, _, .cons _ a => by rw [List.map_cons, List.map_cons, a.keys]
theorem PlainD.few {d : PyData} (h : PlainD d) : FewX 2 d ∧ d.depth ≤ 2 := by
  have flat : ∀ n e, (e = PyData.none ∨ (∃ i, e = .int i) ∨ ∃ z, e = .str z) → FewX n e := by
    intro n e he
    cases n with
    | zero => trivial
    | succ n =>
      rcases he with rfl | ⟨i, rfl⟩ | ⟨z, rfl⟩
      · exact ⟨fun ds z => z.elim (fun z => nomatch z) (fun z => nomatch z), fun es z => nomatch z⟩
      · exact ⟨fun ds z => z.elim (fun z => nomatch z) (fun z => nomatch z), fun es z => nomatch z⟩
      · exact ⟨fun ds z => z.elim (fun z => nomatch z) (fun z => nomatch z), fun es z => nomatch z⟩
  have tup : ∀ ds : List PyData, ds.length ≤ 2 → (∀ e ∈ ds, e = PyData.none ∨ (∃ i, e = .int i) ∨ ∃ z, e = .str z) → FewX 2 (.tuple ds) := fun ds l h => by
    refine ⟨fun es z => ?_, fun es z => nomatch z⟩
    rcases z with z | z
    · cases z
    · cases z
      exact ⟨by omega, fun e he => flat 1 e (h e he)⟩
  rcases h with rfl | ⟨i, _, _, rfl⟩ | ⟨z, _, rfl⟩ | rfl | rfl | rfl
  · exact ⟨flat 2 _ (.inl rfl), by decide⟩
  · exact ⟨flat 2 _ (.inr (.inl ⟨_, rfl⟩)), by simp [PyData.depth]⟩
  · exact ⟨flat 2 _ (.inr (.inr ⟨_, rfl⟩)), by simp [PyData.depth]⟩
  · exact ⟨tup _ (by decide) (by simp), by decide +kernel⟩
  · exact ⟨tup _ (by decide) (by simp), by decide +kernel⟩
  · exact ⟨tup _ (by decide) (by simp), by decide +kernel⟩
theorem PlainD.dt {M : Addr → Prop} {H : Hp} {v : V} {d : PyData} (p : PlainD d) (h : Dx M H v d) : Dt H v d := by
  have atom : ∀ {v e}, Dx M H v e → (e = PyData.none ∨ (∃ i, e = .int i) ∨ ∃ z, e = .str z) → Dt H v e := by
    intro v e q he
    rcases he with rfl | ⟨i, rfl⟩ | ⟨z, rfl⟩ <;> cases q
    · exact .non
    · exact .int _
    · exact .str _
  have tup : ∀ {ds : List PyData} {v : V}, Dx M H v (.tuple ds) → (∀ e ∈ ds, e = PyData.none ∨ (∃ i, e = .int i) ∨ ∃ z, e = .str z) → Dt H v (.tuple ds) := by
    intro ds v q he
    cases q with
    | tup _ e a =>
      refine .tup e ?_
      have all : ∀ {xs : List V} {es : List PyData}, DxAll M H xs es → (∀ e ∈ es, e = PyData.none ∨ (∃ i, e = .int i) ∨ ∃ z, e = .str z) → DtAll H xs es := by
        intro xs es
        induction es generalizing xs with
        | nil =>
          intro a _
          cases a
          exact .nil
        | cons e r ih =>
          intro a h
          cases a with
          | cons a1 a2 => exact .cons (atom a1 (h _ (List.mem_cons_self ..))) (ih a2 fun e he => h e (List.mem_cons_of_mem _ he))
      exact all a he
  rcases p with rfl | ⟨i, _, _, rfl⟩ | ⟨z, _, rfl⟩ | rfl | rfl | rfl
  · exact atom h (.inl rfl)
  · exact atom h (.inr (.inl ⟨_, rfl⟩))
  · exact atom h (.inr (.inr ⟨_, rfl⟩))
  · exact tup h (by simp)
  · exact tup h (by simp)
  · exact tup h (by simp)
def spFields3 : Sp := fun vs H Q _ => ∃ (v : V) (b : Str) (ks : List Kd3), vs = [v, .str b] ∧ PlAt H v ks ∧ (∃ k ∈ ks, k.nm = b) ∧ (∀ k ∈ ks, k.sl.length ≤ 10 ∧ (k.sl.map (·.1)).Nodup ∧ ∀ q ∈ k.sl, PlainD q.2) ∧
  ∀ (r : Addr) (k : Kd3) (kvs : List (Key × V)) H', k ∈ ks → k.nm = b → Same H H' → H r = none → H' r = some (.dK kvs) → SlKv H' kvs k.sl → Q (.ref r) H'
abbrev sFields3 : Stmt := top 8
theorem scF3 : FnScope ["plan", "kind", "field", "worth"] ["plan", "kind"] (defScope sFields3) := ⟨rfl, rfl, rfl, by decide +kernel, rfl, by decide +kernel, by decide +kernel⟩
section
variable {P : Program} {w : World} {K : PySem.W.Frag} {mg : Str → Option Value} {base : Heap} {D : Addr}
theorem ok_fields3 {f fk fc : Addr} {fd fdk fdc : FuncData} (F : Fun K "fields_of" "fields_of" sFields3 f fd) (mk : mg "kind_of" = some (.ref fk)) (kk : PySem.W.keepIn K (.ref fk) = true) (bk : Binds K fdk ["plan", "kind"] []) (Gk : FnOk P w K mg base CX0 1 fk fdk ["plan", "kind"] spKind3)
    (mc : mg "copied" = some (.ref fc)) (kc : PySem.W.keepIn K (.ref fc) = true) (bc : Binds K fdc ["thing"] []) (Gc : FnOk P w K mg base CX0 3 fc fdc ["thing"] (spCopiedA 2)) : FnOk P w K mg base CX0 4 f fd ["plan", "kind"] spFields3 := by
  refine F.ok scF3 (fun vs H Q E h => ?_) (fun cdv A outer s H vs Q E hr h => ?_)
  · obtain ⟨v, b, ks, rfl, _⟩ := h
    rfl
  · obtain ⟨v, b, ks, rfl, hd, hin, hsl, go⟩ := h
    have nd := scF3.nd
    have r1 : Room 1 _ := hr.mono (by decide)
    refine ⟨_, pss_one (ps_ret (pe_dc (own := [("field", 2), ("worth", 3)]) (g := gTup K 2 (gCons (gName 2) (gCons (gName 3) gNil))) (tt := tYes) rfl nd (pi_tup (pe_ix ix_tup (pe_call Gk r1 (by rfl) mk kk bk .nil pass0 (pa_cons (pv 0) (pa_cons (pv 1) pa_nil))) pe_int (fun _ _ => rfl)))
      (blkOk_by (N := ["plan", "kind", "field", "worth"]) (sc := defScope sFields3) (by decide +kernel)) (fun _ _ _ _ _ => by exact pg_tup rfl (pgs_cons (pg_name (i := 2) nd rfl (Or.inl rfl)) (pgs_cons (pg_name (i := 3) nd rfl (Or.inl rfl)) pgs_nil))) (fun _ _ _ _ _ => pts_nil)
      (fun _ _ _ _ _ => pv 2) (fun _ _ _ _ _ => pe_call Gc hr (by rfl) mc kc bc .nil pass0 (pa_cons (pv 3) pa_nil)))), ?_⟩
    refine ⟨_, rfl, _, rfl, v, b, ks, rfl, hd, hin, fun u k hk hnm kat => ?_⟩
    obtain ⟨few, nod, pls⟩ := hsl k hk
    obtain ⟨bb, c, m, o, zs, rfl, eb, ec, _, al, _⟩ := kat
    have ll := al.length
    rw [List.length_map] at ll
    have a1 : atI [V.str k.nm, V.ref c, m] 1 = some (V.ref c) := atI_int (by decide) rfl
    refine ⟨bb, _, _, _, rfl, rfl, SqT.of eb, a1, c, rfl, ⟨_, sqF3 ec⟩, fun D hD => ?_⟩
    refine dc_tup (K := K) (a := c) (xs := zs) (fun i H' => Same H H' ∧ ∃ kvs, H' D = some (.dK kvs) ∧ SlKv H' kvs (k.sl.take i)) ?_ ?_ ?_ ?_
    · exact ⟨same_new (Same.refl H) hD, [], upd_same, .nil⟩
    · rintro i H' _ ⟨s, _⟩
      exact sqF3 (s _ _ ec)
    · rintro i x H' hi ⟨s, kvs, hL, hk'⟩
      obtain ⟨d0, hd0, hx⟩ := al.get i x hi
      rw [List.getElem?_map] at hd0
      obtain ⟨q, hq, rfl⟩ := Option.map_eq_some_iff.mp hd0
      obtain ⟨t, rfl⟩ := hx.ref_of
      obtain ⟨ys, et, ya⟩ := hx.tupI
      cases ya with
      | cons y1 ya =>
      cases y1
      cases ya with
      | @cons w2 _ _ _ y2 ya =>
      cases ya
      have pq := pls q (List.mem_of_getElem? hq)
      have pf := pq.few
      refine ⟨t, _, rfl, SqT.of (s _ _ et), rfl, _, _, rfl, _, _, rfl, rfl, rfl, _, rfl, _, rfl, nM, w2, q.2, rfl, (Dt.dx (fun a xs z => z.elim) y2).mono (sameBut s _), pf.2, pf.1, fun b z => z.elim, fun v2 H2 hv2 s2 => ?_⟩
      have fresh : (Sum.inr q.1 : Key) ∉ kvs.map (·.1) := by
        rw [hk'.keys]
        intro z
        obtain ⟨q', hq', e⟩ := List.mem_map.mp z
        have e' : q'.1 = q.1 := by injection e
        refine not_in_take nod (i := i) (x := q.1) (by rw [List.getElem?_map, hq]; rfl) ?_
        rw [← List.map_take]
        exact List.mem_map.mpr ⟨q', hq', e'⟩
      have lk : kvs.length ≤ 10 := by
        have := congrArg List.length hk'.keys
        simp only [List.length_map, List.length_take] at this
        omega
      refine ⟨kvs, .inr q.1, rfl, s2 _ _ hL, small1000 (by omega), same_mut (s.trans s2) hD, kvs ++ [(.inr q.1, v2)], ?_, ?_⟩
      · rw [upd_same, put_new fresh]
      · rw [List.take_add_one, hq]
        exact ((hk'.mono (sameTups s2)).snoc (pq.dt hv2)).mono (tup_mut fun xs z => by rw [s2 _ _ hL] at z; cases z)
    · rintro H' ⟨s, kvs, hL, hk'⟩
      rw [ll, List.take_length] at hk'
      exact go D k kvs H' hk hnm s hD hL hk'
theorem ok_fieldsX {f fk fc : Addr} {fd fdk fdc : FuncData} (F : Fun K "fields_of" "fields_of" sFields3 f fd) (mk : mg "kind_of" = some (.ref fk)) (kk : PySem.W.keepIn K (.ref fk) = true) (bk : Binds K fdk ["plan", "kind"] []) (Gk : FnOk P w K mg base (L2N.CX P w) 4 fk fdk ["plan", "kind"] (spKindX D))
    (mc : mg "copied" = some (.ref fc)) (kc : PySem.W.keepIn K (.ref fc) = true) (bc : Binds K fdc ["thing"] []) (Gc : FnOk P w K mg base CX0 3 fc fdc ["thing"] (spCopiedA 2)) : FnOk P w K mg base (L2N.CX P w) 5 f fd ["plan", "kind"] (spKindX D) := by
  refine GG.okN F scF3 (fun vs H Q E h => ?_) (fun cdv A outer s H vs Q E hr h => ?_)
  · obtain ⟨v, u, ks, d, rfl, _⟩ := h
    rfl
  · obtain ⟨v, u, ks, d, rfl, go⟩ := h
    have nd := scF3.nd
    have r3 : Room 3 _ := hr.mono (by decide)
    refine ⟨_, pss_one (ps_ret (pe_dc (own := [("field", 2), ("worth", 3)]) (g := gTup K 2 (gCons (gName 2) (gCons (gName 3) gNil))) (tt := tYes) rfl nd (pi_tup (pe_ix ix_tup (pe_call (E := E) Gk hr (by rfl) mk kk bk .nil (L2N.passes_call (L2N.takes_of rfl rfl rfl rfl) fun _ _ _ _ z => z) (pa_cons (pv 0) (pa_cons (pv 1) pa_nil))) pe_int (fun _ _ => rfl)))
      (blkOk_by (N := ["plan", "kind", "field", "worth"]) (sc := defScope sFields3) (by decide +kernel)) (fun _ _ _ _ _ => by exact pg_tup rfl (pgs_cons (pg_name (i := 2) nd rfl (Or.inl rfl)) (pgs_cons (pg_name (i := 3) nd rfl (Or.inl rfl)) pgs_nil))) (fun _ _ _ _ _ => pts_nil)
      (fun _ _ _ _ _ => pv 2) (fun _ _ _ _ _ => pe_call Gc r3 (by rfl) mc kc bc .nil pass0 (pa_cons (pv 3) pa_nil)))), ?_⟩
    exact ⟨_, rfl, _, rfl, v, u, ks, d, rfl, go⟩
theorem ok_wordsX {f fk : Addr} {fd fdk : FuncData} (F : Fun K "words_of" "words_of" sWords3 f fd) (T : Txt mg) (mk : mg "kind_of" = some (.ref fk)) (kk : PySem.W.keepIn K (.ref fk) = true) (bk : Binds K fdk ["plan", "kind"] []) (Gk : FnOk P w K mg base (L2N.CX P w) 4 fk fdk ["plan", "kind"] (spKindX D)) :
    FnOk P w K mg base (L2N.CX P w) 5 f fd ["plan", "kind"] (spKindX D) := by
  refine GG.okN F scW3 (fun vs H Q E h => ?_) (fun cdv A outer s H vs Q E hr h => ?_)
  · obtain ⟨v, u, ks, d, rfl, _⟩ := h
    rfl
  · obtain ⟨v, u, ks, d, rfl, go⟩ := h
    have nd := scW3.nd
    refine ⟨_, pss_one (ps_ret (pe_callB cr_sortedS (by rfl) T.sorted (by decide +kernel) (pa_cons (pe_lc (own := [("method", 2)]) (g := gName 2) (tt := tYes) rfl nd (pi_tup (pe_ix ix_tup (pe_call (E := E) Gk hr (by rfl) mk kk bk .nil (L2N.passes_call (L2N.takes_of rfl rfl rfl rfl) fun _ _ _ _ z => z) (pa_cons (pv 0) (pa_cons (pv 1) pa_nil))) pe_int (fun _ _ => rfl)))
      (blkOk_by (N := ["plan", "kind", "method"]) (sc := defScope sWords3) (by decide +kernel)) (fun _ _ _ _ _ => pg_name (i := 2) nd rfl (Or.inl rfl)) (fun _ _ _ _ _ => pts_nil)
      (fun _ _ _ _ _ => pe_ix (r := rIxT K) ix_tup (pv 2) pe_int (fun _ _ => rfl))) pa_nil))), ?_⟩
    exact ⟨_, rfl, _, rfl, v, u, ks, d, rfl, go⟩
end
end K3
namespace GG
open PySem PySem.Spec PyProof.Rows L2 LamX
/-! ### a lambda handed on to a def that keeps what it raises: the wish of the exception knows the def's slots -/
/-- the def that got the lambda, entered at s -/
abbrev inG (X : Cx) (M : List Str) (x : Str) (sc : Scope) (g : Addr) (cd : Value) (s : Shared) (H : Hp) : Cx := cxOf C8.CX0 X.prog X.w X.K X.mg X.base M x sc g cd X.A X.stack s H C8.E0
section
variable {X : Cx} {pins : List (Addr × Obj)} {σ : L2.St} {H : Hp} {s : Shared} {M : List Str} {x a : Str} {sc lsc : Scope} {g f k : Addr} {cd pm ct : Value} {prm : Arguments} {e : Expr} {n : Nat}
theorem pe_actS {pn : List (Addr × Obj)} {xe : Value → Shared → Prop} {W : WX} {tl : XK → TE} {p1 p2 : Pos} (I : Inv X pins σ H s) (L : LamS X.env.scope lsc)
    (there : s.heap.get? f = some (PySem.W.kla_obj "<lambda>" (X.env.qual ++ "<lambda>") prm e lsc (cloFrom X.env.cells lsc.names []) pm k ct)) (noH : H f = none) (noF : f ∉ frs X.stack)
    (noArgs : bindArgs (PySem.W.kla_fn "<lambda>" (X.env.qual ++ "<lambda>") prm e lsc (cloFrom X.env.cells lsc.names []) pm (.ref k) ct) ⟨[], []⟩ = pure []) (tk : Takes ((inG X M x sc g cd s H).tr pn xe) W) (room : Room (n + 1) (X.A.deeper (envOfC x sc s.heap.objs.size g cd)))
    (inner : ∀ (E : XK) (A : Around) (outer : List Env) (s : Shared) (H : Hp), Room n (A.deeper (lamEnv X lsc s.heap.objs.size f k)) → PE (lamCx X A outer s H E lsc f k) e (tl E)) (m0 : M[0]? = some a) (vis : Vis sc a)
    (d1 : (a == ("__debug__" : Str)) = false := by decide) (d2 : (a == ("__classdict__" : Str)) = false := by decide) :
    PE ((inG X M x sc g cd s H).tr pn xe) (.Call (.Name a p1) [] [] p2) (fun τ J Q => τ[0]? = some (some (.ref f)) ∧ J k = some (CodeO k (X.env.qual ++ "<lambda>")) ∧ tl (WE W τ) σ J Q) := by
  constructor
  rintro pins2 s2 τ J Q I2 ⟨atf, atk, rd⟩
  have nm : PE ((inG X M x sc g cd s H).tr pn xe) (.Name a p1) (tVar 0) := pe_var m0 vis d1 d2
  refine wpAny_Call_Name_kw (thn (nm.run pins2 s2 τ J (fun v J1 => v = .ref f ∧ J1 = J) I2 ⟨_, atf, rfl, rfl⟩) ?_)
  rintro u s3 ⟨v, J1, I3, rv, ev, eJ⟩
  subst ev eJ
  cases (show u = Value.ref f from rv)
  have there3 := I3.base.keep f _ there noH noF (List.not_mem_nil)
  refine PySem.W.callWith_F0 ⟨_, _, _, _, there3⟩ ?_
  obtain ⟨⟨oc, vs, t, k1, k2, k3⟩, _, _⟩ := I3.hok k _ atk
  have un : Un (frs X.stack) [] H J1 s.heap s3.heap := I3.base
  have ran : codeAny (model X.prog X.w) (X.A.deeper (envOfC x sc s.heap.objs.size g cd)) (.call (.ref f) ⟨[], []⟩) (CR (L2.CX X.prog X.w) (envOfC x sc s.heap.objs.size g cd :: X.stack) X.prog X.w J1 s3 Q (WE W τ)) s3 := by
    refine PySem.W.kla_callFunE room.depth there3 rfl L.co L.gen rfl ⟨k, oc, vs, t, rfl, k1, k2, k3⟩ ?_
    rw [noArgs]
    refine wpAny_pure (wpAny_newFunctionEnv (fun y hy => (L.own y hy).2) (fun y hy => absurd hy List.not_mem_nil) (fun h4 ns sb => ⟨I3.nolimit.fresh _ sb, ?_⟩) L.kind)
    have old : ∀ b o, s3.heap.get? b = some o → h4.get? b = some o := fun b o q => sb.extBut b o (Nat.ne_of_lt (Heap.lt_size q)) (Heap.get?_push_of_some _ q)
    have I4 : Inv (lamCx X (X.A.deeper (envOfC x sc s.heap.objs.size g cd)) (envOfC x sc s.heap.objs.size g cd :: X.stack) s3 J1 (WE W τ) lsc f k) [] σ J1 { s3 with heap := h4, toks := s3.toks + ([] : List (Str × Value)).length } :=
      lam_start2 I L I3.env0 room.hd un ns old
    refine PySem.W.kla_codeExpr (wpAny_mono ((inner (WE W τ) _ _ s3 J1 (room.deeper _)).run [] _ _ J1 Q I4 rd) ?_ fun _ _ z => z)
    rintro v s5 ⟨y, J5, I5, ry, q⟩
    exact ⟨y, J5, I5.os, I5.bare, I5.base, I5.hok, ry, q⟩
  refine wpAny_call (codeAny_mono ran ?_)
  intro r s5 z
  match r, z with
  | .error er, z => exact passAt tk τ pins2 J1 s3 er s5 I3 z
  | .ok (.ret u), z => exact I3.after z
  | .ok .next, z => exact z.elim
  | .ok .brk, z => exact z.elim
  | .ok .cont, z => exact z.elim
end
/-- what a def makes of the lambda that it got -/
def GivesS (X : Cx) (M : List Str) (x : Str) (sc : Scope) (g : Addr) (cd : Value) (body : List Stmt) (a q : Str) (TT : (XK → Hp → VK → Prop) → Hp → VK → Prop) : Prop :=
  ∀ (f k : Addr) (s : Shared) (H : Hp) (Q : VK) (tl : XK → Hp → VK → Prop), (∀ (W : WX) (pn : List (Addr × Obj)) (xe : Value → Shared → Prop) (p1 p2 : Pos), Takes ((inG X M x sc g cd s H).tr pn xe) W →
      PE ((inG X M x sc g cd s H).tr pn xe) (.Call (.Name a p1) [] [] p2) (fun τ J Q => τ[0]? = some (some (.ref f)) ∧ J k = some (CodeO k q) ∧ tl (WE W τ) J Q)) → H k = some (CodeO k q) → TT tl H Q →
    ∃ t, PSs (inG X M x sc g cd s H).nox body t ∧ t { nx := fun _ J => Q .non J, rt := Q } (L2.start M [.ref f]) H
section
variable {X : Cx} {T : List (Addr × Str)} {TT : (XK → Hp → VK → Prop) → Hp → VK → Prop} {x a : Str} {g c P : Addr} {n : Nat} {ga : Arguments} {body : List Stmt} {sc lsc : Scope} {dV kV dc pm cd ct oc : Value} {an od : Option Addr} {sl : Array (Option Value)} {M : List Str} {prm : Arguments} {e : Expr} {tl : XK → TE} {p lp pos : Pos}
/-- x(lambda: e) -/
theorem pe_lamS (hg : Gl X x) (hm : X.mg x = some (.ref g)) (hk : PySem.W.keepIn X.K (.ref g) = true) (lk : X.K.lookup g = some ⟨oc, od, .func (PySem.W.fnOf x x ga body sc dV kV dc pm an cd ct), sl⟩) (hcd : PySem.W.codeIn X.K cd x = true)
    (hb : L2.Binds X.K (PySem.W.fnOf x x ga body sc dV kV dc pm an cd ct) [a] []) (S : FnScope M [a] sc) (m0 : M[0]? = some a) (vis : Vis sc a) (G : GivesS X M x sc g cd body a (X.env.qual ++ "<lambda>") TT) (TB : TabB X.base X.mg c P) (hc : X.env.code = .ref c)
    (inT : (P, X.env.qual ++ "<lambda>") ∈ T) (one : ∀ p ∈ T, p.1 = P → p.2 = X.env.qual ++ "<lambda>") (hr : Room (n + 2) X.A) (L : LamS X.env.scope lsc) (noD : defaultsOf prm X.env = ([], []))
    (noArgs : ∀ (q : Str) (cl : List (Str × Addr)) (pm cv ctv : Value), bindArgs (PySem.W.kla_fn "<lambda>" q prm e lsc cl pm cv ctv) ⟨[], []⟩ = pure [])
    (inner : ∀ (E : XK) (A : Around) (outer : List Env) (s : Shared) (H : Hp) (f k : Addr), Room n (A.deeper (lamEnv X lsc s.heap.objs.size f k)) → PE (lamCx X A outer s H E lsc f k) e (tl E))
    (d0 : (x == ("__debug__" : Str)) = false := by decide) (d1 : (a == ("__debug__" : Str)) = false := by decide) (d2 : (a == ("__classdict__" : Str)) = false := by decide) :
    PE X (.Call (.Name x p) [.Lambda prm e lsc lp] [] pos) (tLam T TT tl) := by
  constructor
  rintro pins s σ H Q I ⟨tabs, h⟩
  refine wpAny_Call_Name_kw (ld_glob I hg hm (PySem.W.callWith_K (h₀ := X.base) I.ok.mod.kin hk ?_ (by rfl) (by rfl)) d0)
  show wpAny _ _ (spliced ((false, eval (.Lambda prm e lsc lp) X.env) :: backTo pos (starEach [] X.env))) _ _ s
  refine Calls.spliced_cons (lam_make2 I TB hc inT one tabs noD (L.has I.ok) ?_)
  intro f k pm2 ct2 H1 s1 I1 ext tabs1 there noH noF atk
  refine Calls.spliced_nil (show _ ∧ _ from ⟨I1.kIn, ?_⟩)
  have ran : codeAny (model X.prog X.w) X.A (.call (.ref g) ⟨[.ref f], []⟩) (CR C8.CX0 X.stack X.prog X.w H1 s1 Q C8.E0) s1 := by
    refine run_ofS (N := M) (ps := [a]) (us := [.ref f]) (vs := [.ref f]) lk hcd S hr I1.env0 (hb s1 [.ref f] I1.kIn rfl) (.cons rfl .nil) rfl ?_
    intro hr2
    obtain ⟨t, q1, q2⟩ := G f k s1 H1 Q (fun E J Q' => tl E σ J Q') (fun W pn xe p1 p2 tk => pe_actS I1 L there noH noF (noArgs _ _ _ _ _) tk hr2 (fun E A outer s H r => inner E A outer s H f k r) m0 vis d1 d2) atk (h H1 ext tabs1)
    exact ⟨t, q1.nox, q2⟩
  refine wpAny_call (codeAny_mono ran ?_)
  intro r s2 z
  match r, z with
  | .error er, z => exact (show False from z).elim
  | .ok (.ret u), z => exact I1.after z
  | .ok .next, z => exact z.elim
  | .ok .brk, z => exact z.elim
  | .ok .cont, z => exact z.elim
end
end GG
namespace K3
open PySem PySem.Spec PyProof.Rows L2 GG
/-! ### _law_refused -/
theorem iteNo3 {c A B : Prop} [Decidable c] (hc : ¬ c) (h : B) : if decide c = true then A else B := by
  rw [decide_eq_false hc]
  exact iteF h
abbrev sRefused : Stmt := top 23
abbrev nRf : List Str := ["_law_naming", "_law_caught", "e"]
theorem scRf : FnScope nRf ["_law_naming"] (defScope sRefused) := ⟨rfl, rfl, rfl, by decide +kernel, rfl, by decide +kernel, by decide +kernel⟩
/-- the classes that _law_refused asks for -/
structure RefT (K : PySem.W.Frag) (mg : Str → Option Value) (D A1 A2 : Addr) : Prop where
  gD : mg "NoKind" = some (.ref D)
  g1 : mg "BadPlan" = some (.ref A1)
  g2 : mg "NoName" = some (.ref A2)
  gK : mg "KeyError" = none
  any : PySem.W.kitAny K (.ref D) [.ref A1, .ref A2] = some false
  one : PySem.W.kitOne K (.ref D) (.type "KeyError") = some true
  exm : PySem.W.exmOne K (.ref D) (.ref D) = some true
  ek : ExkC K D
  no : PySem.W.findIn K (.ref D) "kind" = some none
/-- the lambda is called, and refuses: the one item of the list that comes back is what the refusal tells -/
def TTref (D : Addr) : (XK → Hp → VK → Prop) → Hp → VK → Prop := fun tl H Q =>
  ∀ (E : XK) (Q' : VK), (∀ (dd : Addr) (v : V) (H1 : Hp), H1 dd = some (.xd [("kind", v)]) → (∀ (l : Addr) (H2 : Hp), Same H1 H2 → H2 l = some (.lst [v]) → Q (.ref l) H2) → E (.ref D) (some dd) H1) → tl E H Q'
theorem refused_gives {X : Cx} {q : Str} {g : Addr} {cd : Value} {D A1 A2 : Addr} (R : RefT X.K X.mg D A1 A2) (gi : X.mg "isinstance" = none) : GivesS X nRf "_law_refused" (defScope sRefused) g cd (defBody sRefused) "_law_naming" q (TTref D) := by
  intro f k s H Q tl act atk h
  refine ⟨_, pss_cons (ps_set (i := 1) scRf.nd rfl (.inl rfl) pe_non)
      (pss_cons (ps_try_keep (i := 2) (tb := fun W Dn σ H => σ[0]? = some (some (.ref f)) ∧ H k = some (LamX.CodeO k q) ∧ tl (WE W σ) H fun _ J => Dn.nx σ J) rfl rfl rfl scRf.nd rfl rfl ⟨rfl, by decide, .inl R.gD⟩ L2.takes0
          (fun W pn xe tk _ => pss_one (ps_expr (act W pn xe _ _ tk)))
          (fun a oe cls d pn hz hf => pss_one (ps_set (i := 1) scRf.nd rfl (.inl rfl) (pv 2))))
      (pss_cons (ps_if (PW.pt (pw_or (pt_cmpR op_isN (pv 1) pe_non (nomark _)) (pw_or (pt_not (pt_val (pe_callB (id := "isinstance") (r := rIsiK1 X.K) call_isiK1 (by rfl) gi (by decide +kernel) (pa_cons (pv 1) (pa_cons (pe_bltn (v := V.ty "KeyError") (by rfl) R.gK (by decide +kernel) rfl) pa_nil)))))
          (pw_or1 (pt_val (pe_callB (id := "isinstance") (r := rIsiKT X.K) call_isiKT (by rfl) gi (by decide +kernel) (pa_cons (pv 1) (pa_cons (pe_tup (pa_cons (pe_glob (v := .ref A1) rfl R.g1 rfl) (pa_cons (pe_glob (v := .ref A2) rfl R.g2 rfl) pa_nil))) pa_nil)))))))) (pss_one (ps_ret pe_str)) pss_nil)
      (pss_one (ps_ret (pe_lst (pa_cons (pe_exf (pv 1)) pa_nil)))))), ?_⟩
  refine ⟨rfl, atk, h _ _ fun dd v H1 e1 fin => ⟨true, R.exm, fun _ a ha => ?_, fun z => nomatch z⟩⟩
  refine ⟨_, rfl, fun ha2 => ?_⟩
  have s2 := same_new (Same.refl H1) ha2 (o := exk a (.ref D) (some dd))
  have a2 := upd_same (H := H1) (a := a) (o := exk a (.ref D) (some dd))
  generalize upd H1 a (exk a (.ref D) (some dd)) = H2 at s2 a2 ⊢
  refine ⟨_, rfl, rfl, _, rfl, iteNo3 (fun z => nomatch z) ?_⟩
  refine ⟨_, rfl, a, D, dd, _, _, _, true, rfl, .ty _, a2, s2 _ _ e1, R.ek, R.one, true, rfl, iteF ?_⟩
  refine ⟨_, rfl, (by show 2 ≤ sizeLine; decide), fun tp htp => ?_⟩
  have s3 := same_new (Same.refl H2) htp (o := .tup [.ref A1, .ref A2])
  have a3 := upd_same (H := H2) (a := tp) (o := .tup [.ref A1, .ref A2])
  generalize upd H2 tp (.tup [.ref A1, .ref A2]) = H3 at s3 a3 ⊢
  refine ⟨a, D, dd, tp, _, _, _, false, rfl, a3, .cons (.own _) (.cons (.own _) .nil), s3 _ _ a2, s3 _ _ (s2 _ _ e1), R.ek, R.any, false, rfl, iteF ?_⟩
  refine ⟨_, rfl, a, D, dd, _, v, rfl, s3 _ _ a2, s3 _ _ (s2 _ _ e1), R.ek, R.no, rfl, (by show 1 ≤ sizeLine; decide), fun l hl => fin l _ (same_new (s2.trans s3) hl) upd_same⟩
end K3
namespace GG
open PySem PySem.Spec PyProof.Rows L2
/-- an exception whose context is None is an exception -/
theorem weak_cx {P : Program} {w : World} {outer : List Env} {H : Hp} {s : Shared} {E : XK} {u : Value} {s' : Shared} (h : L2N.CX P w outer H s E u s') : L2.CX P w outer H s E u s' := by
  obtain ⟨a, B, J, cls, d, e, ⟨f1, f2, f3, f4⟩, k, ub, na, os, ag, q⟩ := h
  refine ⟨a, B, J, cls, d, e, ⟨f1, f2, f3, ?_⟩, k, ub, na, os, ag, q⟩
  revert f4
  unfold HandSPX.TracedZ
  rintro ⟨oe, vs, T, oT, ts, r1, r2, r⟩
  exact ⟨oe, vs, T, oT, ts, r1, r2.zc, r⟩
theorem weak_passes {X : Cx} {E : XK} (h : Passes (L2.CX X.prog X.w) X E) : Passes (L2N.CX X.prog X.w) X E := fun pins σ H s e s' I c => h pins σ H s e s' I (weak_cx c)
end GG
namespace K3
open PySem PySem.Spec PyProof.Rows L2 GG
/-! ### the lambdas of law_k03 -/
section
variable {P : Program} {w : World} {K : PySem.W.Frag} {mg : Str → Option Value} {base : Heap} {D : Addr}
/-- lambda: g(book, thing), g one of the two that refuse -/
theorem lam_refuses {X : Cx} {g : Str} {f : Addr} {fd : FuncData} {i j : Nat} {lsc : Scope} {p1 p2 p3 pos : Pos} {xb xt : Str} (G : FnOk X.prog X.w X.K X.mg X.base (L2N.CX X.prog X.w) 5 f fd ["plan", "kind"] (spKindX D)) (mf : X.mg g = some (.ref f)) (kf : PySem.W.keepIn X.K (.ref f) = true) (bf : Binds X.K fd ["plan", "kind"] [])
    (gl : lsc.names.lookup g = some .globalImplicit) (ni : X.N[i]? = some xb) (nj : X.N[j]? = some xt) (vi : Vis lsc xb) (vj : Vis lsc xt) (d1 : (xb == ("__debug__" : Str)) = false) (d2 : (xb == ("__classdict__" : Str)) = false) (d3 : (xt == ("__debug__" : Str)) = false) (d4 : (xt == ("__classdict__" : Str)) = false) (d5 : (g == ("__debug__" : Str)) = false)
    {E : XK} {A : Around} {outer : List Env} {s : Shared} {H : Hp} {fl k : Addr} (hr : Room 5 (A.deeper (LamX.lamEnv X lsc s.heap.objs.size fl k))) :
    PE (LamX.lamCx X A outer s H E lsc fl k) (.Call (.Name g p1) [.Name xb p2, .Name xt p3] [] pos) (fun σ J Q => tVar i σ J fun v J1 => tVar j σ J1 fun u J2 => spKindX D [v, u] J2 Q E) := by
  have nb : PE (LamX.lamCx X A outer s H E lsc fl k) (.Name xb p2) (tVar i) := pe_var ni vi d1 d2
  have nt : PE (LamX.lamCx X A outer s H E lsc fl k) (.Name xt p3) (tVar j) := pe_var nj vj d3 d4
  exact pe_call (E := E) (X := LamX.lamCx X A outer s H E lsc fl k) G hr gl mf kf bf .nil (weak_passes (L2.passes_call (L2.takes_of rfl rfl rfl rfl) fun _ _ _ _ z => z)) (pa_cons nb (pa_cons nt pa_nil)) d5
end
end K3
namespace GG
open PySem PySem.Spec PyProof.Rows L2
/-! ### t * 1 -/
theorem mul_one_tup (l : Addr) (items : Array Value) (n : Nat) (dd : Option Addr) (sl : Array (Option Value)) (u : Tok) :
    Meets (Builtin.«tuple.__mul__» ⟨[.ref l, .int 1 u], []⟩) (fun _ R s => s.heap.get? l = some { cls := .type "tuple", dict := dd, data := .seq items n, slots := sl } ∧ R (.ok (.ret (Value.ref l))) s) :=
  .of_wp fun prog w A R s h => by
    obtain ⟨hp, g, d, tk, os⟩ := s
    obtain ⟨hl, h⟩ := h
    have f1 := AutoSeq1.idx_int
    have c0 : (decide ((1 : Int) < -(2 ^ 63)) || decide ((1 : Int) ≥ 2 ^ 63)) = false := by decide
    have c1 : (items.isEmpty || (1 : Int) == 1) = true := by simp
    wp_walk using wpAny_loadPart' hl
    repeat (first
      | (refine wpAny_ite_false (decide_eq_false (by rw [c0]; exact Bool.false_ne_true)) ?_; wp_walk using wpAny_loadPart' hl)
      | (refine wpAny_ite_true (decide_eq_true (by rw [c1])) ?_; wp_walk using wpAny_loadPart' hl))
    exact ⟨_, rfl, h⟩
def rRep1 (K : PySem.W.Frag) : R2 := fun x y H Q => ∃ l xs, x = .ref l ∧ y = .int 1 ∧ SqT K H l xs ∧ Q (.ref l) H
theorem op_rep1 {X : Cx} : OpR X (binaryOp .Mult) (rRep1 X.K) := by
  rintro pins s σ H x y v u Q I rx ry ⟨l, xs, rfl, rfl, hT, q⟩
  cases rx
  obtain ⟨t, rfl⟩ := ry
  obtain ⟨its, r, ⟨⟨cls, dd, data, sl⟩, ho, hc, n, hd⟩, hs⟩ := I.tuple hT
  cases (show cls = .type "tuple" from hc)
  cases (show data = .seq its.toArray n from hd)
  refine wpAny_binaryOp_repeat_ref (T := "tuple") (U := "int") (by decide) ⟨_, ho, rfl⟩ (fun s' => typeIs_int s' 1 t) noFill_tuple_mul PySem.F.fills_int_mul PySem.F.slot_int_rmul repeat_tuple PySem.F.slot_int_index.lookup ?_
  refine call_meets PySem.F.slot_int_rmul (typeIs_int s 1 t) PySem.F.entry_int_rmul (PySem.F.args_int_rmul_2 _ _) (int_rmul_tuple 1 t l its.toArray n dd sl) ⟨ho, rfl, ⟨_, ho, rfl⟩, ?_⟩
  exact call_meets PySem.F.slot_tuple_mul ⟨_, ho, rfl⟩ PySem.F.entry_tuple_mul (PySem.F.args_tuple_mul_2 _ _) (mul_one_tup l its.toArray n dd sl t) ⟨ho, ⟨.ref l, H, I, rfl, q⟩⟩
end GG
namespace GG
open PySem PySem.Spec PyProof.Rows L2 PySem.SeqAt PySem.AutoSeq1 PySem.MeetsSeq PySem.MeetsSeq2 PySem.MeetsSeq3 PySem.SeqRoads2
/-! ### xs != ys, d != e, of what is equal through and through; t * 0; dict(t) of a tuple of pairs -/
section
variable {prog : Program} {w : World}
theorem ne_turns (l b : Addr) (us ws : Array Value) (n n2 : Nat) (dd dd2 : Option Addr) (sl sl2 : Array (Option Value)) (sz : us.size = ws.size) (left : Nat) :
    ∀ i : Nat, us.size - i = left → MeetsIn prog w (Builtin.«list.__eq__.loop» ⟨[.ref l, .ref b, rawInt i, rawInt 3], []⟩)
      (fun A R s => s.heap.get? l = some { cls := .type "list", dict := dd, data := .seq us n, slots := sl } ∧ s.heap.get? b = some { cls := .type "list", dict := dd2, data := .seq ws n2, slots := sl2 } ∧
        (∀ j (h1 : j < us.size) (h2 : j < ws.size), EqP prog w A.in1 s us[j] ws[j] true) ∧ R (.ok (.ret (.bool false))) s) := by
  induction left with
  | zero =>
    intro i hk A R s h
    obtain ⟨h0, gs, dr, tk, os⟩ := s
    obtain ⟨hl, hb, he, h⟩ := h
    wp_walk using wpAny_loadPart' hl, wpAny_loadPart' hb
    have o1 : us[((i : Nat) : Int).toNat]? = none := Array.getElem?_eq_none (by simp; omega)
    have o2 : ws[((i : Nat) : Int).toNat]? = none := Array.getElem?_eq_none (by simp; omega)
    rw [o1, o2]
    wp_walk using wpAny_loadPart' hl, wpAny_loadPart' hb
    have z : (us.size != ws.size) = false := by simp [sz]
    show R (.ok (.ret (.bool (us.size != ws.size)))) _
    rw [z]
    exact h
  | succ left ih =>
    intro i hk A R s h
    obtain ⟨h0, gs, dr, tk, os⟩ := s
    obtain ⟨hl, hb, he, h⟩ := h
    wp_walk using wpAny_loadPart' hl, wpAny_loadPart' hb
    have a1 : i < us.size := by omega
    have a2 : i < ws.size := by omega
    have o1 : us[((i : Nat) : Int).toNat]? = some us[i] := by rw [Int.toNat_natCast]; exact Array.getElem?_eq_getElem a1
    have o2 : ws[((i : Nat) : Int).toNat]? = some ws[i] := by rw [Int.toNat_natCast]; exact Array.getElem?_eq_getElem a2
    have up : ((i : Int) + 1) = ((i + 1 : Nat) : Int) := by omega
    rw [o1, o2]
    refine wpAny_bind (he i a1 a2 _ _ ?_)
    wp_walk
    rw [up]
    refine ⟨plainId_quiet plain_eq_loop _, codeAny_builtin entry_eq_loop ?_⟩
    rw [Around.under_plainId plain_eq_loop _]
    exact ih (i + 1) (by omega) A R _ ⟨hl, hb, he, h⟩
theorem ne_lists {A : Around} {s : Shared} {E Q : Value → Shared → Prop} {l b : Addr} {us ws : Array Value} (hl : s.heap.IsList l us) (hb : s.heap.IsList b ws) (sz : us.size = ws.size) (hu : A.units < cLine)
    (he : ∀ j (h1 : j < us.size) (h2 : j < ws.size), EqP prog w A.in1 s us[j] ws[j] true) (q : Q (.bool false) s) : wpAny (model prog w) A (richCompare .NotEq (.ref l) (.ref b)) Q E s := by
  obtain ⟨⟨cls, dd, dat, sl⟩, ol, cl, n, dl⟩ := hl
  obtain ⟨⟨cls2, dd2, dat2, sl2⟩, ob, cb, n2, db⟩ := hb
  simp only at cl dl cb db
  subst cl dl cb db
  have one : MeetsIn prog w (Builtin.«list.__ne__» ⟨[.ref l, .ref b], []⟩) (fun A R s => s.heap.get? l = some { cls := .type "list", dict := dd, data := .seq us n, slots := sl } ∧ s.heap.get? b = some { cls := .type "list", dict := dd2, data := .seq ws n2, slots := sl2 } ∧
      (∀ j (h1 : j < us.size) (h2 : j < ws.size), EqP prog w A.in1 s us[j] ws[j] true) ∧ R (.ok (.ret (.bool false))) s) := by
    intro A R s h
    obtain ⟨h0, gs, dr, tk, os⟩ := s
    obtain ⟨hl, hb, he, h⟩ := h
    have sub := AutoSeq1.sub_list_list
    have same : ¬ (us.size != ws.size) = true := by simp [sz]
    wp_walk using wpAny_loadPart' hl, wpAny_loadPart' hb
    refine ⟨plainId_quiet plain_eq_loop _, codeAny_builtin entry_eq_loop ?_⟩
    rw [Around.under_plainId plain_eq_loop _]
    exact ne_turns l b us ws n n2 dd dd2 sl sl2 sz _ 0 rfl A R _ ⟨hl, hb, he, h⟩
  refine wpAny_richCompare_same_room (op := .NotEq) ⟨_, ol, rfl⟩ ⟨_, ob, rfl⟩ F.slot_list_ne (call_meetsIn F.slot_list_ne ⟨_, ol, rfl⟩ F.entry_list_ne (F.args_list_ne_2 _ _) one ⟨ol, ob, he, ?_⟩) hu
  exact ⟨(fun z => nomatch z), q⟩
end
section
variable {X : Cx}
/-- a != b, two lists of equal items, or two dicts of equal entries -/
def rNeV (K : PySem.W.Frag) : R2 := fun x y H Q => ∃ n, n ≤ 60 ∧ EqR K H (EqV K H n) x y ∧ Q (.bl false) H
theorem dict_ne_of {prog : Program} {w : World} {A : Around} {s : Shared} {E Q : Value → Shared → Prop} {T : Type} [DecidableEq T] {kk : KeyKind prog w T} {a b : Addr} {ka kb : List (T × Value)} (ha : (a == sysModules) = false) (hb : (b == sysModules) = false) (da : s.heap.DictOf kk a ka) (db : s.heap.DictOf kk b kb)
    (hu : A.units < cLine) (l : ka.length = kb.length) (hits : PySem.W.KeqHitsP prog w A.in1 s kb ka true) (q : Q (.bool false) s) : wpAny (model prog w) A (richCompare .NotEq (.ref a) (.ref b)) Q E s := by
  refine wpAny_richCompare_same_room (op := .NotEq) da.typeIs db.typeIs PySem.F.slot_dict_ne (wpAny_call_entry PySem.F.slot_dict_ne da.typeIs PySem.F.entry_dict_ne ?_ (PySem.F.args_dict_ne_2 _ _)) hu
  refine wpAny_bind (m := Builtin.Dict.dictSlotArgs "__ne__" ⟨[.ref a, .ref b], []⟩) ?_
  unfold Builtin.Dict.dictSlotArgs
  refine wpAny_bind (wpAny_notOrdered_dict da.typeIs (wpAny_pure ?_))
  refine wpAny_bind (wpAny_isInstance (T := "dict") db.typeIs PySem.F.sub_dict_dict ?_)
  simp only [Bool.not_true, Bool.false_eq_true, if_false]
  refine wpAny_bind (wpAny_pure (wpAny_bind (wpAny_pure (wpAny_bind (PySem.W.samePairsP ha hb da db (fun _ => hits) (wpAny_pure ⟨_, rfl, (fun z => nomatch z), ?_⟩))))))
  have e : (ka.length == kb.length && true) = true := by simp [l]
  rw [e]
  exact q
theorem op_neV (hu : X.A.units + 66 < cLine) : OpR X (compareOp .NotEq) (rNeV X.K) := by
  intro pins s σ H x y v u Q I rx ry h
  obtain ⟨n, hn, h, q⟩ := h
  have ih := eqV_run I n X.A.in1 (by show X.A.units + 1 + n < cLine; omega)
  rcases h with ⟨a, b, xs, ys, rfl, rfl, ha, hb, hp⟩ | ⟨a, b, ks, ls, rfl, rfl, ha, hb, hl, hp⟩
  · cases (show v = Value.ref a from rx)
    cases (show u = Value.ref b from ry)
    obtain ⟨us, r1, p1, _⟩ := I.list ha
    obtain ⟨ws, r2, p2, _⟩ := I.list hb
    have sz : us.toArray.size = ws.toArray.size := by
      rw [List.size_toArray, List.size_toArray, ← r1.length, ← r2.length]
      exact Paired.length hp
    refine ne_lists p1.isList p2.isList sz (by omega) (fun j h1 h2 => ?_) ⟨.bl false, H, I, rfl, q⟩
    have k := items_run ih hp r1 r2 j (by simpa using h1) (by simpa using h2)
    simpa using k
  · cases (show v = Value.ref a from rx)
    cases (show u = Value.ref b from ry)
    obtain ⟨_, ya, va, ra, da⟩ := (show ObjOk X.prog X.w H s.heap a (.dK ks) from I.hok a _ ha)
    obtain ⟨_, yb, vb, rb, db⟩ := (show ObjOk X.prog X.w H s.heap b (.dK ls) from I.hok b _ hb)
    exact dict_ne_of ya yb da db (by omega) (by rw [← ra.length, ← rb.length]; exact hl) (hits_run ih rb ra hp) ⟨.bl false, H, I, rfl, q⟩
end
/-! ### t * 0 -/
theorem mul_zero_tup (l : Addr) (items : Array Value) (n : Nat) (dd : Option Addr) (sl : Array (Option Value)) (u : Tok) (ne : items.size ≠ 0) :
    Meets (Builtin.«tuple.__mul__» ⟨[.ref l, .int 0 u], []⟩) (fun _ R s => s.heap.get? l = some { cls := .type "tuple", dict := dd, data := .seq items n, slots := sl } ∧
      R (.ok (.ret (Value.ref s.heap.objs.size))) { s with heap := s.heap.push { cls := Value.type "tuple", data := Data.seq #[] }, toks := s.toks }) :=
  .of_wp fun prog w A R s h => by
    obtain ⟨hp, g, d, tk, os⟩ := s
    obtain ⟨hl, h⟩ := h
    have f1 := AutoSeq1.idx_int
    have c0 : (decide ((0 : Int) < -(2 ^ 63)) || decide ((0 : Int) ≥ 2 ^ 63)) = false := by decide
    have c1 : (items.isEmpty || (0 : Int) == 1) = false := by simp [Array.isEmpty_iff]; intro z; exact ne (by rw [z]; rfl)
    have c2 : (decide ((0 : Int) ≤ 0) || items.isEmpty) = true := by simp
    wp_walk using wpAny_loadPart' hl
    repeat (first
      | (refine wpAny_ite_false (decide_eq_false (by rw [c0]; exact Bool.false_ne_true)) ?_; wp_walk using wpAny_loadPart' hl)
      | (refine wpAny_ite_false (decide_eq_false (by rw [c1]; exact Bool.false_ne_true)) ?_; wp_walk using wpAny_loadPart' hl)
      | (refine wpAny_ite_true (decide_eq_true (by rw [c2])) ?_; wp_walk using wpAny_loadPart' hl))
    exact ⟨_, rfl, h⟩
def rRep0 (K : PySem.W.Frag) : R2 := fun x y H Q => ∃ l xs, x = .ref l ∧ y = .int 0 ∧ SqT K H l xs ∧ xs ≠ [] ∧ ∀ p, H p = none → Q (.ref p) (upd H p (.tup []))
theorem op_rep0 {X : Cx} : OpR X (binaryOp .Mult) (rRep0 X.K) := by
  rintro pins s σ H x y v u Q I rx ry ⟨l, xs, rfl, rfl, hT, hne, q⟩
  cases rx
  obtain ⟨t, rfl⟩ := ry
  obtain ⟨its, r, ⟨⟨cls, dd, data, sl⟩, ho, hc, n, hd⟩, hs⟩ := I.tuple hT
  cases (show cls = .type "tuple" from hc)
  cases (show data = .seq its.toArray n from hd)
  have nz : its.toArray.size ≠ 0 := fun z => hne (List.eq_nil_of_length_eq_zero (by rw [r.length]; simpa using z))
  refine wpAny_binaryOp_repeat_ref (T := "tuple") (U := "int") (by decide) ⟨_, ho, rfl⟩ (fun s' => typeIs_int s' 0 t) noFill_tuple_mul PySem.F.fills_int_mul PySem.F.slot_int_rmul repeat_tuple PySem.F.slot_int_index.lookup ?_
  refine call_meets PySem.F.slot_int_rmul (typeIs_int s 0 t) PySem.F.entry_int_rmul (PySem.F.args_int_rmul_2 _ _) (int_rmul_tuple 0 t l its.toArray n dd sl) ⟨ho, rfl, ⟨_, ho, rfl⟩, ?_⟩
  refine call_meets PySem.F.slot_tuple_mul ⟨_, ho, rfl⟩ PySem.F.entry_tuple_mul (PySem.F.args_tuple_mul_2 _ _) (mul_zero_tup l its.toArray n dd sl t nz) ⟨ho, ?_⟩
  exact ⟨.ref s.heap.objs.size, _, I.laid (t' := s.toks) (o := .tup []) (fun b ob q => Heap.get?_push_of_some _ q) (Nat.le_refl _) ⟨Nat.zero_le _, [], .nil, IsTup.new _ _⟩, rfl, q _ (I.hok.fresh (Nat.le_refl _))⟩
/-- t * 1, t * 0 by what stands there -/
def rRep01 (K : PySem.W.Frag) : R2 := fun x y H Q => rRep1 K x y H Q ∨ rRep0 K x y H Q
theorem op_rep01 {X : Cx} : OpR X (binaryOp .Mult) (rRep01 X.K) := by
  intro pins s σ H x y v u Q I rx ry h
  rcases h with h | h
  · exact op_rep1 pins s σ H x y v u Q I rx ry h
  · exact op_rep0 pins s σ H x y v u Q I rx ry h
end GG
namespace GG
open PySem PySem.Spec PyProof.Rows L2
/-! ### a tuple display whose object is known (so that nothing hangs on it); dict(t) of such a tuple of pairs -/
section
variable {X : Cx}
def tTupF (t : TA) : TE := fun σ H Q => t σ H fun xs H1 => xs.length ≤ sizeLine ∧ ∀ (p : Addr) (o : Obj), H1 p = none → o.dict = none → Q (.ref p) (upd H1 p (.frz o (.tup xs)))
theorem pe_tupF {es : List Expr} {x1} {pos : Pos} {t : TA} (ha : PA X es t) : PE X (.Tuple es x1 pos) (tTupF t) := by
  refine ⟨fun pins s0 σ H Q I wish => ?_⟩
  refine wpAny_Tuple_spliced (thn (ha.run pos pins s0 σ H _ I wish) fun us s1 ⟨xs, H1, I1, r, few, q⟩ => ⟨by have := r.length; omega, ?_⟩)
  have here := Heap.get?_push_size s1.heap (o := { cls := .type "tuple", data := .seq us.toArray }) rfl
  refine ⟨.ref s1.heap.objs.size, upd H1 s1.heap.objs.size (.frz { cls := .type "tuple", data := .seq us.toArray } (.tup xs)), I1.laid (t' := s1.toks) (o := .frz { cls := .type "tuple", data := .seq us.toArray } (.tup xs)) (fun _ _ old => Heap.get?_push_of_some _ old) (Nat.le_refl _) ⟨here, few, us, r, _, here, rfl, _, rfl⟩, rfl, q _ _ (I1.hok.fresh (Nat.le_refl _)) rfl⟩
theorem rows_of {pins : List (Addr × Obj)} {σ : L2.St} {H : Hp} {s : Shared} (I : Inv X pins σ H s) : ∀ {ps : List Addr} {kvs : List (Key × V)}, Paired (fun p kv => SqT X.K H p [kV kv.1, kv.2]) ps kvs →
    ∃ (prs : List (Key × Value)) (pvs : List (Value × Value)), KV kvs prs ∧ prs.length = ps.length ∧ pvs.length = ps.length ∧
      ∀ (j : Nat) (q : Value × Value), pvs[j]? = some q → ∃ (b : Addr) (k : Key), ps[j]? = some b ∧ s.heap.IsTuple b #[q.1, q.2] ∧ prs[j]? = some (k, q.2) ∧ keyIs k q.1 = true
  | _, _, .nil => ⟨[], [], .nil, rfl, rfl, fun j q e => by simp at e⟩
  | _, _, .cons (a := p) (b := kv) g t => by
    obtain ⟨prs, pvs, r, l1, l2, all⟩ := rows_of I t
    obtain ⟨two, rv, tp, _⟩ := I.tuple g
    obtain ⟨u, y, rfl, ru, ry⟩ := vals2 rv
    refine ⟨(kv.1, y) :: prs, (u, y) :: pvs, .cons ⟨rfl, ry⟩ r, by simp [l1], by simp [l2], fun j q e => ?_⟩
    match j, e with
    | 0, e =>
      obtain rfl : (u, y) = q := by simpa using e
      exact ⟨p, kv.1, rfl, tp, rfl, kV_is (P := X.prog) (w := X.w) ru⟩
    | j + 1, e =>
      obtain ⟨b, k, e1, e2, e3, e4⟩ := all j q (by simpa using e)
      exact ⟨b, k, by simpa using e1, e2, by simpa using e3, e4⟩
theorem call_dictF (calm : X.calm = true) : CallR X (.type "dict") (fun xs H Q => ∃ (a : Addr) (o : Obj) (ps : List Addr) (kvs : List (Key × V)), xs = [.ref a] ∧ H a = some (.frz o (.tup (ps.map V.ref))) ∧ o.dict = none ∧
    Paired (fun p kv => SqT X.K H p [kV kv.1, kv.2]) ps kvs ∧ ∀ p, H p = none → Q (.ref p) (upd H p (.dK (mergeK [] kvs)))) := by
  rintro pins s σ H xs us Q I r ⟨a, o, ps, kvs, rfl, ho, nod, hp, q⟩
  obtain ⟨u, rfl, rx⟩ := vals1 r
  obtain rfl : u = .ref a := rx
  obtain ⟨at', z, its, rv, o2, h2, hc, n, hd⟩ := (show ObjOk X.prog X.w H s.heap a (.frz o (.tup (ps.map V.ref))) from I.hok a _ ho)
  obtain rfl : o = o2 := Option.some.inj (at'.symm.trans h2)
  obtain rfl := refs_at rv
  rw [List.length_map] at z
  obtain ⟨prs, pvs, kv, l1, l2, all⟩ := rows_of I hp
  have few : (mergeK [] kvs).length ≤ sizeLine := by
    have := length_mergeK kvs []
    have := kv.length
    simp only [List.length_nil] at *
    omega
  have off : (s.heap.objs.size == sysModules) = false := beq_eq_false_iff_ne.mpr (Nat.ne_of_gt I.big)
  have sq : PlainSeq "tuple" s.heap a (ps.map Value.ref).toArray := ⟨o, n, at', hc, nod, hd⟩
  have it : PairItems s.heap (ps.map Value.ref).toArray (fun j => ps.getD j 0) pvs := by
    refine ⟨by simp [l2], fun j k v e => ?_⟩
    obtain ⟨b, _, e1, e2, _, _⟩ := all j (k, v) e
    have eb : ps.getD j 0 = b := by simp [List.getD, e1]
    refine ⟨by simp [e1], ?_⟩
    show PairAt s.heap (ps.getD j 0) k v
    rw [eb]
    exact .inl e2
  refine call_dict_pairs (knd := mixKind X.prog X.w) (kvs := prs) (PairArg.tuple a (ps.map Value.ref).toArray (fun j => ps.getD j 0) pvs) (I.ok.hd calm) ⟨sq, it⟩ ⟨by rw [l1, l2], fun j k v e => ?_⟩ (by rw [l2]; exact z) fun h' tk made old => ?_
  · obtain ⟨_, key, _, _, e3, e4⟩ := all j (k, v) e
    exact ⟨key, e3, e4⟩
  · exact ⟨.ref s.heap.objs.size, _, I.laid (a := s.heap.objs.size) (t' := tk) (fun b ob e => old b ob (fun z => nomatch z) e) (Nat.le_refl _) (dk_new few off (kv.merge .nil) made), rfl, q _ (I.hok.fresh (Nat.le_refl _))⟩
end
end GG
namespace GG
open PySem PySem.Spec PyProof.Rows L2
/-! ### != of two dicts, or of two lists of dicts, whose worths are equal data -/
section
variable {X : Cx} {pins : List (Addr × Obj)} {σ : L2.St} {H : Hp} {s : Shared}
def EqF (K : PySem.W.Frag) (H : Hp) (x y : V) : Prop := ∃ d, Dp K H x d ∧ Dp K H y d ∧ SeqAt.shaped d = true
def EqG (K : PySem.W.Frag) (H : Hp) (x y : V) : Prop := EqR K H (EqF K H) x y
theorem eqF_run (I : L2.Inv X pins σ H s) {A : Around} (hu : A.units + 64 < cLine) (x y : V) (v u : Value) (h : EqF X.K H x y) (rx : RelV x v) (ry : RelV y u) : SeqAt.EqP X.prog X.w A s v u true := by
  obtain ⟨d, h1, h2, sh⟩ := h
  obtain ⟨as, r1⟩ := Dp.reads I d x v h1 rx
  obtain ⟨bs, r2⟩ := Dp.reads I d y u h2 ry
  have cl := SeqAt.canLay_of_shaped sh
  have q := SeqAt.eqAt_reads d d A s v u as bs r1 r2 cl cl (SeqAt.room_of_shaped sh hu)
  rw [SeqAt.eqv_refl d cl] at q
  exact q.eqP
theorem eqG_run (I : L2.Inv X pins σ H s) {A : Around} (hu : A.units + 66 < cLine) (x y : V) (v u : Value) (h : EqG X.K H x y) (rx : RelV x v) (ry : RelV y u) : SeqAt.EqP X.prog X.w A s v u true := by
  have go := eqR_run I (A := A) (by omega) (eqF_run I (A := A.in1) (by show A.units + 1 + 64 < cLine; omega)) h rx ry
  obtain ⟨a, b, rfl, rfl⟩ : ∃ a b, x = .ref a ∧ y = .ref b := by
    rcases h with ⟨a, b, _, _, e1, e2, _⟩ | ⟨a, b, _, _, e1, e2, _⟩ <;> exact ⟨a, b, e1, e2⟩
  cases (show v = Value.ref a from rx)
  cases (show u = Value.ref b from ry)
  by_cases e : a = b
  · subst e
    exact (SeqAt.EqAt.same _).eqP
  · exact SeqAt.eqP_refs e go
theorem ne_run (I : L2.Inv X pins σ H s) {A : Around} {F : V → V → Prop} (hu : A.units + 2 < cLine) (ih : ∀ x y v u, F x y → RelV x v → RelV y u → SeqAt.EqP X.prog X.w A.in1 s v u true) {x y : V} {v u : Value} (h : EqR X.K H F x y) (rx : RelV x v) (ry : RelV y u)
    {E Q : Value → Shared → Prop} (q : Q (.bool false) s) : wpAny (model X.prog X.w) A (richCompare .NotEq v u) Q E s := by
  rcases h with ⟨a, b, xs, ys, rfl, rfl, ha, hb, hp⟩ | ⟨a, b, ks, ls, rfl, rfl, ha, hb, hl, hp⟩
  · obtain rfl : v = Value.ref a := rx
    obtain rfl : u = Value.ref b := ry
    obtain ⟨us, r1, p1, _⟩ := I.list ha
    obtain ⟨ws, r2, p2, _⟩ := I.list hb
    have sz : us.toArray.size = ws.toArray.size := by
      have := Paired.length hp
      have := r1.length
      have := r2.length
      simp only [List.size_toArray]
      omega
    refine ne_lists p1.isList p2.isList sz (by omega) (fun j h1 h2 => ?_) q
    simpa using items_run ih hp r1 r2 j (by simpa using h1) (by simpa using h2)
  · obtain rfl : v = Value.ref a := rx
    obtain rfl : u = Value.ref b := ry
    obtain ⟨_, ya, va, ra, da⟩ := (show ObjOk X.prog X.w H s.heap a (.dK ks) from I.hok a _ ha)
    obtain ⟨_, yb, vb, rb, db⟩ := (show ObjOk X.prog X.w H s.heap b (.dK ls) from I.hok b _ hb)
    exact dict_ne_of ya yb da db (by omega) (by have := ra.length; have := rb.length; omega) (hits_run ih rb ra hp) q
end
section
variable {X : Cx}
def rNeF (K : PySem.W.Frag) : R2 := fun x y H Q => EqR K H (EqF K H) x y ∧ Q (.bl false) H
def rNeG (K : PySem.W.Frag) : R2 := fun x y H Q => EqR K H (EqG K H) x y ∧ Q (.bl false) H
theorem op_neF (hu : X.A.units + 68 < cLine) : OpR X (compareOp .NotEq) (rNeF X.K) := by
  rintro pins s σ H x y v u Q I rx ry ⟨h, q⟩
  exact ne_run I (A := X.A) (by omega) (eqF_run I (A := X.A.in1) (by show X.A.units + 1 + 64 < cLine; omega)) h rx ry ⟨.bl false, H, I, rfl, q⟩
theorem op_neG (hu : X.A.units + 68 < cLine) : OpR X (compareOp .NotEq) (rNeG X.K) := by
  rintro pins s σ H x y v u Q I rx ry ⟨h, q⟩
  exact ne_run I (A := X.A) (by omega) (eqG_run I (A := X.A.in1) (by show X.A.units + 1 + 66 < cLine; omega)) h rx ry ⟨.bl false, H, I, rfl, q⟩
end
end GG
namespace K3
open PySem PySem.Spec PyProof.Rows L2 GG
/-! ### another plan of the same kinds -/
structure KdGood (S : ScD) (i : Nat) (k : Kd3) : Prop where
  nm : k.nm = S.W.at i
  nod : (k.sl.map (·.1)).Nodup
  len : k.sl.length ≤ 4
  pl : ∀ q ∈ k.sl, PlainD q.2
  few : k.me.length ≤ 5
  me : ∃ ws, MeOk k.me ws
def PlGood (S : ScD) (ks : List Kd3) : Prop := ks.length = S.kk ∧ ∀ i k, ks[i]? = some k → KdGood S i k
theorem ScD.Ok.fsNod {S : ScD} (h : S.Ok) (i : Nat) : (S.fs i).Nodup := by
  have m3 := h.m i
  unfold ScD.fs
  refine List.pairwise_map.mpr (List.nodup_range.imp_of_mem fun {x y} hx hy ne e => ne ?_)
  have hx' := List.mem_range.mp hx
  have hy' := List.mem_range.mp hy
  have := h.w.unlike (by omega) (by omega) e
  omega
theorem ScD.Ok.last {S : ScD} (h : S.Ok) : ∃ z, S.vars[4]? = some z ∧ ∀ i, z ∉ S.fs i := by
  have out : ∀ (t i : Nat), 7 ≤ t → t < 26 → S.W.at t ∉ S.fs i := fun t i h1 h2 hm => by
    have m3 := h.m i
    obtain ⟨j, hj, e⟩ := List.mem_map.mp hm
    have hj' := List.mem_range.mp hj
    have := h.w.unlike (by omega) (by omega) e
    omega
  rcases h.vars with e | e
  · exact ⟨S.W.at 7, by rw [e]; rfl, fun i => out 7 i (by omega) (by omega)⟩
  · exact ⟨S.W.at 15, by rw [e]; rfl, fun i => out 15 i (by omega) (by omega)⟩
theorem KdOk.good {S : ScD} (h : S.Ok) {i : Nat} {k : Kd3} (g : KdOk S i k) : KdGood S i k :=
  ⟨g.nm, by rw [g.sl]; exact h.fsNod i, by
    have q := congrArg List.length g.sl
    rw [List.length_map] at q
    have := (h.fok i).1
    omega, g.pl, g.few, g.me⟩
theorem MeOk.drop {me : List PyData} {ws : List Str} (h : MeOk me ws) (n : Nat) : MeOk (me.drop n) (ws.drop n) :=
  ⟨by rw [List.length_drop, List.length_drop, h.1], fun i d e => by
    rw [List.getElem?_drop] at e ⊢
    exact h.2 _ d e⟩
def spOther : Sp := fun vs H Q _ => ∃ (p c sc : Addr) (ns : List Int) (n : Nat) (S : ScD) (N : Addr → Prop) (ts : List Int) (v : V) (ks : List Kd3), vs = [.ref p, .ref sc, v] ∧ Pen H p c ns n ∧ n + 100 ≤ 900000000 ∧ ScP H sc S N ts ∧ ¬ N p ∧ sc ≠ p ∧ PlAt H v ks ∧ PlOk S ks ∧
  ∀ (v' : V) (ks' : List Kd3) (H' : Hp), PlAt H' v' ks' → PlGood S ks' → Pen H' p c ns (n + 100) → But (· = p) H H' → Q v' H'
abbrev sOther : Stmt := top 24
abbrev nOt : List Str := ["_law_pen_here", "_law_scene_here", "_law_book", "_law_found", "_law_breed", "_law_slots", "_law_methods", "_law_more", "_law_field", "_law_worth"]
theorem scOt : FnScope nOt ["_law_pen_here", "_law_scene_here", "_law_book"] (defScope sOther) := ⟨rfl, rfl, rfl, by decide +kernel, rfl, by decide +kernel, by decide +kernel⟩
section
variable {P : Program} {w : World} {K : PySem.W.Frag} {mg : Str → Option Value} {base : Heap}
theorem ok_other {f : Addr} {fd : FuncData} (F : Fun K "_law_other" "_law_other" sOther f fd) (T : Txt mg) (CL : Cal P w K mg base "_law_plain" 3 ["_law_pen_here"] spPlain) : FnOk P w K mg base CX0 4 f fd ["_law_pen_here", "_law_scene_here", "_law_book"] spOther := by
  obtain ⟨fL, fdL, mL, kL, bL, GL⟩ := CL
  refine F.ok scOt (fun vs H Q E h => ?_) (fun cdv A outer s H vs Q E hr h => ?_)
  · obtain ⟨p, c, sc, ns, n, S, N, ts, v, ks, rfl, _⟩ := h
    rfl
  · obtain ⟨p, c, sc, ns, n, S, N, ts, v, ks, rfl, hP, hn, hS, np, sp, ⟨ba, us, rfl, eb0, kal⟩, ⟨lks, kok⟩, go⟩ := h
    have nd := scOt.nd
    have hu := hu_of hr
    refine ⟨_, pss_cons (ps_set (i := 3) nd rfl (.inl rfl) (pe_lst pa_nil))
      (pss_cons (ps_for PassesOwn.never rfl (pi_tup (pv 2)) (pg_tup rfl (pgs_cons (pg_name (i := 4) nd rfl (Or.inl rfl)) (pgs_cons (pg_name (i := 5) nd rfl (Or.inl rfl)) (pgs_cons (pg_name (i := 6) nd rfl (Or.inl rfl)) pgs_nil))))
        (C8.pss_cut (ps_set (i := 7) nd rfl (.inl rfl) (pe_op op_catF (pe_callTy call_tuple_of (by rfl) T.tuple (by decide +kernel) (pa_cons (pe_lc (own := [("_law_field", 8), ("_law_worth", 9)]) (g := gTup K 2 (gCons (gName 8) (gCons (gName 9) gNil))) (tt := tYes) rfl nd (pi_tup (pv 5))
              (blkOk_by (N := nOt) (sc := defScope sOther) (by decide +kernel)) (fun _ _ _ _ _ => by exact pg_tup rfl (pgs_cons (pg_name (i := 8) nd rfl (Or.inl rfl)) (pgs_cons (pg_name (i := 9) nd rfl (Or.inl rfl)) pgs_nil))) (fun _ _ _ _ _ => pts_nil)
              (fun _ _ _ _ _ => pe_tup (pa_cons (pv 8) (pa_cons (pe_call GL hr (by rfl) mL kL bL .nil pass0 (pa_cons (pv 0) pa_nil)) pa_nil)))) pa_nil))
            (pe_tupF (pa_cons (pe_tup (pa_cons (pe_ix ix_list (pe_dget hu (pv 1) pe_str (fun _ _ => rfl)) pe_int (fun _ _ => rfl)) (pa_cons pe_int pa_nil))) pa_nil))))
        (pss_one (ps_expr (pe_bm PySem.F.plainAttrs_list PySem.F.slot_list_append PySem.F.type_list_append mt_append (pv 3) (pa_cons (pe_tup (pa_cons (pv 4) (pa_cons (pv 7) (pa_cons (pe_slice sl_tupA (pv 6) (po_some pe_int) po_none) pa_nil)))) pa_nil))))))
      (pss_one (ps_ret (pe_callTy call_tuple_of (by rfl) T.tuple (by decide +kernel) (pa_cons (pv 3) pa_nil))))), ?_⟩
    have okS := hS.ok
    have kk3 := okS.kk.2
    obtain ⟨vl, vok⟩ := okS.vok
    obtain ⟨z7, ez7, nz7⟩ := okS.last
    have llu := kal.length
    refine ⟨Nat.zero_le _, fun lf hlf => ?_⟩
    have s0 := same_new (Same.refl H) hlf (o := .lst [])
    have e0 : upd H lf (.lst []) lf = some (.lst []) := upd_same
    have nlp := hP.fresh hlf
    have softP : ∀ {H1 : Hp} {m : Nat}, Pen H1 p c ns m → ∀ a, a = p → Soft H1 a := fun h a z => by
      obtain ⟨_, _, _, _, _, z4, _⟩ := h
      exact .inl ⟨_, z ▸ z4⟩
    refine ⟨_, rfl, ba, rfl, ⟨_, SqT.of (s0 _ _ eb0)⟩, for_tup (K := K) (a := ba) (xs := us) (fun i σ' H' => (∃ v4 v5 v6 v7 : Option V, σ' = [some (.ref p), some (.ref sc), some (.ref ba), some (.ref lf), v4, v5, v6, v7, none, none]) ∧ ∃ (vs : List V) (ks' : List Kd3), H' lf = some (.lst vs) ∧ KdAll H' vs ks' ∧ ks'.length = i ∧ (∀ j k, ks'[j]? = some k → KdGood S j k) ∧ Pen H' p c ns (n + i * 30) ∧ But (· = p) H H') ?_ ?_ ?_ ?_⟩
    · exact ⟨⟨_, _, _, _, rfl⟩, [], [], e0, .nil, rfl, fun j k e => by simp at e, (hP.new hlf).mono (by omega), sameBut s0 _⟩
    · rintro i σ' H' _ ⟨_, vs, ks', _, _, _, _, _, b⟩
      exact SqT.of (b _ _ (hP.neT eb0) eb0)
    · rintro i x σ' H1 hx ⟨⟨v4, v5, v6, v7, rfl⟩, vs, ks', hvs, kal', lk, kok', hP1, b1⟩
      obtain ⟨k, hk, kat⟩ := kal.get i x hx
      have ki := kok i k hk
      have hi : i < S.kk := by
        have := (List.getElem?_eq_some_iff.mp hk).1
        omega
      have i2 : i * 30 ≤ 2 * 30 := Nat.mul_le_mul_right _ (by omega)
      have kat1 := kat.mono (hP.tups b1) (Soft.frzs b1 (softP hP))
      obtain ⟨bb, cc, m, o, zs, rfl, eb, ec, nod, zal, em⟩ := kat1
      obtain ⟨mm, rfl⟩ := em.ref_of
      obtain ⟨ms, emm, mal⟩ := em.tupI
      have lz := zal.length
      rw [List.length_map] at lz
      have lsl : k.sl.length ≤ 3 := by
        have q := congrArg List.length ki.sl
        rw [List.length_map] at q
        have := (okS.fok i).1
        omega
      refine ⟨bb, _, rfl, SqT.of eb, rfl, _, _, rfl, _, _, rfl, _, _, rfl, rfl, ?_⟩
      refine ⟨fun σ' H' => ∃ (r : Addr) (o' : Obj) (zs' : List V) (sl' : List (Str × PyData)), σ' = [some (.ref p), some (.ref sc), some (.ref ba), some (.ref lf), some (.str k.nm), some (.ref cc), some (.ref mm), some (.ref r), none, none] ∧ H' r = some (.frz o' (.tup zs')) ∧ o'.dict = none ∧
          DtAll H' zs' (sl'.map fun q => .tuple [.str q.1, q.2]) ∧ sl'.map (·.1) = S.fs i ++ [z7] ∧ (∀ q ∈ sl', PlainD q.2) ∧ Pen H' p c ns (n + i * 30 + 20) ∧ But (· = p) H1 H', ?_, ?_⟩
      · refine ⟨_, rfl, cc, rfl, ⟨_, sqF3 ec⟩, fun D hD => ?_⟩
        have nDp := hP1.fresh hD
        refine lc_tup (K := K) (a := cc) (xs := zs) (fun j H' => ∃ (ys : List V) (sl : List (Str × PyData)), H' D = some (.lst ys) ∧ DtAll H' ys (sl.map fun q => .tuple [.str q.1, q.2]) ∧ sl.map (·.1) = (k.sl.map (·.1)).take j ∧ (∀ q ∈ sl, PlainD q.2) ∧ Pen H' p c ns (n + i * 30 + j * 5) ∧ But (· = p) H1 H') ?_ ?_ ?_ ?_
        · exact ⟨[], [], upd_same, .nil, rfl, fun q hq => absurd hq (by simp), hP1.new hD, (But.refl _ _).new hD⟩
        · rintro j H' _ ⟨ys, sl, _, _, _, _, _, b⟩
          exact sqF3 (Soft.frzs b (softP hP1) _ _ _ ec)
        · rintro j x H2 hj ⟨ys, sl, hDy, yal, esl, pls, hP2, b2⟩
          obtain ⟨d0, hd0, hx0⟩ := zal.get j x hj
          rw [List.getElem?_map] at hd0
          obtain ⟨q, hq, rfl⟩ := Option.map_eq_some_iff.mp hd0
          have jl : j < k.sl.length := (List.getElem?_eq_some_iff.mp hq).1
          have hx2 := hx0.mono (hP1.tups b2)
          obtain ⟨t, rfl⟩ := hx2.ref_of
          obtain ⟨ps, et, pal⟩ := hx2.tupI
          cases pal with
          | cons y1 pal =>
          cases y1
          cases pal with
          | @cons w2 _ _ _ y2 pal =>
          cases pal
          have lsl2 : sl.length = j := by
            have q := congrArg List.length esl
            rw [List.length_map, List.length_take, List.length_map] at q
            omega
          have ly := yal.length
          rw [List.length_map] at ly
          refine ⟨t, _, rfl, SqT.of et, rfl, _, _, rfl, _, _, rfl, rfl, rfl, _, rfl, _, rfl, p, c, ns, _, rfl, hP2, by omega, fun v d H3 hv pd hP3 b3 => ⟨(by show 2 ≤ sizeLine; decide), fun t2 ht2 => ?_⟩⟩
          have s4 := same_new (Same.refl H3) ht2 (o := .tup [.str q.1, v])
          have d4 : Dt (upd H3 t2 (.tup [.str q.1, v])) (.ref t2) (.tuple [.str q.1, d]) := .tup upd_same (.cons (.str _) (.cons (hv.mono (sameTups s4)) .nil))
          have hD4 := s4 _ _ (b3 _ _ nDp.1 hDy)
          have yal4 := (yal.mono (hP2.tups b3)).mono (sameTups s4)
          have hP4 := hP3.new ht2 (o := .tup [.str q.1, v])
          have b4 := (b2.trans b3).new ht2 (o := .tup [.str q.1, v])
          generalize upd H3 t2 (.tup [.str q.1, v]) = H4 at d4 hD4 yal4 hP4 b4 ⊢
          refine ⟨ys, hD4, small1000 (by omega), ys ++ [.ref t2], sl ++ [(q.1, d)], upd_same, ?_, ?_, fun q' hq' => ?_, (hP4.mut nDp.1 nDp.2).mono (by omega), b4.mutNew hD⟩
          · rw [List.map_append]
            exact (yal4.app (.cons d4 .nil)).mono (tup_mut fun xs z => by rw [hD4] at z; cases z)
          · rw [List.map_append, esl, List.take_add_one, List.getElem?_map, hq]
            rfl
          · rcases List.mem_append.mp hq' with z | z
            · exact pls q' z
            · rw [List.mem_singleton.mp z]
              exact pd
        · rintro H2 ⟨ys, sl, hDy, yal, esl, pls, hP2, b2⟩
          rw [show zs.length = (k.sl.map (·.1)).length by rw [List.length_map]; exact lz, List.take_length, ki.sl] at esl
          have ly := yal.length
          rw [List.length_map] at ly
          have lsl2 : sl.length ≤ 3 := by
            have q := congrArg List.length esl
            rw [List.length_map] at q
            have := (okS.fok i).1
            omega
          refine ⟨D, ys, rfl, .inl ⟨SqL.of hDy, fun t1 ht1 => ?_⟩⟩
          have s3 := same_new (Same.refl H2) ht1 (o := .tup ys)
          have e3 : upd H2 t1 (.tup ys) t1 = some (.tup ys) := upd_same
          generalize upd H2 t1 (.tup ys) = H3 at s3 e3 ⊢
          have hS3 := (hS.pen (b1.trans b2) np sp).same s3
          obtain ⟨kvs, fvs, kd, fd, wd, ct, vd, ta, fl, g1, gk, gf, gw, gc, gt, gv, h1, h2, h3, h4, h5, h6, h7, m1, m2, m3, m4, m5, m6⟩ := hS3.get
          refine ⟨_, rfl, sc, _, rfl, dgS g1 gv, vd, _, _, _, rfl, rfl, SqL.of h6, (by exact atI_int (by decide) (by show (S.vars.map V.str)[4]? = some (V.str z7); rw [List.getElem?_map, ez7]; rfl)), (by show 2 ≤ sizeLine; decide), fun t2 ht2 => ?_⟩
          have s4 := s3.trans (same_new (Same.refl H3) ht2 (o := .tup [.str z7, .int 7]))
          have e34 := (same_new (Same.refl H3) ht2 (o := .tup [.str z7, .int 7])) _ _ e3
          have e4 : upd H3 t2 (.tup [.str z7, .int 7]) t2 = some (.tup [.str z7, .int 7]) := upd_same
          generalize upd H3 t2 (.tup [.str z7, .int 7]) = H4 at s4 e34 e4 ⊢
          refine ⟨(by show 1 ≤ sizeLine; decide), fun t3 o3 ht3 nod3 => ?_⟩
          have s5' := same_new (Same.refl H4) ht3 (o := .frz o3 (.tup [.ref t2]))
          have s5 := s4.trans s5'
          have e5 : upd H4 t3 (.frz o3 (.tup [.ref t2])) t3 = some (.frz o3 (.tup [.ref t2])) := upd_same
          have d5 : Dt (upd H4 t3 (.frz o3 (.tup [.ref t2]))) (.ref t2) (.tuple [.str z7, .int 7]) := .tup (s5' _ _ e4) (.cons (.str _) (.cons (.int _) .nil))
          have e35 := s5' _ _ e34
          generalize upd H4 t3 (.frz o3 (.tup [.ref t2])) = H5 at s5 s5' e5 d5 e35 ⊢
          have plA : ∀ q ∈ sl ++ [(z7, PyData.int 7)], PlainD q.2 := fun q hq => by
            rcases List.mem_append.mp hq with z | z
            · exact pls q z
            · rw [List.mem_singleton.mp z]
              exact .inr (.inl ⟨7, by decide, by decide, rfl⟩)
          have eA : (sl ++ [(z7, PyData.int 7)]).map (·.1) = S.fs i ++ [z7] := by
            rw [List.map_append, esl]
            rfl
          have yal5 : DtAll H5 (ys ++ [.ref t2]) ((sl ++ [(z7, PyData.int 7)]).map fun q => .tuple [.str q.1, q.2]) := by
            rw [List.map_append]
            exact (yal.mono (sameTups s5)).app (.cons d5 .nil)
          have hP5 := hP2.but (sameBut s5 fun _ => False) id id
          have b5 := b2.trans (sameBut s5 _)
          have zi : zs.length ≤ 3 := by omega
          have zj : zs.length * 5 ≤ 3 * 5 := Nat.mul_le_mul_right _ zi
          refine ⟨t1, t3, o3, ys, _, rfl, rfl, SqT.of e35, e5, Nat.le_of_lt (small1000 (by show ys.length + 1 ≤ 1000; omega)), (fun z => nomatch z), fun z => ?_, fun _ r o' hr' nod' => ?_⟩
          · rw [z] at yal5
            exact ⟨t3, o3, [.ref t2], _, rfl, e5, nod3, yal5, eA, plA, hP5.mono (by omega), b5⟩
          · have s6 := same_new (Same.refl H5) hr' (o := .frz o' (.tup (ys ++ [.ref t2])))
            exact ⟨r, o', _, _, rfl, upd_same, nod', yal5.mono (sameTups s6), eA, plA, (hP5.new hr').mono (by omega), b5.new hr'⟩
      · rintro _ H2 ⟨r, o', zs', sl', rfl, er, nod', zal', esl', pls', hP2, b2⟩
        have hvs2 := b2 _ _ nlp.1 hvs
        have kal2 := kal'.mono (hP1.tups b2) (Soft.frzs b2 (softP hP1))
        have emm2 := b2 _ _ (hP1.neT emm) emm
        have mal2 := mal.mono (hP1.tups b2)
        have lvs := kal'.length
        have lms := mal.length
        have fin : ∀ (mv : V) (H3 : Hp) (t2 : Addr), Same H2 H3 → Dt H3 mv (.tuple (k.me.drop 1)) → H3 t2 = none → upd H3 t2 (.tup [.str k.nm, .ref r, mv]) lf = some (.lst vs) ∧
            (fun (σ' : L2.St) (H' : Hp) => (∃ v4 v5 v6 v7 : Option V, σ' = [some (.ref p), some (.ref sc), some (.ref ba), some (.ref lf), v4, v5, v6, v7, none, none]) ∧ ∃ (vs : List V) (ks' : List Kd3), H' lf = some (.lst vs) ∧ KdAll H' vs ks' ∧ ks'.length = i + 1 ∧ (∀ j k, ks'[j]? = some k → KdGood S j k) ∧ Pen H' p c ns (n + (i + 1) * 30) ∧ But (· = p) H H')
              [some (.ref p), some (.ref sc), some (.ref ba), some (.ref lf), some (.str k.nm), some (.ref cc), some (.ref mm), some (.ref r), none, none] (upd (upd H3 t2 (.tup [.str k.nm, .ref r, mv])) lf (.lst (vs ++ [.ref t2]))) := by
          intro mv H3 t2 s3 dm ht2
          have s4' := same_new (Same.refl H3) ht2 (o := .tup [.str k.nm, .ref r, mv])
          have s4 := s3.trans s4'
          have e4 : upd H3 t2 (.tup [.str k.nm, .ref r, mv]) t2 = some (.tup [.str k.nm, .ref r, mv]) := upd_same
          generalize upd H3 t2 (.tup [.str k.nm, .ref r, mv]) = H4 at s4 s4' e4 ⊢
          obtain ⟨ws, mok⟩ := ki.me
          have ka : KdAt H4 (.ref t2) ⟨k.nm, sl', k.me.drop 1⟩ := ⟨t2, r, mv, o', zs', rfl, e4, s4 _ _ er, nod', zal'.mono (sameTups s4), dm.mono (sameTups s4')⟩
          have kal4 := (kal2.mono (sameTups s4) fun a o u e => s4 _ _ e).snoc ka
          have bl : But (· = lf) H4 (upd H4 lf (.lst (vs ++ [.ref t2]))) := (But.refl _ _).mut rfl
          have hvs4 := s4 _ _ hvs2
          have softl : ∀ a, a = lf → Soft H4 a := fun a z => .inr ⟨_, z ▸ hvs4⟩
          refine ⟨hvs4, ⟨_, _, _, _, rfl⟩, vs ++ [.ref t2], ks' ++ [⟨k.nm, sl', k.me.drop 1⟩], upd_same, kal4.mono (Soft.tups bl softl) (Soft.frzs bl softl), by simp [lk], fun j k' e => ?_, ?_, ?_⟩
          · by_cases hj : j < ks'.length
            · rw [List.getElem?_append_left hj] at e
              exact kok' j k' e
            · rw [List.getElem?_append_right (by omega)] at e
              have j0 : j - ks'.length = 0 := by
                have := (List.getElem?_eq_some_iff.mp e).1
                simp at this
                omega
              rw [j0] at e
              obtain rfl : (⟨k.nm, sl', k.me.drop 1⟩ : Kd3) = k' := by simpa using e
              obtain rfl : j = i := by omega
              refine ⟨ki.nm, ?_, ?_, pls', ?_, ws.drop 1, mok.drop 1⟩
              · show (sl'.map (·.1)).Nodup
                rw [esl']
                refine List.nodup_append.mpr ⟨okS.fsNod j, by simp, fun a ha b hb q => ?_⟩
                rw [List.mem_singleton.mp hb] at q
                exact nz7 j (q ▸ ha)
              · have q := congrArg List.length esl'
                rw [List.length_map, List.length_append] at q
                have := (okS.fok j).1
                show sl'.length ≤ 4
                simp at q
                omega
              · show (k.me.drop 1).length ≤ 5
                rw [List.length_drop]
                have := ki.few
                omega
          · exact ((hP2.but (sameBut s4 fun _ => False) id id).mut nlp.1 nlp.2).mono (by omega)
          · exact ((b1.trans b2).trans (sameBut s4 _)).mutNew hlf
        refine ⟨_, rfl, .inl ⟨rfl, _, SqL.of hvs2⟩, _, rfl, _, rfl, _, rfl, _, rfl, mm, ms, rfl, SqT.of emm2, fun hw => ?_, fun hw t ht => ?_⟩
        · have m0 : ms.length = 0 := by
            have q : min 1 ms.length = 0 := by
              rw [← HT.sIx_nat ms.length 0 1]
              exact hw.1
            omega
          have k0 : k.me = [] := List.length_eq_zero_iff.mp (by omega)
          refine ⟨(by show 3 ≤ sizeLine; decide), fun t2 ht2 => ?_⟩
          obtain ⟨f1, f2⟩ := fin (.ref mm) H2 t2 (Same.refl _) (.tup emm2 (by rw [k0] at mal2 ⊢; exact mal2)) ht2
          exact ⟨lf, _, _, rfl, rfl, f1, small1000 (by omega), f2⟩
        · have s3 := same_new (Same.refl H2) ht (o := .tup (cutV ms (some 1) none))
          have e3 : upd H2 t (.tup (cutV ms (some 1) none)) t = some (.tup (cutV ms (some 1) none)) := upd_same
          have d3 : Dt (upd H2 t (.tup (cutV ms (some 1) none))) (.ref t) (.tuple (k.me.drop 1)) := .tup e3 (by
            rw [show cutV ms (some 1) none = ms.drop 1 from cutV_drop (k := 1)]
            exact (mal2.drop 1).mono (by rw [show cutV ms (some 1) none = ms.drop 1 from cutV_drop (k := 1)] at s3; exact sameTups s3))
          generalize upd H2 t (.tup (cutV ms (some 1) none)) = H3 at s3 d3 ⊢
          refine ⟨(by show 3 ≤ sizeLine; decide), fun t2 ht2 => ?_⟩
          obtain ⟨f1, f2⟩ := fin (.ref t) H3 t2 s3 d3 ht2
          exact ⟨lf, _, _, rfl, rfl, f1, small1000 (by omega), f2⟩
    · rintro σ1 H1 ⟨⟨v4, v5, v6, v7, rfl⟩, vs, ks', hvs, kal', lk, kok', hP1, b1⟩
      have i3 : us.length * 30 ≤ 3 * 30 := Nat.mul_le_mul_right _ (by omega)
      refine ⟨_, rfl, lf, _, rfl, .inl ⟨SqL.of hvs, fun t ht => ?_⟩⟩
      have s2 := same_new (Same.refl H1) ht (o := .tup vs)
      exact go _ ks' _ ⟨t, vs, rfl, upd_same, kal'.mono (sameTups s2) fun a o u e => s2 _ _ e⟩ ⟨by omega, kok'⟩ ((hP1.new ht).mono (by omega)) (b1.trans (sameBut s2 _))
end
end K3
namespace K3
open PySem L2 GG
/-! ### how long what is shown may be -/
structure Sh (n k : Nat) (d : PyData) : Prop where
  show' : d.showable = true
  plain : d.hasDict = false
  deep : d.depth ≤ k
  long : d.shown.length ≤ n
theorem Sh.mono {n m k l : Nat} {d : PyData} (h : Sh n k d) (a : n ≤ m) (b : k ≤ l) : Sh m l d := ⟨h.show', h.plain, Nat.le_trans h.deep b, Nat.le_trans h.long a⟩
theorem sh_all {n k : Nat} : ∀ {ds : List PyData}, (∀ d ∈ ds, Sh n k d) → PyData.showableAll ds = true ∧ PyData.hasDictAll ds = false ∧ PyData.depthAll ds ≤ k ∧ piled (PyData.shownAll ds) ≤ ds.length * (n + 2) ∧ (PyData.shownAll ds).length = ds.length
  | [], _ => ⟨rfl, rfl, Nat.zero_le _, Nat.zero_le _, rfl⟩
  | d :: ds, h => by
    obtain ⟨a, b, c, e, f⟩ := sh_all (ds := ds) fun x hx => h x (List.mem_cons_of_mem _ hx)
    have q := h d (List.mem_cons_self ..)
    refine ⟨?_, ?_, ?_, ?_, ?_⟩
    · simp only [PyData.showableAll, q.show', a, Bool.and_self]
    · simp only [PyData.hasDictAll, q.plain, b, Bool.or_self]
    · simp only [PyData.depthAll]
      have := q.deep
      omega
    · simp only [PyData.shownAll, piled_cons, List.length_cons, Nat.add_mul, Nat.one_mul]
      have := q.long
      omega
    · simp only [PyData.shownAll, List.length_cons, f]
theorem textFrom_le (ts : List Str) : (listText ts).length ≤ piled ts + 2 := by
  unfold listText
  rw [strLen_append]
  have e1 : (("]" : String) : Str).length = 1 := rfl
  rw [e1]
  cases ts with
  | nil => exact Nat.le_refl 2
  | cons t r =>
    show (textFrom 1 _ r).length + 1 ≤ _
    rw [textFrom_length_pos _ _ _ (by decide), strLen_append, strLen_append, piled_cons]
    have e2 : (("[" : String) : Str).length = 1 := rfl
    have e3 : ((if 0 > 0 then ", " else "" : String) : Str).length = 0 := rfl
    rw [e2, e3]
    omega
theorem tupleText_le (ts : List Str) : (tupleText ts).length ≤ piled ts + 3 := by
  unfold tupleText
  rw [strLen_append, strLen_append]
  have e1 : (("(" : String) : Str).length = 1 := rfl
  have e2 : (Str.ofString (if (ts.length == 1) = true then ",)" else ")")).length ≤ 2 := by
    cases ts.length == 1
    · exact Nat.le_succ 1
    · exact Nat.le_refl 2
  cases ts with
  | nil =>
    have e3 : (Str.join ", " []).length = 0 := rfl
    rw [e1, e3]
    omega
  | cons t r =>
    have e3 := join_length_add (t :: r) (by simp)
    rw [e1]
    omega
theorem Sh.tup {n k : Nat} {ds : List PyData} (h : ∀ d ∈ ds, Sh n k d) : Sh (ds.length * (n + 2) + 3) (k + 1) (.tuple ds) := by
  obtain ⟨a, b, c, e, f⟩ := sh_all h
  refine ⟨?_, ?_, ?_, ?_⟩
  · simp only [PyData.showable, a]
  · simp only [PyData.hasDict, b]
  · simp only [PyData.depth]
    omega
  · show (tupleText (PyData.shownAll ds)).length ≤ _
    exact Nat.le_trans (tupleText_le _) (by omega)
theorem Sh.lst {n k : Nat} {ds : List PyData} (h : ∀ d ∈ ds, Sh n k d) : Sh (ds.length * (n + 2) + 3) (k + 1) (.list ds) := by
  obtain ⟨a, b, c, e, f⟩ := sh_all h
  refine ⟨?_, ?_, ?_, ?_⟩
  · simp only [PyData.showable, a]
  · simp only [PyData.hasDict, b]
  · simp only [PyData.depth]
    omega
  · show (listText (PyData.shownAll ds)).length ≤ _
    exact Nat.le_trans (textFrom_le _) (by omega)
theorem sh_int {i : Int} (h : i.natAbs < 10 ^ 10) : Sh 12 1 (.int i) := by
  refine ⟨?_, rfl, by simp [PyData.depth], ?_⟩
  · simp only [PyData.showable]
    refine decide_eq_true ?_
    by_cases h0 : i.natAbs = 0
    · rw [h0]; decide
    · refine (Nat.log2_lt h0).mpr (Nat.lt_of_lt_of_le h ?_)
      calc (10 : Nat) ^ 10 ≤ 2 ^ 40 := by decide
        _ ≤ 2 ^ 1920 := Nat.pow_le_pow_right (by decide) (by decide)
  · show (Str.ofString (toString i)).length ≤ 12
    rw [ofString_length]
    exact Nat.le_trans (int_text_length_le10 (k := 10) (by decide) h) (by decide)
theorem sh_rows : Sh 12 1 (.str "rows") := ⟨rfl, rfl, by simp [PyData.depth], by decide +kernel⟩
theorem sh_none : Sh 12 1 .none := ⟨rfl, rfl, by simp [PyData.depth], by decide +kernel⟩
theorem PlainD.sh {d : PyData} (h : PlainD d) : Sh 40 2 d := by
  rcases h with rfl | ⟨i, h1, h2, rfl⟩ | ⟨z, hz, rfl⟩ | rfl | rfl | rfl
  · exact sh_none.mono (by decide) (by decide)
  · exact (sh_int (by omega)).mono (by decide) (by decide)
  · refine ⟨rfl, rfl, by simp [PyData.depth], ?_⟩
    simp only [List.mem_cons, List.not_mem_nil, or_false] at hz
    rcases hz with rfl | rfl | rfl | rfl | rfl | rfl <;> decide +kernel
  · exact ⟨by decide +kernel, by decide +kernel, by decide +kernel, by decide +kernel⟩
  · exact ⟨by decide +kernel, by decide +kernel, by decide +kernel, by decide +kernel⟩
  · exact ⟨by decide +kernel, by decide +kernel, by decide +kernel, by decide +kernel⟩
end K3
namespace K3
open PySem PySem.Spec PyProof.Rows L2 GG
/-! ### one order of texts -/
def leS (a b : Str) : Prop := a.cps.toList ≤ b.cps.toList
theorem leS_of {a b : Str} (h : (!ltCps b.cps.toList a.cps.toList) = true) : leS a b := by
  rw [ltCps_eq] at h
  have h' : ¬ b.cps.toList < a.cps.toList := by simpa using h
  exact List.not_lt.mp h'
theorem rising_pairs : ∀ (p : Str) (l : List Str), risingS p l = true → (p :: l).Pairwise leS
  | p, [], _ => List.pairwise_singleton ..
  | p, x :: r, h => by
    have h' : (!ltCps x.cps.toList p.cps.toList && risingS x r) = true := h
    rw [Bool.and_eq_true] at h'
    have ih := rising_pairs x r h'.2
    have px := leS_of h'.1
    refine List.pairwise_cons.mpr ⟨fun y hy => ?_, ih⟩
    rcases List.mem_cons.mp hy with rfl | hy
    · exact px
    · exact List.le_trans px ((List.pairwise_cons.mp ih).1 y hy)
theorem sorted_pairs : ∀ {l : List Str}, sortedS l = true → l.Pairwise leS
  | [], _ => .nil
  | x :: r, h => rising_pairs x r h
theorem sorted_one {xs ys ws : List Str} (h1 : xs.Perm ws) (h2 : ys.Perm ws) (s1 : sortedS xs = true) (s2 : sortedS ys = true) : xs = ys := by
  refine List.Perm.eq_of_pairwise (le := leS) (fun a b _ _ u v => ?_) (sorted_pairs s1) (sorted_pairs s2) (h1.trans h2.symm)
  have e : a.cps.toList = b.cps.toList := List.le_antisymm u v
  have e2 : a.cps = b.cps := Array.ext' (by simpa using e)
  cases a
  cases b
  cases e2
  rfl
/-- two lists of methods' words -/
theorem MeOk.one {me : List PyData} {ws vs : List Str} (h : MeOk me ws) (g : MeOk me vs) : ws = vs := by
  apply List.ext_getElem?
  intro i
  by_cases hi : i < me.length
  · obtain ⟨w, r, e1, e2⟩ := h.2 i me[i] (List.getElem?_eq_getElem hi)
    obtain ⟨w', r', e3, e4⟩ := g.2 i me[i] (List.getElem?_eq_getElem hi)
    rw [e2] at e4
    cases e4
    rw [e1, e3]
  · rw [List.getElem?_eq_none (by have := h.1; omega), List.getElem?_eq_none (by have := g.1; omega)]
end K3
namespace K3
open PySem PySem.Spec PyProof.Rows L2 GG
/-! ### what is told of a kind is right -/
theorem pairs_of {K : PySem.W.Frag} {H : Hp} : ∀ {sl : List (Str × PyData)} {zs : List V}, DtAll H zs (sl.map fun q => .tuple [.str q.1, q.2]) → ∃ (ps : List Addr) (kvs : List (Key × V)), zs = ps.map V.ref ∧ Paired (fun p (kv : Key × V) => SqT K H p [kV kv.1, kv.2]) ps kvs ∧ SlKv H kvs sl
  | [], _, .nil => ⟨[], [], rfl, .nil, .nil⟩
  | q :: sl, _, .cons h t => by
    obtain ⟨ps, kvs, rfl, hp, hs⟩ := pairs_of (K := K) (sl := sl) t
    obtain ⟨a, rfl⟩ := h.ref_of
    obtain ⟨xs, e, al⟩ := h.tupI
    cases al with
    | cons c1 al =>
    cases c1
    cases al with
    | @cons v _ _ _ c2 al =>
    cases al
    exact ⟨a :: ps, (.inr q.1, v) :: kvs, rfl, .cons (SqT.of e) hp, .cons c2 hs⟩
theorem SlKv.get {H : Hp} : ∀ {kvs : List (Key × V)} {sl : List (Str × PyData)}, SlKv H kvs sl → (sl.map (·.1)).Nodup → ∀ q ∈ sl, ∃ v, valV kvs (.inr q.1) = some v ∧ Dt H v q.2
  | _, _, .nil, _, q, hq => absurd hq (by simp)
  | _, _, .cons (f := f) (v := v) (d := d) (kvs := kvs) (sl := sl) h a, nd, q, hq => by
    have nd' := List.nodup_cons.mp nd
    rcases List.mem_cons.mp hq with rfl | hq
    · exact ⟨v, by simp [valV], h⟩
    · obtain ⟨u, e, k⟩ := a.get nd'.2 q hq
      have ne : f ≠ q.1 := fun z => nd'.1 (List.mem_map.mpr ⟨q, hq, z.symm⟩)
      refine ⟨u, ?_, k⟩
      have ne2 : (Sum.inr f : Key) ≠ .inr q.1 := fun z => ne (by injection z)
      simp [valV, ne2] at e ⊢
      exact e
theorem SlKv.mem {H : Hp} : ∀ {kvs : List (Key × V)} {sl : List (Str × PyData)}, SlKv H kvs sl → ∀ p ∈ kvs, ∃ q ∈ sl, p.1 = .inr q.1 ∧ Dt H p.2 q.2
  | _, _, .nil, p, hp => absurd hp (by simp)
  | _, _, .cons (f := f) (v := v) (d := d) h a, p, hp => by
    rcases List.mem_cons.mp hp with rfl | hp
    · exact ⟨(f, d), List.mem_cons_self .., rfl, h⟩
    · obtain ⟨q, hq, e, k⟩ := a.mem p hp
      exact ⟨q, List.mem_cons_of_mem _ hq, e, k⟩
theorem PlainD.shaped {d : PyData} (h : PlainD d) : SeqAt.shaped d = true := by
  obtain ⟨a, b⟩ := h.lay
  unfold SeqAt.shaped
  rw [a, Bool.true_and]
  exact decide_eq_true (by omega)
theorem PlainD.show {d : PyData} (h : PlainD d) : ShowOk d := by
  have s := h.sh
  refine ⟨s.show', s.plain, by have := s.deep; omega, Nat.le_of_lt (small1000 (by have := s.long; omega)), fun i e => ?_, fun b e => ?_⟩
  · rcases h with rfl | ⟨j, h1, h2, rfl⟩ | ⟨z, hz, rfl⟩ | rfl | rfl | rfl <;> cases e
    have lt : i.natAbs < 2 ^ 30 := by omega
    by_cases z : i.natAbs = 0
    · rw [z]
      decide
    · exact Nat.lt_of_lt_of_le ((Nat.log2_lt z).mpr lt) (by decide)
  · rcases h with rfl | ⟨j, h1, h2, rfl⟩ | ⟨z, hz, rfl⟩ | rfl | rfl | rfl <;> cases e
def spTold : Sp := fun vs H Q _ => ∃ (v m : V) (ks : List Kd3) (k : Kd3) (c : Addr) (o : Obj) (zs : List V), vs = [v, .str k.nm, .ref c, m] ∧ PlAt H v ks ∧ k ∈ ks ∧ (∀ k' ∈ ks, k'.nm = k.nm → k' = k) ∧ (∀ k ∈ ks, k.sl.length ≤ 10 ∧ (k.sl.map (·.1)).Nodup ∧ ∀ q ∈ k.sl, PlainD q.2) ∧ (∀ k ∈ ks, k.me.length ≤ 50 ∧ ∃ ws, MeOk k.me ws) ∧
  H c = some (.frz o (.tup zs)) ∧ o.dict = none ∧ DtAll H zs (k.sl.map fun q => .tuple [.str q.1, q.2]) ∧ Dt H m (.tuple k.me) ∧ ∀ H', Same H H' → Q (.bl true) H'
abbrev sTold : Stmt := top 25
abbrev nTo : List Str := ["_law_plan_here", "_law_breed", "_law_slots", "_law_methods", "_law_again", "_law_told", "_law_words_here", "_law_field", "_law_worth", "_law_one"]
theorem scTo : FnScope nTo ["_law_plan_here", "_law_breed", "_law_slots", "_law_methods"] (defScope sTold) := ⟨rfl, rfl, rfl, by decide +kernel, rfl, by decide +kernel, by decide +kernel⟩
section
variable {P : Program} {w : World} {K : PySem.W.Frag} {mg : Str → Option Value} {base : Heap}
theorem ok_told {f ff fw : Addr} {fd fdf fdw : FuncData} (F : Fun K "_law_told_right" "_law_told_right" sTold f fd) (T : Txt mg)
    (mf : mg "fields_of" = some (.ref ff)) (kf : PySem.W.keepIn K (.ref ff) = true) (bf : Binds K fdf ["plan", "kind"] []) (Gf : FnOk P w K mg base CX0 4 ff fdf ["plan", "kind"] spFields3)
    (mw : mg "words_of" = some (.ref fw)) (kw : PySem.W.keepIn K (.ref fw) = true) (bw : Binds K fdw ["plan", "kind"] []) (Gw : FnOk P w K mg base CX0 2 fw fdw ["plan", "kind"] spWords3) :
    FnG P w K mg base CX0 5 f fd ["_law_plan_here", "_law_breed", "_law_slots", "_law_methods"] spTold := by
  refine fun_okG F scTo (fun vs H Q E h => ?_) (fun cdv A outer s H vs Q E hg hr h => ?_)
  · obtain ⟨v, m, ks, k, c, o, zs, rfl, _⟩ := h
    rfl
  · obtain ⟨v, m, ks, k, c, o, zs, rfl, hpl, hk, uq, hsl, hme, ec, nod, zal, hm, go⟩ := h
    have nd := scTo.nd
    have hu := hu_of hr
    have hr2 : Room 2 _ := hr.mono (by decide)
    have hu68 : (A.deeper (envOfC "_law_told_right" (defScope sTold) s.heap.objs.size f cdv)).units + 68 < cLine := Nat.lt_of_le_of_lt (by omega) hr.un
    have hu66 : (A.deeper (envOfC "_law_told_right" (defScope sTold) s.heap.objs.size f cdv)).units + 66 < cLine := Nat.lt_of_le_of_lt (by omega) hr.un
    refine ⟨_, pss_cons (ps_for PassesOwn.never rfl (pi_range1 rfl T.range (pa_cons pe_int pa_nil)) (pg_name (i := 4) nd rfl (Or.inl rfl))
        (pss_cons (ps_asg (pe_tup (pa_cons (pe_call Gf hr (by rfl) mf kf bf .nil pass0 (pa_cons (pv 0) (pa_cons (pv 1) pa_nil))) (pa_cons (pe_call Gw hr2 (by rfl) mw kw bw .nil pass0 (pa_cons (pv 0) (pa_cons (pv 1) pa_nil))) pa_nil))) (pg_tup (by rfl) (pgs_cons (pg_name (i := 5) nd rfl (.inr rfl)) (pgs_cons (pg_name (i := 6) nd rfl (.inl rfl)) pgs_nil))))
        (pss_cons (ps_if (PW.pt (pw_or (pt_not (pt_val (pe_callB call_isi (by rfl) T.isinstance (by decide +kernel) (pa_cons (pv 5) (pa_cons (pe_bltn (v := V.ty "dict") (by rfl) T.dict (by decide +kernel) rfl) pa_nil))))) (pw_or1 (pt_cmpR (op_neF hu68) (pv 5) (pe_callTy (call_dictF rfl) (by rfl) T.dict (by decide +kernel) (pa_cons (pv 2) pa_nil)) (nomark _))))) (pss_one (ps_ret pe_bl)) pss_nil)
        (pss_cons (ps_if (pt_cmpR (op_neV hu66)
            (pe_lc (own := [("_law_field", 7), ("_law_worth", 8)]) (g := gTup K 2 (gCons (gName 7) (gCons (gName 8) gNil))) (tt := tYes) rfl nd (pi_tup (pv 2)) (blkOk_by (N := nTo) (sc := defScope sTold) (by decide +kernel)) (fun _ _ _ _ _ => by exact pg_tup rfl (pgs_cons (pg_name (i := 7) nd rfl (Or.inl rfl)) (pgs_cons (pg_name (i := 8) nd rfl (Or.inl rfl)) pgs_nil))) (fun _ _ _ _ _ => pts_nil)
              (fun _ _ _ _ _ => pe_callB (id := "repr") (r := rRepr K) (call_repr hg hr.units) (by rfl) T.repr (by decide +kernel) (pa_cons (pe_dget hu (pv 5) (pv 7) (fun _ _ => rfl)) pa_nil)))
            (pe_lc (own := [("_law_field", 7), ("_law_worth", 8)]) (g := gTup K 2 (gCons (gName 7) (gCons (gName 8) gNil))) (tt := tYes) rfl nd (pi_tup (pv 2)) (blkOk_by (N := nTo) (sc := defScope sTold) (by decide +kernel)) (fun _ _ _ _ _ => by exact pg_tup rfl (pgs_cons (pg_name (i := 7) nd rfl (Or.inl rfl)) (pgs_cons (pg_name (i := 8) nd rfl (Or.inl rfl)) pgs_nil))) (fun _ _ _ _ _ => pts_nil)
              (fun _ _ _ _ _ => pe_callB (id := "repr") (r := rRepr K) (call_repr hg hr.units) (by rfl) T.repr (by decide +kernel) (pa_cons (pv 8) pa_nil)))
            (nomark _)) (pss_one (ps_ret pe_bl)) pss_nil)
        (pss_cons (ps_if (PW.pt (pw_or (pt_not (pt_val (pe_callB call_isi (by rfl) T.isinstance (by decide +kernel) (pa_cons (pv 6) (pa_cons (pe_bltn (v := V.ty "list") (by rfl) T.list (by decide +kernel) rfl) pa_nil))))) (pw_or1 (pt_cmpR (op_neV hu66) (pv 6) (pe_callB cr_sortedS (by rfl) T.sorted (by decide +kernel) (pa_cons (pe_lc (own := [("_law_one", 9)]) (g := gName 9) (tt := tYes) rfl nd (pi_tup (pv 3))
            (blkOk_by (N := nTo) (sc := defScope sTold) (by decide +kernel)) (fun _ _ _ _ _ => pg_name (i := 9) nd rfl (Or.inl rfl)) (fun _ _ _ _ _ => pts_nil) (fun _ _ _ _ _ => pe_ix (r := rIxT K) ix_tup (pv 9) pe_int (fun _ _ => rfl))) pa_nil)) (nomark _))))) (pss_one (ps_ret pe_bl)) pss_nil)
        (pss_cons (ps_expr (pe_dclear (pv 5)))
        (pss_one (ps_expr (pe_bm PySem.F.plainAttrs_list PySem.F.slot_list_append PySem.F.type_list_append mt_append (pv 6) (pa_cons pe_str pa_nil))))))))))
      (pss_one (ps_ret pe_bl)), ?_⟩
    obtain ⟨mm, rfl⟩ := hm.ref_of
    obtain ⟨ms, em, mal⟩ := hm.tupI
    obtain ⟨few, kn, pls⟩ := hsl k hk
    obtain ⟨few2, ws, mok⟩ := hme k hk
    have lz := zal.length
    rw [List.length_map] at lz
    have lm := mal.length
    refine ⟨2, rfl, by decide, by decide, for_range (lo := 0) (n := 2) (fun _ σ' H' => (∃ v4 v5 v6 : Option V, σ' = [some v, some (.str k.nm), some (.ref c), some (.ref mm), v4, v5, v6, none, none, none]) ∧ Same H H') ?_ ?_ ?_⟩
    · exact ⟨⟨_, _, _, rfl⟩, Same.refl _⟩
    · rintro i σ' H0 hi ⟨⟨v4, v5, v6, rfl⟩, s0⟩
      have pl0 := hpl.mono (sameTups s0) fun a o u e => s0 _ _ e
      refine ⟨_, rfl, _, rfl, v, k.nm, ks, rfl, pl0, ⟨k, hk, rfl⟩, hsl, fun r k' kvs H1 hk' hnm s1 hr0 er hkv => ?_⟩
      obtain rfl := uq k' hk' hnm
      have pl1 := pl0.mono (sameTups s1) fun a o u e => s1 _ _ e
      refine ⟨_, rfl, _, rfl, v, k'.nm, ks, rfl, pl1, ⟨k', hk, rfl⟩, hme, fun l k2 ws2 ys H2 hk2 hnm2 mok2 perm srt s2 hl0 el => ?_⟩
      obtain rfl := uq k2 hk2 hnm2
      obtain rfl := mok2.one mok
      refine ⟨(by show 2 ≤ sizeLine; decide), fun t ht => ?_⟩
      have s3 := same_new (Same.refl H2) ht (o := .tup [.ref r, .ref l])
      have e3 : upd H2 t (.tup [.ref r, .ref l]) t = some (.tup [.ref r, .ref l]) := upd_same
      have er3 := s3 _ _ (s2 _ _ er)
      have el3 := s3 _ _ el
      have hkv3 := (hkv.mono (sameTups s2)).mono (sameTups s3)
      have s03 := ((s0.trans s1).trans s2).trans s3
      have hr00 : H0 r = none := hr0
      have hl00 : H0 l = none := s1.free hl0
      generalize upd H2 t (.tup [.ref r, .ref l]) = H3 at e3 er3 el3 hkv3 s03 ⊢
      have nrl : r ≠ l := ne_of er3 el3 (by intro z; cases z)
      refine ⟨t, _, rfl, SqT.of e3, rfl, _, _, rfl, _, _, rfl, rfl, ?_⟩
      -- a dict, and the same one
      refine ⟨_, rfl, .ref r, .ty "dict", .type "dict", .type "dict", true, rfl, .ty _, .base (.dK er3), kit_ty (by decide +kernel), true, rfl, iteF ?_⟩
      obtain ⟨ps, kvs', rfl, pp, hkv'⟩ := pairs_of (K := K) (zal.mono (sameTups s03))
      have kk' := hkv'.keys
      have em' : mergeK [] kvs' = kvs' := by
        rw [mergeK_fresh _ _ (fun _ _ r hr => absurd hr (by simp)) ?_, List.nil_append]
        rw [kk', show (k2.sl.map fun q => (Sum.inr q.1 : Key)) = (k2.sl.map (·.1)).map Sum.inr by rw [List.map_map]; rfl]
        exact List.pairwise_map.mpr (kn.imp fun q z => q (by injection z))
      refine ⟨_, rfl, _, rfl, c, o, ps, kvs', rfl, s03 _ _ ec, nod, pp, fun p hp => ?_⟩
      rw [em']
      have s4 := same_new (Same.refl H3) hp (o := .dK kvs')
      have e4 : upd H3 p (.dK kvs') p = some (.dK kvs') := upd_same
      have er4 := s4 _ _ er3
      have el4 := s4 _ _ el3
      have hkv4 := hkv3.mono (sameTups s4)
      have hkv4' := hkv'.mono (sameTups s4)
      have s04 := s03.trans s4
      generalize upd H3 p (.dK kvs') = H4 at e4 er4 el4 hkv4 hkv4' s04 ⊢
      have lk : kvs.length = kvs'.length := by
        have q1 := congrArg List.length hkv4.keys
        have q2 := congrArg List.length hkv4'.keys
        rw [List.length_map, List.length_map] at q1 q2
        omega
      refine ⟨.inr ⟨r, p, kvs, kvs', rfl, rfl, er4, e4, lk, fun q hq => ?_⟩, _, rfl, iteF ?_⟩
      · obtain ⟨q', hq', e, dq⟩ := hkv4.mem q hq
        obtain ⟨u, eu, du⟩ := hkv4'.get kn q' hq'
        rw [e]
        exact ⟨u, eu, q'.2, dq.dp, du.dp, (pls q' hq').shaped⟩
      -- what is shown
      have shown : ∀ (j : Nat) (x : V), (ps.map V.ref)[j]? = some x → ∃ (q : Str × PyData) (a : Addr) (w2 : V), k2.sl[j]? = some q ∧ x = .ref a ∧ H4 a = some (.tup [.str q.1, w2]) ∧ Dt H4 w2 q.2 := fun j x hj => by
        obtain ⟨d0, hd0, hx⟩ := (zal.mono (sameTups s04)).get j x hj
        rw [List.getElem?_map] at hd0
        obtain ⟨q, hq, rfl⟩ := Option.map_eq_some_iff.mp hd0
        obtain ⟨a, rfl⟩ := hx.ref_of
        obtain ⟨xs, e, al⟩ := hx.tupI
        cases al with
        | cons c1 al =>
        cases c1
        cases al with
        | @cons w2 _ _ _ c2 al =>
        cases al
        exact ⟨q, a, w2, hq, rfl, e, c2⟩
      have ec4 := s04 _ _ ec
      refine ⟨_, rfl, c, rfl, ⟨_, sqF3 ec4⟩, fun D hD => ?_⟩
      refine lc_tup (K := K) (a := c) (xs := ps.map V.ref) (fun j H' => Same H4 H' ∧ H' D = some (.lst ((k2.sl.take j).map fun q => V.str q.2.shown))) ?_ ?_ ?_ ?_
      · exact ⟨same_new (Same.refl _) hD, upd_same⟩
      · rintro j H' _ ⟨s', _⟩
        exact sqF3 (s' _ _ ec4)
      · rintro j x H' hj ⟨s', hDl⟩
        obtain ⟨q, a, w2, hq, rfl, ea, dw⟩ := shown j x hj
        have jl : j < k2.sl.length := (List.getElem?_eq_some_iff.mp hq).1
        obtain ⟨u, eu, du⟩ := hkv4.get kn q (List.mem_of_getElem? hq)
        have pq := pls q (List.mem_of_getElem? hq)
        refine ⟨a, _, rfl, SqT.of (s' _ _ ea), rfl, _, _, rfl, _, _, rfl, rfl, rfl, _, rfl, _, rfl, r, _, rfl, dgS (s' _ _ er4) eu, u, q.2, rfl, (du.mono (sameTups s')).dp, pq.show, _, hDl, small1000 (by rw [List.length_map, List.length_take]; omega), same_mut s' hD, ?_⟩
        rw [upd_same, List.take_add_one, hq, List.map_append]
        rfl
      · rintro H5 ⟨s5, hDl⟩
        rw [lz, List.take_length] at hDl
        refine ⟨_, rfl, c, rfl, ⟨_, sqF3 (s5 _ _ ec4)⟩, fun D2 hD2 => ?_⟩
        refine lc_tup (K := K) (a := c) (xs := ps.map V.ref) (fun j H' => Same H5 H' ∧ H' D2 = some (.lst ((k2.sl.take j).map fun q => V.str q.2.shown))) ?_ ?_ ?_ ?_
        · exact ⟨same_new (Same.refl _) hD2, upd_same⟩
        · rintro j H' _ ⟨s', _⟩
          exact sqF3 (s' _ _ (s5 _ _ ec4))
        · rintro j x H' hj ⟨s', hDl2⟩
          obtain ⟨q, a, w2, hq, rfl, ea, dw⟩ := shown j x hj
          have jl : j < k2.sl.length := (List.getElem?_eq_some_iff.mp hq).1
          have pq := pls q (List.mem_of_getElem? hq)
          have s5' := s5.trans s'
          refine ⟨a, _, rfl, SqT.of (s5' _ _ ea), rfl, _, _, rfl, _, _, rfl, rfl, rfl, _, rfl, w2, q.2, rfl, (dw.mono (sameTups s5')).dp, pq.show, _, hDl2, small1000 (by rw [List.length_map, List.length_take]; omega), same_mut s' hD2, ?_⟩
          rw [upd_same, List.take_add_one, hq, List.map_append]
          rfl
        · rintro H6 ⟨s6, hDl2⟩
          rw [lz, List.take_length] at hDl2
          have pE : ∀ (us : List V), (∀ x ∈ us, ∃ z, x = .str z) → Paired (EqV K H6 1) us us := fun us hus => by
            induction us with
            | nil => exact .nil
            | cons x r ih =>
              obtain ⟨z, rfl⟩ := hus x (List.mem_cons_self ..)
              exact .cons (.inl ⟨rfl, rfl⟩) (ih fun y hy => hus y (List.mem_cons_of_mem _ hy))
          refine ⟨1, by decide, .inl ⟨D, D2, _, _, rfl, rfl, SqL.of (s6 _ _ hDl), SqL.of hDl2, pE _ fun x hx => ?_⟩, _, rfl, iteF ?_⟩
          · obtain ⟨q, _, rfl⟩ := List.mem_map.mp hx
            exact ⟨_, rfl⟩
          have s56 := s5.trans s6
          have er6 := s56 _ _ er4
          have el6 := s56 _ _ el4
          -- the words
          refine ⟨_, rfl, .ref l, .ty "list", .type "list", .type "list", true, rfl, .ty _, .base (.lst el6), kit_ty (by decide +kernel), true, rfl, iteF ?_⟩
          have em6 := s56 _ _ (s04 _ _ em)
          have mal6 := (mal.mono (sameTups s04)).mono (sameTups s56)
          refine ⟨_, rfl, _, rfl, mm, rfl, ⟨_, SqT.of em6⟩, fun D3 hD3 => ?_⟩
          refine lc_tup (K := K) (a := mm) (xs := ms) (fun j H' => Same H6 H' ∧ H' D3 = some (.lst ((ws2.take j).map V.str))) ?_ ?_ ?_ ?_
          · exact ⟨same_new (Same.refl _) hD3, upd_same⟩
          · rintro j H' _ ⟨s', _⟩
            exact SqT.of (s' _ _ em6)
          · rintro j x H' hj ⟨s', hDl3⟩
            obtain ⟨d, hd, hx⟩ := mal6.get j x hj
            obtain ⟨wd, rest, hw, rfl⟩ := mok.2 j d hd
            obtain ⟨t3, rfl⟩ := hx.ref_of
            obtain ⟨us, et, ut⟩ := hx.tupI
            cases ut with
            | cons c0 ut =>
            cases c0
            have jl : j < ws2.length := (List.getElem?_eq_some_iff.mp hw).1
            have l1 := mok.1
            refine ⟨rfl, _, rfl, t3, _, _, _, rfl, rfl, SqT.of (s' _ _ et), (by exact atI_int (by decide) rfl), _, hDl3, small1000 (by rw [List.length_map, List.length_take]; omega), same_mut s' hD3, ?_⟩
            rw [upd_same, List.take_add_one, hw, List.map_append]
            rfl
          · rintro H7 ⟨s7, hDl3⟩
            have l1 := mok.1
            rw [show ms.length = ws2.length by omega, List.take_length] at hDl3
            refine ⟨D3, ws2, rfl, SqL.of hDl3, by omega, fun ys2 p2 perm2 srt2 hp2 => ?_⟩
            obtain rfl := sorted_one perm2 perm srt2 srt
            have s8 := same_new (Same.refl H7) hp2 (o := .lst (ys2.map V.str))
            have e8 : upd H7 p2 (.lst (ys2.map V.str)) p2 = some (.lst (ys2.map V.str)) := upd_same
            have s78 := s7.trans s8
            generalize upd H7 p2 (.lst (ys2.map V.str)) = H8 at s8 e8 s78 ⊢
            have pE : ∀ (us : List Str), Paired (EqV K H8 1) (us.map V.str) (us.map V.str) := fun us => by
              induction us with
              | nil => exact .nil
              | cons x r ih => exact .cons (.inl ⟨rfl, rfl⟩) ih
            refine ⟨1, by decide, .inl ⟨l, p2, _, _, rfl, rfl, SqL.of (s78 _ _ el6), SqL.of e8, pE _⟩, _, rfl, iteF ?_⟩
            -- told ones are changed
            have er8 := s78 _ _ er6
            have el8 := s78 _ _ el6
            have s08 := (s04.trans s56).trans s78
            refine ⟨_, rfl, .inr (.inr (.inl ⟨rfl, .inl ⟨_, er8⟩⟩)), r, kvs, rfl, rfl, er8, ?_⟩
            have el9 : upd H8 r (.dK []) l = some (.lst (ys2.map V.str)) := by rw [upd_ne nrl.symm]; exact el8
            refine ⟨_, rfl, .inl ⟨rfl, _, SqL.of el9⟩, l, _, _, rfl, rfl, el9, small1000 (by rw [List.length_map, perm.length_eq]; omega), ⟨_, _, _, rfl⟩, ?_⟩
            exact same_mut (same_mut s08 (s0.free hr00)) (s0.free hl00)
    · rintro σ' H' ⟨⟨v4, v5, v6, rfl⟩, s⟩
      exact go _ s
end
end K3
namespace GG
open PySem PySem.Spec PyProof.Rows L2
section
variable {X : Cx}
/-- != of two lists whose items are equal data, or equal lists or dicts of equal data -/
def rNeO (K : PySem.W.Frag) : R2 := fun x y H Q => EqR K H (fun x y => EqF K H x y ∨ EqG K H x y) x y ∧ Q (.bl false) H
theorem op_neO (hu : X.A.units + 70 < cLine) : OpR X (compareOp .NotEq) (rNeO X.K) := by
  rintro pins s σ H x y v u Q I rx ry ⟨h, q⟩
  refine ne_run I (A := X.A) (by omega) (fun x y v u h rx ry => ?_) h rx ry ⟨.bl false, H, I, rfl, q⟩
  rcases h with h | h
  · exact eqF_run I (A := X.A.in1) (by show X.A.units + 1 + 64 < cLine; omega) x y v u h rx ry
  · exact eqG_run I (A := X.A.in1) (by show X.A.units + 1 + 66 < cLine; omega) x y v u h rx ry
end
end GG
namespace K3
open PySem PySem.Spec PyProof.Rows L2 GG
/-! ### things that are no kind -/
section
variable {M : Addr → Prop} {H H' : Hp}
mutual
theorem Dx.ext (e : LamX.ExtN H H') : ∀ {d : PyData} {v : V}, Dx M H v d → Dx M H' v d
  | _, _, .non => .non
  | _, _, .bl b => .bl b
  | _, _, .int i => .int i
  | _, _, .str z => .str z
  | _, _, .lst n h a => .lst n (e _ _ h fun _ z => nomatch z) (DxAll.ext e a)
  | _, _, .tup n h a => .tup n (e _ _ h fun _ z => nomatch z) (DxAll.ext e a)
  | _, _, .dic n h a => .dic n (e _ _ h fun _ z => nomatch z) (DxKv.ext e a)
theorem DxAll.ext (e : LamX.ExtN H H') : ∀ {ds : List PyData} {vs : List V}, DxAll M H vs ds → DxAll M H' vs ds
  | _, _, .nil => .nil
  | _, _, .cons h a => .cons (Dx.ext e h) (DxAll.ext e a)
theorem DxKv.ext (e : LamX.ExtN H H') : ∀ {es : List (PyData × PyData)} {kvs : List (Key × V)}, DxKv M H kvs es → DxKv M H' kvs es
  | _, _, .nil => .nil
  | _, _, .cons h a => .cons (Dx.ext e h) (DxKv.ext e a)
end
end
def Flat1 (d : PyData) : Prop := d = .none ∨ (∃ b, d = .bool b) ∨ (∃ i, d = .int i) ∨ ∃ z, PyData.strOk z = true ∧ (d = .str z ∨ d = .tuple [.str z] ∨ d = .list [.str z])
def Odd1 (d : PyData) : Prop := Flat1 d ∨ d = .dict []
theorem Odd1.few {d : PyData} (h : Odd1 d) : FewX 2 d ∧ d.depth ≤ 2 := by
  have one : ∀ z, FewX 1 (.str z) := fun z => ⟨fun ds q => q.elim (fun q => nomatch q) (fun q => nomatch q), fun es q => nomatch q⟩
  rcases h with (rfl | ⟨b, rfl⟩ | ⟨i, rfl⟩ | ⟨z, _, rfl | rfl | rfl⟩) | rfl
  · exact ⟨⟨fun ds q => q.elim (fun q => nomatch q) (fun q => nomatch q), fun es q => nomatch q⟩, by decide⟩
  · exact ⟨⟨fun ds q => q.elim (fun q => nomatch q) (fun q => nomatch q), fun es q => nomatch q⟩, by simp [PyData.depth]⟩
  · exact ⟨⟨fun ds q => q.elim (fun q => nomatch q) (fun q => nomatch q), fun es q => nomatch q⟩, by simp [PyData.depth]⟩
  · exact ⟨⟨fun ds q => q.elim (fun q => nomatch q) (fun q => nomatch q), fun es q => nomatch q⟩, by simp [PyData.depth]⟩
  · refine ⟨⟨fun ds q => ?_, fun es q => nomatch q⟩, by simp [PyData.depth, PyData.depthAll]⟩
    rcases q with q | q
    · cases q
    · cases q
      exact ⟨by show 1 ≤ 1000; decide, fun e he => by rw [List.mem_singleton.mp he]; exact one z⟩
  · refine ⟨⟨fun ds q => ?_, fun es q => nomatch q⟩, by simp [PyData.depth, PyData.depthAll]⟩
    rcases q with q | q
    · cases q
      exact ⟨by show 1 ≤ 1000; decide, fun e he => by rw [List.mem_singleton.mp he]; exact one z⟩
    · cases q
  · refine ⟨⟨fun ds q => q.elim (fun q => nomatch q) (fun q => nomatch q), fun es q => ?_⟩, by simp [PyData.depth, PyData.depthKv]⟩
    cases q
    exact ⟨by decide, by simp, fun e he => absurd he (by simp)⟩
theorem Flat1.shaped {d : PyData} (h : Flat1 d) : SeqAt.shaped d = true := by
  rcases h with rfl | ⟨b, rfl⟩ | ⟨i, rfl⟩ | ⟨z, hz, rfl | rfl | rfl⟩
  · decide +kernel
  · simp [SeqAt.shaped, PyData.canLay0, PyData.depth]
  · simp [SeqAt.shaped, PyData.canLay0, PyData.depth]
  · simp [SeqAt.shaped, PyData.canLay0, PyData.depth, hz]
  · simp [SeqAt.shaped, PyData.canLay0, PyData.canLayAll0, PyData.depth, PyData.depthAll, hz]
  · simp [SeqAt.shaped, PyData.canLay0, PyData.canLayAll0, PyData.depth, PyData.depthAll, hz]
theorem Flat1.dp {K : PySem.W.Frag} {M : Addr → Prop} {H : Hp} {v : V} {d : PyData} (f : Flat1 d) (h : Dx M H v d) : Dp K H v d := by
  rcases f with rfl | ⟨b, rfl⟩ | ⟨i, rfl⟩ | ⟨z, _, rfl | rfl | rfl⟩
  · cases h
    exact .non
  · cases h
    exact .bl _
  · cases h
    exact .int _
  · cases h
    exact .str _
  · cases h with
    | tup _ e a =>
    cases a with
    | cons q a =>
    cases q
    cases a
    exact .tup (SqT.of e) (.cons (.str _) .nil)
  · cases h with
    | lst _ e a =>
    cases a with
    | cons q a =>
    cases q
    cases a
    exact .lst (SqL.of e) (.cons (.str _) .nil)
/-- two of the same -/
theorem Odd1.same {K : PySem.W.Frag} {M : Addr → Prop} {H : Hp} {x y : V} {d : PyData} (o : Odd1 d) (hx : Dx M H x d) (hy : Dx M H y d) : EqF K H x y ∨ EqG K H x y := by
  rcases o with f | rfl
  · exact .inl ⟨d, f.dp hx, f.dp hy, f.shaped⟩
  · cases hx with
    | @dic a _ _ _ ea aa =>
    cases aa
    cases hy with
    | @dic b _ _ _ eb ab =>
    cases ab
    exact .inr (.inr ⟨a, b, [], [], rfl, rfl, ea, eb, rfl, fun p hp => absurd hp (by simp)⟩)
/-- such a thing stands there -/
def OddAt (H : Hp) (nms : List Str) (v : V) : Prop := ∃ d, Dx nM H v d ∧ Odd1 d ∧ ∀ z ∈ nms, isTx z d = false
theorem OddAt.ext {H H' : Hp} {nms : List Str} {v : V} (h : OddAt H nms v) (e : LamX.ExtN H H') : OddAt H' nms v := by
  obtain ⟨d, h1, h2, h3⟩ := h
  exact ⟨d, h1.ext e, h2, h3⟩
theorem OddAt.str {H : Hp} {nms : List Str} {z : Str} (ok : PyData.strOk z = true) (n : z ∉ nms) : OddAt H nms (.str z) :=
  ⟨.str z, .str z, .inl (.inr (.inr (.inr ⟨z, ok, .inl rfl⟩))), fun y hy => by
    show (y == z) = false
    rw [beq_eq_false_iff_ne]
    exact fun q => n (q ▸ hy)⟩
theorem isTx_no {y : Str} {d : PyData} (h : ∀ z, d ≠ .str z) : isTx y d = false := by
  cases d <;> first | rfl | exact absurd rfl (h _)
theorem cut_last (l : List Nat) : cutS (tx l) none (some (-1)) = tx (l.take (l.length - 1)) := by
  have e1 : HT.sIx (tx l).length (tx l).length (some (-1)) = l.length - 1 := by
    show (if (-1 : Int) < 0 then ((-1 : Int) + ((tx l).length : Int)).toNat else min (-1 : Int).toNat (tx l).length) = _
    rw [if_pos (show (-1 : Int) < 0 by decide), tx_len]
    omega
  have e2 : HT.sIx (tx l).length 0 none = 0 := rfl
  unfold cutS
  rw [e1, e2, tx_toList]
  show tx _ = _
  congr 1
theorem tx_ok {l : List Nat} (h : ∀ x ∈ l, x < 1114112) : PyData.strOk (tx l) = true := by
  show (l.toArray.all (· < 0x110000)) = true
  rw [List.all_toArray, List.all_eq_true]
  exact fun x hx => decide_eq_true (h x hx)
/-- the names of a scene's kinds, and texts that are none of these -/
def ScD.nms (S : ScD) : List Str := (List.range S.kk).map S.W.at
section
variable {S : ScD}
theorem ScD.Ok.var0 (h : S.Ok) : ∃ z, S.vars[0]? = some z ∧ PyData.strOk z = true ∧ z ∉ S.nms := by
  have out : ∀ t : Nat, 3 ≤ t → t < 26 → S.W.at t ∉ S.nms := fun t h1 h2 hm => by
    obtain ⟨j, hj, e⟩ := List.mem_map.mp hm
    have hj' := List.mem_range.mp hj
    have kk := h.kk.2
    have := h.w.unlike (by omega) (by omega) e
    omega
  rcases h.vars with e | e
  · exact ⟨S.W.at 3, by rw [e]; rfl, h.w.strOk (by omega), out 3 (by omega) (by omega)⟩
  · exact ⟨S.W.at 11, by rw [e]; rfl, h.w.strOk (by omega), out 11 (by omega) (by omega)⟩
theorem sgAt (W : Wd) (k : Nat) : (W.pre ++ W.sg k :: W.tl k)[W.pre.length]? = some (W.sg k) := by simp
theorem ScD.Ok.void (h : S.Ok) : ("" : Str) ∉ S.nms := fun hm => by
  obtain ⟨j, _, e⟩ := List.mem_map.mp hm
  have e2 := congrArg Str.length e
  rw [show S.W.at j = tx _ from rfl, tx_len] at e2
  have e3 : ("" : Str).length = 0 := by decide +kernel
  rw [e3] at e2
  simp at e2
theorem ScD.Ok.more (h : S.Ok) : PyData.strOk (S.W.at 0 ++ "x") = true ∧ (S.W.at 0 ++ "x") ∉ S.nms := by
  have ex : ("x" : Str) = tx [120] := by decide +kernel
  have e0 : S.W.at 0 ++ "x" = tx ((S.W.pre ++ S.W.sg 0 :: S.W.tl 0) ++ [120]) := by
    rw [ex]
    exact tx_app _ _
  rw [e0]
  refine ⟨tx_ok fun x hx => ?_, fun hm => ?_⟩
  · rcases List.mem_append.mp hx with q | q
    · have := (h.w.low 0 (by decide) x q).2
      omega
    · rw [List.mem_singleton.mp q]
      decide
  · obtain ⟨j, hj, e⟩ := List.mem_map.mp hm
    have hj' := List.mem_range.mp hj
    have kk := h.kk.2
    have e1 : S.W.pre ++ S.W.sg j :: S.W.tl j = (S.W.pre ++ S.W.sg 0 :: S.W.tl 0) ++ [120] := tx_inj e
    have e2 : (S.W.pre ++ S.W.sg j :: S.W.tl j)[S.W.pre.length]? = ((S.W.pre ++ S.W.sg 0 :: S.W.tl 0) ++ [120])[S.W.pre.length]? := by rw [e1]
    rw [sgAt, List.getElem?_append_left (by simp), sgAt] at e2
    have e3 := h.w.inj j 0 (by omega) (by decide) (Option.some.inj e2)
    subst e3
    have e4 := congrArg List.length e1
    rw [List.length_append (bs := [120])] at e4
    simp at e4
theorem ScD.Ok.less (h : S.Ok) : PyData.strOk (cutS (S.W.at 0) none (some (-1))) = true ∧ cutS (S.W.at 0) none (some (-1)) ∉ S.nms := by
  rw [show cutS (S.W.at 0) none (some (-1)) = _ from cut_last _]
  refine ⟨tx_ok fun x hx => ?_, fun hm => ?_⟩
  · have := (h.w.low 0 (by decide) x (List.mem_of_mem_take hx)).2
    omega
  · obtain ⟨j, hj, e⟩ := List.mem_map.mp hm
    have hj' := List.mem_range.mp hj
    have kk := h.kk.2
    have e1 : S.W.pre ++ S.W.sg j :: S.W.tl j = (S.W.pre ++ S.W.sg 0 :: S.W.tl 0).take ((S.W.pre ++ S.W.sg 0 :: S.W.tl 0).length - 1) := tx_inj e
    have e4 := congrArg List.length e1
    rw [List.length_take] at e4
    have e2 : (S.W.pre ++ S.W.sg j :: S.W.tl j)[S.W.pre.length]? = ((S.W.pre ++ S.W.sg 0 :: S.W.tl 0).take ((S.W.pre ++ S.W.sg 0 :: S.W.tl 0).length - 1))[S.W.pre.length]? := by rw [e1]
    have lt : S.W.pre.length < (S.W.pre ++ S.W.sg 0 :: S.W.tl 0).length - 1 := by
      simp at e4 ⊢
      omega
    rw [sgAt, List.getElem?_take_of_lt lt, sgAt] at e2
    have e3 := h.w.inj j 0 (by omega) (by decide) (Option.some.inj e2)
    subst e3
    simp at e4
end
end K3
namespace K3
open PySem PySem.Spec PyProof.Rows L2 GG
/-! ### law_k03 -/
abbrev sLaw : Stmt := top 26
abbrev lawN : List Str := ["_law_script", "_law_pen_here", "_law_turn", "_law_scene_here", "_law_plan_here", "_law_breed", "_law_slots", "_law_methods", "_law_odd", "_law_book", "_law_thing"]
theorem scLaw : FnScope lawN ["_law_script"] (defScope sLaw) := ⟨rfl, rfl, rfl, by decide +kernel, rfl, by decide +kernel, by decide +kernel⟩
def lamQ : Str := (envOfC "law" (defScope sLaw) 0 0 .none).qual ++ "<lambda>"
def spLaw3 (K : PySem.W.Frag) (cP : Addr) : Sp := fun vs H Q _ => ∃ (a : Addr) (ns : List Int), vs = [.ref a] ∧ H cP = some (.tbl #[]) ∧ SqL K H a (ns.map V.int) ∧ ns.length ≤ 63 ∧ ∀ H', Q (.bl true) H'
section
variable {P : Program} {w : World} {K : PySem.W.Frag} {mg : Str → Option Value} {base : Heap}
/-- a text's tables beside what a def changes -/
theorem Tabs.but {T : List (Addr × Str)} {H H' : Hp} {M : Addr → Prop} (t : LamX.Tabs T H) (b : But M H H') (m : ∀ a, M a → Soft H a) : LamX.Tabs T H' := fun p hp => by
  obtain ⟨ps, e, ok, al⟩ := t p hp
  have off : ∀ {a : Addr} {o : HO}, H a = some o → (∀ k, o ≠ .dK k) → (∀ k, o ≠ .lst k) → ¬ M a := fun e h1 h2 z => by
    rcases m _ z with ⟨k, q⟩ | ⟨k, q⟩ <;> rw [e] at q <;> cases q
    · exact h1 _ rfl
    · exact h2 _ rfl
  refine ⟨ps, b _ _ (off e (fun k z => nomatch z) fun k z => nomatch z) e, ok, fun pos cv hc => ?_⟩
  obtain ⟨c, e1, e2⟩ := al pos cv hc
  exact ⟨c, e1, b _ _ (off e2 (fun k z => nomatch z) fun k z => nomatch z) e2⟩
theorem Pen.ext {H H' : Hp} {p c : Addr} {ns : List Int} {n : Nat} (h : Pen H p c ns n) (e : LamX.ExtN H H') : Pen H' p c ns n := by
  obtain ⟨a, l, h1, h2, h3, h4, h5, h6⟩ := h
  exact ⟨a, l, h1, h2, h3, e _ _ h4 (fun _ z => nomatch z), e _ _ h5 (fun _ z => nomatch z), h6⟩
theorem PlAt.ext {H H' : Hp} {v : V} {ks : List Kd3} (h : PlAt H v ks) (e : LamX.ExtN H H') : PlAt H' v ks := h.mono (fun a xs q => e _ _ q fun _ z => nomatch z) fun a o u q => e _ _ q fun _ z => nomatch z
theorem ext_same {H H' : Hp} (s : Same H H') : LamX.ExtN H H' := fun b o e _ => s b o e
theorem Tabs.same {T : List (Addr × Str)} {H H' : Hp} (t : LamX.Tabs T H) (s : Same H H') : LamX.Tabs T H' := t.ext s
theorem Odd1.but {H H' : Hp} {p : Addr} {kvs : List (Key × V)} {v : V} {d : PyData} (o : Odd1 d) (h : Dx nM H v d) (b : But (· = p) H H') (e : H p = some (.dK kvs)) (ne : kvs ≠ []) : Dx nM H' v d := by
  have off : ∀ {a : Addr} {u : HO}, H a = some u → u ≠ .dK kvs → H' a = some u := fun {a u} q n => b _ _ (fun z => n (by rw [z, e] at q; exact (Option.some.inj q).symm)) q
  rcases o with (rfl | ⟨b', rfl⟩ | ⟨i, rfl⟩ | ⟨z, _, rfl | rfl | rfl⟩) | rfl
  · cases h
    exact .non
  · cases h
    exact .bl _
  · cases h
    exact .int _
  · cases h
    exact .str _
  · cases h with
    | tup n q a =>
    cases a with
    | cons c a =>
    cases c
    cases a
    exact .tup n (off q fun z => nomatch z) (.cons (.str _) .nil)
  · cases h with
    | lst n q a =>
    cases a with
    | cons c a =>
    cases c
    cases a
    exact .lst n (off q fun z => nomatch z) (.cons (.str _) .nil)
  · cases h with
    | dic n q a =>
    cases a
    exact .dic n (off q fun z => ne (by injection z with z; exact z.symm)) .nil
theorem PlGood.uq {S : ScD} (hS : S.Ok) {ks : List Kd3} (h : PlGood S ks) {i : Nat} {k : Kd3} (hk : ks[i]? = some k) : ∀ k' ∈ ks, k'.nm = k.nm → k' = k := fun k' hm e => by
  obtain ⟨j, hj, ej⟩ := List.mem_iff_getElem.mp hm
  have hk' : ks[j]? = some k' := by rw [List.getElem?_eq_getElem hj, ej]
  have hi := (List.getElem?_eq_some_iff.mp hk).1
  have kk := hS.kk.2
  have l := h.1
  have n1 := (h.2 j k' hk').nm
  have n2 := (h.2 i k hk).nm
  rw [n1, n2] at e
  obtain rfl := hS.w.unlike (by omega) (by omega) e
  rw [hk] at hk'
  exact (Option.some.inj hk').symm
theorem PlGood.sls {S : ScD} {ks : List Kd3} (h : PlGood S ks) : (∀ k ∈ ks, k.sl.length ≤ 10 ∧ (k.sl.map (·.1)).Nodup ∧ ∀ q ∈ k.sl, PlainD q.2) ∧ ∀ k ∈ ks, k.me.length ≤ 50 ∧ ∃ ws, MeOk k.me ws :=
  ⟨fun k hm => by
    obtain ⟨j, hj, ej⟩ := List.mem_iff_getElem.mp hm
    have g := h.2 j k (by rw [List.getElem?_eq_getElem hj, ej])
    exact ⟨by have := g.len; omega, g.nod, g.pl⟩, fun k hm => by
    obtain ⟨j, hj, ej⟩ := List.mem_iff_getElem.mp hm
    have g := h.2 j k (by rw [List.getElem?_eq_getElem hj, ej])
    exact ⟨by have := g.few; omega, g.me⟩⟩
theorem PlOk.good {S : ScD} (hS : S.Ok) {ks : List Kd3} (h : PlOk S ks) : PlGood S ks := ⟨h.1, fun i k e => (h.2 i k e).good hS⟩
theorem PlOk.names {S : ScD} {ks : List Kd3} (h : PlOk S ks) : ∀ z ∈ ks.map (·.nm), z ∈ S.nms := fun z hz => by
  obtain ⟨k, hm, rfl⟩ := List.mem_map.mp hz
  obtain ⟨j, hj, ej⟩ := List.mem_iff_getElem.mp hm
  have g := h.2 j k (by rw [List.getElem?_eq_getElem hj, ej])
  have l := h.1
  rw [g.nm]
  exact List.mem_map.mpr ⟨j, List.mem_range.mpr (by omega), rfl⟩
theorem ok_law3 {D A1 A2 f cc cP fr ff fw : Addr} {fdf fdw : FuncData} {odL anL odR anR : Option Addr} {slL slR : Array (Option Value)} {ocL kvL dcL pmL ctL ocR dvR kvR dcR pmR ctR cdR : Value}
    (lkL : K.lookup f = some ⟨ocL, odL, .func (PySem.W.fnOf "law" "law" (defArgs sLaw) (defBody sLaw) (defScope sLaw) .none kvL dcL pmL anL (.ref cc) ctL), slL⟩) (cdL : PySem.W.codeIn K (.ref cc) "law" = true) (T : Txt mg)
    (CPn : Cal P w K mg base "_law_pen" 1 ["_law_script"] (spPen K)) (CP : Cal P w K mg base "_law_pick" 2 ["_law_pen_here", "_law_some"] spPick) (CS : Cal P w K mg base "_law_scene" 4 ["_law_pen_here", "_law_houses"] spScene)
    (CPl : Cal P w K mg base "_law_plan" 12 ["_law_pen_here", "_law_scene_here"] spPlan) (CO : Cal P w K mg base "_law_other" 4 ["_law_pen_here", "_law_scene_here", "_law_book"] spOther)
    {ft : Addr} {fdt : FuncData} (mt : mg "_law_told_right" = some (.ref ft)) (kt : PySem.W.keepIn K (.ref ft) = true) (bt : Binds K fdt ["_law_plan_here", "_law_breed", "_law_slots", "_law_methods"] []) (Gt : FnG P w K mg base CX0 5 ft fdt ["_law_plan_here", "_law_breed", "_law_slots", "_law_methods"] spTold)
    (mr : mg "_law_refused" = some (.ref fr)) (kr : PySem.W.keepIn K (.ref fr) = true) (lkR : K.lookup fr = some ⟨ocR, odR, .func (PySem.W.fnOf "_law_refused" "_law_refused" (defArgs sRefused) (defBody sRefused) (defScope sRefused) dvR kvR dcR pmR anR cdR ctR), slR⟩) (cdR' : PySem.W.codeIn K cdR "_law_refused" = true)
    (br : Binds K (PySem.W.fnOf "_law_refused" "_law_refused" (defArgs sRefused) (defBody sRefused) (defScope sRefused) dvR kvR dcR pmR anR cdR ctR) ["_law_naming"] []) (R : RefT K mg D A1 A2)
    (mf : mg "fields_of" = some (.ref ff)) (kf : PySem.W.keepIn K (.ref ff) = true) (bf : Binds K fdf ["plan", "kind"] []) (Gf : FnOk P w K mg base (L2N.CX P w) 5 ff fdf ["plan", "kind"] (spKindX D))
    (mw : mg "words_of" = some (.ref fw)) (kw : PySem.W.keepIn K (.ref fw) = true) (bw : Binds K fdw ["plan", "kind"] []) (Gw : FnOk P w K mg base (L2N.CX P w) 5 fw fdw ["plan", "kind"] (spKindX D))
    (TB : LamX.TabB base mg cc cP) : FnG P w K mg base CX0 13 f (PySem.W.fnOf "law" "law" (defArgs sLaw) (defBody sLaw) (defScope sLaw) .none kvL dcL pmL anL (.ref cc) ctL) ["_law_script"] (spLaw3 K cP) := by
  obtain ⟨fN, fdN, mN, kN, bN, GN⟩ := CPn
  obtain ⟨fP, fdP, mP, kP, bP, GP⟩ := CP
  obtain ⟨fS, fdS, mS, kS, bS, GS⟩ := CS
  obtain ⟨fL, fdL, mL, kL, bL, GL⟩ := CPl
  obtain ⟨fO, fdO, mO, kO, bO, GO⟩ := CO
  refine fng_fn lkL cdL scLaw (fun vs H Q E h => ?_) (fun A outer s H vs Q E hgA hr h => ?_)
  · obtain ⟨a, ns, rfl, _⟩ := h
    rfl
  have hg : Free (A.deeper (envOfC "law" (defScope sLaw) s.heap.objs.size f (.ref cc))) := deeper_free hgA
  suffices hh : ∃ t, PSs (cxOf CX0 P w K mg base lawN "law" (defScope sLaw) f (.ref cc) A outer s H E).nox (defBody sLaw) t ∧ t { nx := fun _ H' => Q .non H', rt := Q } (start lawN vs) H by
    obtain ⟨t, h1, h2⟩ := hh
    exact ⟨t, h1.nox, h2⟩
  obtain ⟨a, ns, rfl, hT, hS, h63, go⟩ := h
  have nd := scLaw.nd
  have hu := hu_of hr
  have hr1 : Room 1 _ := hr.mono (by decide)
  have hr2 : Room 2 _ := hr.mono (by decide)
  have hr4 : Room 4 _ := hr.mono (by decide)
  have hr5 : Room 5 _ := hr.mono (by decide)
  have hr7 : Room 7 _ := hr.mono (by decide)
  have hu70 : (A.deeper (envOfC "law" (defScope sLaw) s.heap.objs.size f (.ref cc))).units + 70 < cLine := Nat.lt_of_le_of_lt (by omega) hr.un
  refine ⟨_, pss_cons (ps_set (i := 1) nd rfl (.inl rfl) (pe_call GN hr1 (by rfl) mN kN bN .nil pass0 (pa_cons (pv 0) pa_nil)))
    (pss_cons (ps_for PassesOwn.never rfl (pi_range1 rfl T.range (pa_cons pe_int pa_nil)) (pg_name (i := 2) nd rfl (Or.inl rfl))
      (pss_cons (ps_set (i := 3) nd rfl (.inl rfl) (pe_call GS hr4 (by rfl) mS kS bS .nil pass0 (pa_cons (pv 1) (pa_cons (pe_lst pa_nil) pa_nil))))
      (pss_cons (ps_set (i := 9) nd rfl (.inr rfl) (pe_call GL hr (by rfl) mL kL bL .nil pass0 (pa_cons (pv 1) (pa_cons (pv 3) pa_nil))))
      (C8.pss_cut (ps_for PassesOwn.never rfl (pi_tup (pe_tup (pa_cons (pv 9) (pa_cons (pe_call GO hr4 (by rfl) mO kO bO .nil pass0 (pa_cons (pv 1) (pa_cons (pv 3) (pa_cons (pv 9) pa_nil)))) (pa_cons (pv 9) pa_nil))))) (pg_name (i := 4) nd rfl (Or.inl rfl))
        (pss_one (ps_for PassesOwn.never rfl (pi_tup (pv 4)) (pg_tup rfl (pgs_cons (pg_name (i := 5) nd rfl (Or.inl rfl)) (pgs_cons (pg_name (i := 6) nd rfl (Or.inl rfl)) (pgs_cons (pg_name (i := 7) nd rfl (Or.inl rfl)) pgs_nil))))
          (pss_one (ps_if (pt_not (pt_val (pe_callG Gt hg hr5 (by rfl) mt kt bt .nil pass0 (pa_cons (pv 4) (pa_cons (pv 5) (pa_cons (pv 6) (pa_cons (pv 7) pa_nil))))))) (pss_one (ps_ret pe_bl)) pss_nil)))))
      (pss_cons (ps_set (i := 5) nd rfl (.inl rfl) (pe_ix ix_list (pe_dget hu (pv 3) pe_str (fun _ _ => rfl)) pe_int (fun _ _ => rfl)))
      (C8.pss_cut (ps_set (i := 8) nd rfl (.inl rfl) (pe_lst (pa_cons pe_non (pa_cons pe_bl (pa_cons pe_int (pa_cons pe_str (pa_cons (pe_ix ix_list (pe_dget hu (pv 3) pe_str (fun _ _ => rfl)) pe_int (fun _ _ => rfl))
          (pa_cons (pe_op op_add_str (pv 5) pe_str) (pa_cons (pe_slice sl_str (pv 5) po_none (po_some (pe_un un_neg pe_int))) (pa_cons (pe_tup (pa_cons (pv 5) pa_nil)) (pa_cons (pe_lst (pa_cons (pv 5) pa_nil)) (pa_cons pe_dnewK (pa_cons (pe_op op_pow pe_int pe_int) pa_nil)))))))))))))
      (pss_one (ps_for PassesOwn.never rfl (pi_tup (pe_tup (pa_cons (pe_call GP hr2 (by rfl) mP kP bP .nil pass0 (pa_cons (pv 1) (pa_cons (pv 8) pa_nil))) (pa_cons (pe_call GP hr2 (by rfl) mP kP bP .nil pass0 (pa_cons (pv 1) (pa_cons (pv 8) pa_nil))) pa_nil)))) (pg_name (i := 10) nd rfl (Or.inr rfl))
        (pss_cons (ps_if (pt_cmpR (op_neO hu70)
            (pe_lamS (T := [(cP, lamQ)]) (TT := TTref D) (n := 5) (by rfl) mr kr lkR cdR' br scRf rfl (.inl rfl) (refused_gives R T.isinstance) TB rfl (List.mem_singleton.mpr rfl) (fun p hp _ => by rw [List.mem_singleton.mp hp]; rfl) hr7 (LamX.lamS_by (sc := defScope sLaw) (by decide +kernel)) rfl (fun _ _ _ _ _ => rfl)
              (fun E A outer s H fl k r => lam_refuses (i := 9) (j := 10) Gf mf kf bf rfl rfl rfl (.inr (.inr rfl)) (.inr (.inr rfl)) (by decide) (by decide) (by decide) (by decide) (by decide) r))
            (pe_lst (pa_cons (pv 10) pa_nil)) (nomark _)) (pss_one (ps_ret pe_bl)) pss_nil)
        (pss_one (ps_if (pt_cmpR (op_neO hu70)
            (pe_lamS (T := [(cP, lamQ)]) (TT := TTref D) (n := 5) (by rfl) mr kr lkR cdR' br scRf rfl (.inl rfl) (refused_gives R T.isinstance) TB rfl (List.mem_singleton.mpr rfl) (fun p hp _ => by rw [List.mem_singleton.mp hp]; rfl) hr7 (LamX.lamS_by (sc := defScope sLaw) (by decide +kernel)) rfl (fun _ _ _ _ _ => rfl)
              (fun E A outer s H fl k r => lam_refuses (i := 9) (j := 10) Gw mw kw bw rfl rfl rfl (.inr (.inr rfl)) (.inr (.inr rfl)) (by decide) (by decide) (by decide) (by decide) (by decide) r))
            (pe_lst (pa_cons (pv 10) pa_nil)) (nomark _)) (pss_one (ps_ret pe_bl)) pss_nil)))))))))))
    (pss_one (ps_ret pe_bl))), ?_⟩
  clear br lkR lkL cdL cdR' bt bf bw hu70 hu
  refine ⟨_, rfl, a, ns, rfl, hS, h63, fun p c H1 hp0 hc0 hP1 s1 => ?_⟩
  have T1 : LamX.Tabs [(cP, lamQ)] H1 := fun pr hp => by
    rw [List.mem_singleton.mp hp]
    exact (LamX.TabS.nil hT).ext s1
  refine ⟨8, rfl, by decide, by decide, for_range (lo := 0) (n := 8) (fun i σ' H' => (∃ v2 v3 v4 v5 v6 v7 v8 v9 va : Option V, σ' = [some (.ref a), some (.ref p), v2, v3, v4, v5, v6, v7, v8, v9, va]) ∧ Pen H' p c ns (i * 800000) ∧ LamX.Tabs [(cP, lamQ)] H') ?_ ?_ ?_⟩
  · exact ⟨⟨_, _, _, _, _, _, _, _, _, rfl⟩, hP1.mono (by omega), T1⟩
  · rintro i σ' H2 hi ⟨⟨v2, v3, v4, v5, v6, v7, v8, v9, va, rfl⟩, hP2, T2⟩
    have i7 : i * 800000 ≤ 7 * 800000 := Nat.mul_le_mul_right _ (by omega)
    have i8 : (i + 1) * 800000 = i * 800000 + 800000 := Nat.succ_mul i 800000
    obtain ⟨n0, hn0⟩ : ∃ n0, i * 800000 = n0 := ⟨_, rfl⟩
    rw [hn0] at hP2 i7 i8
    have softP : ∀ {H1 : Hp} {m : Nat}, Pen H1 p c ns m → ∀ a, a = p → Soft H1 a := fun h a z => by
      obtain ⟨_, _, _, _, _, z4, _⟩ := h
      exact .inl ⟨_, z ▸ z4⟩
    refine ⟨_, rfl, Nat.zero_le _, fun ta hta => ?_⟩
    have s3 := same_new (Same.refl H2) hta (o := .lst [])
    have e3 : upd H2 ta (.lst []) ta = some (.lst []) := upd_same
    have hP3 := hP2.new hta (o := .lst [])
    have nta := (hP2.fresh hta).1
    have T3 := Tabs.same T2 s3
    generalize upd H2 ta (.lst []) = H3 at s3 e3 hP3 T3 ⊢
    refine ⟨p, c, ns, _, .ref ta, rfl, hP3, by omega, fun sc S H4 eto hScn hsc0 hP4 b4 => ?_⟩
    obtain ⟨N, hS4, np, sp⟩ := hScn.parts (ts := []) eto (b4 _ _ nta e3) (by decide) nta
    have okS := hS4.ok
    have T4 := Tabs.but T3 b4 (softP hP3)
    refine ⟨_, rfl, _, rfl, p, c, sc, ns, _, S, N, [], rfl, hP4, by omega, hS4, np, sp, fun v ks H5 hpl hok hP5 hS5 b5 => ?_⟩
    have T5 := Tabs.but T4 b5 (fun a z => z.elim (softP hP4 a) fun z => by
      obtain ⟨_, _, e1, _⟩ := hS4.left
      exact .inl ⟨_, z ▸ e1⟩)
    -- each kind of each plan
    refine ⟨fun σ' H' => (∃ v4 v5 v6 v7 : Option V, σ' = [some (.ref a), some (.ref p), some (.int (0 + i)), some (.ref sc), v4, v5, v6, v7, v8, some v, va]) ∧ Pen H' p c ns (n0 + 700200) ∧ LamX.Tabs [(cP, lamQ)] H' ∧ PlAt H' v ks ∧ ScP H' sc S N [], ?_, ?_⟩
    · refine ⟨_, rfl, _, rfl, _, rfl, _, rfl, p, c, sc, ns, _, S, N, [], v, ks, rfl, hP5, by omega, hS5, np, sp, hpl, hok, fun v' ks' H6 hpl' good' hP6 b6 => ⟨_, rfl, (by show 3 ≤ sizeLine; decide), fun t ht => ?_⟩⟩
      have T6 := Tabs.but T5 b6 (softP hP5)
      have pl6 := hpl.mono (hP5.tups b6) (Soft.frzs b6 (softP hP5))
      have s7 := same_new (Same.refl H6) ht (o := .tup [v, v', v])
      have e7 : upd H6 t (.tup [v, v', v]) t = some (.tup [v, v', v]) := upd_same
      have hP7 := hP6.new ht (o := .tup [v, v', v])
      have hS7 := (hS5.pen b6 np sp).same s7
      have T7 := Tabs.same T6 s7
      have pl7 := pl6.mono (sameTups s7) fun a o u e => s7 _ _ e
      have pl7' := hpl'.mono (sameTups s7) fun a o u e => s7 _ _ e
      generalize upd H6 t (.tup [v, v', v]) = H7 at s7 e7 hP7 hS7 T7 pl7 pl7' ⊢
      have each : ∀ (j : Nat) (x : V), [v, v', v][j]? = some x → ∃ kx, PlAt H7 x kx ∧ PlGood S kx := by
        intro j x hj
        have hm := List.mem_of_getElem? hj
        simp only [List.mem_cons, List.not_mem_nil, or_false] at hm
        rcases hm with rfl | rfl | rfl
        · exact ⟨ks, pl7, hok.good okS⟩
        · exact ⟨ks', pl7', good'⟩
        · exact ⟨ks, pl7, hok.good okS⟩
      refine ⟨t, rfl, ⟨_, SqT.of e7⟩, for_tup (K := K) (a := t) (xs := [v, v', v]) (fun j σ' H' => (∃ v4 v5 v6 v7 : Option V, σ' = [some (.ref a), some (.ref p), some (.int (0 + i)), some (.ref sc), v4, v5, v6, v7, v8, some v, va]) ∧ Same H7 H') ?_ ?_ ?_ ?_⟩
      · exact ⟨⟨_, _, _, _, rfl⟩, Same.refl _⟩
      · rintro j σ' H' _ ⟨_, s⟩
        exact SqT.of (s _ _ e7)
      · rintro j x σ' H8 hj ⟨⟨v4, v5, v6, v7, rfl⟩, s8⟩
        obtain ⟨kx, plx, goodx⟩ := each j x hj
        have plx8 := plx.mono (sameTups s8) fun a o u e => s8 _ _ e
        obtain ⟨xa, xus, rfl, ex, kalx⟩ := plx8
        refine ⟨_, rfl, xa, rfl, ⟨_, SqT.of ex⟩, for_tup (K := K) (a := xa) (xs := xus) (fun l σ' H' => (∃ v5 v6 v7 : Option V, σ' = [some (.ref a), some (.ref p), some (.int (0 + i)), some (.ref sc), some (.ref xa), v5, v6, v7, v8, some v, va]) ∧ Same H8 H') ?_ ?_ ?_ ?_⟩
        · exact ⟨⟨_, _, _, rfl⟩, Same.refl _⟩
        · rintro l σ' H' _ ⟨_, s⟩
          exact SqT.of (s _ _ ex)
        · rintro l y σ' H9 hy ⟨⟨v5, v6, v7, rfl⟩, s9⟩
          obtain ⟨k, hk, kat⟩ := kalx.get l y hy
          have kat9 := kat.mono (sameTups s9) fun a o u e => s9 _ _ e
          obtain ⟨bb, c2, m, o, zs, rfl, eb, ec, nod, zal, em⟩ := kat9
          refine ⟨bb, _, rfl, SqT.of eb, rfl, _, _, rfl, _, _, rfl, _, _, rfl, rfl, ?_⟩
          exact ⟨_, rfl, _, rfl, _, rfl, _, rfl, .ref xa, m, kx, k, c2, o, zs, rfl, (plx.mono (sameTups (s8.trans s9)) fun a o u e => (s8.trans s9) _ _ e), List.mem_of_getElem? hk, goodx.uq okS hk, goodx.sls.1, goodx.sls.2, ec, nod, zal, em, fun H10 s10 => ⟨true, rfl, iteF ⟨⟨_, _, _, rfl⟩, s9.trans s10⟩⟩⟩
        · rintro σ' H9 ⟨⟨v5, v6, v7, rfl⟩, s9⟩
          exact ⟨⟨_, _, _, _, rfl⟩, s8.trans s9⟩
      · rintro σ' H8 ⟨⟨v4, v5, v6, v7, rfl⟩, s8⟩
        exact ⟨⟨_, _, _, _, rfl⟩, (hP7.but (sameBut s8 fun _ => False) id id).mono (by omega), Tabs.same T7 s8, pl7.mono (sameTups s8) fun a o u e => s8 _ _ e, hS7.same s8⟩
    clear hP2 T2 hP3 T3 hP4 T4 hP5 T5 hpl hS4 hS5 hScn b4 b5 s3 e3
    rintro _ H6 ⟨⟨v4, v5, v6, v7, rfl⟩, hP6, T6, pl6, hS6⟩
    -- things that are no kind
    obtain ⟨kvs, fvs, kd, fd, wd, ct, vd, ta', fl, g1, gk, gf, gw, gc, gt, gv, h1, h2, h3, h4, h5, h6, h7, m1, m2, m3, m4, m5, m6⟩ := hS6.get
    have kk1 := okS.kk.1
    have ek : ((List.range S.kk).map fun i => V.str (S.W.at i))[0]? = some (V.str (S.W.at 0)) := by
      rw [List.getElem?_map, List.getElem?_range (by omega)]
      rfl
    refine ⟨_, rfl, sc, _, rfl, dgS g1 gk, kd, _, _, _, rfl, rfl, SqL.of h1, (by exact atI_int (by decide) ek), ?_⟩
    obtain ⟨z0, ez0, zok0, zno0⟩ := okS.var0
    obtain ⟨mok, mno⟩ := okS.more
    obtain ⟨lok, lno⟩ := okS.less
    have bok := okS.w.strOk (k := 0) (by decide)
    have sz : (S.W.at 0).length ≤ 8 := by
      rw [show S.W.at 0 = tx _ from rfl, tx_len]
      exact okS.w.len 0
    refine ⟨fun σ' H' => ∃ (od : Addr) (xs : List V), σ' = [some (.ref a), some (.ref p), some (.int (0 + i)), some (.ref sc), v4, some (.str (S.W.at 0)), v6, v7, some (.ref od), some v, va] ∧ H' od = some (.lst xs) ∧ xs.length = 11 ∧ (∀ x ∈ xs, OddAt H' S.nms x) ∧ Same H6 H', ?_, ?_⟩
    · refine ⟨_, rfl, sc, _, rfl, dgS g1 gv, vd, _, _, _, rfl, rfl, SqL.of h6, (by exact atI_int (by decide) (by show (S.vars.map V.str)[0]? = some (V.str z0); rw [List.getElem?_map, ez0]; rfl)), ?_⟩
      refine ⟨_, rfl, _, _, rfl, rfl, Nat.le_of_lt (small1000 (by show (S.W.at 0).length + 1 ≤ 1000; omega)), ?_⟩
      refine ⟨_, rfl, _, rfl, _, rfl, _, rfl, Nat.le_of_lt (small1000 (by omega)), ?_⟩
      refine ⟨_, rfl, (by show 1 ≤ sizeLine; decide), fun tp htp => ?_⟩
      have s7 := same_new (Same.refl H6) htp (o := .tup [.str (S.W.at 0)])
      have e7 : upd H6 tp (.tup [.str (S.W.at 0)]) tp = some (.tup [.str (S.W.at 0)]) := upd_same
      generalize upd H6 tp (.tup [.str (S.W.at 0)]) = H7 at s7 e7 ⊢
      refine ⟨_, rfl, (by show 1 ≤ sizeLine; decide), fun lp hlp => ?_⟩
      have s8 := same_new (Same.refl H7) hlp (o := .lst [.str (S.W.at 0)])
      have e8 : upd H7 lp (.lst [.str (S.W.at 0)]) lp = some (.lst [.str (S.W.at 0)]) := upd_same
      generalize upd H7 lp (.lst [.str (S.W.at 0)]) = H8 at s8 e8 ⊢
      intro d hd
      have s9 := same_new (Same.refl H8) hd (o := .dK [])
      have e9 : upd H8 d (.dK []) d = some (.dK []) := upd_same
      generalize upd H8 d (.dK []) = H9 at s9 e9 ⊢
      refine ⟨_, _, rfl, rfl, ⟨by decide, by decide, by decide⟩, (by show 11 ≤ sizeLine; decide), fun od hod => ?_⟩
      have s10 := same_new (Same.refl H9) hod (o := .lst [.non, .bl true, .int 0, .str "", .str z0, .str (S.W.at 0 ++ "x"), .str (cutS (S.W.at 0) none (some (-1))), .ref tp, .ref lp, .ref d, .int ((10 : Int) ^ (Int.toNat 29))])
      refine ⟨od, _, rfl, upd_same, rfl, ?_, (((s7.trans s8).trans s9).trans s10)⟩
      have e710 := s10 _ _ (s9 _ _ (s8 _ _ e7))
      have e810 := s10 _ _ (s9 _ _ e8)
      have e910 := s10 _ _ e9
      intro x hx
      simp only [List.mem_cons, List.not_mem_nil, or_false] at hx
      rcases hx with rfl | rfl | rfl | rfl | rfl | rfl | rfl | rfl | rfl | rfl | rfl
      · exact ⟨.none, .non, .inl (.inl rfl), fun _ _ => rfl⟩
      · exact ⟨.bool true, .bl _, .inl (.inr (.inl ⟨_, rfl⟩)), fun _ _ => rfl⟩
      · exact ⟨.int 0, .int _, .inl (.inr (.inr (.inl ⟨_, rfl⟩))), fun _ _ => rfl⟩
      · exact OddAt.str (by decide +kernel) okS.void
      · exact OddAt.str zok0 zno0
      · exact OddAt.str mok mno
      · exact OddAt.str lok lno
      · exact ⟨.tuple [.str (S.W.at 0)], .tup (fun z => z.elim) e710 (.cons (.str _) .nil), .inl (.inr (.inr (.inr ⟨_, bok, .inr (.inl rfl)⟩))), fun _ _ => rfl⟩
      · exact ⟨.list [.str (S.W.at 0)], .lst (fun z => z.elim) e810 (.cons (.str _) .nil), .inl (.inr (.inr (.inr ⟨_, bok, .inr (.inr rfl)⟩))), fun _ _ => rfl⟩
      · exact ⟨.dict [], .dic (fun z => z.elim) e910 .nil, .inr rfl, fun _ _ => rfl⟩
      · exact ⟨.int _, .int _, .inl (.inr (.inr (.inl ⟨_, rfl⟩))), fun _ _ => rfl⟩
    rintro _ H7 ⟨od, xs, rfl, eod, lxs, odd7, s67⟩
    have hP7 := hP6.but (sameBut s67 fun _ => False) id id
    have T7 := Tabs.same T6 s67
    have pl7 := pl6.mono (sameTups s67) fun a o u e => s67 _ _ e
    clear h1 h2 h3 h4 h5 h6 h7 m1 m2 m3 m4 m5 m6 g1 gk gf gw gc gt gv hS6 hP6 T6 pl6 s67
    have nod := hP7.ne eod
    refine ⟨_, rfl, _, rfl, p, c, ns, _, _, xs, rfl, hP7, by omega, ⟨by omega, by omega, .inl ⟨od, rfl, .inl eod⟩⟩, fun t1 H8 hv1 hP8 b8 => ?_⟩
    have T8 := Tabs.but T7 b8 (softP hP7)
    have eod8 := b8 _ _ nod eod
    refine ⟨_, rfl, _, rfl, p, c, ns, _, _, xs, rfl, hP8, by omega, ⟨by omega, by omega, .inl ⟨od, rfl, .inl eod8⟩⟩, fun t2 H9 hv2 hP9 b9 => ⟨(by show 2 ≤ sizeLine; decide), fun tt htt => ?_⟩⟩
    have b79 := b8.trans b9
    have T9 := Tabs.but T8 b9 (softP hP8)
    have pl9 := pl7.mono (hP7.tups b79) (Soft.frzs b79 (softP hP7))
    have oddK : ∀ (x : V), OddAt H7 S.nms x → OddAt H9 S.nms x := fun x => by
      rintro ⟨d, hd, o, no⟩
      obtain ⟨at', lf, _, _, _, z4, _⟩ := hP7
      exact ⟨d, o.but hd b79 z4 (by simp [penK]), o, no⟩
    have odd1 := oddK _ (odd7 _ hv1)
    have odd2 := oddK _ (odd7 _ hv2)
    have s10 := same_new (Same.refl H9) htt (o := .tup [t1, t2])
    have e10 : upd H9 tt (.tup [t1, t2]) tt = some (.tup [t1, t2]) := upd_same
    have hP10 := hP9.new htt (o := .tup [t1, t2])
    have T10 := Tabs.same T9 s10
    have pl10 := pl9.mono (sameTups s10) fun a o u e => s10 _ _ e
    have odds : ∀ x ∈ [t1, t2], OddAt (upd H9 tt (.tup [t1, t2])) S.nms x := fun x hx => by
      simp only [List.mem_cons, List.not_mem_nil, or_false] at hx
      rcases hx with rfl | rfl
      · exact odd1.ext (ext_same s10)
      · exact odd2.ext (ext_same s10)
    generalize upd H9 tt (.tup [t1, t2]) = H10 at s10 e10 hP10 T10 pl10 odds ⊢
    refine ⟨tt, rfl, ⟨_, SqT.of e10⟩, for_tup (K := K) (a := tt) (xs := [t1, t2]) (fun j σ' H' => (∃ va : Option V, σ' = [some (.ref a), some (.ref p), some (.int (0 + i)), some (.ref sc), v4, some (.str (S.W.at 0)), v6, v7, some (.ref od), some v, va]) ∧ LamX.ExtN H10 H' ∧ LamX.Tabs [(cP, lamQ)] H') ?_ ?_ ?_ ?_⟩
    · exact ⟨⟨_, rfl⟩, LamX.ExtN.refl _, T10⟩
    · rintro j σ' H' _ ⟨_, e, _⟩
      exact SqT.of (e _ _ e10 fun _ z => nomatch z)
    · rintro j x σ' H11 hj ⟨⟨va, rfl⟩, e11, T11⟩
      obtain ⟨dx, hdx, o1, nox⟩ := odds x (List.mem_of_getElem? hj)
      have odd : OddD (ks.map (·.nm)) dx := ⟨fun z hz => nox z (hok.names z hz), o1.few.2, o1.few.1⟩
      -- fields_of
      refine ⟨T11, fun H12 e12 T12 E Q' hE => ⟨_, rfl, _, rfl, v, x, ks, dx, rfl, (pl10.ext e11).ext e12, (hdx.ext e11).ext e12, odd, fun dd u' H13 s13 e13 hd13 => hE dd u' H13 e13 fun l H14 s14 el => ?_⟩⟩
      have e1114 := (e12.trans (ext_same s13)).trans (ext_same s14)
      have T14 := Tabs.same (Tabs.same T12 s13) s14
      have hx14 := (hdx.ext e11).ext e1114
      have hu14 := hd13.mono (sameBut s14 nM)
      refine ⟨_, rfl, (by show 1 ≤ sizeLine; decide), fun l2 hl2 => ?_⟩
      have s15 := same_new (Same.refl H14) hl2 (o := .lst [x])
      have e15 : upd H14 l2 (.lst [x]) l2 = some (.lst [x]) := upd_same
      have T15 := Tabs.same T14 s15
      have hx15 := hx14.mono (sameBut s15 nM)
      have hu15 := hu14.mono (sameBut s15 nM)
      have el15 := s15 _ _ el
      have e1115 := (e11.trans e1114).trans (ext_same s15)
      generalize upd H14 l2 (.lst [x]) = H15 at e15 T15 hx15 hu15 el15 e1115 ⊢
      refine ⟨.inl ⟨l, l2, [u'], [x], rfl, rfl, SqL.of el15, SqL.of e15, .cons (o1.same hu15 hx15) .nil⟩, _, rfl, iteF ?_⟩
      -- words_of
      refine ⟨T15, fun H16 e16 T16 E Q' hE => ⟨_, rfl, _, rfl, v, x, ks, dx, rfl, (pl10.ext e1115).ext e16, hx15.ext e16, odd, fun dd u2 H17 s17 e17 hd17 => hE dd u2 H17 e17 fun l3 H18 s18 el3 => ?_⟩⟩
      have e1518 := (e16.trans (ext_same s17)).trans (ext_same s18)
      have T18 := Tabs.same (Tabs.same T16 s17) s18
      have hx18 := hx15.ext e1518
      have hu18 := hd17.mono (sameBut s18 nM)
      refine ⟨_, rfl, (by show 1 ≤ sizeLine; decide), fun l4 hl4 => ?_⟩
      have s19 := same_new (Same.refl H18) hl4 (o := .lst [x])
      have e19 : upd H18 l4 (.lst [x]) l4 = some (.lst [x]) := upd_same
      have T19 := Tabs.same T18 s19
      have hx19 := hx18.mono (sameBut s19 nM)
      have hu19 := hu18.mono (sameBut s19 nM)
      have el19 := s19 _ _ el3
      have e1119 := (e1115.trans e1518).trans (ext_same s19)
      generalize upd H18 l4 (.lst [x]) = H19 at e19 T19 hx19 hu19 el19 e1119 ⊢
      exact ⟨.inl ⟨l3, l4, [u2], [x], rfl, rfl, SqL.of el19, SqL.of e19, .cons (o1.same hu19 hx19) .nil⟩, _, rfl, iteF ⟨⟨_, rfl⟩, e1119, T19⟩⟩
    · rintro σ' H11 ⟨⟨va, rfl⟩, e11, T11⟩
      exact ⟨⟨_, _, _, _, _, _, _, _, _, rfl⟩, (hP10.ext e11).mono (by omega), T11⟩
  · rintro σ' H' ⟨⟨v2, v3, v4, v5, v6, v7, v8, v9, va, rfl⟩, _⟩
    exact go _
end
end K3
namespace GG
open PySem PySem.Spec PyProof.Rows L2
/-! ### the end of a law whose text shows things and makes lambdas: its own table of code objects at cP -/
/-- nothing is tracked but the script and the table -/
def Two (H : Hp) (a cP : Addr) : Prop := ∀ b u, H b = some u → (b = a ∧ ∃ o xs, u = .frz o (.lst xs)) ∨ (b = cP ∧ u = .tbl #[])
theorem law_callGT {P : Program} {w : World} {K : PySem.W.Frag} {mg mb : Str → Option Value} {k : Nat} {fa a cc cP : Addr} {fd : FuncData} {x : Str} {sp : Sp} {s₁ : Shared} {vs : List Value} {ns : List Int}
    (KX : K.In s₁.heap) (gN : s₁.heap.Ns mainGlobals mg) (bN : s₁.heap.Ns builtinsNs mb) (bB : ∀ x : Str, x ≠ "__name__" → mb x = bootBuiltins x) (lim : s₁.heap.NoLimit) (gen : s₁.gens = #[])
    (hT : s₁.heap.get? cP = some (PySem.W.tabObj #[])) (nT : K.lookup cP = none) (hC : PySem.W.CodeHd s₁.heap cc cP)
    (main' : ∃ (bm : Addr) (ob : Obj), mg "__builtins__" = some (.ref bm) ∧ bm ≠ builtinsNs ∧ s₁.heap.get? bm = some ob ∧ ob.cls = .type "module" ∧ ob.dict = some builtinsNs ∧ ob.data = .plain)
    (ha : s₁.heap.get? a = some { cls := .type "list", data := .seq vs.toArray }) (hi : IntsAre vs ns) (hl : ns.length ≤ sizeLine) (hr : Room k callerA)
    (F : ∀ b : Heap, K.In b → b.Ns mainGlobals mg → LamX.TabB b mg cc cP → FnG P w K mg b CX0 k fa fd [x] sp) (hb : ∀ (s : Shared) (u : Value), BindsTo s fd ⟨[u], []⟩ [(x, u)])
    (hs : ∀ H : Hp, H cP = some (.tbl #[]) → SqL K H a (ns.map V.int) → sp [.ref a] H (fun v _ => v = .bl true) fun _ _ _ => False) :
    codeAny (model P w) callerA (.call (.ref fa) ⟨[.ref a], []⟩) (fun r s' => r = .ok (.ret (.bool true)) ∧ OldK s₁.heap s'.heap ∧ s'.os = s₁.os ∧ AllBare s'.gens) s₁ := by
  have apart : a ≠ cP := fun z => by
    rw [z, hT] at ha
    cases ha
  have main : ∀ H : Hp, H cP = some (.tbl #[]) → Two H a cP → SqL K H a (ns.map V.int) → HOk P w H s₁.heap → (∀ b, b = a → H b ≠ none → K.lookup a = none) →
      codeAny (model P w) callerA (.call (.ref fa) ⟨[.ref a], []⟩) (fun r s' => r = .ok (.ret (.bool true)) ∧ OldK s₁.heap s'.heap ∧ s'.os = s₁.os ∧ AllBare s'.gens) s₁ := by
    intro H tb two hS ok aK
    have old : ∀ {b : Addr} {o : Obj}, s₁.heap.get? b = some o → (∀ us n, o.data ≠ .seq us n) → o.data ≠ .fields #[] → H b = none := by
      intro b o e n1 n2
      match q : H b with
      | none => rfl
      | some u =>
        rcases two b u q with ⟨rfl, _⟩ | ⟨rfl, _⟩
        · rw [ha] at e
          cases e
          exact absurd rfl (n1 _ _)
        · rw [hT] at e
          cases e
          exact absurd rfl n2
    have dic : ∀ {b : Addr} {o : Obj} {es : Array DictEntry} {ep : Nat}, s₁.heap.get? b = some o → o.data = .dict es ep → H b = none := fun {b o es ep} e d => old e (fun us n z => by rw [d] at z; cases z) fun z => by rw [d] at z; cases z
    have ns1 : ∀ {b : Addr} {m : Str → Option Value}, s₁.heap.Ns b m → (hidT s₁.heap H).Ns b m := by
      rintro b m ⟨o, es, ep, e, d, r⟩
      exact ⟨o, es, ep, hidT_get e (dic e d), d, r⟩
    have kin : K.In (hidT s₁.heap H) := by
      intro b o e
      refine hidT_get (KX b o e) ?_
      match q : H b with
      | none => rfl
      | some u =>
        rcases two b u q with ⟨eb, _⟩ | ⟨eb, _⟩
        · have z := aK b eb (by rw [q]; exact fun z => nomatch z)
          rw [eb, z] at e
          cases e
        · rw [eb, nT] at e
          cases e
    have TB : LamX.TabB (hidT s₁.heap H) mg cc cP := by
      refine ⟨?_, ?_, ?_⟩
      · obtain ⟨o, us, file, tf, flags, tg, inF, text, tt, e, r1, r2, r3, r⟩ := hC
        refine ⟨o, us, file, tf, flags, tg, inF, text, tt, hidT_get e (old e (fun us n z => ?_) fun z => ?_), r1, r2, r3, r⟩
        · rw [r2] at z
          cases z
        · rw [r2] at z
          cases z
          simp at r3
      · obtain ⟨bm, ob, b1, b2, b3, b4, b5, b6⟩ := main'
        refine ⟨bm, ob, b1, b2, fun z => ?_, fun z => ?_, hidT_get b3 (old b3 (fun us n z => ?_) fun z => ?_), b4, b5, b6⟩
        · obtain ⟨o, es, ep, e, d, _⟩ := gN
          rw [z, e] at b3
          cases b3
          rw [d] at b6
          cases b6
        · rw [z, hT] at b3
          cases b3
          cases b6
        · rw [b6] at z
          cases z
        · rw [b6] at z
          cases z
      · intro z
        obtain ⟨o, es, ep, e, d, _⟩ := gN
        rw [z, hT] at e
        cases e
        cases d
    obtain ⟨mc, l1, l2⟩ := lim
    have e0 : Env0 P w K mg (hidT s₁.heap H) callerA [] s₁ H :=
      { frames := rfl, mod := ⟨kin, ns1 gN, ⟨mb, ns1 bN, bB⟩, ⟨mc, ns1 l1, l2⟩⟩, bs := fun b o e => of_hidT e, bsz := Nat.le_of_eq (hidT_size _ _), funs := trivial, frf := fun b z => (List.not_mem_nil (show b ∈ ([] : List Addr) from z)).elim, hok := ok, bare := .of_eq gen }
    refine codeAny_mono ((F _ kin (ns1 gN) TB).2 callerA rfl hr [] s₁ H e0 ⟨[.ref a], []⟩ [.ref a] [.ref a] (hb s₁ (.ref a)) (.cons rfl .nil) _ _ (hs H tb hS)) ?_
    intro r s' z
    match r, z with
    | .error e, z => exact z.elim
    | .ok .next, z => exact z.elim
    | .ok .brk, z => exact z.elim
    | .ok .cont, z => exact z.elim
    | .ok (.ret u), ⟨v, H', os, bare, un, ok', rv, q⟩ =>
      have q' : v = .bl true := q
      subst q'
      have eu : u = Value.bool true := rv
      subst eu
      obtain ⟨more, gm⟩ := un.tbls cP #[] tb
      have grown := ok' cP _ gm
      have kept : ∀ b o, b ≠ cP → s₁.heap.get? b = some o → s'.heap.get? b = some o := by
        intro b o nb e
        match q : H b with
        | none => exact un.keep b o e q (fun z => List.not_mem_nil (show b ∈ ([] : List Addr) from z)) (fun z => List.not_mem_nil (show b ∈ ([] : List Addr) from z))
        | some u =>
          rcases two b u q with ⟨rfl, ob, xs, rfl⟩ | ⟨eb, _⟩
          · have i1 := (ok b _ q).1
            have i2 := (ok' b _ (un.frzs b ob _ q)).1
            rw [e] at i1
            cases i1
            exact i2
          · exact absurd eb nb
      refine ⟨rfl, ⟨fun b o e => ?_, fun b o e => ?_⟩, os, bare⟩
      · by_cases eb : b = cP
        · subst eb
          rw [hT] at e
          cases e
          exact .inr (.inl ⟨(hC.tab hT).isCodeTable, rfl, #[], more, rfl, by rw [Array.empty_append]; rw [Array.empty_append] at grown; exact grown⟩)
        · exact .inl (kept b o eb e)
      · by_cases eb : b = cP
        · rw [eb]
          exact ⟨_, grown⟩
        · exact ⟨o, kept b o eb e⟩
  have rv := vals_ints hi
  match hk : K.lookup a with
  | some o =>
    have e := KX a o hk
    rw [ha] at e
    cases e
    have at1 : ∀ {b : Addr} {u : HO}, (if b = cP then some (HO.tbl #[]) else none) = some u → b = cP ∧ u = .tbl #[] := by
      intro b u z
      by_cases eb : b = cP
      · rw [if_pos eb] at z
        exact ⟨eb, (Option.some.inj z).symm⟩
      · rw [if_neg eb] at z
        cases z
    refine main (fun b => if b = cP then some (.tbl #[]) else none) (if_pos rfl) (fun b u z => .inr (at1 z)) (.inr ⟨_, vs.toArray, _, hk, rfl, rfl, rfl, by rw [List.size_toArray, hi.length]; exact hl, by simpa using rv⟩) (fun b u z => ?_) (fun b eb z => ?_)
    · obtain ⟨rfl, rfl⟩ := at1 z
      exact hT
    · exact absurd (if_neg (fun y => apart (eb.symm.trans y))) z
  | none =>
    have at2 : ∀ {b : Addr} {u : HO}, (if b = a then some (HO.frz { cls := .type "list", data := .seq vs.toArray } (.lst (ns.map V.int))) else if b = cP then some (HO.tbl #[]) else none) = some u → (b = a ∧ u = HO.frz { cls := .type "list", data := .seq vs.toArray } (.lst (ns.map V.int))) ∨ (b = cP ∧ u = .tbl #[]) := by
      intro b u z
      by_cases eb : b = a
      · rw [if_pos eb] at z
        exact .inl ⟨eb, (Option.some.inj z).symm⟩
      · rw [if_neg eb] at z
        by_cases ec : b = cP
        · rw [if_pos ec] at z
          exact .inr ⟨ec, (Option.some.inj z).symm⟩
        · rw [if_neg ec] at z
          cases z
    refine main (fun b => if b = a then some (.frz { cls := .type "list", data := .seq vs.toArray } (.lst (ns.map V.int))) else if b = cP then some (.tbl #[]) else none) ((if_neg apart.symm).trans (if_pos rfl)) (fun b u z => ?_) (.inl (.inr ⟨{ cls := .type "list", data := .seq vs.toArray }, if_pos rfl⟩)) (fun b u z => ?_) (fun b _ _ => hk)
    · rcases at2 z with ⟨e, r⟩ | q
      · exact .inl ⟨e, _, _, r⟩
      · exact .inr q
    · rcases at2 z with ⟨rfl, rfl⟩ | ⟨rfl, rfl⟩
      · exact ⟨ha, by rw [List.length_map]; exact hl, vs, _, rv, ha⟩
      · exact hT
/-- the end of such a law -/
theorem walk_ofGT {l : PySem.W.OpenLaw} {n k : Nat} {q : Program} {loose : List Str} {XP : (Str → Option Value) → Heap → Prop} {YP : World → Heap → Prop} {d : DefRec} {K : Params → PySem.W.Frag} {x : Str}
    (hn : l.most = some n) (h2 : n ≤ sizeLine) (hd : d.params.defaults = []) (hr : Room k callerA) (hrec : ((recsOf q).any fun e => e.name == d.name) = true) (hY : ∀ (w : World) (h : Heap), YP w h → (K w.params).In h)
    (F : ∀ (w : World) (mg : Str → Option Value) (fa : Addr) (h : Heap), (K w.params).In h → h.Ns mainGlobals mg → mg d.name = some (.ref fa) → ∃ (fd : FuncData) (cc cP : Addr) (sp : Sp), PySem.W.tabIn (K w.params) d.name = some (cc, cP) ∧ (K w.params).lookup cP = none ∧ (∀ (s : Shared) (u : Value), BindsTo s fd ⟨[u], []⟩ [(x, u)]) ∧
      (∀ (H : Hp) (a : Addr) (ns : List Int), ns.length ≤ n → H cP = some (.tbl #[]) → SqL (K w.params) H a (ns.map V.int) → sp [.ref a] H (fun v _ => v = .bl true) fun _ _ _ => False) ∧
      ∀ b : Heap, (K w.params).In b → b.Ns mainGlobals mg → LamX.TabB b mg cc cP → FnG l.prog w (K w.params) mg b CX0 k fa fd [x] sp) :
    PySem.W.WalkO q loose XP YP l.row.toRowW d [] (fun f vs => PySem.call f vs) := by
  refine Att.attach_call hn hd ?_
  intro w s₀ s₁ mg mb fa o pm cd doc a vs ns G Y ho hod hcd hmg hobj hints hlen hg
  have KX := hY w _ Y
  obtain ⟨fd, cc, cP, sp, tI, nT, hb, hs, hF⟩ := F w mg fa _ KX G.T.g hmg
  obtain ⟨r, hm, hx⟩ := List.any_eq_true.mp hrec
  obtain ⟨r', hf⟩ : ∃ r', (recsOf q).find? (fun e => e.name == d.name) = some r' := Option.isSome_iff_exists.mp (List.find?_isSome.mpr ⟨r, hm, hx⟩)
  obtain ⟨hC, hT⟩ := PySem.W.tab_of G.T KX hf tI
  exact law_callGT KX G.T.g G.T.b G.T.builtins G.T.nolimit hg hT nT hC G.T.bmain hobj hints (Nat.le_trans hlen h2) hr hF hb (fun H hH hS => hs H a ns hlen hH hS)
end GG
namespace K3
open PySem PySem.Spec PyProof.Rows L2 GG
theorem exm_own5 {K : PySem.W.Frag} {S : Addr} (h1 : PySem.W.subIn K (.ref S) (.type "BaseException") = some true) (h2 : PySem.W.isClsIn K S = true) (h3 : PySem.W.typeIn K (.ref S) = some (.type "type")) (h4 : PySem.W.subIn K (.ref S) (.ref S) = some true) :
    PySem.W.exmOne K (.ref S) (.ref S) = some true := by
  have a1 : (PySem.W.subIn K (.ref S) (.type "BaseException") == some true) = true := by rw [h1] <;> rfl
  have a2 : ((PySem.W.clsIn K S).isSome && PySem.W.typeIn K (.ref S) == some (.type "type")) = true := by
    have h2' : (PySem.W.clsIn K S).isSome = true := h2
    rw [h2', h3] <;> rfl
  unfold PySem.W.exmOne
  rw [if_pos a1]
  show (if ((PySem.W.clsIn K S).isSome && PySem.W.typeIn K (.ref S) == some (.type "type")) = true then PySem.W.subIn K (.ref S) (.ref S) else none) = some true
  rw [if_pos a2]
  exact h4
/-- what is asked of the law at the walk's end -/
def EndK (l : PySem.W.OpenLaw) (w : World) (K : PySem.W.Frag) (mg : Str → Option Value) (fa : Addr) : Prop :=
  ∃ (fd : FuncData) (cc cP : Addr) (sp : Sp), PySem.W.tabIn K "law" = some (cc, cP) ∧ K.lookup cP = none ∧ (∀ (s : Shared) (u : Value), BindsTo s fd ⟨[u], []⟩ [("_law_script", u)]) ∧
    (∀ (H : Hp) (a : Addr) (ns : List Int), ns.length ≤ 63 → H cP = some (.tbl #[]) → SqL K H a (ns.map V.int) → sp [.ref a] H (fun v _ => v = .bl true) fun _ _ _ => False) ∧
    ∀ base : Heap, K.In base → base.Ns mainGlobals mg → LamX.TabB base mg cc cP → FnG l.prog w K mg base CX0 13 fa fd ["_law_script"] sp
theorem all_mk {l : PySem.W.OpenLaw} {w : World} {K : PySem.W.Frag} {h : Heap} {mg : Str → Option Value} {fa : Addr} (X : K.In h) (G : h.Ns mainGlobals mg) (hfa : mg "law" = some (.ref fa))
    {f__law_pen : Addr} {od__law_pen an__law_pen : Option Addr} {sl__law_pen : Array (Option Value)} {oc__law_pen kV__law_pen dc__law_pen pm__law_pen ct__law_pen : Value} {cd__law_pen : Value}
    {f__law_draw : Addr} {od__law_draw an__law_draw : Option Addr} {sl__law_draw : Array (Option Value)} {oc__law_draw kV__law_draw dc__law_draw pm__law_draw ct__law_draw : Value} {cd__law_draw : Value}
    {f__law_pick : Addr} {od__law_pick an__law_pick : Option Addr} {sl__law_pick : Array (Option Value)} {oc__law_pick kV__law_pick dc__law_pick pm__law_pick ct__law_pick : Value} {cd__law_pick : Value}
    {f__law_words : Addr} {od__law_words an__law_words : Option Addr} {sl__law_words : Array (Option Value)} {oc__law_words kV__law_words dc__law_words pm__law_words ct__law_words : Value} {cd__law_words : Value}
    {f__law_plain : Addr} {od__law_plain an__law_plain : Option Addr} {sl__law_plain : Array (Option Value)} {oc__law_plain kV__law_plain dc__law_plain pm__law_plain ct__law_plain : Value} {cd__law_plain : Value}
    {f__law_scene : Addr} {od__law_scene an__law_scene : Option Addr} {sl__law_scene : Array (Option Value)} {oc__law_scene kV__law_scene dc__law_scene pm__law_scene ct__law_scene : Value} {cd__law_scene : Value}
    {f__law_value : Addr} {od__law_value an__law_value : Option Addr} {sl__law_value : Array (Option Value)} {oc__law_value kV__law_value dc__law_value pm__law_value ct__law_value : Value} {cd__law_value : Value}
    {f__law_values : Addr} {od__law_values an__law_values : Option Addr} {sl__law_values : Array (Option Value)} {oc__law_values kV__law_values dc__law_values pm__law_values ct__law_values : Value} {cd__law_values : Value}
    {f__law_hold_of : Addr} {od__law_hold_of an__law_hold_of : Option Addr} {sl__law_hold_of : Array (Option Value)} {oc__law_hold_of kV__law_hold_of dc__law_hold_of pm__law_hold_of ct__law_hold_of : Value} {cd__law_hold_of : Value}
    {f__law_deed : Addr} {od__law_deed an__law_deed : Option Addr} {sl__law_deed : Array (Option Value)} {oc__law_deed kV__law_deed dc__law_deed pm__law_deed ct__law_deed : Value} {cd__law_deed : Value}
    {f__law_deeds : Addr} {od__law_deeds an__law_deeds : Option Addr} {sl__law_deeds : Array (Option Value)} {oc__law_deeds kV__law_deeds dc__law_deeds pm__law_deeds ct__law_deeds : Value} {cd__law_deeds : Value}
    {f__law_plan : Addr} {od__law_plan an__law_plan : Option Addr} {sl__law_plan : Array (Option Value)} {oc__law_plan kV__law_plan dc__law_plan pm__law_plan ct__law_plan : Value} {cd__law_plan : Value}
    {f__law_refused : Addr} {od__law_refused an__law_refused : Option Addr} {sl__law_refused : Array (Option Value)} {oc__law_refused kV__law_refused dc__law_refused pm__law_refused ct__law_refused : Value} {cd__law_refused : Value}
    {f__law_other : Addr} {od__law_other an__law_other : Option Addr} {sl__law_other : Array (Option Value)} {oc__law_other kV__law_other dc__law_other pm__law_other ct__law_other : Value} {cd__law_other : Value}
    {f__law_told_right : Addr} {od__law_told_right an__law_told_right : Option Addr} {sl__law_told_right : Array (Option Value)} {oc__law_told_right kV__law_told_right dc__law_told_right pm__law_told_right ct__law_told_right : Value} {cd__law_told_right : Value}
    {f_copied : Addr} {od_copied an_copied : Option Addr} {sl_copied : Array (Option Value)} {oc_copied kV_copied dc_copied pm_copied ct_copied : Value} {cd_copied : Value}
    {f_kind_of : Addr} {od_kind_of an_kind_of : Option Addr} {sl_kind_of : Array (Option Value)} {oc_kind_of kV_kind_of dc_kind_of pm_kind_of ct_kind_of : Value} {cd_kind_of : Value}
    {f_fields_of : Addr} {od_fields_of an_fields_of : Option Addr} {sl_fields_of : Array (Option Value)} {oc_fields_of kV_fields_of dc_fields_of pm_fields_of ct_fields_of : Value} {cd_fields_of : Value}
    {f_words_of : Addr} {od_words_of an_words_of : Option Addr} {sl_words_of : Array (Option Value)} {oc_words_of kV_words_of dc_words_of pm_words_of ct_words_of : Value} {cd_words_of : Value}
    {D A1 A2 NN cc cP : Addr} {nm qn : Str} {bs sub : List Value} {sn : List Str} {ab : Bool} {col : Option Bool} {dd dC : Option Addr} {mm0 mm1 mm2 mm3 mm5 : Option Value} {eC : Value} {vC : Array Value} {slC : Array (Option Value)}
    {f_law : Addr} {od_law an_law : Option Addr} {sl_law : Array (Option Value)} {oc_law kV_law dc_law pm_law ct_law : Value}
    {f_I : Addr} {od_I an_I : Option Addr} {sl_I : Array (Option Value)} {oc_I kV_I dc_I pm_I ct_I : Value} {cd_I : Value}
    (a__law_pen : PySem.W.nsIn K mainGlobals "_law_pen" = some (some (.ref f__law_pen)))
    (l__law_pen : K.lookup f__law_pen = some ⟨oc__law_pen, od__law_pen, .func (PySem.W.fnOf "_law_pen" "_law_pen" (defArgs sPen) (defBody sPen) (defScope sPen) .none kV__law_pen dc__law_pen pm__law_pen an__law_pen cd__law_pen ct__law_pen), sl__law_pen⟩)
    (c__law_pen : PySem.W.codeIn K cd__law_pen "_law_pen" = true)
    (k__law_pen : PySem.W.keepIn K (.ref f__law_pen) = true)
    (a__law_draw : PySem.W.nsIn K mainGlobals "_law_draw" = some (some (.ref f__law_draw)))
    (l__law_draw : K.lookup f__law_draw = some ⟨oc__law_draw, od__law_draw, .func (PySem.W.fnOf "_law_draw" "_law_draw" (defArgs sDraw) (defBody sDraw) (defScope sDraw) .none kV__law_draw dc__law_draw pm__law_draw an__law_draw cd__law_draw ct__law_draw), sl__law_draw⟩)
    (c__law_draw : PySem.W.codeIn K cd__law_draw "_law_draw" = true)
    (k__law_draw : PySem.W.keepIn K (.ref f__law_draw) = true)
    (a__law_pick : PySem.W.nsIn K mainGlobals "_law_pick" = some (some (.ref f__law_pick)))
    (l__law_pick : K.lookup f__law_pick = some ⟨oc__law_pick, od__law_pick, .func (PySem.W.fnOf "_law_pick" "_law_pick" (defArgs sPick) (defBody sPick) (defScope sPick) .none kV__law_pick dc__law_pick pm__law_pick an__law_pick cd__law_pick ct__law_pick), sl__law_pick⟩)
    (c__law_pick : PySem.W.codeIn K cd__law_pick "_law_pick" = true)
    (k__law_pick : PySem.W.keepIn K (.ref f__law_pick) = true)
    (a__law_words : PySem.W.nsIn K mainGlobals "_law_words" = some (some (.ref f__law_words)))
    (l__law_words : K.lookup f__law_words = some ⟨oc__law_words, od__law_words, .func (PySem.W.fnOf "_law_words" "_law_words" (defArgs sWords) (defBody sWords) (defScope sWords) .none kV__law_words dc__law_words pm__law_words an__law_words cd__law_words ct__law_words), sl__law_words⟩)
    (c__law_words : PySem.W.codeIn K cd__law_words "_law_words" = true)
    (k__law_words : PySem.W.keepIn K (.ref f__law_words) = true)
    (a__law_plain : PySem.W.nsIn K mainGlobals "_law_plain" = some (some (.ref f__law_plain)))
    (l__law_plain : K.lookup f__law_plain = some ⟨oc__law_plain, od__law_plain, .func (PySem.W.fnOf "_law_plain" "_law_plain" (defArgs sPlain) (defBody sPlain) (defScope sPlain) .none kV__law_plain dc__law_plain pm__law_plain an__law_plain cd__law_plain ct__law_plain), sl__law_plain⟩)
    (c__law_plain : PySem.W.codeIn K cd__law_plain "_law_plain" = true)
    (k__law_plain : PySem.W.keepIn K (.ref f__law_plain) = true)
    (a__law_scene : PySem.W.nsIn K mainGlobals "_law_scene" = some (some (.ref f__law_scene)))
    (l__law_scene : K.lookup f__law_scene = some ⟨oc__law_scene, od__law_scene, .func (PySem.W.fnOf "_law_scene" "_law_scene" (defArgs sScene) (defBody sScene) (defScope sScene) .none kV__law_scene dc__law_scene pm__law_scene an__law_scene cd__law_scene ct__law_scene), sl__law_scene⟩)
    (c__law_scene : PySem.W.codeIn K cd__law_scene "_law_scene" = true)
    (k__law_scene : PySem.W.keepIn K (.ref f__law_scene) = true)
    (a__law_value : PySem.W.nsIn K mainGlobals "_law_value" = some (some (.ref f__law_value)))
    (l__law_value : K.lookup f__law_value = some ⟨oc__law_value, od__law_value, .func (PySem.W.fnOf "_law_value" "_law_value" (defArgs sVal) (defBody sVal) (defScope sVal) .none kV__law_value dc__law_value pm__law_value an__law_value cd__law_value ct__law_value), sl__law_value⟩)
    (c__law_value : PySem.W.codeIn K cd__law_value "_law_value" = true)
    (k__law_value : PySem.W.keepIn K (.ref f__law_value) = true)
    (a__law_values : PySem.W.nsIn K mainGlobals "_law_values" = some (some (.ref f__law_values)))
    (l__law_values : K.lookup f__law_values = some ⟨oc__law_values, od__law_values, .func (PySem.W.fnOf "_law_values" "_law_values" (defArgs sVals) (defBody sVals) (defScope sVals) .none kV__law_values dc__law_values pm__law_values an__law_values cd__law_values ct__law_values), sl__law_values⟩)
    (c__law_values : PySem.W.codeIn K cd__law_values "_law_values" = true)
    (k__law_values : PySem.W.keepIn K (.ref f__law_values) = true)
    (a__law_hold_of : PySem.W.nsIn K mainGlobals "_law_hold_of" = some (some (.ref f__law_hold_of)))
    (l__law_hold_of : K.lookup f__law_hold_of = some ⟨oc__law_hold_of, od__law_hold_of, .func (PySem.W.fnOf "_law_hold_of" "_law_hold_of" (defArgs sHoldOf) (defBody sHoldOf) (defScope sHoldOf) .none kV__law_hold_of dc__law_hold_of pm__law_hold_of an__law_hold_of cd__law_hold_of ct__law_hold_of), sl__law_hold_of⟩)
    (c__law_hold_of : PySem.W.codeIn K cd__law_hold_of "_law_hold_of" = true)
    (k__law_hold_of : PySem.W.keepIn K (.ref f__law_hold_of) = true)
    (a__law_deed : PySem.W.nsIn K mainGlobals "_law_deed" = some (some (.ref f__law_deed)))
    (l__law_deed : K.lookup f__law_deed = some ⟨oc__law_deed, od__law_deed, .func (PySem.W.fnOf "_law_deed" "_law_deed" (defArgs sDeed) (defBody sDeed) (defScope sDeed) .none kV__law_deed dc__law_deed pm__law_deed an__law_deed cd__law_deed ct__law_deed), sl__law_deed⟩)
    (c__law_deed : PySem.W.codeIn K cd__law_deed "_law_deed" = true)
    (k__law_deed : PySem.W.keepIn K (.ref f__law_deed) = true)
    (a__law_deeds : PySem.W.nsIn K mainGlobals "_law_deeds" = some (some (.ref f__law_deeds)))
    (l__law_deeds : K.lookup f__law_deeds = some ⟨oc__law_deeds, od__law_deeds, .func (PySem.W.fnOf "_law_deeds" "_law_deeds" (defArgs sDeeds) (defBody sDeeds) (defScope sDeeds) .none kV__law_deeds dc__law_deeds pm__law_deeds an__law_deeds cd__law_deeds ct__law_deeds), sl__law_deeds⟩)
    (c__law_deeds : PySem.W.codeIn K cd__law_deeds "_law_deeds" = true)
    (k__law_deeds : PySem.W.keepIn K (.ref f__law_deeds) = true)
    (a__law_plan : PySem.W.nsIn K mainGlobals "_law_plan" = some (some (.ref f__law_plan)))
    (l__law_plan : K.lookup f__law_plan = some ⟨oc__law_plan, od__law_plan, .func (PySem.W.fnOf "_law_plan" "_law_plan" (defArgs sPlan) (defBody sPlan) (defScope sPlan) .none kV__law_plan dc__law_plan pm__law_plan an__law_plan cd__law_plan ct__law_plan), sl__law_plan⟩)
    (c__law_plan : PySem.W.codeIn K cd__law_plan "_law_plan" = true)
    (k__law_plan : PySem.W.keepIn K (.ref f__law_plan) = true)
    (a__law_refused : PySem.W.nsIn K mainGlobals "_law_refused" = some (some (.ref f__law_refused)))
    (l__law_refused : K.lookup f__law_refused = some ⟨oc__law_refused, od__law_refused, .func (PySem.W.fnOf "_law_refused" "_law_refused" (defArgs sRefused) (defBody sRefused) (defScope sRefused) .none kV__law_refused dc__law_refused pm__law_refused an__law_refused cd__law_refused ct__law_refused), sl__law_refused⟩)
    (c__law_refused : PySem.W.codeIn K cd__law_refused "_law_refused" = true)
    (k__law_refused : PySem.W.keepIn K (.ref f__law_refused) = true)
    (a__law_other : PySem.W.nsIn K mainGlobals "_law_other" = some (some (.ref f__law_other)))
    (l__law_other : K.lookup f__law_other = some ⟨oc__law_other, od__law_other, .func (PySem.W.fnOf "_law_other" "_law_other" (defArgs sOther) (defBody sOther) (defScope sOther) .none kV__law_other dc__law_other pm__law_other an__law_other cd__law_other ct__law_other), sl__law_other⟩)
    (c__law_other : PySem.W.codeIn K cd__law_other "_law_other" = true)
    (k__law_other : PySem.W.keepIn K (.ref f__law_other) = true)
    (a__law_told_right : PySem.W.nsIn K mainGlobals "_law_told_right" = some (some (.ref f__law_told_right)))
    (l__law_told_right : K.lookup f__law_told_right = some ⟨oc__law_told_right, od__law_told_right, .func (PySem.W.fnOf "_law_told_right" "_law_told_right" (defArgs sTold) (defBody sTold) (defScope sTold) .none kV__law_told_right dc__law_told_right pm__law_told_right an__law_told_right cd__law_told_right ct__law_told_right), sl__law_told_right⟩)
    (c__law_told_right : PySem.W.codeIn K cd__law_told_right "_law_told_right" = true)
    (k__law_told_right : PySem.W.keepIn K (.ref f__law_told_right) = true)
    (a_copied : PySem.W.nsIn K mainGlobals "copied" = some (some (.ref f_copied)))
    (l_copied : K.lookup f_copied = some ⟨oc_copied, od_copied, .func (PySem.W.fnOf "copied" "copied" (defArgs sCopied) (defBody sCopied) (defScope sCopied) .none kV_copied dc_copied pm_copied an_copied cd_copied ct_copied), sl_copied⟩)
    (c_copied : PySem.W.codeIn K cd_copied "copied" = true)
    (k_copied : PySem.W.keepIn K (.ref f_copied) = true)
    (a_kind_of : PySem.W.nsIn K mainGlobals "kind_of" = some (some (.ref f_kind_of)))
    (l_kind_of : K.lookup f_kind_of = some ⟨oc_kind_of, od_kind_of, .func (PySem.W.fnOf "kind_of" "kind_of" (defArgs sKind3) (defBody sKind3) (defScope sKind3) .none kV_kind_of dc_kind_of pm_kind_of an_kind_of cd_kind_of ct_kind_of), sl_kind_of⟩)
    (c_kind_of : PySem.W.codeIn K cd_kind_of "kind_of" = true)
    (k_kind_of : PySem.W.keepIn K (.ref f_kind_of) = true)
    (a_fields_of : PySem.W.nsIn K mainGlobals "fields_of" = some (some (.ref f_fields_of)))
    (l_fields_of : K.lookup f_fields_of = some ⟨oc_fields_of, od_fields_of, .func (PySem.W.fnOf "fields_of" "fields_of" (defArgs sFields3) (defBody sFields3) (defScope sFields3) .none kV_fields_of dc_fields_of pm_fields_of an_fields_of cd_fields_of ct_fields_of), sl_fields_of⟩)
    (c_fields_of : PySem.W.codeIn K cd_fields_of "fields_of" = true)
    (k_fields_of : PySem.W.keepIn K (.ref f_fields_of) = true)
    (a_words_of : PySem.W.nsIn K mainGlobals "words_of" = some (some (.ref f_words_of)))
    (l_words_of : K.lookup f_words_of = some ⟨oc_words_of, od_words_of, .func (PySem.W.fnOf "words_of" "words_of" (defArgs sWords3) (defBody sWords3) (defScope sWords3) .none kV_words_of dc_words_of pm_words_of an_words_of cd_words_of ct_words_of), sl_words_of⟩)
    (c_words_of : PySem.W.codeIn K cd_words_of "words_of" = true)
    (k_words_of : PySem.W.keepIn K (.ref f_words_of) = true)
    (a_law : PySem.W.nsIn K mainGlobals "law" = some (some (.ref f_law)))
    (l_law : K.lookup f_law = some ⟨oc_law, od_law, .func (PySem.W.fnOf "law" "law" (defArgs sLaw) (defBody sLaw) (defScope sLaw) .none kV_law dc_law pm_law an_law (.ref cc) ct_law), sl_law⟩)
    (c_law : PySem.W.codeIn K (.ref cc) "law" = true)
    (k_law : PySem.W.keepIn K (.ref f_law) = true)
    (lC : K.lookup cc = some ⟨eC, dC, .fields vC, slC⟩)
    (v11 : vC[11]? = some (.ref cP))
    (nT : K.lookup cP = none)
    (aD : PySem.W.nsIn K mainGlobals "NoKind" = some (some (.ref D)))
    (aA1 : PySem.W.nsIn K mainGlobals "BadPlan" = some (some (.ref A1)))
    (aA2 : PySem.W.nsIn K mainGlobals "NoName" = some (some (.ref A2)))
    (zKE : PySem.W.nsIn K mainGlobals "KeyError" = some none)
    (xL : K.lookup D = some (excClassObj nm qn D NN bs keyTail true sn sub ab col dd mm0 mm1 mm2 mm3 mm5 "LookupError.__new__"))
    (dsa : PySem.W.findIn K (.ref D) "__setattr__" = some (some (.builtin "object.__setattr__")))
    (dga : PySem.W.findIn K (.ref D) "__getattribute__" = some (some (.builtin "BaseException.__getattribute__")))
    (dgg : PySem.W.findIn K (.ref D) "__getattr__" = some none)
    (dna : PySem.W.findIn K (.ref D) "kind" = some none)
    (diC : PySem.W.findIn K (.ref D) "__init__" = some (some (.ref f_I)))
    (dtI : PySem.W.typeIn K (.ref f_I) = some (.type "function"))
    (l_I : K.lookup f_I = some ⟨oc_I, od_I, .func (PySem.W.fnOf "__init__" "NoKind.__init__" (defArgs sNoKindI) (defBody sNoKindI) (defScope sNoKindI) .none kV_I dc_I pm_I an_I cd_I ct_I), sl_I⟩)
    (c_I : PySem.W.codeIn K cd_I "NoKind.__init__" = true)
    (k_I : PySem.W.keepIn K (.ref f_I) = true)
    (dkC : PySem.W.keepIn K (.ref D) = true)
    (deC : PySem.W.subIn K (.ref D) (.type "BaseException") = some true)
    (dtC : PySem.W.typeIn K (.ref D) = some (.type "type"))
    (dhC : PySem.W.hasDictIn K D = true)
    (dic : PySem.W.isClsIn K D = true)
    (dsd : PySem.W.subIn K (.ref D) (.ref D) = some true)
    (dca : PySem.W.findIn K (.ref D) "__class__" = some (some (.builtin "object.__class__")))
    (dcg : PySem.W.specialIn K (.builtin "object.__class__") "__get__" = some (some (.builtin "getset_descriptor.__get__")))
    (dct : PySem.W.takesIn K (.builtin "object.__class__") = some true)
    (dmr : PySem.W.mroIn K D (.type "object") = some true)
    (kitA : PySem.W.kitAny K (.ref D) [.ref A1, .ref A2] = some false)
    (kitV : PySem.W.kitOne K (.ref D) (.type "KeyError") = some true)
    (z_len : PySem.W.nsIn K mainGlobals "len" = some none) (z_abs : PySem.W.nsIn K mainGlobals "abs" = some none) (z_list : PySem.W.nsIn K mainGlobals "list" = some none) (z_tuple : PySem.W.nsIn K mainGlobals "tuple" = some none) (z_dict : PySem.W.nsIn K mainGlobals "dict" = some none) (z_range : PySem.W.nsIn K mainGlobals "range" = some none) (z_int : PySem.W.nsIn K mainGlobals "int" = some none) (z_max : PySem.W.nsIn K mainGlobals "max" = some none) (z_sorted : PySem.W.nsIn K mainGlobals "sorted" = some none) (z_repr : PySem.W.nsIn K mainGlobals "repr" = some none) (z_isinstance : PySem.W.nsIn K mainGlobals "isinstance" = some none) :
    EndK l w K mg fa := by
  have e := hfa.symm.trans (PySem.W.mg_of X G a_law)
  cases e
  have T : Txt mg := ⟨PySem.W.mg_none_of X G z_len, PySem.W.mg_none_of X G z_abs, PySem.W.mg_none_of X G z_list, PySem.W.mg_none_of X G z_tuple, PySem.W.mg_none_of X G z_dict, PySem.W.mg_none_of X G z_range, PySem.W.mg_none_of X G z_int, PySem.W.mg_none_of X G z_max, PySem.W.mg_none_of X G z_sorted, PySem.W.mg_none_of X G z_repr, PySem.W.mg_none_of X G z_isinstance⟩
  have F__law_pen := fun_mk (st := sPen) l__law_pen c__law_pen k__law_pen
  have m__law_pen := PySem.W.mg_of X G a__law_pen
  have b__law_pen := F__law_pen.binds (ps := ["_law_script"]) fun _ _ _ _ _ _ us hl => match us, hl with | [_], _ => rfl
  have F__law_draw := fun_mk (st := sDraw) l__law_draw c__law_draw k__law_draw
  have m__law_draw := PySem.W.mg_of X G a__law_draw
  have b__law_draw := F__law_draw.binds (ps := ["_law_pen_here", "_law_many"]) fun _ _ _ _ _ _ us hl => match us, hl with | [_, _], _ => rfl
  have F__law_pick := fun_mk (st := sPick) l__law_pick c__law_pick k__law_pick
  have m__law_pick := PySem.W.mg_of X G a__law_pick
  have b__law_pick := F__law_pick.binds (ps := ["_law_pen_here", "_law_some"]) fun _ _ _ _ _ _ us hl => match us, hl with | [_, _], _ => rfl
  have F__law_words := fun_mk (st := sWords) l__law_words c__law_words k__law_words
  have m__law_words := PySem.W.mg_of X G a__law_words
  have b__law_words := F__law_words.binds (ps := ["_law_pen_here", "_law_many"]) fun _ _ _ _ _ _ us hl => match us, hl with | [_, _], _ => rfl
  have F__law_plain := fun_mk (st := sPlain) l__law_plain c__law_plain k__law_plain
  have m__law_plain := PySem.W.mg_of X G a__law_plain
  have b__law_plain := F__law_plain.binds (ps := ["_law_pen_here"]) fun _ _ _ _ _ _ us hl => match us, hl with | [_], _ => rfl
  have F__law_scene := fun_mk (st := sScene) l__law_scene c__law_scene k__law_scene
  have m__law_scene := PySem.W.mg_of X G a__law_scene
  have b__law_scene := F__law_scene.binds (ps := ["_law_pen_here", "_law_houses"]) fun _ _ _ _ _ _ us hl => match us, hl with | [_, _], _ => rfl
  have F__law_value := fun_mk (st := sVal) l__law_value c__law_value k__law_value
  have m__law_value := PySem.W.mg_of X G a__law_value
  have b__law_value := F__law_value.binds (ps := ["_law_pen_here", "_law_scene_here", "_law_breed", "_law_known", "_law_deep"]) fun _ _ _ _ _ _ us hl => match us, hl with | [_, _, _, _, _], _ => rfl
  have F__law_values := fun_mk (st := sVals) l__law_values c__law_values k__law_values
  have m__law_values := PySem.W.mg_of X G a__law_values
  have b__law_values := F__law_values.binds (ps := ["_law_pen_here", "_law_scene_here", "_law_breed", "_law_known", "_law_many"]) fun _ _ _ _ _ _ us hl => match us, hl with | [_, _, _, _, _], _ => rfl
  have F__law_hold_of := fun_mk (st := sHoldOf) l__law_hold_of c__law_hold_of k__law_hold_of
  have m__law_hold_of := PySem.W.mg_of X G a__law_hold_of
  have b__law_hold_of := F__law_hold_of.binds (ps := ["_law_pen_here", "_law_scene_here", "_law_breed", "_law_known"]) fun _ _ _ _ _ _ us hl => match us, hl with | [_, _, _, _], _ => rfl
  have F__law_deed := fun_mk (st := sDeed) l__law_deed c__law_deed k__law_deed
  have m__law_deed := PySem.W.mg_of X G a__law_deed
  have b__law_deed := F__law_deed.binds (ps := ["_law_pen_here", "_law_scene_here", "_law_breed", "_law_rank", "_law_known", "_law_within"]) fun _ _ _ _ _ _ us hl => match us, hl with | [_, _, _, _, _, _], _ => rfl
  have F__law_deeds := fun_mk (st := sDeeds) l__law_deeds c__law_deeds k__law_deeds
  have m__law_deeds := PySem.W.mg_of X G a__law_deeds
  have b__law_deeds := F__law_deeds.binds (ps := ["_law_pen_here", "_law_scene_here", "_law_breed", "_law_rank", "_law_known", "_law_within", "_law_many"]) fun _ _ _ _ _ _ us hl => match us, hl with | [_, _, _, _, _, _, _], _ => rfl
  have F__law_plan := fun_mk (st := sPlan) l__law_plan c__law_plan k__law_plan
  have m__law_plan := PySem.W.mg_of X G a__law_plan
  have b__law_plan := F__law_plan.binds (ps := ["_law_pen_here", "_law_scene_here"]) fun _ _ _ _ _ _ us hl => match us, hl with | [_, _], _ => rfl
  have F__law_refused := fun_mk (st := sRefused) l__law_refused c__law_refused k__law_refused
  have m__law_refused := PySem.W.mg_of X G a__law_refused
  have b__law_refused := F__law_refused.binds (ps := ["_law_naming"]) fun _ _ _ _ _ _ us hl => match us, hl with | [_], _ => rfl
  have F__law_other := fun_mk (st := sOther) l__law_other c__law_other k__law_other
  have m__law_other := PySem.W.mg_of X G a__law_other
  have b__law_other := F__law_other.binds (ps := ["_law_pen_here", "_law_scene_here", "_law_book"]) fun _ _ _ _ _ _ us hl => match us, hl with | [_, _, _], _ => rfl
  have F__law_told_right := fun_mk (st := sTold) l__law_told_right c__law_told_right k__law_told_right
  have m__law_told_right := PySem.W.mg_of X G a__law_told_right
  have b__law_told_right := F__law_told_right.binds (ps := ["_law_plan_here", "_law_breed", "_law_slots", "_law_methods"]) fun _ _ _ _ _ _ us hl => match us, hl with | [_, _, _, _], _ => rfl
  have F_copied := fun_mk (st := sCopied) l_copied c_copied k_copied
  have m_copied := PySem.W.mg_of X G a_copied
  have b_copied := F_copied.binds (ps := ["thing"]) fun _ _ _ _ _ _ us hl => match us, hl with | [_], _ => rfl
  have F_kind_of := fun_mk (st := sKind3) l_kind_of c_kind_of k_kind_of
  have m_kind_of := PySem.W.mg_of X G a_kind_of
  have b_kind_of := F_kind_of.binds (ps := ["plan", "kind"]) fun _ _ _ _ _ _ us hl => match us, hl with | [_, _], _ => rfl
  have F_fields_of := fun_mk (st := sFields3) l_fields_of c_fields_of k_fields_of
  have m_fields_of := PySem.W.mg_of X G a_fields_of
  have b_fields_of := F_fields_of.binds (ps := ["plan", "kind"]) fun _ _ _ _ _ _ us hl => match us, hl with | [_, _], _ => rfl
  have F_words_of := fun_mk (st := sWords3) l_words_of c_words_of k_words_of
  have m_words_of := PySem.W.mg_of X G a_words_of
  have b_words_of := F_words_of.binds (ps := ["plan", "kind"]) fun _ _ _ _ _ _ us hl => match us, hl with | [_, _], _ => rfl
  have F_I := fun_mk (st := sNoKindI) l_I c_I k_I
  have b_I := F_I.binds (ps := ["self", "kind"]) fun _ _ _ _ _ _ us hl => match us, hl with | [_, _], _ => rfl
  have NC : NkC K D := ⟨⟨⟨_, _, _, _, _, _, _, _, _, _, _, _, _, _, xL⟩, dsa, deC, dtC, dkC⟩, dna⟩
  have mD := PySem.W.mg_of X G aD
  have R : RefT K mg D A1 A2 := ⟨mD, PySem.W.mg_of X G aA1, PySem.W.mg_of X G aA2, PySem.W.mg_none_of X G zKE, kitA, kitV, exm_own5 deC dic dtC dsd, ⟨dga, dgg, deC, dhC, dca, dcg, dct, dmr⟩, dna⟩
  have tI : PySem.W.tabIn K "law" = some (cc, cP) := by
    simp only [PySem.W.tabIn, a_law, l_law, lC, v11, PySem.W.fnOf]
  refine ⟨PySem.W.fnOf "law" "law" (defArgs sLaw) (defBody sLaw) (defScope sLaw) .none kV_law dc_law pm_law an_law (.ref cc) ct_law, cc, cP, spLaw3 K cP, tI, nT, fun s v => .of_eq rfl, fun H a ns hl hH hS => ⟨a, ns, rfl, hH, hS, hl, fun _ => rfl⟩, fun base hb hn TB => ?_⟩
  have NK : NkK l.prog w K mg base D := ⟨NC, mD, _, _, diC, dtI, b_I, ok_noKindInit F_I NC⟩
  have C1 : Cal l.prog w K mg base "_law_pen" 1 ["_law_script"] (spPen K) := ⟨_, _, m__law_pen, k__law_pen, b__law_pen, ok_pen F__law_pen T⟩
  have C2 : Cal l.prog w K mg base "_law_draw" 1 ["_law_pen_here", "_law_many"] spDraw := ⟨_, _, m__law_draw, k__law_draw, b__law_draw, ok_draw F__law_draw T⟩
  have C3 : Cal l.prog w K mg base "_law_pick" 2 ["_law_pen_here", "_law_some"] spPick := ⟨_, _, m__law_pick, k__law_pick, b__law_pick, ok_pick F__law_pick T C2⟩
  have C4 : Cal l.prog w K mg base "_law_words" 3 ["_law_pen_here", "_law_many"] spWords := ⟨_, _, m__law_words, k__law_words, b__law_words, ok_words F__law_words T C2 C3⟩
  have C5 : Cal l.prog w K mg base "_law_plain" 3 ["_law_pen_here"] spPlain := ⟨_, _, m__law_plain, k__law_plain, b__law_plain, ok_plain F__law_plain T C2 C3⟩
  have C6 : Cal l.prog w K mg base "_law_scene" 4 ["_law_pen_here", "_law_houses"] spScene := ⟨_, _, m__law_scene, k__law_scene, b__law_scene, ok_scene F__law_scene T C2 C4⟩
  have V1 := ok_val (P := l.prog) (w := w) (base := base) F__law_value T m__law_value b__law_value C2 C3 C5 (ok_val0 (k := 0 + 3))
  have V2 := ok_val F__law_value T m__law_value b__law_value C2 C3 C5 V1
  have V3 := ok_val F__law_value T m__law_value b__law_value C2 C3 C5 V2
  have VS := ok_vals F__law_values T m__law_value k__law_value b__law_value V3
  have CH : Cal l.prog w K mg base "_law_hold_of" 3 ["_law_pen_here", "_law_scene_here", "_law_breed", "_law_known"] spHoldOf := ⟨_, _, m__law_hold_of, k__law_hold_of, b__law_hold_of, ok_holdOf F__law_hold_of T C3⟩
  have d0 : FnOk l.prog w K mg base CX0 8 f__law_deed _ psDd (spDeed 0) := ok_deed F__law_deed T (Nat.le_refl 7) m__law_deeds k__law_deeds b__law_deeds ok_deeds0 m__law_value k__law_value b__law_value V3 m__law_values k__law_values b__law_values VS C2 C3 CH
  have ds1 : FnOk l.prog w K mg base CX0 9 f__law_deeds _ psDs (spDeeds 1) := ok_deeds F__law_deeds T (by decide) m__law_deed k__law_deed b__law_deed d0 C2
  have d1 : FnOk l.prog w K mg base CX0 10 f__law_deed _ psDd (spDeed 1) := ok_deed F__law_deed T (by decide) m__law_deeds k__law_deeds b__law_deeds ds1 m__law_value k__law_value b__law_value V3 m__law_values k__law_values b__law_values VS C2 C3 CH
  have ds2 : FnOk l.prog w K mg base CX0 11 f__law_deeds _ psDs (spDeeds 2) := ok_deeds F__law_deeds T (by decide) m__law_deed k__law_deed b__law_deed d1 C2
  have C7 : Cal l.prog w K mg base "_law_plan" 12 ["_law_pen_here", "_law_scene_here"] spPlan := ⟨_, _, m__law_plan, k__law_plan, b__law_plan, ok_plan F__law_plan T (by decide) m__law_deeds k__law_deeds b__law_deeds ds2 C2 C5⟩
  have C9 : Cal l.prog w K mg base "_law_other" 4 ["_law_pen_here", "_law_scene_here", "_law_book"] spOther := ⟨_, _, m__law_other, k__law_other, b__law_other, ok_other F__law_other T C5⟩
  have Gc : FnOk l.prog w K mg base CX0 3 f_copied _ ["thing"] (spCopiedA 2) := ok_copiedX F_copied T m_copied b_copied 2
  have Gk : FnOk l.prog w K mg base CX0 1 f_kind_of _ ["plan", "kind"] spKind3 := ok_kind3 F_kind_of
  have GkX : FnOk l.prog w K mg base (L2N.CX l.prog w) 4 f_kind_of _ ["plan", "kind"] (spKindX D) := ok_kindX F_kind_of NK m_copied k_copied b_copied Gc
  have Gf := ok_fields3 F_fields_of m_kind_of k_kind_of b_kind_of Gk m_copied k_copied b_copied Gc
  have GfX := ok_fieldsX F_fields_of m_kind_of k_kind_of b_kind_of GkX m_copied k_copied b_copied Gc
  have Gw := ok_words3 F_words_of T m_kind_of k_kind_of b_kind_of Gk
  have GwX := ok_wordsX F_words_of T m_kind_of k_kind_of b_kind_of GkX
  have Gt := ok_told F__law_told_right T m_fields_of k_fields_of b_fields_of Gf m_words_of k_words_of b_words_of Gw
  exact ok_law3 l_law c_law T C1 C3 C6 C7 C9 m__law_told_right k__law_told_right b__law_told_right Gt m__law_refused k__law_refused l__law_refused c__law_refused b__law_refused R m_fields_of k_fields_of b_fields_of GfX m_words_of k_words_of b_words_of GwX TB
theorem walk {l : PySem.W.OpenLaw} {q : Program} {loose : List Str} {XP : (Str → Option Value) → Heap → Prop} {YP : World → Heap → Prop} {d : DefRec} {K : Params → PySem.W.Frag} (hn : l.most = some 63) (hd : d.params.defaults = []) (hnm : d.name = "law") (hrec : ((recsOf q).any fun e => e.name == d.name) = true)
    (hY : ∀ (w : World) (h : Heap), YP w h → (K w.params).In h)
    (F : ∀ (w : World) (mg : Str → Option Value) (fa : Addr) (h : Heap), (K w.params).In h → h.Ns mainGlobals mg → mg d.name = some (.ref fa) → EndK l w (K w.params) mg fa) :
    PySem.W.WalkO q loose XP YP l.row.toRowW d [] (fun f vs => PySem.call f vs) :=
  walk_ofGT (n := 63) (k := 13) (x := "_law_script") hn (by decide) hd ⟨rfl, by decide, by decide⟩ hrec hY fun w mg fa h KX G hm => by
    obtain ⟨fd, cc, cP, sp, h1, h2, h3, h4, h5⟩ := F w mg fa h KX G hm
    exact ⟨fd, cc, cP, sp, by rw [hnm]; exact h1, h2, h3, h4, h5⟩
end K3
open PySem PySem.W PyProof.Rows in
set_option maxRecDepth 100000 in
set_option maxHeartbeats 0 in
theorem PySem.Challenge.cw_farcalls_k03_fields_and_words_holds : PySem.Challenge.rw_farcalls_k03_fields_and_words.Holds := by
  w_on; o_law; k_head; (case hw => w_witness2)
  k_fill
  refine K3.walk (l := PySem.Challenge.rw_farcalls_k03_fields_and_words) rfl rfl rfl (by first | rfl | decide +kernel) (fun w h Y => PySem.W.km_in_of Y) ?F
  case F =>
    intro w mg fa h KX G hmg
    refine' K3.all_mk KX G hmg ?a__law_pen ?l__law_pen ?c__law_pen ?k__law_pen ?a__law_draw ?l__law_draw ?c__law_draw ?k__law_draw ?a__law_pick ?l__law_pick ?c__law_pick ?k__law_pick ?a__law_words ?l__law_words ?c__law_words ?k__law_words ?a__law_plain ?l__law_plain ?c__law_plain ?k__law_plain ?a__law_scene ?l__law_scene ?c__law_scene ?k__law_scene ?a__law_value ?l__law_value ?c__law_value ?k__law_value ?a__law_values ?l__law_values ?c__law_values ?k__law_values ?a__law_hold_of ?l__law_hold_of ?c__law_hold_of ?k__law_hold_of ?a__law_deed ?l__law_deed ?c__law_deed ?k__law_deed ?a__law_deeds ?l__law_deeds ?c__law_deeds ?k__law_deeds ?a__law_plan ?l__law_plan ?c__law_plan ?k__law_plan ?a__law_refused ?l__law_refused ?c__law_refused ?k__law_refused ?a__law_other ?l__law_other ?c__law_other ?k__law_other ?a__law_told_right ?l__law_told_right ?c__law_told_right ?k__law_told_right ?a_copied ?l_copied ?c_copied ?k_copied ?a_kind_of ?l_kind_of ?c_kind_of ?k_kind_of ?a_fields_of ?l_fields_of ?c_fields_of ?k_fields_of ?a_words_of ?l_words_of ?c_words_of ?k_words_of ?a_law ?l_law ?c_law ?k_law ?lC ?v11 ?nT ?aD ?aA1 ?aA2 ?zKE ?xL ?dsa ?dga ?dgg ?dna ?diC ?dtI ?l_I ?c_I ?k_I ?dkC ?deC ?dtC ?dhC ?dic ?dsd ?dca ?dcg ?dct ?dmr ?kitA ?kitV ?z_len ?z_abs ?z_list ?z_tuple ?z_dict ?z_range ?z_int ?z_max ?z_sorted ?z_repr ?z_isinstance
    (case a__law_pen => k_is)
    (case l__law_pen => k_is)
    (case c__law_pen => k_is)
    (case k__law_pen => k_is)
    (case a__law_draw => k_is)
    (case l__law_draw => k_is)
    (case c__law_draw => k_is)
    (case k__law_draw => k_is)
    (case a__law_pick => k_is)
    (case l__law_pick => k_is)
    (case c__law_pick => k_is)
    (case k__law_pick => k_is)
    (case a__law_words => k_is)
    (case l__law_words => k_is)
    (case c__law_words => k_is)
    (case k__law_words => k_is)
    (case a__law_plain => k_is)
    (case l__law_plain => k_is)
    (case c__law_plain => k_is)
    (case k__law_plain => k_is)
    (case a__law_scene => k_is)
    (case l__law_scene => k_is)
    (case c__law_scene => k_is)
    (case k__law_scene => k_is)
    (case a__law_value => k_is)
    (case l__law_value => k_is)
    (case c__law_value => k_is)
    (case k__law_value => k_is)
    (case a__law_values => k_is)
    (case l__law_values => k_is)
    (case c__law_values => k_is)
    (case k__law_values => k_is)
    (case a__law_hold_of => k_is)
    (case l__law_hold_of => k_is)
    (case c__law_hold_of => k_is)
    (case k__law_hold_of => k_is)
    (case a__law_deed => k_is)
    (case l__law_deed => k_is)
    (case c__law_deed => k_is)
    (case k__law_deed => k_is)
    (case a__law_deeds => k_is)
    (case l__law_deeds => k_is)
    (case c__law_deeds => k_is)
    (case k__law_deeds => k_is)
    (case a__law_plan => k_is)
    (case l__law_plan => k_is)
    (case c__law_plan => k_is)
    (case k__law_plan => k_is)
    (case a__law_refused => k_is)
    (case l__law_refused => k_is)
    (case c__law_refused => k_is)
    (case k__law_refused => k_is)
    (case a__law_other => k_is)
    (case l__law_other => k_is)
    (case c__law_other => k_is)
    (case k__law_other => k_is)
    (case a__law_told_right => k_is)
    (case l__law_told_right => k_is)
    (case c__law_told_right => k_is)
    (case k__law_told_right => k_is)
    (case a_copied => k_is)
    (case l_copied => k_is)
    (case c_copied => k_is)
    (case k_copied => k_is)
    (case a_kind_of => k_is)
    (case l_kind_of => k_is)
    (case c_kind_of => k_is)
    (case k_kind_of => k_is)
    (case a_fields_of => k_is)
    (case l_fields_of => k_is)
    (case c_fields_of => k_is)
    (case k_fields_of => k_is)
    (case a_words_of => k_is)
    (case l_words_of => k_is)
    (case c_words_of => k_is)
    (case k_words_of => k_is)
    (case a_law => k_is)
    (case l_law => k_is)
    (case c_law => k_is)
    (case k_law => k_is)
    (case lC => k_is)
    (case v11 => first | rfl | k_is)
    (case nT => first | k_is | rfl | decide +kernel)
    (case aD => k_is)
    (case aA1 => k_is)
    (case aA2 => k_is)
    (case zKE => k_is)
    (case xL => k_is)
    (case dsa => k_is)
    (case dga => k_is)
    (case dgg => k_is)
    (case dna => k_is)
    (case diC => k_is)
    (case dtI => k_is)
    (case l_I => k_is)
    (case c_I => k_is)
    (case k_I => k_is)
    (case dkC => k_is)
    (case deC => k_is)
    (case dtC => k_is)
    (case dhC => k_is)
    (case dic => k_is)
    (case dsd => first | rfl | k_is)
    (case dca => k_is)
    (case dcg => k_is)
    (case dct => k_is)
    (case dmr => k_is)
    (case kitA => kit_is)
    (case kitV => kit_is)
    (case z_len => k_is)
    (case z_abs => k_is)
    (case z_list => k_is)
    (case z_tuple => k_is)
    (case z_dict => k_is)
    (case z_range => k_is)
    (case z_int => k_is)
    (case z_max => k_is)
    (case z_sorted => k_is)
    (case z_repr => k_is)
    (case z_isinstance => k_is)
