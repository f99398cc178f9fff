import PyProof.Rows.All
import Wide.All
import OpenK.AllK
import Wide.FinOn
import PySem.Challenge.RW_afterwise_k04_ordered_rows
import HandS.ForMost
import HandS.ForExc
import HandS.IsInst
import HandS.More
import HandS.Style
import HandS.Zip
import HandS.ExcIs
import KE.KExcIs
import HandS.Set
import HandS.TupSets
import HandS.Strs
import KE.SortLaws
import KE.SortData
import KE.SortKeyHeap
import HandS.SortKw
import HandS.RaiseMore
import PyProof.ReprHeads
import PyProof.ReprDict
import PyProof.StrHeap
import PyProof.StrBlock2
import PyProof.StrLawsRepr
import PyProof.P3Eq
set_option Elab.async false
set_option linter.all false
set_option maxRecDepth 100000
set_option maxHeartbeats 8000000
namespace Aw
open PySem PySem.Spec PyProof.Rows L2
/-! ## the text by places -/
def tp (i : Nat) : Stmt := PySem.Challenge.pw_afterwise_k04_ordered_rows.main.body.getD i (.Pass ⟨0, 0, 0, 0⟩)
abbrev s_is_tuple : Stmt := tp 6
abbrev s_is_asks : Stmt := tp 11
abbrev s_is_row : Stmt := tp 12
abbrev s_is_row_of : Stmt := tp 13
abbrev s_ordered : Stmt := tp 14
abbrev s__law_cell : Stmt := tp 16
abbrev s__law_source : Stmt := tp 17
abbrev s__law_draw : Stmt := tp 18
abbrev s__law_is_int : Stmt := tp 19
abbrev s__law_exact : Stmt := tp 20
abbrev s__law_asks : Stmt := tp 21
abbrev s__law_row : Stmt := tp 22
abbrev s__law_before : Stmt := tp 23
abbrev s__law_due : Stmt := tp 24
abbrev s__law_error : Stmt := tp 25
abbrev s_law : Stmt := tp 26
/-- where the defs, the classes and the constants stand -/
structure Ad where
  (fTuple fAsks fRow fRowOf fOrd fCell fSrc fDraw fInt fExact fLAsks fLRow fBef fDue fErr fLaw : Addr)
  (cAfter cWrong cAsks cRow fInit : Addr)
  (t1 t2 t3 : Tok)
/-- what the module's names hold -/
structure Tx (K : PySem.W.Frag) (mg : Str → Option Value) (A : Ad) : Prop where
  nlen : mg "len" = none
  nint : mg "int" = none
  nsum : mg "sum" = none
  nabs : mg "abs" = none
  nstr : mg "str" = none
  nbool : mg "bool" = none
  nlist : mg "list" = none
  ntuple : mg "tuple" = none
  nset : mg "set" = none
  nzip : mg "zip" = none
  nall : mg "all" = none
  nrange : mg "range" = none
  nisinstance : mg "isinstance" = none
  nsorted : mg "sorted" = none
  nrepr : mg "repr" = none
  nValueError : mg "ValueError" = none
  mLETTERS : mg "LETTERS" = some (.str "abcdefgh" A.t1)
  mMOST_ASKS : mg "MOST_ASKS" = some (.int 4 A.t2)
  mLONGEST_ROW : mg "LONGEST_ROW" = some (.int 2000 A.t3)
  mis_tuple : mg "is_tuple" = some (.ref A.fTuple)
  mis_asks : mg "is_asks" = some (.ref A.fAsks)
  mis_row : mg "is_row" = some (.ref A.fRow)
  mis_row_of : mg "is_row_of" = some (.ref A.fRowOf)
  mordered : mg "ordered" = some (.ref A.fOrd)
  m_law_cell : mg "_law_cell" = some (.ref A.fCell)
  m_law_source : mg "_law_source" = some (.ref A.fSrc)
  m_law_draw : mg "_law_draw" = some (.ref A.fDraw)
  m_law_is_int : mg "_law_is_int" = some (.ref A.fInt)
  m_law_exact : mg "_law_exact" = some (.ref A.fExact)
  m_law_asks : mg "_law_asks" = some (.ref A.fLAsks)
  m_law_row : mg "_law_row" = some (.ref A.fLRow)
  m_law_before : mg "_law_before" = some (.ref A.fBef)
  m_law_due : mg "_law_due" = some (.ref A.fDue)
  m_law_error : mg "_law_error" = some (.ref A.fErr)
  mAfterError : mg "AfterError" = some (.ref A.cAfter)
  mWrongThing : mg "WrongThing" = some (.ref A.cWrong)
  mBadAsks : mg "BadAsks" = some (.ref A.cAsks)
  mBadRow : mg "BadRow" = some (.ref A.cRow)
/-- a def that keeps its promise, ready to be called -/
def Kp (P : Program) (w : World) (K : PySem.W.Frag) (mg : Str → Option Value) (base : Heap) (CX : CXT) (k : Nat) (f : Addr) (ps : List Str) (sp : Sp) : Prop :=
  ∃ fd, FnOk P w K mg base CX k f fd ps sp ∧ Binds K fd ps [] ∧ PySem.W.keepIn K (.ref f) = true
/-! ## heaps -/
theorem same_new {H : Hp} {p : Addr} {o : HO} (h : H p = none) : Same H (upd H p o) := fun b x e => (upd_ne (ne_of_none e h)).trans e
theorem Same.sqT {K : PySem.W.Frag} {H H' : Hp} {a : Addr} {xs : List V} (e : Same H H') (h : SqT K H a xs) : SqT K H' a xs := by
  rcases h with (h | ⟨o, h⟩) | h
  · exact .inl (.inl (e _ _ h))
  · exact .inl (.inr ⟨o, e _ _ h⟩)
  · exact .inr h
/-- all but one stand as they stood -/
def But (s : Addr) (H H' : Hp) : Prop := ∀ b o, H b = some o → b ≠ s → H' b = some o
theorem But.refl {s : Addr} (H : Hp) : But s H H := fun _ _ h _ => h
theorem But.trans {s : Addr} {H H1 H2 : Hp} (a : But s H H1) (b : But s H1 H2) : But s H H2 := fun c o h n => b c o (a c o h n) n
theorem But.of {s : Addr} {H H' : Hp} (a : Same H H') : But s H H' := fun c o h _ => a c o h
theorem But.upd {s : Addr} {H : Hp} {o : HO} : But s H (upd H s o) := fun _ _ h n => (upd_ne n).trans h
theorem But.seqL {s : Addr} {K : PySem.W.Frag} {H H' : Hp} {a : Addr} {xs : List V} (e : But s H H') (n : a ≠ s) (h : SqL K H a xs) : SqL K H' a xs := by
  rcases h with (h | ⟨o, h⟩) | h
  · exact .inl (.inl (e _ _ h n))
  · exact .inl (.inr ⟨o, e _ _ h n⟩)
  · exact .inr h
theorem But.free {s : Addr} {H H' : Hp} (e : But s H H') {l : Addr} (n : l ≠ s) (h : H' l = none) : H l = none := by
  cases q : H l with
  | none => rfl
  | some o => rw [e l o q n] at h; cases h
/-- a source of draws stands at p -/
def Src (H : Hp) (p : Addr) : Prop := ∃ a b c : Int, H p = some (.lst [.int a, .int b, .int c]) ∧ 0 ≤ a ∧ 0 ≤ b ∧ b < 2147483647
theorem Src.same {H H' : Hp} {p : Addr} (h : Src H p) (e : Same H H') : Src H' p := by
  obtain ⟨a, b, c, h1, h2⟩ := h
  exact ⟨a, b, c, e _ _ h1, h2⟩
theorem Src.but {H H' : Hp} {p s : Addr} (h : Src H p) (e : But s H H') (n : p ≠ s) : Src H' p := by
  obtain ⟨a, b, c, h1, h2⟩ := h
  exact ⟨a, b, c, e _ _ h1 n, h2⟩
theorem Src.some {H : Hp} {p : Addr} (h : Src H p) : ∃ o, H p = some o := by
  obtain ⟨a, b, c, h1, h2⟩ := h
  exact ⟨_, h1⟩
end Aw
namespace Aw
open PySem PySem.Spec PyProof.Rows L2
section
variable {P : Program} {w : World} {K : PySem.W.Frag} {mg : Str → Option Value} {base : Heap} {A : Ad}
/-! ## a cell of the script -/
abbrev N__law_cell : List Str := ["_law_script", "_law_k"]
theorem sc__law_cell : FnScope N__law_cell ["_law_script", "_law_k"] (defScope s__law_cell) := ⟨rfl, rfl, rfl, by decide +kernel, rfl, by decide +kernel, by decide +kernel⟩
def spCell (K : PySem.W.Frag) : Sp := fun vs H Q _ => ∃ (l : Addr) (ns : List Int) (k : Nat), vs = [.ref l, .int (k : Int)] ∧ SqL K H l (ns.map V.int) ∧ ∀ (z : Int) (H' : Hp), Same H H' → Q (.int z) H'
theorem cut_first (ns : List Int) : cutV (ns.map V.int) none (some 1) = (ns.take 1).map V.int := by
  unfold cutV
  rw [show HT.sIx (ns.map V.int).length (ns.map V.int).length (some 1) = min 1 (ns.map V.int).length from HT.sIx_nat _ _ 1, HT.sIx_none, List.drop_zero, Nat.sub_zero]
  cases ns with
  | nil => rfl
  | cons x r => simp
theorem ok_cell {fd : FuncData} (F : Fun K "_law_cell" "_law_cell" s__law_cell A.fCell fd) (T : Tx K mg A) : FnOk P w K mg base CX0 1 A.fCell fd ["_law_script", "_law_k"] (spCell K) := by
  have nd := sc__law_cell.nd
  refine F.ok sc__law_cell (fun vs H Q E h => ?_) (fun cdv A' outer s H vs Q E hr h => ?_)
  · obtain ⟨l, ns, k, rfl, _⟩ := h
    rfl
  · obtain ⟨l, ns, k, rfl, hS, q⟩ := h
    refine ⟨_, (pss_cons (ps_if (pt_cmpR op_lt (pv 1) (pe_callB call_len (by rfl) T.nlen (by decide +kernel) (pa_cons (pv 0) pa_nil)) (nomark _)) (pss_one (ps_ret (pe_ix ix_list (pv 0) (pv 1) (fun _ _ => rfl)))) pss_nil)
  (pss_one (ps_ret (pe_op op_add (pe_op op_mul pe_int (pe_op op_add (pv 1) pe_int)) (pe_op op_mul pe_int (pe_op op_modN (pe_callTy call_int1 (by rfl) T.nint (by decide +kernel) (pa_cons (pe_callB (cr_sum rfl) (by rfl) T.nsum (by decide +kernel) (pa_cons (pe_slice sl_list (pv 0) po_none (po_some pe_int)) pa_nil)) pa_nil)) pe_int)))))), ?_⟩
    refine ⟨_, rfl, _, rfl, V.ref l, _, rfl, .inl ⟨_, hS, rfl⟩, _, _, rfl, rfl, _, rfl, ite2 (fun c => ?_) (fun c => ?_)⟩
    · have hk : k < ns.length := by
        have z := of_decide_eq_true c
        rw [List.length_map] at z
        omega
      refine ⟨_, rfl, _, rfl, l, _, _, .int ns[k], rfl, rfl, hS, atI_nat ?_, q _ H (Same.refl H)⟩
      rw [List.getElem?_map, List.getElem?_eq_getElem hk]
      rfl
    · refine ⟨_, rfl, _, _, rfl, rfl, _, _, rfl, rfl, .inl ⟨by decide, by decide⟩, _, rfl, 1, rfl, l, _, rfl, hS, fun p hp => ?_⟩
      refine ⟨p, _, rfl, SqL.of (by rw [upd_same, cut_first]), .inl ⟨_, rfl, ?_⟩⟩
      exact ⟨_, _, rfl, rfl, (by show (1000003 : Int) ≠ 0; decide), _, _, rfl, rfl, .inl ⟨by decide, by decide⟩, _, _, rfl, rfl, q _ _ (same_new hp)⟩
/-! ## a draw -/
abbrev N__law_draw : List Str := ["_law_source_here", "_law_many", "_law_digit", "_law_mixed"]
theorem sc__law_draw : FnScope N__law_draw ["_law_source_here", "_law_many"] (defScope s__law_draw) := ⟨rfl, rfl, rfl, by decide +kernel, rfl, by decide +kernel, by decide +kernel⟩
def spDraw : Sp := fun vs H Q _ => ∃ (p : Addr) (m : Int), vs = [.ref p, .int m] ∧ Src H p ∧ 0 < m ∧ m < 1000000000 ∧ ∀ (d : Int) (H' : Hp), 0 ≤ d → d < m → Src H' p → But p H H' → Q (.int d) H'
theorem ok_draw {fd : FuncData} (F : Fun K "_law_draw" "_law_draw" s__law_draw A.fDraw fd) (T : Tx K mg A) : FnOk P w K mg base CX0 1 A.fDraw fd ["_law_source_here", "_law_many"] spDraw := by
  have nd := sc__law_draw.nd
  refine F.ok sc__law_draw (fun vs H Q E h => ?_) (fun cdv A' outer s H vs Q E hr h => ?_)
  · obtain ⟨l, m, rfl, _⟩ := h
    rfl
  · obtain ⟨p, m, rfl, ⟨a, b, c, hp, ha, hb, hb'⟩, hm, hm', q⟩ := h
    have hm0 : m ≠ 0 := by omega
    refine ⟨_, (pss_cons (ps_if (pt_cmpR op_gt (pe_ix ix_list (pv 0) pe_int (fun _ _ => rfl)) pe_int (nomark _)) (pss_cons (ps_set (i := 2) nd rfl (by first | exact Or.inl rfl | exact Or.inr rfl) (pe_op op_modN (pe_callTy call_int1 (by rfl) T.nint (by decide +kernel) (pa_cons (pe_ix ix_list (pv 0) pe_int (fun _ _ => rfl)) pa_nil)) (pv 1)))
  (pss_cons (ps_asg (pe_op op_fdivN (pe_ix ix_list (pv 0) pe_int (fun _ _ => rfl)) (pv 1)) (pg_sub (pv 0) pe_int set_list))
  (pss_one (ps_ret (pv 2))))) pss_nil)
  (pss_cons (ps_asg (pe_op op_add (pe_ix ix_list (pv 0) pe_int (fun _ _ => rfl)) pe_int) (pg_sub (pv 0) pe_int set_list))
  (pss_cons (ps_asg (pe_op op_modN (pe_callTy call_int1 (by rfl) T.nint (by decide +kernel) (pa_cons (pe_op op_add (pe_op op_add (pe_op op_mul (pe_ix ix_list (pv 0) pe_int (fun _ _ => rfl)) pe_int) (pe_op op_mul (pe_ix ix_list (pv 0) pe_int (fun _ _ => rfl)) pe_int)) pe_int) pa_nil)) pe_int) (pg_sub (pv 0) pe_int set_list))
  (pss_cons (ps_set (i := 3) nd rfl (by first | exact Or.inl rfl | exact Or.inr rfl) (pe_op op_modN (pe_callTy call_int1 (by rfl) T.nint (by decide +kernel) (pa_cons (pe_op op_add (pe_op op_mul (pe_ix ix_list (pv 0) pe_int (fun _ _ => rfl)) (pe_op op_add (pe_ix ix_list (pv 0) pe_int (fun _ _ => rfl)) pe_int)) (pe_op op_mul (pe_ix ix_list (pv 0) pe_int (fun _ _ => rfl)) pe_int)) pa_nil)) pe_int))
  (pss_one (ps_ret (pe_op op_modN (pe_callTy call_int1 (by rfl) T.nint (by decide +kernel) (pa_cons (pe_op op_fdivN (pv 3) pe_int) pa_nil)) (pv 1)))))))), ?_⟩
    refine ⟨_, rfl, p, _, 0, .int a, rfl, rfl, SqL.of hp, atI_nat (j := 0) rfl, _, _, rfl, rfl, _, rfl, ite2 (fun k => ?_) (fun k => ?_)⟩
    · refine ⟨_, rfl, p, _, 0, .int a, rfl, rfl, SqL.of hp, atI_nat (j := 0) rfl, .inl ⟨_, rfl, ?_⟩⟩
      refine ⟨_, rfl, _, _, rfl, rfl, hm0, ?_⟩
      refine ⟨_, rfl, p, _, 0, .int a, rfl, rfl, SqL.of hp, atI_nat (j := 0) rfl, _, rfl, _, _, rfl, rfl, ⟨hm0, by omega⟩, ?_⟩
      refine ⟨_, rfl, p, _, 0, 0, rfl, rfl, hp, rfl, ?_⟩
      refine ⟨_, rfl, q _ _ (Int.fmod_nonneg_of_pos _ hm) (Int.fmod_lt_of_pos _ hm) ⟨a.fdiv m, b, c, upd_same, Int.fdiv_nonneg ha (by omega), hb, hb'⟩ But.upd⟩
    · refine ⟨_, rfl, p, _, 2, .int c, rfl, rfl, SqL.of hp, atI_nat (j := 2) rfl, _, _, rfl, rfl, _, rfl, p, _, 2, 2, rfl, rfl, hp, rfl, ?_⟩
      have h1 : upd H p (.lst [.int a, .int b, .int (c + 1)]) p = some (.lst [.int a, .int b, .int (c + 1)]) := upd_same
      refine ⟨_, rfl, p, _, 1, .int b, rfl, rfl, SqL.of h1, atI_nat (j := 1) rfl, _, _, rfl, rfl, .inr ⟨by decide, by decide⟩, _, rfl, p, _, 2, .int (c + 1), rfl, rfl, SqL.of h1, atI_nat (j := 2) rfl, _, _, rfl, rfl, .inr ⟨by decide, by decide⟩, ?_⟩
      refine ⟨_, _, rfl, rfl, _, _, rfl, rfl, .inl ⟨_, rfl, _, _, rfl, rfl, (by show (2147483647 : Int) ≠ 0; decide), _, rfl, p, _, 1, 1, rfl, rfl, h1, rfl, ?_⟩⟩
      have hb2 : 0 ≤ (b * 48271 + (c + 1) * 69621 + 11).fmod 2147483647 := Int.fmod_nonneg_of_pos _ (by decide)
      have hb3 : (b * 48271 + (c + 1) * 69621 + 11).fmod 2147483647 < 2147483647 := Int.fmod_lt_of_pos _ (by decide)
      have h2 : upd (upd H p (.lst [.int a, .int b, .int (c + 1)])) p (.lst [.int a, .int ((b * 48271 + (c + 1) * 69621 + 11).fmod 2147483647), .int (c + 1)]) p = some (.lst [.int a, .int ((b * 48271 + (c + 1) * 69621 + 11).fmod 2147483647), .int (c + 1)]) := upd_same
      refine ⟨_, rfl, p, _, 1, .int ((b * 48271 + (c + 1) * 69621 + 11).fmod 2147483647), rfl, rfl, SqL.of h2, atI_nat (j := 1) rfl, _, rfl, p, _, 1, .int ((b * 48271 + (c + 1) * 69621 + 11).fmod 2147483647), rfl, rfl, SqL.of h2, atI_nat (j := 1) rfl, _, _, rfl, rfl, _, _, rfl, rfl, .inl ⟨Int.lt_of_lt_of_le (by decide) hb2, Int.lt_trans hb3 (by decide)⟩, ?_⟩
      refine ⟨_, rfl, p, _, 2, .int (c + 1), rfl, rfl, SqL.of h2, atI_nat (j := 2) rfl, _, _, rfl, rfl, .inr ⟨by decide, by decide⟩, _, _, rfl, rfl, .inl ⟨_, rfl, _, _, rfl, rfl, (by show (2147483629 : Int) ≠ 0; decide), ?_⟩⟩
      refine ⟨_, rfl, _, _, rfl, rfl, ⟨by decide, by decide⟩, .inl ⟨_, rfl, _, rfl, _, _, rfl, rfl, hm0, ?_⟩⟩
      exact q _ _ (Int.fmod_nonneg_of_pos _ hm) (Int.fmod_lt_of_pos _ hm) ⟨a, _, c + 1, h2, ha, hb2, hb3⟩ (But.upd.trans But.upd)
/-! ## a source -/
abbrev N__law_source : List Str := ["_law_script", "_law_k", "_law_cell_here", "_law_number", "_law_mixed"]
theorem sc__law_source : FnScope N__law_source ["_law_script", "_law_k"] (defScope s__law_source) := ⟨rfl, rfl, rfl, by decide +kernel, rfl, by decide +kernel, by decide +kernel⟩
def spSrc (K : PySem.W.Frag) : Sp := fun vs H Q _ => ∃ (l : Addr) (ns : List Int) (k : Nat), vs = [.ref l, .int (k : Int)] ∧ SqL K H l (ns.map V.int) ∧ ∀ (p : Addr) (H' : Hp), Same H H' → H p = none → Src H' p → Q (.ref p) H'
theorem ok_source {fd : FuncData} (F : Fun K "_law_source" "_law_source" s__law_source A.fSrc fd) (T : Tx K mg A) (KCell : Kp P w K mg base CX0 1 A.fCell ["_law_script", "_law_k"] (spCell K)) :
    FnOk P w K mg base CX0 2 A.fSrc fd ["_law_script", "_law_k"] (spSrc K) := by
  obtain ⟨fdC, GCell, bCell, kCell⟩ := KCell
  have nd := sc__law_source.nd
  refine F.ok sc__law_source (fun vs H Q E h => ?_) (fun cdv A' outer s H vs Q E hr h => ?_)
  · obtain ⟨l, ns, k, rfl, _⟩ := h
    rfl
  · obtain ⟨l, ns, k, rfl, hS, q⟩ := h
    refine ⟨_, (pss_cons (ps_set (i := 2) nd rfl (by first | exact Or.inl rfl | exact Or.inr rfl) (pe_call GCell (hr.mono (by decide)) rfl T.m_law_cell kCell bCell .nil pass0 (pa_cons (pv 0) (pa_cons (pv 1) pa_nil))))
  (pss_cons (ps_set (i := 3) nd rfl (by first | exact Or.inl rfl | exact Or.inr rfl) (pe_callB call_abs (by rfl) T.nabs (by decide +kernel) (pa_cons (pv 2) pa_nil)))
  (pss_cons (ps_if (pt_cmpR op_ne (pe_op op_shr (pv 3) pe_int) pe_int (nomark _)) (pss_one (ps_set (i := 3) nd rfl (by first | exact Or.inl rfl | exact Or.inr rfl) (pe_op op_modN (pe_callTy call_int1 (by rfl) T.nint (by decide +kernel) (pa_cons (pv 3) pa_nil)) (pe_op op_pow pe_int pe_int)))) pss_nil)
  (pss_cons (ps_set (i := 4) nd rfl (by first | exact Or.inl rfl | exact Or.inr rfl) (pe_op op_modN (pe_callTy call_int1 (by rfl) T.nint (by decide +kernel) (pa_cons (pe_op op_add (pe_op op_add (pe_op op_add (pe_op op_mul (pe_op op_modN (pe_callTy call_int1 (by rfl) T.nint (by decide +kernel) (pa_cons (pv 3) pa_nil)) pe_int) pe_int) (pe_op op_mul pe_int (pv 1))) pe_int) (pe_callTy call_int1 (by rfl) T.nint (by decide +kernel) (pa_cons (pe_cmpR op_lt (pv 2) pe_int (nomark _)) pa_nil))) pa_nil)) pe_int))
  (pss_cons (ps_if (pt_cmpR op_ge (pv 3) (pe_op op_pow pe_int pe_int) (nomark _)) (pss_one (ps_ret (pe_lst (pa_cons (pv 3) (pa_cons (pv 4) (pa_cons pe_int pa_nil)))))) pss_nil)
  (pss_one (ps_ret (pe_lst (pa_cons pe_int (pa_cons (pv 4) (pa_cons pe_int pa_nil))))))))))), ?_⟩
    refine ⟨_, rfl, _, rfl, l, ns, k, rfl, hS, fun z H1 s1 => ?_⟩
    refine ⟨_, rfl, z, rfl, ?_⟩
    have h0 : 0 ≤ (if z < 0 then -z else z) := by split <;> omega
    generalize (if z < 0 then -z else z) = n at h0 ⊢
    refine ⟨_, rfl, _, _, rfl, rfl, (by show (0 : Int) ≤ 36000; decide), rfl, _, rfl, ite2 (fun c => ?_) (fun c => ?_)⟩
    · refine ⟨_, rfl, .inl ⟨_, rfl, _, _, rfl, rfl, ⟨by decide, by decide, by decide⟩, _, _, rfl, rfl, (by show ((10 : Int) ^ (60 : Int).toNat) ≠ 0; decide), ?_⟩⟩
      have h1 : 0 ≤ n.fmod ((10 : Int) ^ (60 : Int).toNat) := Int.fmod_nonneg_of_pos _ (by decide)
      refine ⟨_, rfl, .inl ⟨_, rfl, _, _, rfl, rfl, (by show (2147483629 : Int) ≠ 0; decide), _, _, rfl, rfl, .inr ⟨by decide, by decide⟩, _, rfl, _, _, rfl, rfl, .inl ⟨by decide, by decide⟩, _, _, rfl, rfl, _, _, rfl, rfl, ?_⟩⟩
      refine ⟨_, rfl, _, _, rfl, rfl, .inr ⟨_, rfl, _, _, rfl, rfl, .inl ⟨_, rfl, _, _, rfl, rfl, (by show (2147483647 : Int) ≠ 0; decide), ?_⟩⟩⟩
      refine ⟨_, rfl, _, _, rfl, rfl, ⟨by decide, by decide, by decide⟩, _, _, rfl, rfl, _, rfl, ite2 (fun c => ?_) (fun c => ?_)⟩
      · refine ⟨_, rfl, _, rfl, (by show 3 ≤ sizeLine; decide), fun p hp => ?_⟩
        exact q p _ (s1.trans (same_new hp)) (s1.free hp) ⟨_, _, _, upd_same, h1, Int.fmod_nonneg_of_pos _ (by decide), Int.fmod_lt_of_pos _ (by decide)⟩
      · refine ⟨_, rfl, (by show 3 ≤ sizeLine; decide), fun p hp => ?_⟩
        exact q p _ (s1.trans (same_new hp)) (s1.free hp) ⟨_, _, _, upd_same, by decide, Int.fmod_nonneg_of_pos _ (by decide), Int.fmod_lt_of_pos _ (by decide)⟩
    · refine ⟨_, rfl, .inl ⟨_, rfl, _, _, rfl, rfl, (by show (2147483629 : Int) ≠ 0; decide), _, _, rfl, rfl, .inr ⟨by decide, by decide⟩, _, rfl, _, _, rfl, rfl, .inl ⟨by decide, by decide⟩, _, _, rfl, rfl, _, _, rfl, rfl, ?_⟩⟩
      refine ⟨_, rfl, _, _, rfl, rfl, .inr ⟨_, rfl, _, _, rfl, rfl, .inl ⟨_, rfl, _, _, rfl, rfl, (by show (2147483647 : Int) ≠ 0; decide), ?_⟩⟩⟩
      refine ⟨_, rfl, _, _, rfl, rfl, ⟨by decide, by decide, by decide⟩, _, _, rfl, rfl, _, rfl, ite2 (fun c => ?_) (fun c => ?_)⟩
      · refine ⟨_, rfl, _, rfl, (by show 3 ≤ sizeLine; decide), fun p hp => ?_⟩
        exact q p _ (s1.trans (same_new hp)) (s1.free hp) ⟨_, _, _, upd_same, h0, Int.fmod_nonneg_of_pos _ (by decide), Int.fmod_lt_of_pos _ (by decide)⟩
      · refine ⟨_, rfl, (by show 3 ≤ sizeLine; decide), fun p hp => ?_⟩
        exact q p _ (s1.trans (same_new hp)) (s1.free hp) ⟨_, _, _, upd_same, by decide, Int.fmod_nonneg_of_pos _ (by decide), Int.fmod_lt_of_pos _ (by decide)⟩
/-! ## the asks -/
abbrev N__law_asks : List Str := ["_law_source_here"]
theorem sc__law_asks : FnScope N__law_asks ["_law_source_here"] (defScope s__law_asks) := ⟨rfl, rfl, rfl, by decide +kernel, rfl, by decide +kernel, by decide +kernel⟩
def menuA : List Str := ["ab", "ab", "bf", "acd", "ah", "a", "ab", "ce"]
def spLAsks : Sp := fun vs H Q _ => ∃ (p : Addr), vs = [.ref p] ∧ Src H p ∧ ∀ (z : Str) (H' : Hp), z ∈ menuA → Src H' p → But p H H' → Q (.str z) H'
theorem ok_lasks {fd : FuncData} (F : Fun K "_law_asks" "_law_asks" s__law_asks A.fLAsks fd) (T : Tx K mg A) (KDraw : Kp P w K mg base CX0 1 A.fDraw ["_law_source_here", "_law_many"] spDraw) :
    FnOk P w K mg base CX0 2 A.fLAsks fd ["_law_source_here"] spLAsks := by
  obtain ⟨fdD, GDraw, bDraw, kDraw⟩ := KDraw
  have nd := sc__law_asks.nd
  refine F.ok sc__law_asks (fun vs H Q E h => ?_) (fun cdv A' outer s H vs Q E hr h => ?_)
  · obtain ⟨p, rfl, _⟩ := h
    rfl
  · obtain ⟨p, rfl, hp, q⟩ := h
    refine ⟨_, (pss_one (ps_ret (pe_ix ix_list (pe_lst (pa_cons pe_str (pa_cons pe_str (pa_cons pe_str (pa_cons pe_str (pa_cons pe_str (pa_cons pe_str (pa_cons pe_str (pa_cons pe_str pa_nil))))))))) (pe_call GDraw (hr.mono (by decide)) rfl T.m_law_draw kDraw bDraw .nil pass0 (pa_cons (pv 0) (pa_cons pe_int pa_nil))) (fun _ _ => rfl)))), ?_⟩
    refine ⟨(by show 8 ≤ sizeLine; decide), fun l hl => ?_⟩
    have hs := same_new (o := .lst [.str "ab", .str "ab", .str "bf", .str "acd", .str "ah", .str "a", .str "ab", .str "ce"]) hl
    have hlp : l ≠ p := by
      obtain ⟨o, ho⟩ := hp.some
      exact (ne_of_none ho hl).symm
    refine ⟨_, rfl, p, 8, rfl, hp.same hs, by decide, by decide, fun d H1 d0 d1 g1 b1 => ?_⟩
    obtain ⟨j, rfl⟩ : ∃ j : Nat, d = (j : Int) := ⟨d.toNat, by omega⟩
    have hj : j < menuA.length := by
      show j < 8
      omega
    refine ⟨l, _, _, .str menuA[j], rfl, rfl, SqL.of (b1 l _ upd_same hlp), atI_nat ?_, q _ H1 (List.getElem_mem hj) g1 ((But.of hs).trans b1)⟩
    show (menuA.map V.str)[j]? = some (V.str menuA[j])
    rw [List.getElem?_map, List.getElem?_eq_getElem hj]
    rfl
end
end Aw
namespace Aw
open PySem PySem.Spec PyProof.Rows L2
theorem iteN {p A B : Prop} [Decidable p] (h : ¬ p) (b : B) : if decide p = true then A else B := by
  rw [decide_eq_false h]
  exact iteF b
theorem iteY {p A B : Prop} [Decidable p] (h : p) (a : A) : if decide p = true then A else B := by
  rw [decide_eq_true h]
  exact iteT a
section
variable {X : Cx}
/-- x is True, x is False: x no object -/
def rIsB1 : R2 := fun x y H Q => ∃ b : Bool, y = .bl b ∧ (match x with | .non => True | .bl _ => True | .int _ => True | .str _ => True | _ => False) ∧ Q (.bl (decide (x = .bl b))) H
theorem op_isB1 : OpR X (compareOp .Is) rIsB1 := by
  intro pins s σ H x y v u Q I rx ry h
  obtain ⟨b, rfl, hx, q⟩ := h
  cases (show u = Value.bool b from ry)
  cases x with
  | non =>
    cases (show v = Value.none from rx)
    exact wpAny_is_other rfl (fun z => nomatch z) ⟨.bl false, H, I, rfl, by simpa using q⟩
  | bl a =>
    cases (show v = Value.bool a from rx)
    by_cases e : a = b
    · subst e
      exact wpAny_is_self rfl ⟨.bl true, H, I, rfl, by simpa using q⟩
    · exact wpAny_is_other rfl (fun z => e (Value.bool.inj z)) ⟨.bl false, H, I, rfl, by simpa [e] using q⟩
  | int i =>
    obtain ⟨t, rfl⟩ := rx
    exact wpAny_is_other rfl (fun z => nomatch z) ⟨.bl false, H, I, rfl, by simpa using q⟩
  | str i =>
    obtain ⟨t, rfl⟩ := rx
    exact wpAny_is_other rfl (fun z => nomatch z) ⟨.bl false, H, I, rfl, by simpa using q⟩
  | _ => exact hx.elim
end
section
variable {P : Program} {w : World} {K : PySem.W.Frag} {mg : Str → Option Value} {base : Heap} {A : Ad}
abbrev N__law_is_int : List Str := ["_law_thing"]
theorem sc__law_is_int : FnScope N__law_is_int ["_law_thing"] (defScope s__law_is_int) := ⟨rfl, rfl, rfl, by decide +kernel, rfl, by decide +kernel, by decide +kernel⟩
theorem ok_never {x qual : Str} {st : Stmt} {f : Addr} {fd : FuncData} {N ps : List Str} {k : Nat} (F : Fun K x qual st f fd) (S : FnScope N ps (defScope st)) : FnOk P w K mg base CX0 (k + 1) f fd ps (fun _ _ _ _ => False) :=
  F.ok S (fun _ _ _ _ h => h.elim) (fun _ _ _ _ _ _ _ _ _ h => h.elim)
abbrev N__law_exact : List Str := ["_law_told", "_law_due_here", "_law_one", "_law_other"]
theorem sc__law_exact : FnScope N__law_exact ["_law_told", "_law_due_here"] (defScope s__law_exact) := ⟨rfl, rfl, rfl, by decide +kernel, rfl, by decide +kernel, by decide +kernel⟩
def spEx0 : Sp := fun vs H Q _ => ∃ a : Str, vs = [.str a, .str a] ∧ Q (.bl true) H
def spEx1 : Sp := fun vs H Q _ => ∃ (p q : Addr) (xs : List Str), vs = [.ref p, .ref q] ∧ H p = some (.tup (xs.map V.str)) ∧ H q = some (.tup (xs.map V.str)) ∧ ∀ H', Same H H' → Q (.bl true) H'
theorem ok_ex0 {fd : FuncData} {sp2 : Sp} (F : Fun K "_law_exact" "_law_exact" s__law_exact A.fExact fd) (T : Tx K mg A) (KInt : Kp P w K mg base CX0 1 A.fInt ["_law_thing"] sp2)
    (KExact : Kp P w K mg base CX0 1 A.fExact ["_law_told", "_law_due_here"] (fun _ _ _ _ => False)) : FnOk P w K mg base CX0 2 A.fExact fd ["_law_told", "_law_due_here"] spEx0 := by
  obtain ⟨fdI, GInt, bInt, kInt⟩ := KInt
  obtain ⟨fdE, GExact, bExact, kExact⟩ := KExact
  have nd := sc__law_exact.nd
  refine F.ok sc__law_exact (fun vs H Q E h => ?_) (fun cdv A' outer s H vs Q E hr h => ?_)
  · obtain ⟨a, rfl, _⟩ := h
    rfl
  · obtain ⟨a, rfl, q⟩ := h
    refine ⟨_, (pss_cons (ps_if (pt_val (pe_callB call_isi (by rfl) T.nisinstance (by decide +kernel) (pa_cons (pv 1) (pa_cons (pe_bltn (v := .ty "tuple") (by rfl) T.ntuple (by decide +kernel) rfl) pa_nil)))) (pss_cons (ps_if (PW.pt (pw_or (pt_not (pt_val (pe_callB call_isi (by rfl) T.nisinstance (by decide +kernel) (pa_cons (pv 0) (pa_cons (pe_bltn (v := .ty "tuple") (by rfl) T.ntuple (by decide +kernel) rfl) pa_nil))))) (pw_or1 (pt_cmpR op_ne (pe_callB call_len (by rfl) T.nlen (by decide +kernel) (pa_cons (pv 0) pa_nil)) (pe_callB call_len (by rfl) T.nlen (by decide +kernel) (pa_cons (pv 1) pa_nil)) (nomark _))))) (pss_one (ps_ret pe_bl)) pss_nil)
  (pss_cons (ps_for PassesOwn.never rfl (RZ.pi_zipA (by rfl) T.nzip (pa_cons (pv 0) (pa_cons (pv 1) pa_nil))) (pg_tup (by rfl) (pgs_cons (pg_name (i := 2) nd rfl (by first | exact Or.inl rfl | exact Or.inr rfl)) (pgs_cons (pg_name (i := 3) nd rfl (by first | exact Or.inl rfl | exact Or.inr rfl)) pgs_nil))) (pss_one (ps_if (pt_not (pt_val (pe_call GExact (hr.mono (by decide)) rfl T.m_law_exact kExact bExact .nil pass0 (pa_cons (pv 2) (pa_cons (pv 3) pa_nil))))) (pss_one (ps_ret pe_bl)) pss_nil)))
  (pss_one (ps_ret pe_bl)))) pss_nil)
  (pss_cons (ps_if (pt_cmpR op_isN (pv 1) pe_non (nomark _)) (pss_one (ps_ret (pe_cmpR op_isN (pv 0) pe_non (nomark _)))) pss_nil)
  (pss_cons (ps_if (pt_cmpR op_isB1 (pv 1) pe_bl (nomark _)) (pss_one (ps_ret (pe_cmpR op_isB1 (pv 0) pe_bl (nomark _)))) pss_nil)
  (pss_cons (ps_if (pt_cmpR op_isB1 (pv 1) pe_bl (nomark _)) (pss_one (ps_ret (pe_cmpR op_isB1 (pv 0) pe_bl (nomark _)))) pss_nil)
  (pss_cons (ps_if (pt_val (pe_callB call_isi (by rfl) T.nisinstance (by decide +kernel) (pa_cons (pv 1) (pa_cons (pe_bltn (v := .ty "str") (by rfl) T.nstr (by decide +kernel) rfl) pa_nil)))) (pss_one (ps_ret (pe_and (pe_callB call_isi (by rfl) T.nisinstance (by decide +kernel) (pa_cons (pv 0) (pa_cons (pe_bltn (v := .ty "str") (by rfl) T.nstr (by decide +kernel) rfl) pa_nil))) (pe_one (pe_cmpR op_eq (pv 0) (pv 1) (nomark _)))))) pss_nil)
  (pss_one (ps_ret (pe_and (pe_call GInt (hr.mono (by decide)) rfl T.m_law_is_int kInt bInt .nil pass0 (pa_cons (pv 0) pa_nil)) (pe_one (pe_cmpR op_eq (pv 0) (pv 1) (nomark _))))))))))), ?_⟩
    refine ⟨_, rfl, _, _, _, _, false, rfl, .ty _, .base (.str _), kit_ty (by decide +kernel), _, rfl, iteF ?_⟩
    refine ⟨_, rfl, rfl, _, rfl, iteN (fun z => nomatch z) ?_⟩
    refine ⟨_, rfl, _, rfl, trivial, _, rfl, iteN (fun z => nomatch z) ?_⟩
    refine ⟨_, rfl, _, rfl, trivial, _, rfl, iteN (fun z => nomatch z) ?_⟩
    refine ⟨_, rfl, _, _, _, _, true, rfl, .ty _, .base (.str _), kit_ty (by decide +kernel), _, rfl, iteT ?_⟩
    refine ⟨_, rfl, _, _, _, _, true, rfl, .ty _, .base (.str _), kit_ty (by decide +kernel), _, rfl, iteT ?_⟩
    refine ⟨_, rfl, _, rfl, rfl, ?_⟩
    show Q (.bl (decide (V.str a = V.str a))) H
    rw [decide_eq_true rfl]
    exact q
theorem ok_ex1 {fd : FuncData} {sp2 : Sp} (F : Fun K "_law_exact" "_law_exact" s__law_exact A.fExact fd) (T : Tx K mg A) (KInt : Kp P w K mg base CX0 1 A.fInt ["_law_thing"] sp2)
    (KExact : Kp P w K mg base CX0 2 A.fExact ["_law_told", "_law_due_here"] spEx0) : FnOk P w K mg base CX0 3 A.fExact fd ["_law_told", "_law_due_here"] spEx1 := by
  obtain ⟨fdI, GInt, bInt, kInt⟩ := KInt
  obtain ⟨fdE, GExact, bExact, kExact⟩ := KExact
  have nd := sc__law_exact.nd
  refine F.ok sc__law_exact (fun vs H Q E h => ?_) (fun cdv A' outer s H vs Q E hr h => ?_)
  · obtain ⟨a, b, xs, rfl, _⟩ := h
    rfl
  · obtain ⟨p, r, xs, rfl, hp, hq, q⟩ := h
    refine ⟨_, (pss_cons (ps_if (pt_val (pe_callB call_isi (by rfl) T.nisinstance (by decide +kernel) (pa_cons (pv 1) (pa_cons (pe_bltn (v := .ty "tuple") (by rfl) T.ntuple (by decide +kernel) rfl) pa_nil)))) (pss_cons (ps_if (PW.pt (pw_or (pt_not (pt_val (pe_callB call_isi (by rfl) T.nisinstance (by decide +kernel) (pa_cons (pv 0) (pa_cons (pe_bltn (v := .ty "tuple") (by rfl) T.ntuple (by decide +kernel) rfl) pa_nil))))) (pw_or1 (pt_cmpR op_ne (pe_callB call_len (by rfl) T.nlen (by decide +kernel) (pa_cons (pv 0) pa_nil)) (pe_callB call_len (by rfl) T.nlen (by decide +kernel) (pa_cons (pv 1) pa_nil)) (nomark _))))) (pss_one (ps_ret pe_bl)) pss_nil)
  (pss_cons (ps_for PassesOwn.never rfl (RZ.pi_zipA (by rfl) T.nzip (pa_cons (pv 0) (pa_cons (pv 1) pa_nil))) (pg_tup (by rfl) (pgs_cons (pg_name (i := 2) nd rfl (by first | exact Or.inl rfl | exact Or.inr rfl)) (pgs_cons (pg_name (i := 3) nd rfl (by first | exact Or.inl rfl | exact Or.inr rfl)) pgs_nil))) (pss_one (ps_if (pt_not (pt_val (pe_call GExact (hr.mono (by decide)) rfl T.m_law_exact kExact bExact .nil pass0 (pa_cons (pv 2) (pa_cons (pv 3) pa_nil))))) (pss_one (ps_ret pe_bl)) pss_nil)))
  (pss_one (ps_ret pe_bl)))) pss_nil)
  (pss_cons (ps_if (pt_cmpR op_isN (pv 1) pe_non (nomark _)) (pss_one (ps_ret (pe_cmpR op_isN (pv 0) pe_non (nomark _)))) pss_nil)
  (pss_cons (ps_if (pt_cmpR op_isB1 (pv 1) pe_bl (nomark _)) (pss_one (ps_ret (pe_cmpR op_isB1 (pv 0) pe_bl (nomark _)))) pss_nil)
  (pss_cons (ps_if (pt_cmpR op_isB1 (pv 1) pe_bl (nomark _)) (pss_one (ps_ret (pe_cmpR op_isB1 (pv 0) pe_bl (nomark _)))) pss_nil)
  (pss_cons (ps_if (pt_val (pe_callB call_isi (by rfl) T.nisinstance (by decide +kernel) (pa_cons (pv 1) (pa_cons (pe_bltn (v := .ty "str") (by rfl) T.nstr (by decide +kernel) rfl) pa_nil)))) (pss_one (ps_ret (pe_and (pe_callB call_isi (by rfl) T.nisinstance (by decide +kernel) (pa_cons (pv 0) (pa_cons (pe_bltn (v := .ty "str") (by rfl) T.nstr (by decide +kernel) rfl) pa_nil))) (pe_one (pe_cmpR op_eq (pv 0) (pv 1) (nomark _)))))) pss_nil)
  (pss_one (ps_ret (pe_and (pe_call GInt (hr.mono (by decide)) rfl T.m_law_is_int kInt bInt .nil pass0 (pa_cons (pv 0) pa_nil)) (pe_one (pe_cmpR op_eq (pv 0) (pv 1) (nomark _))))))))))), ?_⟩
    refine ⟨_, rfl, _, _, _, _, true, rfl, .ty _, .base (.tup hq), kit_ty (by decide +kernel), _, rfl, iteT ?_⟩
    refine ⟨_, rfl, _, _, _, _, true, rfl, .ty _, .base (.tup hp), kit_ty (by decide +kernel), _, rfl, iteF ?_⟩
    refine ⟨_, rfl, V.ref p, _, rfl, .inr ⟨_, SqT.of hp, rfl⟩, _, rfl, V.ref r, _, rfl, .inr ⟨_, SqT.of hq, rfl⟩, rfl, _, rfl, iteNS rfl ?_⟩
    refine ⟨_, rfl, _, rfl, p, r, _, _, rfl, .inr ⟨SqT.of hp, SqT.of hq, RZ.for_zipT rfl (fun _ σ H' => ∃ o2 o3, σ = [some (.ref p), some (.ref r), o2, o3] ∧ Same H H') ⟨none, none, rfl, Same.refl H⟩ (fun i σ H' ⟨_, _, _, sm⟩ => ⟨SqT.of (sm _ _ hp), SqT.of (sm _ _ hq)⟩) ?_ ?_⟩⟩
    · rintro i x y U σ H' hx hy ⟨o2, o3, rfl, sm⟩ hU
      have exy : x = y := Option.some.inj (hx.symm.trans hy)
      subst exy
      obtain ⟨z, hz, rfl⟩ : ∃ z, xs[i]? = some z ∧ x = V.str z := by
        rw [List.getElem?_map] at hx
        cases e : xs[i]? with
        | none =>
          rw [e] at hx
          cases hx
        | some z =>
          rw [e] at hx
          exact ⟨z, rfl, (Option.some.inj hx).symm⟩
      refine ⟨U, _, rfl, SqT.of upd_same, rfl, _, _, rfl, _, _, rfl, rfl, ?_⟩
      refine ⟨_, rfl, _, rfl, z, rfl, _, rfl, iteF ?_⟩
      exact ⟨_, _, rfl, sm.trans (same_new hU)⟩
    · rintro σ H' ⟨o2, o3, rfl, sm⟩
      exact q H' sm
/-! ## the order of rows -/
abbrev N__law_before : List Str := ["_law_one", "_law_other"]
theorem sc__law_before : FnScope N__law_before ["_law_one", "_law_other"] (defScope s__law_before) := ⟨rfl, rfl, rfl, by decide +kernel, rfl, by decide +kernel, by decide +kernel⟩
def befB (a b : Str) : Bool := if a.length = b.length then decide (a.cps.toList < b.cps.toList) else decide (a.length < b.length)
def spBef : Sp := fun vs H Q _ => ∃ a b : Str, vs = [.str a, .str b] ∧ a.length ≤ sizeLine ∧ b.length ≤ sizeLine ∧ Q (.bl (befB a b)) H
theorem ok_before {fd : FuncData} (F : Fun K "_law_before" "_law_before" s__law_before A.fBef fd) (T : Tx K mg A) : FnOk P w K mg base CX0 1 A.fBef fd ["_law_one", "_law_other"] spBef := by
  have nd := sc__law_before.nd
  refine F.ok sc__law_before (fun vs H Q E h => ?_) (fun cdv A' outer s H vs Q E hr h => ?_)
  · obtain ⟨a, b, rfl, _⟩ := h
    rfl
  · obtain ⟨a, b, rfl, ha, hb, q⟩ := h
    refine ⟨_, (pss_cons (ps_if (pt_cmpR op_ne (pe_callB call_len (by rfl) T.nlen (by decide +kernel) (pa_cons (pv 0) pa_nil)) (pe_callB call_len (by rfl) T.nlen (by decide +kernel) (pa_cons (pv 1) pa_nil)) (nomark _)) (pss_one (ps_ret (pe_cmpR op_lt (pe_callB call_len (by rfl) T.nlen (by decide +kernel) (pa_cons (pv 0) pa_nil)) (pe_callB call_len (by rfl) T.nlen (by decide +kernel) (pa_cons (pv 1) pa_nil)) (nomark _)))) pss_nil)
  (pss_one (ps_ret (pe_cmpR op_lt_str (pv 0) (pv 1) (nomark _))))), ?_⟩
    refine ⟨_, rfl, V.str a, _, rfl, ⟨ha, rfl⟩, _, rfl, V.str b, _, rfl, ⟨hb, rfl⟩, rfl, _, rfl, ?_⟩
    by_cases e : a.length = b.length
    · have e2 : V.int (a.length : Nat) = V.int (b.length : Nat) := by rw [e]
      refine iteNS e2 ⟨_, rfl, _, rfl, a, b, rfl, rfl, ?_⟩
      have e3 : befB a b = decide (a.cps.toList < b.cps.toList) := if_pos e
      rw [← e3]
      exact q
    · have e2 : ¬ V.int (a.length : Nat) = V.int (b.length : Nat) := fun z => e (Int.ofNat.inj (V.int.inj z))
      rw [decide_eq_false e2]
      refine iteT ⟨_, rfl, V.str a, _, rfl, ⟨ha, rfl⟩, _, rfl, V.str b, _, rfl, ⟨hb, rfl⟩, _, _, rfl, rfl, ?_⟩
      have e3 : befB a b = decide ((a.length : Int) < (b.length : Int)) := by
        unfold befB
        rw [if_neg e]
        exact decide_eq_decide.mpr (by omega)
      show Q (.bl (decide ((a.length : Int) < (b.length : Int)))) H
      rw [← e3]
      exact q
end
end Aw
namespace Aw
open PySem PySem.Spec PyProof.Rows L2 TL
/-! ## comprehensions over a text, over two lists -/
section
variable {K : PySem.W.Frag} {g : TG} {tt : TT} {te : TE} {vs : List Nat} {σ : L2.St} {H1 : Hp} {D : Addr} {Qd : Hp → Prop}
/-- a turn of a comprehension without a test: what its element gives is put behind the list at D -/
abbrev LcTurn (g : TG) (tt : TT) (te : TE) (vs : List Nat) (σ : L2.St) (D : Addr) (Nx : Hp → Prop) (x : V) (H : Hp) : Prop :=
  g x (wipe σ vs) H fun σ2 H2 => wipe σ2 vs = wipe σ vs ∧ tt σ2 H2 fun b H3 => if b = true then te σ2 H3 fun y H4 => ∃ acc, H4 D = some (.lst acc) ∧ acc.length < sizeLine ∧ Nx (upd H4 D (.lst (acc ++ [y]))) else Nx H3
theorem yes_go {σ : L2.St} {H : Hp} {A B : Hp → Prop} (h : A H) : tYes σ H fun b H3 => if b = true then A H3 else B H3 := by
  show (if true = true then A H else B H)
  rw [if_pos rfl]
  exact h
theorem lc_text {z : Str} (Pv : Nat → Hp → Prop) (h0 : Pv 0 (upd H1 D (.lst [])))
    (hs : ∀ (i : Nat) (c : Nat) (H : Hp), z.cps.toList[i]? = some c → Pv i H → LcTurn g tt te vs σ D (Pv (i + 1)) (.str ⟨#[c]⟩) H) (hd : ∀ H, Pv z.cps.toList.length H → Qd H) :
    ∃ W : Nat → Nat → Hp → Prop, (∃ m, W 0 m (upd H1 D (.lst []))) ∧ ∀ i m H, W i m H →
      ((Its z).stop i H ∧ Qd H) ∨ ((Its z).go i H ∧ ∃ Nx : Hp → Prop, (∀ H', Nx H' → ∃ m', m' < m ∧ W (i + 1) m' H') ∧ ∀ x H', (Its z).yld i H x H' → LcTurn g tt te vs σ D Nx x H') := by
  have ez : z.cps.toList.length = z.cps.size := Array.length_toList
  refine ⟨fun i m H => m + i = z.cps.size ∧ Pv i H, ⟨z.cps.size, rfl, h0⟩, ?_⟩
  intro i m H ⟨hm, pv⟩
  by_cases hlt : i < z.cps.size
  · refine .inr ⟨hlt, Pv (i + 1), fun H' p' => ⟨m - 1, by omega, by omega, p'⟩, fun x H' hy => ?_⟩
    obtain ⟨rfl, c, hc, rfl⟩ := hy
    exact hs i c H' (by rw [Array.getElem?_toList]; exact hc) pv
  · have e : i = z.cps.size := by omega
    refine .inl ⟨by show z.cps.size ≤ i; omega, hd H ?_⟩
    rw [ez, ← e]
    exact pv
theorem lc_zip {a b : Addr} {xs ys : List V} (Pv : Nat → Hp → Prop) (h0 : Pv 0 (upd H1 D (.lst []))) (hq : ∀ i H, Pv i H → SqL K H a xs ∧ SqL K H b ys)
    (hs : ∀ (i : Nat) (x y : V) (U : Addr) (H : Hp), xs[i]? = some x → ys[i]? = some y → Pv i H → H U = none → LcTurn g tt te vs σ D (Pv (i + 1)) (.ref U) (upd H U (.tup [x, y])))
    (hd : ∀ H, Pv (min xs.length ys.length) H → Qd H) :
    ∃ W : Nat → Nat → Hp → Prop, (∃ m, W 0 m (upd H1 D (.lst []))) ∧ ∀ i m H, W i m H →
      ((Itz K a b).stop i H ∧ Qd H) ∨ ((Itz K a b).go i H ∧ ∃ Nx : Hp → Prop, (∀ H', Nx H' → ∃ m', m' < m ∧ W (i + 1) m' H') ∧ ∀ x H', (Itz K a b).yld i H x H' → LcTurn g tt te vs σ D Nx x H') := by
  refine ⟨fun i m H => m + i = min xs.length ys.length ∧ Pv i H, ⟨min xs.length ys.length, rfl, h0⟩, ?_⟩
  intro i m H ⟨hm, pv⟩
  obtain ⟨qa, qb⟩ := hq i H pv
  by_cases hlt : i < min xs.length ys.length
  · have h1 : i < xs.length := by omega
    have h2 : i < ys.length := by omega
    refine .inr ⟨⟨xs, ys, _, _, qa, qb, List.getElem?_eq_getElem h1, List.getElem?_eq_getElem h2⟩, Pv (i + 1), fun H' p' => ⟨m - 1, by omega, by omega, p'⟩, fun v H' hy => ?_⟩
    obtain ⟨U, x, y, rfl, hU, rfl, f1, f2⟩ := hy
    exact hs i x y U H (f1 xs qa) (f2 ys qb) pv hU
  · have e : i = min xs.length ys.length := by omega
    refine .inl ⟨⟨xs, ys, qa, qb, by omega⟩, hd H ?_⟩
    rw [← e]
    exact pv
end
theorem TyX.mono {K : PySem.W.Frag} {H H' : Hp} (e : Same H H') {x : V} {t : Value} (h : TyX K H x t) : TyX K H' x t := by
  cases h with
  | base b =>
    refine .base ?_
    cases b with
    | non => exact .non
    | bl y => exact .bl y
    | int i => exact .int i
    | str y => exact .str y
    | flt y => exact .flt y
    | lst q => exact .lst (e _ _ q)
    | frz q => exact .frz (e _ _ q)
    | tup q => exact .tup (e _ _ q)
    | dK q => exact .dK (e _ _ q)
    | dT q => exact .dT (e _ _ q)
    | ins q c1 c2 c3 c4 c5 => exact .ins (e _ _ q) c1 c2 c3 c4 c5
  | byt b => exact .byt b
  | set q => exact .set (e _ _ q)
  | kList q c => exact .kList q c
  | kTuple q c => exact .kTuple q c
  | kDict q c => exact .kDict q c
  | fTuple q => exact .fTuple (e _ _ q)
  | fDict q => exact .fDict (e _ _ q)
section
variable {P : Program} {w : World} {K : PySem.W.Frag} {mg : Str → Option Value} {base : Heap} {A : Ad}
/-! ## a drawn row -/
theorem tl_empty : tl (Str.ofString "") = [] := by decide +kernel
theorem join_signs (L : List Nat) : ∀ ys : List Str, (∀ y ∈ ys, ∃ c ∈ L, y = ⟨#[c]⟩) → (∀ c ∈ joinL [] (ys.map tl), c ∈ L) ∧ (joinL [] (ys.map tl)).length = ys.length
  | [], _ => ⟨(fun c h => nomatch h), rfl⟩
  | [y], h => by
    obtain ⟨c, hc, rfl⟩ := h y List.mem_cons_self
    refine ⟨fun d hd => ?_, rfl⟩
    have e : d = c := List.mem_singleton.mp hd
    rw [e]
    exact hc
  | y :: z :: r, h => by
    obtain ⟨c, hc, rfl⟩ := h y List.mem_cons_self
    obtain ⟨k1, k2⟩ := join_signs L (z :: r) fun x hx => h x (List.mem_cons_of_mem _ hx)
    have e : joinL [] ((⟨#[c]⟩ :: z :: r : List Str).map tl) = c :: joinL [] ((z :: r).map tl) := rfl
    rw [e]
    refine ⟨fun d hd => ?_, ?_⟩
    · rcases List.mem_cons.mp hd with rfl | hd
      · exact hc
      · exact k1 d hd
    · rw [List.length_cons, k2]
      rfl
theorem sum_ones : ∀ ys : List Str, (∀ y ∈ ys, y.length = 1) → (ys.map (·.length)).sum = ys.length
  | [], _ => rfl
  | y :: r, h => by
    rw [List.map_cons, List.sum_cons, sum_ones r fun x hx => h x (List.mem_cons_of_mem _ hx), h y List.mem_cons_self, List.length_cons]
    omega
abbrev N__law_row : List Str := ["_law_source_here", "_law_asks_here", "_law_longest", "_law_size", "_law_k"]
theorem sc__law_row : FnScope N__law_row ["_law_source_here", "_law_asks_here", "_law_longest"] (defScope s__law_row) := ⟨rfl, rfl, rfl, by decide +kernel, rfl, by decide +kernel, by decide +kernel⟩
def spLRow : Sp := fun vs H Q _ => ∃ (p : Addr) (z : Str) (m : Int), vs = [.ref p, .str z, .int m] ∧ Src H p ∧ 0 < z.length ∧ z.length ≤ 100 ∧ 0 ≤ m ∧ m ≤ 1000 ∧
  ∀ (y : Str) (H' : Hp), (∀ c ∈ y.cps.toList, c ∈ z.cps.toList) → (y.length : Int) ≤ m → Src H' p → But p H H' → Q (.str y) H'
theorem ok_lrow {fd : FuncData} (F : Fun K "_law_row" "_law_row" s__law_row A.fLRow fd) (T : Tx K mg A) (KDraw : Kp P w K mg base CX0 1 A.fDraw ["_law_source_here", "_law_many"] spDraw) :
    FnOk P w K mg base CX0 2 A.fLRow fd ["_law_source_here", "_law_asks_here", "_law_longest"] spLRow := by
  obtain ⟨fdD, GDraw, bDraw, kDraw⟩ := KDraw
  have nd := sc__law_row.nd
  refine F.ok sc__law_row (fun vs H Q E h => ?_) (fun cdv A' outer s H vs Q E hr h => ?_)
  · obtain ⟨p, z, m, rfl, _⟩ := h
    rfl
  · obtain ⟨p, z, m, rfl, hp, hz, hz2, hm, hm2, q⟩ := h
    have hzl : z.length ≤ sizeLine := Nat.le_trans hz2 (by decide)
    have ez : z.cps.toList.length = z.length := Array.length_toList
    refine ⟨_, (pss_cons (ps_set (i := 3) nd rfl (by first | exact Or.inl rfl | exact Or.inr rfl) (pe_call GDraw (hr.mono (by decide)) rfl T.m_law_draw kDraw bDraw .nil pass0 (pa_cons (pv 0) (pa_cons (pe_op op_add (pv 2) pe_int) pa_nil))))
  (pss_one (ps_ret (pe_join pe_str (pe_lc (own := [("_law_k", 4)]) (g := gName 4) (tt := tYes) rfl nd (pi_range1 (by rfl) T.nrange (pa_cons (pv 3) pa_nil)) (blkOk_by (own := [("_law_k", 4)]) (N := N__law_row) (sc := defScope s__law_row) (by decide +kernel)) (fun _ _ _ _ _ => (pg_name (i := 4) nd rfl (by first | exact Or.inl rfl | exact Or.inr rfl))) (fun _ _ _ _ _ => pts_nil) (fun _ _ _ _ _ => (pe_ix ix_str (pv 1) (pe_call GDraw (hr.mono (by decide)) rfl T.m_law_draw kDraw bDraw .nil pass0 (pa_cons (pv 0) (pa_cons (pe_callB call_len_str (by rfl) T.nlen (by decide +kernel) (pa_cons (pv 1) pa_nil)) pa_nil))) (fun _ _ => rfl)))))))), ?_⟩
    refine ⟨_, rfl, _, rfl, _, _, rfl, rfl, p, m + 1, rfl, hp, by omega, by omega, fun d H1 d0 d1 g1 b1 => ?_⟩
    refine ⟨⟨_, rfl⟩, _, rfl, d, rfl, by omega, by omega, fun D hD => ?_⟩
    have hDp : D ≠ p := by
      obtain ⟨o, ho⟩ := g1.some
      exact (ne_of_none ho hD).symm
    refine lc_range (lo := 0) (n := d.toNat) (fun i H' => ∃ ys : List Str, H' D = some (.lst (ys.map V.str)) ∧ ys.length = i ∧ (∀ y ∈ ys, ∃ c ∈ z.cps.toList, y = ⟨#[c]⟩) ∧ Src H' p ∧ But p H1 H')
      ⟨[], upd_same, rfl, (fun _ h => nomatch h), g1.same (same_new hD), But.of (same_new hD)⟩ ?_ ?_
    · rintro i H2 hi ⟨ys, hy1, hy2, hy3, g2, b2⟩
      refine ⟨rfl, ?_⟩
      refine yes_go ?_
      refine ⟨_, rfl, _, rfl, _, rfl, z, rfl, hzl, p, (z.length : Int), rfl, g2, by omega, by omega, fun e H4 e0 e1 g4 b4 => ?_⟩
      obtain ⟨j, rfl⟩ : ∃ j : Nat, e = (j : Int) := ⟨e.toNat, by omega⟩
      have hj : j < z.cps.toList.length := by omega
      refine ⟨z, _, z.cps.toList[j], rfl, rfl, hzl, atI_nat (List.getElem?_eq_getElem hj), _, b4 D _ hy1 hDp, ?_, ys ++ [⟨#[z.cps.toList[j]]⟩], ?_, ?_, ?_, ?_, ?_⟩
      · rw [List.length_map, hy2]
        exact Nat.lt_of_lt_of_le (show i < 2000 by omega) (by decide)
      · rw [upd_same, List.map_append]
        rfl
      · rw [List.length_append, hy2]
        rfl
      · intro y hy
        rcases List.mem_append.mp hy with hy | hy
        · exact hy3 y hy
        · rw [List.mem_singleton.mp hy]
          exact ⟨_, List.getElem_mem hj, rfl⟩
      · exact g4.but (But.upd (s := D)) hDp.symm
      · intro b o hb nb
        rw [upd_ne (ne_of_none hb hD)]
        exact b4 b o (b2 b o hb nb) nb
    · rintro H2 ⟨ys, hy1, hy2, hy3, g2, b2⟩
      have hl1 : ∀ y ∈ ys, y.length = 1 := fun y hy => by
        obtain ⟨c, _, rfl⟩ := hy3 y hy
        rfl
      refine ⟨_, D, ys, rfl, rfl, .inl (SqL.of hy1), ?_, ?_⟩
      · rw [sum_ones ys hl1]
        show ys.length + ys.length * (Str.ofString "").length ≤ 16777216
        rw [show (Str.ofString "").length = 0 by decide +kernel]
        omega
      · obtain ⟨k1, k2⟩ := join_signs z.cps.toList ys hy3
        have et : tl (Txt.join (Str.ofString "") ys) = joinL [] (ys.map tl) := by rw [join_eq, tl_join, tl_empty]
        refine q _ H2 (fun c hc => k1 c ?_) ?_ g2 (b1.trans b2)
        · rw [← et]
          exact hc
        · rw [len_tl, et, k2, hy2]
          omega
end
end Aw
namespace Aw
open PySem PySem.Spec PyProof.Rows L2 TL
/-! ## the law's own list of rows -/
def insL (f : List Str) (r : Str) : List Str := if r ∈ f then f else f.take (f.filter (befB · r)).length ++ [r] ++ f.drop (f.filter (befB · r)).length
def dueL (rs : List Str) : List Str := rs.foldl insL []
theorem take_more {α : Type} {l : List α} {i : Nat} {x : α} (h : l[i]? = some x) : l.take (i + 1) = l.take i ++ [x] := by
  rw [List.take_add_one, h]
  rfl
theorem dueL_more {rs : List Str} {i : Nat} {r : Str} (h : rs[i]? = some r) : dueL (rs.take (i + 1)) = insL (dueL (rs.take i)) r := by
  unfold dueL
  rw [take_more h, List.foldl_append]
  rfl
theorem insL_len (f : List Str) (r : Str) : (insL f r).length ≤ f.length + 1 := by
  unfold insL
  split
  · omega
  · rw [List.length_append, List.length_append, List.length_take, List.length_drop, List.length_singleton]
    have := List.length_filter_le (befB · r) f
    omega
theorem insL_mem {f : List Str} {r x : Str} : x ∈ insL f r ↔ x ∈ f ∨ x = r := by
  unfold insL
  split
  · rename_i h
    constructor
    · exact Or.inl
    · rintro (h1 | rfl)
      · exact h1
      · exact h
  · have e : ∀ n, x ∈ f ↔ x ∈ f.take n ∨ x ∈ f.drop n := fun n => by
      rw [← List.mem_append, List.take_append_drop]
    rw [List.mem_append, List.mem_append, List.mem_singleton, e (f.filter (befB · r)).length]
    constructor
    · rintro ((h | h) | h)
      · exact .inl (.inl h)
      · exact .inr h
      · exact .inl (.inr h)
    · rintro ((h | h) | h)
      · exact .inl (.inl h)
      · exact .inr h
      · exact .inl (.inr h)
theorem fold_len : ∀ (rs f : List Str), (rs.foldl insL f).length ≤ f.length + rs.length
  | [], f => Nat.le_refl _
  | r :: rs, f => by
    have h1 := fold_len rs (insL f r)
    have h2 := insL_len f r
    rw [List.foldl_cons, List.length_cons]
    omega
theorem dueL_len (rs : List Str) : (dueL rs).length ≤ rs.length := by
  have h := fold_len rs []
  unfold dueL
  simpa using h
theorem fold_mem {x : Str} : ∀ (rs f : List Str), x ∈ rs.foldl insL f ↔ x ∈ f ∨ x ∈ rs
  | [], f => by simp
  | r :: rs, f => by
    rw [List.foldl_cons, fold_mem rs, insL_mem, List.mem_cons, or_assoc]
theorem dueL_mem {x : Str} {rs : List Str} : x ∈ dueL rs ↔ x ∈ rs := by
  unfold dueL
  rw [fold_mem]
  simp
theorem flat_strs (l : List Str) : (l.map V.str).all flatV = true := by
  induction l with
  | nil => rfl
  | cons x r ih => exact ih
theorem inV_str (x : Str) (l : List Str) : inV (.str x) (l.map V.str) = decide (x ∈ l) := by
  induction l with
  | nil => rfl
  | cons y r ih =>
    have e : inV (.str x) ((y :: r).map V.str) = ((y == x) || inV (.str x) (r.map V.str)) := rfl
    rw [e, ih]
    by_cases h : y = x
    · subst h
      simp
    · have h2 : ¬ x = y := fun z => h z.symm
      simp [h, h2]
theorem get_str {l : List Str} {i : Nat} {x : V} (h : (l.map V.str)[i]? = some x) : ∃ z, l[i]? = some z ∧ x = V.str z := by
  rw [List.getElem?_map] at h
  cases e : l[i]? with
  | none =>
    rw [e] at h
    cases h
  | some z =>
    rw [e] at h
    exact ⟨z, rfl, (Option.some.inj h).symm⟩
theorem cut_to (l : List Str) (n : Nat) : cutV (l.map V.str) none (some (n : Int)) = (l.take n).map V.str := by
  unfold cutV
  rw [HT.sIx_nat, HT.sIx_none, List.drop_zero, Nat.sub_zero, ← List.map_take, List.length_map]
  by_cases h : n ≤ l.length
  · rw [Nat.min_eq_left h]
  · rw [Nat.min_eq_right (by omega), List.take_of_length_le (Nat.le_refl _), List.take_of_length_le (by omega)]
theorem cut_from (l : List Str) (n : Nat) : cutV (l.map V.str) (some (n : Int)) none = (l.drop n).map V.str := by
  unfold cutV
  rw [HT.sIx_nat, HT.sIx_none, ← List.map_drop, List.length_map]
  by_cases h : n ≤ l.length
  · rw [Nat.min_eq_left h, List.take_of_length_le (by rw [List.length_map, List.length_drop]; omega)]
  · rw [Nat.min_eq_right (by omega), Nat.sub_self, List.take_zero, List.drop_of_length_le (by omega)]
    rfl
section
variable {P : Program} {w : World} {K : PySem.W.Frag} {mg : Str → Option Value} {base : Heap} {A : Ad}
abbrev N__law_due : List Str := ["_law_rows", "_law_found", "_law_row_here", "_law_place", "_law_other"]
theorem sc__law_due : FnScope N__law_due ["_law_rows"] (defScope s__law_due) := ⟨rfl, rfl, rfl, by decide +kernel, rfl, by decide +kernel, by decide +kernel⟩
def spDue (K : PySem.W.Frag) : Sp := fun vs H Q _ => ∃ (l : Addr) (rs : List Str), vs = [.ref l] ∧ SqL K H l (rs.map V.str) ∧ rs.length ≤ 1000 ∧ (∀ r ∈ rs, r.length ≤ sizeLine) ∧
  ∀ (p : Addr) (H' : Hp), Same H H' → H p = none → H' p = some (.tup ((dueL rs).map V.str)) → Q (.ref p) H'
theorem ok_due {fd : FuncData} (F : Fun K "_law_due" "_law_due" s__law_due A.fDue fd) (T : Tx K mg A) (KBef : Kp P w K mg base CX0 1 A.fBef ["_law_one", "_law_other"] spBef) :
    FnOk P w K mg base CX0 2 A.fDue fd ["_law_rows"] (spDue K) := by
  obtain ⟨fdB, GBef, bBef, kBef⟩ := KBef
  have nd := sc__law_due.nd
  refine F.ok sc__law_due (fun vs H Q E h => ?_) (fun cdv A' outer s H vs Q E hr h => ?_)
  · obtain ⟨l, rs, rfl, _⟩ := h
    rfl
  · obtain ⟨l, rs, rfl, hS, hn, hlen, q⟩ := h
    refine ⟨_, (pss_cons (ps_set (i := 1) nd rfl (by first | exact Or.inl rfl | exact Or.inr rfl) (pe_lst pa_nil))
  (pss_cons (ps_for PassesOwn.never rfl (pi_list (pv 0)) (pg_name (i := 2) nd rfl (by first | exact Or.inl rfl | exact Or.inr rfl)) (pss_one (ps_if (pt_cmpR op_notIn_seq (pv 2) (pv 1) (by rfl)) (pss_cons (ps_set (i := 3) nd rfl (by first | exact Or.inl rfl | exact Or.inr rfl) (pe_callB call_len (by rfl) T.nlen (by decide +kernel) (pa_cons (pe_lc (own := [("_law_other", 4)]) (g := gName 4) rfl nd (pi_list (pv 1)) (blkOk_by (own := [("_law_other", 4)]) (N := N__law_due) (sc := defScope s__law_due) (by decide +kernel)) (fun _ _ _ _ _ => (pg_name (i := 4) nd rfl (by first | exact Or.inl rfl | exact Or.inr rfl))) (fun _ _ _ _ _ => (pts_one (pt_val (pe_call GBef (hr.mono (by decide)) rfl T.m_law_before kBef bBef .nil pass0 (pa_cons (pv 4) (pa_cons (pv 2) pa_nil)))))) (fun _ _ _ _ _ => pe_int)) pa_nil)))
  (pss_one (ps_set (i := 1) nd rfl (by first | exact Or.inl rfl | exact Or.inr rfl) (pe_op op_cat (pe_op op_cat (pe_slice sl_list (pv 1) po_none (po_some (pv 3))) (pe_lst (pa_cons (pv 2) pa_nil))) (pe_slice sl_list (pv 1) (po_some (pv 3)) po_none))))) pss_nil)))
  (pss_one (ps_ret (pe_callTy call_tuple_of (by rfl) T.ntuple (by decide +kernel) (pa_cons (pv 1) pa_nil)))))), ?_⟩
    refine ⟨Nat.zero_le _, fun f0 hf0 => ?_⟩
    refine ⟨_, rfl, l, rfl, ⟨_, (same_new hf0).seq hS⟩, for_list (K := K) (a := l) (xs := rs.map V.str)
      (fun i σ H' => ∃ (f : Addr) (o2 o3 : Option V), σ = [some (.ref l), some (.ref f), o2, o3, none] ∧ Same H H' ∧ H' f = some (.lst ((dueL (rs.take i)).map V.str)) ∧ H f = none)
      ⟨f0, none, none, rfl, same_new hf0, upd_same, hf0⟩ (fun i σ H' _ ⟨_, _, _, _, sm, _⟩ => sm.seq hS) ?_ ?_⟩
    · rintro i x σ H2 hx ⟨f, o2, o3, rfl, sm, hf, hf1⟩
      obtain ⟨r, hr1, rfl⟩ := get_str hx
      have hr2 : r.length ≤ sizeLine := hlen r (List.mem_of_getElem? hr1)
      have hsz : (dueL (rs.take i)).length ≤ 1000 := Nat.le_trans (dueL_len _) (Nat.le_trans (by rw [List.length_take]; omega) hn)
      have hml : ∀ y ∈ dueL (rs.take i), y.length ≤ sizeLine := fun y hy => hlen y (List.mem_of_mem_take (dueL_mem.mp hy))
      rw [dueL_more hr1]
      generalize dueL (rs.take i) = fs at hf hsz hml ⊢
      refine ⟨_, rfl, _, rfl, f, _, rfl, .inl (SqL.of hf), rfl, flat_strs fs, _, rfl, ite2 (fun c => ?_) (fun c => ?_)⟩
      · have c1 : (!inV (.str r) (fs.map V.str)) = true := c
        rw [inV_str] at c1
        have hni : ¬ r ∈ fs := by simpa using c1
        refine ⟨_, rfl, f, rfl, ⟨_, SqL.of hf⟩, fun D hD => ?_⟩
        refine lc_list (K := K) (a := f) (xs := fs.map V.str) (fun j H' => Same H2 H' ∧ H' D = some (.lst (((fs.take j).filter (befB · r)).map fun _ => V.int 1))) ⟨same_new hD, upd_same⟩ (fun j H' _ ⟨s3, _⟩ => s3.seq (SqL.of hf)) ?_ ?_
        · rintro j y H3 hy ⟨s3, h3⟩
          obtain ⟨a, ha, rfl⟩ := get_str hy
          refine ⟨rfl, _, rfl, _, rfl, a, r, rfl, hml a (List.mem_of_getElem? ha), hr2, _, rfl, ite2 (fun c2 => ?_) (fun c2 => ?_)⟩
          · refine ⟨_, h3, ?_, ?_, ?_⟩
            · rw [List.length_map]
              refine Nat.lt_of_le_of_lt (List.length_filter_le _ _) ?_
              rw [List.length_take]
              exact Nat.lt_of_le_of_lt (Nat.min_le_right _ _) (Nat.lt_of_le_of_lt hsz (by decide))
            · intro b o hb
              rw [upd_ne (ne_of_none hb hD)]
              exact s3 b o hb
            · rw [upd_same, take_more ha, List.filter_append, List.map_append]
              have e : List.filter (befB · r) [a] = [a] := by
                rw [List.filter_cons, if_pos c2]
                rfl
              rw [e]
              rfl
          · refine ⟨s3, ?_⟩
            rw [h3, take_more ha, List.filter_append]
            have e : List.filter (befB · r) [a] = [] := by
              rw [List.filter_cons, if_neg c2]
              rfl
            rw [e, List.append_nil]
        · rintro H3 ⟨s3, h3⟩
          rw [List.length_map, List.take_length] at h3
          refine ⟨V.ref D, _, rfl, .inl ⟨_, SqL.of h3, rfl⟩, ?_⟩
          rw [List.length_map]
          have hk : (fs.filter (befB · r)).length ≤ 1000 := Nat.le_trans (List.length_filter_le _ _) hsz
          have eI : insL fs r = fs.take (fs.filter (befB · r)).length ++ [r] ++ fs.drop (fs.filter (befB · r)).length := if_neg hni
          rw [eI]
          generalize (fs.filter (befB · r)).length = n at hk ⊢
          refine ⟨_, rfl, _, rfl, (n : Int), rfl, f, _, rfl, SqL.of (s3 _ _ hf), fun p1 h1 => ?_⟩
          have t1 : Same H3 _ := same_new (o := .lst (cutV (fs.map V.str) none (some (n : Int)))) h1
          refine ⟨_, rfl, (by show 1 ≤ sizeLine; decide), fun p2 h2 => ?_⟩
          have t2 := same_new (o := .lst [.str r]) h2
          refine ⟨p1, p2, _, _, rfl, rfl, t2 _ _ upd_same, upd_same, ?_, fun p3 h3 => ?_⟩
          · refine Nat.le_trans (Nat.add_le_add_right (cutV_length _ _ _) _) ?_
            rw [List.length_map]
            exact Nat.le_trans (Nat.add_le_add_right hsz 1) (by decide)
          have t3 := same_new (o := .lst (cutV (fs.map V.str) none (some (n : Int)) ++ [.str r])) h3
          refine ⟨_, rfl, _, rfl, (n : Int), rfl, f, _, rfl, SqL.of (t3 _ _ (t2 _ _ (t1 _ _ (s3 _ _ hf)))), fun p4 h4 => ?_⟩
          have t4 := same_new (o := .lst (cutV (fs.map V.str) (some (n : Int)) none)) h4
          refine ⟨p3, p4, _, _, rfl, rfl, t4 _ _ upd_same, upd_same, ?_, fun p5 h5 => ?_⟩
          · rw [List.length_append]
            refine Nat.le_trans (Nat.add_le_add (Nat.add_le_add_right (cutV_length _ _ _) _) (cutV_length _ _ _)) ?_
            rw [List.length_map]
            exact Nat.le_trans (Nat.add_le_add (Nat.add_le_add_right hsz 1) hsz) (by decide)
          have t5 := same_new (o := .lst (cutV (fs.map V.str) none (some (n : Int)) ++ [.str r] ++ cutV (fs.map V.str) (some (n : Int)) none)) h5
          have tt := (((((sm.trans s3).trans t1).trans t2).trans t3).trans t4)
          refine ⟨p5, _, _, rfl, tt.trans t5, ?_, tt.free h5⟩
          rw [upd_same, cut_to, cut_from, List.map_append, List.map_append]
          rfl
      · have c1 : ¬ (!inV (.str r) (fs.map V.str)) = true := c
        rw [inV_str] at c1
        have hni : r ∈ fs := by simpa using c1
        have eI : insL fs r = fs := if_pos hni
        rw [eI]
        exact ⟨f, _, _, rfl, sm, hf, hf1⟩
    · rintro σ H2 ⟨f, o2, o3, rfl, sm, hf, hf1⟩
      rw [List.length_map, List.take_length] at hf
      exact ⟨_, rfl, f, _, rfl, .inl ⟨SqL.of hf, fun p hp => q p _ (sm.trans (same_new hp)) (sm.free hp) upd_same⟩⟩
end
end Aw
namespace Aw
open PySem PySem.Spec PyProof.Rows L2 TL
theorem iteNN {p A B : Prop} [Decidable p] (h : ¬ p) (a : A) : if (!decide p) = true then A else B := by
  rw [decide_eq_false h]
  exact iteT a
/-! ## asks and rows as the program judges them -/
def plc (c : Nat) : Int := Txt.find (Str.ofString "abcdefgh") ⟨#[c]⟩
/-- each number below the next one -/
def ups : List Int → List Bool
  | a :: b :: r => decide (a < b) :: ups (b :: r)
  | _ => []
def asksB (z : Str) : Bool := decide (1 ≤ z.length) && (decide (z.length ≤ 4) && (decide (0 ≤ ((z.cps.toList.map plc).getD 0 0)) && (ups (z.cps.toList.map plc)).all id))
def asksV : V → Bool
  | .str z => asksB z
  | _ => false
def rowB (a z : Str) : Bool := decide (z.length ≤ 2000) && z.cps.toList.all fun c => decide (c ∈ a.cps.toList)
def rowV (a : Str) : V → Bool
  | .str z => rowB a z
  | _ => false
theorem ups_len : ∀ l : List Int, (ups l).length = l.length - 1
  | [] => rfl
  | [_] => rfl
  | a :: b :: r => by
    show (ups (b :: r)).length + 1 = r.length + 1 + 1 - 1
    rw [ups_len (b :: r)]
    show r.length + 1 - 1 + 1 = r.length + 1 + 1 - 1
    omega
theorem ups_get : ∀ (l : List Int) (i : Nat) (x y : Int), l[i]? = some x → l[i + 1]? = some y → (ups l)[i]? = some (decide (x < y))
  | [], _, _, _, h, _ => by simp at h
  | [_], 0, _, _, _, h => by simp at h
  | [_], i + 1, _, _, h, _ => by simp at h
  | a :: b :: r, 0, x, y, h, h2 => by
    have e1 : a = x := Option.some.inj h
    have e2 : b = y := Option.some.inj h2
    rw [← e1, ← e2]
    rfl
  | a :: b :: r, i + 1, x, y, h, h2 => ups_get (b :: r) i x y h h2
theorem get_int {l : List Int} {i : Nat} {x : V} (h : (l.map V.int)[i]? = some x) : ∃ z, l[i]? = some z ∧ x = V.int z := by
  rw [List.getElem?_map] at h
  cases e : l[i]? with
  | none =>
    rw [e] at h
    cases h
  | some z =>
    rw [e] at h
    exact ⟨z, rfl, (Option.some.inj h).symm⟩
theorem cut_tail (l : List Int) : cutV (l.map V.int) (some 1) none = (l.drop 1).map V.int := by
  unfold cutV
  rw [show HT.sIx (l.map V.int).length 0 (some 1) = min 1 (l.map V.int).length from HT.sIx_nat _ _ 1, HT.sIx_none, ← List.map_drop]
  cases l with
  | nil => rfl
  | cons x r =>
    rw [List.length_map, List.length_cons, Nat.min_eq_left (by omega), List.take_of_length_le (by rw [List.length_map, List.length_drop, List.length_cons]; omega)]
section
variable {P : Program} {w : World} {K : PySem.W.Frag} {mg : Str → Option Value} {base : Heap} {A : Ad}
abbrev N_is_tuple : List Str := ["thing"]
theorem sc_is_tuple : FnScope N_is_tuple ["thing"] (defScope s_is_tuple) := ⟨rfl, rfl, rfl, by decide +kernel, rfl, by decide +kernel, by decide +kernel⟩
def spTup (K : PySem.W.Frag) : Sp := fun vs H Q _ => ∃ (x : V) (t : Value) (b : Bool), vs = [x] ∧ TyX K H x t ∧ PySem.W.kitAny K t [.type "list", .type "tuple"] = some b ∧ ∀ H', Same H H' → Q (.bl b) H'
theorem ok_tuple {fd : FuncData} (F : Fun K "is_tuple" "is_tuple" s_is_tuple A.fTuple fd) (T : Tx K mg A) : FnOk P w K mg base CX0 1 A.fTuple fd ["thing"] (spTup K) := by
  have nd := sc_is_tuple.nd
  refine F.ok sc_is_tuple (fun vs H Q E h => ?_) (fun cdv A' outer s H vs Q E hr h => ?_)
  · obtain ⟨x, t, b, rfl, _⟩ := h
    rfl
  · obtain ⟨x, t, b, rfl, ty, hk, q⟩ := h
    refine ⟨_, (pss_one (ps_ret (pe_callB call_isiT (by rfl) T.nisinstance (by decide +kernel) (pa_cons (pv 0) (pa_cons (pe_tup (pa_cons (pe_bltn (v := .ty "list") (by rfl) T.nlist (by decide +kernel) rfl) (pa_cons (pe_bltn (v := .ty "tuple") (by rfl) T.ntuple (by decide +kernel) rfl) pa_nil))) pa_nil))))), ?_⟩
    refine ⟨_, rfl, (by show 2 ≤ sizeLine; decide), fun p hp => ?_⟩
    exact ⟨_, p, _, t, _, b, rfl, upd_same, .cons (.ty _) (.cons (.ty _) .nil), TyX.mono (same_new hp) ty, hk, q _ (same_new hp)⟩
/-- what may be asked: a text, or a thing whose kind is known to be another -/
def Known (K : PySem.W.Frag) (H : Hp) (x : V) : Prop := (∃ z, x = .str z ∧ z.length ≤ sizeLine) ∨ ((∀ z, x ≠ .str z) ∧ ∃ t, TyX K H x t ∧ PySem.W.kitOne K t (.type "str") = some false)
theorem Known.mono {H H' : Hp} (e : Same H H') {x : V} (h : Known K H x) : Known K H' x := by
  rcases h with h | ⟨h1, t, h2, h3⟩
  · exact .inl h
  · exact .inr ⟨h1, t, TyX.mono e h2, h3⟩
abbrev N_is_row_of : List Str := ["asks", "thing", "ask"]
theorem sc_is_row_of : FnScope N_is_row_of ["asks", "thing"] (defScope s_is_row_of) := ⟨rfl, rfl, rfl, by decide +kernel, rfl, by decide +kernel, by decide +kernel⟩
def spRowOf (K : PySem.W.Frag) : Sp := fun vs H Q _ => ∃ (a : Str) (x : V), vs = [.str a, x] ∧ Known K H x ∧ ∀ H', Same H H' → Q (.bl (rowV a x)) H'
theorem ok_rowof {fd : FuncData} (F : Fun K "is_row_of" "is_row_of" s_is_row_of A.fRowOf fd) (T : Tx K mg A) : FnOk P w K mg base CX0 1 A.fRowOf fd ["asks", "thing"] (spRowOf K) := by
  have nd := sc_is_row_of.nd
  refine F.ok sc_is_row_of (fun vs H Q E h => ?_) (fun cdv A' outer s H vs Q E hr h => ?_)
  · obtain ⟨a, x, rfl, _⟩ := h
    rfl
  · obtain ⟨a, x, rfl, hx, q⟩ := h
    refine ⟨_, (pss_one (ps_ret (pe_and (pe_callB call_isi (by rfl) T.nisinstance (by decide +kernel) (pa_cons (pv 1) (pa_cons (pe_bltn (v := .ty "str") (by rfl) T.nstr (by decide +kernel) rfl) pa_nil))) (pe_and (pe_cmpR op_le (pe_callB call_len (by rfl) T.nlen (by decide +kernel) (pa_cons (pv 1) pa_nil)) (pe_glob (v := .int 2000) rfl T.mLONGEST_ROW ⟨_, rfl⟩) (nomark _)) (pe_one (pe_callB (cr_all rfl) (by rfl) T.nall (by decide +kernel) (pa_cons (pe_lc (own := [("ask", 2)]) (g := gName 2) (tt := tYes) rfl nd (pi_str (pv 1)) (blkOk_by (own := [("ask", 2)]) (N := N_is_row_of) (sc := defScope s_is_row_of) (by decide +kernel)) (fun _ _ _ _ _ => (pg_name (i := 2) nd rfl (by first | exact Or.inl rfl | exact Or.inr rfl))) (fun _ _ _ _ _ => pts_nil) (fun _ _ _ _ _ => (pe_cmpR op_in_sign (pv 2) (pv 0) (by rfl)))) pa_nil))))))), ?_⟩
    rcases hx with ⟨z, rfl, hz⟩ | ⟨h1, t, ty, hk⟩
    · refine ⟨_, rfl, _, _, _, _, true, rfl, .ty _, .base (.str _), kit_ty (by decide +kernel), _, rfl, iteT ?_⟩
      refine ⟨_, rfl, V.str z, _, rfl, ⟨hz, rfl⟩, _, _, rfl, rfl, _, rfl, ite2 (fun c => ?_) (fun c => ?_)⟩
      · have c1 : z.length ≤ 2000 := by
          have c2 : ((z.length : Nat) : Int) ≤ 2000 := of_decide_eq_true c
          omega
        have ez : z.cps.toList.length = z.length := Array.length_toList
        refine ⟨_, rfl, z, rfl, fun D hD => ?_⟩
        refine lc_text (fun i H' => Same H H' ∧ H' D = some (.lst (((z.cps.toList.take i).map fun c => decide (c ∈ a.cps.toList)).map V.bl))) ⟨same_new hD, upd_same⟩ ?_ ?_
        · rintro i c H2 hc ⟨sm, h2⟩
          refine ⟨rfl, yes_go ?_⟩
          refine ⟨_, rfl, _, rfl, c, a, rfl, rfl, _, h2, ?_, ?_, ?_⟩
          · rw [List.length_map, List.length_map, List.length_take]
            exact Nat.lt_of_le_of_lt (Nat.min_le_right _ _) (by rw [ez]; exact Nat.lt_of_le_of_lt c1 (by decide))
          · intro b o hb
            rw [upd_ne (ne_of_none hb hD)]
            exact sm b o hb
          · rw [upd_same, take_more hc, List.map_append, List.map_append]
            rfl
        · rintro H2 ⟨sm, h2⟩
          rw [List.take_length] at h2
          refine ⟨D, _, rfl, SqL.of h2, ?_⟩
          have e : rowV a (.str z) = (z.cps.toList.map fun c => decide (c ∈ a.cps.toList)).all id := by
            show (decide (z.length ≤ 2000) && z.cps.toList.all fun c => decide (c ∈ a.cps.toList)) = _
            rw [decide_eq_true c1, Bool.true_and, List.all_map]
            rfl
          rw [← e]
          exact q H2 sm
      · have c1 : ¬ z.length ≤ 2000 := fun c2 => c (decide_eq_true (by omega))
        have e : rowV a (.str z) = false := by
          show (decide (z.length ≤ 2000) && _) = false
          rw [decide_eq_false c1, Bool.false_and]
        have q1 := q H (Same.refl H)
        rw [e] at q1
        exact q1
    · have e : rowV a x = false := by
        cases x <;> first | rfl | exact absurd rfl (h1 _)
      have q1 := q H (Same.refl H)
      rw [e] at q1
      exact ⟨_, rfl, _, _, t, _, false, rfl, .ty _, ty, hk, _, rfl, iteF q1⟩
abbrev N_is_asks : List Str := ["thing", "places", "letter", "low", "high"]
theorem sc_is_asks : FnScope N_is_asks ["thing"] (defScope s_is_asks) := ⟨rfl, rfl, rfl, by decide +kernel, rfl, by decide +kernel, by decide +kernel⟩
def spAsks (K : PySem.W.Frag) : Sp := fun vs H Q _ => ∃ (x : V), vs = [x] ∧ Known K H x ∧ ∀ H', Same H H' → Q (.bl (asksV x)) H'
theorem ok_asks {fd : FuncData} (F : Fun K "is_asks" "is_asks" s_is_asks A.fAsks fd) (T : Tx K mg A) : FnOk P w K mg base CX0 1 A.fAsks fd ["thing"] (spAsks K) := by
  have nd := sc_is_asks.nd
  refine F.ok sc_is_asks (fun vs H Q E h => ?_) (fun cdv A' outer s H vs Q E hr h => ?_)
  · obtain ⟨x, rfl, _⟩ := h
    rfl
  · obtain ⟨x, rfl, hx, q⟩ := h
    refine ⟨_, (pss_cons (ps_if (PW.pt (pw_or (pt_not (pt_val (pe_callB call_isi (by rfl) T.nisinstance (by decide +kernel) (pa_cons (pv 0) (pa_cons (pe_bltn (v := .ty "str") (by rfl) T.nstr (by decide +kernel) rfl) pa_nil))))) (pw_or1 (pt_not (pt_chain op_le op_le pe_int (pe_callB call_len (by rfl) T.nlen (by decide +kernel) (pa_cons (pv 0) pa_nil)) (pe_glob (v := .int 4) rfl T.mMOST_ASKS ⟨_, rfl⟩)))))) (pss_one (ps_ret pe_bl)) pss_nil)
  (pss_cons (ps_setLc (i := 1) (own := [("letter", 2)]) (g := gName 2) (tt := tYes) rfl nd rfl rfl (sw_true rfl rfl rfl (by decide +kernel)) (pi_str (pv 0)) (blkOk_by (own := [("letter", 2)]) (N := N_is_asks) (sc := defScope s_is_asks) (by decide +kernel)) (fun _ _ _ _ _ => (pg_name (i := 2) nd rfl (by first | exact Or.inl rfl | exact Or.inr rfl))) (fun _ _ _ _ _ => pts_nil) (fun _ _ _ _ _ => (pe_m1 PySem.F.slot_str_find PySem.F.type_str_find mt_find (pe_glob (v := .str (Str.ofString "abcdefgh")) rfl T.mLETTERS ⟨_, rfl⟩) (pv 2))))
  (pss_one (ps_ret (pe_and (pe_cmpR op_ge (pe_ix ix_list (pv 1) pe_int (fun _ _ => rfl)) pe_int (nomark _)) (pe_one (pe_callB (cr_all rfl) (by rfl) T.nall (by decide +kernel) (pa_cons (pe_lc (own := [("low", 3), ("high", 4)]) (g := gTup K 2 (gCons (gName 3) (gCons (gName 4) gNil))) (tt := tYes) rfl nd (pi_zip (by rfl) T.nzip (pa_cons (pv 1) (pa_cons (pe_slice sl_list (pv 1) (po_some pe_int) po_none) pa_nil))) (blkOk_by (own := [("low", 3), ("high", 4)]) (N := N_is_asks) (sc := defScope s_is_asks) (by decide +kernel)) (fun _ _ _ _ _ => (pg_tup (by rfl) (pgs_cons (pg_name (i := 3) nd rfl (by first | exact Or.inl rfl | exact Or.inr rfl)) (pgs_cons (pg_name (i := 4) nd rfl (by first | exact Or.inl rfl | exact Or.inr rfl)) pgs_nil)))) (fun _ _ _ _ _ => pts_nil) (fun _ _ _ _ _ => (pe_cmpR op_lt (pv 3) (pv 4) (nomark _)))) pa_nil)))))))), ?_⟩
    rcases hx with ⟨z, rfl, hz⟩ | ⟨h1, t, ty, hk⟩
    · have ez : z.cps.toList.length = z.length := Array.length_toList
      refine ⟨_, rfl, _, _, _, _, true, rfl, .ty _, .base (.str _), kit_ty (by decide +kernel), _, rfl, iteF ?_⟩
      refine ⟨_, rfl, V.str z, _, rfl, ⟨hz, rfl⟩, _, _, rfl, rfl, _, rfl, ?_⟩
      by_cases c1 : 1 ≤ z.length
      · refine iteY (by omega) ⟨_, _, rfl, rfl, _, rfl, ?_⟩
        by_cases c2 : z.length ≤ 4
        · refine iteNS (by omega) ?_
          refine ⟨_, rfl, z, rfl, fun D hD => ?_⟩
          refine lc_text (fun i H' => Same H H' ∧ H' D = some (.lst (((z.cps.toList.take i).map plc).map V.int))) ⟨same_new hD, upd_same⟩ ?_ ?_
          · rintro i c H2 hc ⟨sm, h2⟩
            refine ⟨rfl, yes_go ?_⟩
            refine ⟨⟨_, rfl⟩, _, rfl, _, _, rfl, rfl, _, h2, ?_, ?_, ?_⟩
            · rw [List.length_map, List.length_map, List.length_take]
              exact Nat.lt_of_le_of_lt (Nat.min_le_right _ _) (by rw [ez]; exact Nat.lt_of_le_of_lt c2 (by decide))
            · intro b o hb
              rw [upd_ne (ne_of_none hb hD)]
              exact sm b o hb
            · rw [upd_same, take_more hc, List.map_append, List.map_append]
              rfl
          · rintro H2 ⟨sm, h2⟩
            rw [List.take_length] at h2
            have hl0 : (z.cps.toList.map plc).length = z.length := by rw [List.length_map, ez]
            have e : asksV (.str z) = (decide (0 ≤ (z.cps.toList.map plc).getD 0 0) && (ups (z.cps.toList.map plc)).all id) := by
              show (decide (1 ≤ z.length) && (decide (z.length ≤ 4) && _)) = _
              rw [decide_eq_true c1, decide_eq_true c2, Bool.true_and, Bool.true_and]
            rw [e] at q
            generalize z.cps.toList.map plc = ps at h2 hl0 q
            have h0 : 0 < ps.length := by omega
            have g0 : ps[0]? = some (ps.getD 0 0) := by
              rw [List.getD_eq_getElem?_getD, List.getElem?_eq_getElem h0]
              rfl
            refine ⟨_, rfl, D, _, 0, .int (ps.getD 0 0), rfl, rfl, SqL.of h2, atI_nat (j := 0) (by rw [List.getElem?_map, g0]; rfl), _, _, rfl, rfl, _, rfl, ?_⟩
            by_cases c3 : 0 ≤ ps.getD 0 0
            · refine iteY c3 ?_
              rw [decide_eq_true c3, Bool.true_and] at q
              refine ⟨_, rfl, _, rfl, 1, rfl, D, _, rfl, SqL.of h2, fun C hC => ?_⟩
              have s3 := same_new (o := .lst (cutV (ps.map V.int) (some 1) none)) hC
              have h3 := s3 _ _ h2
              have h4 : upd H2 C (.lst (cutV (ps.map V.int) (some 1) none)) C = some (.lst ((ps.drop 1).map V.int)) := by rw [upd_same, cut_tail]
              refine ⟨D, C, _, _, rfl, SqL.of h3, SqL.of h4, fun G hG => ?_⟩
              refine lc_zip (fun i H' => Same (upd H2 C (.lst (cutV (ps.map V.int) (some 1) none))) H' ∧ H' G = some (.lst (((ups ps).take i).map V.bl))) ⟨same_new hG, upd_same⟩ (fun i H' ⟨sm, _⟩ => ⟨SqL.of (sm _ _ h3), SqL.of (sm _ _ h4)⟩) ?_ ?_
              · rintro i x y U H5 hx hy ⟨s5, h5⟩ hU
                obtain ⟨a, ha, rfl⟩ := get_int hx
                obtain ⟨b, hb, rfl⟩ := get_int hy
                have hb2 : ps[i + 1]? = some b := by
                  rw [List.getElem?_drop, Nat.add_comm] at hb
                  exact hb
                have hg := ups_get ps i a b ha hb2
                refine ⟨U, _, rfl, SqT.of upd_same, rfl, _, _, rfl, _, _, rfl, rfl, rfl, yes_go ?_⟩
                refine ⟨_, rfl, _, rfl, _, _, rfl, rfl, _, same_new hU _ _ h5, ?_, ?_, ?_⟩
                · rw [List.length_map, List.length_take]
                  refine Nat.lt_of_le_of_lt (Nat.min_le_right _ _) ?_
                  rw [ups_len]
                  exact Nat.lt_of_le_of_lt (show ps.length - 1 ≤ 4 by omega) (by decide)
                · intro b o hb
                  rw [upd_ne (ne_of_none hb hG)]
                  exact same_new hU _ _ (s5 b o hb)
                · rw [upd_same, take_more hg, List.map_append]
                  rfl
              · rintro H5 ⟨s5, h5⟩
                have el : min (ps.map V.int).length ((ps.drop 1).map V.int).length = (ups ps).length := by
                  rw [ups_len, List.length_map, List.length_map, List.length_drop]
                  omega
                rw [el, List.take_length] at h5
                exact ⟨G, _, rfl, SqL.of h5, q H5 ((sm.trans s3).trans s5)⟩
            · refine iteN c3 ?_
              rw [decide_eq_false c3, Bool.false_and] at q
              exact q H2 sm
        · have e : asksV (.str z) = false := by
            show (decide (1 ≤ z.length) && (decide (z.length ≤ 4) && _)) = false
            rw [decide_eq_false c2, Bool.false_and, Bool.and_false]
          have q1 := q H (Same.refl H)
          rw [e] at q1
          exact iteNN (by omega) q1
      · have e : asksV (.str z) = false := by
          show (decide (1 ≤ z.length) && _) = false
          rw [decide_eq_false c1, Bool.false_and]
        have q1 := q H (Same.refl H)
        rw [e] at q1
        exact iteN (by omega) ⟨_, rfl, iteT q1⟩
    · have e : asksV x = false := by
        cases x <;> first | rfl | exact absurd rfl (h1 _)
      have q1 := q H (Same.refl H)
      rw [e] at q1
      exact ⟨_, rfl, _, _, t, _, false, rfl, .ty _, ty, hk, _, rfl, iteT (iteT q1)⟩
end
end Aw
namespace PySem
namespace LowX
open PySem.W PySem.Calls PyProof.Rows PySem.HandSPX
/-! ### the text of __init__ -/
def iA (p1 p2 : Pos) : Arguments := { posonlyargs := [], args := [{ arg := "self", annotation := none, pos := p1 }, { arg := "thing", annotation := none, pos := p2 }], vararg := none, kwonlyargs := [], kw_defaults := [], kwarg := none, defaults := [] }
def iB (q1 q2 q3 q4 : Pos) : List Stmt := [.Assign [.Attribute (.Name "self" q1) "thing" q2] (.Name "thing" q3) q4]
def iS : Scope := { kind := .function, names := [(PySem.Str.ofString "self", .local), (PySem.Str.ofString "thing", .local)], isGenerator := false, isCoroutine := false, more := [] }
/-- what the written part says of Low, at C, and of its __init__, at fI -/
structure LowTxt (K : Frag) (mg : Str → Option Value) (x : Str) (C fI : Addr) : Prop where
  gC : mg x = some (.ref C)
  cls : ∃ nm q N bs bm sn sub ab col dd k0 k1 k2 k3 k5, K.lookup C = some (excClassObj nm q C N bs bm true sn sub ab col dd k0 k1 k2 k3 k5 "ValueError.__new__") ∧ refsVE bm = true
  sa : findIn K (.ref C) "__setattr__" = some (some (.builtin "object.__setattr__"))
  ga : findIn K (.ref C) "__getattribute__" = some (some (.builtin "BaseException.__getattribute__"))
  gg : findIn K (.ref C) "__getattr__" = some none
  noN : findIn K (.ref C) "thing" = some none
  iC : findIn K (.ref C) "__init__" = some (some (.ref fI))
  tC : typeIn K (.ref fI) = some (.type "function")
  kC : keepIn K (.ref C) = true
  exC : subIn K (.ref C) (.type "BaseException") = some true
  tyC : typeIn K (.ref C) = some (.type "type")
  hdC : hasDictIn K C = true
  te : exmOne K (.ref C) (.ref C) = some true
  fn : ∃ (oc : Value) (od : Option Addr) (doc pm : Value) (an : Option Addr) (cdv ct : Value) (osl : Array (Option Value)) (p1 p2 q1 q2 q3 q4 : Pos),
    K.lookup fI = some ⟨oc, od, .func (fnOf "__init__" "WrongThing.__init__" (iA p1 p2) (iB q1 q2 q3 q4) iS .none .none doc pm an cdv ct), osl⟩ ∧ codeIn K cdv "WrongThing.__init__" = true
theorem one_size (v : Value) : [v].length ≤ sizeLine := by
  rw [sizeLine_eq]
  exact (by decide : 1 ≤ 16777216)
theorem kept_but {K : Frag} {h h' : Heap} {x : Addr} (X : K.In h) (hx : K.lookup x = none) (k : ∀ b o, b ≠ x → h.get? b = some o → h'.get? b = some o) : K.In h' := fun a o e =>
  k a o (fun z => by rw [z, hx] at e; cases e) (X a o e)
theorem ldC {M : Model} {s : Shared} {name : Str} {scope : Scope} {L a : Addr} {cd : Value} {m : Str → Option Value} {x : Str} {pos : Pos} {v : Value} {Q : Value → Shared → Prop} {A : Around} {E : Value → Shared → Prop} (hn : s.heap.Ns L m) (hv : m x = some v) (h : Q v s)
    (hk : scope.kind = .function := by rfl) (hl : (envOfC name scope L a cd).kindOf x = some .local := by rfl) (hd : (x == ("__debug__" : Str)) = false := by decide) :
    wpAny M A (eval (.Name x pos) (envOfC name scope L a cd)) Q E s := wpAny_Name (wpAny_loadName_local hk hl hn hv h) hd
/-- what __init__ leaves of a fresh exception at x -/
structure InitEnd (h h' : Heap) (x C dx t1 : Addr) (v : Value) : Prop where
  keep : ∀ b o, b ≠ x → h.get? b = some o → h'.get? b = some o
  obj : h'.get? x = some { cls := .ref C, dict := some dx, data := .fields #[.ref t1, .none, .none, .none, .bool false, .none] }
  dbig : h.objs.size ≤ dx
  dne : dx ≠ x
  ns : h'.Ns1 dx (fun y => if y = "thing" then some v else none)
/-- a made Low -/
structure OwnMade (h h' : Heap) (e C d : Addr) (v : Value) : Prop where
  keep : ∀ b o, h.get? b = some o → h'.get? b = some o
  new : h.objs.size ≤ e
  obj : ∃ oe vs, h'.get? e = some oe ∧ oe.cls = .ref C ∧ oe.dict = some d ∧ oe.data = .fields vs ∧ vs[1]? = some .none
  dbig : h.objs.size ≤ d
  dne : d ≠ e
  ns : h'.Ns1 d (fun y => if y = "thing" then some v else none)
section
variable {prog : Program} {w : World} {A : Around} {E : Value → Shared → Prop} {R : Result → Shared → Prop} {s : Shared} {K : Frag} {mg : Str → Option Value} {C fI : Addr} {x : Str}
theorem low_init (T : LowTxt K mg x C fI) {x t0 : Addr} {v : Value} (X : K.In s.heap) (hlim : s.heap.NoLimit) (hx : s.heap.get? x = some (excO C t0)) (hnx : K.lookup x = none) (hroom : A.depth < recursionLimit)
    (hq : ∀ h' tk dx, InitEnd s.heap h' x C dx t0 v → R (.ok (.ret .none)) { s with heap := h', toks := tk }) :
    codeAny (model prog w) A (.call (.ref fI) ⟨[.ref x, v], []⟩) R s := by
  obtain ⟨oc, od, doc, pm, an, cdv, ct, osl, p1, p2, q1, q2, q3, q4, ho, hcd⟩ := T.fn
  obtain ⟨nm, q, N, bs, bm, sn, sub, ab, col, dd, k0, k1, k2, k3, k5, hC, hbm⟩ := T.cls
  have hcl : clsIn K C = some { name := nm, bases := bs, mro := .ref C :: bm, ns := N, qualname := q, hasDict := true, slotNames := sn, subclasses := sub, abstract := ab, collection := col, hasDel := false } := by unfold clsIn; rw [hC] <;> rfl
  refine Att.call_fn (binds := [("self", .ref x), ("thing", v)]) X hlim ho hcd hroom (BindsTo.of_eq (by first | rfl | with_unfolding_all rfl)) (by first | rfl | decide | with_unfolding_all rfl) (fun s₁ IC => ?_) rfl rfl rfl
  obtain ⟨h₁, tk₁, rfl⟩ := IC.toInCall.same
  have k : ∀ b o, s.heap.get? b = some o → h₁.get? b = some o := IC.toInCall.keep
  have hn := IC.toInCall.ns
  have hxL : s.heap.objs.size ≠ x := Nat.ne_of_gt (Heap.lt_size hx)
  have X₁ : K.In h₁ := X.keeps k
  have hx₁ := k _ _ hx
  -- self.by = by
  show wpAny _ _ (execs _ _) _ _ _
  refine wpAny_execs_cons (plainObj_wpAny_Assign_Attribute ?_)
  refine ldC (v := v) hn (by first | rfl | with_unfolding_all rfl | kernel_rfl) (ldC (v := .ref x) hn (by first | rfl | with_unfolding_all rfl | kernel_rfl) ?_)
  refine set_plain X₁ (ox := excO C t0) (od := none) ⟨hx₁, rfl, rfl, trivial⟩ T.sa ?_
  refine exc_osa X₁ hx₁ hcl (show refsVE (.ref C :: bm) = true from hbm) rfl T.noN (fun h₃ tk₃ dx k₃ dn dne hx₃ hn₃ => ?_)
  show wpAny _ _ (execs _ _) _ _ _
  have z : s.heap.objs.size < h₁.objs.size := hn.lt
  exact wpAny_execs_nil (hq h₃ tk₃ dx ⟨fun b o hb e => k₃ b o hb (k b o e), hx₃, Nat.le_of_lt (Nat.lt_of_lt_of_le z dn), dne, hn₃⟩)
theorem low_made (T : LowTxt K mg x C fI) {v : Value} (X : K.In s.heap) (hlim : s.heap.NoLimit) (hroom : A.depth + 1 < recursionLimit)
    (hq : ∀ h' tk e d, OwnMade s.heap h' e C d v → R (.ok (.ret (.ref e))) { s with heap := h', toks := tk }) :
    codeAny (model prog w) A (.call (.ref C) ⟨[v], []⟩) R s := by
  obtain ⟨nm, q, N, bs, bm, sn, sub, ab, col, dd, k0, k1, k2, k3, k5, hC, hbm⟩ := T.cls
  obtain ⟨hp, g, dr, tk, os⟩ := s
  have k : ∀ b o, hp.get? b = some o → ((hp.push (kdv_tup [v])).push (excO C hp.objs.size)).get? b = some o := fun b o e => Heap.get?_push_of_some _ (Heap.get?_push_of_some _ e)
  have hget : ((hp.push (kdv_tup [v])).push (excO C hp.objs.size)).get? (hp.objs.size + 1) = some (excO C hp.objs.size) := by heap_get
  have hnx : K.lookup (hp.objs.size + 1) = none := by
    cases e : K.lookup (hp.objs.size + 1) with
    | none => rfl
    | some o =>
      have z : hp.get? (hp.objs.size + 1) = some o := X _ _ e
      exact absurd (Nat.lt_of_succ_lt (Heap.lt_size z)) (Nat.lt_irrefl _)
  refine call_own F.excBase_ValueError (fun X => refsVE_contains X bm hbm) (X _ _ hC) (looks_findIn X T.iC) (fun self => bind_fn X self T.tC) (one_size v) ?_
  refine low_init (s := ⟨(hp.push (kdv_tup [v])).push (excO C hp.objs.size), g, dr, tk, os⟩) T (X.keeps k) (hlim.keeps k) hget hnx ?_ fun h' tk' dx ⟨k', hx, dn, dne, hns⟩ => ?_
  · show A.depth + 1 < recursionLimit
    exact hroom
  · have old : ∀ b o, hp.get? b = some o → h'.get? b = some o := fun b o e => k' b o (Nat.ne_of_lt (Nat.lt_succ_of_lt (Heap.lt_size e))) (k b o e)
    have z : hp.objs.size + 1 + 1 ≤ dx := by
      first
        | (simpa only [Heap.size_push] using dn)
        | exact dn
        | (have q := dn; rw [Heap.size_push, Heap.size_push] at q; exact q)
    exact ⟨rfl, hq h' tk' (hp.objs.size + 1) dx ⟨old, Nat.le_succ _, ⟨_, _, hx, rfl, rfl, rfl, rfl⟩, Nat.le_trans (Nat.le_trans (Nat.le_succ _) (Nat.le_succ _)) z, dne, hns⟩⟩
end
end LowX
end PySem
namespace L2
open PySem PySem.Spec PyProof.Rows
theorem relO_thing {v : V} {v' : Value} (r : RelV v v') (f : Str) : RelO (List.lookup f [(("thing" : Str), v)]) (if f = "thing" then some v' else none) := by
  by_cases hw : f = "thing"
  · subst hw
    rw [if_pos rfl]
    have q : List.lookup ("thing" : Str) [(("thing" : Str), v)] = some v := by simp [List.lookup]
    rw [q]
    exact r
  · rw [if_neg hw]
    have qw : (f == ("thing" : Str)) = false := by simpa using hw
    have q2 : List.lookup f [(("thing" : Str), v)] = none := by simp [List.lookup, qw]
    rw [q2]
    trivial
section
variable {X : Cx} {C fI : Addr}
/-- Low(e) -/
def tMkTh (C : Addr) (ta : TA) : St → Hp → XK → Prop := fun σ H Q => ta σ H fun vs H1 => ∃ v, vs = [v] ∧ ∀ d, H1 d = none → Q (.ref C) (some d) (upd H1 d (.xd [(("thing" : Str), v)]))
theorem pmk_thing {a : Expr} {ta : TA} {p pos : Pos} {k : Nat} (T : PySem.LowX.LowTxt X.K X.mg x C fI) (hr : Room k X.A) (ha : PA X [a] ta) (hg : Gl X x := by rfl) (hdb : (x == ("__debug__" : Str)) = false := by decide)
    (he : starEach (a :: []) X.env = (false, eval a X.env) :: starEach [] X.env := by rfl) (hpl : (backTo pos (starEach [] X.env)).any (·.1) = false := by rfl) :
    PMk X (.Call (.Name x p) [a] [] pos) (tMkTh C ta) := by
  intro pins s σ H Q I h
  refine wpAny_Call_Name_kw (ld_glob I hg T.gC ?_ hdb)
  refine PySem.W.callWith_K (h₀ := X.base) I.ok.mod.kin T.kC (thn (ha.run pos pins s σ H _ I h) fun us s1 hh => ?_) he hpl
  obtain ⟨vs, H1, I1, r1, v, ev, q1⟩ := hh
  subst ev
  refine ⟨I1.kIn, ?_⟩
  cases r1 with
  | cons rv rn =>
    rename_i v' us'
    cases rn
    show wpAny _ _ (call (.ref C) [v']) _ _ _
    have hlim := I1.nolimit
    obtain ⟨hp, g, dr, tk, os⟩ := s1
    refine wpAny_call (PySem.LowX.low_made T I1.kIn hlim (by have := hr.dp; omega) fun h' tk' e d M => ?_)
    show MkP X pins σ Q (.ref e) ⟨h', g, dr, tk', os⟩
    obtain ⟨oe, fv, hoe, hc, hd, hdat, h1⟩ := M.obj
    have hns := M.ns
    obtain ⟨G', g1, g2⟩ := restrict h' fun b => decide (b ≠ e)
    have gk : ∀ b, b ≠ e → G'.get? b = h'.get? b := fun b hb => g1 b (decide_eq_true hb)
    have ge : G'.get? e = none := g2 e (by simp)
    have old : ∀ b o, hp.get? b = some o → G'.get? b = some o := fun b o q => (gk b (Nat.ne_of_lt (Nat.lt_of_lt_of_le (Heap.lt_size q) M.new))).trans (M.keep b o q)
    have ob : ObjOk X.prog X.w (upd H1 d (.xd [(("thing" : Str), v)])) G' d (.xd [(("thing" : Str), v)]) :=
      ⟨_, hns.at (fun o q => (gk d M.dne).trans q), fun f => relO_thing rv f⟩
    have J : Inv X pins σ (upd H1 d (.xd [(("thing" : Str), v)])) ⟨G', g, dr, tk', os⟩ := I1.laid (t' := tk') old M.dbig ob
    refine ⟨e, oe, fv, ⟨G', g, dr, tk', os⟩, _, .ref C, some d, rfl, J, fun b o q => ?_, ge, hoe, ⟨hc, hd⟩, hdat, h1, ?_, rfl, I1.bare, raises_own T.exC T.tyC, q1 d (I1.hok.fresh M.dbig)⟩
    · by_cases hb : b = e
      · have q' : G'.get? b = some o := q
        rw [hb, ge] at q'; cases q'
      · exact (gk b hb).symm.trans q
    · rw [upd_ne (Ne.symm M.dne)]
      exact I1.hok.fresh M.new
/-- raise Low(e) -/
def tRaiseTh (C : Addr) (W : WX) (ta : TA) : TS := fun _ σ H => tMkTh C ta σ H fun cls d H' => W cls d σ H'
theorem ps_raiseTh {a : Expr} {ta : TA} {W : WX} {p pos pos2 : Pos} {k : Nat} (hc : X.calm = true) (T : PySem.LowX.LowTxt X.K X.mg x C fI) (hr : Room k X.A) (tk : Takes X W) (ha : PA X [a] ta) (hg : Gl X x := by rfl) (hdb : (x == ("__debug__" : Str)) = false := by decide)
    (he : starEach (a :: []) X.env = (false, eval a X.env) :: starEach [] X.env := by rfl) (hpl : (backTo pos (starEach [] X.env)).any (·.1) = false := by rfl) :
    PS X (.Raise (some (.Call (.Name x p) [a] [] pos)) none pos2) (tRaiseTh C W ta) := ps_raise hc tk (pmk_thing T hr ha hg hdb he hpl)
/-- low.by, low the exception that the suite holds (at a; its class cls, its dict d) -/
def tThing (C : Addr) (a : Addr) (cls : Value) (d : Option Addr) (te : TE) : TE := fun σ H Q => te σ H fun x H1 => x = .ref a ∧ cls = .ref C ∧ ∃ (dd : Addr) (v : V), d = some dd ∧ H1 dd = some (.xd [(("thing" : Str), v)]) ∧ Q v H1
theorem pe_thing {a : Addr} {oe : Obj} {cls : Value} {d : Option Addr} {pn : List (Addr × Obj)} {e : Expr} {te : TE} {pos : Pos} (T : PySem.LowX.LowTxt X.K X.mg x C fI) (hz : Zc cls d oe) (hf : ∃ vs, oe.data = .fields vs) (he : PE (X.suite a ((a, oe) :: pn)) e te)
    (hb : attributeBase e "thing" X.env (eval e X.env) = eval e X.env := by rfl) :
    PE (X.suite a ((a, oe) :: pn)) (.Attribute e "thing" pos) (tThing C a cls d te) := by
  refine ⟨fun pins s σ H Q I h => ?_⟩
  refine attr_of hb (thn (he.run pins s σ H _ I h) fun u s1 hh => ?_)
  obtain ⟨x, H1, I1, rx, ex, ec, dd, v, ed, ea, q⟩ := hh
  subst ex
  obtain rfl : u = Value.ref a := rx
  subst ec
  subst ed
  obtain ⟨ha, _⟩ := I1.pin (a, oe) (List.mem_append_left _ List.mem_cons_self)
  obtain ⟨vs, hd⟩ := hf
  have hx : ObjOk X.prog X.w H1 s1.heap dd (.xd [(("thing" : Str), v)]) := I1.hok dd _ ea
  obtain ⟨mA, hns, hr⟩ := hx
  obtain ⟨od, ho, hl⟩ := lookIn_ns hns
  have l : List.lookup ("thing" : Str) [(("thing" : Str), v)] = some v := by simp [List.lookup]
  obtain ⟨u, hu, ru⟩ := RelO.some_of (v := v) (o := mA "thing") (by rw [← l]; exact hr "thing")
  have J : PySem.W.InstAt s1.heap a oe C (some od) := ⟨ha, hz.1, by unfold PySem.W.notCls; rw [hd] <;> rfl, by rw [hz.2]; exact ho⟩
  exact HandSPX.exc_get I1.kIn J T.ga T.gg T.exC (PySem.W.findObj_own T.hdC T.noN rfl (by rw [hl, hu])) (handed_of ru) ⟨v, H1, I1.tok _, ru, q⟩
end
end L2
namespace Aw
open PySem PySem.Spec PyProof.Rows L2
/-! ## isinstance of an error that bears a thing, in the suite that holds it -/
def rIsT (K : PySem.W.Frag) (a : Addr) (cls : Value) (d : Option Addr) : List V → Hp → VK → Prop := fun xs H Q =>
  ∃ (D dd : Addr) (fs : List (Str × V)) (c : V) (cv : Value) (b : Bool), cls = .ref D ∧ d = some dd ∧ H dd = some (.xd fs) ∧ ExcC K D ∧ xs = [.ref a, c] ∧ (∀ u, RelV c u → u = cv) ∧ PySem.W.kitOne K (.ref D) cv = some b ∧ Q (.bl b) H
theorem call_isT {X : Cx} {a : Addr} {cls : Value} {d : Option Addr} {oe : Obj} {pn : List (Addr × Obj)} (hz : Zc cls d oe) (hf : ∃ vs, oe.data = .fields vs) :
    CallR (X.suite a ((a, oe) :: pn)) (.builtin "isinstance") (rIsT X.K a cls d) := by
  intro pins s σ H xs us Q I r h
  obtain ⟨D, dd, fs, c, cv, b, rfl, rfl, hdd, C, rfl, hcv, e, q⟩ := h
  obtain ⟨u1, u2, rfl, r1, r2⟩ := vals2 r
  obtain rfl : u1 = Value.ref a := r1
  obtain rfl := hcv _ r2
  have hge := (I.pin (a, oe) (List.mem_append_left _ List.mem_cons_self)).1
  obtain ⟨vs, hv⟩ := hf
  obtain ⟨mA, hns, _⟩ : ObjOk X.prog X.w H s.heap dd (.xd fs) := I.hok dd _ hdd
  obtain ⟨od, ho, _⟩ := lookIn_ns hns
  have hcl : (PySem.W.clsIn X.K D).isSome = true := by
    have z := C.hd
    unfold PySem.W.hasDictIn at z
    cases q2 : PySem.W.clsIn X.K D with
    | none => rw [q2] at z; exact absurd z (by decide)
    | some cd => rfl
  have J : PySem.W.InstAt s.heap a oe D (some od) := ⟨hge, hz.1, by unfold PySem.W.notCls; rw [hv] <;> rfl, by rw [hz.2]; exact ho⟩
  exact PySem.W.kia_one (PySem.W.kitx_exc hcl C.hg C.hk C.hs C.ha C.hn C.ht C.hm) I.kIn J e (fun z => nomatch z) fun tk => ⟨.bl b, H, I.kept (t' := tk) fun _ _ z => z, rfl, q⟩
/-! ## several clauses, each with the same name -/
/-- the ends of a suite whose name, in slot i, goes behind it -/
def outAs (i : Nat) (D : Ends) : Ends := { nx := fun σ' H' => D.nx (σ'.set i none) H', rt := D.rt, bk := fun σ' H' => D.bk (σ'.set i none) H', ct := fun σ' H' => D.ct (σ'.set i none) H' }
abbrev Cl := Value × (Addr → Value → Option Addr → TS)
def wClauses (K : PySem.W.Frag) (i : Nat) (Wo : WX) (D : Ends) : List Cl → WX
  | [] => Wo
  | k :: r => fun cls d σ H => ∃ b, PySem.W.exmOne K cls k.1 = some b ∧ (b = true → ∀ a, H a = none → k.2 a cls d (outAs i D) (σ.set i (some (.ref a))) H) ∧ (b = false → wClauses K i Wo D r cls d σ H)
inductive ClOk (X : Cx) (n : Str) : List ExceptHandler → List Cl → Prop
  | nil : ClOk X n [] []
  | cons {x : Str} {c : Value} {ts : Addr → Value → Option Addr → TS} {b0 : Stmt} {su : List Stmt} {p1 p2 : Pos} {hds : List ExceptHandler} {l : List Cl} (nm : Names X x c)
      (hsu : ∀ (a : Addr) (oe : Obj) (cls : Value) (d : Option Addr) (pn : List (Addr × Obj)), Zc cls d oe → (∃ vs, oe.data = .fields vs) → PSs (X.suite a ((a, oe) :: pn)) (b0 :: su) (ts a cls d)) (r : ClOk X n hds l) :
      ClOk X n (.ExceptHandler (some (.Name x p1)) (some n) (b0 :: su) p2 :: hds) ((c, ts) :: l)
section
variable {X : Cx} {n : Str} {i : Nat} {body : List Stmt} {pos : Pos} {tb : WX → TS} {Wo : WX}
/-- a caught exception at a goes through the clauses -/
theorem clauses_run (stk : X.stack = X.env :: X.outer) (frm : X.env.frame = some X.env.locals) (nd : X.N.Nodup) (ix : X.N[i]? = some n) (loc : X.env.kindOf n = some .local) (tk : Takes X Wo) {pins : List (Addr × Obj)} {D : Ends} {a : Addr} {B : Heap} {sI s3 : Shared} {σ : L2.St} {H : Hp} {cls : Value} {d : Option Addr}
    (J : Inv X pins σ H sI) (nb : ∀ b o, sI.heap.get? b = some o → b ∉ frs X.stack → B.get? b = some o) (up : sI.heap.UpToSlots s3.heap) (fl : HandSPX.FlyingZ B (X.env :: X.outer) a (Zc cls d) s3.heap) (na : H a = none) (os : s3.os = sI.os) (ag : AllBare s3.gens) :
    ∀ {hds : List ExceptHandler} {l : List Cl}, ClOk X n hds l → wClauses X.K i Wo D l cls d σ H → wpAny (model X.prog X.w) X.A (handleBy (.ref a) X.env hds) (SP X pins D) X.xe s3 := by
  have frames : X.A.frames = some (X.env :: X.outer) := J.ok.frames.trans (congrArg some stk)
  obtain ⟨oe3, vs3, he3, hz3, hd3⟩ := fl.there
  have out : a ∉ frs (X.env :: X.outer) := fun hm => by
    obtain ⟨_, o, eo, hnf⟩ := fl.2.2.1.mem hm
    rw [he3] at eo
    cases eo
    exact hnf _ hd3
  have aL : a ≠ X.env.locals := fun z => out (List.mem_filterMap.mpr ⟨X.env, List.mem_cons_self, by rw [frm, z]⟩)
  have aF : a ∉ X.fs := fun hm => by
    obtain ⟨e, he, q⟩ := List.mem_filterMap.mp hm
    exact out (List.mem_filterMap.mpr ⟨e, List.mem_cons_of_mem _ he, q⟩)
  have J3 : Inv X pins σ H s3 := J.landed nb fl.1 up os ag
  have S3 := J3.suite he3 hd3 na aL aF
  intro hds l hk
  induction hk with
  | nil =>
    intro wish
    refine wpAny_handleBy_nil ?_
    obtain ⟨_, _, _, oe, vs, U, oU, us, he, hz, hd, h1, _⟩ := id fl
    unfold PySem.passOn
    refine wpAny_bind (wpAny_field he hd h1 ?_)
    rw [if_neg (by simp : ¬ ((Value.ref U == Value.none) = true))]
    have last : wpAny (model X.prog X.w) X.A (setFlight (.ref a) X.env.frame) (fun _ s4 => wpAny (model X.prog X.w) X.A (throw (.ref a) : Sem Flow) (SP X pins D) X.xe s4) X.xe s3 := by
      rw [frm]
      refine HandSPX.setFlight_upZ fl fun h4 held up4 => wpAny_throw (tk _ _ ⟨a, B, sI, pins, σ, H, cls, d, rfl, J, nb, up.trans up4, .inr (.inr (by rw [stk]; exact held)), na, os, ag, wish⟩)
    first
      | exact wpAny_bind (wpAny_pure (wpAny_bind last))
      | exact wpAny_bind last
  | @cons x c ts b0 su p1 p2 hds2 l2 nm hsu r ih =>
    rintro ⟨b, hb, yes, no⟩
    refine wpAny_handleBy_cons (codeAny_handlers_test ?_) (fun q => by cases q)
    have ty : PySem.W.Looks (model X.prog X.w) s3.heap (typeOf (.ref a)) cls := fun A Q E s k q => wpAny_typeOf_ref (k _ _ he3) (by rw [hz3.1]; exact q)
    have meets := PySem.W.exm_one (M := model X.prog X.w) J3.kIn ty hb
    have named : ∀ {Q E : Value → Shared → Prop}, Q c s3 → wpAny (model X.prog X.w) (X.A.mark (some (.ref a))) (eval (.Name x p1) X.env) Q E s3 := fun {Q E} q => by
      obtain ⟨g1, g2, g3 | ⟨g3, g4, g5⟩⟩ := nm
      · exact ld_glob (X := X.suite a ((a, oe3) :: (X.pn ++ pins))) S3 g1 g3 q g2
      · exact ld_blt (X := X.suite a ((a, oe3) :: (X.pn ++ pins))) S3 g1 g3 g4 q g5 g2
    refine named (meets.here ?_)
    cases b with
    | false =>
      show wpAny _ X.A (handleBy (.ref a) X.env hds2) _ _ _
      exact ih (no rfl)
    | true =>
      refine codeAny_handlers_suite_as (HandSPX.lands_againZ fl fun h4 fl4 up4 => ?_)
      have J4 : Inv X pins σ H { s3 with heap := h4 } := J.landed nb fl4.1 (up.trans up4) os ag
      obtain ⟨oe4, vs4, he4, hz4, hd4⟩ := fl4.there
      have S4 := J4.suite he4 hd4 na aL aF
      refine store_ok (X := X.suite a ((a, oe4) :: (X.pn ++ pins))) (v := .ref a) S4 nd ix (.inl loc) rfl (fun s5 S5 => ?_) (.inr loc)
      have gone : ∀ {σ6 : L2.St} {H6 : Hp} {s6 : Shared} {Q : Shared → Prop}, Inv (X.suite a ((a, oe4) :: (X.pn ++ pins))) [] σ6 H6 s6 → (∀ s7, Inv X pins (σ6.set i none) H6 s7 → Q s7) →
          wpAny (model X.prog X.w) X.A (do bindName X.env n .none; unbindBehindTheSuite X.env n p2) (fun _ s7 => Q s7) X.xe s6 := fun S6 hq => gone_ok (S6.unsuite J.ok) nd ix loc hq
      refine wpAny_mono ((hsu a oe4 cls d (X.pn ++ pins) hz4 ⟨_, hd4⟩).run [] s5 _ H _ S5 (yes rfl a na)) (fun f s6 hsp => ?_) (fun _ _ z => z.elim)
      cases f with
      | ret u =>
        obtain ⟨v6, σ6, H6, S6, r6, q6⟩ := hsp
        exact gone S6 fun s7 J7 => ⟨v6, _, H6, J7, r6, q6⟩
      | next =>
        obtain ⟨σ6, H6, S6, q6⟩ := hsp
        exact gone S6 fun s7 J7 => ⟨_, H6, J7, q6⟩
      | brk =>
        obtain ⟨σ6, H6, S6, q6⟩ := hsp
        exact gone S6 fun s7 J7 => ⟨_, H6, J7, q6⟩
      | cont =>
        obtain ⟨σ6, H6, S6, q6⟩ := hsp
        exact gone S6 fun s7 J7 => ⟨_, H6, J7, q6⟩
theorem ps_try_clauses {h0 : ExceptHandler} {hds : List ExceptHandler} {l : List Cl} (stk : X.stack = X.env :: X.outer) (frm : X.env.frame = some X.env.locals) (nd : X.N.Nodup) (ix : X.N[i]? = some n) (loc : X.env.kindOf n = some .local) (tk : Takes X Wo)
    (hb : ∀ (W : WX) (pn : List (Addr × Obj)) (xe : Value → Shared → Prop), Takes (X.tr pn xe) W → PassesOwn (model X.prog X.w) X.A X.env xe → PSs (X.tr pn xe) body (tb W))
    (cl : ClOk X n (h0 :: hds) l) : PS X (.Try body (h0 :: hds) [] [] pos) (fun D σ H => tb (wClauses X.K i Wo D l) D σ H) := by
  refine ⟨fun pins s σ H D I h => wpAny_Try_except ?_⟩
  have frames : X.A.frames = some (X.env :: X.outer) := I.ok.frames.trans (congrArg some stk)
  refine wpAny_mono ((hb (wClauses X.K i Wo D l) (X.pn ++ pins) (fun e s1 => wpAny (model X.prog X.w) X.A (noteFrame e X.env) (fun _ s2 => wpAny (model X.prog X.w) X.A (setFlight e none) (fun _ s3 =>
    wpAny (model X.prog X.w) X.A (handleBy e X.env (h0 :: hds)) (SP X pins D) X.xe s3) X.xe s2) X.xe s1) (fun u s1 fell => ?_) PassesOwn.looking).run [] s σ H D (I.toTry _) h) (fun f s1 went => ?_) (fun _ _ z => z)
  · obtain ⟨a, B, sI, ps, σ', H', cls, d, rfl, J', nb, up, sky, na, os, ag, wish⟩ := fell
    rw [show (X.tr (X.pn ++ pins) (fun e s1 => wpAny (model X.prog X.w) X.A (noteFrame e X.env) (fun _ s2 => wpAny (model X.prog X.w) X.A (setFlight e none) (fun _ s3 =>
      wpAny (model X.prog X.w) X.A (handleBy e X.env (h0 :: hds)) (SP X pins D) X.xe s3) X.xe s2) X.xe s1)).stack = X.env :: X.outer from stk] at sky
    show wpAny (model X.prog X.w) X.A (noteFrame (.ref a) X.env) _ _ _
    exact Sky.land Zc.steady frames frm sky fun h3 fl3 up3 => clauses_run stk frm nd ix loc tk (s3 := { s1 with heap := h3 }) (J'.ofTry I.ok) nb (up.trans up3) fl3 na os ag cl wish
  · cases f with
    | ret u =>
      obtain ⟨v, σ', H', J', r, q⟩ := went
      exact ⟨v, σ', H', J'.ofTry I.ok, r, q⟩
    | next =>
      obtain ⟨σ', H', J', q⟩ := went
      exact wpAny_execs_nil ⟨σ', H', J'.ofTry I.ok, q⟩
    | brk =>
      obtain ⟨σ', H', J', q⟩ := went
      exact ⟨σ', H', J'.ofTry I.ok, q⟩
    | cont =>
      obtain ⟨σ', H', J', q⟩ := went
      exact ⟨σ', H', J'.ofTry I.ok, q⟩
end
end Aw
/-! ## sets of texts, as they are made of a list or a tuple and put in order -/
namespace Aw
open PySem PySem.Spec PyProof.Rows L2
def keyS (e : Int × Value) : Str := match e.2 with | .str k _ => k | _ => Str.empty
def GoodS (w : World) (e : Int × Value) : Prop := ∃ k tk, e.2 = Value.str k tk ∧ e.1 = hashStr w k
/-- at a: a set of just the texts of L, whose table rises and can be walked -/
def SetS (w : World) (h : Heap) (a : Addr) (L : List Str) : Prop :=
  ∃ o es ep t, h.get? a = some o ∧ o.ExactSet ∧ o.data = .set es ep t ∧ (∀ e ∈ es.toList, GoodS w e) ∧ (es.toList.map keyS).Nodup ∧ (∀ k, k ∈ L ↔ k ∈ es.toList.map keyS) ∧ es.size ≤ L.length ∧
    es.size < scanBound ∧ t.fits es.size = true ∧ Ris t.place.toList ∧ (w.params.followText "set-order" = true ∨ t.led = true)
section
variable {P : Program} {w : World} {A : Around} {E : Value → Shared → Prop} {s : Shared} {a : Addr} {L : List Str}
theorem SetS.keep {h h' : Heap} (R : SetS w h a L) (k : ∀ o, h.get? a = some o → h'.get? a = some o) : SetS w h' a L := by
  obtain ⟨o, es, ep, t, ho, r⟩ := R
  exact ⟨o, es, ep, t, k o ho, r⟩
theorem goodS_elems {l : List (Int × Value)} (g : ∀ e ∈ l, GoodS w e) : ElemsOf (PySem.strKind P w) l := fun e he => by
  obtain ⟨k, tk, e1, e2⟩ := g e he
  refine ⟨⟨k, ?_, e2⟩, ?_⟩
  · rw [e1]
    exact strKind_is P w k tk
  · rw [e1]
    rfl
theorem goodS_is {e : Int × Value} (g : GoodS w e) (k : Str) : (PySem.strKind P w).is k e.2 = true ↔ keyS e = k := by
  obtain ⟨k0, tk, e1, _⟩ := g
  unfold keyS
  rw [e1]
  show ((k0 == k) = true) ↔ k0 = k
  exact beq_iff_eq
theorem goodS_mem {l : List (Int × Value)} (g : ∀ e ∈ l, GoodS w e) (k : Str) : k ∈ l.map keyS ↔ ∃ e ∈ l, (PySem.strKind P w).is k e.2 = true := by
  rw [List.mem_map]
  exact ⟨fun ⟨e, he, q⟩ => ⟨e, he, (goodS_is (g e he) k).mpr q⟩, fun ⟨e, he, q⟩ => ⟨e, he, (goodS_is (g e he) k).mp q⟩⟩
theorem setS_fresh {h : Heap} (ho : h.get? a = some { cls := .type "set", dict := none, data := .set #[] 0 (.fresh 0 0 (!w.params.followText "set-order")) }) : SetS w h a [] := by
  refine ⟨_, #[], 0, _, ho, ⟨rfl, rfl, rfl⟩, rfl, (fun e he => absurd he (by simp)), by simp, (fun k => by simp), Nat.le_refl _, by decide, by rfl, List.Pairwise.nil, ?_⟩
  show _ ∨ (!w.params.followText "set-order") = true
  cases w.params.followText "set-order" <;> first | exact .inr rfl | exact .inl rfl
/-- what is stored behind a new member was looked up -/
theorem setS_tail {g : Bool → Sem Unit} (hg : ∀ (b : Bool) (s1 : Shared) (Q' : Unit → Shared → Prop), Q' () s1 → wpAny (model P w) A (g b) Q' E s1) {o : Obj} {es es1 : Array (Int × Value)} {ep : Nat} {t t2 : SetTable} {L' : List Str}
    (ho : s.heap.get? a = some o) (hex : o.ExactSet) (hd : o.data = .set es ep t) (good : ∀ e ∈ es1.toList, GoodS w e) (nd : (es1.toList.map keyS).Nodup) (mem : ∀ k, k ∈ L' ↔ k ∈ es1.toList.map keyS) (sz : es1.size ≤ L'.length)
    (bd : es1.size < scanBound) (fit : t2.fits es1.size = true) (ris : Ris t2.place.toList) (led : w.params.followText "set-order" = true ∨ t2.led = true) {wasDummy : Bool} {R : Option Bool → Shared → Prop}
    (hR : ∀ h', Heap.SameBut a s.heap h' → SetS w h' a L' → R (some true) { s with heap := h' }) :
    wpAny (model P w) A (do storeSet a es1 t2; if (!wasDummy && t2.tooFull) = true then do g (relayAll t2 es1 (SetTable.grown es1.size)).2.2; storeSet a (relayAll t2 es1 (SetTable.grown es1.size)).1 (relayAll t2 es1 (SetTable.grown es1.size)).2.1; pure (some true) else pure (some true)) R E s := by
  have h1 := store_at (es' := es1) (t' := t2) ho hd
  have b1 := Heap.SameBut.update s.heap a (Obj.putSet es1 t2)
  refine wpAny_bind (wpAny_storeSet_of ho hd ?_ (fits_of_scanBound bd))
  by_cases full : (!wasDummy && t2.tooFull) = true
  · rw [if_pos full]
    obtain ⟨p1, p2, p3, p4⟩ := And.intro (relayAll_perm t2 es1 (SetTable.grown es1.size)) (And.intro (relayAll_fits t2 es1 (SetTable.grown es1.size)) (And.intro (relayAll_ris t2 es1 (SetTable.grown es1.size)) (relayAll_led t2 es1 (SetTable.grown es1.size))))
    generalize relayAll t2 es1 (SetTable.grown es1.size) = Z at p1 p2 p3 p4 ⊢
    obtain ⟨es2, t3, gave⟩ := Z
    dsimp only at p1 p2 p3 p4 ⊢
    have e2 : es2.size = es1.size := by
      have q := p1.length_eq
      rw [Array.length_toList, Array.length_toList] at q
      exact q
    refine wpAny_bind (hg _ _ _ (wpAny_bind (wpAny_storeSet_of h1 rfl ?_ (fits_of_scanBound (by rw [e2]; exact bd)))))
    refine wpAny_pure (hR _ (b1.trans (Heap.SameBut.update _ a _)) ⟨_, es2, _, t3, store_at (es' := es2) (t' := t3) h1 rfl, hex, rfl, fun e he => good e (p1.mem_iff.mp he), (p1.map keyS).nodup_iff.mpr nd, fun k => (mem k).trans (p1.map keyS).mem_iff.symm, by rw [e2]; exact sz, by rw [e2]; exact bd, p2, p3, ?_⟩)
    rw [p4]
    exact led
  · rw [if_neg full]
    exact wpAny_pure (hR _ b1 ⟨_, es1, _, t2, h1, hex, rfl, good, nd, mem, sz, bd, fit, ris, led⟩)
theorem setS_add {k : Str} {tk : Tok} {Q : Bool → Shared → Prop} (R : SetS w s.heap a L) (room : L.length + 1 < scanBound)
    (hQ : ∀ (b : Bool) h', Heap.SameBut a s.heap h' → SetS w h' a (L ++ [k]) → Q b { s with heap := h' }) : wpAny (model P w) A (setAddHashed a (.str k tk) ((PySem.strKind P w).hash k)) Q E s := by
  obtain ⟨o, es, ep, t, ho, hex, hd, good, nd, mem, sz, bd, fit, ris, led⟩ := R
  have isk : (PySem.strKind P w).is k (.str k tk) = true := strKind_is P w k tk
  have scn : (Value.str k tk).scannable = true := rfl
  have els : ElemsOf (PySem.strKind P w) es.toList := goodS_elems good
  unfold setAddHashed setAddHashedIn
  refine wpAny_holding (wpAny_bind (wpAny_setState_of ho hd fit ?_))
  dsimp only
  rw [byScan_of scn bd els]
  simp only [↓reduceIte]
  unfold setAddByScan
  refine wpAny_bind (wpAny_bind (wpAny_rule (wpAny_bind (wpAny_setScan_of isk ho hd fit els ?_))))
  cases found : List.findIdx? (fun e => (PySem.strKind P w).is k e.2) es.toList with
  | some j =>
    dsimp only
    obtain ⟨hj, pj, _⟩ := List.findIdx?_eq_some_iff_getElem.mp found
    have there : k ∈ es.toList.map keyS := (goodS_mem (P := P) good k).mpr ⟨es.toList[j], List.getElem_mem hj, pj⟩
    refine wpAny_pure (wpAny_pure (hQ _ s.heap (Heap.SameBut.refl a s.heap) ⟨o, es, ep, t, ho, hex, hd, good, nd, fun i => ?_, by rw [List.length_append]; omega, bd, fit, ris, led⟩))
    rw [List.mem_append, mem i, List.mem_singleton]
    exact ⟨fun z => z.elim id fun e => e ▸ there, .inl⟩
  | none =>
    dsimp only
    have new : k ∉ es.toList.map keyS := fun z => by
      obtain ⟨e, he, q⟩ := (goodS_mem (P := P) good k).mp z
      rw [List.findIdx?_eq_none_iff.mp found e he] at q
      cases q
    have quiet : ∀ (b : Bool) {s1 : Shared} {Q' : Unit → Shared → Prop}, Q' () s1 → wpAny (model P w) A (match b with | true => rule "set.scan.the-table-gave-way" | false => pure ()) Q' E s1 :=
      fun b s1 Q' q => by cases b <;> first | exact wpAny_pure q | exact wpAny_rule q
    obtain ⟨p1, p2, p3, p4⟩ := And.intro (layNew_perm t es ((PySem.strKind P w).hash k) (.str k tk)) (And.intro (layNew_fits t es ((PySem.strKind P w).hash k) (.str k tk)) (And.intro (layNew_ris t es ((PySem.strKind P w).hash k) (.str k tk) ris) (layNew_led t es ((PySem.strKind P w).hash k) (.str k tk))))
    generalize layNew t es ((PySem.strKind P w).hash k) (.str k tk) = Z at p1 p2 p3 p4 ⊢
    obtain ⟨es1, t1, wasDummy, gave⟩ := Z
    dsimp only at p1 p2 p3 p4 ⊢
    rw [Array.toList_push] at p1
    have pc : es1.toList.Perm (((PySem.strKind P w).hash k, Value.str k tk) :: es.toList) := p1.trans (List.perm_append_singleton _ _)
    have pk : (es1.toList.map keyS).Perm (k :: es.toList.map keyS) := pc.map keyS
    have good1 : ∀ e ∈ es1.toList, GoodS w e := fun e he => by
      rcases List.mem_cons.mp (pc.mem_iff.mp he) with rfl | z
      · exact ⟨k, tk, rfl, rfl⟩
      · exact good e z
    have nd1 : (es1.toList.map keyS).Nodup := pk.nodup_iff.mpr (List.nodup_cons.mpr ⟨new, nd⟩)
    have mem1 : ∀ i, i ∈ L ++ [k] ↔ i ∈ es1.toList.map keyS := fun i => by
      rw [List.mem_append, mem i, List.mem_singleton, pk.mem_iff, List.mem_cons]
      exact Or.comm
    have sz1 : es1.size = es.size + 1 := by
      have q := pc.length_eq
      rw [List.length_cons, Array.length_toList, Array.length_toList] at q
      exact q
    have sz2 : es1.size ≤ (L ++ [k]).length := by
      rw [List.length_append, List.length_singleton]
      omega
    have bd1 : es1.size < scanBound := by omega
    have led1 : w.params.followText "set-order" = true ∨ t1.led = true := led.imp id fun z => p4.trans z
    refine wpAny_bind (quiet _ ?_)
    split
    · refine wpAny_bind ?_
      rw [hashByValue_scannable 8 scn]
      refine wpAny_pure (setS_tail (L' := L ++ [k]) (fun b s1 Q' q => by cases b <;> first | exact wpAny_pure q | exact wpAny_rule q) ho hex hd good1 nd1 mem1 sz2 bd1 ?_ ?_ ?_ fun h' sb r => by dsimp only; exact wpAny_pure (hQ _ h' sb r))
      · first | (split <;> first | exact p2 | exact SetTable.fits_plain_off p2) | exact p2
      · first | (split <;> exact p3) | exact p3
      · first | (split <;> exact led1) | exact led1
    · refine wpAny_bind (wpAny_pure ?_)
      simp only [↓reduceIte]
      exact setS_tail (L' := L ++ [k]) (fun b s1 Q' q => by cases b <;> first | exact wpAny_pure q | exact wpAny_rule q) ho hex hd good1 nd1 mem1 sz2 bd1 p2 p3 led1 fun h' sb r => by dsimp only; exact wpAny_pure (hQ _ h' sb r)
theorem upd_loop {R : Result → Shared → Prop} {I : Addr} {fp wr : List Addr} {G : Array GenState → Array GenState → Prop} {n : Nat} {Pv : Nat → Value → Prop} {Sv : Nat → Shared → Prop} (W : WalksS P w A.in1 I fp wr G n Pv Sv) (S : Addr) (hSf : S ∉ fp) (xs : List Str) (en : xs.length = n)
    (hval : ∀ i v, Pv i v → ∃ t, v = .str (xs.getD i Str.empty) t) (few : n + 1 < scanBound) :
    ∀ (k i : Nat) (s : Shared), n - i = k → i ≤ n → Sv i s → SetS w s.heap S (xs.take i) → (∀ s', Moved (S :: wr) G s s' → SetS w s'.heap S (xs.take n) → R (.ok (.ret .none)) s') → codeAny (model P w) A (.builtin "set.update.loop" ⟨[.ref S, .ref I], []⟩) R s := by
  have hSw : S ∉ wr := fun h => hSf (W.sub _ h)
  have wider : ∀ b ∈ wr, b ∈ S :: wr := fun b hb => List.mem_cons_of_mem _ hb
  intro k
  induction k with
  | zero =>
    intro i s hk hi hst hS hR
    obtain rfl : i = n := by omega
    refine codeAny_builtin PyProof.Rows.F.entry_set_update_loop ?_
    rw [Around.under_plainId PyProof.Rows.F.plain_set_update_loop _]
    show wpAny _ A.in1 (pyNext (.ref I) >>= _) _ _ s
    refine wpAny_bind (W.done s _ _ hst fun s' hm => ?_)
    show wpAny _ A.in1 (ret Value.none) _ _ s'
    exact wpAny_pure (hR s' (hm.mono wider) (hS.keep fun o e => hm.heap S o hSw e))
  | succ k ih =>
    intro i s hk hi hst hS hR
    have lt : i < n := by omega
    refine codeAny_builtin PyProof.Rows.F.entry_set_update_loop ?_
    rw [Around.under_plainId PyProof.Rows.F.plain_set_update_loop _]
    show wpAny _ A.in1 (pyNext (.ref I) >>= _) _ _ s
    refine wpAny_bind (W.item i s _ _ lt hst fun v s' hP hst' hm => ?_)
    obtain ⟨t, rfl⟩ := hval i v hP
    show wpAny _ A.in1 (holding [Value.str (xs.getD i Str.empty) t] (setAdd S (.str (xs.getD i Str.empty) t)) >>= _) _ _ s'
    refine wpAny_bind (wpAny_holding ?_)
    unfold setAdd
    refine wpAny_holding (wpAny_bind ((PySem.strKind P w).pyHash (k := xs.getD i Str.empty) (strKind_is _ _ _ _) ?_))
    refine setS_add (s := { s' with toks := s'.toks + 1 }) (hS.keep fun o e => hm.heap S o hSw e) (by rw [List.length_take]; omega) fun b h' sb r => ?_
    have more : xs.take i ++ [xs.getD i Str.empty] = xs.take (i + 1) := by
      rw [List.take_add_one, List.getD_eq_getElem?_getD, List.getElem?_eq_getElem (by omega)]
      rfl
    rw [more] at r
    refine wpAny_pure ⟨plainId_quiet PyProof.Rows.F.plain_set_update_loop _, ih (i + 1) _ (by omega) lt (W.frame _ s' _ _ hst' (Nat.le_succ _) fun c hc o e => ?_) r fun s'' hm'' hS'' => ?_⟩
    · rw [sb.2 c fun z => hSf (z ▸ hc)]
      exact e
    · refine hR s'' (Moved.trans W.gtrans ((hm.mono wider).then_heap (Nat.le_succ _) fun c o hc e => ?_) hm'') hS''
      rw [sb.2 c fun z => hc (by rw [z]; exact List.mem_cons_self)]
      exact e

set_option maxHeartbeats 8000000 in
theorem set_of_list {l : Addr} {items : Array Value} {xs : List Str} {Q : Value → Shared → Prop} (calm : A.handled = none) (src : s.heap.IsList l items) (txt : StrsAre items.toList xs) (few : xs.length + 1 < scanBound)
    (k : ∀ (h' : Heap) (tk : Nat), SetS w h' s.heap.objs.size xs → (∀ b o, b < s.heap.objs.size → s.heap.get? b = some o → h'.get? b = some o) → Q (.ref s.heap.objs.size) { s with heap := h', toks := tk }) :
    wpAny (model P w) A (call (.type "set") [.ref l]) Q E s := by
  obtain ⟨_, _, hmro⟩ := PySem.F.called_set.mro
  have c1 := PySem.F.called_set.made; have c2 := PySem.F.called_set.sub; have c3 := PySem.F.called_set.notType; have c4 := PySem.F.called_set.canCreate; have c5 := PySem.F.typeCall_set_1 (.ref l)
  refine wpAny_call (codeAny_of_tree ?_)
  show wpAny _ _ (callAny (.type "set") _) _ _ _
  refine wpAny_pure ⟨Code.quiet_builtin _ (by decide +kernel), codeAny_builtin PySem.F.entry_type_call ?_⟩; rw [Around.under_plain (weight_type_call_type "set" [.ref l] []) rfl]; (repeat (any_goals (first | assumption | wp_step)))
  refine codeAny_mono (code_set_led1 (.ref l) (E := E) (Q₁ := fun ob s1 => ob = .ref s.heap.objs.size ∧ s1 = { s with heap := s.heap.push { cls := .type "set", dict := none, data := .set #[] 0 (.fresh 0 0 (!w.params.followText "set-order")) } }) ⟨rfl, rfl⟩) fun r s1 hr => ?_
  rcases r with e | (ob | _ | _ | _) <;> first | exact hr | exact hr.elim | skip
  obtain ⟨rfl, rfl⟩ := hr
  have at0 : (s.heap.push { cls := .type "set", dict := none, data := .set #[] 0 (.fresh 0 0 (!w.params.followText "set-order")) }).get? s.heap.objs.size = some { cls := .type "set", dict := none, data := .set #[] 0 (.fresh 0 0 (!w.params.followText "set-order")) } := Heap.get?_push_size _ rfl
  have isSet : Shared.TypeIs { s with heap := s.heap.push { cls := .type "set", dict := none, data := .set #[] 0 (.fresh 0 0 (!w.params.followText "set-order")) } } (.ref s.heap.objs.size) "set" := ⟨_, at0, rfl⟩
  have c6 := PySem.F.called_set.init.lookup; have c7 := PySem.F.called_set.init.bind (.ref s.heap.objs.size)
  repeat (any_goals (first | assumption | wp_step))
  refine codeAny_mono (codeAny_call_builtin (R := wants (fun r s2 => r = .none ∧ ∃ h' tk, s2 = { s with heap := h', toks := tk } ∧ SetS w h' s.heap.objs.size xs ∧ (∀ b o, b < s.heap.objs.size → s.heap.get? b = some o → h'.get? b = some o)) E)
    PySem.F.called_set.init.plain PySem.F.entry_set_init (check_set_init_1 isSet ?_)) fun r2 s2 hr2 => ?_
  · obtain ⟨⟨ocls, odict, odata, oslots⟩, hol, hcl, nl, hdl⟩ := src
    simp only at hcl hdl
    subst hcl; subst hdl
    have at1 : (s.heap.push { cls := .type "set", dict := none, data := .set #[] 0 (.fresh 0 0 (!w.params.followText "set-order")) }).get? l = some { cls := .type "list", dict := odict, data := .seq items nl, slots := oslots } := Heap.get?_push_of_some _ hol
    have d1 := PySem.F.sub_list_set; have d2 := PySem.F.sub_list_frozenset
    have d3 : (Value.type "list" == Value.type "dict") = false := by decide
    have walk1 : (s.heap.push { cls := .type "set", dict := none, data := .set #[] 0 (.fresh 0 0 (!w.params.followText "set-order")) }).IsList l items := ⟨_, at1, rfl, nl, rfl⟩
    unfold Builtin.«set.__init__» noKeywords Builtin.Frozenset.updateFrom
    generalize eP : pyIter = PI
    wp_walk
    subst eP
    refine wpAny_pyIter_list walk1 (wpAny_bind (wpAny_runValue ?_))
    have old : l < s.heap.objs.size := Heap.lt_size hol
    have calm3 : A.in1.in1.in1.handled = none := by simp [calm]
    have ap : l ≠ (s.heap.push { cls := .type "set", dict := none, data := .set #[] 0 (.fresh 0 0 (!w.params.followText "set-order")) }).objs.size := by
      rw [Heap.size_push]; exact Nat.ne_of_lt (Nat.lt_succ_of_lt old)
    have sap : s.heap.objs.size ∉ [(s.heap.push { cls := .type "set", dict := none, data := .set #[] 0 (.fresh 0 0 (!w.params.followText "set-order")) }).objs.size, l] := by
      rw [Heap.size_push]; simp only [List.mem_cons, List.not_mem_nil, or_false, not_or]; exact ⟨Nat.ne_of_lt (Nat.lt_succ_self _), Nat.ne_of_gt old⟩
    have esz : xs.length = items.size := by rw [← StrsAre.len_eq txt, Array.length_toList]
    refine upd_loop ((Walks.list calm3 _ l ap items).toS) s.heap.objs.size sap xs esz (fun i v hv => SS.strs_at txt i v (by rw [Array.getElem?_toList]; exact hv)) (by omega) (items.size - 0) 0 _ (by omega) (Nat.zero_le _)
      ⟨⟨_, Heap.get?_push_size _ rfl, rfl, rfl⟩, (walk1.push _)⟩ ?s0 ?s1
    case s0 => exact setS_fresh (Heap.get?_push_of_some _ at0)
    case s1 =>
      intro ⟨h', g', d', tk', os'⟩ hm hS'
      obtain rfl : g' = s.gens := hm.gens
      obtain rfl : d' = s.drawn := hm.drawn
      obtain rfl : os' = s.os := hm.os
      show wpAny _ _ _ _ _ _
      refine wpAny_pure ?_
      show wpAny _ _ (ret Value.none) _ _ _
      rw [← esz, List.take_length] at hS'
      refine wpAny_pure ⟨rfl, h', tk', rfl, hS', fun b o hb e => ?_⟩
      refine hm.heap b o ?_ (Heap.get?_push_of_some _ (Heap.get?_push_of_some _ e))
      rw [Heap.size_push]
      simp only [List.mem_cons, List.not_mem_nil, or_false, not_or]; exact ⟨Nat.ne_of_lt hb, Nat.ne_of_lt (Nat.lt_succ_of_lt hb)⟩
  · rcases r2 with e | (r | _ | _ | _) <;> first | exact hr2 | exact hr2.elim | skip
    obtain ⟨rfl, h', tk, rfl, hS', hk'⟩ := hr2
    repeat (any_goals (first | assumption | wp_step))
    exact k _ _ hS' hk'


set_option maxHeartbeats 8000000 in
theorem set_of_tuple {l : Addr} {items : Array Value} {xs : List Str} {Q : Value → Shared → Prop} (calm : A.handled = none) (src : s.heap.IsTuple l items) (txt : StrsAre items.toList xs) (few : xs.length + 1 < scanBound)
    (k : ∀ (h' : Heap) (tk : Nat), SetS w h' s.heap.objs.size xs → (∀ b o, b < s.heap.objs.size → s.heap.get? b = some o → h'.get? b = some o) → Q (.ref s.heap.objs.size) { s with heap := h', toks := tk }) :
    wpAny (model P w) A (call (.type "set") [.ref l]) Q E s := by
  obtain ⟨_, _, hmro⟩ := PySem.F.called_set.mro
  have c1 := PySem.F.called_set.made; have c2 := PySem.F.called_set.sub; have c3 := PySem.F.called_set.notType; have c4 := PySem.F.called_set.canCreate; have c5 := PySem.F.typeCall_set_1 (.ref l)
  refine wpAny_call (codeAny_of_tree ?_)
  show wpAny _ _ (callAny (.type "set") _) _ _ _
  refine wpAny_pure ⟨Code.quiet_builtin _ (by decide +kernel), codeAny_builtin PySem.F.entry_type_call ?_⟩; rw [Around.under_plain (weight_type_call_type "set" [.ref l] []) rfl]; (repeat (any_goals (first | assumption | wp_step)))
  refine codeAny_mono (code_set_led1 (.ref l) (E := E) (Q₁ := fun ob s1 => ob = .ref s.heap.objs.size ∧ s1 = { s with heap := s.heap.push { cls := .type "set", dict := none, data := .set #[] 0 (.fresh 0 0 (!w.params.followText "set-order")) } }) ⟨rfl, rfl⟩) fun r s1 hr => ?_
  rcases r with e | (ob | _ | _ | _) <;> first | exact hr | exact hr.elim | skip
  obtain ⟨rfl, rfl⟩ := hr
  have at0 : (s.heap.push { cls := .type "set", dict := none, data := .set #[] 0 (.fresh 0 0 (!w.params.followText "set-order")) }).get? s.heap.objs.size = some { cls := .type "set", dict := none, data := .set #[] 0 (.fresh 0 0 (!w.params.followText "set-order")) } := Heap.get?_push_size _ rfl
  have isSet : Shared.TypeIs { s with heap := s.heap.push { cls := .type "set", dict := none, data := .set #[] 0 (.fresh 0 0 (!w.params.followText "set-order")) } } (.ref s.heap.objs.size) "set" := ⟨_, at0, rfl⟩
  have c6 := PySem.F.called_set.init.lookup; have c7 := PySem.F.called_set.init.bind (.ref s.heap.objs.size)
  repeat (any_goals (first | assumption | wp_step))
  refine codeAny_mono (codeAny_call_builtin (R := wants (fun r s2 => r = .none ∧ ∃ h' tk, s2 = { s with heap := h', toks := tk } ∧ SetS w h' s.heap.objs.size xs ∧ (∀ b o, b < s.heap.objs.size → s.heap.get? b = some o → h'.get? b = some o)) E)
    PySem.F.called_set.init.plain PySem.F.entry_set_init (check_set_init_1 isSet ?_)) fun r2 s2 hr2 => ?_
  · obtain ⟨⟨ocls, odict, odata, oslots⟩, hol, hcl, nl, hdl⟩ := src
    simp only at hcl hdl
    subst hcl; subst hdl
    have at1 : (s.heap.push { cls := .type "set", dict := none, data := .set #[] 0 (.fresh 0 0 (!w.params.followText "set-order")) }).get? l = some { cls := .type "tuple", dict := odict, data := .seq items nl, slots := oslots } := Heap.get?_push_of_some _ hol
    have d1 := PySem.F.sub_tuple_set; have d2 := PySem.F.sub_tuple_frozenset
    have d3 : (Value.type "tuple" == Value.type "dict") = false := by decide
    have walk1 : (s.heap.push { cls := .type "set", dict := none, data := .set #[] 0 (.fresh 0 0 (!w.params.followText "set-order")) }).IsTuple l items := ⟨_, at1, rfl, nl, rfl⟩
    unfold Builtin.«set.__init__» noKeywords Builtin.Frozenset.updateFrom
    generalize eP : pyIter = PI
    wp_walk
    subst eP
    refine wpAny_pyIter_tuple walk1 (wpAny_bind (wpAny_runValue ?_))
    have old : l < s.heap.objs.size := Heap.lt_size hol
    have calm3 : A.in1.in1.in1.handled = none := by simp [calm]
    have ap : l ≠ (s.heap.push { cls := .type "set", dict := none, data := .set #[] 0 (.fresh 0 0 (!w.params.followText "set-order")) }).objs.size := by
      rw [Heap.size_push]; exact Nat.ne_of_lt (Nat.lt_succ_of_lt old)
    have sap : s.heap.objs.size ∉ [(s.heap.push { cls := .type "set", dict := none, data := .set #[] 0 (.fresh 0 0 (!w.params.followText "set-order")) }).objs.size, l] := by
      rw [Heap.size_push]; simp only [List.mem_cons, List.not_mem_nil, or_false, not_or]; exact ⟨Nat.ne_of_lt (Nat.lt_succ_self _), Nat.ne_of_gt old⟩
    have esz : xs.length = items.size := by rw [← StrsAre.len_eq txt, Array.length_toList]
    refine upd_loop ((Walks.tuple calm3 _ l ap items).toS) s.heap.objs.size sap xs esz (fun i v hv => SS.strs_at txt i v (by rw [Array.getElem?_toList]; exact hv)) (by omega) (items.size - 0) 0 _ (by omega) (Nat.zero_le _)
      ⟨⟨_, Heap.get?_push_size _ rfl, rfl, rfl⟩, (walk1.push _)⟩ ?s0 ?s1
    case s0 => exact setS_fresh (Heap.get?_push_of_some _ at0)
    case s1 =>
      intro ⟨h', g', d', tk', os'⟩ hm hS'
      obtain rfl : g' = s.gens := hm.gens
      obtain rfl : d' = s.drawn := hm.drawn
      obtain rfl : os' = s.os := hm.os
      show wpAny _ _ _ _ _ _
      refine wpAny_pure ?_
      show wpAny _ _ (ret Value.none) _ _ _
      rw [← esz, List.take_length] at hS'
      refine wpAny_pure ⟨rfl, h', tk', rfl, hS', fun b o hb e => ?_⟩
      refine hm.heap b o ?_ (Heap.get?_push_of_some _ (Heap.get?_push_of_some _ e))
      rw [Heap.size_push]
      simp only [List.mem_cons, List.not_mem_nil, or_false, not_or]; exact ⟨Nat.ne_of_lt hb, Nat.ne_of_lt (Nat.lt_succ_of_lt hb)⟩
  · rcases r2 with e | (r | _ | _ | _) <;> first | exact hr2 | exact hr2.elim | skip
    obtain ⟨rfl, h', tk, rfl, hS', hk'⟩ := hr2
    repeat (any_goals (first | assumption | wp_step))
    exact k _ _ hS' hk'

end
end Aw
/-! ## the mathematics: rows put in at their places, and rows sorted by signs, then by lengths, are one list -/
namespace Aw
open PySem PyProof.Rows
/-- the texts in the order of their lengths, else as they stood -/
def byLen (ss : List Str) : List Str := ss.mergeSort fun a b => decide (a.length ≤ b.length)
/-- two lists in one strict order with the same members are one -/
theorem strict_one {α : Type} {r : α → α → Prop} (ir : ∀ a, ¬ r a a) (asy : ∀ a b, r a b → ¬ r b a) : ∀ {l m : List α}, l.Pairwise r → m.Pairwise r → (∀ x, x ∈ l ↔ x ∈ m) → l = m
  | [], [], _, _, _ => rfl
  | [], y :: m, _, _, h => absurd ((h y).mpr List.mem_cons_self) (by simp)
  | x :: l, [], _, _, h => absurd ((h x).mp List.mem_cons_self) (by simp)
  | x :: l, y :: m, h1, h2, h => by
    obtain ⟨a1, a2⟩ := List.pairwise_cons.mp h1
    obtain ⟨b1, b2⟩ := List.pairwise_cons.mp h2
    have e : x = y := by
      rcases List.mem_cons.mp ((h x).mp List.mem_cons_self) with e | hx
      · exact e
      · rcases List.mem_cons.mp ((h y).mpr List.mem_cons_self) with e | hy
        · exact e.symm
        · exact absurd (b1 x hx) (asy _ _ (a1 y hy))
    subst e
    refine congrArg (x :: ·) (strict_one ir asy a2 b2 fun z => ⟨fun hz => ?_, fun hz => ?_⟩)
    · rcases List.mem_cons.mp ((h z).mp (List.mem_cons_of_mem _ hz)) with rfl | q
      · exact absurd (a1 z hz) (ir z)
      · exact q
    · rcases List.mem_cons.mp ((h z).mpr (List.mem_cons_of_mem _ hz)) with rfl | q
      · exact absurd (b1 z hz) (ir z)
      · exact q
theorem lt_irr (a : List Nat) : ¬ a < a := List.lt_irrefl a
theorem lt_asy {a b : List Nat} (h : a < b) : ¬ b < a := List.lt_asymm h
theorem bef_iff {a b : Str} : befB a b = true ↔ a.length < b.length ∨ (a.length = b.length ∧ a.cps.toList < b.cps.toList) := by
  unfold befB
  split
  · rename_i e
    rw [decide_eq_true_eq]
    exact ⟨fun h => .inr ⟨e, h⟩, fun h => h.elim (fun z => absurd z (by omega)) And.right⟩
  · rename_i e
    rw [decide_eq_true_eq]
    exact ⟨.inl, fun h => h.elim id fun z => absurd z.1 e⟩
theorem bef_irr (a : Str) : ¬ befB a a = true := fun h => by
  rcases bef_iff.mp h with h | ⟨_, h⟩
  · omega
  · exact lt_irr _ h
theorem bef_trans {a b c : Str} (h1 : befB a b = true) (h2 : befB b c = true) : befB a c = true := by
  rw [bef_iff] at h1 h2 ⊢
  rcases h1 with h1 | ⟨e1, h1⟩ <;> rcases h2 with h2 | ⟨e2, h2⟩
  · exact .inl (by omega)
  · exact .inl (by omega)
  · exact .inl (by omega)
  · exact .inr ⟨by omega, List.lt_trans h1 h2⟩
theorem bef_asy (a b : Str) (h : befB a b = true) : ¬ befB b a = true := fun h2 => bef_irr a (bef_trans h h2)
theorem bef_total {a b : Str} (h : a ≠ b) : befB a b = true ∨ befB b a = true := by
  rw [bef_iff, bef_iff]
  rcases Nat.lt_trichotomy a.length b.length with h1 | h1 | h1
  · exact .inl (.inl h1)
  · by_cases h2 : a.cps.toList < b.cps.toList
    · exact .inl (.inr ⟨h1, h2⟩)
    · by_cases h3 : b.cps.toList < a.cps.toList
      · exact .inr (.inr ⟨h1.symm, h3⟩)
      · exact absurd (TL.ext_tl (List.le_antisymm (List.not_lt.mp h3) (List.not_lt.mp h2))) h
  · exact .inr (.inl h1)
/-- in a rising list those below r stand first -/
theorem split_at {r : Str} : ∀ {f : List Str}, f.Pairwise (fun a b => befB a b = true) → (∀ x ∈ f.take (f.filter (befB · r)).length, befB x r = true) ∧ ∀ x ∈ f.drop (f.filter (befB · r)).length, ¬ befB x r = true
  | [], _ => ⟨(fun x h => by simp at h), fun x h => by simp at h⟩
  | y :: f, h => by
    obtain ⟨h1, h2⟩ := List.pairwise_cons.mp h
    obtain ⟨k1, k2⟩ := split_at (r := r) h2
    by_cases c : befB y r = true
    · rw [List.filter_cons, if_pos c, List.length_cons, List.take_succ_cons, List.drop_succ_cons]
      refine ⟨fun x hx => ?_, k2⟩
      rcases List.mem_cons.mp hx with rfl | hx
      · exact c
      · exact k1 x hx
    · have e : f.filter (befB · r) = [] := List.filter_eq_nil_iff.mpr fun x hx q => c (bef_trans (h1 x hx) q)
      rw [List.filter_cons, if_neg c, e, List.length_nil, List.take_zero, List.drop_zero]
      refine ⟨(fun x hx => by simp at hx), fun x hx q => ?_⟩
      rcases List.mem_cons.mp hx with rfl | hx
      · exact c q
      · exact c (bef_trans (h1 x hx) q)
theorem insL_rises {f : List Str} (h : f.Pairwise fun a b => befB a b = true) (r : Str) : (insL f r).Pairwise fun a b => befB a b = true := by
  unfold insL
  split
  · exact h
  · rename_i new
    obtain ⟨k1, k2⟩ := split_at (r := r) h
    generalize (f.filter (befB · r)).length = n at k1 k2 ⊢
    have tl : ∀ x ∈ f.drop n, befB r x = true := fun x hx => by
      rcases bef_total (a := r) (b := x) (fun e => new (e ▸ List.mem_of_mem_drop hx)) with q | q
      · exact q
      · exact absurd q (k2 x hx)
    have hp := h
    rw [← List.take_append_drop n f] at hp
    obtain ⟨p1, p2, p3⟩ := List.pairwise_append.mp hp
    refine List.pairwise_append.mpr ⟨List.pairwise_append.mpr ⟨p1, List.pairwise_singleton _ _, fun a ha b hb => ?_⟩, p2, fun a ha b hb => ?_⟩
    · rw [List.mem_singleton.mp hb]
      exact k1 a ha
    · rcases List.mem_append.mp ha with ha | ha
      · exact p3 a ha b hb
      · rw [List.mem_singleton.mp ha]
        exact tl b hb
theorem fold_rises : ∀ (rs f : List Str), f.Pairwise (fun a b => befB a b = true) → (rs.foldl insL f).Pairwise fun a b => befB a b = true
  | [], _, h => h
  | r :: rs, f, h => fold_rises rs (insL f r) (insL_rises h r)
theorem dueL_rises (rs : List Str) : (dueL rs).Pairwise fun a b => befB a b = true := fold_rises rs [] .nil
theorem byLen_is {ss rs : List Str} (h1 : ss.Pairwise fun x y => x.cps.toList < y.cps.toList) (h2 : ∀ k, k ∈ ss ↔ k ∈ rs) : byLen ss = dueL rs := by
  have T : PySem.W.TotalLe fun a b : Str => decide (a.length ≤ b.length) := ⟨fun a b c q1 q2 => by simp only [decide_eq_true_eq] at *; omega, fun a b => by simp only [decide_eq_true_eq]; omega⟩
  refine (PySem.W.sort_unique T ?_ fun c => ?_).symm
  · refine List.Pairwise.imp ?_ (dueL_rises rs)
    intro a b q
    rw [decide_eq_true_eq]
    rcases bef_iff.mp q with q | ⟨q, _⟩ <;> omega
  · have same : ∀ x, PySem.W.sameRank (fun a b : Str => decide (a.length ≤ b.length)) c x = true ↔ c.length = x.length := fun x => by
      unfold PySem.W.sameRank
      rw [Bool.and_eq_true, decide_eq_true_eq, decide_eq_true_eq]
      omega
    refine strict_one (r := fun x y : Str => x.cps.toList < y.cps.toList) (fun a => lt_irr _) (fun a b q => lt_asy q) ?_ (h1.filter _) fun x => ?_
    · have pw := (dueL_rises rs).filter (PySem.W.sameRank (fun a b : Str => decide (a.length ≤ b.length)) c)
      refine List.Pairwise.imp_of_mem ?_ pw
      intro a b ha hb q
      have e1 := (same a).mp (List.mem_filter.mp ha).2
      have e2 := (same b).mp (List.mem_filter.mp hb).2
      rcases bef_iff.mp q with q | ⟨_, q⟩
      · omega
      · exact q
    · rw [List.mem_filter, List.mem_filter, dueL_mem, h2]
end Aw
/-! ## sorted of a set of texts; sorted by length -/
namespace Aw
open PySem PySem.Spec PyProof.Rows L2
abbrev StrV (v : Value) (x : Str) : Prop := ∃ t, v = Value.str x t
theorem each_strs : ∀ {vs : List Value} {ss : List Str}, StrsAre vs ss → PySem.W.EachIs StrV vs ss
  | _, _, .nil => .nil
  | _, _, .cons x t r => .cons ⟨t, rfl⟩ (each_strs r)
theorem strs_each : ∀ {vs : List Value} {ss : List Str}, PySem.W.EachIs StrV vs ss → StrsAre vs ss
  | _, _, .nil => .nil
  | _, _, .cons ⟨t, e⟩ r => by
    subst e
    exact .cons _ t (strs_each r)
theorem each_reads {h : Heap} : ∀ {vs : List Value} {ss : List Str}, PySem.W.EachIs StrV vs ss → PySem.W.EachIs (fun v b => ∃ as, Reads h v (PyData.str b) as) vs ss
  | _, _, .nil => .nil
  | _, _, .cons ⟨t, e⟩ r => by
    subst e
    exact .cons ⟨_, Reads.str _ t⟩ (each_reads r)
theorem each_readsN {h : Heap} {a : Addr} : ∀ {vs : List Value} {ss : List Str}, PySem.W.EachIs StrV vs ss → PySem.W.EachIs (fun v b => ∃ as, Reads h v (PyData.str b) as ∧ a ∉ as) vs ss
  | _, _, .nil => .nil
  | _, _, .cons ⟨t, e⟩ r => by
    subst e
    exact .cons ⟨_, Reads.str _ t, by simp⟩ (each_readsN r)
theorem alike_strs (l : List Str) : PySem.W.AllAlike (l.map PyData.str) := PySem.W.AllAlike.of fun _ _ => rfl
theorem sortable_strs (l : List Str) : PySem.W.Sortable (l.map PyData.str) := PySem.W.Sortable.others fun _ => ⟨(fun z => nomatch z), fun _ z => nomatch z⟩
def leS (a b : Str) : Bool := decide (a.cps.toList ≤ b.cps.toList)
theorem leS_eq : (PySem.W.dataLe false PyData.str : Str → Str → Bool) = leS := by
  have h := PySem.W.dataLe_str (fun x : Str => x)
  exact h
theorem leS_trans (a b c : Str) : leS a b = true → leS b c = true → leS a c = true := fun h1 h2 => decide_eq_true (List.le_trans (of_decide_eq_true h1) (of_decide_eq_true h2))
theorem leS_total (a b : Str) : (leS a b || leS b a) = true := by
  rcases List.le_total a.cps.toList b.cps.toList with h | h
  · unfold leS
    rw [decide_eq_true h, Bool.true_or]
  · unfold leS
    rw [decide_eq_true h, Bool.or_true]
theorem ltS_of {a b : Str} (h : leS a b = true) (n : a ≠ b) : a.cps.toList < b.cps.toList := by
  have h1 : a.cps.toList ≤ b.cps.toList := of_decide_eq_true h
  by_cases h2 : a.cps.toList < b.cps.toList
  · exact h2
  · have h3 : b.cps.toList ≤ a.cps.toList := List.not_lt.mp h2
    exact absurd (TL.ext_tl (List.le_antisymm h1 h3)) n
theorem pairwise_and {α : Type} {r q : α → α → Prop} : ∀ {l : List α}, l.Pairwise r → l.Pairwise q → l.Pairwise fun a b => r a b ∧ q a b
  | [], _, _ => .nil
  | x :: l, h1, h2 => by
    obtain ⟨a1, a2⟩ := List.pairwise_cons.mp h1
    obtain ⟨b1, b2⟩ := List.pairwise_cons.mp h2
    exact List.pairwise_cons.mpr ⟨fun y hy => ⟨a1 y hy, b1 y hy⟩, pairwise_and a2 b2⟩
section
variable {P : Program} {w : World} {A : Around} {E : Value → Shared → Prop} {s : Shared} {a : Addr} {L : List Str}
theorem sorted_setS {Q : Value → Shared → Prop} (R : SetS w s.heap a L) (calm : A.handled = none) (room : A.units + 64 < cLine)
    (hQ : ∀ s' p (out : List Value) (c : Nat) (ss : List Str), (∀ b o, s.heap.get? b = some o → s'.heap.get? b = some o) → s'.gens = s.gens → s'.os = s.os → s.heap.objs.size ≤ p → s'.heap.get? p = some (seqObj "list" out.toArray c) →
      StrsAre out ss → ss.Pairwise (fun x y => x.cps.toList < y.cps.toList) → (∀ k, k ∈ ss ↔ k ∈ L) → ss.length ≤ 4096 → Q (.ref p) s') : wpAny (model P w) A (call (.builtin "sorted") [.ref a]) Q E s := by
  obtain ⟨o, es, ep, t, ho, hex, hd, good, nd, mem, sz, bd, fit, ris, led⟩ := R
  refine Calls.call_function_entry kind_sorted plain_sorted entry_sorted (args_sorted1 _) ?_
  unfold Builtin.«sorted»
  refine wpAny_bind (m := checkCount "sorted" 1 1 _) (wpAny_pure (wpAny_bind (collect_set (A := A.in1) calm ⟨o, ho, hex.1, hd⟩ fit bd ris led fun s1 vs k1 z1 g1 o1 pm => ?_)))
  have bd2 : es.size < 4096 := bd
  have lv : vs.length = es.size := by rw [pm.length_eq, List.length_map, Array.length_toList]
  have st : StrsAre vs (vs.map strOf) := strsAre_map vs fun v hv => by
    obtain ⟨e, he, q⟩ := List.mem_map.mp (pm.mem_iff.mp hv)
    obtain ⟨k, tk, h1, _⟩ := good e he
    exact ⟨k, tk, by rw [← q, h1]⟩
  have pk : (vs.map strOf).Perm (es.toList.map keyS) := by
    have q := pm.map strOf
    rw [List.map_map] at q
    refine q.trans (List.Perm.of_eq (List.map_congr_left fun e he => ?_))
    obtain ⟨k, tk, h1, _⟩ := good e he
    show strOf e.2 = keyS e
    unfold keyS
    rw [h1]
    rfl
  have ll : (vs.map strOf).length ≤ sizeLine := by rw [List.length_map, lv, sizeLine_eq]; omega
  refine wpAny_bind (wpAny_newList ?_ (by rw [lv, sizeLine_eq]; omega))
  have at1 : (s1.heap.push (seqObj "list" vs.toArray 0)).get? s1.heap.objs.size = some (seqObj "list" vs.toArray 0) := Heap.get?_push_size _ rfl
  refine wpAny_bind (wpAny_holding (PySem.W.list_sort_data (bs := vs.map strOf) (enc := PyData.str) (R := StrV) at1 (each_strs st) (each_readsN (each_strs st)) (alike_strs _) (sortable_strs _) ll (fun _ _ => by show A.units + 1 + 1 + 0 < cLine; omega) fun out l1 e1 => ?_))
  rw [leS_eq] at e1
  obtain ⟨c, hc⟩ := sortedHeap_at (vs := vs) (out := out.toArray) at1
  have pn : ((vs.map strOf).mergeSort leS).Perm (es.toList.map keyS) := (List.mergeSort_perm _ _).trans pk
  have nd2 : ((vs.map strOf).mergeSort leS).Nodup := pn.nodup_iff.mpr nd
  have pw : ((vs.map strOf).mergeSort leS).Pairwise fun x y => x.cps.toList < y.cps.toList := by
    refine List.Pairwise.imp ?_ (pairwise_and (List.pairwise_mergeSort leS_trans leS_total (vs.map strOf)) nd2)
    exact fun {x y} h => ltS_of h.1 h.2
  refine wpAny_pure ?_
  refine ⟨_, rfl, ?_⟩
  refine hQ { s1 with heap := sortedHeap (s1.heap.push (seqObj "list" vs.toArray 0)) s1.heap.objs.size vs out.toArray } s1.heap.objs.size out c _ (fun b u e => ?_) g1 o1 z1 hc (strs_each e1) pw (fun k => by rw [pn.mem_iff, mem]) (by rw [pn.length_eq, List.length_map, Array.length_toList]; omega)
  have q := k1 b u e
  have lt := Heap.lt_size q
  show (sortedHeap (s1.heap.push (seqObj "list" vs.toArray 0)) s1.heap.objs.size vs out.toArray).get? b = some u
  rw [sortedHeap_old (Nat.ne_of_lt lt) (by rw [size_push']; exact Nat.lt_succ_of_lt lt)]
  exact Heap.get?_push_of_some _ q
end
/-! ### over the layer -/
def SetSO (w : World) (a : Addr) (L : List Str) : HO := .ext fun h => SetS w h a L
theorem setSO_new {P : Program} {w : World} {H : Hp} {h : Heap} {a : Addr} {L : List Str} (R : SetS w h a L) : ObjOk P w H h a (SetSO w a L) := by
  obtain ⟨o, _, _, _, ho, _⟩ := id R
  exact ⟨R, ⟨o, ho⟩, fun h1 h2 p k => SetS.keep p k⟩
section
variable {X : Cx}
def rSetOfS (K : PySem.W.Frag) (w : World) : List V → Hp → VK → Prop := fun xs H Q => ∃ (l : Addr) (ss : List Str), xs = [V.ref l] ∧ (SqL K H l (ss.map V.str) ∨ SqT K H l (ss.map V.str)) ∧ ss.length ≤ 2000 ∧ ∀ p, H p = none → Q (.ref p) (upd H p (SetSO w p ss))
theorem cr_setOfS (hc : X.calm = true) : CallR X (.type "set") (rSetOfS X.K X.w) := by
  intro pins s σ H xs us Q I r h
  obtain ⟨l, ss, rfl, hs, hn, q⟩ := h
  rw [Vals.ref1 r]
  have few : ss.length + 1 < scanBound := by
    have z : scanBound = 4096 := rfl
    omega
  have fin : ∀ (h' : Heap) (tk : Nat), SetS X.w h' s.heap.objs.size ss → (∀ b o, b < s.heap.objs.size → s.heap.get? b = some o → h'.get? b = some o) → EP X pins σ Q (.ref s.heap.objs.size) { s with heap := h', toks := tk } := fun h' tk R k =>
    ⟨.ref s.heap.objs.size, upd H s.heap.objs.size (SetSO X.w s.heap.objs.size ss), I.laid (t' := tk) (fun b o e => k b o (Heap.lt_size e) e) (Nat.le_refl _) (setSO_new R), rfl, q _ (I.hok.fresh (Nat.le_refl _))⟩
  rcases hs with hs | hs
  · obtain ⟨its, rv, hl, _⟩ := I.list hs
    exact set_of_list (I.ok.hd hc) hl.isList (by rw [List.toList_toArray]; exact rv.strs) few fin
  · obtain ⟨its, rv, hl, _⟩ := I.tuple hs
    exact set_of_tuple (I.ok.hd hc) hl (by rw [List.toList_toArray]; exact rv.strs) few fin
def rSortedSetS (w : World) : List V → Hp → VK → Prop := fun vs H Q => ∃ (a : Addr) (L : List Str), vs = [V.ref a] ∧ H a = some (SetSO w a L) ∧
  ∀ (ss : List Str) (p : Addr), ss.Pairwise (fun x y => x.cps.toList < y.cps.toList) → (∀ k, k ∈ ss ↔ k ∈ L) → ss.length ≤ 4096 → H p = none → Q (.ref p) (upd H p (.lst (ss.map V.str)))
theorem cr_sortedSetS (hc : X.calm = true) (hu : X.A.units + 64 < cLine) : CallR X (.builtin "sorted") (rSortedSetS X.w) := by
  intro pins s σ H vs us Q I r h
  obtain ⟨a, L, rfl, ha, q⟩ := h
  have R : SetS X.w s.heap a L := (I.hok a _ ha).1
  rw [Vals.ref1 r]
  refine sorted_setS R (I.ok.hd hc) hu fun s' p out c ss k g o hp hg hi pw hm hl => ?_
  have hn : H p = none := I.hok.fresh hp
  have hz : (ss.map V.str).length ≤ sizeLine := by rw [List.length_map, sizeLine_eq]; omega
  have J : Inv X pins σ (upd H p (.lst (ss.map V.str))) { s with heap := s'.heap, gens := s'.gens, drawn := s'.drawn, toks := s'.toks } :=
    I.call (ch := []) (Un.laid k hp hn) (I.hok.laid k hp ⟨hz, out, c, vals_of_strs hi, hg⟩) (by rw [g]; exact I.bare) (fun _ z => nomatch z)
  have e : s' = { s with heap := s'.heap, gens := s'.gens, drawn := s'.drawn, toks := s'.toks } := by cases s'; cases s; cases o; rfl
  rw [e]
  exact ⟨.ref p, _, J, rfl, q ss p pw hm hl hn⟩
def tSortedLen (K : PySem.W.Frag) (te : TE) : TE := fun σ H Q => te σ H fun x H1 => ∃ (a : Addr) (ss : List Str), x = .ref a ∧ SqL K H1 a (ss.map V.str) ∧ (∀ y ∈ ss, y.length ≤ sizeLine) ∧ ∀ p, H1 p = none → Q (.ref p) (upd H1 p (.lst ((byLen ss).map V.str)))
theorem pe_sortedLen {e : Expr} {te : TE} {p p2 p3 pos : Pos} (he : PE X e te) (hu : X.A.units + 64 < cLine) (hg : Gl X "sorted") (hm : X.mg "sorted" = none) (hg2 : Gl X "len") (hm2 : X.mg "len" = none)
    (hs0 : starEach [e] X.env = (false, eval e X.env) :: starEach [] X.env := by rfl) (hs : backTo pos (starEach [e] X.env) = (false, eval e X.env) :: backTo pos (starEach [] X.env) := by rfl) (hpl : (backTo pos (starEach [e] X.env)).any (·.1) = false := by rfl)
    (hall : (backToKw pos (keywordEach [⟨some "key", .Name "len" p2, p3⟩] X.env)).all (·.1.isSome) = true := by rfl) (hnone : (backToKw pos (keywordEach [⟨some "key", .Name "len" p2, p3⟩] X.env)).any (·.1.isNone) = false := by rfl)
    (hks : (backToKw pos (keywordEach [⟨some "key", .Name "len" p2, p3⟩] X.env)).filterMap (·.1) = ([("key" : Str)] : List Str) := by rfl) :
    PE X (.Call (.Name "sorted" p) [e] [⟨some "key", .Name "len" p2, p3⟩] pos) (tSortedLen X.K te) := by
  refine ⟨fun pins s σ H Q I h => wpAny_Call_Name_kw (ld_blt I hg hm (show bootBuiltins "sorted" = some (.builtin "sorted") by decide +kernel) ?_)⟩
  refine PyProof.Rows.callWith_kw (thn ((pa_cons he pa_nil hs0 : PA X [e] _).run pos pins s σ H (fun vs H1 => match vs with
    | [x] => ∃ (a : Addr) (ss : List Str), x = .ref a ∧ SqL X.K H1 a (ss.map V.str) ∧ (∀ y ∈ ss, y.length ≤ sizeLine) ∧ ∀ p, H1 p = none → Q (.ref p) (upd H1 p (.lst ((byLen ss).map V.str)))
    | _ => False) I h) fun us s1 ⟨vs, H1, I1, r1, q1⟩ => ?_) hs hpl hall hnone
  rw [hks]
  show wpAny _ _ (evalAll ((do let v ← eval (.Name "len" p2) X.env; standAt pos; pure v) :: [])) _ _ s1
  refine wpAny_evalAll_cons (wpAny_bind (ld_blt I1 hg2 hm2 (show bootBuiltins "len" = some (.builtin "len") by decide +kernel) (wpAny_bind (wpAny_standAt (wpAny_pure (wpAny_evalAll_nil ?_))))))
  obtain ⟨a, ss, ev, hs2, hl, q⟩ : ∃ (a : Addr) (ss : List Str), vs = [.ref a] ∧ SqL X.K H1 a (ss.map V.str) ∧ (∀ y ∈ ss, y.length ≤ sizeLine) ∧ ∀ p, H1 p = none → Q (.ref p) (upd H1 p (.lst ((byLen ss).map V.str))) := by
    match vs, q1 with
    | [x], ⟨a, ss, e, z⟩ => exact ⟨a, ss, by rw [e], z⟩
  subst ev
  rw [Vals.ref1 r1]
  obtain ⟨its, rv, hp, hz⟩ := I1.list hs2
  rw [List.length_map] at hz
  show wpAny _ _ (call (.builtin "sorted") [.ref a] [(Str.ofString "key", .builtin "len")]) _ _ s1
  refine PySem.W.sorted_key_data (β := Str) (R := StrV) (b := false) (fun x => PyData.int (x.length : Nat)) hp.isList (each_strs rv.strs) (PySem.W.AllAlike.of fun _ _ => rfl) (PySem.W.Sortable.others fun _ => ⟨(fun z => nomatch z), fun _ z => nomatch z⟩) hz
    (fun _ _ => by show X.A.units + 2 + 0 < cLine; omega) (ksk_s1 _ _) (fun _ => ksk_l1 _ _) (fun x => ksk_t4 "len" x) (fun v x hv hx h tk kp => ?_) fun out c h' tk kp fresh hD lo he => ?_
  · obtain ⟨t, rfl⟩ := hv
    have hb := hl x hx
    rw [sizeLine_eq] at hb
    exact PySem.P.len_str (by omega) ⟨h, _, rfl, fun _ _ z => z, Reads.int _ _⟩
  · have ed : PySem.W.dataLe false (fun x : Str => PyData.int (x.length : Nat)) = fun a b : Str => decide (a.length ≤ b.length) := by
      rw [PySem.W.dataLe_int fun x : Str => (x.length : Int)]
      funext a b
      exact decide_eq_decide.mpr (by omega)
    rw [ed] at he
    have hlen : ((byLen ss).map V.str).length ≤ sizeLine := by
      rw [List.length_map]
      unfold byLen
      rw [(List.mergeSort_perm _ _).length_eq]
      exact hz
    exact ⟨.ref _, upd H1 (s1.heap.objs.size + 1) (.lst ((byLen ss).map V.str)), I1.laid (t' := tk) kp (Nat.le_succ _) ⟨hlen, out, c, vals_of_strs (strs_each he), hD⟩, rfl, q _ (I1.hok.fresh (Nat.le_succ _))⟩
end
end Aw
namespace Aw
open PySem PySem.Spec PyProof.Rows L2
section
variable {P : Program} {w : World} {K : PySem.W.Frag} {mg : Str → Option Value} {base : Heap} {A : Ad}
/-- an error of the class at C that bears x leaves, all else as it was -/
def Bears (C : Addr) (x : V) (H : Hp) (E : XK) : Prop := ∀ (d : Addr) (H' : Hp), Same H H' → H' d = some (.xd [(("thing" : Str), x)]) → E (.ref C) (some d) H'
abbrev N_is_row : List Str := ["asks", "thing"]
theorem sc_is_row : FnScope N_is_row ["asks", "thing"] (defScope s_is_row) := ⟨rfl, rfl, rfl, by decide +kernel, rfl, by decide +kernel, by decide +kernel⟩
def spRow (K : PySem.W.Frag) (A : Ad) : Sp := fun vs H Q E => ∃ (x y : V), vs = [x, y] ∧ Known K H x ∧ (asksV x = false → Bears A.cAsks x H E) ∧ (asksV x = true → ∃ a, x = .str a ∧ Known K H y ∧ ∀ H', Same H H' → Q (.bl (rowV a y)) H')
theorem ok_row {fd : FuncData} (F : Fun K "is_row" "is_row" s_is_row A.fRow fd) (T : Tx K mg A) (LA : PySem.LowX.LowTxt K mg "BadAsks" A.cAsks A.fInit) (KAsks : Kp P w K mg base CX0 1 A.fAsks ["thing"] (spAsks K)) (KRowOf : Kp P w K mg base CX0 1 A.fRowOf ["asks", "thing"] (spRowOf K)) :
    FnOk P w K mg base (L2.CX P w) 3 A.fRow fd ["asks", "thing"] (spRow K A) := by
  obtain ⟨fdA, GAsks, bAsks, kAsks⟩ := KAsks
  obtain ⟨fdR, GRowOf, bRowOf, kRowOf⟩ := KRowOf
  have nd := sc_is_row.nd
  refine F.okX sc_is_row (fun vs H Q E h => ?_) (fun cdv A' outer s H vs Q E hr h => ?_)
  · obtain ⟨x, y, rfl, _⟩ := h
    rfl
  · obtain ⟨x, y, rfl, kx, no, yes⟩ := h
    refine ⟨_, (pss_cons (ps_if (pt_not (pt_val (pe_call GAsks (hr.mono (by decide)) rfl T.mis_asks kAsks bAsks .nil pass0 (pa_cons (pv 0) pa_nil)))) (pss_one (ps_raiseTh rfl LA hr (takes_of rfl rfl rfl rfl) (pa_cons (pv 0) pa_nil))) pss_nil)
  (pss_one (ps_ret (pe_call GRowOf (hr.mono (by decide)) rfl T.mis_row_of kRowOf bRowOf .nil pass0 (pa_cons (pv 0) (pa_cons (pv 1) pa_nil)))))), ?_⟩
    refine ⟨_, rfl, x, rfl, kx, fun H1 s1 => ⟨_, rfl, ?_⟩⟩
    cases e : asksV x with
    | false => exact iteT ⟨_, rfl, x, rfl, fun d hd => no e d _ (s1.trans (same_new hd)) upd_same⟩
    | true =>
      obtain ⟨a, rfl, ky, q⟩ := yes e
      exact iteF ⟨_, rfl, _, rfl, a, y, rfl, ky.mono s1, fun H2 s2 => q H2 (s1.trans s2)⟩
abbrev N_ordered : List Str := ["asks", "rows", "row", "alphabetic"]
theorem sc_ordered : FnScope N_ordered ["asks", "rows"] (defScope s_ordered) := ⟨rfl, rfl, rfl, by decide +kernel, rfl, by decide +kernel, by decide +kernel⟩
/-- what ordered does with asks a and the items -/
def OrdIn (K : PySem.W.Frag) (A : Ad) (a : Str) (items : List V) (H : Hp) (Q : VK) (E : XK) : Prop :=
  (∀ z ∈ items, Known K H z) ∧
    ((∃ i z, items[i]? = some z ∧ rowV a z = false ∧ (∀ (j : Nat) (u : V), j < i → items[j]? = some u → rowV a u = true) ∧ Bears A.cRow z H E) ∨
      ∃ rs : List Str, items = rs.map V.str ∧ (∀ r ∈ rs, rowB a r = true) ∧ rs.length ≤ 2000 ∧ ∀ (p : Addr) (H' : Hp), Same H H' → H p = none → H' p = some (.tup ((dueL rs).map V.str)) → Q (.ref p) H')
def spOrd (K : PySem.W.Frag) (A : Ad) : Sp := fun vs H Q E => ∃ (x y : V), vs = [x, y] ∧ Known K H x ∧ (asksV x = false → Bears A.cAsks x H E) ∧
  (asksV x = true → ∃ a, x = .str a ∧
    ((∃ t, TyX K H y t ∧ PySem.W.kitAny K t [.type "list", .type "tuple"] = some false ∧ Bears A.cRow y H E) ∨
      ∃ l items, y = .ref l ∧ (H l = some (.lst items) ∨ H l = some (.tup items)) ∧ OrdIn K A a items H Q E))
theorem rowB_len {a r : Str} (h : rowB a r = true) : r.length ≤ 2000 := by
  unfold rowB at h
  rw [Bool.and_eq_true] at h
  exact of_decide_eq_true h.1
theorem ok_ord {fd : FuncData} (F : Fun K "ordered" "ordered" s_ordered A.fOrd fd) (T : Tx K mg A) (LA : PySem.LowX.LowTxt K mg "BadAsks" A.cAsks A.fInit) (LR : PySem.LowX.LowTxt K mg "BadRow" A.cRow A.fInit)
    (KAsks : Kp P w K mg base CX0 1 A.fAsks ["thing"] (spAsks K)) (KRowOf : Kp P w K mg base CX0 1 A.fRowOf ["asks", "thing"] (spRowOf K)) (KTup : Kp P w K mg base CX0 1 A.fTuple ["thing"] (spTup K)) :
    FnOk P w K mg base (L2.CX P w) 3 A.fOrd fd ["asks", "rows"] (spOrd K A) := by
  obtain ⟨fdA, GAsks, bAsks, kAsks⟩ := KAsks
  obtain ⟨fdR, GRowOf, bRowOf, kRowOf⟩ := KRowOf
  obtain ⟨fdT, GTup, bTup, kTup⟩ := KTup
  have nd := sc_ordered.nd
  refine F.okX sc_ordered (fun vs H Q E h => ?_) (fun cdv A' outer s H vs Q E hr h => ?_)
  · obtain ⟨x, y, rfl, _⟩ := h
    rfl
  · obtain ⟨x, y, rfl, kx, no, yes⟩ := h
    by_cases tup : ∃ l items, y = .ref l ∧ H l = some (.tup items)
    · refine ⟨_, (pss_cons (ps_if (pt_not (pt_val (pe_call GAsks (hr.mono (by decide)) rfl T.mis_asks kAsks bAsks .nil pass0 (pa_cons (pv 0) pa_nil)))) (pss_one (ps_raiseTh rfl LA hr (takes_of rfl rfl rfl rfl) (pa_cons (pv 0) pa_nil))) pss_nil)
  (pss_cons (ps_if (pt_not (pt_val (pe_call GTup (hr.mono (by decide)) rfl T.mis_tuple kTup bTup .nil pass0 (pa_cons (pv 1) pa_nil)))) (pss_one (ps_raiseTh rfl LR hr (takes_of rfl rfl rfl rfl) (pa_cons (pv 1) pa_nil))) pss_nil)
  (pss_cons (ps_for (passes_of rfl) rfl (pi_tup (pv 1)) (pg_name (i := 2) nd rfl (by first | exact Or.inl rfl | exact Or.inr rfl)) (pss_one (ps_if (pt_not (pt_val (pe_call GRowOf (hr.mono (by decide)) rfl T.mis_row_of kRowOf bRowOf .nil pass0 (pa_cons (pv 0) (pa_cons (pv 2) pa_nil))))) (pss_one (ps_raiseTh rfl LR hr (takes_of rfl rfl rfl rfl) (pa_cons (pv 2) pa_nil))) pss_nil)))
  (pss_cons (ps_set (i := 3) nd rfl (by first | exact Or.inl rfl | exact Or.inr rfl) (pe_callB (cr_sortedSetS rfl hr.units) (by rfl) T.nsorted (by decide +kernel) (pa_cons (pe_callTy (cr_setOfS rfl) (by rfl) T.nset (by decide +kernel) (pa_cons (pv 1) pa_nil)) pa_nil)))
  (pss_one (ps_ret (pe_callTy call_tuple_of (by rfl) T.ntuple (by decide +kernel) (pa_cons (pe_sortedLen (pv 3) hr.units (by rfl) T.nsorted (by rfl) T.nlen) pa_nil)))))))), ?_⟩
      refine ⟨_, rfl, x, rfl, kx, fun H1 s1 => ⟨_, rfl, ?_⟩⟩
      cases e : asksV x with
      | false => exact iteT ⟨_, rfl, x, rfl, fun d hd => no e d _ (s1.trans (same_new hd)) upd_same⟩
      | true =>
        obtain ⟨a, rfl, od⟩ := yes e
        refine iteF ?_
        obtain ⟨l, items, rfl, hl⟩ := tup
        rcases od with ⟨t, ty, hk, hb⟩ | ⟨l2, items2, e2, hl2, kn, od⟩
        · exact ⟨_, rfl, _, t, _, rfl, TyX.mono s1 ty, hk, fun H2 s2 => ⟨_, rfl, iteT ⟨_, rfl, _, rfl, fun d hd => hb d _ ((s1.trans s2).trans (same_new hd)) upd_same⟩⟩⟩
        · obtain rfl : l = l2 := V.ref.inj e2
          rw [hl] at hl2
          obtain rfl : items = items2 := by
            rcases hl2 with z | z <;> cases z
            rfl
          refine ⟨_, rfl, _, _, true, rfl, .base (.tup (s1 _ _ hl)), kitAny_cons (b := false) (kit_ty (by decide +kernel)) (fun _ => kitAny_cons (b := true) (kit_ty (by decide +kernel)) (fun z => nomatch z) fun _ => rfl) (fun z => nomatch z), fun H2 s2 => ⟨_, rfl, iteF ?_⟩⟩
          have s12 := s1.trans s2
          refine ⟨_, rfl, l, rfl, ⟨_, SqT.of (s12 _ _ hl)⟩, for_tup (K := K) (a := l) (xs := items) (fun i σ H' => ∃ o2, σ = [some (.str a), some (.ref l), o2, none] ∧ Same H H' ∧ ∀ (j : Nat) (u : V), j < i → items[j]? = some u → rowV a u = true)
            ⟨none, rfl, s12, fun j u z => by omega⟩ (fun i σ H' _ ⟨_, _, sm, _⟩ => SqT.of (sm _ _ hl)) ?_ ?_⟩
          · rintro i z σ H3 hz ⟨o2, rfl, sm, good⟩
            refine ⟨_, rfl, _, rfl, a, z, rfl, (kn z (List.mem_of_getElem? hz)).mono sm, fun H4 s4 => ⟨_, rfl, ?_⟩⟩
            cases er : rowV a z with
            | false =>
              refine iteT ⟨_, rfl, z, rfl, fun d hd => ?_⟩
              rcases od with ⟨i0, z0, h1, h2, h3, hb⟩ | ⟨rs, rfl, h1, _⟩
              · have ei : i = i0 := by
                  rcases Nat.lt_trichotomy i i0 with c | c | c
                  · rw [h3 i z c hz] at er
                    cases er
                  · exact c
                  · rw [good i0 z0 c h1] at h2
                    cases h2
                subst ei
                obtain rfl : z = z0 := Option.some.inj (hz.symm.trans h1)
                exact hb d _ ((sm.trans s4).trans (same_new hd)) upd_same
              · obtain ⟨r, hr1, rfl⟩ := get_str hz
                have c : rowB a r = false := er
                rw [h1 r (List.mem_of_getElem? hr1)] at c
                cases c
            | true =>
              refine iteF ⟨_, rfl, sm.trans s4, fun j u hj hu => ?_⟩
              rcases Nat.lt_or_ge j i with c | c
              · exact good j u c hu
              · obtain rfl : j = i := by omega
                obtain rfl : u = z := Option.some.inj (hu.symm.trans hz)
                exact er
          · rintro σ H3 ⟨o2, rfl, sm, good⟩
            rcases od with ⟨i0, z0, h1, h2, h3, hb⟩ | ⟨rs, rfl, h1, hn, q⟩
            · rw [good i0 z0 (List.getElem?_eq_some_iff.mp h1).1 h1] at h2
              cases h2
            · refine ⟨_, rfl, l, rs, rfl, .inr (SqT.of (sm _ _ hl)), hn, fun p1 n1 => ⟨p1, rs, rfl, upd_same, fun ss p2 pw hm hz n2 => ?_⟩⟩
              refine ⟨_, rfl, p2, ss, rfl, SqL.of upd_same, (fun r hr => Nat.le_trans (rowB_len (h1 r ((hm r).mp hr))) (by decide)), fun p3 n3 => ⟨p3, _, rfl, .inl ⟨SqL.of upd_same, fun p4 n4 => ?_⟩⟩⟩
              exact q p4 _ ((((sm.trans (same_new n1)).trans (same_new n2)).trans (same_new n3)).trans (same_new n4)) ((((sm.trans (same_new n1)).trans (same_new n2)).trans (same_new n3)).free n4) (by rw [upd_same, byLen_is pw hm])
    · refine ⟨_, (pss_cons (ps_if (pt_not (pt_val (pe_call GAsks (hr.mono (by decide)) rfl T.mis_asks kAsks bAsks .nil pass0 (pa_cons (pv 0) pa_nil)))) (pss_one (ps_raiseTh rfl LA hr (takes_of rfl rfl rfl rfl) (pa_cons (pv 0) pa_nil))) pss_nil)
  (pss_cons (ps_if (pt_not (pt_val (pe_call GTup (hr.mono (by decide)) rfl T.mis_tuple kTup bTup .nil pass0 (pa_cons (pv 1) pa_nil)))) (pss_one (ps_raiseTh rfl LR hr (takes_of rfl rfl rfl rfl) (pa_cons (pv 1) pa_nil))) pss_nil)
  (pss_cons (ps_for (passes_of rfl) rfl (pi_list (pv 1)) (pg_name (i := 2) nd rfl (by first | exact Or.inl rfl | exact Or.inr rfl)) (pss_one (ps_if (pt_not (pt_val (pe_call GRowOf (hr.mono (by decide)) rfl T.mis_row_of kRowOf bRowOf .nil pass0 (pa_cons (pv 0) (pa_cons (pv 2) pa_nil))))) (pss_one (ps_raiseTh rfl LR hr (takes_of rfl rfl rfl rfl) (pa_cons (pv 2) pa_nil))) pss_nil)))
  (pss_cons (ps_set (i := 3) nd rfl (by first | exact Or.inl rfl | exact Or.inr rfl) (pe_callB (cr_sortedSetS rfl hr.units) (by rfl) T.nsorted (by decide +kernel) (pa_cons (pe_callTy (cr_setOfS rfl) (by rfl) T.nset (by decide +kernel) (pa_cons (pv 1) pa_nil)) pa_nil)))
  (pss_one (ps_ret (pe_callTy call_tuple_of (by rfl) T.ntuple (by decide +kernel) (pa_cons (pe_sortedLen (pv 3) hr.units (by rfl) T.nsorted (by rfl) T.nlen) pa_nil)))))))), ?_⟩
      refine ⟨_, rfl, x, rfl, kx, fun H1 s1 => ⟨_, rfl, ?_⟩⟩
      cases e : asksV x with
      | false => exact iteT ⟨_, rfl, x, rfl, fun d hd => no e d _ (s1.trans (same_new hd)) upd_same⟩
      | true =>
        obtain ⟨a, rfl, od⟩ := yes e
        refine iteF ?_
        rcases od with ⟨t, ty, hk, hb⟩ | ⟨l, items, rfl, hl2, kn, od⟩
        · exact ⟨_, rfl, _, t, _, rfl, TyX.mono s1 ty, hk, fun H2 s2 => ⟨_, rfl, iteT ⟨_, rfl, _, rfl, fun d hd => hb d _ ((s1.trans s2).trans (same_new hd)) upd_same⟩⟩⟩
        · have hl : H l = some (.lst items) := by
            rcases hl2 with z | z
            · exact z
            · exact absurd ⟨l, items, rfl, z⟩ tup
          refine ⟨_, rfl, _, _, true, rfl, .base (.lst (s1 _ _ hl)), kitAny_cons (b := true) (kit_ty (by decide +kernel)) (fun z => nomatch z) (fun _ => rfl), fun H2 s2 => ⟨_, rfl, iteF ?_⟩⟩
          have s12 := s1.trans s2
          refine ⟨_, rfl, l, rfl, ⟨_, SqL.of (s12 _ _ hl)⟩, for_list (K := K) (a := l) (xs := items) (fun i σ H' => ∃ o2, σ = [some (.str a), some (.ref l), o2, none] ∧ Same H H' ∧ ∀ (j : Nat) (u : V), j < i → items[j]? = some u → rowV a u = true)
            ⟨none, rfl, s12, fun j u z => by omega⟩ (fun i σ H' _ ⟨_, _, sm, _⟩ => SqL.of (sm _ _ hl)) ?_ ?_⟩
          · rintro i z σ H3 hz ⟨o2, rfl, sm, good⟩
            refine ⟨_, rfl, _, rfl, a, z, rfl, (kn z (List.mem_of_getElem? hz)).mono sm, fun H4 s4 => ⟨_, rfl, ?_⟩⟩
            cases er : rowV a z with
            | false =>
              refine iteT ⟨_, rfl, z, rfl, fun d hd => ?_⟩
              rcases od with ⟨i0, z0, h1, h2, h3, hb⟩ | ⟨rs, rfl, h1, _⟩
              · have ei : i = i0 := by
                  rcases Nat.lt_trichotomy i i0 with c | c | c
                  · rw [h3 i z c hz] at er
                    cases er
                  · exact c
                  · rw [good i0 z0 c h1] at h2
                    cases h2
                subst ei
                obtain rfl : z = z0 := Option.some.inj (hz.symm.trans h1)
                exact hb d _ ((sm.trans s4).trans (same_new hd)) upd_same
              · obtain ⟨r, hr1, rfl⟩ := get_str hz
                have c : rowB a r = false := er
                rw [h1 r (List.mem_of_getElem? hr1)] at c
                cases c
            | true =>
              refine iteF ⟨_, rfl, sm.trans s4, fun j u hj hu => ?_⟩
              rcases Nat.lt_or_ge j i with c | c
              · exact good j u c hu
              · obtain rfl : j = i := by omega
                obtain rfl : u = z := Option.some.inj (hu.symm.trans hz)
                exact er
          · rintro σ H3 ⟨o2, rfl, sm, good⟩
            rcases od with ⟨i0, z0, h1, h2, h3, hb⟩ | ⟨rs, rfl, h1, hn, q⟩
            · rw [good i0 z0 (List.getElem?_eq_some_iff.mp h1).1 h1] at h2
              cases h2
            · refine ⟨_, rfl, l, rs, rfl, .inl (SqL.of (sm _ _ hl)), hn, fun p1 n1 => ⟨p1, rs, rfl, upd_same, fun ss p2 pw hm hz n2 => ?_⟩⟩
              refine ⟨_, rfl, p2, ss, rfl, SqL.of upd_same, (fun r hr => Nat.le_trans (rowB_len (h1 r ((hm r).mp hr))) (by decide)), fun p3 n3 => ⟨p3, _, rfl, .inl ⟨SqL.of upd_same, fun p4 n4 => ?_⟩⟩⟩
              exact q p4 _ ((((sm.trans (same_new n1)).trans (same_new n2)).trans (same_new n3)).trans (same_new n4)) ((((sm.trans (same_new n1)).trans (same_new n2)).trans (same_new n3)).free n4) (by rw [upd_same, byLen_is pw hm])
end
end Aw
/-! ## repr, told against the guards that are under way -/
namespace Aw
open PySem PySem.Spec PyProof.Rows L2
def onL (a : Addr) : Code × Pos → Bool := fun
  | (.builtin "list.__repr__.loop" ⟨v :: _, _⟩, _) => Builtin.List.listSameRef v (.ref a)
  | _ => false
theorem onL_pos (a : Addr) (c : Code) (p : Pos) : onL a (c, p) = onL a (c, default) := by
  unfold onL
  split
  · next heq => cases heq; rfl
  · next h =>
    split
    · next heq => cases heq; exact absurd rfl (h _ _ _ _)
    · rfl
theorem onL_off (a : Addr) (c : Code) (p : Pos) (hc : c.isGuard = false) : onL a (c, p) = false := by
  unfold onL
  split
  · next heq => cases heq; simp [Code.isGuard, guardIds] at hc
  · rfl
def runs (f : Code × Pos → Bool) (g : List Code) : Bool := g.any fun c => f (c, default)
theorem runs_no {f : Code × Pos → Bool} {g : List Code} (h : runs f g = false) : ∀ c ∈ g, f (c, default) = false := fun c hc => by
  have z := List.any_eq_false.mp h c hc
  simpa using z
section
variable {prog : Program} {w : World} {A : Around} {E : Value → Shared → Prop} {s : Shared} {a : Addr} {o : Obj} {g : List Code}
theorem rep_list_on {x : Value} {l : List Value} {n : Nat} {Q : Value → Shared → Prop} (hg : A.guards = some g) (hr : runs (onL a) g = true) (ha : s.heap.get? a = some o) (hc : o.cls = .type "list") (hd : o.data = .seq (x :: l).toArray n)
    (hQ : Q (.str "[...]" s.toks) { s with toks := s.toks + 1 }) : wpAny (model prog w) A (call (.builtin "list.__repr__") [.ref a]) Q E s := by
  refine wpAny_call (codeAny_call_builtin_own (Code.quiet_builtin _ (by decide +kernel)) F.entry_list_repr (F.slot_list_repr.check _ _ _ _ _ _ _ _ ⟨o, ha, hc⟩ (F.args_list_repr_1 _) ?_))
  show wpOwn _ _ _ (Builtin.listReprAt 0 ⟨[.ref a], []⟩) _ _ s
  intro Γ p hcd hΓ
  unfold Builtin.listReprAt
  simp [slotArgs, Builtin.List.listItems, seqItems?, Sem.wp_load_of (h := ha), hd, stack]
  show Sem.wp _ Γ (if (Γ.below.any (onL a)) = true then _ else _) _ _ p s
  have e : Γ.below.any (onL a) = true := by
    rw [any_eq_guards (onL_off a) (onL_pos a), hΓ.2.2.2.1 g hg]
    exact hr
  rw [if_pos e]
  simp [rule, retStr, ret]
  exact hQ
theorem rep_tup_on {items : Array Value} {n : Nat} {Q : Value → Shared → Prop} (hg : A.guards = some g) (hr : runs (tupGuardF (.ref a)) g = true) (ha : s.heap.get? a = some o) (hc : o.cls = .type "tuple") (hd : o.data = .seq items n)
    (hQ : Q (.str "(...)" s.toks) { s with toks := s.toks + 1 }) : wpAny (model prog w) A (call (.builtin "tuple.__repr__") [.ref a]) Q E s := by
  refine wpAny_call (codeAny_call_builtin_own (Code.quiet_builtin _ (by decide +kernel)) F.entry_tuple_repr (F.slot_tuple_repr.check _ _ _ _ _ _ _ _ ⟨o, ha, hc⟩ (F.args_tuple_repr_1 _) ?_))
  show wpOwn _ _ _ (Builtin.tupleReprAt 0 ⟨[.ref a], []⟩) _ _ s
  rw [tuple_repr_tree, tupleReprUnderWay_eq]
  refine wpOwn_bind (wpOwn_stackTailAny hg (tupGuardF_off _) (tupGuardF_pos _) ?_)
  refine wpOwn_of_wpAny ?_
  refine PySem.W.KFB.if_so hr ?_
  refine wpAny_bind (wpAny_rule ?_)
  exact wpAny_bind (wpAny_mkStr (wpAny_pure hQ) (by decide +kernel))
/-- {} -/
theorem rep_dict {n : Nat} {Q : Value → Shared → Prop} (hg : A.guards = some g) (ha : s.heap.get? a = some o) (hc : o.cls = .type "dict") (hd : o.data = .dict #[] n) (hsys : (a == sysModules) = false)
    (hQ : Q (.str (if runs (dictGuardF (.ref a)) g then "{...}" else "{}") s.toks) { s with toks := s.toks + 1 }) : wpAny (model prog w) A (call (.builtin "dict.__repr__") [.ref a]) Q E s := by
  refine wpAny_call (codeAny_call_builtin_own (Code.quiet_builtin _ (by decide +kernel)) F.entry_dict_repr (F.slot_dict_repr.check _ _ _ _ _ _ _ _ ⟨o, ha, hc⟩ (F.args_dict_repr_1 _) ?_))
  show wpOwn _ _ _ (Builtin.dictReprAt 0 ⟨[.ref a], []⟩) _ _ s
  unfold Builtin.dictReprAt
  refine wpOwn_bind (wpOwn_of_wpAny ?_)
  unfold Builtin.Dict.dictSlotNone
  refine wpAny_bind (wpAny_notOrdered_dict ⟨o, ha, hc⟩ ?_)
  show wpAny _ _ (pure (Value.ref a)) _ _ s
  refine wpAny_pure ?_
  rw [dictReprRunning_eq]
  refine wpOwn_bind (wpOwn_stackTailAny hg (dictGuardF_off _) (dictGuardF_pos _) ?_)
  refine wpOwn_of_wpAny ?_
  show wpAny _ _ (if runs (dictGuardF (.ref a)) g = true then _ else _) _ _ s
  cases hr : runs (dictGuardF (.ref a)) g with
  | true =>
    rw [hr] at hQ
    rw [if_pos rfl]
    refine wpAny_bind (wpAny_rule ?_)
    exact wpAny_bind (wpAny_mkStr (wpAny_pure hQ) (by decide +kernel))
  | false =>
    rw [hr] at hQ
    rw [if_neg Bool.false_ne_true]
    show wpAny _ _ (Builtin.Dict.addrOf (.ref a) >>= _) _ _ s
    refine wpAny_bind (wpAny_pure ?_)
    show wpAny _ _ (Builtin.Dict.showsAll a >>= _) _ _ s
    unfold Builtin.Dict.showsAll
    rw [if_neg (by rw [hsys]; exact Bool.false_ne_true)]
    refine wpAny_bind (wpAny_pure ?_)
    refine wpAny_bind (wpAny_dictEpoch ha hd ?_)
    refine wpAny_bind (wpAny_dictEntries ha hd ?_)
    refine wpAny_bind ?_
    rw [Std.Legacy.Range.forIn_eq_forIn_range']
    refine wpAny_pure ?_
    exact wpAny_bind (wpAny_mkStr (wpAny_pure hQ) (by decide +kernel))
end
/-- what repr tells of x, by the guards -/
inductive RepIs : Hp → V → (List Code → Str) → Prop
  | str {H : Hp} {z : Str} (h : (reprText z).length ≤ sizeLine) : RepIs H (.str z) fun _ => reprText z
  | int {H : Hp} {i : Int} (h : i.natAbs.log2 < 1920) : RepIs H (.int i) fun _ => toString i
  | bl {H : Hp} {b : Bool} : RepIs H (.bl b) fun _ => if b then "True" else "False"
  | non {H : Hp} : RepIs H .non fun _ => "None"
  | lst {H : Hp} {a : Addr} {z : Str} (h : H a = some (.lst [.str z])) (hz : (listText [reprText z]).length ≤ sizeLine) (hz2 : (reprText z).length ≤ sizeLine) : RepIs H (.ref a) fun g => if runs (onL a) g then "[...]" else listText [reprText z]
  | tup {H : Hp} {a : Addr} (h : H a = some (.tup [])) : RepIs H (.ref a) fun g => if runs (tupGuardF (.ref a)) g then "(...)" else tupleText []
  | dct {H : Hp} {a : Addr} (h : H a = some (.dK [])) : RepIs H (.ref a) fun g => if runs (dictGuardF (.ref a)) g then "{...}" else "{}"
theorem RepIs.mono {H H' : Hp} {x : V} {f : List Code → Str} (e : Same H H') (h : RepIs H x f) : RepIs H' x f := by
  cases h with
  | str h => exact .str h
  | int h => exact .int h
  | bl => exact .bl
  | non => exact .non
  | lst h h1 h2 => exact .lst (e _ _ h) h1 h2
  | tup h => exact .tup (e _ _ h)
  | dct h => exact .dct (e _ _ h)
def rRep (g : List Code) : List V → Hp → VK → Prop := fun xs H Q => ∃ (x : V) (f : List Code → Str), xs = [x] ∧ RepIs H x f ∧ Q (.str (f g)) H
theorem call_rep {X : Cx} {g : List Code} (hg : X.A.guards = some g) (hu : X.A.units + 64 < cLine) : CallR X (.builtin "repr") (rRep g) := by
  intro pins s σ H xs us Q I r h
  obtain ⟨x, f, rfl, ri, q⟩ := h
  obtain ⟨u, rfl, t⟩ := vals1 r
  cases ri with
  | str hz =>
    obtain ⟨t, rfl⟩ := t
    exact PySem.P.repr_of_str ⟨.str _, H, I.tok _, ⟨_, rfl⟩, q⟩ hz
  | int hz =>
    obtain ⟨t, rfl⟩ := t
    exact PySem.P.repr_of_int hz ⟨.str _, H, I.tok _, ⟨_, rfl⟩, q⟩
  | bl =>
    cases t
    exact PySem.P.repr_of_bool ⟨.str _, H, I.tok _, ⟨_, rfl⟩, q⟩
  | non =>
    cases t
    exact PySem.P.repr_of_none ⟨.str _, H, I.tok _, ⟨_, rfl⟩, q⟩
  | lst e hz hz2 =>
    rename_i a z
    cases t
    replace q : Q (.str (if runs (onL a) g then "[...]" else listText [reprText z])) H := q
    obtain ⟨its, r', pl, _⟩ := I.list (SqL.of e)
    obtain ⟨v, rfl, t, rfl⟩ := vals1 r'
    obtain ⟨o, ho, hc, n, hd⟩ := pl.isList
    refine call_repr_slot (T := "list") (idr := "list.__repr__") (by omega) ⟨o, ho, hc⟩ F.slot_list_repr.toG ?_
    cases hr : runs (onL a) g with
    | true =>
      rw [hr] at q
      exact rep_list_on hg hr ho hc hd ⟨_, _, rfl, .str _, H, I.tok _, ⟨_, rfl⟩, q⟩
    | false =>
      rw [hr] at q
      refine call_list_repr ⟨o, ho, hc⟩ hg (fun v rest kw hm => runs_no hr _ hm) ho hd (ts := [reprText z]) (by rfl) (fun i y hy => ?_) (fun h' u tk hk => ⟨_, _, rfl, .str _, H, I.kept (t' := tk) hk, ⟨_, rfl⟩, q⟩) hz
      cases i with
      | zero =>
        obtain rfl : Value.str z t = y := Option.some.inj hy
        exact ⟨_, rfl, ReprIs.str z t hz2⟩
      | succ i => simp at hy
  | tup e =>
    rename_i a
    cases t
    replace q : Q (.str (if runs (tupGuardF (.ref a)) g then "(...)" else tupleText [])) H := q
    obtain ⟨its, r', ⟨o, ho, hc, n, hd⟩, _⟩ := I.tuple (SqT.of e)
    cases r'
    refine call_repr_slot (T := "tuple") (idr := "tuple.__repr__") (by omega) ⟨o, ho, hc⟩ F.slot_tuple_repr ?_
    cases hr : runs (tupGuardF (.ref a)) g with
    | true =>
      rw [hr] at q
      exact rep_tup_on hg hr ho hc hd ⟨_, _, rfl, .str _, H, I.tok _, ⟨_, rfl⟩, q⟩
    | false =>
      rw [hr] at q
      exact call_tuple_repr ⟨o, ho, hc⟩ hg (runs_no hr) ho hd (ts := []) .nil (fun u tk => ⟨_, _, rfl, .str _, H, I.tok _, ⟨_, rfl⟩, q⟩) (by decide +kernel)
  | dct e =>
    rename_i a
    cases t
    obtain ⟨_, hsys, vs, kv, o, es, ep, ho, hx, hd, _, hp, _⟩ := dk_of I.hok e
    cases kv
    obtain ⟨es⟩ := es
    cases hp
    refine call_repr_slot (T := "dict") (idr := "dict.__repr__") (by omega) ⟨o, ho, hx.1⟩ F.slot_dict_repr ?_
    refine rep_dict hg ho hx.1 hd hsys ⟨_, _, rfl, .str _, H, I.tok _, ⟨_, rfl⟩, q⟩

/-! ## a def's promise where the guards are known -/
structure FnG (P : Program) (w : World) (K : PySem.W.Frag) (mg : Str → Option Value) (base : Heap) (k : Nat) (f : Addr) (fd : FuncData) (ps : List Str) (sp : Sp) (g : List Code) : Prop where
  len : ∀ vs H Q E, sp vs H Q E → vs.length = ps.length
  run : ∀ (A : Around) (outer : List Env) (s : Shared) (H : Hp) (args : Args) (us : List Value) (vs : List V) (Q : VK) (E : XK), A.guards = some g → Room k A → Env0 P w K mg base A outer s H → BindsTo s fd args (ps.zip us) → Vals vs us → sp vs H Q E →
    codeAny (model P w) A (.call (.ref f) args) (CR CX0 outer P w H s Q E) s
section
variable {P : Program} {w : World} {K : PySem.W.Frag} {mg : Str → Option Value} {base : Heap}
/-- whatever the guards are, they are some -/
theorem FnG.all {k : Nat} {f : Addr} {fd : FuncData} {ps : List Str} {sp : Sp} (h : ∀ g, FnG P w K mg base k f fd ps sp g) : FnOk P w K mg base CX0 k f fd ps sp := by
  refine ⟨(h []).len, fun A outer s H args us vs Q E hr e0 hb hv hs => fun Γ p hc hΓ => ?_⟩
  refine (h (guardsOf Γ.below)).run { A with guards := some (guardsOf Γ.below) } outer s H args us vs Q E rfl ⟨hr.hd, hr.dp, hr.un⟩ ⟨e0.frames, e0.mod, e0.bs, e0.bsz, e0.funs, e0.frf, e0.hok, e0.bare⟩ hb hv hs Γ p hc ?_
  exact ⟨hΓ.1, hΓ.2.1, hΓ.2.2.1, fun g hg => Option.some.inj hg, hΓ.2.2.2.2⟩
theorem okG {x qual : Str} {st : Stmt} {f : Addr} {fd : FuncData} {N ps : List Str} {k : Nat} {sp : Sp} {g : List Code} (F : Fun K x qual st f fd) (S : FnScope N ps (defScope st)) (len : ∀ vs H Q E, sp vs H Q E → vs.length = ps.length)
    (hbody : ∀ (cdv : Value) (A : Around) (outer : List Env) (s : Shared) (H : Hp) (vs : List V) (Q : VK) (E : XK), A.guards = some g → Room k (A.deeper (envOfC qual (defScope st) s.heap.objs.size f cdv)) → sp vs H Q E →
      ∃ t, PSs (cxOf CX0 P w K mg base N qual (defScope st) f cdv A outer s H E).nox (defBody st) t ∧ t { nx := fun _ H' => Q .non H', rt := Q } (start N vs) H) : FnG P w K mg base (k + 1) f fd ps sp g := by
  obtain ⟨oc, od, kV, doc, pm, an, cdv, ct, osl, rfl, lk, hcd⟩ := F.ex
  refine ⟨len, fun A outer s H args us vs Q E hg hr e0 hb r hsp => ?_⟩
  have kb : ∀ b o, base.get? b = some o → s.heap.get? b = some o := fun b o e => (e0.bs b o e).1
  refine Att.call_fn (e0.mod.kin.keeps kb) (e0.mod.nolimit.keeps kb) lk hcd hr.depth hb ?_ (fun s1 x => ?_) S.co S.gen S.kind
  · refine List.all_eq_true.mpr fun ⟨n, v⟩ hy => ?_
    rcases S.par n (List.of_mem_zip hy).1 with q | q <;> rw [q] <;> rfl
  · obtain ⟨t, ht, hq⟩ := hbody cdv A outer s H vs Q E hg (hr.deeper _) hsp
    refine wpAny_mono (ht.nox.run [] s1 _ H _ (inv_start S hr.hd e0 (len _ _ _ _ hsp) r x) hq) (fun fl s' hs => ?_) fun e s' hs => hs
    cases fl with
    | ret u =>
      obtain ⟨v, σ', H', J, rv, q⟩ := hs
      exact ⟨v, H', J.os, J.bare, J.base, J.hok, rv, q⟩
    | next =>
      obtain ⟨σ', H', J, q⟩ := hs
      exact ⟨.non, H', J.os, J.bare, J.base, J.hok, rfl, q⟩
    | brk =>
      obtain ⟨_, _, _, q⟩ := hs
      exact q.elim
    | cont =>
      obtain ⟨_, _, _, q⟩ := hs
      exact q.elim
end
section
variable {X : Cx} {k : Nat} {f : Addr} {fd : FuncData} {ps : List Str} {sp : Sp} {x : Str} {p pos : Pos} {e : Expr} {es : List Expr} {t : TA} {g : List Code}
theorem pe_callG (F : FnG X.prog X.w X.K X.mg X.base k f fd ps sp g) (hgd : X.A.guards = some g) (hr : Room k X.A) (hg : Gl X x) (hm : X.mg x = some (.ref f)) (hk : PySem.W.keepIn X.K (.ref f) = true) (hb : Binds X.K fd ps [])
    (ha : PA X (e :: es) t) (hdb : (x == ("__debug__" : Str)) = false := by decide) (he : starEach (e :: es) X.env = (false, eval e X.env) :: starEach es X.env := by rfl) (hpl : (backTo pos (starEach es X.env)).any (·.1) = false := by rfl) :
    PE X (.Call (.Name x p) (e :: es) [] pos) (tCall sp [] E0 t) := by
  refine ⟨fun pins s σ H Q I h => ?_⟩
  refine wpAny_Call_Name_kw (ld_glob I hg hm ?_ hdb)
  refine PySem.W.callWith_K (h₀ := X.base) I.ok.mod.kin hk (thn (ha.run pos pins s σ H _ I h) fun us s1 ⟨vs, H1, I1, r, q⟩ => ⟨I1.kIn, ?_⟩) he hpl
  have q' : sp vs H1 Q E0 := by
    rw [← List.append_nil vs]
    exact q
  refine wpAny_call (codeAny_mono (F.run X.A X.stack s1 H1 ⟨us, []⟩ us vs Q E0 hgd hr I1.env0 ?_ r q') fun z s' hq => ?_)
  · have b := hb s1 us I1.kIn (by rw [List.append_nil, ← r.length]; exact F.len _ _ _ _ q')
    rw [List.append_nil] at b
    exact b
  · cases z with
    | error e => exact hq.elim
    | ok fl =>
      cases fl with
      | ret u => exact I1.after hq
      | next => exact hq.elim
      | brk => exact hq.elim
      | cont => exact hq.elim
end
end Aw
namespace Aw
open PySem PySem.Spec PyProof.Rows L2
/-- what the written part says of the errors' classes -/
structure Ex (K : PySem.W.Frag) (mg : Str → Option Value) (A : Ad) : Prop where
  LA : PySem.LowX.LowTxt K mg "BadAsks" A.cAsks A.fInit
  LR : PySem.LowX.LowTxt K mg "BadRow" A.cRow A.fInit
  eA : ExcC K A.cAsks
  eR : ExcC K A.cRow
  kAW : PySem.W.kitOne K (.ref A.cAsks) (.ref A.cWrong) = some true
  kAR : PySem.W.kitOne K (.ref A.cAsks) (.ref A.cRow) = some false
  kRR : PySem.W.kitOne K (.ref A.cRow) (.ref A.cRow) = some true
  kRW : PySem.W.kitOne K (.ref A.cRow) (.ref A.cWrong) = some true
  kRV : PySem.W.kitOne K (.ref A.cRow) (.type "ValueError") = some true
  xAA : PySem.W.exmOne K (.ref A.cAsks) (.ref A.cAsks) = some true
  xRA : PySem.W.exmOne K (.ref A.cRow) (.ref A.cAsks) = some false
  xRF : PySem.W.exmOne K (.ref A.cRow) (.ref A.cAfter) = some true
section
variable {P : Program} {w : World} {K : PySem.W.Frag} {mg : Str → Option Value} {base : Heap} {A : Ad}
abbrev N__law_error : List Str := ["_law_asks_here", "_law_rows", "error"]
theorem sc__law_error : FnScope N__law_error ["_law_asks_here", "_law_rows"] (defScope s__law_error) := ⟨rfl, rfl, rfl, by decide +kernel, rfl, by decide +kernel, by decide +kernel⟩
/-- the pair that is told -/
def Tells (tag t : Str) (H : Hp) (Q : VK) : Prop := ∀ (p : Addr) (H' : Hp), Same H H' → H p = none → H' p = some (.tup [.str tag, .str t]) → Q (.ref p) H'
def spErr (K : PySem.W.Frag) (g : List Code) : Sp := fun vs H Q _ => ∃ (x y : V) (f : List Code → Str), vs = [x, y] ∧ Known K H x ∧
  ((asksV x = false ∧ RepIs H x f ∧ Tells "asks" (f g) H Q) ∨
    ∃ a, x = .str a ∧ asksV x = true ∧ Tells "row" (f g) H Q ∧
      ((∃ t, TyX K H y t ∧ PySem.W.kitAny K t [.type "list", .type "tuple"] = some false ∧ RepIs H y f) ∨
        ∃ l items i z, y = .ref l ∧ H l = some (.lst items) ∧ (∀ u ∈ items, Known K H u) ∧ items[i]? = some z ∧ rowV a z = false ∧ (∀ (j : Nat) (u : V), j < i → items[j]? = some u → rowV a u = true) ∧ RepIs H z f))
theorem ok_err {fd : FuncData} {g : List Code} (F : Fun K "_law_error" "_law_error" s__law_error A.fErr fd) (T : Tx K mg A) (X : Ex K mg A) (KOrd : Kp P w K mg base (L2.CX P w) 3 A.fOrd ["asks", "rows"] (spOrd K A)) :
    FnG P w K mg base 4 A.fErr fd ["_law_asks_here", "_law_rows"] (spErr K g) g := by
  obtain ⟨fdO, GOrd, bOrd, kOrd⟩ := KOrd
  have LA := X.LA
  have LR := X.LR
  have nd := sc__law_error.nd
  refine okG F sc__law_error (fun vs H Q E h => ?_) (fun cdv A' outer s H vs Q E hgd hr h => ?_)
  · obtain ⟨x, y, f, rfl, _⟩ := h
    rfl
  · obtain ⟨x, y, f, rfl, kx, h⟩ := h
    refine ⟨_, (pss_cons (ps_try_clauses (i := 2) rfl rfl nd rfl rfl takes0 (fun W pn xe tk _ => (pss_one (ps_expr (pe_callS GOrd (hr.mono (by decide)) rfl T.mordered kOrd bOrd (fun σ => passAt tk σ) (pa_cons (pv 0) (pa_cons (pv 1) pa_nil))))))
 (.cons ⟨rfl, by decide, Or.inl T.mBadAsks⟩ (fun a oe cls d pn hz hf => (pss_cons (ps_if (PW.pt (pw_or (pt_not (pt_val (pe_callB (call_isT hz hf) (by rfl) T.nisinstance (by decide +kernel) (pa_cons (pv 2) (pa_cons (pe_glob (v := .ref A.cWrong) rfl T.mWrongThing rfl) pa_nil))))) (pw_or1 (pt_val (pe_callB (call_isT hz hf) (by rfl) T.nisinstance (by decide +kernel) (pa_cons (pv 2) (pa_cons (pe_glob (v := .ref A.cRow) rfl T.mBadRow rfl) pa_nil))))))) (pss_one (ps_ret (pe_tup (pa_cons pe_str pa_nil)))) pss_nil)
  (pss_one (ps_ret (pe_tup (pa_cons pe_str (pa_cons (pe_callB (call_rep hgd hr.units) (by rfl) T.nrepr (by decide +kernel) (pa_cons (pe_thing LA hz hf (pv 2)) pa_nil)) pa_nil)))))))
 (.cons ⟨rfl, by decide, Or.inl T.mAfterError⟩ (fun a oe cls d pn hz hf => (pss_cons (ps_if (PW.pt (pw_or (pt_not (pt_val (pe_callB (call_isT hz hf) (by rfl) T.nisinstance (by decide +kernel) (pa_cons (pv 2) (pa_cons (pe_glob (v := .ref A.cRow) rfl T.mBadRow rfl) pa_nil))))) (pw_or (pt_not (pt_val (pe_callB (call_isT hz hf) (by rfl) T.nisinstance (by decide +kernel) (pa_cons (pv 2) (pa_cons (pe_glob (v := .ref A.cWrong) rfl T.mWrongThing rfl) pa_nil))))) (pw_or1 (pt_not (pt_val (pe_callB (call_isT hz hf) (by rfl) T.nisinstance (by decide +kernel) (pa_cons (pv 2) (pa_cons (pe_bltn (v := .ty "ValueError") (by rfl) T.nValueError (by decide +kernel) rfl) pa_nil))))))))) (pss_one (ps_ret (pe_tup (pa_cons pe_str pa_nil)))) pss_nil)
  (pss_one (ps_ret (pe_tup (pa_cons pe_str (pa_cons (pe_callB (call_rep hgd hr.units) (by rfl) T.nrepr (by decide +kernel) (pa_cons (pe_thing LR hz hf (pv 2)) pa_nil)) pa_nil)))))))
 .nil)))
  (pss_one (ps_ret (pe_tup (pa_cons pe_str pa_nil))))), ?_⟩
    -- a suite's end: the pair with the error's thing told
    refine ⟨_, rfl, _, rfl, x, y, rfl, kx, ?_, ?_⟩
    · intro no d H1 s1 h1
      refine ⟨true, X.xAA, fun _ a0 _ => ?_, fun z => nomatch z⟩
      refine ⟨_, rfl, A.cAsks, d, _, _, _, true, rfl, rfl, h1, X.eA, rfl, fun u z => z, X.kAW, _, rfl, iteF ?_⟩
      refine ⟨_, rfl, A.cAsks, d, _, _, _, false, rfl, rfl, h1, X.eA, rfl, fun u z => z, X.kAR, _, rfl, iteF ?_⟩
      rcases h with ⟨_, rp, q⟩ | ⟨a, rfl, yes, _⟩
      · refine ⟨_, rfl, rfl, rfl, d, x, rfl, h1, x, f, rfl, rp.mono s1, (by show 2 ≤ sizeLine; decide), fun p hp => ?_⟩
        exact q p _ (s1.trans (same_new hp)) (s1.free hp) upd_same
      · rw [no] at yes
        cases yes
    · intro yes
      rcases h with ⟨no, _⟩ | ⟨a, rfl, _, q, h⟩
      · rw [no] at yes
        cases yes
      · obtain ⟨z, rp, sh⟩ : ∃ z, RepIs H z f ∧ ∀ (Q1 : VK) (E1 : XK), Bears A.cRow z H E1 → ((∃ t, TyX K H y t ∧ PySem.W.kitAny K t [.type "list", .type "tuple"] = some false ∧ Bears A.cRow y H E1) ∨
            ∃ l items, y = .ref l ∧ (H l = some (.lst items) ∨ H l = some (.tup items)) ∧ OrdIn K A a items H Q1 E1) := by
          rcases h with ⟨t, ty, hk, rp⟩ | ⟨l, items, i, z, rfl, hl, kn, hz, bad, good, rp⟩
          · exact ⟨y, rp, fun Q1 E1 b => .inl ⟨t, ty, hk, b⟩⟩
          · exact ⟨z, rp, fun Q1 E1 b => .inr ⟨l, items, rfl, .inl hl, kn, .inl ⟨i, z, hz, bad, good, b⟩⟩⟩
        refine ⟨a, rfl, sh _ _ ?_⟩
        intro d H1 s1 h1
        refine ⟨false, X.xRA, fun z => (nomatch z), fun _ => ⟨true, X.xRF, fun _ a0 _ => ?_, fun z => nomatch z⟩⟩
        refine ⟨_, rfl, A.cRow, d, _, _, _, true, rfl, rfl, h1, X.eR, rfl, fun u z => z, X.kRR, _, rfl, iteF ?_⟩
        refine ⟨_, rfl, A.cRow, d, _, _, _, true, rfl, rfl, h1, X.eR, rfl, fun u z => z, X.kRW, _, rfl, iteF ?_⟩
        refine ⟨_, rfl, A.cRow, d, _, _, _, true, rfl, rfl, h1, X.eR, rfl, fun u z => z, X.kRV, _, rfl, iteF ?_⟩
        refine ⟨_, rfl, rfl, rfl, d, z, rfl, h1, z, f, rfl, rp.mono s1, (by show 2 ≤ sizeLine; decide), fun p hp => ?_⟩
        exact q p _ (s1.trans (same_new hp)) (s1.free hp) upd_same
end
end Aw
namespace Aw
open PySem PySem.Spec PyProof.Rows L2 Builtin.Str PyData
/-! ## texts: n times, the first n signs -/
theorem fold_cat (l : List (Array Nat)) : ∀ a : Array Nat, (l.foldl (· ++ ·) a).toList = a.toList ++ (l.map Array.toList).flatten := by
  induction l with
  | nil => intro a; simp
  | cons b r ih =>
    intro a
    rw [List.foldl_cons, ih, Array.toList_append, List.map_cons, List.flatten_cons, List.append_assoc]
theorem mul_list {z : Str} {n : Nat} (hn : 2 ≤ n) (hz : 0 < z.length) : (Txt.mul z (n : Int)).cps.toList = (List.replicate n z.cps.toList).flatten := by
  unfold Txt.mul
  have e2 : ((n : Int) == 1 || z.length == 0) = false := by
    rw [Bool.or_eq_false_iff]
    exact ⟨beq_false_of_ne (by omega), beq_false_of_ne (by omega)⟩
  rw [if_neg (by omega), e2, if_neg Bool.false_ne_true, Int.toNat_natCast]
  show ((List.replicate n z.cps).foldl (· ++ ·) #[]).toList = _
  rw [fold_cat, List.map_replicate]
  rfl
theorem mul_len {z : Str} {n : Nat} (hn : 2 ≤ n) (hz : 0 < z.length) : (Txt.mul z (n : Int)).length = n * z.length := by
  have e : (Txt.mul z (n : Int)).cps.toList.length = n * z.cps.toList.length := by
    rw [mul_list hn hz, List.length_flatten, List.map_replicate, List.sum_replicate_nat]
  rw [Array.length_toList, Array.length_toList] at e
  exact e
theorem mul_mem {z : Str} {n c : Nat} (hn : 2 ≤ n) (hz : 0 < z.length) (h : c ∈ (Txt.mul z (n : Int)).cps.toList) : c ∈ z.cps.toList := by
  rw [mul_list hn hz] at h
  obtain ⟨l, hl, hc⟩ := List.mem_flatten.mp h
  rw [(List.mem_replicate.mp hl).2] at hc
  exact hc
theorem cutS_mem {z : Str} {lo hi : Option Int} {c : Nat} (h : c ∈ (cutS z lo hi).cps.toList) : c ∈ z.cps.toList := by
  unfold cutS at h
  exact List.mem_of_mem_drop (List.mem_of_mem_take h)
theorem cutS_len {z : Str} {n : Nat} (h : n ≤ z.length) : (cutS z none (some (n : Int))).length = n := by
  show ((z.cps.toList.drop (HT.sIx z.length 0 none)).take (HT.sIx z.length z.length (some (n : Int)) - HT.sIx z.length 0 none)).toArray.size = n
  have ez : z.cps.toList.length = z.length := Array.length_toList
  rw [HT.sIx_nat, HT.sIx_none, List.drop_zero, Nat.sub_zero, List.size_toArray, List.length_take, ez]
  omega
section
variable {X : Cx}
theorem op_mulStr : OpR X (binaryOp .Mult) (fun x y H Q => ∃ (z : Str) (n : Nat), x = .str z ∧ y = .int (n : Int) ∧ 2 ≤ n ∧ n ≤ 100000 ∧ 0 < z.length ∧ z.length ≤ 100 ∧ Q (.str (Txt.mul z (n : Int))) H) := by
  intro pins s σ H x y v u Q I rx ry h
  obtain ⟨z, n, rfl, rfl, h2, h3, h0, h1, q⟩ := h
  obtain ⟨t, rfl⟩ := rx
  obtain ⟨t', rfl⟩ := ry
  have hb : z.length * n ≤ 10000000 := Nat.le_trans (Nat.mul_le_mul h1 h3) (by decide)
  refine SB.mul ⟨?_, fun _ _ => ?_, fun _ _ => ?_⟩ fun t' k => ⟨.str _, H, I.tok _, ⟨_, rfl⟩, q⟩
  · rw [Bool.or_eq_false_iff]
    exact ⟨decide_eq_false (by omega), decide_eq_false (by omega)⟩
  · have h5 : (92233720368547 : Int) ≤ (2 ^ 63 - 1) / (n : Int) := by
      refine (Int.le_ediv_iff_mul_le (by omega)).mpr ?_
      omega
    omega
  · show decide (z.length * ((n : Int)).toNat > sizeLine) = false
    rw [Int.toNat_natCast]
    exact decide_eq_false (Nat.not_lt.mpr (Nat.le_trans hb (by decide)))
end
/-! ## the text of repr is a text -/
theorem reprChar_ok (q c : Nat) (hc : c < 1114112) : ∀ d ∈ reprChar q c, d < 1114112 := by
  have hx : ∀ (n : Nat), ∀ d ∈ List.replicate (n - ((Nat.toDigits 16 c).map Char.toNat).length) 48 ++ (Nat.toDigits 16 c).map Char.toNat, d < 1114112 := fun n d hd => by
    rcases List.mem_append.mp hd with hd | hd
    · rw [(List.mem_replicate.mp hd).2]
      decide
    · obtain ⟨e, _, rfl⟩ := List.mem_map.mp hd
      have v := e.valid
      rcases v with v | ⟨_, v⟩
      · exact Nat.lt_trans v (by decide)
      · exact v
  unfold reprChar
  dsimp only
  repeat' split
  all_goals intro d hd
  all_goals first
    | (rcases List.mem_append.mp hd with hd | hd
       · simp at hd; omega
       · exact hx _ d hd)
    | (simp at hd; omega)
theorem fold_ok (q : Nat) : ∀ (l : List Nat) (acc : Array Nat), (∀ c ∈ l, c < 1114112) → (∀ c ∈ acc.toList, c < 1114112) → ∀ c ∈ (l.foldl (fun out c => out ++ (reprChar q c).toArray) acc).toList, c < 1114112
  | [], acc, _, h => h
  | c :: r, acc, hl, h => by
    rw [List.foldl_cons]
    refine fold_ok q r _ (fun d hd => hl d (List.mem_cons_of_mem _ hd)) fun d hd => ?_
    rw [Array.toList_append] at hd
    rcases List.mem_append.mp hd with hd | hd
    · exact h d hd
    · exact reprChar_ok q c (hl c List.mem_cons_self) d hd
theorem quote_ok (x : Str) : reprQuote x < 1114112 := by
  unfold reprQuote
  split <;> decide
theorem strOk_repr {x : Str} (h : ∀ c ∈ x.cps.toList, c < 128) : strOk (reprText x) = true := by
  show Array.all _ _ = true
  rw [← Array.all_toList]
  refine List.all_eq_true.mpr fun d hd => ?_
  unfold reprText at hd
  have hd' : d ∈ ((x.cps.foldl (fun out c => out ++ (reprChar (reprQuote x) c).toArray) #[reprQuote x]).push (reprQuote x)).toList := hd
  rw [Array.toList_push, ← Array.foldl_toList] at hd'
  refine decide_eq_true ?_
  rcases List.mem_append.mp hd' with hd' | hd'
  · refine fold_ok _ _ _ (fun c hc => Nat.lt_trans (h c hc) (by decide)) (fun c hc => ?_) d hd'
    rw [List.mem_singleton.mp (show c ∈ [reprQuote x] from hc)]
    exact quote_ok x
  · rw [List.mem_singleton.mp hd']
    exact quote_ok x
/-- what repr tells, and that it is a text -/
structure Rp (H : Hp) (x : V) (f : List Code → Str) : Prop where
  is : RepIs H x f
  ok : ∀ g, strOk (f g) = true
theorem Rp.mono {H H' : Hp} {x : V} {f : List Code → Str} (e : Same H H') (h : Rp H x f) : Rp H' x f := ⟨h.is.mono e, h.ok⟩
def Asc (z : Str) : Prop := ∀ c ∈ z.cps.toList, c < 128
instance (z : Str) : Decidable (Asc z) := inferInstanceAs (Decidable (∀ c ∈ z.cps.toList, c < 128))
theorem asc_len {z : Str} (h : Asc z) (hl : z.length ≤ 100000) : (reprText z).length ≤ 1000002 := by
  have := StrLaws.reprText_len z fun c hc => Nat.lt_trans (h c hc) (by decide)
  omega
theorem Rp.str {H : Hp} {z : Str} (h : Asc z) (hl : z.length ≤ 100000) : Rp H (.str z) fun _ => reprText z :=
  ⟨.str (Nat.le_trans (asc_len h hl) (by decide)), fun _ => strOk_repr h⟩
theorem Rp.non {H : Hp} : Rp H .non fun _ => "None" := ⟨.non, fun _ => by decide +kernel⟩
theorem Rp.bl {H : Hp} {b : Bool} : Rp H (.bl b) fun _ => if b then "True" else "False" := ⟨.bl, fun _ => by cases b <;> decide +kernel⟩
theorem Rp.int {H : Hp} {i : Int} (h : i.natAbs.log2 < 1920) (ok : strOk (toString i) = true) : Rp H (.int i) fun _ => toString i := ⟨.int h, fun _ => ok⟩
theorem Rp.tup {H : Hp} {a : Addr} (h : H a = some (.tup [])) : Rp H (.ref a) fun g => if runs (tupGuardF (.ref a)) g then "(...)" else tupleText [] :=
  ⟨.tup h, fun g => by
    cases runs (tupGuardF (.ref a)) g <;> decide +kernel⟩
theorem Rp.dct {H : Hp} {a : Addr} (h : H a = some (.dK [])) : Rp H (.ref a) fun g => if runs (dictGuardF (.ref a)) g then "{...}" else "{}" :=
  ⟨.dct h, fun g => by
    cases runs (dictGuardF (.ref a)) g <;> decide +kernel⟩
theorem Rp.lst {H : Hp} {a : Addr} {z : Str} (h : H a = some (.lst [.str z])) (hz : Asc z) (hl : z.length ≤ 100000) (ok : strOk (listText [reprText z]) = true) (hb : (listText [reprText z]).length ≤ sizeLine) :
    Rp H (.ref a) fun g => if runs (onL a) g then "[...]" else listText [reprText z] :=
  ⟨.lst h hb (Nat.le_trans (asc_len hz hl) (by decide)), fun g => by
    cases runs (onL a) g
    · exact ok
    · exact (by decide +kernel : strOk ("[...]" : Str) = true)⟩
/-! ## lists of texts, pairs of texts, compared -/
theorem dp_strs {K : PySem.W.Frag} {H : Hp} : ∀ l : List Str, DpAll K H (l.map V.str) (l.map PyData.str)
  | [] => .nil
  | z :: r => .cons (.str z) (dp_strs r)
theorem can_strs : ∀ l : List Str, (∀ z ∈ l, Asc z) → PyData.canLayAll0 (l.map PyData.str) = true
  | [], _ => by simp [PyData.canLayAll0]
  | z :: r, h => by
    have h1 : strOk z = true := by
      show Array.all _ _ = true
      rw [← Array.all_toList]
      exact List.all_eq_true.mpr fun d hd => decide_eq_true (Nat.lt_trans (h z List.mem_cons_self d hd) (by decide))
    rw [List.map_cons]
    simp [PyData.canLayAll0, PyData.canLay0, h1, can_strs r fun y hy => h y (List.mem_cons_of_mem _ hy)]
theorem dep_strs : ∀ l : List Str, PyData.depthAll (l.map PyData.str) = 0
  | [] => by simp [PyData.depthAll]
  | z :: r => by
    rw [List.map_cons]
    simp [PyData.depthAll, PyData.depth, dep_strs r]
theorem shaped_strs {l : List Str} (h : ∀ z ∈ l, Asc z) : SeqAt.shaped (.list (l.map PyData.str)) = true := by
  unfold SeqAt.shaped
  rw [Bool.and_eq_true]
  refine ⟨by rw [PyData.canLay0]; exact can_strs l h, decide_eq_true ?_⟩
  rw [PyData.depth, dep_strs]
  decide
theorem eqv_strs {l : List Str} (h : ∀ z ∈ l, Asc z) : PyData.eqv (.list (l.map PyData.str)) (.list (l.map PyData.str)) = true :=
  SeqAt.eqv_refl _ (SeqAt.canLay_of_shaped (shaped_strs h))
theorem shaped_pair {a b : Str} (ha : strOk a = true) (hb : strOk b = true) : SeqAt.shaped (.tuple [.str a, .str b]) = true := by
  unfold SeqAt.shaped
  rw [Bool.and_eq_true]
  refine ⟨by simp [PyData.canLay0, PyData.canLayAll0, ha, hb], decide_eq_true ?_⟩
  simp [PyData.depth, PyData.depthAll]
theorem eqv_pair {a b : Str} (ha : strOk a = true) (hb : strOk b = true) : PyData.eqv (.tuple [.str a, .str b]) (.tuple [.str a, .str b]) = true :=
  SeqAt.eqv_refl _ (SeqAt.canLay_of_shaped (shaped_pair ha hb))
theorem dp_pair {K : PySem.W.Frag} {H : Hp} {p : Addr} {a b : Str} (h : H p = some (.tup [.str a, .str b])) : Dp K H (.ref p) (.tuple [.str a, .str b]) :=
  .tup (SqT.of h) (.cons (.str a) (.cons (.str b) .nil))
end Aw
namespace Aw
open PySem PySem.Spec PyProof.Rows L2 Builtin.Str PyData
section
variable {P : Program} {w : World} {K : PySem.W.Frag} {mg : Str → Option Value} {base : Heap} {A : Ad}
abbrev N_law : List Str := ["_law_script", "_law_source_here", "_law_asks_here", "_law_rows", "_law_size", "_law_long", "_law_passed", "_law_told", "_law_far", "_law_bad", "_law_place", "_law_mixed", "_law_whole", "_law_odd", "error", "_law_right", "_law_k"]
theorem sc_law : FnScope N_law ["_law_script"] (defScope s_law) := ⟨rfl, rfl, rfl, by decide +kernel, rfl, by decide +kernel, by decide +kernel⟩
/-- a drawn menu's asks -/
theorem menu_facts : ∀ z ∈ menuA, 0 < z.length ∧ z.length ≤ 3 ∧ Asc z ∧ asksB z = true := by decide +kernel
/-- between two steps: the source at p, the rows at l -/
structure Stt (p l : Addr) (z : Str) (n : Nat) (H : Hp) (rs : List Str) : Prop where
  src : Src H p
  row : H l = some (.lst (rs.map V.str))
  ne : l ≠ p
  len : rs.length ≤ n
  good : ∀ r ∈ rs, (∀ c ∈ r.cps.toList, c ∈ z.cps.toList) ∧ r.length ≤ 2000
theorem Stt.but {p l : Addr} {z : Str} {n : Nat} {H H' : Hp} {rs : List Str} (h : Stt p l z n H rs) (s : Src H' p) (b : But p H H') : Stt p l z n H' rs := ⟨s, b _ _ h.row h.ne, h.ne, h.len, h.good⟩
theorem Stt.same {p l : Addr} {z : Str} {n : Nat} {H H' : Hp} {rs : List Str} (h : Stt p l z n H rs) (b : Same H H') : Stt p l z n H' rs := ⟨h.src.same b, b _ _ h.row, h.ne, h.len, h.good⟩
theorem Stt.mono {p l : Addr} {z : Str} {n m : Nat} {H : Hp} {rs : List Str} (h : Stt p l z n H rs) (b : n ≤ m) : Stt p l z m H rs := ⟨h.src, h.row, h.ne, Nat.le_trans h.len b, h.good⟩
def spLaw (K : PySem.W.Frag) : Sp := fun vs H Q _ => ∃ (a : Addr) (ns : List Int), vs = [.ref a] ∧ SqL K H a (ns.map V.int) ∧ ∀ H', Q (.bl true) H'
/-- the parts that the law's own body calls -/
structure Parts (P : Program) (w : World) (K : PySem.W.Frag) (mg : Str → Option Value) (base : Heap) (A : Ad) : Prop where
  src : Kp P w K mg base CX0 2 A.fSrc ["_law_script", "_law_k"] (spSrc K)
  asks : Kp P w K mg base CX0 2 A.fLAsks ["_law_source_here"] spLAsks
  row : Kp P w K mg base CX0 2 A.fLRow ["_law_source_here", "_law_asks_here", "_law_longest"] spLRow
  draw : Kp P w K mg base CX0 1 A.fDraw ["_law_source_here", "_law_many"] spDraw
  ex1 : Kp P w K mg base CX0 3 A.fExact ["_law_told", "_law_due_here"] spEx1
  due : Kp P w K mg base CX0 2 A.fDue ["_law_rows"] (spDue K)
  isAsks : Kp P w K mg base CX0 1 A.fAsks ["thing"] (spAsks K)
  isRow : Kp P w K mg base (L2.CX P w) 3 A.fRow ["asks", "thing"] (spRow K A)
  ord : Kp P w K mg base (L2.CX P w) 3 A.fOrd ["asks", "rows"] (spOrd K A)
  err : ∀ g, ∃ fd, FnG P w K mg base 4 A.fErr fd ["_law_asks_here", "_law_rows"] (spErr K g) g ∧ Binds K fd ["_law_asks_here", "_law_rows"] [] ∧ PySem.W.keepIn K (.ref A.fErr) = true
theorem menu_more : ∀ z ∈ menuA, Asc (z ++ "g") ∧ (z ++ "g").length ≤ 100 ∧ rowB z (z ++ "g") = false ∧ Asc (Txt.upper z) ∧ (Txt.upper z).length ≤ 100 ∧ rowB z (Txt.upper z) = false ∧ rowB z "z" = false ∧ rowB z " " = false := by decide +kernel
theorem menu_one : ∀ z ∈ menuA, ∃ c : Nat, z.cps.toList[0]? = some c ∧ Asc ⟨#[c]⟩ ∧ strOk (listText [reprText ⟨#[c]⟩]) = true ∧ (listText [reprText ⟨#[c]⟩]).length ≤ 100 := by
  intro z hz
  have h : ∀ z ∈ menuA, z.cps.toList[0]? = some (z.cps.toList.getD 0 0) ∧ Asc ⟨#[z.cps.toList.getD 0 0]⟩ ∧ strOk (listText [reprText ⟨#[z.cps.toList.getD 0 0]⟩]) = true ∧ (listText [reprText ⟨#[z.cps.toList.getD 0 0]⟩]).length ≤ 100 := by decide +kernel
  exact ⟨_, h z hz⟩
theorem knownT {K : PySem.W.Frag} {H : Hp} {x : V} (t : String) (h1 : ∀ z, x ≠ .str z) (h2 : TyX K H x (.type t)) (h3 : kitB t "str" = some false) : Known K H x := .inr ⟨h1, _, h2, kit_ty h3⟩
theorem RepIs.but {H H' : Hp} {p : Addr} {x : V} {f : List Code → Str} (s : Src H p) (b : But p H H') (h : RepIs H x f) : RepIs H' x f := by
  obtain ⟨i, j, k, e, _⟩ := s
  cases h with
  | str h => exact .str h
  | int h => exact .int h
  | bl => exact .bl
  | non => exact .non
  | lst h h1 h2 => exact .lst (b _ _ h fun z => by subst z; rw [e] at h; cases h) h1 h2
  | tup h => exact .tup (b _ _ h fun z => by subst z; rw [e] at h; cases h)
  | dct h => exact .dct (b _ _ h fun z => by subst z; rw [e] at h; cases h)
theorem Rp.but {H H' : Hp} {p : Addr} {x : V} {f : List Code → Str} (s : Src H p) (b : But p H H') (h : Rp H x f) : Rp H' x f := ⟨h.is.but s b, h.ok⟩
theorem Known.len {K : PySem.W.Frag} {H : Hp} {x : V} (h : Known K H x) : ∀ z, x = .str z → z.length ≤ sizeLine := fun z e => by
  rcases h with ⟨y, ey, hy⟩ | ⟨h, _⟩
  · rw [e] at ey
    cases ey
    exact hy
  · exact absurd e (h z)
theorem Rp.known {K : PySem.W.Frag} {H : Hp} {x : V} {f : List Code → Str} (h : Rp H x f) (hl : ∀ z, x = .str z → z.length ≤ sizeLine) : Known K H x := by
  obtain ⟨h, _⟩ := h
  cases h with
  | str h => exact .inl ⟨_, rfl, hl _ rfl⟩
  | int h => exact knownT "int" (fun _ => nofun) (.base (.int _)) (by decide +kernel)
  | bl => exact knownT "bool" (fun _ => nofun) (.base (.bl _)) (by decide +kernel)
  | non => exact knownT "NoneType" (fun _ => nofun) (.base .non) (by decide +kernel)
  | lst h => exact knownT "list" (fun _ => nofun) (.base (.lst h)) (by decide +kernel)
  | tup h => exact knownT "tuple" (fun _ => nofun) (.base (.tup h)) (by decide +kernel)
  | dct h => exact knownT "dict" (fun _ => nofun) (.base (.dK h)) (by decide +kernel)
theorem kit2 {K : PySem.W.Frag} (t : String) (h1 : kitB t "list" = some false) (h2 : kitB t "tuple" = some false) : PySem.W.kitAny K (.type t) [.type "list", .type "tuple"] = some false :=
  kitAny_cons (kit_ty h1) (fun _ => kitAny_cons (kit_ty h2) (fun _ => rfl) nofun) nofun
def menuR : List Str := ["a", "h", "abcd", "efgh", "ah", "bdfh", "gh"]
theorem right_facts : ∀ r ∈ menuR, asksB r = true ∧ r.length ≤ 4 ∧ r.cps.toList[0]? = some (r.cps.toList.getD 0 0) ∧ rowB r (r ++ ⟨#[r.cps.toList.getD 0 0]⟩) = true ∧ (r ++ ⟨#[r.cps.toList.getD 0 0]⟩).length ≤ 5 := by decide +kernel
theorem start_law (a : Addr) : L2.start N_law [V.ref a] = [some (V.ref a), none, none, none, none, none, none, none, none, none, none, none, none, none, none, none, none] := rfl
theorem ok_law {fd : FuncData} {g : List Code} (F : Fun K "law" "law" s_law A.fLaw fd) (T : Tx K mg A) (Xe : Ex K mg A) (R : Parts P w K mg base A) :
    FnG P w K mg base 5 A.fLaw fd ["_law_script"] (spLaw K) g := by
  obtain ⟨fdS, GSrc, bSrc, kSrc⟩ := R.src
  obtain ⟨fdA, GLAsks, bLAsks, kLAsks⟩ := R.asks
  obtain ⟨fdR, GLRow, bLRow, kLRow⟩ := R.row
  obtain ⟨fdD, GDraw, bDraw, kDraw⟩ := R.draw
  obtain ⟨fdE, GExact, bExact, kExact⟩ := R.ex1
  obtain ⟨fdU, GDue, bDue, kDue⟩ := R.due
  obtain ⟨fdI, GAsks, bAsks, kAsks⟩ := R.isAsks
  obtain ⟨fdW, GRow, bRow, kRow⟩ := R.isRow
  obtain ⟨fdO, GOrd, bOrd, kOrd⟩ := R.ord
  obtain ⟨fdX, GErr, bErr, kErr⟩ := R.err g
  have LA := Xe.LA
  have nd := sc_law.nd
  refine okG F sc_law (fun vs H Q E h => ?_) (fun cdv A' outer s H vs Q E hgd hr h => ?_)
  · obtain ⟨a, ns, rfl, _⟩ := h
    rfl
  · obtain ⟨a, ns, rfl, hS, q⟩ := h
    refine ⟨_, (pss_cons (ps_set (i := 1) nd rfl (by first | exact Or.inl rfl | exact Or.inr rfl) (pe_call GSrc (hr.mono (by decide)) rfl T.m_law_source kSrc bSrc .nil pass0 (pa_cons (pv 0) (pa_cons pe_int pa_nil))))
  (pss_cons (ps_set (i := 2) nd rfl (by first | exact Or.inl rfl | exact Or.inr rfl) (pe_call GLAsks (hr.mono (by decide)) rfl T.m_law_asks kLAsks bLAsks .nil pass0 (pa_cons (pv 1) pa_nil)))
  (pss_cons (ps_setLc (i := 3) (own := [("_law_k", 16)]) (g := gName 16) (tt := tYes) rfl nd rfl rfl (sw_true rfl rfl rfl (by decide +kernel)) (pi_range1 (by rfl) T.nrange (pa_cons (pe_call GDraw (hr.mono (by decide)) rfl T.m_law_draw kDraw bDraw .nil pass0 (pa_cons (pv 1) (pa_cons pe_int pa_nil))) pa_nil)) (blkOk_by (own := [("_law_k", 16)]) (N := N_law) (sc := defScope s_law) (by decide +kernel)) (fun _ _ _ _ _ => (pg_name (i := 16) nd rfl (by first | exact Or.inl rfl | exact Or.inr rfl))) (fun _ _ _ _ _ => pts_nil) (fun _ _ _ _ _ => (pe_call GLRow (hr.mono (by decide)) rfl T.m_law_row kLRow bLRow .nil pass0 (pa_cons (pe_call GSrc (hr.mono (by decide)) rfl T.m_law_source kSrc bSrc .nil pass0 (pa_cons (pv 0) (pa_cons (pe_op op_add pe_int (pv 16)) pa_nil))) (pa_cons (pv 2) (pa_cons pe_int pa_nil))))))
  (pss_cons (ps_if (PW.pt (pw_and (pt_cmpR op_gt (pe_callB call_len (by rfl) T.nlen (by decide +kernel) (pa_cons (pv 3) pa_nil)) pe_int (nomark _)) (pw_and1 (pt_cmpR op_eq (pe_call GDraw (hr.mono (by decide)) rfl T.m_law_draw kDraw bDraw .nil pass0 (pa_cons (pv 1) (pa_cons pe_int pa_nil))) pe_int (nomark _))))) (pss_one (ps_expr (pe_bm PySem.F.plainAttrs_list PySem.F.slot_list_insert PySem.F.type_list_insert mt_insert (pv 3) (pa_cons (pe_call GDraw (hr.mono (by decide)) rfl T.m_law_draw kDraw bDraw .nil pass0 (pa_cons (pv 1) (pa_cons (pe_callB call_len (by rfl) T.nlen (by decide +kernel) (pa_cons (pv 3) pa_nil)) pa_nil))) (pa_cons (pe_ix ix_list (pv 3) (pe_call GDraw (hr.mono (by decide)) rfl T.m_law_draw kDraw bDraw .nil pass0 (pa_cons (pv 1) (pa_cons (pe_callB call_len (by rfl) T.nlen (by decide +kernel) (pa_cons (pv 3) pa_nil)) pa_nil))) (fun _ _ => rfl)) pa_nil))))) pss_nil)
  (pss_cons (ps_set (i := 4) nd rfl (by first | exact Or.inl rfl | exact Or.inr rfl) (pe_op op_add pe_int (pe_call GDraw (hr.mono (by decide)) rfl T.m_law_draw kDraw bDraw .nil pass0 (pa_cons (pv 1) (pa_cons pe_int pa_nil)))))
  (pss_cons (ps_set (i := 5) nd rfl (by first | exact Or.inl rfl | exact Or.inr rfl) (pe_slice sl_str (pe_op op_mulStr (pv 2) pe_int) po_none (po_some (pv 4))))
  (pss_cons (ps_if (PW.pt (pw_and (pt_cmpR op_eq (pe_call GDraw (hr.mono (by decide)) rfl T.m_law_draw kDraw bDraw .nil pass0 (pa_cons (pv 1) (pa_cons pe_int pa_nil))) pe_int (nomark _)) (pw_and1 (pt_cmpR op_lt (pv 4) pe_int (nomark _))))) (pss_one (ps_expr (pe_bm PySem.F.plainAttrs_list PySem.F.slot_list_append PySem.F.type_list_append mt_append (pv 3) (pa_cons (pv 5) pa_nil)))) pss_nil)
  (pss_cons (ps_set (i := 6) nd rfl (by first | exact Or.inl rfl | exact Or.inr rfl) (pe_callTy call_list_of (by rfl) T.nlist (by decide +kernel) (pa_cons (pv 3) pa_nil)))
  (pss_cons (ps_set (i := 7) nd rfl (by first | exact Or.inl rfl | exact Or.inr rfl) (pe_call GOrd (hr.mono (by decide)) rfl T.mordered kOrd bOrd .nil passL (pa_cons (pv 2) (pa_cons (pv 6) pa_nil))))
  (pss_cons (ps_if (PW.pt (pw_or (pt_not (pt_val (pe_call GExact (hr.mono (by decide)) rfl T.m_law_exact kExact bExact .nil pass0 (pa_cons (pv 7) (pa_cons (pe_call GDue (hr.mono (by decide)) rfl T.m_law_due kDue bDue .nil pass0 (pa_cons (pv 3) pa_nil)) pa_nil))))) (pw_or (pt_cmpR (op_neD hr.units) (pv 6) (pv 3) (nomark _)) (pw_or1 (pt_not (pt_val (pe_call GExact (hr.mono (by decide)) rfl T.m_law_exact kExact bExact .nil pass0 (pa_cons (pe_call GOrd (hr.mono (by decide)) rfl T.mordered kOrd bOrd .nil passL (pa_cons (pv 2) (pa_cons (pe_callTy call_tuple_of (by rfl) T.ntuple (by decide +kernel) (pa_cons (pv 3) pa_nil)) pa_nil))) (pa_cons (pv 7) pa_nil))))))))) (pss_one (ps_ret pe_bl)) pss_nil)
  (pss_cons (ps_if (pt_cmpR op_ne (pe_cmpR op_isB1 (pe_call GRow (hr.mono (by decide)) rfl T.mis_row kRow bRow .nil passL (pa_cons (pv 2) (pa_cons (pv 5) pa_nil))) pe_bl (nomark _)) (pe_cmpR op_lt (pv 4) pe_int (nomark _)) (nomark _)) (pss_one (ps_ret pe_bl)) pss_nil)
  (pss_cons (ps_set (i := 8) nd rfl (by first | exact Or.inl rfl | exact Or.inr rfl) (pe_slice sl_str (pe_op op_mulStr (pv 2) pe_int) po_none (po_some pe_int)))
  (pss_cons (ps_set (i := 9) nd rfl (by first | exact Or.inl rfl | exact Or.inr rfl) (pe_ix ix_list (pe_lst (pa_cons pe_str (pa_cons (pe_op op_add_str (pv 2) pe_str) (pa_cons pe_non (pa_cons pe_int (pa_cons (pe_lst (pa_cons (pe_ix ix_str (pv 2) pe_int (fun _ _ => rfl)) pa_nil)) (pa_cons pe_bl (pa_cons (pe_upper (pv 2)) (pa_cons (pv 8) (pa_cons (pe_tup pa_nil) (pa_cons pe_str pa_nil))))))))))) (pe_call GDraw (hr.mono (by decide)) rfl T.m_law_draw kDraw bDraw .nil pass0 (pa_cons (pv 1) (pa_cons pe_int pa_nil))) (fun _ _ => rfl)))
  (pss_cons (ps_if (PW.pt (pw_or (pt_cmpR op_notBl (pe_call GRow (hr.mono (by decide)) rfl T.mis_row kRow bRow .nil passL (pa_cons (pv 2) (pa_cons (pv 9) pa_nil))) pe_bl (nomark _)) (pw_or1 (pt_cmpR op_notBl (pe_call GRow (hr.mono (by decide)) rfl T.mis_row kRow bRow .nil passL (pa_cons (pv 2) (pa_cons pe_str pa_nil))) pe_bl (nomark _))))) (pss_one (ps_ret pe_bl)) pss_nil)
  (pss_cons (ps_if (PW.pt (pw_and (pt_cmpR op_gt (pe_callB call_len (by rfl) T.nlen (by decide +kernel) (pa_cons (pv 3) pa_nil)) pe_int (nomark _)) (pw_and1 (pt_cmpR op_notBl (pe_call GRow (hr.mono (by decide)) rfl T.mis_row kRow bRow .nil passL (pa_cons (pv 2) (pa_cons (pe_ix ix_list (pv 3) (pe_un un_neg pe_int) (fun _ _ => rfl)) pa_nil))) pe_bl (nomark _))))) (pss_one (ps_ret pe_bl)) pss_nil)
  (pss_cons (ps_set (i := 10) nd rfl (by first | exact Or.inl rfl | exact Or.inr rfl) (pe_call GDraw (hr.mono (by decide)) rfl T.m_law_draw kDraw bDraw .nil pass0 (pa_cons (pv 1) (pa_cons (pe_op op_add (pe_callB call_len (by rfl) T.nlen (by decide +kernel) (pa_cons (pv 3) pa_nil)) pe_int) pa_nil))))
  (pss_cons (ps_set (i := 11) nd rfl (by first | exact Or.inl rfl | exact Or.inr rfl) (pe_op op_cat (pe_op op_cat (pe_op op_cat (pe_slice sl_list (pv 3) po_none (po_some (pv 10))) (pe_lst (pa_cons (pv 9) pa_nil))) (pe_slice sl_list (pv 3) (po_some (pv 10)) po_none)) (pe_lst (pa_cons pe_int pa_nil))))
  (pss_cons (ps_if (pt_cmpR (op_neD hr.units) (pe_callG GErr hgd (hr.mono (by decide)) rfl T.m_law_error kErr bErr (pa_cons (pv 2) (pa_cons (pv 11) pa_nil))) (pe_tup (pa_cons pe_str (pa_cons (pe_callB (call_rep hgd hr.units) (by rfl) T.nrepr (by decide +kernel) (pa_cons (pv 9) pa_nil)) pa_nil))) (nomark _)) (pss_one (ps_ret pe_bl)) pss_nil)
  (pss_cons (ps_set (i := 12) nd rfl (by first | exact Or.inl rfl | exact Or.inr rfl) (pe_ix ix_list (pe_lst (pa_cons pe_non (pa_cons pe_str (pa_cons pe_int (pa_cons pe_dnewK (pa_cons (pv 2) pa_nil)))))) (pe_call GDraw (hr.mono (by decide)) rfl T.m_law_draw kDraw bDraw .nil pass0 (pa_cons (pv 1) (pa_cons pe_int pa_nil))) (fun _ _ => rfl)))
  (pss_cons (ps_if (pt_cmpR (op_neD hr.units) (pe_callG GErr hgd (hr.mono (by decide)) rfl T.m_law_error kErr bErr (pa_cons (pv 2) (pa_cons (pv 12) pa_nil))) (pe_tup (pa_cons pe_str (pa_cons (pe_callB (call_rep hgd hr.units) (by rfl) T.nrepr (by decide +kernel) (pa_cons (pv 12) pa_nil)) pa_nil))) (nomark _)) (pss_one (ps_ret pe_bl)) pss_nil)
  (pss_cons (ps_set (i := 13) nd rfl (by first | exact Or.inl rfl | exact Or.inr rfl) (pe_ix ix_list (pe_lst (pa_cons pe_str (pa_cons pe_str (pa_cons pe_str (pa_cons pe_str (pa_cons pe_str (pa_cons pe_str (pa_cons pe_int (pa_cons pe_non (pa_cons (pe_lst (pa_cons pe_str pa_nil)) (pa_cons pe_bl (pa_cons pe_str (pa_cons pe_str pa_nil))))))))))))) (pe_call GDraw (hr.mono (by decide)) rfl T.m_law_draw kDraw bDraw .nil pass0 (pa_cons (pv 1) (pa_cons pe_int pa_nil))) (fun _ _ => rfl)))
  (pss_cons (ps_if (PW.pt (pw_or (pt_cmpR op_notBl (pe_call GAsks (hr.mono (by decide)) rfl T.mis_asks kAsks bAsks .nil pass0 (pa_cons (pv 13) pa_nil)) pe_bl (nomark _)) (pw_or (pt_cmpR op_notBl (pe_call GAsks (hr.mono (by decide)) rfl T.mis_asks kAsks bAsks .nil pass0 (pa_cons (pv 2) pa_nil)) pe_bl (nomark _)) (pw_or1 (pt_cmpR (op_neD hr.units) (pe_callG GErr hgd (hr.mono (by decide)) rfl T.m_law_error kErr bErr (pa_cons (pv 13) (pa_cons (pv 11) pa_nil))) (pe_tup (pa_cons pe_str (pa_cons (pe_callB (call_rep hgd hr.units) (by rfl) T.nrepr (by decide +kernel) (pa_cons (pv 13) pa_nil)) pa_nil))) (nomark _)))))) (pss_one (ps_ret pe_bl)) pss_nil)
  (pss_cons (ps_try_clauses (i := 14) rfl rfl nd rfl rfl takes0 (fun W pn xe tk _ => (pss_cons (ps_expr (pe_callS GRow (hr.mono (by decide)) rfl T.mis_row kRow bRow (fun σ => passAt tk σ) (pa_cons (pv 13) (pa_cons pe_int pa_nil))))
  (pss_one (ps_ret pe_bl))))
 (.cons ⟨rfl, by decide, Or.inl T.mBadAsks⟩ (fun a oe cls d pn hz hf => (pss_one (ps_if (pt_cmpR op_ne (pe_callB (call_rep hgd hr.units) (by rfl) T.nrepr (by decide +kernel) (pa_cons (pe_thing LA hz hf (pv 14)) pa_nil)) (pe_callB (call_rep hgd hr.units) (by rfl) T.nrepr (by decide +kernel) (pa_cons (pv 13) pa_nil)) (nomark _)) (pss_one (ps_ret pe_bl)) pss_nil)))
 .nil))
  (pss_cons (ps_set (i := 15) nd rfl (by first | exact Or.inl rfl | exact Or.inr rfl) (pe_ix ix_list (pe_lst (pa_cons pe_str (pa_cons pe_str (pa_cons pe_str (pa_cons pe_str (pa_cons pe_str (pa_cons pe_str (pa_cons pe_str pa_nil)))))))) (pe_call GDraw (hr.mono (by decide)) rfl T.m_law_draw kDraw bDraw .nil pass0 (pa_cons (pv 1) (pa_cons pe_int pa_nil))) (fun _ _ => rfl)))
  (pss_one (ps_ret (pe_and (pe_cmpR op_isB1 (pe_call GAsks (hr.mono (by decide)) rfl T.mis_asks kAsks bAsks .nil pass0 (pa_cons (pv 15) pa_nil)) pe_bl (nomark _)) (pe_one (pe_cmpR op_isB1 (pe_call GRow (hr.mono (by decide)) rfl T.mis_row kRow bRow .nil passL (pa_cons (pv 15) (pa_cons (pe_op op_add_str (pv 15) (pe_ix ix_str (pv 15) pe_int (fun _ _ => rfl))) pa_nil))) pe_bl (nomark _)))))))))))))))))))))))))))))), ?_⟩
    refine ⟨_, rfl, a, ns, 0, rfl, hS, fun p H1 s1 hp1 src1 => ?_⟩
    have hA : ∀ H', But p H1 H' → SqL K H' a (ns.map V.int) := fun H' b => by
      rcases hS with (h | ⟨o, h⟩) | h
      · exact .inl (.inl (b _ _ (s1 _ _ h) (ne_of_none h hp1)))
      · exact .inl (.inr ⟨o, b _ _ (s1 _ _ h) (ne_of_none h hp1)⟩)
      · exact .inr h
    refine ⟨_, rfl, p, rfl, src1, fun z H2 hz src2 b2 => ?_⟩
    obtain ⟨z0, z3, za, zq⟩ := menu_facts z hz
    refine ⟨_, rfl, p, 10, rfl, src2, by decide, by decide, fun d H3 d0 d1 src3 b3 => ?_⟩
    have b13 := b2.trans b3
    refine ⟨d, rfl, by omega, by omega, fun l hl => ?_⟩
    have lp : l ≠ p := by
      obtain ⟨o, ho⟩ := src3.some
      exact (ne_of_none ho hl).symm
    refine (fun (rest : ∀ (H' : Hp) (rs : List Str), Stt p l z 9 H' rs → (?N : Hp → Prop) H') => ?use) ?pf
    case use =>
      refine lc_range (lo := 0) (n := d.toNat) (fun i H' => ∃ rs : List Str, rs.length = i ∧ Stt p l z i H' rs ∧ But p H3 H') ⟨[], rfl, ⟨src3.same (same_new hl), upd_same, lp, Nat.le_refl _, fun r h => nomatch h⟩, But.of (same_new hl)⟩ ?_ ?_
      · rintro i H4 hi ⟨rs, el, st, b4⟩
        refine ⟨rfl, yes_go ?_⟩
        refine ⟨_, rfl, _, rfl, _, _, rfl, rfl, a, ns, 1 + i, ?_, hA _ (b13.trans b4), fun p2 H5 s5 hp5 src5 => ?_⟩
        · show [V.ref a, V.int (1 + (0 + (i : Int)))] = [V.ref a, V.int ((1 + i : Nat) : Int)]
          rw [show (1 + (0 + (i : Int))) = ((1 + i : Nat) : Int) by omega]
        refine ⟨_, rfl, p2, z, 6, rfl, src5, z0, by omega, by decide, by decide, fun y H6 hy1 hy2 src6 b6 => ?_⟩
        have l2 : l ≠ p2 := ne_of_none st.row hp5
        have p2n : p ≠ p2 := by
          obtain ⟨o, ho⟩ := st.src.some
          exact ne_of_none ho hp5
        have row6 := b6 _ _ (s5 _ _ st.row) l2
        refine ⟨_, row6, ?_, rs ++ [y], ?_, ?_, ?_⟩
        · rw [List.length_map, el]
          exact Nat.lt_of_lt_of_le (show i < 10 by omega) (by decide)
        · rw [List.length_append, el]
          rfl
        · refine ⟨?_, by rw [upd_same, List.map_append]; rfl, lp, ?_, ?_⟩
          · exact ((st.src.same s5).but b6 p2n).but (But.upd (s := l)) lp.symm
          · rw [List.length_append, el]
            exact Nat.le_refl _
          · intro r hr1
            rcases List.mem_append.mp hr1 with hr1 | hr1
            · exact st.good r hr1
            · rw [List.mem_singleton.mp hr1]
              exact ⟨hy1, by omega⟩
        · intro b o hb nb
          rw [upd_ne (ne_of_none hb hl)]
          have h4 := b4 b o hb nb
          exact b6 b o (s5 _ _ h4) (ne_of_none h4 hp5)
      · rintro H4 ⟨rs, el, st, b4⟩
        exact rest H4 rs (st.mono (by omega))
    case pf =>
      clear hl b13 b3 b2 src3 src2 d0 d1 d hA
      intro H3 rs st
      dsimp only [start_law, List.set_cons_succ, List.set_cons_zero]
      refine (fun (rest : ∀ (H' : Hp) (rs : List Str), Stt p l z 10 H' rs → (?M : Hp → Prop) H') => ?use) ?pf
      case use =>
        refine ⟨_, rfl, V.ref l, _, rfl, .inl ⟨_, SqL.of st.row, rfl⟩, _, _, rfl, rfl, _, rfl, ite2 (fun c => ?_) (fun c => ?_)⟩
        · have c1 : 1 < rs.length := by
            have c2 : (1 : Int) < ((rs.map V.str).length : Int) := of_decide_eq_true c
            rw [List.length_map] at c2
            omega
          refine ⟨_, rfl, p, 2, rfl, st.src, by decide, by decide, fun e H4 e0 e1 src4 b4 => ⟨rfl, _, rfl, ite2 (fun c => ?_) (fun c => ?_)⟩⟩
          rotate_left
          · exact rest H4 rs ((st.but src4 b4).mono (by decide))
          have st4 := st.but src4 b4
          refine ⟨_, rfl, .inl ⟨rfl, _, SqL.of st4.row⟩, ?_⟩
          refine ⟨_, rfl, _, rfl, V.ref l, _, rfl, .inl ⟨_, SqL.of st4.row, rfl⟩, p, _, rfl, st4.src, (by rw [List.length_map]; omega), (by have := st.len; rw [List.length_map]; omega), fun f H5 f0 f1 src5 b5 => ?_⟩
          have st5 := st4.but src5 b5
          refine ⟨_, rfl, _, rfl, _, rfl, V.ref l, _, rfl, .inl ⟨_, SqL.of st5.row, rfl⟩, p, _, rfl, st5.src, (by rw [List.length_map]; omega), (by have := st.len; rw [List.length_map]; omega), fun j H6 j0 j1 src6 b6 => ?_⟩
          have st6 := st5.but src6 b6
          rw [List.length_map] at f1 j1
          obtain ⟨fn, rfl⟩ : ∃ k : Nat, f = (k : Int) := ⟨f.toNat, by omega⟩
          obtain ⟨jn, rfl⟩ : ∃ k : Nat, j = (k : Int) := ⟨j.toNat, by omega⟩
          have hj : jn < rs.length := by omega
          have gj : (rs.map V.str)[jn]? = some (V.str rs[jn]) := by rw [List.getElem?_map, List.getElem?_eq_getElem hj]; rfl
          refine ⟨l, _, _, _, rfl, rfl, SqL.of st6.row, atI_nat gj, l, _, _, _, rfl, rfl, st6.row, ?_, f0, by have := st.len; omega, ?_⟩
          · have := st.len
            rw [List.length_map]
            exact Nat.lt_of_le_of_lt (show rs.length ≤ 9 from this) (by decide)
          refine rest _ (rs.take fn ++ [rs[jn]] ++ rs.drop fn) ⟨src6.but (But.upd (s := l)) lp.symm, ?_, lp, ?_, ?_⟩
          · rw [upd_same, Int.toNat_natCast, List.map_append, List.map_append, List.map_take, List.map_drop]
            rfl
          · have := st.len
            rw [List.length_append, List.length_append, List.length_take, List.length_drop, List.length_singleton]
            omega
          · intro r hr1
            rcases List.mem_append.mp hr1 with hr1 | hr1
            · rcases List.mem_append.mp hr1 with hr1 | hr1
              · exact st.good r (List.mem_of_mem_take hr1)
              · rw [List.mem_singleton.mp hr1]
                exact st.good _ (List.getElem_mem hj)
            · exact st.good r (List.mem_of_mem_drop hr1)
        · exact iteF (rest H3 rs (st.mono (by decide)))
      case pf =>
        clear st rs H3
        intro H3 rs st
        dsimp only [List.set_cons_succ, List.set_cons_zero]
        refine ⟨_, rfl, p, 3, rfl, st.src, by decide, by decide, fun e H4 e0 e1 src4 b4 => ?_⟩
        have st4 := st.but src4 b4
        obtain ⟨k, hk⟩ : ∃ k : Nat, (1999 : Int) + e = (k : Int) := ⟨(1999 + e).toNat, by omega⟩
        have k0 : 1999 ≤ k := by omega
        have k1 : k ≤ 2001 := by omega
        refine ⟨_, _, rfl, rfl, ?_⟩
        show gName 4 (V.int (1999 + e)) _ _ _
        rw [hk]
        obtain ⟨long, el, ll, lc⟩ : ∃ s : Str, cutS (Txt.mul z ((2001 : Nat) : Int)) none (some (k : Int)) = s ∧ s.length = k ∧ ∀ c ∈ s.cps.toList, c ∈ z.cps.toList := by
          refine ⟨_, rfl, cutS_len ?_, fun c hc => mul_mem (by decide) z0 (cutS_mem hc)⟩
          rw [mul_len (by decide) z0]
          omega
        refine ⟨_, rfl, z, 2001, rfl, rfl, by decide, by decide, z0, by omega, _, rfl, _, rfl, _, rfl, ?_, ?_⟩
        · rw [mul_len (by decide) z0]
          exact Nat.le_trans (Nat.mul_le_mul_left 2001 z3) (by decide)
        show gName 5 (V.str (cutS (Txt.mul z ((2001 : Nat) : Int)) none (some (k : Int)))) _ _ _
        rw [el]
        clear src4 b4 el hk e0 e1 e st
        refine (fun (rest : ∀ (H' : Hp) (rs : List Str), Stt p l z 11 H' rs → (?L : Hp → Prop) H') => ?use) ?pf
        case use =>
          refine ⟨_, rfl, p, 9, rfl, st4.src, by decide, by decide, fun e H5 e0 e1 src5 b5 => ⟨rfl, _, rfl, ite2 (fun c => ?_) (fun c => ?_)⟩⟩
          rotate_left
          · refine iteF ?_
            exact rest H5 rs ((st4.but src5 b5).mono (by decide))
          have st5 := st4.but src5 b5
          refine ⟨_, rfl, _, _, rfl, rfl, _, rfl, ite2 (fun c => ?_) (fun c => ?_)⟩
          rotate_left
          · exact rest H5 rs (st5.mono (by decide))
          have c1 : k ≤ 2000 := by
            have c2 : (k : Int) < 2001 := of_decide_eq_true c
            omega
          refine ⟨_, rfl, .inl ⟨rfl, _, SqL.of st5.row⟩, _, rfl, l, _, _, rfl, rfl, st5.row, ?_, ?_⟩
          · have := st5.len
            rw [List.length_map]
            exact Nat.lt_of_le_of_lt this (by decide)
          refine rest _ (rs ++ [long]) ⟨src5.but (But.upd (s := l)) lp.symm, ?_, lp, ?_, ?_⟩
          · rw [upd_same, List.map_append]
            rfl
          · have := st5.len
            rw [List.length_append, List.length_singleton]
            omega
          · intro r hr1
            rcases List.mem_append.mp hr1 with hr1 | hr1
            · exact st5.good r hr1
            · rw [List.mem_singleton.mp hr1]
              exact ⟨lc, by omega⟩
        case pf =>
          clear st4 rs H3 H4
          intro H3 rs st
          dsimp only [List.set_cons_succ, List.set_cons_zero]
          have isRow : ∀ r ∈ rs, rowB z r = true := fun r hr1 => by
            obtain ⟨g1, g2⟩ := st.good r hr1
            unfold rowB
            rw [decide_eq_true g2, Bool.true_and]
            exact List.all_eq_true.mpr fun c hc => decide_eq_true (g1 c hc)
          have ascR : ∀ r ∈ rs, Asc r := fun r hr1 c hc => za c ((st.good r hr1).1 c hc)
          have kz : ∀ H', Known K H' (.str z) := fun H' => .inl ⟨z, rfl, Nat.le_trans z3 (by decide)⟩
          have knR : ∀ H', ∀ u ∈ rs.map V.str, Known K H' u := fun H' u hu => by
            obtain ⟨r, hr1, rfl⟩ := List.mem_map.mp hu
            exact .inl ⟨r, rfl, Nat.le_trans (st.good r hr1).2 (by decide)⟩
          have nz : ∀ C H' E', asksV (.str z) = false → Bears C (.str z) H' E' := fun C H' E' h => by
            have h' : asksB z = false := h
            rw [zq] at h'
            cases h'
          have l2000 : rs.length ≤ 2000 := Nat.le_trans st.len (by decide)
          -- passed, told
          refine ⟨_, rfl, l, _, rfl, .inl (SqL.of st.row), fun l2 hl2 => ?_⟩
          have st2 := st.same (same_new (o := .lst (rs.map V.str)) hl2)
          refine ⟨_, rfl, _, rfl, .str z, .ref l2, rfl, kz _, nz _ _ _, fun _ => ⟨z, rfl, .inr ⟨l2, _, rfl, .inl upd_same, knR _, .inr ⟨rs, rfl, isRow, l2000, fun p3 H5 s5 hp3 h3 => ?_⟩⟩⟩⟩
          have st5 := st2.same s5
          have row2 := s5 _ _ (upd_same (H := H3) (a := l2) (o := .lst (rs.map V.str)))
          refine ⟨_, rfl, _, rfl, l, rs, rfl, SqL.of st5.row, Nat.le_trans st.len (by decide), (fun r hr1 => Nat.le_trans (st.good r hr1).2 (by decide)), fun p4 H6 s6 hp4 h4 => ⟨p3, p4, dueL rs, rfl, s6 _ _ h3, h4, fun H7 s7 => ⟨_, rfl, iteF ?_⟩⟩⟩
          have s57 := s6.trans s7
          have st7 := st5.same s57
          refine ⟨_, rfl, _, rfl, .list (rs.map .str), .list (rs.map .str), .lst (SqL.of (s57 _ _ row2)) (dp_strs rs), .lst (SqL.of st7.row) (dp_strs rs), shaped_strs ascR, shaped_strs ascR, _, rfl, ?_⟩
          rw [eqv_strs ascR]
          refine iteF ?_
          refine ⟨_, rfl, _, rfl, l, _, rfl, .inl ⟨SqL.of st7.row, fun l3 hl3 => ?_⟩⟩
          refine ⟨.str z, .ref l3, rfl, kz _, nz _ _ _, fun _ => ⟨z, rfl, .inr ⟨l3, _, rfl, .inr upd_same, knR _, .inr ⟨rs, rfl, isRow, l2000, fun p5 H8 s8 hp5 h5 => ?_⟩⟩⟩⟩
          refine ⟨_, rfl, p5, p3, dueL rs, rfl, h5, s8 _ _ (same_new hl3 _ _ (s57 _ _ h3)), fun H9 s9 => ⟨_, rfl, iteF ?_⟩⟩
          have st9 := ((st7.same (same_new hl3)).same s8).same s9
          -- long
          refine ⟨_, rfl, _, rfl, .str z, .str long, rfl, kz _, nz _ _ _, fun _ => ⟨z, rfl, .inl ⟨long, rfl, Nat.le_trans (show long.length ≤ 2001 by omega) (by decide)⟩, fun H10 s10 => ⟨true, rfl, trivial, _, rfl, _, _, rfl, rfl, rfl, _, rfl, ?_⟩⟩⟩
          have eLong : rowV z (.str long) = decide ((k : Int) < 2001) := by
            show (decide (long.length ≤ 2000) && _) = _
            rw [List.all_eq_true.mpr fun c hc => decide_eq_true (lc c hc), Bool.and_true]
            exact decide_eq_decide.mpr (by omega)
          refine iteNS (congrArg V.bl ?_) ?_
          · rw [eLong]
            cases decide ((k : Int) < 2001) <;> rfl
          have st10 := st9.same s10
          -- far
          refine ⟨_, rfl, z, 2100, rfl, rfl, by decide, by decide, z0, by omega, _, rfl, _, rfl, ?_, ?_⟩
          · rw [mul_len (by decide) z0]
            exact Nat.le_trans (Nat.mul_le_mul_left 2100 z3) (by decide)
          obtain ⟨far, ef, fl, fc⟩ : ∃ s : Str, cutS (Txt.mul z ((2100 : Nat) : Int)) none (some ((2050 : Nat) : Int)) = s ∧ s.length = 2050 ∧ ∀ c ∈ s.cps.toList, c ∈ z.cps.toList := by
            refine ⟨_, rfl, cutS_len ?_, fun c hc => mul_mem (by decide) z0 (cutS_mem hc)⟩
            rw [mul_len (by decide) z0]
            omega
          show gName 8 (V.str (cutS (Txt.mul z ((2100 : Nat) : Int)) none (some ((2050 : Nat) : Int)))) _ _ _
          rw [ef]
          clear ef
          dsimp only [List.set_cons_succ, List.set_cons_zero]
          clear ll lc eLong st9 s9 h5 hp5 s8 hl3 st7 s57 s7 h4 hp4 s6 row2 st5 h3 hp3 s5 st2 hl2
          obtain ⟨ga, gl, gn, ua, ul, un, zn, bn⟩ := menu_more z hz
          obtain ⟨c0, hc0, ca, cs, cl⟩ := menu_one z hz
          have zs : z.length ≤ sizeLine := Nat.le_trans z3 (by decide)
          refine ⟨_, rfl, z, "g", rfl, rfl, Nat.le_trans (show z.length + 1 ≤ 4 by omega) (by decide), ?_⟩
          refine ⟨_, rfl, z, 0, c0, rfl, rfl, zs, atI_nat (j := 0) hc0, (by show 1 ≤ sizeLine; decide), fun q1 hq1 => ?_⟩
          refine ⟨_, rfl, ⟨_, rfl⟩, z, rfl, rfl, Nat.le_trans z3 (by decide), ?_⟩
          refine ⟨_, rfl, (by show 0 ≤ sizeLine; decide), fun q2 hq2 => ?_⟩
          refine ⟨(by show 10 ≤ sizeLine; decide), fun q3 hq3 => ?_⟩
          refine ⟨_, rfl, p, 10, rfl, ((st10.src.same (same_new hq1)).same (same_new hq2)).same (same_new hq3), by decide, by decide, fun e H11 e0 e1 src11 b11 => ?_⟩
          have n1 : q1 ≠ p := by
            obtain ⟨o, ho⟩ := st10.src.some
            exact (ne_of_none ho hq1).symm
          have n2 : q2 ≠ p := by
            obtain ⟨o, ho⟩ := (st10.src.same (same_new (o := .lst [.str ⟨#[c0]⟩]) hq1)).some
            exact (ne_of_none ho hq2).symm
          have n3 : q3 ≠ p := by
            obtain ⟨o, ho⟩ := ((st10.src.same (same_new (o := .lst [.str ⟨#[c0]⟩]) hq1)).same (same_new (o := .tup []) hq2)).some
            exact (ne_of_none ho hq3).symm
          have hg1 : H11 q1 = some (.lst [.str ⟨#[c0]⟩]) := b11 _ _ (same_new hq3 _ _ (same_new hq2 _ _ upd_same)) n1
          have hg2 : H11 q2 = some (.tup []) := b11 _ _ (same_new hq3 _ _ upd_same) n2
          have st11 : Stt p l z 11 H11 rs := (((st10.same (same_new hq1)).same (same_new hq2)).same (same_new hq3)).but src11 b11
          obtain ⟨j, rfl⟩ : ∃ j : Nat, e = (j : Int) := ⟨e.toNat, by omega⟩
          have fa : Asc far := fun c hc => za c (fc c hc)
          have all : ∀ x ∈ ([.str "z", .str (z ++ "g"), .non, .int 5, .ref q1, .bl true, .str (Txt.upper z), .str far, .ref q2, .str " "] : List V), ∃ f, Rp H11 x f ∧ Known K H11 x ∧ rowV z x = false := by
            intro x hx
            simp only [List.mem_cons, List.not_mem_nil, or_false] at hx
            rcases hx with rfl | rfl | rfl | rfl | rfl | rfl | rfl | rfl | rfl | rfl
            · exact ⟨_, .str (by decide +kernel) (by decide +kernel), .inl ⟨_, rfl, by decide +kernel⟩, zn⟩
            · exact ⟨_, .str ga (Nat.le_trans gl (by decide)), .inl ⟨_, rfl, Nat.le_trans gl (by decide)⟩, gn⟩
            · exact ⟨_, .non, knownT "NoneType" (fun _ => nofun) (.base .non) (by decide +kernel), rfl⟩
            · exact ⟨_, .int (by decide +kernel) (by decide +kernel), knownT "int" (fun _ => nofun) (.base (.int _)) (by decide +kernel), rfl⟩
            · exact ⟨_, .lst hg1 ca (by show (1 : Nat) ≤ 100000; decide) cs (Nat.le_trans cl (by decide)), knownT "list" (fun _ => nofun) (.base (.lst hg1)) (by decide +kernel), rfl⟩
            · exact ⟨_, .bl, knownT "bool" (fun _ => nofun) (.base (.bl _)) (by decide +kernel), rfl⟩
            · exact ⟨_, .str ua (Nat.le_trans ul (by decide)), .inl ⟨_, rfl, Nat.le_trans ul (by decide)⟩, un⟩
            · exact ⟨_, .str fa (by omega), .inl ⟨_, rfl, Nat.le_trans (Nat.le_of_eq fl) (by decide)⟩, by
                show (decide (far.length ≤ 2000) && _) = false
                rw [decide_eq_false (by omega), Bool.false_and]⟩
            · exact ⟨_, .tup hg2, knownT "tuple" (fun _ => nofun) (.base (.tup hg2)) (by decide +kernel), rfl⟩
            · exact ⟨_, .str (by decide +kernel) (by decide +kernel), .inl ⟨_, rfl, by decide +kernel⟩, bn⟩
          have hj : j < 10 := by omega
          refine ⟨q3, _, _, _, rfl, rfl, SqL.of (b11 _ _ upd_same n3), atI_nat (List.getElem?_eq_getElem hj), ?_⟩
          obtain ⟨fb, rb, kb, nb⟩ := all _ (List.getElem_mem (l := ([.str "z", .str (z ++ "g"), .non, .int 5, .ref q1, .bl true, .str (Txt.upper z), .str far, .ref q2, .str " "] : List V)) hj)
          generalize ([.str "z", .str (z ++ "g"), .non, .int 5, .ref q1, .bl true, .str (Txt.upper z), .str far, .ref q2, .str " "] : List V)[j] = bad at rb kb nb ⊢
          clear all
          clear hg1 hg2 n1 n2 n3 b11 src11 e0 e1 hj st10 s10
          -- bad and the empty row
          have row0 : rowB z (Str.ofString "") = true := by
            unfold rowB
            rw [decide_eq_true (by decide +kernel), Bool.true_and]
            exact List.all_eq_true.mpr fun c hc => absurd hc (by rw [show (Str.ofString "").cps.toList = [] by decide +kernel]; exact List.not_mem_nil)
          refine ⟨_, rfl, _, rfl, .str z, bad, rfl, kz _, nz _ _ _, fun _ => ⟨z, rfl, kb, fun H12 s12 => ⟨_, _, rfl, rfl, _, rfl, iteNS nb ?_⟩⟩⟩
          refine ⟨_, rfl, .str z, .str (Str.ofString ""), rfl, kz _, nz _ _ _, fun _ => ⟨z, rfl, .inl ⟨_, rfl, by decide +kernel⟩, fun H13 s13 => ⟨_, _, rfl, rfl, _, rfl, iteNS row0 ?_⟩⟩⟩
          have s11 := s12.trans s13
          have st13 := st11.same s11
          replace rb := rb.mono s11
          replace kb := kb.mono s11
          clear st11 s11 s12 s13 row0
          -- the last row
          refine (fun (rest : ∀ (H' : Hp), Same H13 H' → (?J : Hp → Prop) H') => ?use) ?pf
          case use =>
            refine ⟨_, rfl, V.ref l, _, rfl, .inl ⟨_, SqL.of st13.row, rfl⟩, _, _, rfl, rfl, _, rfl, ite2 (fun c => ?_) (fun c => ?_)⟩
            rotate_left
            · refine iteF ?_
              exact rest H13 (Same.refl H13)
            have c1 : 0 < rs.length := by
              have c2 : (0 : Int) < ((rs.map V.str).length : Int) := of_decide_eq_true c
              rw [List.length_map] at c2
              omega
            obtain ⟨front, v, ev⟩ : ∃ front v, rs = front ++ [v] := ⟨rs.dropLast, rs.getLast (List.ne_nil_of_length_pos c1), (List.dropLast_concat_getLast _).symm⟩
            have em : rs.map V.str = front.map V.str ++ [V.str v] := by rw [ev, List.map_append]; rfl
            have hv : v ∈ rs := by rw [ev]; exact List.mem_append_right _ List.mem_cons_self
            refine ⟨_, rfl, _, rfl, 1, rfl, l, _, _, V.str v, rfl, rfl, SqL.of st13.row, (by rw [em]; exact atI_last _ _), ?_⟩
            refine ⟨.str z, .str v, rfl, kz _, nz _ _ _, fun _ => ⟨z, rfl, .inl ⟨_, rfl, Nat.le_trans (st13.good v hv).2 (by decide)⟩, fun H14 s14 => ⟨_, _, rfl, rfl, _, rfl, iteNS (isRow v hv) ?_⟩⟩⟩
            exact rest H14 s14
          case pf =>
            intro H14 s14
            have st14 := st13.same s14
            replace rb := rb.mono s14
            replace kb := kb.mono s14
            clear st13 s14
            dsimp only [List.set_cons_succ, List.set_cons_zero]
            -- the mixed list
            refine ⟨_, rfl, _, rfl, V.ref l, _, rfl, .inl ⟨_, SqL.of st14.row, rfl⟩, _, _, rfl, rfl, p, _, rfl, st14.src, (by omega), (by have := st14.len; rw [List.length_map]; omega), fun e H15 e0 e1 src15 b15 => ?_⟩
            rw [List.length_map] at e1
            have l11 := st14.len
            obtain ⟨pl, rfl⟩ : ∃ j : Nat, e = (j : Int) := ⟨e.toNat, by omega⟩
            have lpl : pl ≤ rs.length := by omega
            have st15 := st14.but src15 b15
            have lb := kb.len
            replace rb := rb.but st14.src b15
            clear kb b15 src15 st14 e0 e1
            refine (fun (rest : ∀ (H' : Hp) (m : Addr), Same H15 H' → m ≠ p → H' m = some (.lst ((rs.take pl).map V.str ++ [bad] ++ (rs.drop pl).map V.str ++ [.int 7])) → (?I : Hp → Addr → Prop) H' m) => ?use) ?pf
            case use =>
              refine ⟨_, rfl, _, rfl, _, rfl, l, _, rfl, SqL.of st15.row, fun C1 hC1 => ?_⟩
              refine ⟨_, rfl, (by show 1 ≤ sizeLine; decide), fun C2 hC2 => ?_⟩
              have w1 := cutV_length (rs.map V.str) none (some (pl : Int))
              have w2 := cutV_length (rs.map V.str) (some (pl : Int)) none
              rw [List.length_map] at w1 w2
              refine ⟨C1, C2, _, _, rfl, rfl, same_new hC2 _ _ upd_same, upd_same, ?_, fun C3 hC3 => ?_⟩
              · rw [List.length_singleton]
                exact Nat.le_trans (show _ ≤ 12 by omega) (by decide)
              refine ⟨_, rfl, _, rfl, _, rfl, l, _, rfl, SqL.of (same_new hC3 _ _ (same_new hC2 _ _ (same_new hC1 _ _ st15.row))), fun C4 hC4 => ?_⟩
              refine ⟨C3, C4, _, _, rfl, rfl, same_new hC4 _ _ upd_same, upd_same, ?_, fun C5 hC5 => ?_⟩
              · rw [List.length_append, List.length_singleton]
                exact Nat.le_trans (show _ ≤ 30 by omega) (by decide)
              refine ⟨(by show 1 ≤ sizeLine; decide), fun C6 hC6 => ?_⟩
              refine ⟨C5, C6, _, _, rfl, rfl, same_new hC6 _ _ upd_same, upd_same, ?_, fun m hm => ?_⟩
              · rw [List.length_append, List.length_append, List.length_singleton, List.length_singleton]
                exact Nat.le_trans (show _ ≤ 40 by omega) (by decide)
              have sm := (((((same_new (o := .lst (cutV (rs.map V.str) none (some (pl : Int)))) hC1).trans (same_new (o := .lst [bad]) hC2)).trans (same_new (o := .lst (cutV (rs.map V.str) none (some (pl : Int)) ++ [bad])) hC3)).trans
                (same_new (o := .lst (cutV (rs.map V.str) (some (pl : Int)) none)) hC4)).trans (same_new (o := .lst (cutV (rs.map V.str) none (some (pl : Int)) ++ [bad] ++ cutV (rs.map V.str) (some (pl : Int)) none)) hC5)).trans (same_new (o := .lst [.int 7]) hC6)
              have mp : m ≠ p := by
                obtain ⟨o, ho⟩ := (st15.src.same sm).some
                exact (ne_of_none ho hm).symm
              have sm2 := sm.trans (same_new (o := .lst (cutV (rs.map V.str) none (some (pl : Int)) ++ [bad] ++ cutV (rs.map V.str) (some (pl : Int)) none ++ [.int 7])) hm)
              have em : (upd (upd (upd (upd (upd (upd (upd H15 C1 (.lst (cutV (rs.map V.str) none (some (pl : Int))))) C2 (.lst [bad])) C3 (.lst (cutV (rs.map V.str) none (some (pl : Int)) ++ [bad]))) C4 (.lst (cutV (rs.map V.str) (some (pl : Int)) none))) C5 (.lst (cutV (rs.map V.str) none (some (pl : Int)) ++ [bad] ++ cutV (rs.map V.str) (some (pl : Int)) none))) C6 (.lst [.int 7])) m (.lst (cutV (rs.map V.str) none (some (pl : Int)) ++ [bad] ++ cutV (rs.map V.str) (some (pl : Int)) none ++ [.int 7]))) m = some (.lst ((rs.take pl).map V.str ++ [bad] ++ (rs.drop pl).map V.str ++ [.int 7])) := by rw [upd_same, cut_to, cut_from]
              generalize upd (upd (upd (upd (upd (upd (upd H15 C1 (.lst (cutV (rs.map V.str) none (some (pl : Int))))) C2 (.lst [bad])) C3 (.lst (cutV (rs.map V.str) none (some (pl : Int)) ++ [bad]))) C4 (.lst (cutV (rs.map V.str) (some (pl : Int)) none))) C5 (.lst (cutV (rs.map V.str) none (some (pl : Int)) ++ [bad] ++ cutV (rs.map V.str) (some (pl : Int)) none))) C6 (.lst [.int 7])) m (.lst (cutV (rs.map V.str) none (some (pl : Int)) ++ [bad] ++ cutV (rs.map V.str) (some (pl : Int)) none ++ [.int 7])) = G at sm2 em ⊢
              exact rest G m sm2 mp em
            case pf =>
              intro H16 m s16 mp hm
              have st16 := st15.same s16
              have rb16 := rb.mono s16
              clear rb st15 s16 H15
              dsimp only [List.set_cons_succ, List.set_cons_zero]
              have okR : strOk (Str.ofString "row") = true := by decide +kernel
              have okA : strOk (Str.ofString "asks") = true := by decide +kernel
              have lt : ((rs.take pl).map V.str).length = pl := by rw [List.length_map, List.length_take]; omega
              have gx : ((rs.take pl).map V.str ++ [bad] ++ (rs.drop pl).map V.str ++ [.int 7] : List V)[pl]? = some bad := by
                rw [List.getElem?_append_left (by rw [List.length_append, List.length_append, lt, List.length_singleton]; omega), List.getElem?_append_left (by rw [List.length_append, lt, List.length_singleton]; omega),
                  List.getElem?_append_right (by omega), lt, Nat.sub_self]
                rfl
              have before : ∀ (j : Nat) (u : V), j < pl → ((rs.take pl).map V.str ++ [bad] ++ (rs.drop pl).map V.str ++ [.int 7] : List V)[j]? = some u → rowV z u = true := fun j u hj hu => by
                rw [List.getElem?_append_left (by rw [List.length_append, List.length_append, lt, List.length_singleton]; omega), List.getElem?_append_left (by rw [List.length_append, lt, List.length_singleton]; omega),
                  List.getElem?_append_left (by omega)] at hu
                obtain ⟨r, hr1, rfl⟩ := get_str hu
                exact isRow r (List.mem_of_mem_take (List.mem_of_getElem? hr1))
              have knX : ∀ H', Rp H' bad fb → ∀ u ∈ ((rs.take pl).map V.str ++ [bad] ++ (rs.drop pl).map V.str ++ [.int 7] : List V), Known K H' u := fun H' rb' u hu => by
                rcases List.mem_append.mp hu with hu | hu
                · rcases List.mem_append.mp hu with hu | hu
                  · rcases List.mem_append.mp hu with hu | hu
                    · exact knR H' u (by
                        obtain ⟨r, hr1, rfl⟩ := List.mem_map.mp hu
                        exact List.mem_map.mpr ⟨r, List.mem_of_mem_take hr1, rfl⟩)
                    · rw [List.mem_singleton.mp hu]
                      exact rb'.known lb
                  · exact knR H' u (by
                      obtain ⟨r, hr1, rfl⟩ := List.mem_map.mp hu
                      exact List.mem_map.mpr ⟨r, List.mem_of_mem_drop hr1, rfl⟩)
                · rw [List.mem_singleton.mp hu]
                  exact knownT "int" (fun _ => nofun) (.base (.int _)) (by decide +kernel)
              -- the error of the mixed list
              refine ⟨_, rfl, _, rfl, .str z, .ref m, fb, rfl, kz _, .inr ⟨z, rfl, zq, fun p1 H17 s17 hp1 h1 => ?_, .inr ⟨m, _, pl, bad, rfl, hm, knX _ rb16, gx, nb, before, rb16.is⟩⟩⟩
              refine ⟨_, rfl, bad, fb, rfl, (rb16.mono s17).is, (by show 2 ≤ sizeLine; decide), fun p2 hp2 => ⟨_, _, dp_pair (same_new hp2 _ _ h1), dp_pair upd_same, shaped_pair okR (rb16.ok g), shaped_pair okR (rb16.ok g), _, rfl, ?_⟩⟩
              rw [eqv_pair okR (rb16.ok g)]
              refine iteF ?_
              have st18 := (st16.same s17).same (same_new (o := .tup [.str "row", .str (fb g)]) hp2)
              have hm18 := same_new (o := .tup [.str "row", .str (fb g)]) hp2 _ _ (s17 _ _ hm)
              clear st16 s17 hm knX before gx rb16 hp1 h1 hp2 lt
              dsimp only [List.set_cons_succ, List.set_cons_zero]
              -- whole
              intro q1 hq1
              refine ⟨_, rfl, (by show 5 ≤ sizeLine; decide), fun q2 hq2 => ?_⟩
              refine ⟨_, rfl, p, 5, rfl, (st18.src.same (same_new hq1)).same (same_new hq2), by decide, by decide, fun e H19 e0 e1 src19 b19 => ?_⟩
              have n1 : q1 ≠ p := by
                obtain ⟨o, ho⟩ := st18.src.some
                exact (ne_of_none ho hq1).symm
              have n2 : q2 ≠ p := by
                obtain ⟨o, ho⟩ := (st18.src.same (same_new (o := .dK []) hq1)).some
                exact (ne_of_none ho hq2).symm
              have hg1 : H19 q1 = some (.dK []) := b19 _ _ (same_new hq2 _ _ upd_same) n1
              have st19 : Stt p l z 11 H19 rs := ((st18.same (same_new hq1)).same (same_new hq2)).but src19 b19
              have hm19 := b19 _ _ (same_new hq2 _ _ (same_new hq1 _ _ hm18)) mp
              obtain ⟨j, rfl⟩ : ∃ j : Nat, e = (j : Int) := ⟨e.toNat, by omega⟩
              have all : ∀ x ∈ ([.non, .str "ab", .int 5, .ref q1, .str z] : List V), ∃ f t, Rp H19 x f ∧ TyX K H19 x t ∧ PySem.W.kitAny K t [.type "list", .type "tuple"] = some false := by
                intro x hx
                simp only [List.mem_cons, List.not_mem_nil, or_false] at hx
                rcases hx with rfl | rfl | rfl | rfl | rfl
                · exact ⟨_, _, .non, .base .non, kit2 "NoneType" (by decide +kernel) (by decide +kernel)⟩
                · exact ⟨_, _, .str (by decide +kernel) (by decide +kernel), .base (.str _), kit2 "str" (by decide +kernel) (by decide +kernel)⟩
                · exact ⟨_, _, .int (by decide +kernel) (by decide +kernel), .base (.int _), kit2 "int" (by decide +kernel) (by decide +kernel)⟩
                · exact ⟨_, _, .dct hg1, .base (.dK hg1), kit2 "dict" (by decide +kernel) (by decide +kernel)⟩
                · exact ⟨_, _, .str za (Nat.le_trans z3 (by decide)), .base (.str _), kit2 "str" (by decide +kernel) (by decide +kernel)⟩
              have hj : j < 5 := by omega
              refine ⟨q2, _, _, _, rfl, rfl, SqL.of (b19 _ _ upd_same n2), atI_nat (List.getElem?_eq_getElem hj), ?_⟩
              obtain ⟨fw, tw, rw', tyw, hkw⟩ := all _ (List.getElem_mem (l := ([.non, .str "ab", .int 5, .ref q1, .str z] : List V)) hj)
              generalize ([.non, .str "ab", .int 5, .ref q1, .str z] : List V)[j] = whole at rw' tyw hkw ⊢
              clear all hg1 n1 n2 b19 src19 e0 e1 hj st18 hm18
              refine ⟨_, rfl, _, rfl, .str z, whole, fw, rfl, kz _, .inr ⟨z, rfl, zq, fun p1 H20 s20 hp1 h1 => ?_, .inl ⟨tw, tyw, hkw, rw'.is⟩⟩⟩
              refine ⟨_, rfl, whole, fw, rfl, (rw'.mono s20).is, (by show 2 ≤ sizeLine; decide), fun p2 hp2 => ⟨_, _, dp_pair (same_new hp2 _ _ h1), dp_pair upd_same, shaped_pair okR (rw'.ok g), shaped_pair okR (rw'.ok g), _, rfl, ?_⟩⟩
              rw [eqv_pair okR (rw'.ok g)]
              refine iteF ?_
              have st21 := (st19.same s20).same (same_new (o := .tup [.str "row", .str (fw g)]) hp2)
              have hm21 := same_new (o := .tup [.str "row", .str (fw g)]) hp2 _ _ (s20 _ _ hm19)
              clear st19 s20 hm19 hp1 h1 hp2 rw' tyw hkw
              dsimp only [List.set_cons_succ, List.set_cons_zero]
              -- odd asks
              refine ⟨(by show 1 ≤ sizeLine; decide), fun q1 hq1 => ?_⟩
              refine ⟨(by show 12 ≤ sizeLine; decide), fun q2 hq2 => ?_⟩
              refine ⟨_, rfl, p, 12, rfl, (st21.src.same (same_new hq1)).same (same_new hq2), by decide, by decide, fun e H22 e0 e1 src22 b22 => ?_⟩
              have n1 : q1 ≠ p := by
                obtain ⟨o, ho⟩ := st21.src.some
                exact (ne_of_none ho hq1).symm
              have n2 : q2 ≠ p := by
                obtain ⟨o, ho⟩ := (st21.src.same (same_new (o := .lst [.str "a"]) hq1)).some
                exact (ne_of_none ho hq2).symm
              have hg1 : H22 q1 = some (.lst [.str "a"]) := b22 _ _ (same_new hq2 _ _ upd_same) n1
              have st22 : Stt p l z 11 H22 rs := ((st21.same (same_new hq1)).same (same_new hq2)).but src22 b22
              have hm22 := b22 _ _ (same_new hq2 _ _ (same_new hq1 _ _ hm21)) mp
              obtain ⟨j, rfl⟩ : ∃ j : Nat, e = (j : Int) := ⟨e.toNat, by omega⟩
              have tx : ∀ y : Str, Asc y ∧ y.length ≤ 100 ∧ asksB y = false → ∃ f, Rp H22 (.str y) f ∧ Known K H22 (.str y) ∧ asksV (.str y) = false := fun y ⟨h1, h2, h3⟩ =>
                ⟨_, .str h1 (Nat.le_trans h2 (by decide)), .inl ⟨_, rfl, Nat.le_trans h2 (by decide)⟩, h3⟩
              have all : ∀ x ∈ ([.str "", .str "ba", .str "aa", .str "abcde", .str "i", .str "aB", .int 5, .non, .ref q1, .bl true, .str "ha", .str "abz"] : List V), ∃ f, Rp H22 x f ∧ Known K H22 x ∧ asksV x = false := by
                intro x hx
                simp only [List.mem_cons, List.not_mem_nil, or_false] at hx
                rcases hx with rfl | rfl | rfl | rfl | rfl | rfl | rfl | rfl | rfl | rfl | rfl | rfl
                · exact tx _ (by decide +kernel)
                · exact tx _ (by decide +kernel)
                · exact tx _ (by decide +kernel)
                · exact tx _ (by decide +kernel)
                · exact tx _ (by decide +kernel)
                · exact tx _ (by decide +kernel)
                · exact ⟨_, .int (by decide +kernel) (by decide +kernel), knownT "int" (fun _ => nofun) (.base (.int _)) (by decide +kernel), rfl⟩
                · exact ⟨_, .non, knownT "NoneType" (fun _ => nofun) (.base .non) (by decide +kernel), rfl⟩
                · exact ⟨_, .lst hg1 (by decide +kernel) (by decide +kernel) (by decide +kernel) (by decide +kernel), knownT "list" (fun _ => nofun) (.base (.lst hg1)) (by decide +kernel), rfl⟩
                · exact ⟨_, .bl, knownT "bool" (fun _ => nofun) (.base (.bl _)) (by decide +kernel), rfl⟩
                · exact tx _ (by decide +kernel)
                · exact tx _ (by decide +kernel)
              have hj : j < 12 := by omega
              refine ⟨q2, _, _, _, rfl, rfl, SqL.of (b22 _ _ upd_same n2), atI_nat (List.getElem?_eq_getElem hj), ?_⟩
              obtain ⟨fo, ro, ko, no⟩ := all _ (List.getElem_mem (l := ([.str "", .str "ba", .str "aa", .str "abcde", .str "i", .str "aB", .int 5, .non, .ref q1, .bl true, .str "ha", .str "abz"] : List V)) hj)
              generalize ([.str "", .str "ba", .str "aa", .str "abcde", .str "i", .str "aB", .int 5, .non, .ref q1, .bl true, .str "ha", .str "abz"] : List V)[j] = odd at ro ko no ⊢
              clear all tx hg1 n1 n2 b22 src22 e0 e1 hj st21 hm21
              dsimp only [List.set_cons_succ, List.set_cons_zero]
              refine ⟨_, rfl, odd, rfl, ko, fun H23 s23 => ⟨_, _, rfl, rfl, _, rfl, iteNS no ?_⟩⟩
              refine ⟨_, rfl, .str z, rfl, kz _, fun H24 s24 => ⟨_, _, rfl, rfl, _, rfl, iteNS zq ?_⟩⟩
              have s2 := s23.trans s24
              have ro24 := ro.mono s2
              refine ⟨_, rfl, _, rfl, odd, .ref m, fo, rfl, ko.mono s2, .inl ⟨no, ro24.is, fun p1 H25 s25 hp1 h1 => ?_⟩⟩
              refine ⟨_, rfl, odd, fo, rfl, (ro24.mono s25).is, (by show 2 ≤ sizeLine; decide), fun p2 hp2 => ⟨_, _, dp_pair (same_new hp2 _ _ h1), dp_pair upd_same, shaped_pair okA (ro24.ok g), shaped_pair okA (ro24.ok g), _, rfl, ?_⟩⟩
              rw [eqv_pair okA (ro24.ok g)]
              refine iteF ?_
              have s26 := (s2.trans s25).trans (same_new (o := .tup [.str "asks", .str (fo g)]) hp2)
              have st26 := st22.same s26
              have ro26 := ro.mono s26
              have ko26 := ko.mono s26
              clear st22 hm22 ro ko s23 s24 s2 ro24 s25 hp1 h1 s26
              -- the law's own try
              refine ⟨_, rfl, odd, .int 7, rfl, ko26, fun _ d H27 s27 h27 => ?_, fun yes => ?_⟩
              rotate_left
              · rw [no] at yes
                cases yes
              refine ⟨true, Xe.xAA, fun _ a0 _ => ?_, fun z => nomatch z⟩
              refine ⟨_, rfl, rfl, rfl, d, odd, rfl, h27, odd, fo, rfl, (ro26.mono s27).is, _, rfl, odd, fo, rfl, (ro26.mono s27).is, rfl, _, rfl, iteNS rfl ?_⟩
              have st27 := st26.same s27
              clear st26 ro26 ko26 s27 h27
              dsimp only [List.set_cons_succ, List.set_cons_zero]
              -- right asks
              refine ⟨(by show 7 ≤ sizeLine; decide), fun q2 hq2 => ?_⟩
              refine ⟨_, rfl, p, 7, rfl, st27.src.same (same_new hq2), by decide, by decide, fun e H28 e0 e1 src28 b28 => ?_⟩
              have n2 : q2 ≠ p := by
                obtain ⟨o, ho⟩ := st27.src.some
                exact (ne_of_none ho hq2).symm
              obtain ⟨j, rfl⟩ : ∃ j : Nat, e = (j : Int) := ⟨e.toNat, by omega⟩
              have all : ∀ x ∈ ([.str "a", .str "h", .str "abcd", .str "efgh", .str "ah", .str "bdfh", .str "gh"] : List V), ∃ r ∈ menuR, x = V.str r := by
                intro x hx
                exact List.mem_map.mp (show x ∈ menuR.map V.str from hx) |>.elim fun r h => ⟨r, h.1, h.2.symm⟩
              have hj : j < 7 := by omega
              refine ⟨q2, _, _, _, rfl, rfl, SqL.of (b28 _ _ upd_same n2), atI_nat (List.getElem?_eq_getElem hj), ?_⟩
              obtain ⟨r, hr1, er⟩ := all _ (List.getElem_mem (l := ([.str "a", .str "h", .str "abcd", .str "efgh", .str "ah", .str "bdfh", .str "gh"] : List V)) hj)
              generalize ([.str "a", .str "h", .str "abcd", .str "efgh", .str "ah", .str "bdfh", .str "gh"] : List V)[j] = right at er ⊢
              subst er
              obtain ⟨f1, f2, f3, f4, f5⟩ := right_facts r hr1
              have kr : ∀ H', Known K H' (.str r) := fun H' => .inl ⟨r, rfl, Nat.le_trans f2 (by decide)⟩
              have nr : ∀ C H' E', asksV (.str r) = false → Bears C (.str r) H' E' := fun C H' E' h => by
                have h' : asksB r = false := h
                rw [f1] at h'
                cases h'
              refine ⟨_, rfl, .str r, rfl, kr _, fun H29 s29 => ⟨true, rfl, trivial, _, rfl, iteY (congrArg V.bl f1) ?_⟩⟩
              refine ⟨_, rfl, _, rfl, _, rfl, r, 0, _, rfl, rfl, Nat.le_trans f2 (by decide), atI_nat (j := 0) f3, r, _, rfl, rfl, Nat.le_trans (show r.length + 1 ≤ 5 by omega) (by decide), ?_⟩
              refine ⟨.str r, _, rfl, kr _, nr _ _ _, fun _ => ⟨r, rfl, .inl ⟨_, rfl, Nat.le_trans f5 (by decide)⟩, fun H30 s30 => ⟨true, rfl, trivial, ?_⟩⟩⟩
              have e9 : decide (V.bl (rowV r (.str (r ++ ⟨#[r.cps.toList.getD 0 0]⟩))) = V.bl true) = true := decide_eq_true (congrArg V.bl f4)
              rw [e9]
              exact q H30
end
end Aw
namespace Aw
open PySem PySem.Spec PyProof.Rows L2
theorem all_mk {P : Program} {w : World} {K : PySem.W.Frag} {h : Heap} {mg : Str → Option Value} {fa fTuple fAsks fRow fRowOf fOrd fCell fSrc fDraw fInt fExact fLAsks fLRow fBef fDue fErr fLaw cAfter cWrong cAsks cRow fInit : Addr} {t1 t2 t3 : Tok}
    {odTuple anTuple odAsks anAsks odRow anRow odRowOf anRowOf odOrd anOrd odCell anCell odSrc anSrc odDraw anDraw odInt anInt odExact anExact odLAsks anLAsks odLRow anLRow odBef anBef odDue anDue odErr anErr odLaw anLaw odInit anInit : Option Addr} {slTuple slAsks slRow slRowOf slOrd slCell slSrc slDraw slInt slExact slLAsks slLRow slBef slDue slErr slLaw slInit : Array (Option Value)}
    {ocTuple dcTuple pmTuple cdTuple ctTuple ocAsks dcAsks pmAsks cdAsks ctAsks ocRow dcRow pmRow cdRow ctRow ocRowOf dcRowOf pmRowOf cdRowOf ctRowOf ocOrd dcOrd pmOrd cdOrd ctOrd ocCell dcCell pmCell cdCell ctCell ocSrc dcSrc pmSrc cdSrc ctSrc ocDraw dcDraw pmDraw cdDraw ctDraw ocInt dcInt pmInt cdInt ctInt ocExact dcExact pmExact cdExact ctExact ocLAsks dcLAsks pmLAsks cdLAsks ctLAsks ocLRow dcLRow pmLRow cdLRow ctLRow ocBef dcBef pmBef cdBef ctBef ocDue dcDue pmDue cdDue ctDue ocErr dcErr pmErr cdErr ctErr ocLaw dcLaw pmLaw cdLaw ctLaw ocInit dcInit pmInit cdInit ctInit kVTuple kVAsks kVRow kVRowOf kVOrd kVCell kVSrc kVDraw kVInt kVExact kVLAsks kVLRow kVBef kVDue kVErr kVLaw : Value}
    {nmAsks qAsks : Str} {NAsks : Addr} {bsAsks : List Value} {snAsks : List Str} {subAsks : List Value} {abAsks : Bool} {colAsks : Option Bool} {ddAsks : Option Addr} {m0Asks m1Asks m2Asks m3Asks m5Asks : Option Value}
    {nmRow qRow : Str} {NRow : Addr} {bsRow : List Value} {snRow : List Str} {subRow : List Value} {abRow : Bool} {colRow : Option Bool} {ddRow : Option Addr} {m0Row m1Row m2Row m3Row m5Row : Option Value}
    (X : K.In h) (G : h.Ns mainGlobals mg) (hfa : mg "law" = some (.ref fa))
    (n_len : PySem.W.nsIn K mainGlobals "len" = some none)
    (n_int : PySem.W.nsIn K mainGlobals "int" = some none)
    (n_sum : PySem.W.nsIn K mainGlobals "sum" = some none)
    (n_abs : PySem.W.nsIn K mainGlobals "abs" = some none)
    (n_str : PySem.W.nsIn K mainGlobals "str" = some none)
    (n_bool : PySem.W.nsIn K mainGlobals "bool" = some none)
    (n_list : PySem.W.nsIn K mainGlobals "list" = some none)
    (n_tuple : PySem.W.nsIn K mainGlobals "tuple" = some none)
    (n_set : PySem.W.nsIn K mainGlobals "set" = some none)
    (n_zip : PySem.W.nsIn K mainGlobals "zip" = some none)
    (n_all : PySem.W.nsIn K mainGlobals "all" = some none)
    (n_range : PySem.W.nsIn K mainGlobals "range" = some none)
    (n_isinstance : PySem.W.nsIn K mainGlobals "isinstance" = some none)
    (n_sorted : PySem.W.nsIn K mainGlobals "sorted" = some none)
    (n_repr : PySem.W.nsIn K mainGlobals "repr" = some none)
    (n_ValueError : PySem.W.nsIn K mainGlobals "ValueError" = some none)
    (m_LETTERS : PySem.W.nsIn K mainGlobals "LETTERS" = some (some (.str "abcdefgh" t1)))
    (m_MOST_ASKS : PySem.W.nsIn K mainGlobals "MOST_ASKS" = some (some (.int 4 t2)))
    (m_LONGEST_ROW : PySem.W.nsIn K mainGlobals "LONGEST_ROW" = some (some (.int 2000 t3)))
    (m_AfterError : PySem.W.nsIn K mainGlobals "AfterError" = some (some (.ref cAfter)))
    (m_WrongThing : PySem.W.nsIn K mainGlobals "WrongThing" = some (some (.ref cWrong)))
    (m_BadAsks : PySem.W.nsIn K mainGlobals "BadAsks" = some (some (.ref cAsks)))
    (m_BadRow : PySem.W.nsIn K mainGlobals "BadRow" = some (some (.ref cRow)))
    (aTuple : PySem.W.nsIn K mainGlobals "is_tuple" = some (some (.ref fTuple)))
    (lTuple : K.lookup fTuple = some ⟨ocTuple, odTuple, .func (PySem.W.fnOf "is_tuple" "is_tuple" (defArgs s_is_tuple) (defBody s_is_tuple) (defScope s_is_tuple) .none kVTuple dcTuple pmTuple anTuple cdTuple ctTuple), slTuple⟩)
    (ccTuple : PySem.W.codeIn K cdTuple "is_tuple" = true)
    (kkTuple : PySem.W.keepIn K (.ref fTuple) = true)
    (aAsks : PySem.W.nsIn K mainGlobals "is_asks" = some (some (.ref fAsks)))
    (lAsks : K.lookup fAsks = some ⟨ocAsks, odAsks, .func (PySem.W.fnOf "is_asks" "is_asks" (defArgs s_is_asks) (defBody s_is_asks) (defScope s_is_asks) .none kVAsks dcAsks pmAsks anAsks cdAsks ctAsks), slAsks⟩)
    (ccAsks : PySem.W.codeIn K cdAsks "is_asks" = true)
    (kkAsks : PySem.W.keepIn K (.ref fAsks) = true)
    (aRow : PySem.W.nsIn K mainGlobals "is_row" = some (some (.ref fRow)))
    (lRow : K.lookup fRow = some ⟨ocRow, odRow, .func (PySem.W.fnOf "is_row" "is_row" (defArgs s_is_row) (defBody s_is_row) (defScope s_is_row) .none kVRow dcRow pmRow anRow cdRow ctRow), slRow⟩)
    (ccRow : PySem.W.codeIn K cdRow "is_row" = true)
    (kkRow : PySem.W.keepIn K (.ref fRow) = true)
    (aRowOf : PySem.W.nsIn K mainGlobals "is_row_of" = some (some (.ref fRowOf)))
    (lRowOf : K.lookup fRowOf = some ⟨ocRowOf, odRowOf, .func (PySem.W.fnOf "is_row_of" "is_row_of" (defArgs s_is_row_of) (defBody s_is_row_of) (defScope s_is_row_of) .none kVRowOf dcRowOf pmRowOf anRowOf cdRowOf ctRowOf), slRowOf⟩)
    (ccRowOf : PySem.W.codeIn K cdRowOf "is_row_of" = true)
    (kkRowOf : PySem.W.keepIn K (.ref fRowOf) = true)
    (aOrd : PySem.W.nsIn K mainGlobals "ordered" = some (some (.ref fOrd)))
    (lOrd : K.lookup fOrd = some ⟨ocOrd, odOrd, .func (PySem.W.fnOf "ordered" "ordered" (defArgs s_ordered) (defBody s_ordered) (defScope s_ordered) .none kVOrd dcOrd pmOrd anOrd cdOrd ctOrd), slOrd⟩)
    (ccOrd : PySem.W.codeIn K cdOrd "ordered" = true)
    (kkOrd : PySem.W.keepIn K (.ref fOrd) = true)
    (aCell : PySem.W.nsIn K mainGlobals "_law_cell" = some (some (.ref fCell)))
    (lCell : K.lookup fCell = some ⟨ocCell, odCell, .func (PySem.W.fnOf "_law_cell" "_law_cell" (defArgs s__law_cell) (defBody s__law_cell) (defScope s__law_cell) .none kVCell dcCell pmCell anCell cdCell ctCell), slCell⟩)
    (ccCell : PySem.W.codeIn K cdCell "_law_cell" = true)
    (kkCell : PySem.W.keepIn K (.ref fCell) = true)
    (aSrc : PySem.W.nsIn K mainGlobals "_law_source" = some (some (.ref fSrc)))
    (lSrc : K.lookup fSrc = some ⟨ocSrc, odSrc, .func (PySem.W.fnOf "_law_source" "_law_source" (defArgs s__law_source) (defBody s__law_source) (defScope s__law_source) .none kVSrc dcSrc pmSrc anSrc cdSrc ctSrc), slSrc⟩)
    (ccSrc : PySem.W.codeIn K cdSrc "_law_source" = true)
    (kkSrc : PySem.W.keepIn K (.ref fSrc) = true)
    (aDraw : PySem.W.nsIn K mainGlobals "_law_draw" = some (some (.ref fDraw)))
    (lDraw : K.lookup fDraw = some ⟨ocDraw, odDraw, .func (PySem.W.fnOf "_law_draw" "_law_draw" (defArgs s__law_draw) (defBody s__law_draw) (defScope s__law_draw) .none kVDraw dcDraw pmDraw anDraw cdDraw ctDraw), slDraw⟩)
    (ccDraw : PySem.W.codeIn K cdDraw "_law_draw" = true)
    (kkDraw : PySem.W.keepIn K (.ref fDraw) = true)
    (aInt : PySem.W.nsIn K mainGlobals "_law_is_int" = some (some (.ref fInt)))
    (lInt : K.lookup fInt = some ⟨ocInt, odInt, .func (PySem.W.fnOf "_law_is_int" "_law_is_int" (defArgs s__law_is_int) (defBody s__law_is_int) (defScope s__law_is_int) .none kVInt dcInt pmInt anInt cdInt ctInt), slInt⟩)
    (ccInt : PySem.W.codeIn K cdInt "_law_is_int" = true)
    (kkInt : PySem.W.keepIn K (.ref fInt) = true)
    (aExact : PySem.W.nsIn K mainGlobals "_law_exact" = some (some (.ref fExact)))
    (lExact : K.lookup fExact = some ⟨ocExact, odExact, .func (PySem.W.fnOf "_law_exact" "_law_exact" (defArgs s__law_exact) (defBody s__law_exact) (defScope s__law_exact) .none kVExact dcExact pmExact anExact cdExact ctExact), slExact⟩)
    (ccExact : PySem.W.codeIn K cdExact "_law_exact" = true)
    (kkExact : PySem.W.keepIn K (.ref fExact) = true)
    (aLAsks : PySem.W.nsIn K mainGlobals "_law_asks" = some (some (.ref fLAsks)))
    (lLAsks : K.lookup fLAsks = some ⟨ocLAsks, odLAsks, .func (PySem.W.fnOf "_law_asks" "_law_asks" (defArgs s__law_asks) (defBody s__law_asks) (defScope s__law_asks) .none kVLAsks dcLAsks pmLAsks anLAsks cdLAsks ctLAsks), slLAsks⟩)
    (ccLAsks : PySem.W.codeIn K cdLAsks "_law_asks" = true)
    (kkLAsks : PySem.W.keepIn K (.ref fLAsks) = true)
    (aLRow : PySem.W.nsIn K mainGlobals "_law_row" = some (some (.ref fLRow)))
    (lLRow : K.lookup fLRow = some ⟨ocLRow, odLRow, .func (PySem.W.fnOf "_law_row" "_law_row" (defArgs s__law_row) (defBody s__law_row) (defScope s__law_row) .none kVLRow dcLRow pmLRow anLRow cdLRow ctLRow), slLRow⟩)
    (ccLRow : PySem.W.codeIn K cdLRow "_law_row" = true)
    (kkLRow : PySem.W.keepIn K (.ref fLRow) = true)
    (aBef : PySem.W.nsIn K mainGlobals "_law_before" = some (some (.ref fBef)))
    (lBef : K.lookup fBef = some ⟨ocBef, odBef, .func (PySem.W.fnOf "_law_before" "_law_before" (defArgs s__law_before) (defBody s__law_before) (defScope s__law_before) .none kVBef dcBef pmBef anBef cdBef ctBef), slBef⟩)
    (ccBef : PySem.W.codeIn K cdBef "_law_before" = true)
    (kkBef : PySem.W.keepIn K (.ref fBef) = true)
    (aDue : PySem.W.nsIn K mainGlobals "_law_due" = some (some (.ref fDue)))
    (lDue : K.lookup fDue = some ⟨ocDue, odDue, .func (PySem.W.fnOf "_law_due" "_law_due" (defArgs s__law_due) (defBody s__law_due) (defScope s__law_due) .none kVDue dcDue pmDue anDue cdDue ctDue), slDue⟩)
    (ccDue : PySem.W.codeIn K cdDue "_law_due" = true)
    (kkDue : PySem.W.keepIn K (.ref fDue) = true)
    (aErr : PySem.W.nsIn K mainGlobals "_law_error" = some (some (.ref fErr)))
    (lErr : K.lookup fErr = some ⟨ocErr, odErr, .func (PySem.W.fnOf "_law_error" "_law_error" (defArgs s__law_error) (defBody s__law_error) (defScope s__law_error) .none kVErr dcErr pmErr anErr cdErr ctErr), slErr⟩)
    (ccErr : PySem.W.codeIn K cdErr "_law_error" = true)
    (kkErr : PySem.W.keepIn K (.ref fErr) = true)
    (aLaw : PySem.W.nsIn K mainGlobals "law" = some (some (.ref fLaw)))
    (lLaw : K.lookup fLaw = some ⟨ocLaw, odLaw, .func (PySem.W.fnOf "law" "law" (defArgs s_law) (defBody s_law) (defScope s_law) .none kVLaw dcLaw pmLaw anLaw cdLaw ctLaw), slLaw⟩)
    (ccLaw : PySem.W.codeIn K cdLaw "law" = true)
    (kkLaw : PySem.W.keepIn K (.ref fLaw) = true)
    (tInit : PySem.W.typeIn K (.ref fInit) = some (.type "function"))
    (lInit : K.lookup fInit = some ⟨ocInit, odInit, .func (PySem.W.fnOf "__init__" "WrongThing.__init__" (PySem.LowX.iA ⟨6, 17, 6, 21⟩ ⟨6, 23, 6, 28⟩) (PySem.LowX.iB ⟨7, 8, 7, 12⟩ ⟨7, 8, 7, 18⟩ ⟨7, 21, 7, 26⟩ ⟨7, 8, 7, 26⟩) PySem.LowX.iS .none .none dcInit pmInit anInit cdInit ctInit), slInit⟩)
    (ccInit : PySem.W.codeIn K cdInit "WrongThing.__init__" = true)
    (xAsks : K.lookup cAsks = some (excClassObj nmAsks qAsks cAsks NAsks bsAsks [.ref cWrong, .ref cAfter, .type "ValueError", .type "Exception", .type "BaseException", .type "object"] true snAsks subAsks abAsks colAsks ddAsks m0Asks m1Asks m2Asks m3Asks m5Asks "ValueError.__new__"))
    (saAsks : PySem.W.findIn K (.ref cAsks) "__setattr__" = some (some (.builtin "object.__setattr__")))
    (gaAsks : PySem.W.findIn K (.ref cAsks) "__getattribute__" = some (some (.builtin "BaseException.__getattribute__")))
    (ggAsks : PySem.W.findIn K (.ref cAsks) "__getattr__" = some none)
    (nbAsks : PySem.W.findIn K (.ref cAsks) "thing" = some none)
    (iiAsks : PySem.W.findIn K (.ref cAsks) "__init__" = some (some (.ref fInit)))
    (kcAsks : PySem.W.keepIn K (.ref cAsks) = true)
    (ebAsks : PySem.W.subIn K (.ref cAsks) (.type "BaseException") = some true)
    (tyAsks : PySem.W.typeIn K (.ref cAsks) = some (.type "type"))
    (hdAsks : PySem.W.hasDictIn K cAsks = true)
    (haAsks : PySem.W.findIn K (.ref cAsks) "__class__" = some (some (.builtin "object.__class__")))
    (hmAsks : PySem.W.mroIn K cAsks (.type "object") = some true)
    (teAsks : PySem.W.exmOne K (.ref cAsks) (.ref cAsks) = some true)
    (xRow : K.lookup cRow = some (excClassObj nmRow qRow cRow NRow bsRow [.ref cWrong, .ref cAfter, .type "ValueError", .type "Exception", .type "BaseException", .type "object"] true snRow subRow abRow colRow ddRow m0Row m1Row m2Row m3Row m5Row "ValueError.__new__"))
    (saRow : PySem.W.findIn K (.ref cRow) "__setattr__" = some (some (.builtin "object.__setattr__")))
    (gaRow : PySem.W.findIn K (.ref cRow) "__getattribute__" = some (some (.builtin "BaseException.__getattribute__")))
    (ggRow : PySem.W.findIn K (.ref cRow) "__getattr__" = some none)
    (nbRow : PySem.W.findIn K (.ref cRow) "thing" = some none)
    (iiRow : PySem.W.findIn K (.ref cRow) "__init__" = some (some (.ref fInit)))
    (kcRow : PySem.W.keepIn K (.ref cRow) = true)
    (ebRow : PySem.W.subIn K (.ref cRow) (.type "BaseException") = some true)
    (tyRow : PySem.W.typeIn K (.ref cRow) = some (.type "type"))
    (hdRow : PySem.W.hasDictIn K cRow = true)
    (haRow : PySem.W.findIn K (.ref cRow) "__class__" = some (some (.builtin "object.__class__")))
    (hmRow : PySem.W.mroIn K cRow (.type "object") = some true)
    (teRow : PySem.W.exmOne K (.ref cRow) (.ref cRow) = some true)
    (hnC : PySem.W.specialIn K (.builtin "object.__class__") "__get__" = some (some (.builtin "getset_descriptor.__get__")))
    (htC : PySem.W.takesIn K (.builtin "object.__class__") = some true)
    (kAW : PySem.W.kitOne K (.ref cAsks) (.ref cWrong) = some true)
    (kAR : PySem.W.kitOne K (.ref cAsks) (.ref cRow) = some false)
    (kRR : PySem.W.kitOne K (.ref cRow) (.ref cRow) = some true)
    (kRW : PySem.W.kitOne K (.ref cRow) (.ref cWrong) = some true)
    (kRV : PySem.W.kitOne K (.ref cRow) (.type "ValueError") = some true)
    (xRA : PySem.W.exmOne K (.ref cRow) (.ref cAsks) = some false)
    (xRF : PySem.W.exmOne K (.ref cRow) (.ref cAfter) = some true) :
    ∃ fd : FuncData, (∀ (s : Shared) (u : Value), BindsTo s fd ⟨[u], []⟩ [("_law_script", u)]) ∧ ∀ base : Heap, K.In base → base.Ns mainGlobals mg → FnOk P w K mg base CX0 5 fa fd ["_law_script"] (spLaw K) := by
  have e := hfa.symm.trans (PySem.W.mg_of X G aLaw)
  cases e
  let A : Ad := ⟨fTuple, fAsks, fRow, fRowOf, fOrd, fCell, fSrc, fDraw, fInt, fExact, fLAsks, fLRow, fBef, fDue, fErr, fa, cAfter, cWrong, cAsks, cRow, fInit, t1, t2, t3⟩
  have T : Tx K mg A := {
    nlen := PySem.W.mg_none_of X G n_len,
    nint := PySem.W.mg_none_of X G n_int,
    nsum := PySem.W.mg_none_of X G n_sum,
    nabs := PySem.W.mg_none_of X G n_abs,
    nstr := PySem.W.mg_none_of X G n_str,
    nbool := PySem.W.mg_none_of X G n_bool,
    nlist := PySem.W.mg_none_of X G n_list,
    ntuple := PySem.W.mg_none_of X G n_tuple,
    nset := PySem.W.mg_none_of X G n_set,
    nzip := PySem.W.mg_none_of X G n_zip,
    nall := PySem.W.mg_none_of X G n_all,
    nrange := PySem.W.mg_none_of X G n_range,
    nisinstance := PySem.W.mg_none_of X G n_isinstance,
    nsorted := PySem.W.mg_none_of X G n_sorted,
    nrepr := PySem.W.mg_none_of X G n_repr,
    nValueError := PySem.W.mg_none_of X G n_ValueError,
    mLETTERS := PySem.W.mg_of X G m_LETTERS,
    mMOST_ASKS := PySem.W.mg_of X G m_MOST_ASKS,
    mLONGEST_ROW := PySem.W.mg_of X G m_LONGEST_ROW,
    mAfterError := PySem.W.mg_of X G m_AfterError,
    mWrongThing := PySem.W.mg_of X G m_WrongThing,
    mBadAsks := PySem.W.mg_of X G m_BadAsks,
    mBadRow := PySem.W.mg_of X G m_BadRow,
    mis_tuple := PySem.W.mg_of X G aTuple,
    mis_asks := PySem.W.mg_of X G aAsks,
    mis_row := PySem.W.mg_of X G aRow,
    mis_row_of := PySem.W.mg_of X G aRowOf,
    mordered := PySem.W.mg_of X G aOrd,
    m_law_cell := PySem.W.mg_of X G aCell,
    m_law_source := PySem.W.mg_of X G aSrc,
    m_law_draw := PySem.W.mg_of X G aDraw,
    m_law_is_int := PySem.W.mg_of X G aInt,
    m_law_exact := PySem.W.mg_of X G aExact,
    m_law_asks := PySem.W.mg_of X G aLAsks,
    m_law_row := PySem.W.mg_of X G aLRow,
    m_law_before := PySem.W.mg_of X G aBef,
    m_law_due := PySem.W.mg_of X G aDue,
    m_law_error := PySem.W.mg_of X G aErr }
  have LAsks : PySem.LowX.LowTxt K mg "BadAsks" cAsks fInit :=
    { gC := PySem.W.mg_of X G m_BadAsks, cls := ⟨nmAsks, qAsks, NAsks, bsAsks, _, snAsks, subAsks, abAsks, colAsks, ddAsks, m0Asks, m1Asks, m2Asks, m3Asks, m5Asks, xAsks, rfl⟩, sa := saAsks, ga := gaAsks, gg := ggAsks, noN := nbAsks, iC := iiAsks, tC := tInit, kC := kcAsks, exC := ebAsks, tyC := tyAsks, hdC := hdAsks, te := teAsks,
      fn := ⟨_, _, _, _, _, _, _, _, _, _, _, _, _, _, lInit, ccInit⟩ }
  have LRow : PySem.LowX.LowTxt K mg "BadRow" cRow fInit :=
    { gC := PySem.W.mg_of X G m_BadRow, cls := ⟨nmRow, qRow, NRow, bsRow, _, snRow, subRow, abRow, colRow, ddRow, m0Row, m1Row, m2Row, m3Row, m5Row, xRow, rfl⟩, sa := saRow, ga := gaRow, gg := ggRow, noN := nbRow, iC := iiRow, tC := tInit, kC := kcRow, exC := ebRow, tyC := tyRow, hdC := hdRow, te := teRow,
      fn := ⟨_, _, _, _, _, _, _, _, _, _, _, _, _, _, lInit, ccInit⟩ }
  have E : Ex K mg A := ⟨LAsks, LRow, ⟨gaAsks, ggAsks, ebAsks, hdAsks, haAsks, hnC, htC, hmAsks⟩, ⟨gaRow, ggRow, ebRow, hdRow, haRow, hnC, htC, hmRow⟩, kAW, kAR, kRR, kRW, kRV, teAsks, xRA, xRF⟩
  have FTuple := fun_mk (st := s_is_tuple) lTuple ccTuple kkTuple
  have bTuple := FTuple.binds (ps := ["thing"]) fun _ _ _ _ _ _ us hl => match us, hl with | [_], _ => rfl
  have FAsks := fun_mk (st := s_is_asks) lAsks ccAsks kkAsks
  have bAsks := FAsks.binds (ps := ["thing"]) fun _ _ _ _ _ _ us hl => match us, hl with | [_], _ => rfl
  have FRow := fun_mk (st := s_is_row) lRow ccRow kkRow
  have bRow := FRow.binds (ps := ["asks", "thing"]) fun _ _ _ _ _ _ us hl => match us, hl with | [_, _], _ => rfl
  have FRowOf := fun_mk (st := s_is_row_of) lRowOf ccRowOf kkRowOf
  have bRowOf := FRowOf.binds (ps := ["asks", "thing"]) fun _ _ _ _ _ _ us hl => match us, hl with | [_, _], _ => rfl
  have FOrd := fun_mk (st := s_ordered) lOrd ccOrd kkOrd
  have bOrd := FOrd.binds (ps := ["asks", "rows"]) fun _ _ _ _ _ _ us hl => match us, hl with | [_, _], _ => rfl
  have FCell := fun_mk (st := s__law_cell) lCell ccCell kkCell
  have bCell := FCell.binds (ps := ["_law_script", "_law_k"]) fun _ _ _ _ _ _ us hl => match us, hl with | [_, _], _ => rfl
  have FSrc := fun_mk (st := s__law_source) lSrc ccSrc kkSrc
  have bSrc := FSrc.binds (ps := ["_law_script", "_law_k"]) fun _ _ _ _ _ _ us hl => match us, hl with | [_, _], _ => rfl
  have FDraw := fun_mk (st := s__law_draw) lDraw ccDraw kkDraw
  have bDraw := FDraw.binds (ps := ["_law_source_here", "_law_many"]) fun _ _ _ _ _ _ us hl => match us, hl with | [_, _], _ => rfl
  have FInt := fun_mk (st := s__law_is_int) lInt ccInt kkInt
  have bInt := FInt.binds (ps := ["_law_thing"]) fun _ _ _ _ _ _ us hl => match us, hl with | [_], _ => rfl
  have FExact := fun_mk (st := s__law_exact) lExact ccExact kkExact
  have bExact := FExact.binds (ps := ["_law_told", "_law_due_here"]) fun _ _ _ _ _ _ us hl => match us, hl with | [_, _], _ => rfl
  have FLAsks := fun_mk (st := s__law_asks) lLAsks ccLAsks kkLAsks
  have bLAsks := FLAsks.binds (ps := ["_law_source_here"]) fun _ _ _ _ _ _ us hl => match us, hl with | [_], _ => rfl
  have FLRow := fun_mk (st := s__law_row) lLRow ccLRow kkLRow
  have bLRow := FLRow.binds (ps := ["_law_source_here", "_law_asks_here", "_law_longest"]) fun _ _ _ _ _ _ us hl => match us, hl with | [_, _, _], _ => rfl
  have FBef := fun_mk (st := s__law_before) lBef ccBef kkBef
  have bBef := FBef.binds (ps := ["_law_one", "_law_other"]) fun _ _ _ _ _ _ us hl => match us, hl with | [_, _], _ => rfl
  have FDue := fun_mk (st := s__law_due) lDue ccDue kkDue
  have bDue := FDue.binds (ps := ["_law_rows"]) fun _ _ _ _ _ _ us hl => match us, hl with | [_], _ => rfl
  have FErr := fun_mk (st := s__law_error) lErr ccErr kkErr
  have bErr := FErr.binds (ps := ["_law_asks_here", "_law_rows"]) fun _ _ _ _ _ _ us hl => match us, hl with | [_, _], _ => rfl
  have FLaw := fun_mk (st := s_law) lLaw ccLaw kkLaw
  refine ⟨PySem.W.fnOf "law" "law" (defArgs s_law) (defBody s_law) (defScope s_law) .none kVLaw dcLaw pmLaw anLaw cdLaw ctLaw, fun s u => .of_eq rfl, fun base _ _ => FnG.all fun g => ?_⟩
  have KCell : Kp P w K mg base CX0 1 fCell ["_law_script", "_law_k"] (spCell K) := ⟨_, ok_cell (A := A) FCell T, bCell, FCell.kp⟩
  have KSrc : Kp P w K mg base CX0 2 fSrc ["_law_script", "_law_k"] (spSrc K) := ⟨_, ok_source (A := A) FSrc T KCell, bSrc, FSrc.kp⟩
  have KDraw : Kp P w K mg base CX0 1 fDraw ["_law_source_here", "_law_many"] spDraw := ⟨_, ok_draw (A := A) FDraw T, bDraw, FDraw.kp⟩
  have KLAsks : Kp P w K mg base CX0 2 fLAsks ["_law_source_here"] spLAsks := ⟨_, ok_lasks (A := A) FLAsks T KDraw, bLAsks, FLAsks.kp⟩
  have KLRow : Kp P w K mg base CX0 2 fLRow ["_law_source_here", "_law_asks_here", "_law_longest"] spLRow := ⟨_, ok_lrow (A := A) FLRow T KDraw, bLRow, FLRow.kp⟩
  have KInt : Kp P w K mg base CX0 1 fInt ["_law_thing"] (fun _ _ _ _ => False) := ⟨_, ok_never FInt sc__law_is_int, bInt, FInt.kp⟩
  have KEx : Kp P w K mg base CX0 1 fExact ["_law_told", "_law_due_here"] (fun _ _ _ _ => False) := ⟨_, ok_never FExact sc__law_exact, bExact, FExact.kp⟩
  have KEx0 : Kp P w K mg base CX0 2 fExact ["_law_told", "_law_due_here"] spEx0 := ⟨_, ok_ex0 (A := A) FExact T KInt KEx, bExact, FExact.kp⟩
  have KEx1 : Kp P w K mg base CX0 3 fExact ["_law_told", "_law_due_here"] spEx1 := ⟨_, ok_ex1 (A := A) FExact T KInt KEx0, bExact, FExact.kp⟩
  have KBef : Kp P w K mg base CX0 1 fBef ["_law_one", "_law_other"] spBef := ⟨_, ok_before (A := A) FBef T, bBef, FBef.kp⟩
  have KDue : Kp P w K mg base CX0 2 fDue ["_law_rows"] (spDue K) := ⟨_, ok_due (A := A) FDue T KBef, bDue, FDue.kp⟩
  have KTup : Kp P w K mg base CX0 1 fTuple ["thing"] (spTup K) := ⟨_, ok_tuple (A := A) FTuple T, bTuple, FTuple.kp⟩
  have KRowOf : Kp P w K mg base CX0 1 fRowOf ["asks", "thing"] (spRowOf K) := ⟨_, ok_rowof (A := A) FRowOf T, bRowOf, FRowOf.kp⟩
  have KAsks : Kp P w K mg base CX0 1 fAsks ["thing"] (spAsks K) := ⟨_, ok_asks (A := A) FAsks T, bAsks, FAsks.kp⟩
  have KRow : Kp P w K mg base (L2.CX P w) 3 fRow ["asks", "thing"] (spRow K A) := ⟨_, ok_row (A := A) FRow T LAsks KAsks KRowOf, bRow, FRow.kp⟩
  have KOrd : Kp P w K mg base (L2.CX P w) 3 fOrd ["asks", "rows"] (spOrd K A) := ⟨_, ok_ord (A := A) FOrd T LAsks LRow KAsks KRowOf KTup, bOrd, FOrd.kp⟩
  exact ok_law (A := A) FLaw T E ⟨KSrc, KLAsks, KLRow, KDraw, KEx1, KDue, KAsks, KRow, KOrd, fun g => ⟨_, ok_err (A := A) FErr T E KOrd, bErr, FErr.kp⟩⟩
theorem walk {l : PySem.W.OpenLaw} {q : Program} {loose : List Str} {XP : (Str → Option Value) → Heap → Prop} {YP : World → Heap → Prop} {d : DefRec} {K : Params → PySem.W.Frag} (h1 : l.most = some 63) (h2 : d.params.defaults = []) (h3 : ∀ (w : World) (h : Heap), YP w h → (K w.params).In h)
    (F : ∀ (w : World) (mg : Str → Option Value) (fa : Addr) (h : Heap), (K w.params).In h → h.Ns mainGlobals mg → mg d.name = some (.ref fa) →
      ∃ fd : FuncData, (∀ (s : Shared) (u : Value), BindsTo s fd ⟨[u], []⟩ [("_law_script", u)]) ∧ ∀ base : Heap, (K w.params).In base → base.Ns mainGlobals mg → FnOk l.prog w (K w.params) mg base CX0 5 fa fd ["_law_script"] (spLaw (K w.params))) :
    PySem.W.WalkO q loose XP YP l.row.toRowW d [] (fun f vs => PySem.call f vs) :=
  L2.walk_of (n := 63) (k := 5) (x := "_law_script") (CX := fun _ => CX0) (sp := fun w => spLaw (K w.params)) h1 (by decide) h2 ⟨rfl, by decide, by decide⟩ h3 F (fun _ _ a ns _ _ hS => ⟨a, ns, rfl, hS, fun _ => rfl⟩) fun _ _ _ _ _ z => z
end Aw
open PySem PySem.W PyProof.Rows
theorem PySem.Challenge.cw_afterwise_k04_ordered_rows_holds : PySem.Challenge.rw_afterwise_k04_ordered_rows.Holds := by
  w_on; o_law; k_head; (case hw => w_witness2)
  k_fill
  refine Aw.walk (l := PySem.Challenge.rw_afterwise_k04_ordered_rows) rfl rfl (fun w h Y => PySem.W.kIn_of Y) ?F
  case F =>
    intro w mg fa h KX G hmg
    refine' Aw.all_mk KX G hmg ?n_len ?n_int ?n_sum ?n_abs ?n_str ?n_bool ?n_list ?n_tuple ?n_set ?n_zip ?n_all ?n_range ?n_isinstance ?n_sorted ?n_repr ?n_ValueError ?m_LETTERS ?m_MOST_ASKS ?m_LONGEST_ROW ?m_AfterError ?m_WrongThing ?m_BadAsks ?m_BadRow ?aTuple ?lTuple ?ccTuple ?kkTuple ?aAsks ?lAsks ?ccAsks ?kkAsks ?aRow ?lRow ?ccRow ?kkRow ?aRowOf ?lRowOf ?ccRowOf ?kkRowOf ?aOrd ?lOrd ?ccOrd ?kkOrd ?aCell ?lCell ?ccCell ?kkCell ?aSrc ?lSrc ?ccSrc ?kkSrc ?aDraw ?lDraw ?ccDraw ?kkDraw ?aInt ?lInt ?ccInt ?kkInt ?aExact ?lExact ?ccExact ?kkExact ?aLAsks ?lLAsks ?ccLAsks ?kkLAsks ?aLRow ?lLRow ?ccLRow ?kkLRow ?aBef ?lBef ?ccBef ?kkBef ?aDue ?lDue ?ccDue ?kkDue ?aErr ?lErr ?ccErr ?kkErr ?aLaw ?lLaw ?ccLaw ?kkLaw ?tInit ?lInit ?ccInit ?xAsks ?saAsks ?gaAsks ?ggAsks ?nbAsks ?iiAsks ?kcAsks ?ebAsks ?tyAsks ?hdAsks ?haAsks ?hmAsks ?teAsks ?xRow ?saRow ?gaRow ?ggRow ?nbRow ?iiRow ?kcRow ?ebRow ?tyRow ?hdRow ?haRow ?hmRow ?teRow ?hnC ?htC ?kAW ?kAR ?kRR ?kRW ?kRV ?xRA ?xRF
    (case n_len => first | k_is | rfl); (case n_int => first | k_is | rfl); (case n_sum => first | k_is | rfl); (case n_abs => first | k_is | rfl)
    (case n_str => first | k_is | rfl); (case n_bool => first | k_is | rfl); (case n_list => first | k_is | rfl); (case n_tuple => first | k_is | rfl)
    (case n_set => first | k_is | rfl); (case n_zip => first | k_is | rfl); (case n_all => first | k_is | rfl); (case n_range => first | k_is | rfl)
    (case n_isinstance => first | k_is | rfl); (case n_sorted => first | k_is | rfl); (case n_repr => first | k_is | rfl); (case n_ValueError => first | k_is | rfl)
    (case m_LETTERS => first | k_is | rfl); (case m_MOST_ASKS => first | k_is | rfl); (case m_LONGEST_ROW => first | k_is | rfl); (case m_AfterError => first | k_is | rfl)
    (case m_WrongThing => first | k_is | rfl); (case m_BadAsks => first | k_is | rfl); (case m_BadRow => first | k_is | rfl); (case aTuple => first | k_is | rfl)
    (case lTuple => first | k_is | rfl); (case ccTuple => first | k_is | rfl); (case kkTuple => first | k_is | rfl); (case aAsks => first | k_is | rfl)
    (case lAsks => first | k_is | rfl); (case ccAsks => first | k_is | rfl); (case kkAsks => first | k_is | rfl); (case aRow => first | k_is | rfl)
    (case lRow => first | k_is | rfl); (case ccRow => first | k_is | rfl); (case kkRow => first | k_is | rfl); (case aRowOf => first | k_is | rfl)
    (case lRowOf => first | k_is | rfl); (case ccRowOf => first | k_is | rfl); (case kkRowOf => first | k_is | rfl); (case aOrd => first | k_is | rfl)
    (case lOrd => first | k_is | rfl); (case ccOrd => first | k_is | rfl); (case kkOrd => first | k_is | rfl); (case aCell => first | k_is | rfl)
    (case lCell => first | k_is | rfl); (case ccCell => first | k_is | rfl); (case kkCell => first | k_is | rfl); (case aSrc => first | k_is | rfl)
    (case lSrc => first | k_is | rfl); (case ccSrc => first | k_is | rfl); (case kkSrc => first | k_is | rfl); (case aDraw => first | k_is | rfl)
    (case lDraw => first | k_is | rfl); (case ccDraw => first | k_is | rfl); (case kkDraw => first | k_is | rfl); (case aInt => first | k_is | rfl)
    (case lInt => first | k_is | rfl); (case ccInt => first | k_is | rfl); (case kkInt => first | k_is | rfl); (case aExact => first | k_is | rfl)
    (case lExact => first | k_is | rfl); (case ccExact => first | k_is | rfl); (case kkExact => first | k_is | rfl); (case aLAsks => first | k_is | rfl)
    (case lLAsks => first | k_is | rfl); (case ccLAsks => first | k_is | rfl); (case kkLAsks => first | k_is | rfl); (case aLRow => first | k_is | rfl)
    (case lLRow => first | k_is | rfl); (case ccLRow => first | k_is | rfl); (case kkLRow => first | k_is | rfl); (case aBef => first | k_is | rfl)
    (case lBef => first | k_is | rfl); (case ccBef => first | k_is | rfl); (case kkBef => first | k_is | rfl); (case aDue => first | k_is | rfl)
    (case lDue => first | k_is | rfl); (case ccDue => first | k_is | rfl); (case kkDue => first | k_is | rfl); (case aErr => first | k_is | rfl)
    (case lErr => first | k_is | rfl); (case ccErr => first | k_is | rfl); (case kkErr => first | k_is | rfl); (case aLaw => first | k_is | rfl)
    (case lLaw => first | k_is | rfl); (case ccLaw => first | k_is | rfl); (case kkLaw => first | k_is | rfl); (case xAsks => first | k_is | rfl)
    (case saAsks => first | k_is | rfl); (case gaAsks => first | k_is | rfl); (case ggAsks => first | k_is | rfl); (case nbAsks => first | k_is | rfl)
    (case iiAsks => first | k_is | rfl); (case tInit => first | k_is | rfl); (case lInit => first | k_is | rfl); (case ccInit => first | k_is | rfl)
    (case kcAsks => first | k_is | rfl); (case ebAsks => first | k_is | rfl); (case tyAsks => first | k_is | rfl); (case hdAsks => first | k_is | rfl)
    (case haAsks => first | k_is | rfl); (case hmAsks => first | k_is | rfl); (case teAsks => first | k_is | rfl); (case xRow => first | k_is | rfl)
    (case saRow => first | k_is | rfl); (case gaRow => first | k_is | rfl); (case ggRow => first | k_is | rfl); (case nbRow => first | k_is | rfl)
    (case iiRow => first | k_is | rfl); (case kcRow => first | k_is | rfl); (case ebRow => first | k_is | rfl); (case tyRow => first | k_is | rfl)
    (case hdRow => first | k_is | rfl); (case haRow => first | k_is | rfl); (case hmRow => first | k_is | rfl); (case teRow => first | k_is | rfl)
    (case hnC => first | k_is | rfl); (case htC => first | k_is | rfl); (case kAW => first | k_is | rfl); (case kAR => first | k_is | rfl)
    (case kRR => first | k_is | rfl); (case kRW => first | k_is | rfl); (case kRV => first | k_is | rfl); (case xRA => first | k_is | rfl)
    (case xRF => first | k_is | rfl)
