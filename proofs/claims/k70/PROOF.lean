import PyProof.Rows.All
import Wide.All
import OpenK.AllK
import Wide.FinOn
import HandS.ForMost
import HandS.Codes
import HandS.IsInst
import HandS.TupAny
import HandS.SlotsOwn
import HandS.ExcInit
import HandS.ExcField
import HandS.WordsExc
import KE.KCallOwn
import OpenK.KOps
import HandS.FStr
import HandS.RaiseMore
import PyProof.Rows.ChunkEnd
import HandS.Conv
import HandS.Small
import PyProof.ReprReads
import HandS.Walk
import HandS.Comp
import PyProof.ReprRoads
import HandS.Lambda
import HandS.Deep
import HandS.TupMul
import HandS.CallLocal
import HandS.HeadHook3
import HandS.TryMany
import KE.KExcIs
import HandS.ExcIs
import HandS.Dict
import HandS.DictTup
import KE.KDictDisplayH
import HandS.List
import PyProof.NeKinds
import PyProof.InstEq
import HandS.TryOnly
import PySem.Challenge.RW_lastshort_k70_whole_confirmed_properties
set_option Elab.async false
set_option linter.all false
set_option maxRecDepth 100000
set_option maxHeartbeats 8000000
/-! lists of a known length: smaller than a match in the place -/
namespace Ln
theorem len0 {α : Type} {p : List α → Prop} (h : Unit → p []) : ∀ us : List α, us.length = 0 → p us
  | [], _ => h ()
theorem len1 {α : Type} {p : List α → Prop} (h : ∀ a0, p [a0]) : ∀ us : List α, us.length = 1 → p us
  | [a0], _ => h a0
theorem len2 {α : Type} {p : List α → Prop} (h : ∀ a0 a1, p [a0, a1]) : ∀ us : List α, us.length = 2 → p us
  | [a0, a1], _ => h a0 a1
theorem len3 {α : Type} {p : List α → Prop} (h : ∀ a0 a1 a2, p [a0, a1, a2]) : ∀ us : List α, us.length = 3 → p us
  | [a0, a1, a2], _ => h a0 a1 a2
theorem len4 {α : Type} {p : List α → Prop} (h : ∀ a0 a1 a2 a3, p [a0, a1, a2, a3]) : ∀ us : List α, us.length = 4 → p us
  | [a0, a1, a2, a3], _ => h a0 a1 a2 a3
theorem len5 {α : Type} {p : List α → Prop} (h : ∀ a0 a1 a2 a3 a4, p [a0, a1, a2, a3, a4]) : ∀ us : List α, us.length = 5 → p us
  | [a0, a1, a2, a3, a4], _ => h a0 a1 a2 a3 a4
theorem len6 {α : Type} {p : List α → Prop} (h : ∀ a0 a1 a2 a3 a4 a5, p [a0, a1, a2, a3, a4, a5]) : ∀ us : List α, us.length = 6 → p us
  | [a0, a1, a2, a3, a4, a5], _ => h a0 a1 a2 a3 a4 a5
theorem len7 {α : Type} {p : List α → Prop} (h : ∀ a0 a1 a2 a3 a4 a5 a6, p [a0, a1, a2, a3, a4, a5, a6]) : ∀ us : List α, us.length = 7 → p us
  | [a0, a1, a2, a3, a4, a5, a6], _ => h a0 a1 a2 a3 a4 a5 a6
theorem len8 {α : Type} {p : List α → Prop} (h : ∀ a0 a1 a2 a3 a4 a5 a6 a7, p [a0, a1, a2, a3, a4, a5, a6, a7]) : ∀ us : List α, us.length = 8 → p us
  | [a0, a1, a2, a3, a4, a5, a6, a7], _ => h a0 a1 a2 a3 a4 a5 a6 a7
theorem len9 {α : Type} {p : List α → Prop} (h : ∀ a0 a1 a2 a3 a4 a5 a6 a7 a8, p [a0, a1, a2, a3, a4, a5, a6, a7, a8]) : ∀ us : List α, us.length = 9 → p us
  | [a0, a1, a2, a3, a4, a5, a6, a7, a8], _ => h a0 a1 a2 a3 a4 a5 a6 a7 a8
end Ln

/-! the trees of the stages get no twins: their names are taken -/
def PySem.W.Fast.tw5984046621878350224 : Unit := ()
def PySem.W.Fast.tw17053951162394608462 : Unit := ()
def PySem.W.Fast.tw5989103132819418552 : Unit := ()
def PySem.W.Fast.tw8110196445836131651 : Unit := ()
def PySem.W.Fast.tw17580627472026167499 : Unit := ()
def PySem.W.Fast.tw7271322662138095670 : Unit := ()
def PySem.W.Fast.tw16676315701310809772 : Unit := ()
def PySem.W.Fast.tw13062603398482336892 : Unit := ()
def PySem.W.Fast.tw5476352094008793969 : Unit := ()
def PySem.W.Fast.tw10689643175498149178 : Unit := ()
def PySem.W.Fast.tw14348064650998793167 : Unit := ()
def PySem.W.Fast.tw10473397468557006433 : Unit := ()
def PySem.W.Fast.tw8659014838664484482 : Unit := ()
def PySem.W.Fast.tw9113827492023170285 : Unit := ()
def PySem.W.Fast.tw9776892759470507509 : Unit := ()
def PySem.W.Fast.tw15212143246330661427 : Unit := ()
def PySem.W.Fast.tw13528940214889250499 : Unit := ()
def PySem.W.Fast.tw14330392577402595369 : Unit := ()
def PySem.W.Fast.tw5701350380412806593 : Unit := ()
def PySem.W.Fast.tw499167055074328762 : Unit := ()
def PySem.W.Fast.tw9196457193657256905 : Unit := ()
def PySem.W.Fast.tw11917949190915654994 : Unit := ()
def PySem.W.Fast.tw826235541138246906 : Unit := ()
def PySem.W.Fast.tw3177392886223355558 : Unit := ()
def PySem.W.Fast.tw9307590232365205909 : Unit := ()
def PySem.W.Fast.tw14772479555184868386 : Unit := ()
def PySem.W.Fast.tw12638434260508659993 : Unit := ()
def PySem.W.Fast.tw2366093836010582797 : Unit := ()
def PySem.W.Fast.tw4902374550941089119 : Unit := ()
open PySem PySem.W PyProof.Rows in
open_top Hd70 for PySem.Challenge.rw_lastshort_k70_whole_confirmed_properties

/-! the draws of the law: jar, sip, from -/
namespace My
open PySem L2
def top (i : Nat) : Stmt := PySem.Challenge.pw_lastshort_k70_whole_confirmed_properties.main.body.getD i (.Pass ⟨0, 0, 0, 0⟩)
abbrev sJar : Stmt := top 118
abbrev sSip : Stmt := top 119
abbrev sFrom : Stmt := top 120
/-! ### heaps -/
/-- all but what stands at j is as it was -/
def Off (j : Addr) (H H' : Hp) : Prop := ∀ b o, b ≠ j → H b = some o → H' b = some o
theorem Off.refl {j : Addr} {H : Hp} : Off j H H := fun _ _ _ e => e
theorem Off.trans {j : Addr} {H H1 H2 : Hp} (a : Off j H H1) (b : Off j H1 H2) : Off j H H2 := fun c o n e => b c o n (a c o n e)
theorem Off.new {j p : Addr} {H H1 : Hp} {o : HO} (a : Off j H H1) (n : H1 p = none) : Off j H (upd H1 p o) := fun b u nb e => by
  rw [upd_ne (ne_of_none (a b u nb e) n)]
  exact a b u nb e
theorem Off.put {j : Addr} {H H1 : Hp} {o : HO} (a : Off j H H1) : Off j H (upd H1 j o) := fun b u nb e => by
  rw [upd_ne nb]
  exact a b u nb e
theorem Off.seq {K : PySem.W.Frag} {j a : Addr} {H H' : Hp} {xs : List V} (e : Off j H H') (n : a ≠ j) (h : SqL K H a xs) : SqL K H' a xs := by
  rcases h with (h | ⟨o, h⟩) | h
  · exact .inl (.inl (e _ _ n h))
  · exact .inl (.inr ⟨o, e _ _ n h⟩)
  · exact .inr h
theorem Off.set {K : PySem.W.Frag} {j a : Addr} {H H' : Hp} {xs : List V} (e : Off j H H') (n : a ≠ j) (h : SqT K H a xs) : SqT K H' a xs := by
  rcases h with (h | ⟨o, h⟩) | h
  · exact .inl (.inl (e _ _ n h))
  · exact .inl (.inr ⟨o, e _ _ n h⟩)
  · exact .inr h
theorem Off.same {j : Addr} {H0 H H' : Hp} (e : Off j H H') (s : Same H0 H) (n : H0 j = none) : Same H0 H' := fun b o q => e b o (fun z => by rw [z, n] at q; cases q) (s b o q)
theorem same_upd {H : Hp} {p : Addr} {o : HO} (h : H p = none) : Same H (upd H p o) := fun b x e => by
  rw [upd_ne (ne_of_none e h)]
  exact e
theorem Same.off {j : Addr} {H H' : Hp} (s : Same H H') : Off j H H' := fun b o _ e => s b o e
/-- a jar: three whole numbers -/
def Jar (H : Hp) (j : Addr) : Prop := ∃ a b c : Int, H j = some (.lst [.int a, .int b, .int c])
theorem Jar.new {H : Hp} {j p : Addr} {o : HO} (a : Jar H j) (n : H p = none) : Jar (upd H p o) j := by
  obtain ⟨x, y, z, h⟩ := a
  exact ⟨x, y, z, by rw [upd_ne (ne_of_none h n)]; exact h⟩
theorem Jar.same {H H' : Hp} {j : Addr} (a : Jar H j) (s : Same H H') : Jar H' j := by
  obtain ⟨x, y, z, h⟩ := a
  exact ⟨x, y, z, s _ _ h⟩
/-! ### promises -/
def spSip : Sp := fun vs H Q _ => ∃ (j : Addr) (m : Int), vs = [.ref j, .int m] ∧ Jar H j ∧ 0 < m ∧ m < 1073741824 ∧
  ∀ (H' : Hp) (d : Int), 0 ≤ d → d < m → Off j H H' → Jar H' j → Q (.int d) H'
def spFrom (K : PySem.W.Frag) : Sp := fun vs H Q _ => ∃ (j p : Addr) (xs : List V), vs = [.ref j, .ref p] ∧ Jar H j ∧ p ≠ j ∧ SqL K H p xs ∧ 0 < xs.length ∧ xs.length < 1073741824 ∧
  ∀ (H' : Hp) (i : Nat) (x : V), xs[i]? = some x → Off j H H' → Jar H' j → Q x H'
def spJar (K : PySem.W.Frag) : Sp := fun vs H Q _ => ∃ (a : Addr) (ns : List Int) (k : Nat), vs = [.ref a, .int k] ∧ SqL K H a (ns.map V.int) ∧ ns.length ≤ 63 ∧
  ∀ (H' : Hp) (j : Addr), Same H H' → H j = none → Jar H' j → Q (.ref j) H'
/-- the built-ins of the draws are still the built-ins -/
structure TxtJ (mg : Str → Option Value) : Prop where
  len : mg "len" = none
  int : mg "int" = none
  abs : mg "abs" = none
  divmod : mg "divmod" = none
section
variable {P : Program} {w : World} {K : PySem.W.Frag} {mg : Str → Option Value} {base : Heap}
theorem scSip : FnScope ["_law_jar_here", "_law_many", "_law_digit"] ["_law_jar_here", "_law_many"] (defScope sSip) := ⟨rfl, rfl, rfl, by decide +kernel, rfl, by decide +kernel, by decide +kernel⟩
theorem ok_sip {f : Addr} {fd : FuncData} (F : Fun K "_law_sip" "_law_sip" sSip f fd) (T : TxtJ mg) : FnOk P w K mg base CX0 1 f fd ["_law_jar_here", "_law_many"] spSip := by
  refine F.ok scSip (fun vs H Q E h => ?_) (fun cdv A outer s H vs Q E hr h => ?_)
  · obtain ⟨j, m, rfl, _⟩ := h
    rfl
  · obtain ⟨j, m, rfl, ⟨a, b, c, hj⟩, m0, m1, k⟩ := h
    refine ⟨_, pss_cons (ps_asg (pe_op op_add (pe_ix ix_list (pv 0) pe_int (fun _ _ => rfl)) pe_int) (pg_sub (pv 0) pe_int set_list))
      (pss_cons (ps_if (pt_cmpR op_gt (pe_ix ix_list (pv 0) pe_int (fun _ _ => rfl)) pe_int (nomark _))
        (pss_cons (ps_asg (pe_callB call_divmod (by rfl) T.divmod (by decide +kernel) (pa_cons (pe_callTy call_int1 (by rfl) T.int (by decide +kernel) (pa_cons (pe_ix ix_list (pv 0) pe_int (fun _ _ => rfl)) pa_nil)) (pa_cons (pv 1) pa_nil)))
            (pg_tup (by rfl) (pgs_cons (pg_sub (pv 0) pe_int set_list) (pgs_cons (pg_name (i := 2) scSip.nd rfl (.inl rfl)) pgs_nil))))
          (pss_one (ps_ret (pv 2)))) pss_nil)
      (pss_cons (ps_asg (pe_op op_mod (pe_callTy call_int1 (by rfl) T.int (by decide +kernel) (pa_cons (pe_op op_add (pe_op op_add (pe_op op_mul (pe_ix ix_list (pv 0) pe_int (fun _ _ => rfl)) pe_int) (pe_op op_mul (pe_ix ix_list (pv 0) pe_int (fun _ _ => rfl)) pe_int))
            (pe_op op_mul (pe_op op_fdiv (pe_ix ix_list (pv 0) pe_int (fun _ _ => rfl)) pe_int) pe_int)) pa_nil)) pe_int) (pg_sub (pv 0) pe_int set_list))
      (pss_one (ps_ret (pe_op op_mod (pe_callTy call_int1 (by rfl) T.int (by decide +kernel) (pa_cons (pe_op op_fdiv (pe_ix ix_list (pv 0) pe_int (fun _ _ => rfl)) pe_int) pa_nil)) (pv 1)))))), ?_⟩
    -- jar[2] = jar[2] + 1
    refine ⟨_, rfl, j, _, 2, _, rfl, rfl, SqL.of hj, rfl, _, _, rfl, rfl, _, rfl, j, _, 2, 2, rfl, rfl, hj, rfl, ?_⟩
    -- if jar[0] > 0
    refine ⟨_, rfl, j, _, 0, _, rfl, rfl, SqL.of upd_same, rfl, _, _, rfl, rfl, _, rfl, ?_⟩
    have o1 : Off j H (upd H j (.lst [.int a, .int b, .int (c + 1)])) := Off.put Off.refl
    refine ite2 (fun _ => ?_) (fun _ => ?_)
    · refine ⟨_, rfl, j, _, 0, _, rfl, rfl, SqL.of upd_same, rfl, .inl ⟨_, rfl, _, rfl, a, m, rfl, ⟨m0, m1⟩, fun p np => ?_⟩⟩
      have npj : p ≠ j := fun e => by
        rw [e, upd_same] at np
        cases np
      refine ⟨p, _, rfl, SqT.of upd_same, rfl, _, _, rfl, _, rfl, j, _, 0, 0, rfl, rfl, (by rw [upd_ne npj.symm]; exact upd_same), rfl, _, _, rfl, rfl, ?_⟩
      refine ⟨_, rfl, ?_⟩
      exact k _ _ (Int.emod_nonneg _ (by omega)) (Int.emod_lt_of_pos _ m0) (Off.put (Off.new o1 np)) ⟨_, _, _, upd_same⟩
    · refine ⟨_, rfl, j, _, 1, _, rfl, rfl, SqL.of upd_same, rfl, _, _, rfl, rfl, .inr (by decide), ?_⟩
      refine ⟨_, rfl, j, _, 2, _, rfl, rfl, SqL.of upd_same, rfl, _, _, rfl, rfl, .inr (by decide), _, _, rfl, rfl, ?_⟩
      refine ⟨_, rfl, j, _, 1, _, rfl, rfl, SqL.of upd_same, rfl, _, _, rfl, rfl, ⟨by decide, by decide⟩, _, _, rfl, rfl, .inr (by decide), _, _, rfl, rfl, .inl ⟨_, rfl, _, _, rfl, rfl, (by show (0 : Int) < 1999999927; decide), ?_⟩⟩
      refine ⟨_, rfl, j, _, 1, 1, rfl, rfl, upd_same, rfl, ?_⟩
      refine ⟨_, rfl, j, _, 1, _, rfl, rfl, SqL.of upd_same, rfl, _, _, rfl, rfl, ⟨by decide, by decide⟩, .inl ⟨_, rfl, _, rfl, _, _, rfl, rfl, m0, ?_⟩⟩
      exact k _ _ (Int.emod_nonneg _ (by omega)) (Int.emod_lt_of_pos _ m0) (Off.put o1) ⟨_, _, _, upd_same⟩

/-! ### from -/
structure TxtS (K : PySem.W.Frag) (mg : Str → Option Value) (fS : Addr) : Prop where
  g : mg "_law_sip" = some (.ref fS)
  k : PySem.W.keepIn K (.ref fS) = true
theorem scFrom : FnScope ["_law_jar_here", "_law_things"] ["_law_jar_here", "_law_things"] (defScope sFrom) := ⟨rfl, rfl, rfl, by decide +kernel, rfl, by decide +kernel, by decide +kernel⟩
theorem ok_from {f fS : Addr} {fd fdS : FuncData} (F : Fun K "_law_from" "_law_from" sFrom f fd) (T : TxtJ mg) (S : TxtS K mg fS) (FS : Fun K "_law_sip" "_law_sip" sSip fS fdS) (bS : Binds K fdS ["_law_jar_here", "_law_many"] []) :
    FnOk P w K mg base CX0 2 f fd ["_law_jar_here", "_law_things"] (spFrom K) := by
  have GS : FnOk P w K mg base CX0 1 fS fdS ["_law_jar_here", "_law_many"] spSip := ok_sip FS T
  refine F.ok scFrom (fun vs H Q E h => ?_) (fun cdv A outer s H vs Q E hr h => ?_)
  · obtain ⟨j, p, xs, rfl, _⟩ := h
    rfl
  · obtain ⟨j, p, xs, rfl, hJ, npj, hS, l0, l1, k⟩ := h
    refine ⟨_, pss_one (ps_ret (pe_ix ix_list (pv 1) (pe_call GS hr rfl S.g S.k bS .nil pass0 (pa_cons (pv 0) (pa_cons (pe_callB call_len_seq (by rfl) T.len PySem.boot_len (pa_cons (pv 1) pa_nil)) pa_nil))) (fun _ _ => rfl))), ?_⟩
    refine ⟨_, rfl, _, rfl, _, rfl, p, xs, rfl, .inl hS, j, _, rfl, hJ, by omega, by omega, fun H' d d0 d1 o J => ?_⟩
    obtain ⟨n, rfl⟩ := Int.eq_ofNat_of_zero_le d0
    have hn : n < xs.length := by omega
    exact ⟨p, xs, _, xs[n], rfl, rfl, o.seq npj hS, atI_nat (List.getElem?_eq_getElem hn), k H' n _ (List.getElem?_eq_getElem hn) o J⟩
/-! ### jar -/
theorem scJar : FnScope ["_law_script", "_law_k", "_law_own", "_law_mixed", "_law_entry"] ["_law_script", "_law_k"] (defScope sJar) := ⟨rfl, rfl, rfl, by decide +kernel, rfl, by decide +kernel, by decide +kernel⟩
theorem int_of_map {ns : List Int} {i : Nat} {y : V} (h : (ns.map V.int)[i]? = some y) : ∃ u, y = V.int u := by
  rw [List.getElem?_map] at h
  cases e : ns[i]? with
  | none =>
    rw [e] at h
    cases h
  | some u =>
    rw [e] at h
    exact ⟨u, (Option.some.inj h).symm⟩
theorem cut_map (ns : List Int) (lo hi : Option Int) : ∃ ms : List Int, cutV (ns.map V.int) lo hi = ms.map V.int :=
  ⟨(ns.drop (HT.sIx (ns.map V.int).length 0 lo)).take (HT.sIx (ns.map V.int).length (ns.map V.int).length hi - HT.sIx (ns.map V.int).length 0 lo), by
    unfold cutV
    rw [List.map_take, List.map_drop]⟩
theorem ok_jar {f : Addr} {fd : FuncData} (F : Fun K "_law_jar" "_law_jar" sJar f fd) (T : TxtJ mg) : FnOk P w K mg base CX0 1 f fd ["_law_script", "_law_k"] (spJar K) := by
  refine F.ok scJar (fun vs H Q E h => ?_) (fun cdv A outer s H vs Q E hr h => ?_)
  · obtain ⟨a, ns, k, rfl, _⟩ := h
    rfl
  · obtain ⟨a, ns, k, rfl, hS, hl, q⟩ := h
    refine ⟨_, C8.pss_cut (ps_set (i := 2) scJar.nd rfl (.inl rfl) (pe_ifExp (pt_cmpR op_lt (pv 1) (pe_callB call_len_seq (by rfl) T.len PySem.boot_len (pa_cons (pv 0) pa_nil)) (nomark _))
          (pe_callTy call_int1 (by rfl) T.int (by decide +kernel) (pa_cons (pe_ix ix_list (pv 0) (pv 1) (fun _ _ => rfl)) pa_nil)) (pe_op op_add (pe_op op_mul pe_int (pv 1)) pe_int)))
      (pss_cons (ps_set (i := 3) scJar.nd rfl (.inl rfl) (pe_op op_add pe_int (pe_op op_mul pe_int (pv 1))))
      (pss_cons (ps_for PassesOwn.never rfl (pi_list (pe_slice sl_list (pv 0) po_none (po_some pe_int))) (pg_name (i := 4) scJar.nd rfl (.inl rfl))
        (pss_one (ps_set (i := 3) scJar.nd rfl (.inl rfl) (pe_op op_mod (pe_callTy call_int1 (by rfl) T.int (by decide +kernel) (pa_cons (pe_op op_add (pe_op op_mul (pv 3) pe_int) (pe_op op_mod (pe_callTy call_int1 (by rfl) T.int (by decide +kernel) (pa_cons (pv 4) pa_nil)) pe_int)) pa_nil)) pe_int))))
      (pss_one (ps_ret (pe_lst (pa_cons (pe_ifExp (PW.pt (pw_or (pt_cmpR op_lt (pv 2) pe_int (nomark _)) (pw_or1 (pt_cmpR op_ge (pv 2) (pe_op op_pow pe_int pe_int) (nomark _))))) (pe_callB call_abs (by rfl) T.abs (by decide +kernel) (pa_cons (pv 2) pa_nil)) pe_int)
        (pa_cons (pe_op op_mod (pe_callTy call_int1 (by rfl) T.int (by decide +kernel) (pa_cons (pe_op op_add (pe_op op_mul (pv 3) pe_int) (pe_op op_mod (pv 2) pe_int)) pa_nil)) pe_int) (pa_cons pe_int pa_nil)))))))), ?_⟩
    refine ⟨fun σ H' => H = H' ∧ ∃ own : Int, σ = [some (.ref a), some (.int k), some (.int own), none, none], ?_, ?_⟩
    · refine ⟨_, rfl, _, rfl, a, _, rfl, .inl hS, _, _, rfl, rfl, _, rfl, ?_⟩
      refine ite2 (fun c => ?_) (fun c => ?_)
      · have hk : k < ns.length := by
          have c' := of_decide_eq_true c
          rw [List.length_map] at c'
          omega
        exact ⟨_, rfl, _, rfl, a, _, _, .int ns[k], rfl, rfl, hS, atI_nat (by rw [List.getElem?_map, List.getElem?_eq_getElem hk]; rfl), .inl ⟨_, rfl, rfl, _, rfl⟩⟩
      · exact ⟨_, rfl, _, _, rfl, rfl, .inl (by decide), _, _, rfl, rfl, rfl, _, rfl⟩
    · rintro _ _ ⟨rfl, own, rfl⟩
      refine ⟨_, rfl, _, _, rfl, rfl, .inl (by decide), _, _, rfl, rfl, ?_⟩
      refine ⟨_, rfl, 13, rfl, a, _, rfl, hS, fun p np => ?_⟩
      obtain ⟨ms, ems⟩ := cut_map ns none (some 13)
      rw [ems]
      refine ⟨p, rfl, ⟨_, SqL.of upd_same⟩, for_list (K := K) (a := p) (xs := ms.map V.int) (fun i σ H' => ∃ (mx : Int) (v : Option V), σ = [some (.ref a), some (.int k), some (.int own), some (.int mx), v] ∧ H' = upd H p (.lst (ms.map V.int)))
        ⟨_, none, rfl, rfl⟩ (fun i σ H' _ ⟨_, _, _, e⟩ => by rw [e]; exact SqL.of upd_same) ?_ ?_⟩
      · rintro i y σ H' hi ⟨mx, v, rfl, rfl⟩
        obtain ⟨u, rfl⟩ := int_of_map hi
        refine ⟨_, rfl, _, _, rfl, rfl, .inr (by decide), ?_⟩
        refine ⟨_, rfl, .inl ⟨_, rfl, _, _, rfl, rfl, (by show (0 : Int) < 1999999927; decide), _, _, rfl, rfl, .inl ⟨_, rfl, _, _, rfl, rfl, (by show (0 : Int) < 1999999927; decide), ?_⟩⟩⟩
        exact ⟨_, _, rfl, rfl⟩
      · rintro σ H' ⟨mx, v, rfl, rfl⟩
        have fin : ∀ (x : Int), tCons (tOp (rI (fun x j => 0 < j) fun i j => V.int (i % j)) (tCB (fun xs H Q => (∃ i, xs = [V.int i] ∧ Q (V.int i) H) ∨ ∃ k, xs = [V.bl k] ∧ Q (V.int (if k = true then 1 else 0)) H)
            (tCons (tOp (rI0 fun i j => V.int (i + j)) (tOp (rI CMul fun i j => V.int (i * j)) (tVar 3) (tC (V.int 5))) (tOp (rI (fun x j => 0 < j) fun i j => V.int (i % j)) (tVar 2) (tC (V.int 1999999927)))) tNil)) (tC (V.int 1999999927)))
          (tCons (tC (V.int 0)) tNil) [some (.ref a), some (.int k), some (.int own), some (.int mx), v] (upd H p (.lst (ms.map V.int))) (fun xs H1 => (V.int x :: xs).length ≤ sizeLine ∧ ∀ p, H1 p = none → Q (.ref p) (upd H1 p (.lst (V.int x :: xs)))) := by
          intro x
          refine ⟨_, rfl, _, _, rfl, rfl, .inr (by decide), _, rfl, _, _, rfl, rfl, (by show (0 : Int) < 1999999927; decide), _, _, rfl, rfl, .inl ⟨_, rfl, _, _, rfl, rfl, (by show (0 : Int) < 1999999927; decide), ?_⟩⟩
          refine ⟨(by show 3 ≤ sizeLine; decide), fun jj nj => ?_⟩
          exact q _ jj (Same.trans (same_upd np) (same_upd nj)) ((same_upd np).free nj) ⟨_, _, _, upd_same⟩
        refine ⟨_, rfl, _, _, rfl, rfl, _, rfl, ?_⟩
        refine ite2 (fun _ => ?_) (fun _ => ?_)
        · refine iteT ?_
          exact ⟨_, rfl, _, rfl, fin _⟩
        · refine ⟨_, rfl, _, _, rfl, rfl, ⟨by decide, by decide, by decide⟩, _, _, rfl, rfl, _, rfl, ?_⟩
          refine ite2 (fun _ => ?_) (fun _ => ?_)
          · exact ⟨_, rfl, _, rfl, fin _⟩
          · exact fin _
end
end My

/-! what every proof about a program of several defs wants -/
namespace Cm
open PySem PySem.Spec PyProof.Rows L2
/-- a def of the module -/
structure Df (K : PySem.W.Frag) (mg : Str → Option Value) (x : Str) (st : Stmt) (ps : List Str) where
  f : Addr
  fd : FuncData
  F : Fun K x x st f fd
  b : Binds K fd ps []
  g : mg x = some (.ref f)
  k : PySem.W.keepIn K (.ref f) = true
/-- a method of the class at C -/
structure Mt (K : PySem.W.Frag) (C : Addr) (x q : Str) (st : Stmt) (ps : List Str) where
  f : Addr
  fd : FuncData
  F : Fun K x q st f fd
  b : Binds K fd ps []
  m : Meth K C x f
theorem dI (a b : Int) : decide (V.int a = V.int b) = decide (a = b) := decide_eq_decide.mpr ⟨fun z => by cases z; rfl, fun z => by rw [z]⟩
theorem dS (a b : Str) : decide (V.str a = V.str b) = decide (a = b) := decide_eq_decide.mpr ⟨fun z => by cases z; rfl, fun z => by rw [z]⟩
theorem dB (a b : Bool) : decide (V.bl a = V.bl b) = decide (a = b) := decide_eq_decide.mpr ⟨fun z => by cases z; rfl, fun z => by rw [z]⟩
theorem putF_len (f : Str) (v : V) : ∀ fs : List (Str × V), (putF f v fs).length ≤ fs.length + 1
  | [] => Nat.le_refl _
  | (g, x) :: r => by
    unfold putF
    by_cases h : g = f
    · rw [if_pos h]
      exact Nat.le_succ _
    · rw [if_neg h]
      exact Nat.succ_le_succ (putF_len f v r)
theorem szl {n : Nat} (h : n ≤ 1000) : n ≤ sizeLine := Nat.le_of_lt (small1000 h)
theorem szM {n : Nat} (h : n ≤ 1000000) : n < sizeLine := Nat.lt_of_le_of_lt h (by decide)
theorem Same.set {K : PySem.W.Frag} {H H' : Hp} {a : Addr} {xs : List V} (e : Same H H') (h : SqT K H a xs) : SqT K H' a xs := by
  rcases h with (h | ⟨o, h⟩) | h
  · exact .inl (.inl (e _ _ h))
  · exact .inl (.inr ⟨o, e _ _ h⟩)
  · exact .inr h
theorem same_new {H : Hp} {p : Addr} {o : HO} (h : H p = none) : Same H (upd H p o) := fun b x e => by
  rw [upd_ne (ne_of_none e h)]
  exact e
theorem pass_none {P : Program} {w : World} {X : Cx} : Passes (L2.CX P w) X (fun _ _ _ => False) := fun pins σ H s e s2 I h => by
  obtain ⟨_, _, _, _, _, _, _, _, _, _, _, _, h⟩ := h
  exact h.elim
/-! ### len and truth of an instance with an own __len__ -/
section
variable {X : Cx} {C g : Addr} {n : Nat} {sp : Sp}
theorem inst_of {pins : List (Addr × Obj)} {σ : L2.St} {H : Hp} {s : Shared} {a dx : Addr} {fs : List (Str × V)} (I : Inv X pins σ H s) (e : H a = some (.ins C dx fs)) : ∃ (ox : Obj) (od : Option Obj), PySem.W.InstAt s.heap a ox C od := by
  obtain ⟨mA, O, _⟩ := ins_get I.hok e
  obtain ⟨od, J, _⟩ := O.look
  exact ⟨_, _, J⟩
def rLenO (C : Addr) (sp : Sp) : List V → Hp → VK → Prop := fun xs H Q => ∃ (a dx : Addr) (fs : List (Str × V)), xs = [.ref a] ∧ H a = some (.ins C dx fs) ∧ sp [.ref a] H (fun v H2 => ∃ k : Nat, v = .int k ∧ k ≤ 1000000 ∧ Q (.int k) H2) fun _ _ _ => False
theorem call_lenO (hs : PySem.W.findIn X.K (.ref C) "__len__" = some (some (.ref g))) (hf : PySem.W.isFn X.K (.ref g) = true) (F : FnR X.prog X.w X.K X.mg X.base CX0 n g sp) (hr : Room (n + 1) X.A) : CallR X (.builtin "len") (rLenO C sp) := by
  intro pins s σ H xs us Q I r h
  obtain ⟨a, dx, fs, rfl, ha, q⟩ := h
  obtain ⟨u, rfl, ru⟩ := vals1 r
  cases (show u = Value.ref a from ru)
  obtain ⟨ox, od, J⟩ := inst_of I ha
  obtain ⟨m, fr⟩ := I.fr
  refine PySem.W.len_K fr I.ok.mod.kin J hs hf ?_
  refine wpAny_mono (wpAny_call (SlX.run_at (us := [.ref a]) (ws := [.ref a]) F hr.in1 I.env0.in1 pass0 I (.cons rfl .nil) q)) (fun z s2 hz => ?_) fun _ _ e => e
  obtain ⟨z2, H2, I2, rz, k, rfl, hk, qz⟩ := hz
  obtain ⟨tk, rfl⟩ := (show ∃ tk, z = Value.int k tk from rz)
  exact ⟨⟨by omega, by omega⟩, .int k, H2, I2.tok _, ⟨_, rfl⟩, qz⟩
end
/-! ### bool of an instance with an own __len__ -/
section
variable {prog : Program} {w : World} {A : Around} {E : Value → Shared → Prop} {s : Shared} {K : PySem.W.Frag} {x C f : Addr} {ox : Obj} {od : Option Obj}
theorem len_bodyK {Q : Value → Shared → Prop} (X : K.In s.heap) (I : PySem.W.InstAt s.heap x ox C od) (hs : PySem.W.findIn K (.ref C) "__len__" = some (some (.ref f))) (hf : PySem.W.isFn K (.ref f) = true)
    (h : wpAny (model prog w) A (call (.ref f) [.ref x]) (PySem.W.LenBack Q) E s) : wpAny (model prog w) A (Builtin.«len» ⟨[.ref x], []⟩) (fun fin s' => ∃ r, fin = .done (.ret r) ∧ Q r s') E s := by
  unfold Builtin.«len»
  refine wpAny_bind (m := oneArg "len" _) (wpAny_pure ?_)
  refine wpAny_bind (m := callSpecial? (.ref x) (Str.ofString "__len__")) (PySem.W.special_fn X I hs (beq_iff_eq.mp hf) (wpAny_mono h (fun r s' hr => ?_) fun _ _ y => y))
  cases r <;> first | exact hr.elim | skip
  rename_i n u
  obtain ⟨⟨h0, h1⟩, hq⟩ := hr
  refine wpAny_bind (wpAny_holding (wpAny_pure ?_))
  refine wpAny_bind (wpAny_letGo ?_)
  show wpAny _ _ (if n < 0 then _ else _) _ _ _
  rw [if_neg (by omega)]
  show wpAny _ _ (if n ≥ 2 ^ 63 then _ else _) _ _ _
  rw [if_neg (by omega)]
  exact wpAny_bind (wpAny_mkInt (wpAny_pure ⟨_, rfl, hq⟩))
theorem truthy_KL {Q : Bool → Shared → Prop} (X : K.In s.heap) (I : PySem.W.InstAt s.heap x ox C od) (hb : PySem.W.findIn K (.ref C) "__bool__" = some none) (hl : PySem.W.findIn K (.ref C) "__len__" = some (some (.ref f))) (hf : PySem.W.isFn K (.ref f) = true)
    (h : wpAny (model prog w) A.in1 (call (.ref f) [.ref x]) (PySem.W.LenBack fun v s' => ∃ n t, v = .int n t ∧ Q (n != 0) s') E s) : wpAny (model prog w) A (truthy (.ref x)) Q E s := by
  have key : wpAny (model prog w) A (runValue (.builtin "len" ⟨[.ref x], []⟩)) (fun r s' => ∃ n t, r = .int n t ∧ Q (n != 0) s') E s := by
    refine wpAny_runValue (codeAny_builtin entry_len ?_)
    rw [Around.under_plainId plain_len _]
    exact wpAny_mono (len_bodyK X I hl hf h) (fun fin s' h' => by obtain ⟨r, rfl, hq⟩ := h'; exact hq) fun _ _ e => e
  unfold truthy
  refine wpAny_bind (m := callSpecial? (.ref x) (Str.ofString "__bool__")) (wpAny_bind (wpAny_bind (I.type.here ((PySem.W.looks_findIn X hb).here (wpAny_pure ?_)))))
  refine wpAny_bind (wpAny_bind (I.type.here ((PySem.W.looks_findIn X hl).here ?_)))
  exact wpAny_bind (wpAny_mono key (fun r s' h' => by obtain ⟨n, t, rfl, hq⟩ := h'; exact wpAny_pure hq) fun _ _ e => e)
theorem bool_KL {Q : Value → Shared → Prop} (X : K.In s.heap) (I : PySem.W.InstAt s.heap x ox C od) (hb : PySem.W.findIn K (.ref C) "__bool__" = some none) (hl : PySem.W.findIn K (.ref C) "__len__" = some (some (.ref f))) (hf : PySem.W.isFn K (.ref f) = true)
    (h : wpAny (model prog w) A.in1.in1.in1 (call (.ref f) [.ref x]) (PySem.W.LenBack fun v s' => ∃ n t, v = .int n t ∧ Q (.bool (n != 0)) s') E s) : wpAny (model prog w) A (call (.type "bool") [.ref x]) Q E s := by
  refine callType_codes (T := "bool") (Bi := Builtin.«object.__init__») (Q₁ := fun r s₁ => ∃ b, r = .bool b ∧ Q r s₁) PySem.F.called_bool (PySem.F.typeCall_bool_1 _) PySem.F.entry_object_init ?_ ?_
  · refine codeAny_of_tree ?_
    show wpAny _ A.in1.in1 (do checkBuiltinCall "bool.__new__" ⟨[.type "bool", .ref x], []⟩; again (.builtin "bool.__new__" ⟨[.type "bool", .ref x], []⟩)) _ _ s
    refine wpAny_bind (wpAny_of_eq (PySem.F.newCall_bool_1 _) (wpAny_pure ⟨plainId_quiet (by decide +kernel) _, codeAny_builtin PySem.F.entry_bool_new ?_⟩))
    rw [Around.under_plainId (by decide +kernel) _]
    have f1 := PySem.F.conv_sub_bool
    have key : wpAny (model prog w) A.in1.in1 (truthy (.ref x)) (fun b s1 => Q (.bool b) s1) E s := truthy_KL X I hb hl hf (wpAny_mono h (fun v s1 hv => by
      cases v <;> first | exact hv.elim | skip
      obtain ⟨h01, n, t, e, hq⟩ := hv
      cases e
      exact ⟨h01, _, _, rfl, hq⟩) fun _ _ z => z)
    unfold Builtin.«bool.__new__»
    show wpAny _ _ (isType (.type "bool") >>= _) _ _ s
    refine wpAny_bind (wpAny_pure ?_)
    refine wpAny_bind (wpAny_of_eq f1 ?_)
    refine wpAny_bind (wpAny_pure ?_)
    exact wpAny_bind (wpAny_mono key (fun b s1 hb1 => wpAny_pure ⟨_, rfl, hb1⟩) fun _ _ z => z)
  · rintro obj s₁ ⟨b, rfl, hq⟩
    exact ⟨rfl, PySem.F.args_object_init_2 _ _, object_init_meets PySem.F.called_bool.init.lookup PySem.F.called_bool.made (by decide) prog w A.in1 _ s₁ ⟨rfl, rfl, hq⟩⟩
end
section
variable {X : Cx} {C g : Addr} {n : Nat} {sp : Sp}
def rBoolL (C : Addr) (sp : Sp) : List V → Hp → VK → Prop := fun xs H Q => ∃ (a dx : Addr) (fs : List (Str × V)), xs = [.ref a] ∧ H a = some (.ins C dx fs) ∧ sp [.ref a] H (fun v H2 => ∃ k : Nat, v = .int k ∧ k ≤ 1000000 ∧ Q (.bl ((k : Int) != 0)) H2) fun _ _ _ => False
theorem call_boolLO (hb : PySem.W.findIn X.K (.ref C) "__bool__" = some none) (hs : PySem.W.findIn X.K (.ref C) "__len__" = some (some (.ref g))) (hf : PySem.W.isFn X.K (.ref g) = true) (F : FnR X.prog X.w X.K X.mg X.base CX0 n g sp) (hr : Room (n + 3) X.A) : CallR X (.type "bool") (rBoolL C sp) := by
  intro pins s σ H xs us Q I r h
  obtain ⟨a, dx, fs, rfl, ha, q⟩ := h
  obtain ⟨u, rfl, ru⟩ := vals1 r
  cases (show u = Value.ref a from ru)
  obtain ⟨ox, od, J⟩ := inst_of I ha
  have hr2 : Room (n + 2) X.A.in1 := hr.in1
  have hr1 : Room (n + 1) X.A.in1.in1 := hr2.in1
  refine bool_KL I.kIn J hb hs hf ?_
  refine wpAny_mono (wpAny_call (SlX.run_at (us := [.ref a]) (ws := [.ref a]) F hr1.in1 I.env0.in1.in1.in1 pass0 I (.cons rfl .nil) q)) (fun z s2 hz => ?_) fun _ _ e => e
  obtain ⟨z2, H2, I2, rz, k, rfl, hk, qz⟩ := hz
  obtain ⟨tk, rfl⟩ := (show ∃ tk, z = Value.int k tk from rz)
  exact ⟨⟨by omega, by omega⟩, _, _, rfl, .bl _, H2, I2.tok _, rfl, qz⟩
end
/-! ### tuples cut and put together -/
theorem cut_to (xs : List V) (k : Nat) (h : k ≤ xs.length) : cutV xs none (some (k : Int)) = xs.take k := by
  unfold cutV
  rw [HT.sIx_none, HT.sIx_nat, Nat.min_eq_left h]
  rfl
theorem cut_from (xs : List V) (k : Nat) : cutV xs (some (k : Int)) none = xs.drop k := by
  unfold cutV
  rw [HT.sIx_none, HT.sIx_nat]
  by_cases h : k ≤ xs.length
  · rw [Nat.min_eq_left h]
    exact List.take_of_length_le (by rw [List.length_drop]; omega)
  · rw [Nat.min_eq_right (by omega), List.drop_length, List.drop_eq_nil_of_le (by omega)]
    simp
section
variable {X : Cx}
def rSlS (K : PySem.W.Frag) : V → Option Int → Option Int → Hp → VK → Prop := fun x lo hi H Q => ∃ a xs, x = .ref a ∧ SqT K H a xs ∧ ∀ (H' : Hp) (q : Addr), Same H H' → SqT K H' q (cutV xs lo hi) → Q (.ref q) H'
theorem sl_tupS : SlR X (rSlS X.K) := by
  intro pins s σ H x v vl vu lo hi sl Q I rx hs pl pu h
  obtain ⟨a, xs, rfl, hx, q⟩ := h
  refine sl_tupA pins s σ H _ v vl vu lo hi sl Q I rx hs pl pu ⟨a, xs, rfl, hx, fun z => ?_, fun _ p np => q _ p (same_new np) (SqT.of upd_same)⟩
  refine q H a (Same.refl _) ?_
  have e : cutV xs lo hi = xs := by
    unfold cutV
    rw [z.1, z.2]
    simp
  rw [e]
  exact hx
def rCatS (K : PySem.W.Frag) : R2 := fun x y H Q => ∃ a b xs ys, x = .ref a ∧ y = .ref b ∧ SqT K H a xs ∧ SqT K H b ys ∧ xs.length + ys.length ≤ sizeLine ∧ ∀ (H' : Hp) (q : Addr), Same H H' → SqT K H' q (xs ++ ys) → Q (.ref q) H'
theorem op_catS : OpR X (binaryOp .Add) (rCatS X.K) := by
  intro pins s σ H x y v u Q I rx ry h
  obtain ⟨a, b, xs, ys, rfl, rfl, ha, hb, hz, q⟩ := h
  refine op_catA pins s σ H _ _ v u Q I rx ry ⟨a, b, xs, ys, rfl, rfl, ha, hb, hz, fun z => ?_, fun _ z => ?_, fun _ _ p np => q _ p (same_new np) (SqT.of upd_same)⟩
  · refine q H b (Same.refl _) ?_
    rw [z]
    exact hb
  · refine q H a (Same.refl _) ?_
    rw [z, List.append_nil]
    exact ha
end
/-! ### a reading may be asked for more -/
section
variable {X : Cx} {e : Expr} {es : List Expr} {st : Stmt} {sts : List Stmt}
theorem pe_imp {t t' : TE} (h : PE X e t) (k : ∀ σ H Q, t' σ H Q → t σ H Q) : PE X e t' := ⟨fun pins s σ H Q I q => h.run pins s σ H Q I (k σ H Q q)⟩
theorem pa_imp {t t' : TA} (h : PA X es t) (k : ∀ σ H Q, t' σ H Q → t σ H Q) : PA X es t' := ⟨fun pos pins s σ H Q I q => h.run pos pins s σ H Q I (k σ H Q q)⟩
theorem pt_imp {t t' : TT} (h : PT X e t) (k : ∀ σ H Q, t' σ H Q → t σ H Q) : PT X e t' := ⟨fun pins s σ H Q I q => h.run pins s σ H Q I (k σ H Q q)⟩
theorem ps_imp {t t' : TS} (h : PS X st t) (k : ∀ D σ H, t' D σ H → t D σ H) : PS X st t' := ⟨fun pins s σ H D I q => h.run pins s σ H D I (k D σ H q)⟩
theorem pss_imp {t t' : TS} (h : PSs X sts t) (k : ∀ D σ H, t' D σ H → t D σ H) : PSs X sts t' := ⟨fun pins s σ H D I q => h.run pins s σ H D I (k D σ H q)⟩
end
theorem hu64 {A : Around} {k : Nat} (hr : Room k A) : A.units + 64 < cLine := by
  have := hr.un
  omega
/-! ### the same, for tuples that are tracked -/
section
variable {X : Cx}
def rSlH : V → Option Int → Option Int → Hp → VK → Prop := fun x lo hi H Q => ∃ a xs, x = .ref a ∧ H a = some (.tup xs) ∧ ∀ (H' : Hp) (q : Addr), Same H H' → H' q = some (.tup (cutV xs lo hi)) → Q (.ref q) H'
theorem sl_tupH : SlR X rSlH := by
  intro pins s σ H x v vl vu lo hi sl Q I rx hs pl pu h
  obtain ⟨a, xs, rfl, hx, q⟩ := h
  refine sl_tupA pins s σ H _ v vl vu lo hi sl Q I rx hs pl pu ⟨a, xs, rfl, SqT.of hx, fun z => ?_, fun _ p np => q _ p (same_new np) upd_same⟩
  refine q H a (Same.refl _) ?_
  have e : cutV xs lo hi = xs := by
    unfold cutV
    rw [z.1, z.2]
    simp
  rw [e]
  exact hx
def rCatH : R2 := fun x y H Q => ∃ a b xs ys, x = .ref a ∧ y = .ref b ∧ H a = some (.tup xs) ∧ H b = some (.tup ys) ∧ xs.length + ys.length ≤ sizeLine ∧ ∀ (H' : Hp) (q : Addr), Same H H' → H' q = some (.tup (xs ++ ys)) → Q (.ref q) H'
theorem op_catH : OpR X (binaryOp .Add) rCatH := by
  intro pins s σ H x y v u Q I rx ry h
  obtain ⟨a, b, xs, ys, rfl, rfl, ha, hb, hz, q⟩ := h
  refine op_catA pins s σ H _ _ v u Q I rx ry ⟨a, b, xs, ys, rfl, rfl, SqT.of ha, SqT.of hb, hz, fun z => ?_, fun _ z => ?_, fun _ _ p np => q _ p (same_new np) upd_same⟩
  · refine q H b (Same.refl _) ?_
    rw [z]
    exact hb
  · refine q H a (Same.refl _) ?_
    rw [z, List.append_nil]
    exact ha
end
theorem cut_mid (xs : List V) (a b : Nat) (h1 : a ≤ b) (h2 : b ≤ xs.length) : cutV xs (some (a : Int)) (some (b : Int)) = (xs.drop a).take (b - a) := by
  unfold cutV
  rw [HT.sIx_nat, HT.sIx_nat, Nat.min_eq_left h2, Nat.min_eq_left (by omega)]
end Cm

/-! texts of loops: what their words are, and when they are right -/
namespace LM
open PySem L2 TL
def tests : List Str := ["empty", "some", "short", "full", "told", "open", "rest", "bare"]
def rsteps : List Str := ["add", "hand", "cut", "flush", "stop", "again"]
def esteps : List Str := ["hand", "cut", "flush"]
def wordsR (t : Str) : List Str := Txt.split (Txt.partition t " | ").1 " "
def wordsE (t : Str) : List Str := if (Txt.partition t " | ").2.1.length != 0 then Txt.split (Txt.partition t " | ").2.2 " " else []
def orderOf (w : Str) : Str × Str := if (Txt.partition w ":").2.1.length != 0 then ((Txt.partition w ":").1, (Txt.partition w ":").2.2) else ("", w)
def isWord (w : Str) (ss : List Str) : Bool := if (Txt.partition w ":").2.1.length != 0 then decide ((Txt.partition w ":").1 ∈ tests) && decide ((Txt.partition w ":").2.2 ∈ ss) else decide (w ∈ ss)
def areWords (ws ss : List Str) : Bool := ws.all fun w => isWord w ss
def isAdd (w : Str) : Bool := decide ((orderOf w).2 = "add")
def isRound (ws : List Str) : Bool := decide (ws.head? = some "ask") && (decide (ws.length ≤ 12) && (decide ((ws.filter isAdd).length ≤ 1) && areWords ws.tail rsteps))
def isEnding (ws : List Str) : Bool := decide (ws.length ≤ 6) && areWords ws esteps
def goodText (t : Str) : Bool := isRound (wordsR t) && isEnding (wordsE t)
def svs (ws : List Str) : List V := ws.map V.str
theorem svs_flat : ∀ ws : List Str, (svs ws).all flatV = true
  | [] => rfl
  | _ :: r => svs_flat r
theorem inV_svs (w : Str) : ∀ ws : List Str, inV (.str w) (svs ws) = decide (w ∈ ws)
  | [] => by simp [inV, svs]
  | x :: r => by
    have ih := inV_svs w r
    show (eqV (.str x) (.str w) || inV (.str w) (svs r)) = _
    rw [ih]
    show ((x == w) || decide (w ∈ r)) = _
    by_cases h : x = w
    · subst h
      simp
    · have h2 : (x == w) = false := by
        cases hh : (x == w) with
        | false => rfl
        | true => exact absurd (eq_of_beq hh) h
      rw [h2, Bool.false_or]
      refine decide_eq_decide.mpr ⟨fun z => List.mem_cons_of_mem _ z, fun z => ?_⟩
      rcases List.mem_cons.mp z with z | z
      · exact absurd z.symm h
      · exact z
theorem split_ne (x y : Str) : Txt.split x y ≠ [] := by
  unfold Txt.split
  split
  · simp
  · split
    · simp
    · rw [PySem.StrLaws.partsBetween_eq]
      cases Builtin.Str.occurrences x y 0 x.length (x.length + 1) <;> simp [PySem.StrLaws.partsFrom]
/-! ### drawn words -/
/-- a step of these, or a test before it -/
def Wd (ss : List Str) (w : Str) : Prop := ∃ s ∈ ss, w = s ∨ ∃ t ∈ tests, w = t ++ (":" : Str) ++ s
def allWd (ss : List Str) : List Str := ss ++ (tests.map fun t : Str => ss.map fun s : Str => t ++ (":" : Str) ++ s).flatten
theorem Wd.mem {ss : List Str} {w : Str} (h : Wd ss w) : w ∈ allWd ss := by
  obtain ⟨s, hs, rfl | ⟨t, ht, rfl⟩⟩ := h
  · exact List.mem_append.mpr (.inl hs)
  · exact List.mem_append.mpr (.inr (List.mem_flatten.mpr ⟨_, List.mem_map.mpr ⟨t, ht, rfl⟩, List.mem_map.mpr ⟨s, hs, rfl⟩⟩))
theorem Wd.mono {ss zs : List Str} {w : Str} (f : ∀ s ∈ ss, s ∈ zs) (h : Wd ss w) : Wd zs w := let ⟨s, hs, q⟩ := h; ⟨s, f s hs, q⟩
/-- what is known of a word -/
def wdOk (w : Str) : Bool := isWord w rsteps && (decide (32 ∉ tl w) && (decide (124 ∉ tl w) && decide (w.length ≤ 11)))
theorem wd_ok : ∀ w ∈ allWd rsteps, wdOk w = true := by decide +kernel
theorem wd_end : ∀ w ∈ allWd esteps, isWord w esteps = true := by decide +kernel
theorem wd_noadd : ∀ w ∈ allWd ["hand", "cut", "flush", "stop", "again"], isAdd w = false := by decide +kernel
/-! ### lines -/
def line (B E : List Str) : Str := if E = [] then Txt.join " " B else Txt.join " " (B ++ [("|" : Str)] ++ E)
def textOf (B E : List Str) : Str := if E = [] then Txt.join " " B else Txt.join " " B ++ " | " ++ Txt.join " " E
/-- no space and no bar is in it -/
def Fre (w : Str) : Prop := 32 ∉ tl w ∧ 124 ∉ tl w
theorem tlSp : tl (" " : Str) = [32] := by decide +kernel
theorem tlBar : tl (" | " : Str) = [32, 124, 32] := by decide +kernel
theorem tlB1 : tl ("|" : Str) = [124] := by decide +kernel
theorem joinL_app (S : List Nat) : ∀ (a b : List (List Nat)), a ≠ [] → b ≠ [] → joinL S (a ++ b) = joinL S a ++ (S ++ joinL S b)
  | [], _, h, _ => absurd rfl h
  | [p], b, _, hb => by
    cases b with
    | nil => exact absurd rfl hb
    | cons q r => rfl
  | p :: q :: r, b, _, hb => by
    show p ++ (S ++ joinL S (q :: r ++ b)) = p ++ (S ++ joinL S (q :: r)) ++ (S ++ joinL S b)
    rw [joinL_app S (q :: r) b (by simp) hb]
    simp [List.append_assoc]
theorem joinL_mem {S : List Nat} {c : Nat} : ∀ {a : List (List Nat)}, c ∈ joinL S a → c ∈ S ∨ ∃ p ∈ a, c ∈ p
  | [], h => nomatch h
  | [p], h => .inr ⟨p, List.mem_singleton.mpr rfl, h⟩
  | p :: q :: r, h => by
    rcases List.mem_append.mp (show c ∈ p ++ (S ++ joinL S (q :: r)) from h) with h | h
    · exact .inr ⟨p, List.mem_cons_self .., h⟩
    · rcases List.mem_append.mp h with h | h
      · exact .inl h
      · rcases joinL_mem h with h | ⟨z, hz, hc⟩
        · exact .inl h
        · exact .inr ⟨z, List.mem_cons_of_mem _ hz, hc⟩
theorem tl_joinSp (B : List Str) : tl (Txt.join " " B) = joinL [32] (B.map tl) := by rw [join_eq, tl_join, tlSp]
theorem nobar {B : List Str} (h : ∀ w ∈ B, Fre w) : 124 ∉ tl (Txt.join " " B) := by
  rw [tl_joinSp]
  intro hm
  rcases joinL_mem hm with hm | ⟨p, hp, hc⟩
  · exact absurd hm (by decide)
  · obtain ⟨w, hw, rfl⟩ := List.mem_map.mp hp
    exact (h w hw).2 hc
theorem line_text {B E : List Str} (hB : B ≠ []) : line B E = textOf B E := by
  unfold line textOf
  by_cases hE : E = []
  · rw [if_pos hE, if_pos hE]
  · rw [if_neg hE, if_neg hE]
    refine ext_tl ?_
    rw [tl_append, tl_append, tl_joinSp, tl_joinSp, tl_joinSp, tlBar, List.map_append, List.map_append, joinL_app _ _ _ (by simp) (by simpa using hE), joinL_app _ _ _ (by simpa using hB) (by simp)]
    simp [joinL, tlB1]
theorem pre_bar {l : List Nat} (h : pre [32, 124, 32] l = true) : ∃ r, l = 32 :: 124 :: 32 :: r := by
  have e : l.take 3 = [32, 124, 32] := eq_of_beq h
  match l, e with
  | a :: b :: c :: r, e =>
    simp at e
    obtain ⟨rfl, rfl, rfl⟩ := e
    exact ⟨r, rfl⟩
theorem no_bar {p q : List Nat} (h : 124 ∉ p) (hq : q = [] ∨ ∃ r, q = 32 :: r) : ∀ i, i < p.length → pre [32, 124, 32] ((p ++ q).drop i) = false := by
  intro i hi
  cases hp : pre [32, 124, 32] ((p ++ q).drop i) with
  | false => rfl
  | true =>
    obtain ⟨r, e⟩ := pre_bar hp
    have e1 : (p ++ q)[i + 1]? = some 124 := by
      have : ((p ++ q).drop i)[1]? = some 124 := by rw [e]; rfl
      rw [List.getElem?_drop] at this
      exact this
    by_cases h1 : i + 1 < p.length
    · rw [List.getElem?_append_left h1] at e1
      exact absurd (List.mem_of_getElem? e1) h
    · rw [List.getElem?_append_right (by omega)] at e1
      rcases hq with rfl | ⟨r, rfl⟩
      · simp at e1
      · have : i + 1 - p.length = 0 := by omega
        rw [this] at e1
        simp at e1
theorem part_no {x : Str} (h : 124 ∉ tl x) : Txt.partition x " | " = (x, Str.empty, Str.empty) := by
  rw [partition_par _ _ (by rw [tlBar]; simp), tlBar, par_none]
  intro i hi
  have := no_bar (q := []) h (.inl rfl) i hi
  rwa [List.append_nil] at this
theorem part_yes {x y : Str} (h : 124 ∉ tl x) : Txt.partition (x ++ " | " ++ y) " | " = (x, (" | " : Str), y) := by
  rw [partition_par _ _ (by rw [tlBar]; simp), tl_append, tl_append, List.append_assoc, tlBar, par_part (by simp) (no_bar h (.inr ⟨_, rfl⟩))]
  show ((⟨([] ++ tl x).toArray⟩ : Str), _, (⟨(tl y).toArray⟩ : Str)) = _
  rw [List.nil_append, mk_tl, mk_tl]
theorem split_words {B : List Str} (hB : B ≠ []) (h : ∀ w ∈ B, Fre w) : Txt.split (Txt.join " " B) " " = B :=
  split_join (s := 32) (S := []) tlSp (by decide +kernel) hB fun p hp => (h p hp).1
theorem words_text {B E : List Str} (hB : B ≠ []) (h1 : ∀ w ∈ B, Fre w) (h2 : ∀ w ∈ E, Fre w) : wordsR (textOf B E) = B ∧ wordsE (textOf B E) = E := by
  unfold wordsR wordsE textOf
  by_cases hE : E = []
  · rw [if_pos hE, part_no (nobar h1)]
    refine ⟨split_words hB h1, ?_⟩
    rw [hE]
    rfl
  · rw [if_neg hE, part_yes (nobar h1)]
    refine ⟨split_words hB h1, ?_⟩
    exact (if_pos (show ((" | " : Str).length != 0) = true by decide +kernel)).trans (split_words hE h2)
theorem words_line {B E : List Str} (hB : B ≠ []) (h1 : ∀ w ∈ B, Fre w) (h2 : ∀ w ∈ E, Fre w) : wordsR (line B E) = B ∧ wordsE (line B E) = E := by
  rw [line_text hB]
  exact words_text hB h1 h2
/-! ### lengths -/
theorem sum_le {n : Nat} : ∀ {B : List Str}, (∀ w ∈ B, w.length ≤ n) → (B.map (·.length)).sum ≤ n * B.length
  | [], _ => Nat.zero_le _
  | w :: r, h => by
    have a := h w (List.mem_cons_self ..)
    have b := sum_le (B := r) fun z hz => h z (List.mem_cons_of_mem _ hz)
    rw [List.map_cons, List.sum_cons, List.length_cons, Nat.mul_succ]
    omega
theorem join_len : ∀ B : List Str, (Txt.join " " B).length ≤ (B.map (·.length)).sum + B.length := by
  intro B
  rw [len_tl, tl_joinSp]
  induction B with
  | nil => simp [joinL]
  | cons w r ih =>
    cases r with
    | nil =>
      show (tl w).length ≤ _
      rw [← len_tl]
      simp
    | cons x r =>
      show (tl w ++ ([32] ++ joinL [32] ((x :: r).map tl))).length ≤ _
      rw [List.length_append, List.length_append, ← len_tl]
      simp only [List.map_cons, List.sum_cons, List.length_cons, List.length_nil] at ih ⊢
      omega
/-- short words, not many -/
def Sht (n : Nat) (B : List Str) : Prop := (∀ w ∈ B, w.length ≤ 11) ∧ B.length ≤ n
theorem Sht.sum {n : Nat} {B : List Str} (h : Sht n B) : (B.map (·.length)).sum + B.length * 1 ≤ 12 * n := by
  have := sum_le h.1
  have := h.2
  omega
theorem Sht.join {n : Nat} {B : List Str} (h : Sht n B) : (Txt.join " " B).length ≤ 12 * n := by
  have := h.sum
  have := join_len B
  omega
/-! ### bounds of what is cut -/
theorem spl_len (S : List Nat) : ∀ (k : Nat) (acc l : List Nat), (spl S k acc l).length ≤ l.length + 1
  | k, acc, [] => by rw [spl_nil]; simp
  | 0, acc, c :: r => by
    cases h : pre S (c :: r) with
    | true =>
      rw [spl_hit h, List.length_cons, List.length_cons]
      have := spl_len S (S.length - 1) [] r
      omega
    | false =>
      rw [spl_miss h, List.length_cons]
      have := spl_len S 0 (acc ++ [c]) r
      omega
  | k + 1, acc, _ :: r => by
    show (spl S k acc r).length ≤ _
    have := spl_len S k acc r
    rw [List.length_cons]
    omega
theorem spl_word (S : List Nat) : ∀ (k : Nat) (acc l : List Nat), ∀ p ∈ spl S k acc l, p.length ≤ acc.length + l.length
  | k, acc, [], p, hp => by
    rw [spl_nil] at hp
    rw [List.mem_singleton.mp hp]
    omega
  | 0, acc, c :: r, p, hp => by
    cases h : pre S (c :: r) with
    | true =>
      rw [spl_hit h] at hp
      rcases List.mem_cons.mp hp with rfl | hp
      · omega
      · have := spl_word S (S.length - 1) [] r p hp
        simp at this ⊢
        omega
    | false =>
      rw [spl_miss h] at hp
      have := spl_word S 0 (acc ++ [c]) r p hp
      simp at this ⊢
      omega
  | k + 1, acc, _ :: r, p, hp => by
    have := spl_word S k acc r p hp
    simp at this ⊢
    omega
theorem split_sp (x : Str) : (Txt.split x " ").map tl = spl [32] 0 [] (tl x) := by
  have := split_spl x " " (by rw [tlSp]; simp) (kind_ok (by decide +kernel))
  rwa [tlSp] at this
theorem split_len (x : Str) : (Txt.split x " ").length ≤ x.length + 1 := by
  have := spl_len [32] 0 [] (tl x)
  rw [← split_sp, List.length_map, ← len_tl] at this
  exact this
theorem split_word {x w : Str} (h : w ∈ Txt.split x " ") : w.length ≤ x.length := by
  have := spl_word [32] 0 [] (tl x) (tl w) (by rw [← split_sp]; exact List.mem_map.mpr ⟨w, h, rfl⟩)
  rw [← len_tl, ← len_tl] at this
  simpa using this
theorem part_len (x y : Str) : (Txt.partition x y).1.length ≤ x.length ∧ (Txt.partition x y).2.1.length ≤ y.length ∧ (Txt.partition x y).2.2.length ≤ x.length := by
  rcases PyProof.Rows.partition_whole x y with ⟨e, _⟩ | ⟨i, e, _, _⟩
  · rw [e]
    exact ⟨Nat.le_refl _, Nat.zero_le _, Nat.zero_le _⟩
  · rw [e]
    refine ⟨?_, Nat.le_refl _, ?_⟩
    · rw [len_tl, tl_strSub, List.length_take, List.length_drop, ← len_tl]
      omega
    · rw [len_tl, tl_strSub_end, List.length_drop, ← len_tl]
      omega
/-- the words of a text of at most n signs -/
theorem wordsR_len (t : Str) : (wordsR t).length ≤ t.length + 1 := by
  have := split_len (Txt.partition t " | ").1
  have := (part_len t " | ").1
  unfold wordsR
  omega
theorem wordsE_len (t : Str) : (wordsE t).length ≤ t.length + 1 := by
  unfold wordsE
  split
  · have := split_len (Txt.partition t " | ").2.2
    have := (part_len t " | ").2.2
    omega
  · simp
theorem wordsR_word {t w : Str} (h : w ∈ wordsR t) : w.length ≤ t.length := Nat.le_trans (split_word h) (part_len t " | ").1
theorem wordsE_word {t w : Str} (h : w ∈ wordsE t) : w.length ≤ t.length := by
  unfold wordsE at h
  split at h
  · exact Nat.le_trans (split_word h) (part_len t " | ").2.2
  · exact nomatch h
theorem wordsR_ne (t : Str) : wordsR t ≠ [] := split_ne _ _
end LM

/-! what many parts want: the error about texts, small lemmas -/
namespace My
open PySem L2 Cm LM
abbrev sEI : Stmt := inClass (top 6) 0
theorem nz (n : Nat) : ((n : Int) != 0) = (n != 0) := by
  cases n with
  | zero => rfl
  | succ k => simp; omega
/-- no text is longer -/
def Bd (t : Str) : Prop := t.length ≤ 100000
theorem Bd.part {t : Str} (y : Str) (h : Bd t) : Bd (Txt.partition t y).1 ∧ Bd (Txt.partition t y).2.2 := ⟨Nat.le_trans (part_len t y).1 h, Nat.le_trans (part_len t y).2.2 h⟩
theorem Bd.line {t : Str} (h : Bd t) : t.length ≤ sizeLine := Nat.le_of_lt (szM (Nat.le_trans h (by decide)))
theorem Bd.line2 {t : Str} (h : Bd t) : t.length + 2 ≤ sizeLine := Nat.le_of_lt (szM (by unfold Bd at h; omega))
theorem svs_get {ws : List Str} {i : Nat} {x : V} (h : (svs ws)[i]? = some x) : ∃ z, ws[i]? = some z ∧ x = .str z := by
  unfold svs at h
  rw [List.getElem?_map] at h
  cases e : ws[i]? with
  | none => rw [e] at h; cases h
  | some z =>
    rw [e] at h
    exact ⟨z, rfl, (Option.some.inj h).symm⟩
theorem take_snoc {α : Type} {xs : List α} {i : Nat} {x : α} (h : xs[i]? = some x) : xs.take (i + 1) = xs.take i ++ [x] := by
  rw [List.take_succ, h]
  rfl
theorem lt_of_get {α : Type} {xs : List α} {i : Nat} {x : α} (h : xs[i]? = some x) : i < xs.length := (List.getElem?_eq_some_iff.mp h).1
/-- not many words, none too long -/
def BdW (ws : List Str) : Prop := (∀ z ∈ ws, Bd z) ∧ ws.length ≤ 100001
theorem made_same {H H' : Hp} {x dx C : Addr} (nx : H x = none) (ndx : H dx = none) (o : Off x (upd (upd H dx (.own x)) x (.ins C dx [])) H') : Same H H' := fun b u e => o b u (ne_of_none e nx) (by rw [upd_ne (ne_of_none e nx), upd_ne (ne_of_none e ndx)]; exact e)
/-- a special method of the class at C -/
structure Sm (K : PySem.W.Frag) (C : Addr) (x q : Str) (st : Stmt) (ps : List Str) where
  f : Addr
  fd : FuncData
  F : Fun K x q st f fd
  b : Binds K fd ps []
  i : PySem.W.findIn K (.ref C) x = some (some (.ref f))
  fn : PySem.W.isFn K (.ref f) = true
theorem TyX_same {K : PySem.W.Frag} {H H' : Hp} (s : Same H H') {x : V} {t : Value} (h : TyX K H x t) : TyX K H' x t := by
  cases h with
  | base b =>
    refine .base ?_
    cases b with
    | non => exact .non
    | bl x => exact .bl x
    | int i => exact .int i
    | str x => exact .str x
    | flt x => exact .flt x
    | lst e => exact .lst (s _ _ e)
    | frz e => exact .frz (s _ _ e)
    | tup e => exact .tup (s _ _ e)
    | dK e => exact .dK (s _ _ e)
    | dT e => exact .dT (s _ _ e)
    | ins e a b c d f => exact .ins (s _ _ e) a b c d f
  | byt b => exact .byt b
  | set e => exact .set (s _ _ e)
  | kList e c => exact .kList e c
  | kTuple e c => exact .kTuple e c
  | kDict e c => exact .kDict e c
  | fTuple e => exact .fTuple (s _ _ e)
  | fDict e => exact .fDict (s _ _ e)
theorem jar_ne {H : Hp} {j p : Addr} (a : Jar H j) (n : H p = none) : p ≠ j := fun z => by
  obtain ⟨_, _, _, q⟩ := a
  rw [z, q] at n
  cases n
theorem Jar.put {H : Hp} {j p : Addr} {o : HO} (a : Jar H j) (n : p ≠ j) : Jar (upd H p o) j := by
  obtain ⟨x, y, z, q⟩ := a
  exact ⟨x, y, z, by rw [upd_ne n.symm]; exact q⟩
/-- a store to what was not there at first -/
theorem Off.put2 {j q : Addr} {H H1 : Hp} {o : HO} (a : Off j H H1) (n : H q = none) : Off j H (upd H1 q o) := fun b u nb e => by
  rw [upd_ne (ne_of_none e n)]
  exact a b u nb e
/-- tuples that stand stay, if what is written is no tuple -/
theorem tup_stays {H : Hp} {x : Addr} {o o' : HO} (hx : H x = some o) (n : ∀ xs, o ≠ .tup xs) : ∀ (p : Addr) (xs : List V), H p = some (.tup xs) → (upd H x o') p = some (.tup xs) := fun p xs e => by
  rw [upd_ne]
  · exact e
  · intro z
    rw [z, hx] at e
    exact n xs (Option.some.inj e)
def isS : V → Bool
  | .str _ => true
  | _ => false
/-- its type is told -/
def Typed (K : PySem.W.Frag) (H : Hp) (x : V) : Prop := ∃ t, TyX K H x t ∧ PySem.W.kitOne K t (.type "str") = some (isS x)
theorem typed_str {K : PySem.W.Frag} {H : Hp} (x : Str) : Typed K H (.str x) := ⟨_, .base (.str x), kit_ty (show kitB "str" "str" = some true by decide +kernel)⟩
/-! ### the error -/
structure TxE (K : PySem.W.Frag) (mg : Str → Option Value) where
  C : Addr
  f : Addr
  fd : FuncData
  g : mg "InvalidText" = some (.ref C)
  o : OexC K C
  i : PySem.W.findIn K (.ref C) "__init__" = some (some (.ref f))
  t : PySem.W.typeIn K (.ref f) = some (.type "function")
  n : PySem.W.findIn K (.ref C) "value" = some none
  F : Fun K "__init__" "InvalidText.__init__" sEI f fd
  b : Binds K fd ["self", "value"] []
section
variable {P : Program} {w : World} {K : PySem.W.Frag} {mg : Str → Option Value} {base : Heap}
def spEI (CE : Addr) : Sp := fun vs H Q _ => ∃ (a : Addr) (v : V), vs = [.ref a, v] ∧ H a = some (exo a CE none) ∧ ∀ dx, H dx = none → dx ≠ a → Q .non (upd (upd H dx (exd dx [("value", v)])) a (exo a CE (some dx)))
theorem scEI : FnScope ["self", "value"] ["self", "value"] (defScope sEI) := ⟨rfl, rfl, rfl, by decide +kernel, rfl, by decide +kernel, by decide +kernel⟩
theorem ok_ei (T : TxE K mg) : FnOk P w K mg base CX0 1 T.f T.fd ["self", "value"] (spEI T.C) := by
  refine T.F.ok scEI (fun vs H Q E h => ?_) (fun cdv A outer s H vs Q E hr h => ?_)
  · obtain ⟨a, v, rfl, _⟩ := h
    rfl
  · obtain ⟨a, v, rfl, ha, k⟩ := h
    refine ⟨_, pss_one (ps_ost (pv 0) (pv 1)), ?_⟩
    exact ⟨_, rfl, _, rfl, a, T.C, rfl, T.o, T.n, .inl ⟨ha, fun dx n ne => k dx n ne⟩⟩
/-- raise X(x), as its making is read -/
theorem mk_err {CE : Addr} {ta : TA} {σ : St} {H : Hp} {Q : XK} {x : V} (h : ta σ H fun vs H1 => vs = [x] ∧ H1 = H) (mono : ∀ {R R' : List V → Hp → Prop}, ta σ H R → (∀ v H1, R v H1 → R' v H1) → ta σ H R')
    (q : ∀ d, H d = none → Q (.ref CE) (some d) (upd H d (.xd [("value", x)]))) : tMkO CE (spEI CE) [] ta σ H Q := by
  refine mono h fun vs H1 hh => ?_
  obtain ⟨rfl, rfl⟩ := hh
  refine ⟨by show 1 ≤ 1000; decide, fun a na => ⟨a, x, rfl, upd_same, fun dx ndx nda => ⟨rfl, dx, [("value", x)], upd_same, ?_, ?_, ?_⟩⟩⟩
  · rw [upd_ne nda, upd_same]
  · rw [upd_ne nda] at ndx
    exact ndx
  · have e : upd (del (upd (upd (upd H1 a (exo a CE none)) dx (exd dx [("value", x)])) a (exo a CE (some dx))) a) dx (.xd [("value", x)]) = upd H1 dx (.xd [("value", x)]) := by
      funext b
      by_cases h1 : b = dx
      · rw [h1, upd_same, upd_same]
      · rw [upd_ne h1, upd_ne h1]
        by_cases h2 : b = a
        · rw [h2, del_same, na]
        · rw [del_ne h2, upd_ne h2, upd_ne h1, upd_ne h2]
    rw [e]
    rw [upd_ne nda] at ndx
    exact q dx ndx
end
end My

/-! the defs about texts of loops -/
namespace My
open PySem L2 Cm LM
abbrev sWO : Stmt := top 49
abbrev sOO : Stmt := top 51
abbrev sIW : Stmt := top 52
abbrev sAW : Stmt := top 53
abbrev sIR : Stmt := top 54
abbrev sIE : Stmt := top 55
/-- what the module's top has for these defs -/
structure TxL (K : PySem.W.Frag) (mg : Str → Option Value) where
  tuple : mg "tuple" = none
  len : mg "len" = none
  all : mg "all" = none
  bar : ∃ t, mg "BAR" = some (.str " | " t)
  mr : ∃ t, mg "MOST_ROUND" = some (.int 12 t)
  me : ∃ t, mg "MOST_ENDING" = some (.int 6 t)
  pT : Addr
  pR : Addr
  pE : Addr
  gT : mg "TESTS" = some (.ref pT)
  gR : mg "ROUND_STEPS" = some (.ref pR)
  gE : mg "ENDING_STEPS" = some (.ref pE)
  lT : ∀ H, SqT K H pT (svs tests)
  lR : ∀ H, SqT K H pR (svs rsteps)
  lE : ∀ H, SqT K H pE (svs esteps)
  wo : Df K mg "words_of" sWO ["text"]
  oo : Df K mg "order_of" sOO ["word"]
  iw : Df K mg "is_word" sIW ["word", "steps"]
  aw : Df K mg "are_words" sAW ["words", "steps"]
  ir : Df K mg "is_round" sIR ["words"]
  ie : Df K mg "is_ending" sIE ["words"]
section
variable {P : Program} {w : World} {K : PySem.W.Frag} {mg : Str → Option Value} {base : Heap}
/-! ### words_of -/
def spWO : Sp := fun vs H Q _ => ∃ t : Str, vs = [.str t] ∧ Bd t ∧ ∀ (H' : Hp) (p a b : Addr), Same H H' → H' p = some (.tup [.ref a, .ref b]) → H' a = some (.tup (svs (wordsR t))) → H' b = some (.tup (svs (wordsE t))) → Q (.ref p) H'
theorem scWO : FnScope ["text", "head", "bar", "tail"] ["text"] (defScope sWO) := ⟨rfl, rfl, rfl, by decide +kernel, rfl, by decide +kernel, by decide +kernel⟩
theorem ok_wo (T : TxL K mg) : FnOk P w K mg base CX0 1 T.wo.f T.wo.fd ["text"] spWO := by
  obtain ⟨tb, hb⟩ := T.bar
  refine T.wo.F.ok scWO (fun vs H Q E h => ?_) (fun cdv A outer s H vs Q E hr h => ?_)
  · obtain ⟨t, rfl, _⟩ := h
    rfl
  · obtain ⟨t, rfl, bd, k⟩ := h
    refine ⟨_, pss_cons (ps_asg (pe_partition (pv 0) (pe_glob (v := .str " | ") rfl hb ⟨_, rfl⟩)) (pg_tup rfl (pgs_cons (pg_name (i := 1) scWO.nd rfl (.inl rfl)) (pgs_cons (pg_name (i := 2) scWO.nd rfl (.inl rfl)) (pgs_cons (pg_name (i := 3) scWO.nd rfl (.inl rfl)) pgs_nil)))))
      (pss_one (ps_ret (pe_tup (pa_cons (pe_callTy call_tuple_of (by rfl) T.tuple (by decide +kernel) (pa_cons (pe_split (pv 1) pe_str) pa_nil))
        (pa_cons (pe_ifExp (pt_truth (pv 2) (by intro _; rfl)) (pe_callTy call_tuple_of (by rfl) T.tuple (by decide +kernel) (pa_cons (pe_split (pv 3) pe_str) pa_nil)) (pe_tup pa_nil)) pa_nil))))), ?_⟩
    have bp := Bd.part " | " bd
    refine ⟨_, rfl, ⟨_, rfl⟩, t, " | ", rfl, rfl, by decide +kernel, bd.line, fun q nq => ?_⟩
    refine ⟨q, _, rfl, SqT.of upd_same, rfl, _, _, rfl, _, _, rfl, _, _, rfl, rfl, ?_⟩
    have s1 : Same H (upd H q (.tup [.str (Txt.partition t " | ").1, .str (Txt.partition t " | ").2.1, .str (Txt.partition t " | ").2.2])) := same_new nq
    generalize upd H q (.tup [.str (Txt.partition t " | ").1, .str (Txt.partition t " | ").2.1, .str (Txt.partition t " | ").2.2]) = H1 at s1 ⊢
    refine ⟨_, rfl, ⟨_, rfl⟩, _, " ", rfl, rfl, by decide +kernel, bp.1.line2, fun l nl => ?_⟩
    refine ⟨l, _, rfl, .inl ⟨SqL.of upd_same, fun a na => ?_⟩⟩
    have s2 : Same H1 (upd (upd H1 l (.lst (svs (wordsR t)))) a (.tup (svs (wordsR t)))) := Same.trans (same_new nl) (same_new na)
    have ha : (upd (upd H1 l (.lst (svs (wordsR t)))) a (.tup (svs (wordsR t)))) a = some (.tup (svs (wordsR t))) := upd_same
    show tCons _ _ _ (upd (upd H1 l (.lst (svs (wordsR t)))) a (.tup (svs (wordsR t)))) _
    generalize upd (upd H1 l (.lst (svs (wordsR t)))) a (.tup (svs (wordsR t))) = H2 at s2 ha ⊢
    refine ⟨_, rfl, _, ⟨Nat.le_trans (part_len t " | ").2.1 (by decide +kernel), rfl⟩, ?_⟩
    rw [nz]
    cases hc : ((Txt.partition t " | ").2.1.length != 0) with
    | true =>
      have e : wordsE t = Txt.split (Txt.partition t " | ").2.2 " " := by unfold wordsE; rw [if_pos hc]
      refine iteT ?_
      refine ⟨_, rfl, ⟨_, rfl⟩, _, " ", rfl, rfl, by decide +kernel, bp.2.line2, fun l2 nl2 => ?_⟩
      rw [← e]
      refine ⟨l2, _, rfl, .inl ⟨SqL.of upd_same, fun b nb => ?_⟩⟩
      refine ⟨(by show 2 ≤ sizeLine; decide), fun p np => ?_⟩
      exact k _ p a b (Same.trans s1 (Same.trans s2 (Same.trans (same_new nl2) (Same.trans (same_new nb) (same_new np))))) upd_same (same_new np _ _ (same_new nb _ _ (same_new nl2 _ _ ha))) (same_new np _ _ upd_same)
    | false =>
      have e : wordsE t = [] := by unfold wordsE; rw [if_neg (by rw [hc]; exact Bool.false_ne_true)]
      refine iteF ?_
      refine ⟨Nat.zero_le _, fun b nb => ?_⟩
      refine ⟨(by show 2 ≤ sizeLine; decide), fun p np => ?_⟩
      refine k _ p a b (Same.trans s1 (Same.trans s2 (Same.trans (same_new nb) (same_new np)))) upd_same (same_new np _ _ (same_new nb _ _ ha)) ?_
      rw [e]
      exact same_new np _ _ upd_same
/-! ### order_of -/
def spOO : Sp := fun vs H Q _ => ∃ t : Str, vs = [.str t] ∧ Bd t ∧ ∀ (H' : Hp) (p : Addr), Same H H' → H p = none → H' p = some (.tup [.str (orderOf t).1, .str (orderOf t).2]) → Q (.ref p) H'
theorem scOO : FnScope ["word", "test", "colon", "step"] ["word"] (defScope sOO) := ⟨rfl, rfl, rfl, by decide +kernel, rfl, by decide +kernel, by decide +kernel⟩
theorem ok_oo (T : TxL K mg) : FnOk P w K mg base CX0 1 T.oo.f T.oo.fd ["word"] spOO := by
  refine T.oo.F.ok scOO (fun vs H Q E h => ?_) (fun cdv A outer s H vs Q E hr h => ?_)
  · obtain ⟨t, rfl, _⟩ := h
    rfl
  · obtain ⟨t, rfl, bd, k⟩ := h
    refine ⟨_, pss_cons (ps_asg (pe_partition (pv 0) pe_str) (pg_tup rfl (pgs_cons (pg_name (i := 1) scOO.nd rfl (.inl rfl)) (pgs_cons (pg_name (i := 2) scOO.nd rfl (.inl rfl)) (pgs_cons (pg_name (i := 3) scOO.nd rfl (.inl rfl)) pgs_nil)))))
      (pss_one (ps_ret (pe_ifExp (pt_truth (pv 2) (by intro _; rfl)) (pe_tup (pa_cons (pv 1) (pa_cons (pv 3) pa_nil))) (pe_tup (pa_cons pe_str (pa_cons (pv 0) pa_nil)))))), ?_⟩
    refine ⟨_, rfl, ⟨_, rfl⟩, t, ":", rfl, rfl, by decide +kernel, bd.line, fun q nq => ?_⟩
    refine ⟨q, _, rfl, SqT.of upd_same, rfl, _, _, rfl, _, _, rfl, _, _, rfl, rfl, ?_⟩
    have s1 : Same H (upd H q (.tup [.str (Txt.partition t ":").1, .str (Txt.partition t ":").2.1, .str (Txt.partition t ":").2.2])) := same_new nq
    generalize upd H q (.tup [.str (Txt.partition t ":").1, .str (Txt.partition t ":").2.1, .str (Txt.partition t ":").2.2]) = H1 at s1 ⊢
    refine ⟨_, rfl, _, ⟨Nat.le_trans (part_len t ":").2.1 (by decide +kernel), rfl⟩, ?_⟩
    rw [nz]
    unfold orderOf at k
    cases hc : ((Txt.partition t ":").2.1.length != 0) with
    | true =>
      rw [if_pos hc] at k
      refine iteT ?_
      refine ⟨_, rfl, _, rfl, (by show 2 ≤ sizeLine; decide), fun p np => ?_⟩
      exact k _ p (Same.trans s1 (same_new np)) (s1.free np) upd_same
    | false =>
      rw [if_neg (by rw [hc]; exact Bool.false_ne_true)] at k
      refine iteF ?_
      refine ⟨_, rfl, (by show 2 ≤ sizeLine; decide), fun p np => ?_⟩
      exact k _ p (Same.trans s1 (same_new np)) (s1.free np) upd_same
/-! ### is_word -/
def spIW (K : PySem.W.Frag) : Sp := fun vs H Q _ => ∃ (t : Str) (p : Addr) (ss : List Str), vs = [.str t, .ref p] ∧ Bd t ∧ SqT K H p (svs ss) ∧ ∀ H' : Hp, Same H H' → Q (.bl (isWord t ss)) H'
theorem scIW : FnScope ["word", "steps", "test", "colon", "step"] ["word", "steps"] (defScope sIW) := ⟨rfl, rfl, rfl, by decide +kernel, rfl, by decide +kernel, by decide +kernel⟩
theorem ok_iw (T : TxL K mg) : FnOk P w K mg base CX0 1 T.iw.f T.iw.fd ["word", "steps"] (spIW K) := by
  refine T.iw.F.ok scIW (fun vs H Q E h => ?_) (fun cdv A outer s H vs Q E hr h => ?_)
  · obtain ⟨t, p, ss, rfl, _⟩ := h
    rfl
  · obtain ⟨t, p, ss, rfl, bd, hp, k⟩ := h
    refine ⟨_, pss_cons (ps_asg (pe_partition (pv 0) pe_str) (pg_tup rfl (pgs_cons (pg_name (i := 2) scIW.nd rfl (.inl rfl)) (pgs_cons (pg_name (i := 3) scIW.nd rfl (.inl rfl)) (pgs_cons (pg_name (i := 4) scIW.nd rfl (.inl rfl)) pgs_nil)))))
      (pss_one (ps_ret (pe_ifExp (pt_truth (pv 3) (by intro _; rfl)) (pe_and (pe_cmpR op_in_seq (pv 2) (pe_glob (v := .ref T.pT) rfl T.gT rfl) (by rfl)) (pe_one (pe_cmpR op_in_seq (pv 4) (pv 1) (by rfl)))) (pe_cmpR op_in_seq (pv 0) (pv 1) (by rfl))))), ?_⟩
    refine ⟨_, rfl, ⟨_, rfl⟩, t, ":", rfl, rfl, by decide +kernel, bd.line, fun q nq => ?_⟩
    refine ⟨q, _, rfl, SqT.of upd_same, rfl, _, _, rfl, _, _, rfl, _, _, rfl, rfl, ?_⟩
    have s1 : Same H (upd H q (.tup [.str (Txt.partition t ":").1, .str (Txt.partition t ":").2.1, .str (Txt.partition t ":").2.2])) := same_new nq
    generalize upd H q (.tup [.str (Txt.partition t ":").1, .str (Txt.partition t ":").2.1, .str (Txt.partition t ":").2.2]) = H1 at s1 ⊢
    refine ⟨_, rfl, _, ⟨Nat.le_trans (part_len t ":").2.1 (by decide +kernel), rfl⟩, ?_⟩
    rw [nz]
    have k1 := k H1 s1
    unfold isWord at k1
    cases hc : ((Txt.partition t ":").2.1.length != 0) with
    | true =>
      rw [if_pos hc] at k1
      refine iteT ?_
      refine ⟨_, rfl, T.pT, _, rfl, .inr (T.lT _), rfl, svs_flat _, _, rfl, ?_⟩
      show if (inV _ (svs tests)) = true then _ else _
      rw [inV_svs]
      by_cases h1 : (Txt.partition t ":").1 ∈ tests
      · rw [decide_eq_true h1] at k1 ⊢
        refine iteT ⟨_, rfl, _, rfl, p, _, rfl, .inr (Cm.Same.set s1 hp), rfl, svs_flat _, ?_⟩
        show _
        rw [Bool.true_and] at k1
        have := inV_svs (Txt.partition t ":").2.2 ss
        rw [← this] at k1
        exact k1
      · rw [decide_eq_false h1] at k1 ⊢
        exact iteF k1
    | false =>
      rw [if_neg (by rw [hc]; exact Bool.false_ne_true)] at k1
      refine iteF ?_
      refine ⟨_, rfl, _, rfl, p, _, rfl, .inr (Cm.Same.set s1 hp), rfl, svs_flat _, ?_⟩
      rw [← inV_svs] at k1
      exact k1
end
end My

namespace My
open PySem L2 Cm LM
section
variable {P : Program} {w : World} {K : PySem.W.Frag} {mg : Str → Option Value} {base : Heap}
/-! ### are_words -/
def spAW (K : PySem.W.Frag) : Sp := fun vs H Q _ => ∃ (a p : Addr) (ws ss : List Str), vs = [.ref a, .ref p] ∧ BdW ws ∧ SqT K H a (svs ws) ∧ SqT K H p (svs ss) ∧ ∀ H' : Hp, Same H H' → Q (.bl (areWords ws ss)) H'
theorem scAW : FnScope ["words", "steps", "word"] ["words", "steps"] (defScope sAW) := ⟨rfl, rfl, rfl, by decide +kernel, rfl, by decide +kernel, by decide +kernel⟩
theorem ok_aw (T : TxL K mg) : FnOk P w K mg base CX0 2 T.aw.f T.aw.fd ["words", "steps"] (spAW K) := by
  have G1 : FnOk P w K mg base CX0 1 T.iw.f T.iw.fd ["word", "steps"] (spIW K) := ok_iw T
  refine T.aw.F.ok scAW (fun vs H Q E h => ?_) (fun cdv A outer s H vs Q E hr h => ?_)
  · obtain ⟨a, p, ws, ss, rfl, _⟩ := h
    rfl
  · obtain ⟨a, p, ws, ss, rfl, bd, ha, hp, k⟩ := h
    refine ⟨_, pss_one (ps_ret (pe_callB (cr_all rfl) (by rfl) T.all (by decide +kernel) (pa_cons (pe_lc (own := [("word", 2)]) (g := gName 2) (tt := tYes) (te := tCall (spIW K) [] E0 (tCons (tVar 2) (tCons (tVar 1) tNil))) rfl scAW.nd (pi_tup (pv 0))
      (blkOk_by (own := [("word", 2)]) (N := ["words", "steps", "word"]) (sc := defScope sAW) (by decide +kernel)) (fun _ _ _ _ _ => pg_name (i := 2) scAW.nd rfl (Or.inl rfl)) (fun _ _ _ _ _ => pts_nil)
      (fun _ _ _ _ _ => by exact pe_call G1 hr rfl T.iw.g T.iw.k T.iw.b .nil pass0 (pa_cons (pv 2) (pa_cons (pv 1) pa_nil)))) pa_nil))), ?_⟩
    refine ⟨_, rfl, a, rfl, ⟨_, ha⟩, fun D nD => lc_tup (K := K) (a := a) (xs := svs ws) (fun i H' => Same H H' ∧ H' D = some (.lst (((ws.take i).map fun z => isWord z ss).map V.bl))) ⟨same_new nD, upd_same⟩ (fun i H' _ ⟨s', _⟩ => Cm.Same.set s' ha) ?_ ?_⟩
    · rintro i x H' hx ⟨s', hD⟩
      obtain ⟨z, hz, rfl⟩ := svs_get hx
      refine ⟨rfl, _, rfl, _, rfl, z, p, ss, rfl, bd.1 z (List.mem_of_getElem? hz), Cm.Same.set s' hp, fun H2 s2 => ?_⟩
      refine ⟨_, s2 _ _ hD, szM ?_, fun b o q => ?_, ?_⟩
      · rw [List.length_map, List.length_map, List.length_take]
        have := bd.2
        omega
      · rw [upd_ne (ne_of_none q nD)]
        exact s2 _ _ (s' _ _ q)
      · rw [upd_same, take_snoc hz]
        simp
    · rintro H' ⟨s', hD⟩
      have e : (svs ws).length = ws.length := List.length_map ..
      rw [e, List.take_length] at hD
      refine ⟨D, ws.map fun z => isWord z ss, rfl, SqL.of hD, ?_⟩
      have k1 := k H' s'
      unfold areWords at k1
      rw [List.all_map]
      exact k1
/-! ### is_round -/
def spIR (K : PySem.W.Frag) : Sp := fun vs H Q _ => ∃ (a : Addr) (ws : List Str), vs = [.ref a] ∧ ws ≠ [] ∧ BdW ws ∧ SqT K H a (svs ws) ∧ ∀ H' : Hp, Same H H' → Q (.bl (isRound ws)) H'
theorem scIR : FnScope ["words", "adding", "word"] ["words"] (defScope sIR) := ⟨rfl, rfl, rfl, by decide +kernel, rfl, by decide +kernel, by decide +kernel⟩
def ttAdd (K : PySem.W.Frag) : TT := tTest (tOp rEq (tOp (rIxT K) (tCall spOO [] E0 (tCons (tVar 2) tNil)) (tC (.int 1))) (tC (.str "add")))
theorem ok_ir (T : TxL K mg) : FnOk P w K mg base CX0 3 T.ir.f T.ir.fd ["words"] (spIR K) := by
  have GO : FnOk P w K mg base CX0 1 T.oo.f T.oo.fd ["word"] spOO := ok_oo T
  have GA : FnOk P w K mg base CX0 2 T.aw.f T.aw.fd ["words", "steps"] (spAW K) := ok_aw T
  obtain ⟨tm, mr⟩ := T.mr
  refine T.ir.F.ok scIR (fun vs H Q E h => ?_) (fun cdv A outer s H vs Q E hr h => ?_)
  · obtain ⟨a, ws, rfl, _⟩ := h
    rfl
  · obtain ⟨a, ws, rfl, ne, bd, ha, k⟩ := h
    have hr1 : Room 1 _ := hr.mono (by decide)
    refine ⟨_, pss_cons (ps_if (PW.pt (pw_or (pt_cmpR op_ne (pe_ix ix_tup (pv 0) pe_int (fun _ _ => rfl)) pe_str (nomark _)) (pw_or1 (pt_cmpR op_gt (pe_callB call_len_seq (by rfl) T.len PySem.boot_len (pa_cons (pv 0) pa_nil)) (pe_glob (v := .int 12) rfl mr ⟨_, rfl⟩) (nomark _))))) (pss_one (ps_ret pe_bl)) pss_nil)
      (pss_cons (ps_setLc (i := 1) (own := [("word", 2)]) (g := gName 2) (tt := ttAdd K) (te := tVar 2) rfl scIR.nd rfl rfl (sw_true rfl rfl rfl (by decide +kernel)) (pi_tup (pv 0)) (blkOk_by (own := [("word", 2)]) (N := ["words", "adding", "word"]) (sc := defScope sIR) (by decide +kernel)) (fun _ _ _ _ _ => pg_name (i := 2) scIR.nd rfl (Or.inl rfl))
          (fun _ _ _ _ _ => by exact pts_one (pt_cmpR op_eq (pe_ix ix_tup (pe_call (E := E0) GO hr1 rfl T.oo.g T.oo.k T.oo.b .nil pass0 (pa_cons (pv 2) pa_nil)) pe_int (fun _ _ => rfl)) pe_str (nomark _))) (fun _ _ _ _ _ => pv 2))
      (pss_one (ps_ret (pe_and (pe_cmpR op_le (pe_callB call_len_seq (by rfl) T.len PySem.boot_len (pa_cons (pv 1) pa_nil)) pe_int (nomark _)) (pe_one (pe_call GA hr rfl T.aw.g T.aw.k T.aw.b .nil pass0 (pa_cons (pe_slice sl_tupA (pv 0) (po_some pe_int) po_none) (pa_cons (pe_glob (v := .ref T.pR) rfl T.gR rfl) pa_nil))))))))
      , ?_⟩
    obtain ⟨w0, r, rfl⟩ : ∃ w0 r, ws = w0 :: r := by
      cases ws with
      | nil => exact absurd rfl ne
      | cons w0 r => exact ⟨w0, r, rfl⟩
    refine ⟨_, rfl, a, _, 0, .str w0, rfl, rfl, ha, (show atI (svs (w0 :: r)) ((0 : Nat) : Int) = some (V.str w0) from atI_nat rfl), rfl, _, rfl, ?_⟩
    unfold isRound at k
    rw [dS]
    by_cases h0 : w0 = "ask"
    · subst h0
      rw [show decide ((("ask" : Str) :: r).head? = some "ask") = true from decide_eq_true rfl, Bool.true_and] at k
      rw [decide_eq_true rfl]
      refine iteF ?_
      refine ⟨_, rfl, a, _, rfl, .inr ha, _, _, rfl, rfl, _, rfl, ?_⟩
      have el : (svs ((("ask" : Str)) :: r)).length = ((("ask" : Str)) :: r).length := List.length_map ..
      rw [el]
      by_cases h12 : ((("ask" : Str)) :: r).length ≤ 12
      · rw [decide_eq_false (show ¬ ((12 : Int) < ((("ask" : Str) :: r).length : Int)) by omega)]
        rw [decide_eq_true h12, Bool.true_and] at k
        refine iteF ?_
        refine ⟨_, rfl, a, rfl, ⟨_, ha⟩, fun D nD => lc_tup (K := K) (a := a) (xs := svs (("ask" : Str) :: r)) (fun i H' => Same H H' ∧ H' D = some (.lst (svs (((("ask" : Str) :: r).take i).filter isAdd)))) ⟨same_new nD, upd_same⟩ (fun i H' _ ⟨s', _⟩ => Cm.Same.set s' ha) ?_ ?_⟩
        · rintro i x H' hx ⟨s', hD⟩
          obtain ⟨z, hz, rfl⟩ := svs_get hx
          refine ⟨rfl, _, rfl, z, rfl, bd.1 z (List.mem_of_getElem? hz), fun H2 p s2 np hp => ?_⟩
          refine ⟨p, _, 1, _, rfl, rfl, SqT.of hp, rfl, rfl, _, rfl, ?_⟩
          rw [dS]
          have ed : decide ((orderOf z).2 = "add") = isAdd z := rfl
          rw [ed]
          rw [take_snoc hz, List.filter_append]
          cases hc : isAdd z with
          | true =>
            refine iteT ?_
            refine ⟨_, rfl, _, s2 _ _ hD, szM ?_, fun b o q => ?_, ?_⟩
            · rw [show (svs (List.filter isAdd (List.take i (("ask" : Str) :: r)))).length = _ from List.length_map ..]
              have := List.length_filter_le isAdd (List.take i (("ask" : Str) :: r))
              rw [List.length_take] at this
              have := bd.2
              omega
            · rw [upd_ne (ne_of_none q nD)]
              exact s2 _ _ (s' _ _ q)
            · rw [upd_same]
              simp [svs, hc]
          | false =>
            refine iteF ?_
            refine ⟨Same.trans s' s2, ?_⟩
            rw [s2 _ _ hD]
            simp [hc]
        · rintro H' ⟨s', hD⟩
          rw [el, List.take_length] at hD
          refine ⟨_, rfl, D, _, rfl, .inl (SqL.of hD), _, _, rfl, rfl, _, rfl, ?_⟩
          have ef : (svs (List.filter isAdd (("ask" : Str) :: r))).length = (List.filter isAdd (("ask" : Str) :: r)).length := List.length_map ..
          rw [ef]
          by_cases h1 : (List.filter isAdd (("ask" : Str) :: r)).length ≤ 1
          · rw [decide_eq_true (show (((List.filter isAdd (("ask" : Str) :: r)).length : Int) ≤ 1) by omega)]
            rw [decide_eq_true h1, Bool.true_and] at k
            refine iteT ?_
            have cut : cutV (svs (("ask" : Str) :: r)) (some 1) none = svs r := by
              unfold cutV
              rw [HT.sIx_none, show (some (1 : Int)) = some ((1 : Nat) : Int) from rfl, HT.sIx_nat, el]
              simp [svs]
              exact List.take_of_length_le (by simp)
            refine ⟨_, rfl, 1, rfl, a, _, rfl, Cm.Same.set s' ha, fun z => ?_, fun _ p np => ?_⟩
            · exfalso
              have := z.1
              rw [show (some (1 : Int)) = some ((1 : Nat) : Int) from rfl, HT.sIx_nat, el] at this
              simp at this
            · rw [cut]
              refine ⟨p, T.pR, r, rsteps, rfl, ⟨fun z hz => bd.1 z (List.mem_cons_of_mem _ hz), ?_⟩, SqT.of upd_same, T.lR _, fun H2 s2 => ?_⟩
              · have := bd.2
                rw [List.length_cons] at this
                omega
              · exact k _ (Same.trans s' (Same.trans (same_new np) s2))
          · rw [decide_eq_false (show ¬ (((List.filter isAdd (("ask" : Str) :: r)).length : Int) ≤ 1) by omega)]
            rw [decide_eq_false h1, Bool.false_and] at k
            exact iteF (k H' s')
      · rw [decide_eq_true (show ((12 : Int) < ((("ask" : Str) :: r).length : Int)) by omega)]
        rw [decide_eq_false h12, Bool.false_and] at k
        exact iteT (k H (Same.refl _))
    · rw [decide_eq_false h0]
      rw [show decide ((w0 :: r).head? = some "ask") = false from decide_eq_false (fun z => h0 (Option.some.inj z)), Bool.false_and] at k
      exact iteT (iteT (k H (Same.refl _)))
/-! ### is_ending -/
def spIE (K : PySem.W.Frag) : Sp := fun vs H Q _ => ∃ (a : Addr) (ws : List Str), vs = [.ref a] ∧ BdW ws ∧ SqT K H a (svs ws) ∧ ∀ H' : Hp, Same H H' → Q (.bl (isEnding ws)) H'
theorem scIE : FnScope ["words"] ["words"] (defScope sIE) := ⟨rfl, rfl, rfl, by decide +kernel, rfl, by decide +kernel, by decide +kernel⟩
theorem ok_ie (T : TxL K mg) : FnOk P w K mg base CX0 3 T.ie.f T.ie.fd ["words"] (spIE K) := by
  have GA : FnOk P w K mg base CX0 2 T.aw.f T.aw.fd ["words", "steps"] (spAW K) := ok_aw T
  obtain ⟨tm, me⟩ := T.me
  refine T.ie.F.ok scIE (fun vs H Q E h => ?_) (fun cdv A outer s H vs Q E hr h => ?_)
  · obtain ⟨a, ws, rfl, _⟩ := h
    rfl
  · obtain ⟨a, ws, rfl, bd, ha, k⟩ := h
    refine ⟨_, pss_one (ps_ret (pe_and (pe_cmpR op_le (pe_callB call_len_seq (by rfl) T.len PySem.boot_len (pa_cons (pv 0) pa_nil)) (pe_glob (v := .int 6) rfl me ⟨_, rfl⟩) (nomark _)) (pe_one (pe_call GA hr rfl T.aw.g T.aw.k T.aw.b .nil pass0 (pa_cons (pv 0) (pa_cons (pe_glob (v := .ref T.pE) rfl T.gE rfl) pa_nil)))))), ?_⟩
    refine ⟨_, rfl, a, _, rfl, .inr ha, _, _, rfl, rfl, _, rfl, ?_⟩
    have el : (svs ws).length = ws.length := List.length_map ..
    rw [el]
    unfold isEnding at k
    by_cases h6 : ws.length ≤ 6
    · rw [decide_eq_true (show ((ws.length : Int) ≤ 6) by omega)]
      rw [decide_eq_true h6, Bool.true_and] at k
      exact iteT ⟨_, rfl, a, T.pE, ws, esteps, rfl, bd, ha, T.lE _, k⟩
    · rw [decide_eq_false (show ¬ ((ws.length : Int) ≤ 6) by omega)]
      rw [decide_eq_false h6, Bool.false_and] at k
      exact iteF (k H (Same.refl _))
end
end My

/-! the class Loop: its making -/
namespace My
open PySem L2 Cm LM
abbrev sLI : Stmt := inClass (top 57) 0
section
variable {P : Program} {w : World} {K : PySem.W.Frag} {mg : Str → Option Value} {base : Heap}
/-! ### loops as objects -/
def lf (t : Str) (pr pe po pq : Addr) : List (Str × V) := putF "ending_orders" (.ref pq) (putF "round_orders" (.ref po) (putF "ending" (.ref pe) (putF "round" (.ref pr) (putF "text" (.str t) []))))
theorem lf_text (t : Str) (pr pe po pq : Addr) : (lf t pr pe po pq).lookup ("text" : Str) = some (.str t) := by
  unfold lf
  rw [lookup_putF, if_neg (by decide +kernel), lookup_putF, if_neg (by decide +kernel), lookup_putF, if_neg (by decide +kernel), lookup_putF, if_neg (by decide +kernel), lookup_putF, if_pos rfl]
theorem lf_round (t : Str) (pr pe po pq : Addr) : (lf t pr pe po pq).lookup ("round" : Str) = some (.ref pr) := by
  unfold lf
  rw [lookup_putF, if_neg (by decide +kernel), lookup_putF, if_neg (by decide +kernel), lookup_putF, if_neg (by decide +kernel), lookup_putF, if_pos rfl]
theorem lf_ending (t : Str) (pr pe po pq : Addr) : (lf t pr pe po pq).lookup ("ending" : Str) = some (.ref pe) := by
  unfold lf
  rw [lookup_putF, if_neg (by decide +kernel), lookup_putF, if_neg (by decide +kernel), lookup_putF, if_pos rfl]
theorem lf_ro (t : Str) (pr pe po pq : Addr) : (lf t pr pe po pq).lookup ("round_orders" : Str) = some (.ref po) := by
  unfold lf
  rw [lookup_putF, if_neg (by decide +kernel), lookup_putF, if_pos rfl]
theorem lf_eo (t : Str) (pr pe po pq : Addr) : (lf t pr pe po pq).lookup ("ending_orders" : Str) = some (.ref pq) := by
  unfold lf
  rw [lookup_putF, if_pos rfl]
theorem lf_no (t : Str) (pr pe po pq : Addr) {m : Str} (h1 : ¬ m = "ending_orders") (h2 : ¬ m = "round_orders") (h3 : ¬ m = "ending") (h4 : ¬ m = "round") (h5 : ¬ m = "text") : (lf t pr pe po pq).lookup m = none := by
  unfold lf
  rw [lookup_putF, if_neg h1, lookup_putF, if_neg h2, lookup_putF, if_neg h3, lookup_putF, if_neg h4, lookup_putF, if_neg h5]
  rfl
/-- rows of pairs of texts -/
inductive Prs (H : Hp) : List V → List (Str × Str) → Prop
  | nil : Prs H [] []
  | cons {p : Addr} {o : Str × Str} {xs : List V} {os : List (Str × Str)} (h : H p = some (.tup [.str o.1, .str o.2])) (t : Prs H xs os) : Prs H (.ref p :: xs) (o :: os)
theorem Prs.mono {H H' : Hp} (f : ∀ (p : Addr) (xs : List V), H p = some (.tup xs) → H' p = some (.tup xs)) : ∀ {xs os}, Prs H xs os → Prs H' xs os
  | _, _, .nil => .nil
  | _, _, .cons h t => .cons (f _ _ h) (t.mono f)
theorem Prs.same {H H' : Hp} (s : Same H H') {xs os} (h : Prs H xs os) : Prs H' xs os := h.mono fun _ _ q => s _ _ q
theorem Prs.snoc {H : Hp} {p : Addr} {o : Str × Str} (h : H p = some (.tup [.str o.1, .str o.2])) : ∀ {xs os}, Prs H xs os → Prs H (xs ++ [.ref p]) (os ++ [o])
  | _, _, .nil => .cons h .nil
  | _, _, .cons a t => .cons a (t.snoc h)
theorem Prs.len {H : Hp} : ∀ {xs os}, Prs H xs os → xs.length = os.length
  | _, _, .nil => rfl
  | _, _, .cons _ t => congrArg (· + 1) t.len
def Ords (H : Hp) (p : Addr) (ws : List Str) : Prop := ∃ xs, H p = some (.tup xs) ∧ Prs H xs (ws.map orderOf)
/-- a loop of this text stands at o -/
def LoopAt (C : Addr) (H : Hp) (o : Addr) (t : Str) : Prop := ∃ dx pr pe po pq, H o = some (.ins C dx (lf t pr pe po pq)) ∧ H pr = some (.tup (svs (wordsR t))) ∧ H pe = some (.tup (svs (wordsE t))) ∧ Ords H po (wordsR t) ∧ Ords H pq (wordsE t)
theorem Ords.mono {H H' : Hp} (f : ∀ (p : Addr) (xs : List V), H p = some (.tup xs) → H' p = some (.tup xs)) {p : Addr} {ws : List Str} (h : Ords H p ws) : Ords H' p ws := let ⟨xs, e, q⟩ := h; ⟨xs, f _ _ e, q.mono f⟩
theorem LoopAt.same {C : Addr} {H H' : Hp} {o : Addr} {t : Str} (s : Same H H') (h : LoopAt C H o t) : LoopAt C H' o t := let ⟨dx, pr, pe, po, pq, a, b, c, d, e⟩ := h; ⟨dx, pr, pe, po, pq, s _ _ a, s _ _ b, s _ _ c, d.mono fun _ _ z => s _ _ z, e.mono fun _ _ z => s _ _ z⟩
theorem LoopAt.off {C j : Addr} {H H' : Hp} {o : Addr} {t : Str} (s : Off j H H') (hj : Jar H j) (h : LoopAt C H o t) : LoopAt C H' o t := by
  obtain ⟨x, y, z, hj⟩ := hj
  have f : ∀ (p : Addr) (xs : List V), H p = some (.tup xs) → H' p = some (.tup xs) := fun p xs e => s _ _ (ne_of e hj (by intro z; cases z)) e
  obtain ⟨dx, pr, pe, po, pq, a, b, c, d, e⟩ := h
  exact ⟨dx, pr, pe, po, pq, s _ _ (ne_of a hj (by intro z; cases z)) a, f _ _ b, f _ _ c, d.mono f, e.mono f⟩
/-! ### the text of the class -/
structure TxC (K : PySem.W.Frag) (mg : Str → Option Value) where
  L : TxL K mg
  E : TxE K mg
  isi : mg "isinstance" = none
  str : mg "str" = none
  C : Addr
  gC : mg "Loop" = some (.ref C)
  cl : Cls K C
  nT : NoAttr K C "text"
  nR : NoAttr K C "round"
  nE : NoAttr K C "ending"
  nO : NoAttr K C "round_orders"
  nQ : NoAttr K C "ending_orders"
  fI : Addr
  fdI : FuncData
  FI : Fun K "__init__" "Loop.__init__" sLI fI fdI
  bI : Binds K fdI ["self", "text"] []
  MI : Mk K C fI
/-- v makes a loop -/
def good : V → Bool
  | .str t => goodText t
  | _ => false
def BdV : V → Prop
  | .str t => Bd t
  | _ => True
def spLI (K : PySem.W.Frag) (C CE : Addr) : Sp := fun vs H Q E => ∃ (x dx : Addr) (v : V), vs = [.ref x, v] ∧ H x = some (.ins C dx []) ∧ Typed K H v ∧ BdV v ∧
  (∀ t, v = .str t → goodText t = true → ∀ H' : Hp, Off x H H' → LoopAt C H' x t → Q .non H') ∧
  (good v = false → ∀ (H' : Hp) (d : Addr), Same H H' → H' d = none → E (.ref CE) (some d) (upd H' d (.xd [("value", v)])))
theorem scLI : FnScope ["self", "text", "first_words", "last_words", "word"] ["self", "text"] (defScope sLI) := ⟨rfl, rfl, rfl, by decide +kernel, rfl, by decide +kernel, by decide +kernel⟩
/-- [order_of(word) for word in words] -/
theorem ords_lc {K : PySem.W.Frag} {σ : St} {H1 : Hp} {D a : Addr} {ws : List Str} {Qd : Hp → Prop} (h4 : ∀ v, ((wipe σ [4]).set 4 (some v))[4]? = some (some v) ∧ wipe ((wipe σ [4]).set 4 (some v)) [4] = wipe σ [4])
    (ha : H1 a = some (.tup (svs ws))) (bd : BdW ws) (nD : H1 D = none) (hd : ∀ (H' : Hp) (xs : List V), Same H1 H' → H' D = some (.lst xs) → Prs H' xs (ws.map orderOf) → Qd H') :
    ∃ W : Nat → Nat → Hp → Prop, (∃ m, W 0 m (upd H1 D (.lst []))) ∧ ∀ (i m : Nat) (H : Hp), W i m H →
      ((Itt K a).stop i H ∧ Qd H) ∨ ((Itt K a).go i H ∧ ∃ Nx : Hp → Prop, (∀ H', Nx H' → ∃ m', m' < m ∧ W (i + 1) m' H') ∧ ∀ (x : V) (H' : Hp), (Itt K a).yld i H x H' → gName 4 x (wipe σ [4]) H' fun σ2 H2 => wipe σ2 [4] = wipe σ [4] ∧ tYes σ2 H2 fun b H3 =>
        if b = true then tCall spOO [] E0 (tCons (tVar 4) tNil) σ2 H3 fun y H4 => ∃ acc, H4 D = some (.lst acc) ∧ acc.length < sizeLine ∧ Nx (upd H4 D (.lst (acc ++ [y]))) else Nx H3) := by
  refine lc_tup (K := K) (a := a) (xs := svs ws) (fun i H' => Same H1 H' ∧ ∃ acc, H' D = some (.lst acc) ∧ Prs H' acc ((ws.take i).map orderOf)) ⟨same_new nD, [], upd_same, .nil⟩ (fun i H' _ ⟨s, _⟩ => SqT.of (s _ _ ha)) ?_ ?_
  · rintro i x H' hx ⟨s, acc, hD, hP⟩
    obtain ⟨z, hz, rfl⟩ := svs_get hx
    obtain ⟨z4, zw⟩ := h4 (.str z)
    refine ⟨zw, _, z4, z, rfl, bd.1 z (List.mem_of_getElem? hz), fun H2 p s2 np hp => ?_⟩
    have hD2 := s2 _ _ hD
    have st := tup_stays (o' := .lst (acc ++ [.ref p])) hD2 (by intro xs z; cases z)
    have la := hP.len
    rw [List.length_map, List.length_take] at la
    have := bd.2
    refine ⟨acc, hD2, szM (by omega), fun b o q => ?_, _, upd_same, ?_⟩
    · rw [upd_ne (ne_of_none q nD)]
      exact s2 _ _ (s _ _ q)
    · rw [take_snoc hz, List.map_append]
      exact Prs.snoc (st _ _ hp) ((hP.same s2).mono st)
  · rintro H' ⟨s, acc, hD, hP⟩
    have e : (svs ws).length = ws.length := List.length_map ..
    rw [e, List.take_length] at hP
    exact hd H' acc s hD hP
theorem ok_li (T : TxC K mg) : FnOk P w K mg base (L2.CX P w) 4 T.fI T.fdI ["self", "text"] (spLI K T.C T.E.C) := by
  have GW : FnOk P w K mg base CX0 1 T.L.wo.f T.L.wo.fd ["text"] spWO := ok_wo T.L
  have GO : FnOk P w K mg base CX0 1 T.L.oo.f T.L.oo.fd ["word"] spOO := ok_oo T.L
  have GR : FnOk P w K mg base CX0 3 T.L.ir.f T.L.ir.fd ["words"] (spIR K) := ok_ir T.L
  have GN : FnOk P w K mg base CX0 3 T.L.ie.f T.L.ie.fd ["words"] (spIE K) := ok_ie T.L
  have GE : FnOk P w K mg base CX0 1 T.E.f T.E.fd ["self", "value"] (spEI T.E.C) := ok_ei T.E
  refine T.FI.okX scLI (fun vs H Q E h => ?_) (fun cdv A outer s H vs Q E hr h => ?_)
  · obtain ⟨x, dx, v, rfl, _⟩ := h
    rfl
  · obtain ⟨x, dx, v, rfl, hx, ⟨t, ty, kt⟩, bd, kg, kb⟩ := h
    have hr1 : Room 1 _ := hr.mono (by decide)
    have hr2 : Room 2 _ := hr.mono (by decide)
    have ps : Bool := true
    refine ⟨_, pss_cons (ps_if (pt_not (pt_val (pe_callB call_isi (by rfl) T.isi (by decide +kernel) (pa_cons (pv 1) (pa_cons (pe_bltn (v := .ty "str") (by rfl) T.str (by decide +kernel) rfl) pa_nil))))) (pss_one (ps_raise rfl (takes_of rfl rfl rfl rfl) (pmk_oex T.E.o T.E.i T.E.t GE hr2 T.E.b .nil pass0 rfl T.E.g (pa_cons (pv 1) pa_nil)))) pss_nil)
      (pss_cons (ps_asg (pe_call GW hr1 rfl T.L.wo.g T.L.wo.k T.L.wo.b .nil pass0 (pa_cons (pv 1) pa_nil)) (pg_tup rfl (pgs_cons (pg_name (i := 2) scLI.nd rfl (.inl rfl)) (pgs_cons (pg_name (i := 3) scLI.nd rfl (.inl rfl)) pgs_nil))))
      (pss_cons (ps_if (PW.pt (pw_or (pt_not (pt_val (pe_call GR hr rfl T.L.ir.g T.L.ir.k T.L.ir.b .nil pass0 (pa_cons (pv 2) pa_nil)))) (pw_or1 (pt_not (pt_val (pe_call GN hr rfl T.L.ie.g T.L.ie.k T.L.ie.b .nil pass0 (pa_cons (pv 3) pa_nil)))))))
          (pss_one (ps_raise rfl (takes_of rfl rfl rfl rfl) (pmk_oex T.E.o T.E.i T.E.t GE hr2 T.E.b .nil pass0 rfl T.E.g (pa_cons (pv 1) pa_nil)))) pss_nil)
      (pss_cons (ps_fld (pv 0) (pv 1) rfl) (pss_cons (ps_fld (pv 0) (pv 2) rfl) (pss_cons (ps_fld (pv 0) (pv 3) rfl)
      (pss_cons (ps_fld (pv 0) (pe_callTy call_tuple_of (by rfl) T.L.tuple (by decide +kernel) (pa_cons (pe_lc (own := [("word", 4)]) (g := gName 4) (tt := tYes) (te := tCall spOO [] E0 (tCons (tVar 4) tNil)) rfl scLI.nd (pi_tup (pv 2)) (blkOk_by (own := [("word", 4)]) (N := ["self", "text", "first_words", "last_words", "word"]) (sc := defScope sLI) (by decide +kernel))
          (fun _ _ _ _ _ => pg_name (i := 4) scLI.nd rfl (Or.inl rfl)) (fun _ _ _ _ _ => pts_nil) (fun _ _ _ _ _ => by exact pe_call GO hr1 rfl T.L.oo.g T.L.oo.k T.L.oo.b .nil pass0 (pa_cons (pv 4) pa_nil))) pa_nil)) rfl)
      (pss_one (ps_fld (pv 0) (pe_callTy call_tuple_of (by rfl) T.L.tuple (by decide +kernel) (pa_cons (pe_lc (own := [("word", 4)]) (g := gName 4) (tt := tYes) (te := tCall spOO [] E0 (tCons (tVar 4) tNil)) rfl scLI.nd (pi_tup (pv 3)) (blkOk_by (own := [("word", 4)]) (N := ["self", "text", "first_words", "last_words", "word"]) (sc := defScope sLI) (by decide +kernel))
          (fun _ _ _ _ _ => pg_name (i := 4) scLI.nd rfl (Or.inl rfl)) (fun _ _ _ _ _ => pts_nil) (fun _ _ _ _ _ => by exact pe_call GO hr1 rfl T.L.oo.g T.L.oo.k T.L.oo.b .nil pass0 (pa_cons (pv 4) pa_nil))) pa_nil)) rfl)))))))), ?_⟩
    refine ⟨_, rfl, _, _, _, _, isS v, rfl, .ty "str", ty, kt, _, rfl, ?_⟩
    cases hs : isS v with
    | false =>
      refine iteT ?_
      have gv : good v = false := by
        cases v <;> first | rfl | cases hs
      exact mk_err (x := v) ⟨v, rfl, rfl, rfl⟩ (fun {R R'} ⟨v, e1, q⟩ f => ⟨v, e1, f _ _ q⟩) (kb gv H · (Same.refl _))
    | true =>
      obtain ⟨t, rfl⟩ : ∃ t, v = .str t := by
        cases v <;> first | exact ⟨_, rfl⟩ | cases hs
      have bd : Bd t := bd
      have kg := kg t rfl
      refine iteF ?_
      refine ⟨_, rfl, t, rfl, bd, fun H1 p a b s1 hp ha hb => ?_⟩
      refine ⟨p, _, rfl, SqT.of hp, rfl, _, _, rfl, _, _, rfl, rfl, ?_⟩
      have bR : BdW (wordsR t) := ⟨fun z hz => Nat.le_trans (wordsR_word hz) bd, Nat.le_trans (wordsR_len t) (by unfold Bd at bd; omega)⟩
      have bE : BdW (wordsE t) := ⟨fun z hz => Nat.le_trans (wordsE_word hz) bd, Nat.le_trans (wordsE_len t) (by unfold Bd at bd; omega)⟩
      refine ⟨_, rfl, a, wordsR t, rfl, wordsR_ne t, bR, SqT.of ha, fun H2 s2 => ?_⟩
      have gt : goodText t = (isRound (wordsR t) && isEnding (wordsE t)) := rfl
      have gv : good (.str t) = goodText t := rfl
      rw [gv] at kb
      refine ⟨_, rfl, ?_⟩
      cases h1 : isRound (wordsR t) with
      | false =>
        rw [gt, h1] at kb
        refine iteT (iteT ?_)
        exact mk_err (x := .str t) ⟨.str t, rfl, rfl, rfl⟩ (fun {R R'} ⟨v, e1, q⟩ f => ⟨v, e1, f _ _ q⟩) (kb rfl H2 · (Same.trans s1 s2))
      | true =>
        refine iteF ?_
        refine ⟨_, rfl, b, wordsE t, rfl, bE, SqT.of (s2 _ _ hb), fun H3 s3 => ?_⟩
        refine ⟨_, rfl, ?_⟩
        have s13 := Same.trans s1 (Same.trans s2 s3)
        cases h2 : isEnding (wordsE t) with
        | false =>
          rw [gt, h1, h2] at kb
          refine iteT ?_
          exact mk_err (x := .str t) ⟨.str t, rfl, rfl, rfl⟩ (fun {R R'} ⟨v, e1, q⟩ f => ⟨v, e1, f _ _ q⟩) (kb rfl H3 · s13)
        | true =>
          have kg := kg (by rw [gt, h1, h2]; rfl)
          refine iteF ?_
          have hx3 := s13 _ _ hx
          have ha3 := s3 _ _ (s2 _ _ ha)
          have hb3 := s3 _ _ (s2 _ _ hb)
          have o3 : Off x H H3 := Same.off s13
          clear s1 s2 s3 hp ha hb hx kb s13
          -- text
          refine ⟨_, rfl, _, rfl, x, T.C, dx, _, rfl, hx3, T.cl, T.nT, (by show 0 < 1000; decide), ?_⟩
          have st := tup_stays (o' := .ins T.C dx (putF "text" (.str t) [])) hx3 (by intro xs z; cases z)
          have hx4 : (upd H3 x (.ins T.C dx (putF "text" (.str t) []))) x = some (.ins T.C dx (putF "text" (.str t) [])) := upd_same
          have ha4 := st _ _ ha3
          have hb4 := st _ _ hb3
          have o4 : Off x H (upd H3 x (.ins T.C dx (putF "text" (.str t) []))) := o3.put
          generalize upd H3 x (.ins T.C dx (putF "text" (.str t) [])) = H4 at hx4 ha4 hb4 o4 ⊢
          clear st ha3 hb3 o3 hx3
          -- round
          refine ⟨_, rfl, _, rfl, x, T.C, dx, _, rfl, hx4, T.cl, T.nR, (by show 1 < 1000; decide), ?_⟩
          have st := tup_stays (o' := .ins T.C dx (putF "round" (.ref a) (putF "text" (.str t) []))) hx4 (by intro xs z; cases z)
          have hx5 : (upd H4 x (.ins T.C dx (putF "round" (.ref a) (putF "text" (.str t) [])))) x = some (.ins T.C dx (putF "round" (.ref a) (putF "text" (.str t) []))) := upd_same
          have ha5 := st _ _ ha4
          have hb5 := st _ _ hb4
          have o5 : Off x H (upd H4 x (.ins T.C dx (putF "round" (.ref a) (putF "text" (.str t) [])))) := o4.put
          generalize upd H4 x (.ins T.C dx (putF "round" (.ref a) (putF "text" (.str t) []))) = H5 at hx5 ha5 hb5 o5 ⊢
          clear st ha4 hb4 o4 hx4
          -- ending
          refine ⟨_, rfl, _, rfl, x, T.C, dx, _, rfl, hx5, T.cl, T.nE, Nat.lt_of_le_of_lt (putF_len _ _ _) (Nat.lt_of_le_of_lt (Nat.add_le_add_right (putF_len _ _ _) 1) (by decide)), ?_⟩
          have st := tup_stays (o' := .ins T.C dx (putF "ending" (.ref b) (putF "round" (.ref a) (putF "text" (.str t) [])))) hx5 (by intro xs z; cases z)
          have hx6 : (upd H5 x (.ins T.C dx (putF "ending" (.ref b) (putF "round" (.ref a) (putF "text" (.str t) []))))) x = some (.ins T.C dx (putF "ending" (.ref b) (putF "round" (.ref a) (putF "text" (.str t) [])))) := upd_same
          have ha6 := st _ _ ha5
          have hb6 := st _ _ hb5
          have o6 : Off x H (upd H5 x (.ins T.C dx (putF "ending" (.ref b) (putF "round" (.ref a) (putF "text" (.str t) []))))) := o5.put
          generalize upd H5 x (.ins T.C dx (putF "ending" (.ref b) (putF "round" (.ref a) (putF "text" (.str t) [])))) = H6 at hx6 ha6 hb6 o6 ⊢
          clear st ha5 hb5 o5 hx5
          -- round_orders
          refine ⟨_, rfl, a, rfl, ⟨_, SqT.of ha6⟩, fun D nD => ords_lc (K := K) (a := a) (ws := wordsR t) (fun v => ⟨rfl, rfl⟩) ha6 bR nD fun H7 os s7 hD hP => ?_⟩
          refine ⟨D, os, rfl, .inl ⟨SqL.of hD, fun po npo => ?_⟩⟩
          have s8 : Same H6 (upd H7 po (.tup os)) := Same.trans s7 (same_new npo)
          have hpo : (upd H7 po (.tup os)) po = some (.tup os) := upd_same
          have hP8 := hP.same (same_new (o := .tup os) npo)
          refine ⟨_, rfl, x, T.C, dx, _, rfl, s8 _ _ hx6, T.cl, T.nO, Nat.lt_of_le_of_lt (putF_len _ _ _) (Nat.lt_of_le_of_lt (Nat.add_le_add_right (putF_len _ _ _) 1) (Nat.lt_of_le_of_lt (Nat.add_le_add_right (Nat.add_le_add_right (putF_len _ _ _) 1) 1) (by decide))), ?_⟩
          generalize upd H7 po (.tup os) = H8 at s8 hpo hP8 ⊢
          have hx8 := s8 _ _ hx6
          have o8 : Off x H H8 := o6.trans (Same.off s8)
          have ha8 := s8 _ _ ha6
          have hb8 := s8 _ _ hb6
          clear ha6 hb6 o6 hx6 s8 hD hP npo s7 nD
          have st := tup_stays (o' := .ins T.C dx (putF "round_orders" (.ref po) (putF "ending" (.ref b) (putF "round" (.ref a) (putF "text" (.str t) []))))) hx8 (by intro xs z; cases z)
          have hx9 : (upd H8 x (.ins T.C dx (putF "round_orders" (.ref po) (putF "ending" (.ref b) (putF "round" (.ref a) (putF "text" (.str t) [])))))) x = some (.ins T.C dx (putF "round_orders" (.ref po) (putF "ending" (.ref b) (putF "round" (.ref a) (putF "text" (.str t) []))))) := upd_same
          have ha9 := st _ _ ha8
          have hb9 := st _ _ hb8
          have hpo9 : Ords _ po (wordsR t) := ⟨os, st _ _ hpo, hP8.mono st⟩
          have o9 : Off x H (upd H8 x (.ins T.C dx (putF "round_orders" (.ref po) (putF "ending" (.ref b) (putF "round" (.ref a) (putF "text" (.str t) [])))))) := o8.put
          generalize upd H8 x (.ins T.C dx (putF "round_orders" (.ref po) (putF "ending" (.ref b) (putF "round" (.ref a) (putF "text" (.str t) []))))) = H9 at hx9 ha9 hb9 o9 hpo9 ⊢
          clear st ha8 hb8 o8 hx8 hpo hP8
          -- ending_orders
          refine ⟨_, rfl, b, rfl, ⟨_, SqT.of hb9⟩, fun D nD => ords_lc (K := K) (a := b) (ws := wordsE t) (fun v => ⟨rfl, rfl⟩) hb9 bE nD fun H10 os2 s10 hD hP => ?_⟩
          refine ⟨D, os2, rfl, .inl ⟨SqL.of hD, fun pq npq => ?_⟩⟩
          have s11 : Same H9 (upd H10 pq (.tup os2)) := Same.trans s10 (same_new npq)
          have hpq : (upd H10 pq (.tup os2)) pq = some (.tup os2) := upd_same
          have hP11 := hP.same (same_new (o := .tup os2) npq)
          refine ⟨_, rfl, x, T.C, dx, _, rfl, s11 _ _ hx9, T.cl, T.nQ, Nat.lt_of_le_of_lt (putF_len _ _ _) (Nat.lt_of_le_of_lt (Nat.add_le_add_right (putF_len _ _ _) 1) (Nat.lt_of_le_of_lt (Nat.add_le_add_right (Nat.add_le_add_right (putF_len _ _ _) 1) 1) (Nat.lt_of_le_of_lt (Nat.add_le_add_right (Nat.add_le_add_right (Nat.add_le_add_right (putF_len _ _ _) 1) 1) 1) (by decide)))), ?_⟩
          generalize upd H10 pq (.tup os2) = H11 at s11 hpq hP11 ⊢
          have hx11 := s11 _ _ hx9
          have st := tup_stays (o' := .ins T.C dx (lf t a b po pq)) hx11 (by intro xs z; cases z)
          refine kg _ (Off.put (o9.trans (Same.off s11))) ⟨dx, a, b, po, pq, upd_same, st _ _ (s11 _ _ ha9), st _ _ (s11 _ _ hb9), (hpo9.mono fun _ _ z => s11 _ _ z).mono st, os2, st _ _ hpq, hP11.mono st⟩
end
end My

/-! what a loop does with a reply -/
namespace EM
open PySem L2
def ivs (xs : List Int) : List V := xs.map V.int
theorem ivs_len (xs : List Int) : (ivs xs).length = xs.length := List.length_map ..
/-- what the words of a round change -/
structure RP where
  rest : List Int
  pieces : List (List Int)
def passM (size : Nat) (held : List Int) (told : Bool) (t : Str) (rest : List Int) : Bool :=
  if t = "" then true
  else if t = "told" ∨ t = "open" then told == decide (t = "told")
  else if t = "rest" ∨ t = "bare" then decide (0 < rest.length) == decide (t = "rest")
  else if t = "empty" ∨ t = "some" then decide (0 < held.length) == decide (t = "some")
  else decide (held.length < size) == decide (t = "short")
def cutN (size : Nat) (rest : List Int) (n : Nat) : List (List Int) := (List.range n).map fun k => (rest.drop (k * size)).take size
def perfM (size : Nat) (held : List Int) (s : Str) (x : RP) : RP :=
  if s = "add" then ⟨x.rest ++ held, x.pieces⟩
  else if s = "hand" then ⟨x.rest, x.pieces ++ [held]⟩
  else if s = "cut" then ⟨x.rest.drop (x.rest.length / size * size), x.pieces ++ cutN size x.rest (x.rest.length / size)⟩
  else if s = "flush" then ⟨[], x.pieces ++ [x.rest]⟩
  else x
def runW (size : Nat) (held : List Int) (told : Bool) : List (Str × Str) → RP → RP × Bool
  | [], x => (x, false)
  | (t, s) :: r, x => if passM size held told t x.rest = true then (if s = "again" then (x, false) else if s = "stop" then (x, true) else runW size held told r (perfM size held s x)) else runW size held told r x
def endW (size : Nat) (held : List Int) (told : Bool) : List (Str × Str) → RP → RP
  | [], x => x
  | (t, s) :: r, x => endW size held told r (if passM size held told t x.rest = true then perfM size held s x else x)
def ansM (size : Nat) (ro eo : List (Str × Str)) (held : List Int) (told : Bool) (x : RP) : RP × Bool :=
  if (runW size held told ro x).2 = true then (endW size held told eo (runW size held told ro x).1, true) else ((runW size held told ro x).1, false)
/-! ### bounds -/
/-- the rest has at most k sizes of items, and there are at most c pieces -/
def Few (size k c : Nat) (x : RP) : Prop := x.rest.length ≤ k * size ∧ x.pieces.length ≤ c
theorem Few.mono {size k c k' c' : Nat} {x : RP} (h : Few size k c x) (hk : k ≤ k') (hc : c ≤ c') : Few size k' c' x := ⟨Nat.le_trans h.1 (Nat.mul_le_mul_right _ hk), Nat.le_trans h.2 hc⟩
theorem few_perf {size k c : Nat} {held : List Int} {s : Str} {x : RP} (hs : 1 ≤ size) (hh : held.length ≤ size) (h : Few size k c x) : Few size (k + 1) (c + (k + 1)) (perfM size held s x) := by
  have e : (k + 1) * size = k * size + size := Nat.succ_mul k size
  have q : x.rest.length / size ≤ k := by
    have := Nat.div_le_div_right (c := size) h.1
    rwa [Nat.mul_div_cancel _ (by omega)] at this
  obtain ⟨h1, h2⟩ := h
  unfold perfM Few
  split
  · refine ⟨?_, by show x.pieces.length ≤ _; omega⟩
    show (x.rest ++ held).length ≤ _
    rw [List.length_append]
    omega
  · split
    · refine ⟨by show x.rest.length ≤ _; omega, ?_⟩
      show (x.pieces ++ [held]).length ≤ _
      rw [List.length_append]
      show x.pieces.length + 1 ≤ _
      omega
    · split
      · refine ⟨?_, ?_⟩
        · show (x.rest.drop _).length ≤ _
          rw [List.length_drop]
          omega
        · show (x.pieces ++ cutN size x.rest (x.rest.length / size)).length ≤ _
          rw [List.length_append, cutN, List.length_map, List.length_range]
          omega
      · split
        · refine ⟨Nat.zero_le _, ?_⟩
          show (x.pieces ++ [x.rest]).length ≤ _
          rw [List.length_append]
          show x.pieces.length + 1 ≤ _
          omega
        · exact ⟨by omega, by omega⟩
theorem few_run {size : Nat} {held : List Int} {told : Bool} (hs : 1 ≤ size) (hh : held.length ≤ size) : ∀ (ro : List (Str × Str)) (k c : Nat) (x : RP), Few size k c x → Few size (k + ro.length) (c + ro.length * (k + ro.length)) (runW size held told ro x).1
  | [], k, c, x, h => by simpa [runW] using h
  | (t, s) :: r, k, c, x, h => by
    have m : Few size (k + (r.length + 1)) (c + (r.length + 1) * (k + (r.length + 1))) x := h.mono (by omega) (by omega)
    unfold runW
    rw [List.length_cons]
    split
    · split
      · exact m
      · split
        · exact m
        · have ih := few_run (told := told) hs hh r (k + 1) (c + (k + 1)) _ (few_perf (s := s) hs hh h)
          refine ih.mono (by omega) ?_
          rw [Nat.succ_mul]
          have e1 : k + 1 + r.length = k + (r.length + 1) := by omega
          rw [e1]
          omega
    · have ih := few_run (told := told) hs hh r k c x h
      refine ih.mono (by omega) ?_
      have : r.length * (k + r.length) ≤ (r.length + 1) * (k + (r.length + 1)) := Nat.mul_le_mul (by omega) (by omega)
      omega
theorem few_end {size : Nat} {held : List Int} {told : Bool} (hs : 1 ≤ size) (hh : held.length ≤ size) : ∀ (eo : List (Str × Str)) (k c : Nat) (x : RP), Few size k c x → Few size (k + eo.length) (c + eo.length * (k + eo.length)) (endW size held told eo x)
  | [], k, c, x, h => by simpa [endW] using h
  | (t, s) :: r, k, c, x, h => by
    unfold endW
    rw [List.length_cons]
    have h2 : Few size (k + 1) (c + (k + 1)) (if passM size held told t x.rest = true then perfM size held s x else x) := by
      split
      · exact few_perf hs hh h
      · exact h.mono (by omega) (by omega)
    have ih := few_end (told := told) hs hh r (k + 1) (c + (k + 1)) _ h2
    refine ih.mono (by omega) ?_
    rw [Nat.succ_mul]
    have e1 : k + 1 + r.length = k + (r.length + 1) := by omega
    rw [e1]
    omega
/-- after one reply -/
theorem few_ans {size : Nat} {ro eo : List (Str × Str)} {held : List Int} {told : Bool} {k c : Nat} {x : RP} (hs : 1 ≤ size) (hh : held.length ≤ size) (l1 : ro.length ≤ 12) (l2 : eo.length ≤ 6) (h : Few size k c x) :
    Few size (k + 18) (c + 18 * (k + 18)) (ansM size ro eo held told x).1 := by
  have a := few_run (told := told) hs hh ro k c x h
  have a1 : Few size (k + 12) (c + 12 * (k + 12)) (runW size held told ro x).1 := a.mono (by omega) (Nat.add_le_add_left (Nat.mul_le_mul l1 (by omega)) _)
  unfold ansM
  split
  · have b := few_end (told := told) hs hh eo _ _ _ a1
    refine b.mono (by omega) ?_
    have : eo.length * (k + 12 + eo.length) ≤ 6 * (k + 18) := Nat.mul_le_mul l2 (by omega)
    omega
  · exact a1.mono (by omega) (by omega)
end EM

/-! the class Execution -/
namespace My
open PySem L2 Cm LM EM
abbrev sXI : Stmt := inClass (top 43) 0
abbrev sXA : Stmt := inClass (top 43) 1
abbrev sXF : Stmt := inClass (top 43) 3
abbrev sXP : Stmt := inClass (top 43) 4
abbrev sXR : Stmt := inClass (top 43) 5
abbrev sXC : Stmt := inClass (top 43) 6
/-! ### the data -/
def xf (ro eo : Addr) (ak sz : Nat) (h : Addr) (t : Bool) (r p : Addr) (st : Bool) : List (Str × V) := [("round_orders", .ref ro), ("ending_orders", .ref eo), ("size", .int sz), ("held", .ref h), ("told", .bl t), ("kept", .ref r), ("handed", .ref p), ("asked", .int ak), ("over", .bl st)]
section
variable (ro eo h r p h' : Addr) (ak ak' sz : Nat) (t st b : Bool)
theorem xf_ro : (xf ro eo ak sz h t r p st).lookup ("round_orders" : Str) = some (.ref ro) := by kernel_rfl
theorem xf_eo : (xf ro eo ak sz h t r p st).lookup ("ending_orders" : Str) = some (.ref eo) := by kernel_rfl
theorem xf_sz : (xf ro eo ak sz h t r p st).lookup ("size" : Str) = some (.int sz) := by kernel_rfl
theorem xf_h : (xf ro eo ak sz h t r p st).lookup ("held" : Str) = some (.ref h) := by kernel_rfl
theorem xf_t : (xf ro eo ak sz h t r p st).lookup ("told" : Str) = some (.bl t) := by kernel_rfl
theorem xf_r : (xf ro eo ak sz h t r p st).lookup ("kept" : Str) = some (.ref r) := by kernel_rfl
theorem xf_p : (xf ro eo ak sz h t r p st).lookup ("handed" : Str) = some (.ref p) := by kernel_rfl
theorem xf_st : (xf ro eo ak sz h t r p st).lookup ("over" : Str) = some (.bl st) := by kernel_rfl
theorem put_h : putF "held" (.ref h') (xf ro eo ak sz h t r p st) = xf ro eo ak sz h' t r p st := by kernel_rfl
theorem put_t : putF "told" (.bl b) (xf ro eo ak sz h t r p st) = xf ro eo ak sz h b r p st := by kernel_rfl
theorem put_r : putF "kept" (.ref h') (xf ro eo ak sz h t r p st) = xf ro eo ak sz h t h' p st := by kernel_rfl
theorem xf_ak : (xf ro eo ak sz h t r p st).lookup ("asked" : Str) = some (.int ak) := by kernel_rfl
theorem put_ak : putF "asked" (.int ak') (xf ro eo ak sz h t r p st) = xf ro eo ak' sz h t r p st := by kernel_rfl
theorem put_st : putF "over" (.bl b) (xf ro eo ak sz h t r p st) = xf ro eo ak sz h t r p b := by kernel_rfl
theorem xf_mk : putF "over" (.bl st) (putF "asked" (.int ak) (putF "handed" (.ref p) (putF "kept" (.ref r) (putF "told" (.bl t) (putF "held" (.ref h) (putF "size" (.int sz) (putF "ending_orders" (.ref eo) (putF "round_orders" (.ref ro) [])))))))) = xf ro eo ak sz h t r p st := by kernel_rfl
theorem xf_len : (xf ro eo ak sz h t r p st).length = 9 := rfl
theorem xf_noA : (xf ro eo ak sz h t r p st).lookup ("answer" : Str) = none ∧ (xf ro eo ak sz h t r p st).lookup ("finish" : Str) = none ∧ (xf ro eo ak sz h t r p st).lookup ("passes" : Str) = none ∧ (xf ro eo ak sz h t r p st).lookup ("perform" : Str) = none ∧ (xf ro eo ak sz h t r p st).lookup ("cut_off" : Str) = none ∧ (xf ro eo ak sz h t r p st).lookup ("answer_nothing" : Str) = none := ⟨by kernel_rfl, by kernel_rfl, by kernel_rfl, by kernel_rfl, by kernel_rfl, by kernel_rfl⟩
end
/-- rows of pieces -/
inductive Pcs (H : Hp) : List V → List (List Int) → Prop
  | nil : Pcs H [] []
  | cons {q : Addr} {x : List Int} {vs : List V} {xs : List (List Int)} (h : H q = some (.tup (ivs x))) (t : Pcs H vs xs) : Pcs H (.ref q :: vs) (x :: xs)
theorem Pcs.mono {H H' : Hp} (f : ∀ (p : Addr) (xs : List V), H p = some (.tup xs) → H' p = some (.tup xs)) : ∀ {vs xs}, Pcs H vs xs → Pcs H' vs xs
  | _, _, .nil => .nil
  | _, _, .cons h t => .cons (f _ _ h) (t.mono f)
theorem Pcs.snoc {H : Hp} {q : Addr} {x : List Int} (h : H q = some (.tup (ivs x))) : ∀ {vs xs}, Pcs H vs xs → Pcs H (vs ++ [.ref q]) (xs ++ [x])
  | _, _, .nil => .cons h .nil
  | _, _, .cons a t => .cons a (t.snoc h)
theorem Pcs.len {H : Hp} : ∀ {vs xs}, Pcs H vs xs → vs.length = xs.length
  | _, _, .nil => rfl
  | _, _, .cons _ t => congrArg (· + 1) t.len
/-- tuples stay -/
def TS (H H' : Hp) : Prop := ∀ (p : Addr) (xs : List V), H p = some (.tup xs) → H' p = some (.tup xs)
theorem TS.refl {H : Hp} : TS H H := fun _ _ e => e
theorem TS.trans {H H1 H2 : Hp} (a : TS H H1) (b : TS H1 H2) : TS H H2 := fun p xs e => b p xs (a p xs e)
theorem Same.ts {H H' : Hp} (s : Same H H') : TS H H' := fun _ _ e => s _ _ e
/-- an execution stands at o, its pieces at p -/
structure ExAt (C : Addr) (H : Hp) (o dx ro eo p : Addr) (ak sz : Nat) (held : List Int) (told : Bool) (x : RP) (st : Bool) : Prop where
  ex : ∃ h r vs, H o = some (.ins C dx (xf ro eo ak sz h told r p st)) ∧ H h = some (.tup (ivs held)) ∧ H r = some (.tup (ivs x.rest)) ∧ H p = some (.lst vs) ∧ Pcs H vs x.pieces
theorem ExAt.same {C : Addr} {H H' : Hp} {o dx ro eo p : Addr} {ak sz : Nat} {held : List Int} {told : Bool} {x : RP} {st : Bool} (s : Same H H') (h : ExAt C H o dx ro eo p ak sz held told x st) : ExAt C H' o dx ro eo p ak sz held told x st := by
  obtain ⟨h', r, vs, a, b, c, d, e⟩ := h.ex
  exact ⟨h', r, vs, s _ _ a, s _ _ b, s _ _ c, s _ _ d, e.mono fun _ _ q => s _ _ q⟩
/-- all but what stands at o and at p is as it was -/
def Off2 (o p : Addr) (H H' : Hp) : Prop := ∀ b u, b ≠ o → b ≠ p → H b = some u → H' b = some u
theorem Off2.refl {o p : Addr} {H : Hp} : Off2 o p H H := fun _ _ _ _ e => e
theorem Off2.trans {o p : Addr} {H H1 H2 : Hp} (a : Off2 o p H H1) (b : Off2 o p H1 H2) : Off2 o p H H2 := fun c u n m e => b c u n m (a c u n m e)
theorem Off2.same {o p : Addr} {H H1 H2 : Hp} (a : Off2 o p H H1) (s : Same H1 H2) : Off2 o p H H2 := fun c u n m e => s _ _ (a c u n m e)
theorem Off2.putO {o p : Addr} {H H1 : Hp} {u : HO} (a : Off2 o p H H1) : Off2 o p H (upd H1 o u) := fun c u n m e => by
  rw [upd_ne n]
  exact a c u n m e
theorem Off2.putP {o p : Addr} {H H1 : Hp} {u : HO} (a : Off2 o p H H1) : Off2 o p H (upd H1 p u) := fun c u n m e => by
  rw [upd_ne m]
  exact a c u n m e
structure TxX (K : PySem.W.Frag) (mg : Str → Option Value) where
  len : mg "len" = none
  range : mg "range" = none
  C : Addr
  gC : mg "Execution" = some (.ref C)
  cl : Cls K C
  nRo : NoAttr K C "round_orders"
  nEo : NoAttr K C "ending_orders"
  nSz : NoAttr K C "size"
  nH : NoAttr K C "held"
  nT : NoAttr K C "told"
  nR : NoAttr K C "kept"
  nP : NoAttr K C "handed"
  nA : NoAttr K C "asked"
  nSt : NoAttr K C "over"
  fI : Addr
  fdI : FuncData
  FI : Fun K "__init__" "Execution.__init__" sXI fI fdI
  bI : Binds K fdI ["self", "round_orders", "ending_orders", "size", "kept"] []
  MI : Mk K C fI
  an : Mt K C "answer" "Execution.answer" sXA ["self", "held", "told"]
  fi : Mt K C "finish" "Execution.finish" sXF ["self"]
  ps : Mt K C "passes" "Execution.passes" sXP ["self", "test"]
  pf : Mt K C "perform" "Execution.perform" sXR ["self", "step"]
  co : Mt K C "cut_off" "Execution.cut_off" sXC ["self"]
section
variable {P : Program} {w : World} {K : PySem.W.Frag} {mg : Str → Option Value} {base : Heap}
/-! ### __init__ -/
def spXI (C : Addr) : Sp := fun vs H Q _ => ∃ (o dx ro eo r : Addr) (sz : Nat) (rest : List Int), vs = [.ref o, .ref ro, .ref eo, .int sz, .ref r] ∧ H o = some (.ins C dx []) ∧ H r = some (.tup (ivs rest)) ∧
  ∀ (H' : Hp) (p : Addr), Off o H H' → H p = none → ExAt C H' o dx ro eo p 0 sz [] false ⟨rest, []⟩ false → Q .non H'
theorem scXI : FnScope ["self", "round_orders", "ending_orders", "size", "kept"] ["self", "round_orders", "ending_orders", "size", "kept"] (defScope sXI) := ⟨rfl, rfl, rfl, by decide +kernel, rfl, by decide +kernel, by decide +kernel⟩
theorem small8 {fs : List (Str × V)} (h : fs.length ≤ 8) : fs.length < 1000 := by omega
theorem putF8 {f : Str} {v : V} {fs : List (Str × V)} {n : Nat} (h : fs.length ≤ n) : (putF f v fs).length ≤ n + 1 := Nat.le_trans (putF_len f v fs) (by omega)
theorem ok_xi (T : TxX K mg) : FnOk P w K mg base CX0 1 T.fI T.fdI ["self", "round_orders", "ending_orders", "size", "kept"] (spXI T.C) := by
  refine T.FI.ok scXI (fun vs H Q E h => ?_) (fun cdv A outer s H vs Q E hr h => ?_)
  · obtain ⟨o, dx, ro, eo, r, sz, rest, rfl, _⟩ := h
    rfl
  · obtain ⟨o, dx, ro, eo, r, sz, rest, rfl, ho, hr', k⟩ := h
    refine ⟨_, pss_cons (ps_fld (pv 0) (pv 1) rfl) (pss_cons (ps_fld (pv 0) (pv 2) rfl) (pss_cons (ps_fld (pv 0) (pv 3) rfl) (pss_cons (ps_fld (pv 0) (pe_tup pa_nil) rfl) (pss_cons (ps_fld (pv 0) pe_bl rfl) (pss_cons (ps_fld (pv 0) (pv 4) rfl)
      (pss_cons (ps_fld (pv 0) (pe_lst pa_nil) rfl) (pss_cons (ps_fld (pv 0) pe_int rfl) (pss_one (ps_fld (pv 0) pe_bl rfl))))))))), ?_⟩
    have l0 : ([] : List (Str × V)).length ≤ 0 := Nat.le_refl _
    refine ⟨_, rfl, _, rfl, o, T.C, dx, _, rfl, ho, T.cl, T.nRo, by decide, ?_⟩
    refine ⟨_, rfl, _, rfl, o, T.C, dx, _, rfl, upd_same, T.cl, T.nEo, Nat.lt_of_le_of_lt (putF8 l0) (by decide), ?_⟩
    refine ⟨_, rfl, _, rfl, o, T.C, dx, _, rfl, upd_same, T.cl, T.nSz, Nat.lt_of_le_of_lt (putF8 (putF8 l0)) (by decide), ?_⟩
    refine ⟨Nat.zero_le _, fun h nh => ?_⟩
    have no : h ≠ o := fun z => by rw [z, upd_same] at nh; cases nh
    refine ⟨_, rfl, o, T.C, dx, _, rfl, (by rw [upd_ne no.symm]; exact upd_same), T.cl, T.nH, Nat.lt_of_le_of_lt (putF8 (putF8 (putF8 l0))) (by decide), ?_⟩
    refine ⟨_, rfl, o, T.C, dx, _, rfl, upd_same, T.cl, T.nT, Nat.lt_of_le_of_lt (putF8 (putF8 (putF8 (putF8 l0)))) (by decide), ?_⟩
    refine ⟨_, rfl, _, rfl, o, T.C, dx, _, rfl, upd_same, T.cl, T.nR, Nat.lt_of_le_of_lt (putF8 (putF8 (putF8 (putF8 (putF8 l0))))) (by decide), ?_⟩
    refine ⟨Nat.zero_le _, fun p np => ?_⟩
    have po : p ≠ o := fun z => by rw [z, upd_same] at np; cases np
    refine ⟨_, rfl, o, T.C, dx, _, rfl, (by rw [upd_ne po.symm]; exact upd_same), T.cl, T.nP, Nat.lt_of_le_of_lt (putF8 (putF8 (putF8 (putF8 (putF8 (putF8 l0)))))) (by decide), ?_⟩
    refine ⟨_, rfl, o, T.C, dx, _, rfl, upd_same, T.cl, T.nA, Nat.lt_of_le_of_lt (putF8 (putF8 (putF8 (putF8 (putF8 (putF8 (putF8 l0))))))) (by decide), ?_⟩
    refine ⟨_, rfl, o, T.C, dx, _, rfl, upd_same, T.cl, T.nSt, Nat.lt_of_le_of_lt (putF8 (putF8 (putF8 (putF8 (putF8 (putF8 (putF8 (putF8 l0)))))))) (by decide), ?_⟩
    rw [show V.int 0 = V.int ((0 : Nat) : Int) from rfl, xf_mk]
    rw [upd_ne po, upd_ne po, upd_ne po] at np
    have ph : p ≠ h := fun z => by rw [z, upd_same] at np; cases np
    rw [upd_ne ph, upd_ne po, upd_ne po, upd_ne po] at np
    rw [upd_ne no, upd_ne no, upd_ne no] at nh
    have r1 : r ≠ o := ne_of hr' ho (by intro z; cases z)
    have r2 : r ≠ h := ne_of_none hr' nh
    have r3 : r ≠ p := ne_of_none hr' np
    refine k _ p (fun b u nb e => ?_) np ⟨h, r, [], upd_same, ?_, ?_, ?_, .nil⟩
    · have b2 : b ≠ h := ne_of_none e nh
      have b3 : b ≠ p := ne_of_none e np
      rw [upd_ne nb, upd_ne nb, upd_ne nb, upd_ne b3, upd_ne nb, upd_ne nb, upd_ne nb, upd_ne b2, upd_ne nb, upd_ne nb, upd_ne nb]
      exact e
    · rw [upd_ne no, upd_ne no, upd_ne no, upd_ne ph.symm, upd_ne no, upd_ne no, upd_ne no, upd_same]
      rfl
    · rw [upd_ne r1, upd_ne r1, upd_ne r1, upd_ne r3, upd_ne r1, upd_ne r1, upd_ne r1, upd_ne r2, upd_ne r1, upd_ne r1, upd_ne r1]
      exact hr'
    · rw [upd_ne po, upd_ne po, upd_ne po, upd_same]
end
end My

namespace My
open PySem L2 Cm LM EM
theorem in2 (t a b : Str) : inV (.str t) [.str a, .str b] = decide (t = a ∨ t = b) := by
  have e : inV (.str t) [.str a, .str b] = decide (t ∈ [a, b]) := inV_svs t [a, b]
  rw [e]
  exact decide_eq_decide.mpr (by simp)
theorem rgC_up {q s : Nat} (hs : 1 ≤ s) (h1 : s ≤ 1000) (h2 : q * s ≤ 4000000) : RgC 0 ((q * s : Nat) : Int) (s : Int) q := by
  have sz : Builtin.Range.rangeSize 0 ((q * s : Nat) : Int) (s : Int) = (q : Int) := by
    rw [PyProof.Rows.rangeSize_pos (by omega) (by omega)]
    have e : ((q * s : Nat) : Int) + (s : Int) - 1 = ((s : Int) - 1) + (q : Int) * (s : Int) := by
      rw [Int.natCast_mul]
      omega
    rw [e, Int.add_mul_ediv_right _ _ (by omega), Int.ediv_eq_zero_of_lt (by omega) (by omega)]
    omega
  refine ⟨by omega, by omega, ?_, sz⟩
  have hq : q ≤ 4000000 := Nat.le_trans (Nat.le_mul_of_pos_right q hs) h2
  unfold Builtin.Range.small
  rw [sz]
  generalize q * s = m at h2 ⊢
  simp only [Builtin.Range.rangeFitsLong, Bool.and_eq_true, Bool.or_eq_true, decide_eq_true_eq, beq_iff_eq, show (s : Int) > 0 by omega, if_true]
  omega
section
variable {P : Program} {w : World} {K : PySem.W.Frag} {mg : Str → Option Value} {base : Heap}
/-! ### passes -/
def spXP (C : Addr) : Sp := fun vs H Q _ => ∃ (o dx ro eo p : Addr) (ak sz : Nat) (held : List Int) (told : Bool) (x : RP) (st : Bool) (t : Str), vs = [.ref o, .str t] ∧ ExAt C H o dx ro eo p ak sz held told x st ∧ ∀ H', Same H H' → Q (.bl (passM sz held told t x.rest)) H'
theorem scXP : FnScope ["self", "test"] ["self", "test"] (defScope sXP) := ⟨rfl, rfl, rfl, by decide +kernel, rfl, by decide +kernel, by decide +kernel⟩
theorem pos_dec (n : Nat) : decide ((n : Int) > 0) = decide (0 < n) := decide_eq_decide.mpr ⟨fun z => by omega, fun z => by omega⟩
theorem lt_dec (n m : Nat) : decide ((n : Int) < (m : Int)) = decide (n < m) := decide_eq_decide.mpr ⟨fun z => by omega, fun z => by omega⟩
theorem ok_xp (T : TxX K mg) : FnOk P w K mg base CX0 1 T.ps.f T.ps.fd ["self", "test"] (spXP T.C) := by
  refine T.ps.F.ok scXP (fun vs H Q E h => ?_) (fun cdv A outer s H vs Q E hr h => ?_)
  · obtain ⟨o, dx, ro, eo, p, ak, sz, held, told, x, st, t, rfl, _⟩ := h
    rfl
  · obtain ⟨o, dx, ro, eo, p, ak, sz, held, told, x, st, t, rfl, hX, k⟩ := h
    refine ⟨_, pss_cons (ps_if (pt_cmpR op_eq (pv 1) pe_str (nomark _)) (pss_one (ps_ret pe_bl)) pss_nil)
      (pss_cons (ps_if (pt_cmpR op_in_seq (pv 1) (pe_tup (pa_cons pe_str (pa_cons pe_str pa_nil))) (by rfl)) (pss_one (ps_ret (pe_cmpR op_eq (pe_fld (pv 0) rfl) (pe_cmpR op_eq (pv 1) pe_str (nomark _)) (nomark _)))) pss_nil)
      (pss_cons (ps_if (pt_cmpR op_in_seq (pv 1) (pe_tup (pa_cons pe_str (pa_cons pe_str pa_nil))) (by rfl)) (pss_one (ps_ret (pe_cmpR op_eq (pe_cmpR op_gt (pe_callB call_len_seq (by rfl) T.len PySem.boot_len (pa_cons (pe_fld (pv 0) rfl) pa_nil)) pe_int (nomark _)) (pe_cmpR op_eq (pv 1) pe_str (nomark _)) (nomark _)))) pss_nil)
      (pss_cons (ps_if (pt_cmpR op_in_seq (pv 1) (pe_tup (pa_cons pe_str (pa_cons pe_str pa_nil))) (by rfl)) (pss_one (ps_ret (pe_cmpR op_eq (pe_cmpR op_gt (pe_callB call_len_seq (by rfl) T.len PySem.boot_len (pa_cons (pe_fld (pv 0) rfl) pa_nil)) pe_int (nomark _)) (pe_cmpR op_eq (pv 1) pe_str (nomark _)) (nomark _)))) pss_nil)
      (pss_one (ps_ret (pe_cmpR op_eq (pe_cmpR op_lt (pe_callB call_len_seq (by rfl) T.len PySem.boot_len (pa_cons (pe_fld (pv 0) rfl) pa_nil)) (pe_fld (pv 0) rfl) (nomark _)) (pe_cmpR op_eq (pv 1) pe_str (nomark _)) (nomark _))))))), ?_⟩
    unfold passM at k
    refine ⟨_, rfl, rfl, _, rfl, ?_⟩
    rw [dS]
    by_cases h0 : t = ""
    · rw [decide_eq_true h0]
      rw [if_pos h0] at k
      exact iteT (k H (Same.refl _))
    rw [decide_eq_false h0]
    rw [if_neg h0] at k
    refine iteF ?_
    refine ⟨_, rfl, (by show 2 ≤ sizeLine; decide), fun t1 n1 => ⟨t1, _, rfl, .inr (SqT.of upd_same), rfl, rfl, _, rfl, ?_⟩⟩
    have s1 : Same H (upd H t1 (.tup [.str "told", .str "open"])) := same_new n1
    generalize upd H t1 (.tup [.str "told", .str "open"]) = H1 at s1 ⊢
    have X1 := hX.same s1
    obtain ⟨h, r, vs, eo1, hh1, hr1, hp1, _⟩ := id X1.ex
    rw [show (if false = true then !inV (V.str t) [V.str "told", V.str "open"] else inV (V.str t) [V.str "told", V.str "open"]) = decide (t = "told" ∨ t = "open") from in2 ..]
    by_cases h1 : t = "told" ∨ t = "open"
    · rw [decide_eq_true h1]
      rw [if_pos h1] at k
      refine iteT ⟨_, rfl, o, T.C, dx, _, _, rfl, eo1, T.cl, T.nT, xf_t .., _, rfl, rfl, rfl, ?_⟩
      rw [dS, dB]
      exact k H1 s1
    rw [decide_eq_false h1]
    rw [if_neg h1] at k
    refine iteF ?_
    refine ⟨_, rfl, (by show 2 ≤ sizeLine; decide), fun t2 n2 => ⟨t2, _, rfl, .inr (SqT.of upd_same), rfl, rfl, _, rfl, ?_⟩⟩
    have s2 : Same H (upd H1 t2 (.tup [.str "rest", .str "bare"])) := Same.trans s1 (same_new n2)
    generalize upd H1 t2 (.tup [.str "rest", .str "bare"]) = H2 at s2 ⊢
    have X2 := hX.same s2
    clear eo1 hh1 hr1 hp1 X1
    obtain ⟨h, r, vs, eo1, hh1, hr1, hp1, _⟩ := id X2.ex
    rw [show (if false = true then !inV (V.str t) [V.str "rest", V.str "bare"] else inV (V.str t) [V.str "rest", V.str "bare"]) = decide (t = "rest" ∨ t = "bare") from in2 ..]
    by_cases h2 : t = "rest" ∨ t = "bare"
    · rw [decide_eq_true h2]
      rw [if_pos h2] at k
      refine iteT ⟨_, rfl, o, T.C, dx, _, _, rfl, eo1, T.cl, T.nR, xf_r .., r, _, rfl, .inr (SqT.of hr1), _, _, rfl, rfl, _, rfl, rfl, rfl, ?_⟩
      rw [dS, dB, ivs_len, pos_dec]
      exact k H2 s2
    rw [decide_eq_false h2]
    rw [if_neg h2] at k
    refine iteF ?_
    refine ⟨_, rfl, (by show 2 ≤ sizeLine; decide), fun t3 n3 => ⟨t3, _, rfl, .inr (SqT.of upd_same), rfl, rfl, _, rfl, ?_⟩⟩
    have s3 : Same H (upd H2 t3 (.tup [.str "empty", .str "some"])) := Same.trans s2 (same_new n3)
    generalize upd H2 t3 (.tup [.str "empty", .str "some"]) = H3 at s3 ⊢
    have X3 := hX.same s3
    clear eo1 hh1 hr1 hp1 X2
    obtain ⟨h, r, vs, eo1, hh1, hr1, hp1, _⟩ := id X3.ex
    rw [show (if false = true then !inV (V.str t) [V.str "empty", V.str "some"] else inV (V.str t) [V.str "empty", V.str "some"]) = decide (t = "empty" ∨ t = "some") from in2 ..]
    by_cases h3 : t = "empty" ∨ t = "some"
    · rw [decide_eq_true h3]
      rw [if_pos h3] at k
      refine iteT ⟨_, rfl, o, T.C, dx, _, _, rfl, eo1, T.cl, T.nH, xf_h .., h, _, rfl, .inr (SqT.of hh1), _, _, rfl, rfl, _, rfl, rfl, rfl, ?_⟩
      rw [dS, dB, ivs_len, pos_dec]
      exact k H3 s3
    rw [decide_eq_false h3]
    rw [if_neg h3] at k
    refine iteF ?_
    refine ⟨_, rfl, o, T.C, dx, _, _, rfl, eo1, T.cl, T.nH, xf_h .., h, _, rfl, .inr (SqT.of hh1), _, rfl, o, T.C, dx, _, _, rfl, eo1, T.cl, T.nSz, xf_sz .., _, _, rfl, rfl, _, rfl, rfl, rfl, ?_⟩
    rw [dS, dB, ivs_len, lt_dec]
    exact k H3 s3
/-! ### cut_off -/
/-- not too much -/
structure Fit (sz : Nat) (held : List Int) (x : RP) : Prop where
  s1 : 1 ≤ sz
  s2 : sz ≤ 1000
  h : held.length ≤ sz
  r : x.rest.length ≤ 3000000
  p : x.pieces.length ≤ 8000000
def spXC (C : Addr) : Sp := fun vs H Q _ => ∃ (o dx ro eo p : Addr) (ak sz : Nat) (held : List Int) (told : Bool) (x : RP) (st : Bool), vs = [.ref o] ∧ ExAt C H o dx ro eo p ak sz held told x st ∧ Fit sz held x ∧
  ∀ H', Off2 o p H H' → ExAt C H' o dx ro eo p ak sz held told (perfM sz held "cut" x) st → Q .non H'
theorem scXC : FnScope ["self", "end", "start"] ["self"] (defScope sXC) := ⟨rfl, rfl, rfl, by decide +kernel, rfl, by decide +kernel, by decide +kernel⟩
theorem cutN_succ (sz : Nat) (xs : List Int) (i : Nat) : cutN sz xs (i + 1) = cutN sz xs i ++ [(xs.drop (i * sz)).take sz] := by
  unfold cutN
  rw [List.range_succ, List.map_append]
  rfl
theorem ok_xc (T : TxX K mg) : FnOk P w K mg base CX0 1 T.co.f T.co.fd ["self"] (spXC T.C) := by
  refine T.co.F.ok scXC (fun vs H Q E h => ?_) (fun cdv A outer s H vs Q E hr h => ?_)
  · obtain ⟨o, dx, ro, eo, p, ak, sz, held, told, x, st, rfl, _⟩ := h
    rfl
  · obtain ⟨o, dx, ro, eo, p, ak, sz, held, told, x, st, rfl, hX, hF, k⟩ := h
    refine ⟨_, pss_cons (ps_set (i := 1) scXC.nd rfl (.inl rfl) (pe_op op_mul (pe_op op_fdiv (pe_callB call_len_seq (by rfl) T.len PySem.boot_len (pa_cons (pe_fld (pv 0) rfl) pa_nil)) (pe_fld (pv 0) rfl)) (pe_fld (pv 0) rfl)))
      (pss_cons (ps_for PassesOwn.never rfl (pi_range3 rfl T.range (pa_cons pe_int (pa_cons (pv 1) (pa_cons (pe_fld (pv 0) rfl) pa_nil)))) (pg_name (i := 2) scXC.nd rfl (Or.inl rfl))
        (pss_one (ps_expr (pe_bm PySem.F.plainAttrs_list PySem.F.slot_list_append PySem.F.type_list_append mt_append (pe_fld (pv 0) rfl) (pa_cons (pe_slice sl_tupH (pe_fld (pv 0) rfl) (po_some (pv 2)) (po_some (pe_op op_add (pv 2) (pe_fld (pv 0) rfl)))) pa_nil)))))
      (pss_one (ps_fld (pv 0) (pe_slice sl_tupH (pe_fld (pv 0) rfl) (po_some (pv 1)) po_none) rfl))), ?_⟩
    obtain ⟨h0, r0, vs0, e0, hh0, hr0, hp0, hP0⟩ := id hX.ex
    have s1 := hF.s1
    have s2 := hF.s2
    have s3 := hF.r
    have s4 := hF.p
    refine ⟨_, rfl, o, T.C, dx, _, _, rfl, e0, T.cl, T.nR, xf_r .., r0, _, rfl, .inr (SqT.of hr0), _, rfl, o, T.C, dx, _, _, rfl, e0, T.cl, T.nSz, xf_sz .., _, _, rfl, rfl, ⟨by omega, by omega⟩, _, rfl, o, T.C, dx, _, _, rfl, e0, T.cl, T.nSz, xf_sz .., _, _, rfl, rfl, .inr ⟨by omega, by omega⟩, ?_⟩
    have eq : ((ivs x.rest).length : Int) / (sz : Int) * (sz : Int) = ((x.rest.length / sz * sz : Nat) : Int) := by
      rw [ivs_len, Int.natCast_mul, Int.natCast_ediv]
    simp only [eq]
    have le : x.rest.length / sz * sz ≤ x.rest.length := Nat.div_mul_le_self _ _
    generalize hq : x.rest.length / sz = q at le ⊢
    refine ⟨_, rfl, _, rfl, o, T.C, dx, _, _, rfl, e0, T.cl, T.nSz, xf_sz .., _, _, _, q, rfl, rgC_up s1 s2 (by omega), ?_⟩
    refine for_rangeC (lo := 0) (c := (sz : Int)) (n := q) (fun i σ H' => ∃ v2, σ = [some (.ref o), some (.int ((q * sz : Nat) : Int)), v2] ∧ Off2 o p H H' ∧ ExAt T.C H' o dx ro eo p ak sz held told ⟨x.rest, x.pieces ++ cutN sz x.rest i⟩ st) ⟨none, rfl, Off2.refl, ?_⟩ ?_ ?_
    · refine ⟨h0, r0, vs0, e0, hh0, hr0, hp0, ?_⟩
      rw [show x.pieces ++ cutN sz x.rest 0 = x.pieces from List.append_nil _]
      exact hP0
    · rintro i σ H' hi ⟨v2, rfl, o1, X1⟩
      obtain ⟨h1, r1, vs1, e1, hh1, hr1, hp1, hP1⟩ := id X1.ex
      have m1 : (i + 1) * sz ≤ x.rest.length := Nat.le_trans (Nat.mul_le_mul_right _ hi) le
      have m2 : (i + 1) * sz = i * sz + sz := Nat.succ_mul i sz
      refine ⟨_, rfl, o, T.C, dx, _, _, rfl, e1, T.cl, T.nP, xf_p .., .inl ⟨rfl, _, SqL.of hp1⟩, ?_⟩
      refine ⟨_, rfl, o, T.C, dx, _, _, rfl, e1, T.cl, T.nR, xf_r .., _, rfl, ((i * sz : Nat) : Int), by rw [Int.zero_add, Int.natCast_mul], _, rfl, _, rfl, o, T.C, dx, _, _, rfl, e1, T.cl, T.nSz, xf_sz .., _, _, rfl, rfl, ((i * sz + sz : Nat) : Int), by rw [Int.zero_add, Int.natCast_add, Int.natCast_mul], r1, _, rfl, hr1, fun H2 qq s2' hq2 => ?_⟩
      rw [cut_mid _ _ _ (by omega) (by rw [ivs_len]; show i * sz + sz ≤ x.rest.length; omega), show i * sz + sz - i * sz = sz by omega] at hq2
      have hp2 := s2' _ _ hp1
      have lp := hP1.len
      refine ⟨p, vs1, _, rfl, rfl, hp2, ?_, ?_⟩
      · rw [lp]
        show (x.pieces ++ cutN sz x.rest i).length < sizeLine
        rw [List.length_append, cutN, List.length_map, List.length_range]
        have : q ≤ x.rest.length := Nat.le_trans (Nat.le_mul_of_pos_right q s1) le
        exact Nat.lt_of_le_of_lt (show x.pieces.length + i ≤ 11000000 by omega) (by decide)
      have st := tup_stays (o' := .lst (vs1 ++ [.ref qq])) hp2 (by intro xs z; cases z)
      have po : o ≠ p := ne_of (s2' _ _ e1) hp2 (by intro z; cases z)
      refine ⟨_, rfl, (o1.same s2').putP, h1, r1, _, by rw [upd_ne po]; exact s2' _ _ e1, st _ _ (s2' _ _ hh1), st _ _ (s2' _ _ hr1), upd_same, ?_⟩
      rw [cutN_succ, ← List.append_assoc]
      refine Pcs.snoc ?_ ((hP1.mono fun _ _ z => s2' _ _ z).mono st)
      rw [st _ _ hq2]
      simp [ivs, List.map_take, List.map_drop]
    · rintro σ H' ⟨v2, rfl, o1, X1⟩
      obtain ⟨h1, r1, vs1, e1, hh1, hr1, hp1, hP1⟩ := id X1.ex
      refine ⟨_, rfl, o, T.C, dx, _, _, rfl, e1, T.cl, T.nR, xf_r .., _, rfl, ((q * sz : Nat) : Int), rfl, r1, _, rfl, hr1, fun H2 r2 s2' hq2 => ?_⟩
      rw [cut_from] at hq2
      refine ⟨_, rfl, o, T.C, dx, _, rfl, s2' _ _ e1, T.cl, T.nR, by rw [xf_len]; decide, ?_⟩
      rw [put_r]
      have st := tup_stays (o' := .ins T.C dx (xf ro eo ak sz h1 told r2 p st)) (s2' _ _ e1) (by intro xs z; cases z)
      have po : p ≠ o := ne_of hp1 e1 (by intro z; cases z)
      refine k _ (o1.same s2').putO ⟨h1, r2, vs1, upd_same, st _ _ (s2' _ _ hh1), ?_, by rw [upd_ne po]; exact s2' _ _ hp1, ?_⟩
      · rw [st _ _ hq2]
        unfold perfM
        rw [if_neg (by decide +kernel), if_neg (by decide +kernel), if_pos rfl, hq]
        simp [ivs, List.map_drop]
      · unfold perfM
        rw [if_neg (by decide +kernel), if_neg (by decide +kernel), if_pos rfl, hq]
        exact (hP1.mono fun _ _ z => s2' _ _ z).mono st
end
end My

namespace My
open PySem L2 Cm LM EM
section
variable {P : Program} {w : World} {K : PySem.W.Frag} {mg : Str → Option Value} {base : Heap}
/-! ### perform -/
def spXR (C : Addr) : Sp := fun vs H Q _ => ∃ (o dx ro eo p : Addr) (ak sz : Nat) (held : List Int) (told : Bool) (x : RP) (st : Bool) (s : Str), vs = [.ref o, .str s] ∧ ExAt C H o dx ro eo p ak sz held told x st ∧ Fit sz held x ∧
  ∀ H', Off2 o p H H' → ExAt C H' o dx ro eo p ak sz held told (perfM sz held s x) st → Q .non H'
theorem scXR : FnScope ["self", "step"] ["self", "step"] (defScope sXR) := ⟨rfl, rfl, rfl, by decide +kernel, rfl, by decide +kernel, by decide +kernel⟩
theorem ok_xr (T : TxX K mg) : FnOk P w K mg base CX0 2 T.pf.f T.pf.fd ["self", "step"] (spXR T.C) := by
  have GC : FnOk P w K mg base CX0 1 T.co.f T.co.fd ["self"] (spXC T.C) := ok_xc T
  refine T.pf.F.ok scXR (fun vs H Q E h => ?_) (fun cdv A outer s H vs Q E hr h => ?_)
  · obtain ⟨o, dx, ro, eo, p, ak, sz, held, told, x, st, s, rfl, _⟩ := h
    rfl
  · obtain ⟨o, dx, ro, eo, p, ak, sz, held, told, x, st, s, rfl, hX, hF, k⟩ := h
    refine ⟨_, pss_one (ps_if (pt_cmpR op_eq (pv 1) pe_str (nomark _)) (pss_one (ps_fld (pv 0) (pe_op op_catH (pe_fld (pv 0) rfl) (pe_fld (pv 0) rfl)) rfl))
      (pss_one (ps_if (pt_cmpR op_eq (pv 1) pe_str (nomark _)) (pss_one (ps_expr (pe_bm PySem.F.plainAttrs_list PySem.F.slot_list_append PySem.F.type_list_append mt_append (pe_fld (pv 0) rfl) (pa_cons (pe_fld (pv 0) rfl) pa_nil))))
      (pss_one (ps_if (pt_cmpR op_eq (pv 1) pe_str (nomark _)) (pss_one (ps_expr (pe_meth0 (pv 0) T.cl T.co.m GC hr T.co.b .nil pass0)))
      (pss_one (ps_if (pt_cmpR op_eq (pv 1) pe_str (nomark _)) (pss_cons (ps_expr (pe_bm PySem.F.plainAttrs_list PySem.F.slot_list_append PySem.F.type_list_append mt_append (pe_fld (pv 0) rfl) (pa_cons (pe_fld (pv 0) rfl) pa_nil))) (pss_one (ps_fld (pv 0) (pe_tup pa_nil) rfl))) pss_nil))))))), ?_⟩
    obtain ⟨h0, r0, vs0, e0, hh0, hr0, hp0, hP0⟩ := id hX.ex
    have s1 := hF.s1
    have s2 := hF.s2
    have s3 := hF.r
    have s4 := hF.p
    have s5 := hF.h
    have po : p ≠ o := ne_of hp0 e0 (by intro z; cases z)
    have lp := hP0.len
    refine ⟨_, rfl, rfl, _, rfl, ?_⟩
    rw [dS]
    by_cases h1 : s = "add"
    · rw [decide_eq_true h1]
      refine iteT ?_
      unfold perfM at k
      rw [if_pos h1] at k
      refine ⟨_, rfl, o, T.C, dx, _, _, rfl, e0, T.cl, T.nR, xf_r .., _, rfl, o, T.C, dx, _, _, rfl, e0, T.cl, T.nH, xf_h .., r0, h0, _, _, rfl, rfl, hr0, hh0, ?_, fun H2 q s2' hq => ?_⟩
      · rw [ivs_len, ivs_len]
        exact Nat.le_trans (show x.rest.length + held.length ≤ 4000000 by omega) (by decide)
      refine ⟨_, rfl, o, T.C, dx, _, rfl, s2' _ _ e0, T.cl, T.nR, by rw [xf_len]; decide, ?_⟩
      rw [put_r]
      have st' := tup_stays (o' := .ins T.C dx (xf ro eo ak sz h0 told q p st)) (s2' _ _ e0) (by intro xs z; cases z)
      refine k _ ((Off2.refl).same s2').putO ⟨h0, q, vs0, upd_same, st' _ _ (s2' _ _ hh0), ?_, by rw [upd_ne po]; exact s2' _ _ hp0, (hP0.mono fun _ _ z => s2' _ _ z).mono st'⟩
      rw [st' _ _ hq]
      simp [ivs]
    rw [decide_eq_false h1]
    refine iteF ⟨_, rfl, rfl, _, rfl, ?_⟩
    rw [dS]
    by_cases h2 : s = "hand"
    · rw [decide_eq_true h2]
      refine iteT ?_
      unfold perfM at k
      rw [if_neg h1, if_pos h2] at k
      refine ⟨_, rfl, o, T.C, dx, _, _, rfl, e0, T.cl, T.nP, xf_p .., .inl ⟨rfl, _, SqL.of hp0⟩, _, rfl, o, T.C, dx, _, _, rfl, e0, T.cl, T.nH, xf_h .., p, vs0, _, rfl, rfl, hp0, ?_, ?_⟩
      · rw [lp]
        exact Nat.lt_of_le_of_lt s4 (by decide)
      have st' := tup_stays (o' := .lst (vs0 ++ [.ref h0])) hp0 (by intro xs z; cases z)
      exact k _ Off2.refl.putP ⟨h0, r0, _, by rw [upd_ne po.symm]; exact e0, st' _ _ hh0, st' _ _ hr0, upd_same, Pcs.snoc (st' _ _ hh0) (hP0.mono st')⟩
    rw [decide_eq_false h2]
    refine iteF ⟨_, rfl, rfl, _, rfl, ?_⟩
    rw [dS]
    by_cases h3 : s = "cut"
    · rw [decide_eq_true h3]
      refine iteT ?_
      rw [h3] at k
      exact ⟨_, rfl, o, dx, _, rfl, e0, (xf_noA ..).2.2.2.2.1, o, dx, ro, eo, p, ak, sz, held, told, x, st, rfl, hX, hF, k⟩
    rw [decide_eq_false h3]
    refine iteF ⟨_, rfl, rfl, _, rfl, ?_⟩
    rw [dS]
    by_cases h4 : s = "flush"
    · rw [decide_eq_true h4]
      refine iteT ?_
      unfold perfM at k
      rw [if_neg h1, if_neg h2, if_neg h3, if_pos h4] at k
      refine ⟨_, rfl, o, T.C, dx, _, _, rfl, e0, T.cl, T.nP, xf_p .., .inl ⟨rfl, _, SqL.of hp0⟩, _, rfl, o, T.C, dx, _, _, rfl, e0, T.cl, T.nR, xf_r .., p, vs0, _, rfl, rfl, hp0, ?_, ?_⟩
      · rw [lp]
        exact Nat.lt_of_le_of_lt s4 (by decide)
      have st1 := tup_stays (o' := .lst (vs0 ++ [.ref r0])) hp0 (by intro xs z; cases z)
      refine ⟨Nat.zero_le _, fun q nq => ?_⟩
      have e1 : (upd (upd H p (.lst (vs0 ++ [.ref r0]))) q (.tup [])) o = some (.ins T.C dx (xf ro eo ak sz h0 told r0 p st)) := same_new nq _ _ (by rw [upd_ne po.symm]; exact e0)
      refine ⟨_, rfl, o, T.C, dx, _, rfl, e1, T.cl, T.nR, by rw [xf_len]; decide, ?_⟩
      rw [put_r]
      have st2 := tup_stays (o' := .ins T.C dx (xf ro eo ak sz h0 told q p st)) e1 (by intro xs z; cases z)
      have f : ∀ (a : Addr) (xs : List V), H a = some (.tup xs) → (upd (upd (upd H p (.lst (vs0 ++ [.ref r0]))) q (.tup [])) o (.ins T.C dx (xf ro eo ak sz h0 told q p st))) a = some (.tup xs) := fun a xs z => st2 _ _ (same_new nq _ _ (st1 _ _ z))
      refine k _ ((Off2.refl.putP).same (same_new nq)).putO ⟨h0, q, _, upd_same, f _ _ hh0, st2 _ _ upd_same, ?_, Pcs.snoc (f _ _ hr0) (hP0.mono f)⟩
      rw [upd_ne po]
      exact same_new nq _ _ upd_same
    rw [decide_eq_false h4]
    unfold perfM at k
    rw [if_neg h1, if_neg h2, if_neg h3, if_neg h4] at k
    exact iteF (k H Off2.refl hX)
/-! ### finish -/
theorem Off2.ts {C : Addr} {H H' : Hp} {o dx ro eo p : Addr} {ak sz : Nat} {held : List Int} {told : Bool} {x : RP} {st : Bool} (a : Off2 o p H H') (h : ExAt C H o dx ro eo p ak sz held told x st) : TS H H' := fun q xs e => by
  obtain ⟨h0, r0, vs0, e0, _, _, hp0, _⟩ := h.ex
  exact a _ _ (ne_of e e0 (by intro z; cases z)) (ne_of e hp0 (by intro z; cases z)) e
/-- a row of orders stands -/
def OrdT (H : Hp) (p : Addr) (os : List (Str × Str)) : Prop := ∃ xs, H p = some (.tup xs) ∧ Prs H xs os
theorem OrdT.ts {H H' : Hp} {p : Addr} {os : List (Str × Str)} (s : TS H H') (h : OrdT H p os) : OrdT H' p os := let ⟨xs, e, q⟩ := h; ⟨xs, s _ _ e, q.mono s⟩
theorem Prs.get {H : Hp} : ∀ {xs os} {i : Nat} {y : V}, Prs H xs os → xs[i]? = some y → ∃ (q : Addr) (o : Str × Str), os[i]? = some o ∧ y = .ref q ∧ H q = some (.tup [.str o.1, .str o.2])
  | _, _, i, y, .nil, h => by simp at h
  | _, _, 0, y, .cons h _, e => ⟨_, _, rfl, (Option.some.inj e).symm, h⟩
  | _, _, i + 1, y, .cons _ t, e => t.get (i := i) e
theorem endW_app (sz : Nat) (held : List Int) (told : Bool) : ∀ (a b : List (Str × Str)) (x : RP), endW sz held told (a ++ b) x = endW sz held told b (endW sz held told a x)
  | [], _, _ => rfl
  | (t, s) :: r, b, x => endW_app sz held told r b _
/-- enough room for a round and an ending -/
structure FitK (sz : Nat) (held : List Int) (k c : Nat) (x : RP) : Prop where
  s1 : 1 ≤ sz
  s2 : sz ≤ 1000
  h : held.length ≤ sz
  hk : k ≤ 2500
  hc : c ≤ 7900000
  f : Few sz k c x
theorem FitK.fit {sz : Nat} {held : List Int} {k c : Nat} {x : RP} (h : FitK sz held k c x) : Fit sz held x := by
  refine ⟨h.s1, h.s2, h.h, Nat.le_trans h.f.1 ?_, Nat.le_trans h.f.2 (Nat.le_trans h.hc (by decide))⟩
  exact Nat.le_trans (Nat.mul_le_mul h.hk h.s2) (by decide)
def spXF (C : Addr) : Sp := fun vs H Q _ => ∃ (o dx ro eo p : Addr) (ak sz : Nat) (held : List Int) (told : Bool) (x : RP) (st : Bool) (os : List (Str × Str)) (k c : Nat), vs = [.ref o] ∧ ExAt C H o dx ro eo p ak sz held told x st ∧ OrdT H eo os ∧ os.length ≤ 6 ∧ FitK sz held k c x ∧ k ≤ 2400 ∧ c ≤ 7800000 ∧
  ∀ H', Off2 o p H H' → ExAt C H' o dx ro eo p ak sz held told (endW sz held told os x) true → Q .non H'
theorem scXF : FnScope ["self", "test", "step"] ["self"] (defScope sXF) := ⟨rfl, rfl, rfl, by decide +kernel, rfl, by decide +kernel, by decide +kernel⟩
theorem ok_xfin (T : TxX K mg) : FnOk P w K mg base CX0 3 T.fi.f T.fi.fd ["self"] (spXF T.C) := by
  have GP : FnOk P w K mg base CX0 1 T.ps.f T.ps.fd ["self", "test"] (spXP T.C) := ok_xp T
  have GR : FnOk P w K mg base CX0 2 T.pf.f T.pf.fd ["self", "step"] (spXR T.C) := ok_xr T
  refine T.fi.F.ok scXF (fun vs H Q E h => ?_) (fun cdv A outer s H vs Q E hr h => ?_)
  · obtain ⟨o, dx, ro, eo, p, ak, sz, held, told, x, st, os, k, c, rfl, _⟩ := h
    rfl
  · obtain ⟨o, dx, ro, eo, p, ak, sz, held, told, x, st, os, kk, cc, rfl, hX, hO, hl, hF, hk, hc, k⟩ := h
    have hr1 : Room 1 _ := hr.mono (by decide)
    refine ⟨_, pss_cons (ps_for PassesOwn.never rfl (pi_tup (pe_fld (pv 0) rfl)) (pg_tup rfl (pgs_cons (pg_name (i := 1) scXF.nd rfl (.inl rfl)) (pgs_cons (pg_name (i := 2) scXF.nd rfl (.inl rfl)) pgs_nil)))
        (pss_one (ps_if (pt_val (pe_meth (pv 0) T.cl T.ps.m GP hr1 T.ps.b .nil pass0 (pa_cons (pv 1) pa_nil))) (pss_one (ps_expr (pe_meth (pv 0) T.cl T.pf.m GR hr T.pf.b .nil pass0 (pa_cons (pv 2) pa_nil)))) pss_nil)))
      (pss_one (ps_fld (pv 0) pe_bl rfl)), ?_⟩
    obtain ⟨h0, r0, vs0, e0, _⟩ := id hX.ex
    obtain ⟨xs, hxs, hPr⟩ := id hO
    have lx := hPr.len
    refine ⟨_, rfl, o, T.C, dx, _, _, rfl, e0, T.cl, T.nEo, xf_eo .., eo, rfl, ⟨_, SqT.of hxs⟩, ?_⟩
    refine for_tup (K := K) (a := eo) (xs := xs) (fun i σ H' => ∃ v1 v2, σ = [some (.ref o), v1, v2] ∧ Off2 o p H H' ∧ ExAt T.C H' o dx ro eo p ak sz held told (endW sz held told (os.take i) x) st) ⟨none, none, rfl, Off2.refl, hX⟩ (fun i σ H' _ ⟨_, _, _, o1, _⟩ => SqT.of (o1.ts hX _ _ hxs)) ?_ ?_
    · rintro i y σ H' hy ⟨v1, v2, rfl, o1, X1⟩
      obtain ⟨q, od, hod, rfl, hq⟩ := hPr.get hy
      have hq1 := o1.ts hX _ _ hq
      have li : i < os.length := lt_of_get hod
      refine ⟨q, _, rfl, SqT.of hq1, rfl, _, _, rfl, _, _, rfl, rfl, ?_⟩
      obtain ⟨h1, r1, vs1, e1, _⟩ := id X1.ex
      refine ⟨_, rfl, o, dx, _, rfl, e1, (xf_noA ..).2.2.1, _, rfl, o, dx, ro, eo, p, ak, sz, held, told, _, st, od.1, rfl, X1, fun H2 s2 => ⟨_, rfl, ?_⟩⟩
      have X2 := X1.same s2
      have tk : os.take (i + 1) = os.take i ++ [od] := take_snoc hod
      have ef : endW sz held told (os.take (i + 1)) x = (if passM sz held told od.1 (endW sz held told (os.take i) x).rest = true then perfM sz held od.2 (endW sz held told (os.take i) x) else endW sz held told (os.take i) x) := by
        rw [tk, endW_app]
        rfl
      have fe := few_end (told := told) hF.s1 hF.h (os.take i) kk cc x hF.f
      have lt : (os.take i).length ≤ 6 := by rw [List.length_take]; omega
      have fk : FitK sz held (kk + 6) (cc + 6 * (kk + 6)) (endW sz held told (os.take i) x) := ⟨hF.s1, hF.s2, hF.h, by omega, by omega, fe.mono (by omega) (Nat.add_le_add_left (Nat.mul_le_mul lt (by omega)) _)⟩
      obtain ⟨h2, r2, vs2, e2, _⟩ := id X2.ex
      refine ite2 (fun c => ?_) (fun c => ?_)
      · rw [if_pos c] at ef
        refine ⟨_, rfl, o, dx, _, rfl, e2, (xf_noA ..).2.2.2.1, _, rfl, o, dx, ro, eo, p, ak, sz, held, told, _, st, od.2, rfl, X2, fk.fit, fun H3 o3 X3 => ?_⟩
        exact ⟨_, _, rfl, (o1.same s2).trans o3, by rw [ef]; exact X3⟩
      · rw [if_neg c] at ef
        exact ⟨_, _, rfl, o1.same s2, by rw [ef]; exact X2⟩
    · rintro σ H' ⟨v1, v2, rfl, o1, X1⟩
      rw [lx, List.take_length] at X1
      obtain ⟨h1, r1, vs1, e1, hh1, hr1', hp1, hP1⟩ := id X1.ex
      refine ⟨_, rfl, o, T.C, dx, _, rfl, e1, T.cl, T.nSt, by rw [xf_len]; decide, ?_⟩
      rw [put_st]
      have st' := tup_stays (o' := .ins T.C dx (xf ro eo ak sz h1 told r1 p true)) e1 (by intro xs z; cases z)
      have po : p ≠ o := ne_of hp1 e1 (by intro z; cases z)
      exact k _ o1.putO ⟨h1, r1, vs1, upd_same, st' _ _ hh1, st' _ _ hr1', by rw [upd_ne po]; exact hp1, hP1.mono st'⟩
/-! ### answer -/
/-- not stopped and not left so far -/
def goes (sz : Nat) (held : List Int) (told : Bool) : List (Str × Str) → RP → Bool
  | [], _ => true
  | (t, s) :: r, x => if passM sz held told t x.rest = true then (if s = "again" then false else if s = "stop" then false else goes sz held told r (perfM sz held s x)) else goes sz held told r x
theorem runW_cons (sz : Nat) (held : List Int) (told : Bool) (t s : Str) (r : List (Str × Str)) (x : RP) : runW sz held told ((t, s) :: r) x = if passM sz held told t x.rest = true then (if s = "again" then (x, false) else if s = "stop" then (x, true) else runW sz held told r (perfM sz held s x)) else runW sz held told r x := rfl
theorem goes_cons (sz : Nat) (held : List Int) (told : Bool) (t s : Str) (r : List (Str × Str)) (x : RP) : goes sz held told ((t, s) :: r) x = if passM sz held told t x.rest = true then (if s = "again" then false else if s = "stop" then false else goes sz held told r (perfM sz held s x)) else goes sz held told r x := rfl
theorem run_goes (sz : Nat) (held : List Int) (told : Bool) : ∀ (a b : List (Str × Str)) (x : RP), goes sz held told a x = true →
    runW sz held told (a ++ b) x = runW sz held told b (runW sz held told a x).1 ∧ goes sz held told (a ++ b) x = goes sz held told b (runW sz held told a x).1 ∧ (runW sz held told a x).2 = false
  | [], _, _, _ => ⟨rfl, rfl, rfl⟩
  | (t, s) :: r, b, x, h => by
    rw [goes_cons] at h
    rw [List.cons_append, runW_cons, runW_cons, goes_cons]
    by_cases c : passM sz held told t x.rest = true
    · rw [if_pos c] at h
      rw [if_pos c, if_pos c, if_pos c]
      by_cases c1 : s = "again"
      · rw [if_pos c1] at h
        cases h
      rw [if_neg c1] at h
      rw [if_neg c1, if_neg c1, if_neg c1]
      by_cases c2 : s = "stop"
      · rw [if_pos c2] at h
        cases h
      rw [if_neg c2] at h
      rw [if_neg c2, if_neg c2, if_neg c2]
      exact run_goes sz held told r b _ h
    · rw [if_neg c] at h
      rw [if_neg c, if_neg c, if_neg c]
      exact run_goes sz held told r b _ h
def spXA (C : Addr) : Sp := fun vs H Q _ => ∃ (o dx ro eo p h : Addr) (ak sz : Nat) (held0 held : List Int) (told0 told : Bool) (x : RP) (rs es : List (Str × Str)) (k c : Nat), vs = [.ref o, .ref h, .bl told] ∧ ExAt C H o dx ro eo p ak sz held0 told0 x false ∧ H h = some (.tup (ivs held)) ∧ OrdT H ro rs ∧ OrdT H eo es ∧ rs.length ≤ 12 ∧ es.length ≤ 6 ∧ FitK sz held k c x ∧ k ≤ 2300 ∧ c ≤ 7700000 ∧
  ∀ H', Off2 o p H H' → ExAt C H' o dx ro eo p (ak + 1) sz held told (ansM sz rs es held told x).1 (ansM sz rs es held told x).2 → Q .non H'
theorem scXA : FnScope ["self", "held", "told", "test", "step"] ["self", "held", "told"] (defScope sXA) := ⟨rfl, rfl, rfl, by decide +kernel, rfl, by decide +kernel, by decide +kernel⟩
theorem ok_xa (T : TxX K mg) : FnOk P w K mg base CX0 4 T.an.f T.an.fd ["self", "held", "told"] (spXA T.C) := by
  have GP : FnOk P w K mg base CX0 1 T.ps.f T.ps.fd ["self", "test"] (spXP T.C) := ok_xp T
  have GR : FnOk P w K mg base CX0 2 T.pf.f T.pf.fd ["self", "step"] (spXR T.C) := ok_xr T
  have GF : FnOk P w K mg base CX0 3 T.fi.f T.fi.fd ["self"] (spXF T.C) := ok_xfin T
  refine T.an.F.ok scXA (fun vs H Q E h => ?_) (fun cdv A outer s H vs Q E hr h => ?_)
  · obtain ⟨o, dx, ro, eo, p, h, ak, sz, held0, held, told0, told, x, rs, es, k, c, rfl, _⟩ := h
    rfl
  · obtain ⟨o, dx, ro, eo, p, h, ak, sz, held0, held, told0, told, x, rs, es, kk, cc, rfl, hX, hh, hO, hE, l1, l2, hF, hk, hc, k⟩ := h
    have hr1 : Room 1 _ := hr.mono (by decide)
    have hr2 : Room 2 _ := hr.mono (by decide)
    refine ⟨_, pss_cons (ps_fld (pv 0) (pv 1) rfl) (pss_cons (ps_fld (pv 0) (pv 2) rfl) (pss_cons (ps_fldaug (pv 0) pe_int in_add)
      (pss_one (ps_for PassesOwn.never rfl (pi_tup (pe_fld (pv 0) rfl)) (pg_tup rfl (pgs_cons (pg_name (i := 3) scXA.nd rfl (.inl rfl)) (pgs_cons (pg_name (i := 4) scXA.nd rfl (.inl rfl)) pgs_nil)))
        (pss_one (ps_if (pt_val (pe_meth (pv 0) T.cl T.ps.m GP hr1 T.ps.b .nil pass0 (pa_cons (pv 3) pa_nil)))
          (pss_cons (ps_if (pt_cmpR op_eq (pv 4) pe_str (nomark _)) (pss_one ps_retN) pss_nil)
          (pss_cons (ps_if (pt_cmpR op_eq (pv 4) pe_str (nomark _)) (pss_cons (ps_expr (pe_meth0 (pv 0) T.cl T.fi.m GF hr T.fi.b .nil pass0)) (pss_one ps_retN)) pss_nil)
          (pss_one (ps_expr (pe_meth (pv 0) T.cl T.pf.m GR hr2 T.pf.b .nil pass0 (pa_cons (pv 4) pa_nil)))))) pss_nil)))))), ?_⟩
    obtain ⟨h0, r0, vs0, e0, hh0, hr0, hp0, hP0⟩ := id hX.ex
    refine ⟨_, rfl, _, rfl, o, T.C, dx, _, rfl, e0, T.cl, T.nH, by rw [xf_len]; decide, ?_⟩
    rw [put_h]
    refine ⟨_, rfl, _, rfl, o, T.C, dx, _, rfl, upd_same, T.cl, T.nT, by rw [xf_len]; decide, ?_⟩
    rw [put_t]
    refine ⟨_, rfl, o, T.C, dx, _, _, rfl, upd_same, T.cl, T.nA, xf_ak .., _, _, rfl, rfl, dx, _, upd_same, by rw [xf_len]; decide, ?_⟩
    rw [show V.int ((ak : Int) + 1) = V.int ((ak + 1 : Nat) : Int) from rfl, put_ak]
    have po : p ≠ o := ne_of hp0 e0 (by intro z; cases z)
    have ts0 : TS H (upd (upd (upd H o (.ins T.C dx (xf ro eo ak sz h told0 r0 p false))) o (.ins T.C dx (xf ro eo ak sz h told r0 p false))) o (.ins T.C dx (xf ro eo (ak + 1) sz h told r0 p false))) := fun q xs e => tup_stays (o := .ins T.C dx (xf ro eo ak sz h told r0 p false)) upd_same (by intro xs z; cases z) _ _ (tup_stays (o := .ins T.C dx (xf ro eo ak sz h told0 r0 p false)) upd_same (by intro xs z; cases z) _ _ (tup_stays e0 (by intro xs z; cases z) _ _ e))
    have X0 : ExAt T.C (upd (upd (upd H o (.ins T.C dx (xf ro eo ak sz h told0 r0 p false))) o (.ins T.C dx (xf ro eo ak sz h told r0 p false))) o (.ins T.C dx (xf ro eo (ak + 1) sz h told r0 p false))) o dx ro eo p (ak + 1) sz held told x false := ⟨h, r0, vs0, upd_same, ts0 _ _ hh, ts0 _ _ hr0, by rw [upd_ne po, upd_ne po, upd_ne po]; exact hp0, hP0.mono ts0⟩
    have o0 : Off2 o p H (upd (upd (upd H o (.ins T.C dx (xf ro eo ak sz h told0 r0 p false))) o (.ins T.C dx (xf ro eo ak sz h told r0 p false))) o (.ins T.C dx (xf ro eo (ak + 1) sz h told r0 p false))) := Off2.refl.putO.putO.putO
    have hO1 := hO.ts ts0
    have hE1 := hE.ts ts0
    generalize upd (upd (upd H o (.ins T.C dx (xf ro eo ak sz h told0 r0 p false))) o (.ins T.C dx (xf ro eo ak sz h told r0 p false))) o (.ins T.C dx (xf ro eo (ak + 1) sz h told r0 p false)) = H1 at X0 o0 hO1 hE1 ⊢
    clear ts0 hO hE
    obtain ⟨xs, hxs, hPr⟩ := id hO1
    have lx := hPr.len
    obtain ⟨h1, r1, vs1, e1, _⟩ := id X0.ex
    refine ⟨_, rfl, o, T.C, dx, _, _, rfl, e1, T.cl, T.nRo, xf_ro .., ro, rfl, ⟨_, SqT.of hxs⟩, ?_⟩
    refine for_tup (K := K) (a := ro) (xs := xs) (fun i σ H' => ∃ v1 v2, σ = [some (.ref o), some (.ref h), some (.bl told), v1, v2] ∧ Off2 o p H1 H' ∧ ExAt T.C H' o dx ro eo p (ak + 1) sz held told (runW sz held told (rs.take i) x).1 false ∧ goes sz held told (rs.take i) x = true) ⟨none, none, rfl, Off2.refl, X0, rfl⟩ (fun i σ H' _ ⟨_, _, _, o1, _⟩ => SqT.of (o1.ts X0 _ _ hxs)) ?_ ?_
    · rintro i y σ H' hy ⟨v1, v2, rfl, o1, X1, g1⟩
      obtain ⟨q, od, hod, rfl, hq⟩ := hPr.get hy
      have hq1 := o1.ts X0 _ _ hq
      have li : i < rs.length := lt_of_get hod
      refine ⟨q, _, rfl, SqT.of hq1, rfl, _, _, rfl, _, _, rfl, rfl, ?_⟩
      obtain ⟨h1, r1, vs1, e1, _⟩ := id X1.ex
      refine ⟨_, rfl, o, dx, _, rfl, e1, (xf_noA ..).2.2.1, _, rfl, o, dx, ro, eo, p, ak + 1, sz, held, told, _, false, od.1, rfl, X1, fun H2 s2 => ⟨_, rfl, ?_⟩⟩
      have X2 := X1.same s2
      have tk : rs.take (i + 1) = rs.take i ++ [od] := take_snoc hod
      have rg := run_goes sz held told (rs.take i) [od] x g1
      rw [← tk] at rg
      have rw1 : rs = rs.take i ++ (od :: rs.drop (i + 1)) := by
        have e := List.take_append_drop i rs
        rw [List.drop_eq_getElem_cons li] at e
        have : rs[i] = od := (List.getElem?_eq_some_iff.mp hod).2
        rw [this] at e
        exact e.symm
      have rgs := (run_goes sz held told (rs.take i) (od :: rs.drop (i + 1)) x g1).1
      rw [← rw1] at rgs
      have fe := few_run (told := told) hF.s1 hF.h (rs.take i) kk cc x hF.f
      have lt : (rs.take i).length ≤ 12 := by rw [List.length_take]; omega
      have fk : FitK sz held (kk + 12) (cc + 12 * (kk + 12)) (runW sz held told (rs.take i) x).1 := ⟨hF.s1, hF.s2, hF.h, by omega, by omega, fe.mono (by omega) (Nat.add_le_add_left (Nat.mul_le_mul lt (by omega)) _)⟩
      obtain ⟨h2, r2, vs2, e2, _⟩ := id X2.ex
      generalize hy0 : (runW sz held told (rs.take i) x).1 = y at rg rgs fk X1 X2 ⊢
      obtain ⟨t1, s1⟩ := od
      rw [runW_cons] at rgs
      have r1e := rg.1
      have r2e := rg.2.1
      rw [runW_cons] at r1e
      rw [goes_cons] at r2e
      refine ite2 (fun c => ?_) (fun c => ?_)
      · rw [if_pos c] at rgs r1e r2e
        refine ⟨_, rfl, rfl, _, rfl, ?_⟩
        rw [dS]
        by_cases c1 : s1 = "again"
        · rw [decide_eq_true c1]
          refine iteT ?_
          rw [if_pos c1] at rgs
          refine k _ (o0.trans (o1.same s2)) ?_
          unfold ansM
          rw [rgs]
          exact X2
        rw [decide_eq_false c1]
        rw [if_neg c1] at rgs r1e r2e
        refine iteF ⟨_, rfl, rfl, _, rfl, ?_⟩
        rw [dS]
        by_cases c2 : s1 = "stop"
        · rw [decide_eq_true c2]
          refine iteT ?_
          rw [if_pos c2] at rgs
          refine ⟨_, rfl, o, dx, _, rfl, e2, (xf_noA ..).2.1, o, dx, ro, eo, p, ak + 1, sz, held, told, y, false, es, _, _, rfl, X2, hE1.ts ((o1.same s2).ts X0), l2, fk, by omega, by omega, fun H3 o3 X3 => ?_⟩
          refine k _ ((o0.trans (o1.same s2)).trans o3) ?_
          unfold ansM
          rw [rgs]
          exact X3
        rw [decide_eq_false c2]
        rw [if_neg c2] at rgs r1e r2e
        refine iteF ?_
        refine ⟨_, rfl, o, dx, _, rfl, e2, (xf_noA ..).2.2.2.1, _, rfl, o, dx, ro, eo, p, ak + 1, sz, held, told, y, false, s1, rfl, X2, fk.fit, fun H3 o3 X3 => ?_⟩
        exact ⟨_, _, rfl, (o1.same s2).trans o3, by rw [r1e]; exact X3, r2e⟩
      · rw [if_neg c] at rgs r1e r2e
        exact ⟨_, _, rfl, o1.same s2, by rw [r1e]; exact X2, r2e⟩
    · rintro σ H' ⟨v1, v2, rfl, o1, X1, g1⟩
      rw [lx, List.take_length] at X1 g1
      refine k _ (o0.trans o1) ?_
      unfold ansM
      rw [(run_goes sz held told rs [] x g1).2.2]
      exact X1
end
end My

/-! right loops: their words, and loops without a word -/
namespace LM
open PySem L2 TL
theorem part_back {x y : Str} (h : ((Txt.partition x y).2.1.length != 0) = true) : x = (Txt.partition x y).1 ++ y ++ (Txt.partition x y).2.2 := by
  rcases PyProof.Rows.partition_whole x y with ⟨e, _⟩ | ⟨i, e, hi, _⟩
  · rw [e] at h
    exact absurd (show ((Str.empty).length != 0) = true from h) (by decide)
  · rw [e]
    refine ext_tl ?_
    rw [tl_append, tl_append, tl_strSub, tl_strSub_end, List.drop_zero, Nat.sub_zero]
    by_cases hy : tl y = []
    · have : y.length = 0 := by rw [len_tl, hy]; rfl
      rw [hy, this, List.append_nil, Nat.add_zero, List.take_append_drop]
    · have hp := (at_iff hy i).mp hi
      have e2 : ((tl x).drop i).take (tl y).length = tl y := eq_of_beq hp
      have e3 : tl y ++ (tl x).drop (i + y.length) = (tl x).drop i := by
        rw [len_tl y, ← drop_two]
        have := List.take_append_drop (tl y).length ((tl x).drop i)
        rw [e2] at this
        exact this
      rw [List.append_assoc, e3, List.take_append_drop]
theorem word_wd {w : Str} {ss : List Str} (h : isWord w ss = true) : Wd ss w := by
  unfold isWord at h
  cases hc : ((Txt.partition w ":").2.1.length != 0) with
  | true =>
    rw [if_pos hc] at h
    have h2 := Bool.and_eq_true_iff.mp h
    exact ⟨_, of_decide_eq_true h2.2, .inr ⟨_, of_decide_eq_true h2.1, part_back hc⟩⟩
  | false =>
    rw [if_neg (by rw [hc]; exact Bool.false_ne_true)] at h
    exact ⟨w, of_decide_eq_true h, .inl rfl⟩
/-- free and short -/
def FS (w : Str) : Prop := Fre w ∧ w.length ≤ 11
theorem wd_fs {w : Str} (h : Wd rsteps w) : FS w := by
  have := wd_ok w h.mem
  unfold wdOk at this
  simp only [Bool.and_eq_true, decide_eq_true_eq] at this
  exact ⟨⟨this.2.1, this.2.2.1⟩, this.2.2.2⟩
theorem e_r : ∀ s ∈ esteps, s ∈ rsteps := by decide +kernel
theorem ask_fs : FS "ask" := ⟨⟨by decide +kernel, by decide +kernel⟩, by decide +kernel⟩
theorem areWords_iff {ws ss : List Str} : areWords ws ss = true ↔ ∀ w ∈ ws, isWord w ss = true := List.all_eq_true
theorem isRound_iff {B : List Str} : isRound B = true ↔ ∃ r, B = ("ask" : Str) :: r ∧ B.length ≤ 12 ∧ (B.filter isAdd).length ≤ 1 ∧ ∀ w ∈ r, isWord w rsteps = true := by
  unfold isRound
  simp only [Bool.and_eq_true, decide_eq_true_eq, areWords_iff]
  constructor
  · rintro ⟨h1, h2, h3, h4⟩
    cases B with
    | nil => cases h1
    | cons x r =>
      have : x = "ask" := Option.some.inj h1
      subst this
      exact ⟨r, rfl, h2, h3, h4⟩
  · rintro ⟨r, rfl, h2, h3, h4⟩
    exact ⟨rfl, h2, h3, h4⟩
theorem isEnding_iff {E : List Str} : isEnding E = true ↔ E.length ≤ 6 ∧ ∀ w ∈ E, isWord w esteps = true := by
  unfold isEnding
  simp only [Bool.and_eq_true, decide_eq_true_eq, areWords_iff]
theorem round_fs {B : List Str} (h : isRound B = true) : ∀ w ∈ B, FS w := by
  obtain ⟨r, rfl, _, _, h4⟩ := isRound_iff.mp h
  intro w hw
  rcases List.mem_cons.mp hw with rfl | hw
  · exact ask_fs
  · exact wd_fs (word_wd (h4 w hw))
theorem ending_fs {E : List Str} (h : isEnding E = true) : ∀ w ∈ E, FS w := fun w hw => wd_fs ((word_wd ((isEnding_iff.mp h).2 w hw)).mono e_r)
theorem round_ne {B : List Str} (h : isRound B = true) : B ≠ [] := by
  obtain ⟨r, rfl, _⟩ := isRound_iff.mp h
  simp
theorem round_sht {B : List Str} (h : isRound B = true) : Sht 12 B := ⟨fun w hw => (round_fs h w hw).2, let ⟨_, _, h2, _⟩ := isRound_iff.mp h; h2⟩
theorem ending_sht {E : List Str} (h : isEnding E = true) : Sht 6 E := ⟨fun w hw => (ending_fs h w hw).2, (isEnding_iff.mp h).1⟩
theorem Sht.mono {n m : Nat} {B : List Str} (h : Sht n B) (l : n ≤ m) : Sht m B := ⟨h.1, Nat.le_trans h.2 l⟩
theorem text_words {B E : List Str} (hB : isRound B = true) (hE : isEnding E = true) : wordsR (textOf B E) = B ∧ wordsE (textOf B E) = E := words_text (round_ne hB) (fun w hw => (round_fs hB w hw).1) (fun w hw => (ending_fs hE w hw).1)
theorem text_good {B E : List Str} (hB : isRound B = true) (hE : isEnding E = true) : goodText (textOf B E) = true := by
  have := text_words hB hE
  unfold goodText
  rw [this.1, this.2, hB, hE]
  rfl
theorem text_len {B E : List Str} (hB : isRound B = true) (hE : isEnding E = true) : (textOf B E).length ≤ 300 := by
  have h1 := (round_sht hB).join
  have h2 := (ending_sht hE).join
  unfold textOf
  split
  · omega
  · rw [strLen_append, strLen_append]
    have : (" | " : Str).length = 3 := by decide +kernel
    omega
/-- without the word at i -/
theorem round_erase {B : List Str} {i : Nat} (hB : isRound B = true) (hi : 1 ≤ i) : isRound (B.eraseIdx i) = true := by
  obtain ⟨r, rfl, h2, h3, h4⟩ := isRound_iff.mp hB
  obtain ⟨k, rfl⟩ : ∃ k, i = k + 1 := ⟨i - 1, by omega⟩
  have sub : (("ask" : Str) :: r.eraseIdx k).Sublist (("ask" : Str) :: r) := (List.eraseIdx_sublist r k).cons_cons _
  refine isRound_iff.mpr ⟨r.eraseIdx k, rfl, Nat.le_trans sub.length_le h2, Nat.le_trans (sub.filter isAdd).length_le h3, fun w hw => h4 w ((List.eraseIdx_sublist r k).subset hw)⟩
theorem ending_erase {E : List Str} {i : Nat} (hE : isEnding E = true) : isEnding (E.eraseIdx i) = true := by
  have h := isEnding_iff.mp hE
  exact isEnding_iff.mpr ⟨Nat.le_trans (List.eraseIdx_sublist E i).length_le h.1, fun w hw => h.2 w ((List.eraseIdx_sublist E i).subset hw)⟩
theorem good_iff {t : Str} : goodText t = true ↔ isRound (wordsR t) = true ∧ isEnding (wordsE t) = true := Bool.and_eq_true_iff
end LM

/-! loops that are drawn -/
namespace LM
open PySem L2 TL
def sBar : Str := " | "
def sSp : Str := " "
def samples : List Str := ["ask empty:stop hand", "ask hand short:stop", "ask add cut told:stop | rest:flush", "ask told:stop hand", "ask add empty:stop | rest:flush", "ask add cut empty:stop | flush", "ask some:hand told:stop", "ask empty:stop add cut | rest:flush", "ask empty:again hand told:stop", "ask add full:flush told:stop"]
def sampP (s : Str) : List Str := Txt.split s " | "
def sampB (s : Str) : List Str := Txt.split ((sampP s).getD 0 Str.empty) " "
def sampE (s : Str) : List Str := if (sampP s).length > 1 then Txt.split ((sampP s).getD 1 Str.empty) " " else []
def sampOk (s : Str) : Bool := isRound (sampB s) && (isEnding (sampE s) && (decide ((sampB s).length ≤ 4) && (decide ((sampE s).length ≤ 1) && (decide (1 ≤ (sampP s).length) && (decide (s.length ≤ 100) && (sampP s).all fun p => decide (p.length ≤ 100))))))
theorem samp_ok : ∀ s ∈ samples, sampOk s = true := by decide +kernel
structure Samp (s : Str) : Prop where
  r : isRound (sampB s) = true
  e : isEnding (sampE s) = true
  lb : (sampB s).length ≤ 4
  le : (sampE s).length ≤ 1
  l1 : 1 ≤ (sampP s).length
  ls : s.length ≤ 100
  lp : ∀ p ∈ sampP s, p.length ≤ 100
theorem samp_of {s : Str} (h : s ∈ samples) : Samp s := by
  have := samp_ok s h
  unfold sampOk at this
  simp only [Bool.and_eq_true, decide_eq_true_eq, List.all_eq_true] at this
  exact ⟨this.1, this.2.1, this.2.2.1, this.2.2.2.1, this.2.2.2.2.1, this.2.2.2.2.2.1, this.2.2.2.2.2.2⟩
/-! ### a word more -/
def plain5 : List Str := ["hand", "cut", "flush", "stop", "again"]
theorem wd_round {w : Str} (h : Wd rsteps w) : isWord w rsteps = true := by
  have := wd_ok w h.mem
  unfold wdOk at this
  exact (Bool.and_eq_true_iff.mp this).1
theorem wd_ending {w : Str} (h : Wd esteps w) : isWord w esteps = true := wd_end w h.mem
theorem wd_plain {w : Str} (h : Wd plain5 w) : isAdd w = false := wd_noadd w h.mem
theorem ask_noadd : isAdd "ask" = false := by decide +kernel
theorem ins_round {B xs : List Str} {i : Nat} (hB : isRound B = true) (hi : 1 ≤ i) (hx : ∀ x ∈ xs, isWord x rsteps = true) (hl : B.length + xs.length ≤ 12) (ha : (B.filter isAdd).length + (xs.filter isAdd).length ≤ 1) :
    isRound (B.take i ++ xs ++ B.drop i) = true := by
  obtain ⟨r, rfl, h2, h3, h4⟩ := isRound_iff.mp hB
  obtain ⟨k, rfl⟩ : ∃ k, i = k + 1 := ⟨i - 1, by omega⟩
  refine isRound_iff.mpr ⟨r.take k ++ xs ++ r.drop k, rfl, ?_, ?_, fun w hw => ?_⟩
  · rw [List.length_append, List.length_append, List.length_take, List.length_drop]
    omega
  · rw [List.filter_append, List.filter_append, List.length_append, List.length_append]
    have e : (((("ask" : Str) :: r).take (k + 1)).filter isAdd).length + (((("ask" : Str) :: r).drop (k + 1)).filter isAdd).length = ((("ask" : Str) :: r).filter isAdd).length := by
      rw [← List.length_append, ← List.filter_append, List.take_append_drop]
    omega
  · rcases List.mem_append.mp hw with hw | hw
    · rcases List.mem_append.mp hw with hw | hw
      · exact h4 w (List.mem_of_mem_take hw)
      · exact hx w hw
    · exact h4 w (List.mem_of_mem_drop hw)
theorem ask_round {ws : List Str} (h : ∀ w ∈ ws, Wd plain5 w) (hl : ws.length ≤ 11) : isRound (("ask" : Str) :: ws) = true ∧ ((("ask" : Str) :: ws).filter isAdd).length = 0 := by
  have e : ((("ask" : Str) :: ws).filter isAdd) = [] := by
    refine List.filter_eq_nil_iff.mpr fun w hw => ?_
    rcases List.mem_cons.mp hw with rfl | hw
    · rw [ask_noadd]; exact Bool.false_ne_true
    · rw [wd_plain (h w hw)]; exact Bool.false_ne_true
  refine ⟨isRound_iff.mpr ⟨ws, rfl, by rw [List.length_cons]; omega, by rw [e]; exact Nat.zero_le _, fun w hw => wd_round ((h w hw).mono (by decide +kernel))⟩, by rw [e]; rfl⟩
theorem one_filter {xs : List Str} (h : xs.length = 1) : (xs.filter isAdd).length ≤ 1 := Nat.le_trans (List.length_filter_le ..) (by omega)
theorem none_filter {xs : List Str} (h : ∀ w ∈ xs, Wd plain5 w) : (xs.filter isAdd).length = 0 := by
  rw [show xs.filter isAdd = [] from List.filter_eq_nil_iff.mpr fun w hw => by rw [wd_plain (h w hw)]; exact Bool.false_ne_true]
  rfl
theorem round_adds {B : List Str} (h : isRound B = true) : (B.filter isAdd).length ≤ 1 := let ⟨_, _, _, h3, _⟩ := isRound_iff.mp h; h3
theorem words_ending {E : List Str} (h : ∀ w ∈ E, Wd esteps w) (hl : E.length ≤ 6) : isEnding E = true := isEnding_iff.mpr ⟨hl, fun w hw => wd_ending (h w hw)⟩
/-! ### signs that are signs -/
def Asc (w : Str) : Prop := PyData.strOk w = true
theorem asc_iff {w : Str} : Asc w ↔ ∀ c ∈ tl w, c < 1114112 := by
  unfold Asc PyData.strOk
  rw [← Array.all_toList, List.all_eq_true]
  simp
theorem Asc.app {a b : Str} (ha : Asc a) (hb : Asc b) : Asc (a ++ b) := by
  rw [asc_iff] at ha hb ⊢
  rw [tl_append]
  intro c hc
  exact (List.mem_append.mp hc).elim (ha c) (hb c)
theorem asc_join {B : List Str} (h : ∀ w ∈ B, Asc w) : Asc (Txt.join " " B) := by
  rw [asc_iff, tl_joinSp]
  intro c hc
  rcases joinL_mem hc with hc | ⟨p, hp, hc⟩
  · rw [List.mem_singleton.mp hc]
    decide
  · obtain ⟨w, hw, rfl⟩ := List.mem_map.mp hp
    exact asc_iff.mp (h w hw) c hc
theorem asc_bar : Asc " | " := by unfold Asc; decide +kernel
theorem asc_text {B E : List Str} (h1 : ∀ w ∈ B, Asc w) (h2 : ∀ w ∈ E, Asc w) : Asc (textOf B E) := by
  unfold textOf
  split
  · exact asc_join h1
  · exact ((asc_join h1).app asc_bar).app (asc_join h2)
theorem wd_asc' : ∀ w ∈ allWd rsteps, PyData.strOk w = true := by decide +kernel
theorem wd_asc {w : Str} (h : Wd rsteps w) : Asc w := wd_asc' w h.mem
theorem ask_asc : Asc "ask" := by unfold Asc; decide +kernel
theorem round_asc {B : List Str} (h : isRound B = true) : ∀ w ∈ B, Asc w := by
  obtain ⟨r, rfl, _, _, h4⟩ := isRound_iff.mp h
  intro w hw
  rcases List.mem_cons.mp hw with rfl | hw
  · exact ask_asc
  · exact wd_asc (word_wd (h4 w hw))
theorem ending_asc {E : List Str} (h : isEnding E = true) : ∀ w ∈ E, Asc w := fun w hw => wd_asc ((word_wd ((isEnding_iff.mp h).2 w hw)).mono e_r)
end LM

/-! the loops that the law draws -/
namespace My
open PySem L2 Cm LM
abbrev sWords : Stmt := top 121
abbrev sLoop : Stmt := top 122
abbrev sLine : Stmt := top 123
structure TxD (K : PySem.W.Frag) (mg : Str → Option Value) where
  J : TxtJ mg
  range : mg "range" = none
  sip : Df K mg "_law_sip" sSip ["_law_jar_here", "_law_many"]
  frm : Df K mg "_law_from" sFrom ["_law_jar_here", "_law_things"]
  wds : Df K mg "_law_words" sWords ["_law_jar_here", "_law_steps", "_law_many"]
  lop : Df K mg "_law_loop" sLoop ["_law_jar_here", "_law_most"]
  lin : Df K mg "_law_line" sLine ["_law_begun", "_law_ended"]
section
variable {P : Program} {w : World} {K : PySem.W.Frag} {mg : Str → Option Value} {base : Heap}
theorem gk_sip (D : TxD K mg) : FnOk P w K mg base CX0 1 D.sip.f D.sip.fd ["_law_jar_here", "_law_many"] spSip := ok_sip D.sip.F D.J
theorem gk_from (D : TxD K mg) : FnOk P w K mg base CX0 2 D.frm.f D.frm.fd ["_law_jar_here", "_law_things"] (spFrom K) := ok_from D.frm.F D.J ⟨D.sip.g, D.sip.k⟩ D.sip.F D.sip.b
/-! ### _law_words -/
def spWords (K : PySem.W.Frag) : Sp := fun vs H Q _ => ∃ (j p : Addr) (ss : List Str) (m : Nat), vs = [.ref j, .ref p, .int m] ∧ Jar H j ∧ p ≠ j ∧ SqL K H p (svs ss) ∧ 0 < ss.length ∧ ss.length ≤ 1000 ∧ (∀ s ∈ ss, s.length ≤ 100) ∧ m ≤ 100 ∧
  ∀ (H' : Hp) (q : Addr) (ws : List Str), Off j H H' → Jar H' j → H q = none → H' q = some (.lst (svs ws)) → ws.length = m → (∀ w ∈ ws, Wd ss w) → Q (.ref q) H'
theorem scWords : FnScope ["_law_jar_here", "_law_steps", "_law_many", "_law_tests", "_law_found", "_law_turn", "_law_word_here"] ["_law_jar_here", "_law_steps", "_law_many"] (defScope sWords) := ⟨rfl, rfl, rfl, by decide +kernel, rfl, by decide +kernel, by decide +kernel⟩
/-- any answer, after some draws -/
def tAny (i : Nat) : TT := fun σ H Q => ∃ (j : Addr) (x : Str), σ[0]? = some (some (.ref j)) ∧ σ[i]? = some (some (.str x)) ∧ Jar H j ∧ ∀ (b : Bool) (H' : Hp), Off j H H' → Jar H' j → Q b H'
theorem ok_words (D : TxD K mg) : FnOk P w K mg base CX0 3 D.wds.f D.wds.fd ["_law_jar_here", "_law_steps", "_law_many"] (spWords K) := by
  have GS : FnOk P w K mg base CX0 1 D.sip.f D.sip.fd ["_law_jar_here", "_law_many"] spSip := gk_sip D
  have GF : FnOk P w K mg base CX0 2 D.frm.f D.frm.fd ["_law_jar_here", "_law_things"] (spFrom K) := gk_from D
  refine D.wds.F.ok scWords (fun vs H Q E h => ?_) (fun cdv A outer s H vs Q E hr h => ?_)
  · obtain ⟨j, p, ss, m, rfl, _⟩ := h
    rfl
  · obtain ⟨j, p, ss, m, rfl, hJ, npj, hp, l0, l1, lw, hm, k⟩ := h
    have hr1 : Room 1 _ := hr.mono (by decide)
    refine ⟨_, pss_cons (ps_set (i := 3) scWords.nd rfl (.inl rfl) (pe_lst (pa_cons pe_str (pa_cons pe_str (pa_cons pe_str (pa_cons pe_str (pa_cons pe_str (pa_cons pe_str (pa_cons pe_str (pa_cons pe_str pa_nil))))))))))
      (pss_cons (ps_set (i := 4) scWords.nd rfl (.inl rfl) (pe_lst pa_nil))
      (pss_cons (ps_for PassesOwn.never rfl (pi_range1 rfl D.range (pa_cons (pv 2) pa_nil)) (pg_name (i := 5) scWords.nd rfl (Or.inl rfl))
        (pss_cons (ps_set (i := 6) scWords.nd rfl (.inl rfl) (pe_call GF hr rfl D.frm.g D.frm.k D.frm.b .nil pass0 (pa_cons (pv 0) (pa_cons (pv 1) pa_nil))))
        (C8.pss_cut (ps_if (pt_imp (t' := tAny 6) (PW.pt (pw_or (PW.pt (pw_and (pt_cmpR op_in_seq (pv 6) (pe_lst (pa_cons pe_str (pa_cons pe_str pa_nil))) (by rfl)) (pw_and1 (pt_cmpR op_gt (pe_call GS hr1 rfl D.sip.g D.sip.k D.sip.b .nil pass0 (pa_cons (pv 0) (pa_cons pe_int pa_nil))) pe_int (nomark _)))))
            (pw_or1 (pt_cmpR op_eq (pe_call GS hr1 rfl D.sip.g D.sip.k D.sip.b .nil pass0 (pa_cons (pv 0) (pa_cons pe_int pa_nil))) pe_int (nomark _))))) ?imp)
          (pss_one (ps_set (i := 6) scWords.nd rfl (.inl rfl) (pe_op op_add_str (pe_op op_add_str (pe_call GF hr rfl D.frm.g D.frm.k D.frm.b .nil pass0 (pa_cons (pv 0) (pa_cons (pv 3) pa_nil))) pe_str) (pv 6)))) pss_nil)
        (pss_one (ps_expr (pe_bm PySem.F.plainAttrs_list PySem.F.slot_list_append PySem.F.type_list_append mt_append (pv 4) (pa_cons (pv 6) pa_nil)))))))
      (pss_one (ps_ret (pv 4))))), ?_⟩
    case imp =>
      rintro σ H1 Q1 ⟨j1, x, h0, h6, J1, q⟩
      refine ⟨_, h6, (by show 2 ≤ sizeLine; decide), fun l nl => ?_⟩
      have third : ∀ H2, Off j1 H1 H2 → Jar H2 j1 → tTest (tOp rEq (tCall spSip [] E (tCons (tVar 0) (tCons (tC (.int 3)) tNil))) (tC (.int 0))) σ H2 Q1 := fun H2 o2 J2 =>
        ⟨_, h0, j1, 3, rfl, J2, by decide, by decide, fun H3 d _ _ o3 J3 => ⟨rfl, _, rfl, q _ _ (o2.trans o3) J3⟩⟩
      refine ⟨l, [.str "stop", .str "again"], rfl, .inl (SqL.of upd_same), rfl, rfl, _, rfl, ?_⟩
      have oN : Off j1 H1 (upd H1 l (.lst [.str "stop", .str "again"])) := Off.new Off.refl nl
      have JN := J1.new (o := .lst [.str "stop", .str "again"]) nl
      refine ite2 (fun _ => ?_) (fun _ => ?_)
      · refine ⟨_, h0, j1, 5, rfl, JN, by decide, by decide, fun H3 d _ _ o3 J3 => ⟨_, _, rfl, rfl, _, rfl, ?_⟩⟩
        refine ite2 (fun _ => ?_) (fun _ => ?_)
        · exact q _ _ (oN.trans o3) J3
        · exact third _ (oN.trans o3) J3
      · exact iteF (third _ oN JN)
    refine ⟨(by show 8 ≤ sizeLine; decide), fun t nt => ?_⟩
    refine ⟨Nat.zero_le _, fun q nq => ?_⟩
    have s0 : Same H (upd (upd H t (.lst (svs tests))) q (.lst [])) := Same.trans (same_new nt) (same_new nq)
    have ht : (upd (upd H t (.lst (svs tests))) q (.lst [])) t = some (.lst (svs tests)) := same_new nq _ _ upd_same
    have hq : (upd (upd H t (.lst (svs tests))) q (.lst [])) q = some (.lst (svs [])) := upd_same
    have nq0 : H q = none := (same_new nt).free nq
    have tq : t ≠ q := fun z => by rw [z, upd_same] at nq; cases nq
    have tj := jar_ne hJ nt
    have qj := jar_ne hJ nq0
    show tSeq _ _ _ _ (upd (upd H t (.lst (svs tests))) q (.lst []))
    generalize upd (upd H t (.lst (svs tests))) q (.lst []) = H1 at s0 ht hq ⊢
    refine ⟨_, rfl, m, rfl, by omega, by omega, for_range (lo := 0) (n := ((m : Int)).toNat) (fun i σ H' => ∃ (v5 v6 : Option V) (ws : List Str), σ = [some (.ref j), some (.ref p), some (.int m), some (.ref t), some (.ref q), v5, v6] ∧ Off j H H' ∧ Jar H' j ∧ H' t = some (.lst (svs tests)) ∧ H' q = some (.lst (svs ws)) ∧ ws.length = i ∧ ∀ w ∈ ws, Wd ss w)
      ⟨none, none, [], rfl, Same.off s0, hJ.same s0, ht, hq, rfl, fun w hw => nomatch hw⟩ ?_ ?_⟩
    · rintro i σ H' hi ⟨v5, v6, ws, rfl, o, J, ht', hq', lws, hws⟩
      refine ⟨_, rfl, _, rfl, j, p, svs ss, rfl, J, npj, o.seq npj hp, by rw [svs, List.length_map]; exact l0, by rw [svs, List.length_map]; omega, fun H2 n x hx o2 J2 => ?_⟩
      obtain ⟨z, hz, rfl⟩ := svs_get hx
      have zm : z ∈ ss := List.mem_of_getElem? hz
      refine ⟨fun σ H' => ∃ w, σ = [some (.ref j), some (.ref p), some (.int m), some (.ref t), some (.ref q), some (.int (0 + (i : Int))), some (.str w)] ∧ Off j H H' ∧ Jar H' j ∧ H' t = some (.lst (svs tests)) ∧ H' q = some (.lst (svs ws)) ∧ Wd ss w, ?_, ?_⟩
      · refine ⟨j, z, rfl, rfl, J2, fun b H3 o3 J3 => ?_⟩
        have o13 := (o.trans o2).trans o3
        have ht3 := o3 _ _ tj (o2 _ _ tj ht')
        have hq3 := o3 _ _ qj (o2 _ _ qj hq')
        cases b with
        | false => exact iteF ⟨z, rfl, o13, J3, ht3, hq3, z, zm, .inl rfl⟩
        | true =>
          refine iteT ?_
          refine ⟨_, rfl, _, rfl, j, t, svs tests, rfl, J3, tj, SqL.of ht3, by decide, by decide, fun H4 n4 x4 hx4 o4 J4 => ?_⟩
          obtain ⟨y, hy, rfl⟩ := svs_get hx4
          have ym : y ∈ tests := List.mem_of_getElem? hy
          have yl : y.length ≤ 5 := (show ∀ y ∈ tests, y.length ≤ 5 by decide +kernel) y ym
          have zl := lw z zm
          have c1 : (":" : Str).length = 1 := by decide +kernel
          refine ⟨_, _, rfl, rfl, szl (n := y.length + (":" : Str).length) (by omega), _, rfl, _, _, rfl, rfl, szl (n := (y ++ ":").length + z.length) (by rw [strLen_append]; omega), ?_⟩
          exact ⟨y ++ ":" ++ z, rfl, o13.trans o4, J4, o4 _ _ tj ht3, o4 _ _ qj hq3, z, zm, .inr ⟨y, ym, rfl⟩⟩
      rintro _ H3 ⟨wd, rfl, o3, J3, ht3, hq3, hwd⟩
      refine ⟨_, rfl, .inl ⟨rfl, _, SqL.of hq3⟩, _, rfl, q, _, _, rfl, rfl, hq3, small1000 (by rw [svs, List.length_map]; omega), ?_⟩
      refine ⟨_, _, ws ++ [wd], rfl, o3.put2 nq0, J3.put qj, ?_, ?_, ?_, fun w hw => ?_⟩
      · rw [upd_ne tq]
        exact ht3
      · rw [upd_same]
        simp [svs]
      · rw [List.length_append, lws]
        rfl
      · rcases List.mem_append.mp hw with hw | hw
        · exact hws w hw
        · rw [List.mem_singleton.mp hw]
          exact hwd
    · rintro σ H' ⟨v5, v6, ws, rfl, o, J, ht', hq', lws, hws⟩
      refine ⟨_, rfl, ?_⟩
      exact k H' q ws o J nq0 hq' (by simpa using lws) hws
end
end My

namespace My
open PySem L2 Cm LM
theorem Off.free {j p : Addr} {H H' : Hp} (o : Off j H H') (J : Jar H' j) (n : H' p = none) : H p = none := by
  cases e : H p with
  | none => rfl
  | some u =>
    have := o p u (jar_ne J n) e
    rw [n] at this
    cases this
theorem svs_len' (ws : List Str) : (svs ws).length = ws.length := List.length_map ..
theorem svs_app (a b : List Str) : svs a ++ svs b = svs (a ++ b) := by simp [svs]
theorem svs_take (a : List Str) (n : Nat) : (svs a).take n = svs (a.take n) := by simp [svs, List.map_take]
theorem svs_drop (a : List Str) (n : Nat) : (svs a).drop n = svs (a.drop n) := by simp [svs, List.map_drop]
section
variable {P : Program} {w : World} {K : PySem.W.Frag} {mg : Str → Option Value} {base : Heap}
/-- two lists that make a loop -/
structure Two (j : Addr) (H H' : Hp) (a b : Addr) (B E : List Str) (m : Nat) : Prop where
  o : Off j H H'
  J : Jar H' j
  na : H a = none
  nb : H b = none
  ha : H' a = some (.lst (svs B))
  hb : H' b = some (.lst (svs E))
  rB : isRound B = true
  rE : isEnding E = true
  lB : B.length ≤ m
  lE : E.length ≤ 2
def spLoop : Sp := fun vs H Q _ => ∃ (j : Addr) (m : Nat), vs = [.ref j, .int m] ∧ Jar H j ∧ 4 ≤ m ∧ m ≤ 11 ∧
  ∀ (H' : Hp) (p a b : Addr) (B E : List Str), Two j H H' a b B E (m + 1) → H' p = some (.tup [.ref a, .ref b]) → Q (.ref p) H'
theorem scLoop : FnScope ["_law_jar_here", "_law_most", "_law_some", "_law_parts", "_law_begun", "_law_ended", "_law_at"] ["_law_jar_here", "_law_most"] (defScope sLoop) := ⟨rfl, rfl, rfl, by decide +kernel, rfl, by decide +kernel, by decide +kernel⟩
theorem len_samples : (svs samples).length = 10 := by decide +kernel
theorem ok_loop (D : TxD K mg) : FnOk P w K mg base CX0 4 D.lop.f D.lop.fd ["_law_jar_here", "_law_most"] spLoop := by
  have GS : FnOk P w K mg base CX0 1 D.sip.f D.sip.fd ["_law_jar_here", "_law_many"] spSip := gk_sip D
  have GF : FnOk P w K mg base CX0 2 D.frm.f D.frm.fd ["_law_jar_here", "_law_things"] (spFrom K) := gk_from D
  have GW : FnOk P w K mg base CX0 3 D.wds.f D.wds.fd ["_law_jar_here", "_law_steps", "_law_many"] (spWords K) := ok_words D
  refine D.lop.F.ok scLoop (fun vs H Q E h => ?_) (fun cdv A outer s H vs Q E hr h => ?_)
  · obtain ⟨j, m, rfl, _⟩ := h
    rfl
  · obtain ⟨j, m, rfl, hJ, m0, m1, k⟩ := h
    have hr1 : Room 1 _ := hr.mono (by decide)
    have hr2 : Room 2 _ := hr.mono (by decide)
    refine ⟨_, pss_cons (ps_set (i := 2) scLoop.nd rfl (.inl rfl) (pe_lst (pa_cons pe_str (pa_cons pe_str (pa_cons pe_str (pa_cons pe_str pa_nil))))))
      (pss_cons (ps_set (i := 2) scLoop.nd rfl (.inl rfl) (pe_op op_cat (pv 2) (pe_lst (pa_cons pe_str (pa_cons pe_str (pa_cons pe_str pa_nil))))))
      (pss_cons (ps_set (i := 2) scLoop.nd rfl (.inl rfl) (pe_op op_cat (pv 2) (pe_lst (pa_cons pe_str (pa_cons pe_str pa_nil)))))
      (C8.pss_cut (ps_expr (pe_bm PySem.F.plainAttrs_list PySem.F.slot_list_append PySem.F.type_list_append mt_append (pv 2) (pa_cons pe_str pa_nil)))
      (pss_cons (ps_if (pt_cmpR op_eq (pe_call GS hr1 rfl D.sip.g D.sip.k D.sip.b .nil pass0 (pa_cons (pv 0) (pa_cons pe_int pa_nil))) pe_int (nomark _))
        (pss_cons (ps_set (i := 3) scLoop.nd rfl (.inl rfl) (pe_split (pe_call GF hr2 rfl D.frm.g D.frm.k D.frm.b .nil pass0 (pa_cons (pv 0) (pa_cons (pv 2) pa_nil))) pe_str))
        (pss_cons (ps_par (i := 4) (j := 5) rfl scLoop.nd rfl rfl (by decide) rfl rfl (pa_cons (pe_split (pe_ix ix_list (pv 3) pe_int (fun _ _ => rfl)) pe_str) (pa_cons (pe_lst pa_nil) pa_nil)) (by rfl))
        (C8.pss_cut (ps_if (pt_cmpR op_gt (pe_callB call_len_seq (by rfl) D.J.len PySem.boot_len (pa_cons (pv 3) pa_nil)) pe_int (nomark _)) (pss_one (ps_set (i := 5) scLoop.nd rfl (.inl rfl) (pe_split (pe_ix ix_list (pv 3) pe_int (fun _ _ => rfl)) pe_str))) pss_nil)
        (C8.pss_cut (ps_if (pt_cmpR op_eq (pe_call GS hr1 rfl D.sip.g D.sip.k D.sip.b .nil pass0 (pa_cons (pv 0) (pa_cons pe_int pa_nil))) pe_int (nomark _))
          (pss_cons (ps_set (i := 6) scLoop.nd rfl (.inl rfl) (pe_op op_add pe_int (pe_call GS hr1 rfl D.sip.g D.sip.k D.sip.b .nil pass0 (pa_cons (pv 0) (pa_cons (pe_callB call_len_seq (by rfl) D.J.len PySem.boot_len (pa_cons (pv 4) pa_nil)) pa_nil)))))
          (pss_one (ps_set (i := 4) scLoop.nd rfl (.inl rfl) (pe_op op_cat (pe_op op_cat (pe_slice sl_list (pv 4) po_none (po_some (pv 6))) (pe_call GW hr rfl D.wds.g D.wds.k D.wds.b .nil pass0 (pa_cons (pv 0) (pa_cons (pe_lst (pa_cons pe_str (pa_cons pe_str (pa_cons pe_str (pa_cons pe_str (pa_cons pe_str pa_nil)))))) (pa_cons pe_int pa_nil)))))
            (pe_slice sl_list (pv 4) (po_some (pv 6)) po_none))))) pss_nil)
        (pss_one (ps_ret (pe_tup (pa_cons (pv 4) (pa_cons (pv 5) pa_nil))))))))) pss_nil)
      (pss_cons (ps_set (i := 4) scLoop.nd rfl (.inl rfl) (pe_op op_cat (pe_lst (pa_cons pe_str pa_nil)) (pe_call GW hr rfl D.wds.g D.wds.k D.wds.b .nil pass0 (pa_cons (pv 0) (pa_cons (pe_lst (pa_cons pe_str (pa_cons pe_str (pa_cons pe_str (pa_cons pe_str (pa_cons pe_str (pa_cons pe_str pa_nil))))))) (pa_cons (pe_call GS hr1 rfl D.sip.g D.sip.k D.sip.b .nil pass0 (pa_cons (pv 0) (pa_cons (pv 1) pa_nil))) pa_nil))))))
      (C8.pss_cut (ps_if (pt_cmpR op_eq (pe_call GS hr1 rfl D.sip.g D.sip.k D.sip.b .nil pass0 (pa_cons (pv 0) (pa_cons pe_int pa_nil))) pe_int (nomark _))
          (pss_cons (ps_set (i := 6) scLoop.nd rfl (.inl rfl) (pe_op op_add pe_int (pe_call GS hr1 rfl D.sip.g D.sip.k D.sip.b .nil pass0 (pa_cons (pv 0) (pa_cons (pe_callB call_len_seq (by rfl) D.J.len PySem.boot_len (pa_cons (pv 4) pa_nil)) pa_nil)))))
          (pss_one (ps_set (i := 4) scLoop.nd rfl (.inl rfl) (pe_op op_cat (pe_op op_cat (pe_slice sl_list (pv 4) po_none (po_some (pv 6))) (pe_call GW hr rfl D.wds.g D.wds.k D.wds.b .nil pass0 (pa_cons (pv 0) (pa_cons (pe_lst (pa_cons pe_str pa_nil)) (pa_cons pe_int pa_nil)))))
            (pe_slice sl_list (pv 4) (po_some (pv 6)) po_none))))) pss_nil)
      (pss_one (ps_ret (pe_tup (pa_cons (pv 4) (pa_cons (pe_call GW hr rfl D.wds.g D.wds.k D.wds.b .nil pass0 (pa_cons (pv 0) (pa_cons (pe_lst (pa_cons pe_str (pa_cons pe_str (pa_cons pe_str pa_nil)))) (pa_cons (pe_call GS hr1 rfl D.sip.g D.sip.k D.sip.b .nil pass0 (pa_cons (pv 0) (pa_cons pe_int pa_nil))) pa_nil)))) pa_nil))))))))))), ?_⟩
    -- the samples
    refine ⟨(by show 4 ≤ sizeLine; decide), fun x1 n1 => ?_⟩
    refine ⟨_, rfl, (by show 3 ≤ sizeLine; decide), fun x2 n2 => ⟨x1, x2, _, _, rfl, rfl, same_new n2 _ _ upd_same, upd_same, (by show 7 ≤ sizeLine; decide), fun x3 n3 => ?_⟩⟩
    refine ⟨_, rfl, (by show 2 ≤ sizeLine; decide), fun x4 n4 => ⟨x3, x4, _, _, rfl, rfl, same_new n4 _ _ upd_same, upd_same, (by show 9 ≤ sizeLine; decide), fun x5 n5 => ?_⟩⟩
    refine ⟨fun σ H' => ∃ p, σ = [some (.ref j), some (.int m), some (.ref p), none, none, none, none] ∧ Off j H H' ∧ Jar H' j ∧ p ≠ j ∧ H' p = some (.lst (svs samples)), ?_, ?_⟩
    · refine ⟨_, rfl, .inl ⟨rfl, _, SqL.of upd_same⟩, x5, _, _, rfl, rfl, upd_same, small1000 (by show 9 ≤ 1000; decide), ?_⟩
      have n50 : H x5 = none := Same.free (Same.trans (same_new n1) (Same.trans (same_new n2) (Same.trans (same_new n3) (same_new n4)))) n5
      exact ⟨x5, rfl, (Same.off (j := j) (Same.trans (same_new n1) (Same.trans (same_new n2) (Same.trans (same_new n3) (Same.trans (same_new n4) (same_new n5)))))).put2 n50, (hJ.same (Same.trans (same_new n1) (Same.trans (same_new n2) (Same.trans (same_new n3) (Same.trans (same_new n4) (same_new n5)))))).put (jar_ne hJ n50), jar_ne hJ n50, upd_same⟩
    rintro _ H1 ⟨p, rfl, o1, J1, pj, hp⟩
    clear n1 n2 n3 n4 n5
    refine ⟨_, rfl, j, 3, rfl, J1, by decide, by decide, fun H2 d _ _ o2 J2 => ⟨rfl, _, rfl, ?_⟩⟩
    have o12 := o1.trans o2
    have hp2 := o2 _ _ pj hp
    clear o1 o2 J1 hp
    refine ite2 (fun _ => ?_) (fun _ => ?_)
    · -- a sample
      refine ⟨_, rfl, _, rfl, j, p, _, rfl, J2, pj, SqL.of hp2, by rw [len_samples]; decide, by rw [len_samples]; decide, fun H3 i x hx o3 J3 => ?_⟩
      obtain ⟨t, ht, rfl⟩ := svs_get hx
      have S := samp_of (List.mem_of_getElem? ht)
      have o13 := o12.trans o3
      refine ⟨⟨_, rfl⟩, t, " | ", rfl, rfl, by decide +kernel, Nat.le_trans (Nat.add_le_add_right S.ls 2) (by decide), fun q nq => ?_⟩
      have nq0 := o13.free J3 nq
      have qj := jar_ne hJ nq0
      have hq4 : (upd H3 q (.lst (svs (sampP t)))) q = some (.lst (svs (sampP t))) := upd_same
      have o14 : Off j H (upd H3 q (.lst (svs (sampP t)))) := o13.new nq
      have J4 := J3.new (o := .lst (svs (sampP t))) nq
      show tSeq _ _ _ _ (upd H3 q (.lst (svs (sampP t))))
      generalize upd H3 q (.lst (svs (sampP t))) = H4 at hq4 o14 J4 ⊢
      have g0 : (sampP t)[0]? = some ((sampP t).getD 0 Str.empty) := by
        rw [List.getD_eq_getElem?_getD, List.getElem?_eq_getElem S.l1]
        rfl
      have l0 : ((sampP t).getD 0 Str.empty).length ≤ 100 := S.lp _ (List.mem_of_getElem? g0)
      refine ⟨_, rfl, q, _, 0, .str ((sampP t).getD 0 Str.empty), rfl, rfl, SqL.of hq4, (show atI _ ((0 : Nat) : Int) = _ from atI_nat (by rw [svs, List.getElem?_map, g0]; rfl)), ⟨_, rfl⟩, _, " ", rfl, rfl, by decide +kernel, Nat.le_trans (Nat.add_le_add_right l0 2) (by decide), fun a na => ?_⟩
      refine ⟨Nat.zero_le _, fun b nb => ?_⟩
      refine ⟨_, _, rfl, ?_⟩
      have na0 := o14.free J4 na
      have o15 : Off j H (upd H4 a (.lst (svs (sampB t)))) := o14.new na
      have J5 := J4.new (o := .lst (svs (sampB t))) na
      have nb0 := o15.free J5 nb
      have ha6 : (upd (upd H4 a (.lst (svs (sampB t)))) b (.lst [])) a = some (.lst (svs (sampB t))) := same_new nb _ _ upd_same
      have hb6 : (upd (upd H4 a (.lst (svs (sampB t)))) b (.lst [])) b = some (.lst (svs [])) := upd_same
      have hq6 : (upd (upd H4 a (.lst (svs (sampB t)))) b (.lst [])) q = some (.lst (svs (sampP t))) := same_new nb _ _ (same_new na _ _ hq4)
      have o16 : Off j H (upd (upd H4 a (.lst (svs (sampB t)))) b (.lst [])) := o15.new nb
      have J6 := J5.new (o := .lst []) nb
      show C8.tCut _ _ _ _ (upd (upd H4 a (.lst (svs (sampB t)))) b (.lst []))
      generalize upd (upd H4 a (.lst (svs (sampB t)))) b (.lst []) = H6 at ha6 hb6 hq6 o16 J6 ⊢
      clear nb na o15 J5
      refine ⟨fun σ H' => ∃ b, σ = [some (.ref j), some (.int m), some (.ref p), some (.ref q), some (.ref a), some (.ref b), none] ∧ Two j H H' a b (sampB t) (sampE t) 4, ?_, ?_⟩
      · refine ⟨_, rfl, q, _, rfl, .inl (SqL.of hq6), _, _, rfl, rfl, _, rfl, ?_⟩
        rw [svs_len']
        refine ite2 (fun c => ?_) (fun c => ?_)
        · have c1 : 1 < (sampP t).length := by have := of_decide_eq_true c; omega
          have g1 : (sampP t)[1]? = some ((sampP t).getD 1 Str.empty) := by
            rw [List.getD_eq_getElem?_getD, List.getElem?_eq_getElem c1]
            rfl
          have l1 : ((sampP t).getD 1 Str.empty).length ≤ 100 := S.lp _ (List.mem_of_getElem? g1)
          refine ⟨_, rfl, q, _, 1, .str ((sampP t).getD 1 Str.empty), rfl, rfl, SqL.of hq6, (show atI _ ((1 : Nat) : Int) = _ from atI_nat (by rw [svs, List.getElem?_map, g1]; rfl)), ⟨_, rfl⟩, _, " ", rfl, rfl, by decide +kernel, Nat.le_trans (Nat.add_le_add_right l1 2) (by decide), fun b2 nb2 => ?_⟩
          have e : sampE t = Txt.split ((sampP t).getD 1 Str.empty) " " := by unfold sampE; rw [if_pos c1]
          exact ⟨b2, rfl, o16.new nb2, J6.new nb2, na0, o16.free J6 nb2, same_new nb2 _ _ ha6, by rw [e]; exact upd_same, S.r, S.e, S.lb, Nat.le_trans S.le (by decide)⟩
        · have c1 : ¬ (sampP t).length > 1 := fun z => c (decide_eq_true (by omega))
          have e : sampE t = [] := by unfold sampE; rw [if_neg c1]
          exact ⟨b, rfl, o16, J6, na0, nb0, ha6, by rw [e]; exact hb6, S.r, S.e, S.lb, Nat.le_trans S.le (by decide)⟩
      rintro _ H7 ⟨b, rfl, W⟩
      clear ha6 hb6 hq6 o16 J6 hq4 o14 J4 nb0 g0
      refine ⟨fun σ H' => ∃ (a : Addr) (B : List Str) (v6 : Option V), σ = [some (.ref j), some (.int m), some (.ref p), some (.ref q), some (.ref a), some (.ref b), v6] ∧ Two j H H' a b B (sampE t) 5, ?_, ?_⟩
      · refine ⟨_, rfl, j, 2, rfl, W.J, by decide, by decide, fun H8 d _ _ o8 J8 => ⟨rfl, _, rfl, ?_⟩⟩
        have aj := jar_ne hJ W.na
        have bj := jar_ne hJ W.nb
        have ha8 := o8 _ _ aj W.ha
        have hb8 := o8 _ _ bj W.hb
        have o18 := W.o.trans o8
        refine ite2 (fun _ => ?_) (fun _ => ?_)
        · have lb1 : 1 ≤ (sampB t).length := List.length_pos_iff.mpr (round_ne W.rB)
          refine ⟨_, rfl, _, rfl, a, _, rfl, .inl (SqL.of ha8), j, _, rfl, J8, by rw [svs_len']; omega, by rw [svs_len']; have := W.lB; omega, fun H9 d2 d20 d21 o9 J9 => ⟨_, _, rfl, rfl, ?_⟩⟩
          rw [svs_len'] at d21
          obtain ⟨n, rfl⟩ := Int.eq_ofNat_of_zero_le d20
          have ha9 := o9 _ _ aj ha8
          have o19 := o18.trans o9
          refine ⟨_, rfl, _, rfl, ((1 + n : Nat) : Int), by simp, a, _, rfl, SqL.of ha9, fun x1 nx1 => ?_⟩
          rw [cut_to _ _ (by rw [svs_len']; omega), svs_take]
          refine ⟨_, rfl, (by show 5 ≤ sizeLine; decide), fun x2 nx2 => ?_⟩
          have o20 := (o19.new (o := .lst (svs ((sampB t).take (1 + n)))) nx1).new (o := .lst (svs plain5)) nx2
          have J20 := (J9.new (o := .lst (svs ((sampB t).take (1 + n)))) nx1).new (o := .lst (svs plain5)) nx2
          refine ⟨j, x2, plain5, 1, rfl, J20, jar_ne (J9.new nx1) nx2, SqL.of upd_same, by decide, by decide, by decide +kernel, by decide, fun H10 x3 ws o10 J10 nx3 hx3 lw hw => ?_⟩
          have x1j := jar_ne J9 nx1
          refine ⟨x1, x3, _, _, rfl, rfl, o10 _ _ x1j (same_new nx2 _ _ upd_same), hx3, ?_, fun x4 nx4 => ?_⟩
          · rw [svs_len', svs_len', List.length_take]
            have := W.lB
            exact szl (by omega)
          rw [svs_app]
          have ha10 := o10 _ _ aj (same_new nx2 _ _ (same_new nx1 _ _ ha9))
          refine ⟨_, rfl, _, rfl, ((1 + n : Nat) : Int), by simp, a, _, rfl, SqL.of (same_new nx4 _ _ ha10), fun x5 nx5 => ?_⟩
          rw [cut_from, svs_drop]
          refine ⟨x4, x5, _, _, rfl, rfl, same_new nx5 _ _ upd_same, upd_same, ?_, fun x6 nx6 => ?_⟩
          · rw [svs_len', svs_len', List.length_append, List.length_take, List.length_drop]
            have := W.lB
            exact szl (by omega)
          rw [svs_app]
          have o21 := o20.trans o10
          have na6 := (((o21.new (o := .lst (svs ((sampB t).take (1 + n) ++ ws))) nx4).new (o := .lst (svs ((sampB t).drop (1 + n)))) nx5)).free ((J10.new nx4).new nx5) nx6
          refine ⟨x6, _, _, rfl, ((o21.new nx4).new nx5).new nx6, ((J10.new nx4).new nx5).new nx6, na6, W.nb, upd_same, same_new nx6 _ _ (same_new nx5 _ _ (same_new nx4 _ _ (o10 _ _ bj (same_new nx2 _ _ (same_new nx1 _ _ (o9 _ _ bj hb8)))))), ?_, W.rE, ?_, W.lE⟩
          · refine ins_round W.rB (by omega) (fun x hx => wd_round ((hw x hx).mono (by decide +kernel))) (by have := W.lB; omega) ?_
            rw [none_filter hw]
            exact round_adds W.rB
          · rw [List.length_append, List.length_append, List.length_take, List.length_drop]
            have := W.lB
            omega
        · exact ⟨a, sampB t, none, rfl, o18, J8, W.na, W.nb, ha8, hb8, W.rB, W.rE, Nat.le_trans W.lB (by decide), W.lE⟩
      rintro _ H8 ⟨a, B, v6, rfl, W⟩
      refine ⟨_, rfl, _, rfl, (by show 2 ≤ sizeLine; decide), fun r nr => ?_⟩
      exact k _ r a b B (sampE t) ⟨W.o.new nr, W.J.new nr, W.na, W.nb, same_new nr _ _ W.ha, same_new nr _ _ W.hb, W.rB, W.rE, Nat.le_trans W.lB (by omega), W.lE⟩ upd_same
    · -- drawn words
      refine ⟨(by show 1 ≤ sizeLine; decide), fun x1 nx1 => ?_⟩
      refine ⟨_, rfl, (by show 6 ≤ sizeLine; decide), fun x2 nx2 => ?_⟩
      have o14 := (o12.new (o := .lst (svs ["ask"])) nx1).new (o := .lst (svs ["hand", "cut", "flush", "stop", "again", "stop"])) nx2
      have J4 := (J2.new (o := .lst (svs ["ask"])) nx1).new (o := .lst (svs ["hand", "cut", "flush", "stop", "again", "stop"])) nx2
      have x1j := jar_ne J2 nx1
      have x2j := jar_ne (J2.new (o := .lst (svs ["ask"])) nx1) nx2
      have h14 : (upd (upd H2 x1 (.lst (svs ["ask"]))) x2 (.lst (svs ["hand", "cut", "flush", "stop", "again", "stop"]))) x1 = some (.lst (svs ["ask"])) := same_new nx2 _ _ upd_same
      have h24 : (upd (upd H2 x1 (.lst (svs ["ask"]))) x2 (.lst (svs ["hand", "cut", "flush", "stop", "again", "stop"]))) x2 = some (.lst (svs ["hand", "cut", "flush", "stop", "again", "stop"])) := upd_same
      show tCall spSip [] E0 _ _ (upd (upd H2 x1 (.lst (svs ["ask"]))) x2 (.lst (svs ["hand", "cut", "flush", "stop", "again", "stop"]))) _
      generalize upd (upd H2 x1 (.lst (svs ["ask"]))) x2 (.lst (svs ["hand", "cut", "flush", "stop", "again", "stop"])) = H4 at o14 J4 h14 h24 ⊢
      refine ⟨_, rfl, _, rfl, j, m, rfl, J4, by omega, by omega, fun H5 d d0 d1 o5 J5 => ?_⟩
      obtain ⟨n, rfl⟩ := Int.eq_ofNat_of_zero_le d0
      refine ⟨j, x2, ["hand", "cut", "flush", "stop", "again", "stop"], n, rfl, J5, x2j, SqL.of (o5 _ _ x2j h24), by decide, by decide, by decide +kernel, by omega, fun H6 x3 ws o6 J6 nx3 hx3 lw hw => ?_⟩
      refine ⟨x1, x3, _, _, rfl, rfl, o6 _ _ x1j (o5 _ _ x1j h14), hx3, ?_, fun a na => ?_⟩
      · rw [svs_len', svs_len']
        exact szl (by show 1 + ws.length ≤ 1000; omega)
      rw [svs_app]
      have o16 := (o14.trans o5).trans o6
      have na0 := o16.free J6 na
      have aj := jar_ne hJ na0
      have hw5 : ∀ w ∈ ws, Wd plain5 w := fun w h => (hw w h).mono (by decide +kernel)
      have R := ask_round hw5 (by omega)
      have ha7 : (upd H6 a (.lst (svs ([("ask" : Str)] ++ ws)))) a = some (.lst (svs (("ask" : Str) :: ws))) := upd_same
      have o17 : Off j H (upd H6 a (.lst (svs ([("ask" : Str)] ++ ws)))) := o16.new na
      have J7 := J6.new (o := .lst (svs ([("ask" : Str)] ++ ws))) na
      show C8.tCut _ _ _ _ (upd H6 a (.lst (svs ([("ask" : Str)] ++ ws))))
      generalize upd H6 a (.lst (svs ([("ask" : Str)] ++ ws))) = H7 at ha7 o17 J7 ⊢
      clear h14 h24 o14 J4 o5 J5 o6 J6 hx3 o16 na x1j x2j
      refine ⟨fun σ H' => ∃ (a : Addr) (B : List Str) (v6 : Option V), σ = [some (.ref j), some (.int m), some (.ref p), none, some (.ref a), none, v6] ∧ Off j H H' ∧ Jar H' j ∧ H a = none ∧ H' a = some (.lst (svs B)) ∧ isRound B = true ∧ B.length ≤ m + 1, ?_, ?_⟩
      · refine ⟨_, rfl, j, 2, rfl, J7, by decide, by decide, fun H8 d _ _ o8 J8 => ⟨rfl, _, rfl, ?_⟩⟩
        have ha8 := o8 _ _ aj ha7
        have o18 := o17.trans o8
        refine ite2 (fun _ => ?_) (fun _ => ?_)
        · refine ⟨_, rfl, _, rfl, a, _, rfl, .inl (SqL.of ha8), j, _, rfl, J8, by rw [svs_len', List.length_cons]; omega, by rw [svs_len', List.length_cons]; omega, fun H9 d2 d20 d21 o9 J9 => ⟨_, _, rfl, rfl, ?_⟩⟩
          rw [svs_len', List.length_cons] at d21
          obtain ⟨n2, rfl⟩ := Int.eq_ofNat_of_zero_le d20
          have ha9 := o9 _ _ aj ha8
          have o19 := o18.trans o9
          refine ⟨_, rfl, _, rfl, ((1 + n2 : Nat) : Int), by simp, a, _, rfl, SqL.of ha9, fun x1 nx1 => ?_⟩
          rw [cut_to _ _ (by rw [svs_len', List.length_cons]; omega), svs_take]
          refine ⟨_, rfl, (by show 1 ≤ sizeLine; decide), fun x2 nx2 => ?_⟩
          have o20 := (o19.new (o := .lst (svs ((("ask" : Str) :: ws).take (1 + n2)))) nx1).new (o := .lst (svs ["add"])) nx2
          have J20 := (J9.new (o := .lst (svs ((("ask" : Str) :: ws).take (1 + n2)))) nx1).new (o := .lst (svs ["add"])) nx2
          refine ⟨j, x2, ["add"], 1, rfl, J20, jar_ne (J9.new nx1) nx2, SqL.of upd_same, by decide, by decide, by decide +kernel, by decide, fun H10 x3 xs o10 J10 nx3 hx3 lx hxs => ?_⟩
          have x1j := jar_ne J9 nx1
          refine ⟨x1, x3, _, _, rfl, rfl, o10 _ _ x1j (same_new nx2 _ _ upd_same), hx3, ?_, fun x4 nx4 => ?_⟩
          · rw [svs_len', svs_len', List.length_take]
            exact szl (by omega)
          rw [svs_app]
          have ha10 := o10 _ _ aj (same_new nx2 _ _ (same_new nx1 _ _ ha9))
          refine ⟨_, rfl, _, rfl, ((1 + n2 : Nat) : Int), by simp, a, _, rfl, SqL.of (same_new nx4 _ _ ha10), fun x5 nx5 => ?_⟩
          rw [cut_from, svs_drop]
          refine ⟨x4, x5, _, _, rfl, rfl, same_new nx5 _ _ upd_same, upd_same, ?_, fun x6 nx6 => ?_⟩
          · rw [svs_len', svs_len', List.length_append, List.length_take, List.length_drop, List.length_cons]
            exact szl (by omega)
          rw [svs_app]
          have o21 := o20.trans o10
          have na6 := (((o21.new (o := .lst (svs ((("ask" : Str) :: ws).take (1 + n2) ++ xs))) nx4).new (o := .lst (svs ((("ask" : Str) :: ws).drop (1 + n2)))) nx5)).free ((J10.new nx4).new nx5) nx6
          refine ⟨x6, _, _, rfl, ((o21.new nx4).new nx5).new nx6, ((J10.new nx4).new nx5).new nx6, na6, upd_same, ?_, ?_⟩
          · refine ins_round R.1 (by omega) (fun x hx => wd_round ((hxs x hx).mono (by decide +kernel))) (by rw [List.length_cons]; omega) ?_
            rw [R.2]
            have := one_filter lx
            omega
          · rw [List.length_append, List.length_append, List.length_take, List.length_drop, List.length_cons]
            omega
        · exact ⟨a, _, none, rfl, o18, J8, na0, ha8, R.1, by rw [List.length_cons]; omega⟩
      rintro _ H8 ⟨a, B, v6, rfl, o8, J8, na, ha8, rB, lB⟩
      have aj := jar_ne hJ na
      refine ⟨_, rfl, _, rfl, (by show 3 ≤ sizeLine; decide), fun x2 nx2 => ?_⟩
      have x2j := jar_ne J8 nx2
      refine ⟨_, rfl, j, 3, rfl, J8.new nx2, by decide, by decide, fun H9 d d0 d1 o9 J9 => ?_⟩
      obtain ⟨n3, rfl⟩ := Int.eq_ofNat_of_zero_le d0
      have o19 := (o8.new nx2).trans o9
      refine ⟨j, x2, esteps, n3, rfl, J9, x2j, SqL.of (o9 _ _ x2j upd_same), by decide, by decide, by decide +kernel, by omega, fun H10 b E' o10 J10 nb hb lE hE => ?_⟩
      have nb0 := o19.free J9 nb
      refine ⟨(by show 2 ≤ sizeLine; decide), fun r nr => ?_⟩
      have ha10 := o10 _ _ aj (o9 _ _ aj (same_new nx2 _ _ ha8))
      exact k _ r a b B E' ⟨(o19.trans o10).new nr, J10.new nr, na, nb0, same_new nr _ _ ha10, same_new nr _ _ hb, rB, words_ending hE (by omega), lB, by omega⟩ upd_same
end
end My

namespace My
open PySem L2 Cm LM
/-! ### rows of texts as data -/
def strD (ws : List Str) : List PyData := ws.map PyData.str
theorem dpS {K : PySem.W.Frag} {H : Hp} : ∀ ws : List Str, DpAll K H (svs ws) (strD ws)
  | [] => .nil
  | x :: r => .cons (.str x) (dpS r)
theorem strD_lay : ∀ {ws : List Str}, (∀ w ∈ ws, Asc w) → PyData.canLayAll0 (strD ws) = true
  | [], _ => by simp [strD, PyData.canLayAll0]
  | x :: r, h => by
    have h1 := strD_lay (ws := r) fun w hw => h w (List.mem_cons_of_mem _ hw)
    have h2 : PyData.strOk x = true := h x (List.mem_cons_self ..)
    simp only [strD, List.map_cons, PyData.canLayAll0, PyData.canLay0, h2, Bool.true_and] at h1 ⊢
    exact h1
theorem strD_depth : ∀ ws : List Str, PyData.depthAll (strD ws) ≤ 1
  | [] => by simp [strD, PyData.depthAll]
  | x :: r => by
    have := strD_depth r
    simp only [strD, List.map_cons, PyData.depthAll, PyData.depth] at this ⊢
    omega
theorem strD_shaped {ws : List Str} (h : ∀ w ∈ ws, Asc w) : SeqAt.shaped (.list (strD ws)) = true := by
  have := strD_depth ws
  refine Bool.and_eq_true_iff.mpr ⟨by simp only [PyData.canLay0]; exact strD_lay h, decide_eq_true ?_⟩
  simp only [PyData.depth]
  omega
theorem eqv_nil (ws : List Str) : PyData.eqv (.list (strD ws)) (.list []) = decide (ws = []) := by
  cases ws with
  | nil => simp [strD, PyData.eqv, PyData.eqvAll]
  | cons x r => simp [strD, PyData.eqv, PyData.eqvAll]
section
variable {P : Program} {w : World} {K : PySem.W.Frag} {mg : Str → Option Value} {base : Heap}
/-! ### _law_line -/
def spLine : Sp := fun vs H Q _ => ∃ (a b : Addr) (B E : List Str), vs = [.ref a, .ref b] ∧ H a = some (.lst (svs B)) ∧ H b = some (.lst (svs E)) ∧ Sht 100 B ∧ Sht 100 E ∧ (∀ w ∈ E, Asc w) ∧ ∀ H', Same H H' → Q (.str (line B E)) H'
theorem scLine : FnScope ["_law_begun", "_law_ended"] ["_law_begun", "_law_ended"] (defScope sLine) := ⟨rfl, rfl, rfl, by decide +kernel, rfl, by decide +kernel, by decide +kernel⟩
theorem ok_line (D : TxD K mg) : FnOk P w K mg base CX0 1 D.lin.f D.lin.fd ["_law_begun", "_law_ended"] spLine := by
  refine D.lin.F.ok scLine (fun vs H Q E h => ?_) (fun cdv A outer s H vs Q E hr h => ?_)
  · obtain ⟨a, b, B, E, rfl, _⟩ := h
    rfl
  · obtain ⟨a, b, B, E, rfl, ha, hb, sB, sE, aE, k⟩ := h
    refine ⟨_, pss_one (ps_ret (pe_ifExp (pt_cmpR (op_neD (hu64 hr)) (pv 1) (pe_lst pa_nil) (nomark _)) (pe_join pe_str (pe_op op_cat (pe_op op_cat (pv 0) (pe_lst (pa_cons pe_str pa_nil))) (pv 1))) (pe_join pe_str (pv 0)))), ?_⟩
    refine ⟨_, rfl, Nat.zero_le _, fun e ne => ?_⟩
    refine ⟨.list (strD E), .list [], .lst (SqL.of (same_new ne _ _ hb)) (dpS E), .lst (SqL.of upd_same) .nil, strD_shaped aE, by decide, _, rfl, ?_⟩
    rw [eqv_nil]
    have s1 : Same H (upd H e (.lst [])) := same_new ne
    generalize upd H e (.lst []) = H1 at s1 ⊢
    have l1 : (" " : Str).length = 1 := by decide +kernel
    unfold line at k
    by_cases hE : E = []
    · rw [decide_eq_true hE]
      rw [if_pos hE] at k
      refine iteF ⟨⟨_, rfl⟩, _, rfl, " ", a, B, rfl, rfl, .inl (SqL.of (s1 _ _ ha)), ?_, k _ s1⟩
      rw [l1]
      have := sB.sum
      omega
    · rw [decide_eq_false hE]
      rw [if_neg hE] at k
      refine iteT ⟨⟨_, rfl⟩, _, rfl, (by show 1 ≤ sizeLine; decide), fun x nx => ?_⟩
      refine ⟨a, x, _, _, rfl, rfl, same_new nx _ _ (s1 _ _ ha), upd_same, ?_, fun y ny => ?_⟩
      · rw [svs_len']
        have := sB.2
        exact szl (by show B.length + 1 ≤ 1000; omega)
      refine ⟨_, rfl, y, b, _, _, rfl, rfl, upd_same, same_new ny _ _ (same_new nx _ _ (s1 _ _ hb)), ?_, fun z nz => ?_⟩
      · rw [List.length_append, svs_len', svs_len']
        have := sB.2
        have := sE.2
        exact szl (by show B.length + 1 + E.length ≤ 1000; omega)
      refine ⟨" ", z, B ++ [("|" : Str)] ++ E, rfl, rfl, .inl (SqL.of (by rw [upd_same]; simp [svs])), ?_, ?_⟩
      · have sh : Sht 201 (B ++ [("|" : Str)] ++ E) := by
          refine ⟨fun w hw => ?_, ?_⟩
          · rcases List.mem_append.mp hw with hw | hw
            · rcases List.mem_append.mp hw with hw | hw
              · exact sB.1 w hw
              · rw [List.mem_singleton.mp hw]
                decide +kernel
            · exact sE.1 w hw
          · rw [List.length_append, List.length_append]
            have := sB.2
            have := sE.2
            simp
            omega
        rw [l1]
        have := sh.sum
        omega
      · exact k _ (Same.trans s1 (Same.trans (same_new nx) (Same.trans (same_new ny) (same_new nz))))
end
end My

/-! loops filled up; rows without one word -/
namespace LM
open PySem L2 TL
theorem again_ok : isWord "again" rsteps = true ∧ isAdd "again" = false := by decide +kernel
theorem cut_ok : isWord "cut" esteps = true := by decide +kernel
theorem pad_round {B : List Str} (h : isRound B = true) (n : Nat) (hl : B.length + n ≤ 12) : isRound (B ++ List.replicate n ("again" : Str)) = true := by
  obtain ⟨r, rfl, h2, h3, h4⟩ := isRound_iff.mp h
  refine isRound_iff.mpr ⟨r ++ List.replicate n ("again" : Str), rfl, by rw [List.length_append, List.length_replicate]; exact hl, ?_, fun w hw => ?_⟩
  · rw [List.filter_append]
    have e : (List.replicate n ("again" : Str)).filter isAdd = [] := List.filter_eq_nil_iff.mpr fun w hw => by
      rw [List.eq_of_mem_replicate hw, again_ok.2]
      exact Bool.false_ne_true
    rw [e, List.append_nil]
    exact h3
  · rcases List.mem_append.mp hw with hw | hw
    · exact h4 w hw
    · rw [List.eq_of_mem_replicate hw]
      exact again_ok.1
theorem pad_ending {E : List Str} (h : isEnding E = true) (n : Nat) (hl : E.length + n ≤ 6) : isEnding (E ++ List.replicate n ("cut" : Str)) = true := by
  have q := isEnding_iff.mp h
  refine isEnding_iff.mpr ⟨by rw [List.length_append, List.length_replicate]; exact hl, fun w hw => ?_⟩
  rcases List.mem_append.mp hw with hw | hw
  · exact q.2 w hw
  · rw [List.eq_of_mem_replicate hw]
    exact cut_ok
/-- the two rows of a loop without the word at n -/
def outB (B : List Str) (n : Nat) : List Str := if n < B.length then B.eraseIdx n else B
def outE (B E : List Str) (n : Nat) : List Str := if n < B.length then E else E.eraseIdx (n - B.length)
theorem out_row (B E : List Str) (n m : Nat) (hm : m = B.length - (if n < B.length then 1 else 0)) : ((B ++ E).take n ++ (B ++ E).drop (n + 1)).take m = outB B n ∧ ((B ++ E).take n ++ (B ++ E).drop (n + 1)).drop m = outE B E n := by
  rw [← List.eraseIdx_eq_take_drop_succ]
  unfold outB outE
  by_cases h : n < B.length
  · rw [if_pos h] at hm ⊢
    rw [if_pos h, List.eraseIdx_append_of_lt_length h]
    have e : m = (B.eraseIdx n).length := by rw [List.length_eraseIdx, if_pos h]; exact hm
    rw [e, List.take_left, List.drop_left]
    exact ⟨rfl, rfl⟩
  · rw [if_neg h] at hm ⊢
    rw [if_neg h, List.eraseIdx_append_of_length_le (by omega)]
    have e : m = B.length := by omega
    rw [e, List.take_left, List.drop_left]
    exact ⟨rfl, rfl⟩
theorem outB_round {B : List Str} {n : Nat} (h : isRound B = true) (hn : 1 ≤ n) : isRound (outB B n) = true := by
  unfold outB
  split
  · exact round_erase h hn
  · exact h
theorem outE_ending {B E : List Str} {n : Nat} (h : isEnding E = true) : isEnding (outE B E n) = true := by
  unfold outE
  split
  · exact h
  · exact ending_erase h
theorem out_len {B E : List Str} {n : Nat} (h : n < B.length + E.length) : (outB B n).length + (outE B E n).length + 1 = B.length + E.length := by
  unfold outB outE
  by_cases hn : n < B.length
  · rw [if_pos hn, if_pos hn, List.length_eraseIdx, if_pos hn]
    omega
  · rw [if_neg hn, if_neg hn, List.length_eraseIdx, if_pos (by omega)]
    omega
end LM

/-! words taken apart by split -/
namespace LM
open PySem L2 TL
def partsOk (w : Str) : Bool := decide ((orderOf w).2 ∈ rsteps) && (if (orderOf w).1 = Str.empty then decide (Txt.split w ":" = [(orderOf w).2]) else decide (Txt.split w ":" = [(orderOf w).1, (orderOf w).2]) && decide ((orderOf w).1 ∈ tests))
theorem parts_ok : ∀ w ∈ allWd rsteps, partsOk w = true := by decide +kernel
structure Parts (w : Str) : Prop where
  s : (orderOf w).2 ∈ rsteps
  p : ((orderOf w).1 = Str.empty ∧ Txt.split w ":" = [(orderOf w).2]) ∨ ((orderOf w).1 ≠ Str.empty ∧ Txt.split w ":" = [(orderOf w).1, (orderOf w).2] ∧ (orderOf w).1 ∈ tests)
theorem parts_of {w : Str} (h : Wd rsteps w) : Parts w := by
  have q := parts_ok w h.mem
  unfold partsOk at q
  have q2 := Bool.and_eq_true_iff.mp q
  refine ⟨of_decide_eq_true q2.1, ?_⟩
  have q3 := q2.2
  split at q3
  next e => exact .inl ⟨e, of_decide_eq_true q3⟩
  next e =>
    have q4 := Bool.and_eq_true_iff.mp q3
    exact .inr ⟨e, of_decide_eq_true q4.1, of_decide_eq_true q4.2⟩
theorem emp : Str.empty = ("" : Str) := by decide +kernel
theorem esteps_flow : ∀ w ∈ allWd esteps, (orderOf w).2 ≠ "again" ∧ (orderOf w).2 ≠ "stop" := by decide +kernel
theorem ending_flow {E : List Str} (h : isEnding E = true) : ∀ o ∈ E.map orderOf, o.2 ≠ "again" ∧ o.2 ≠ "stop" := by
  intro o ho
  obtain ⟨w, hw, rfl⟩ := List.mem_map.mp ho
  exact esteps_flow w (word_wd ((isEnding_iff.mp h).2 w hw)).mem
theorem ask_order : orderOf "ask" = (("" : Str), ("ask" : Str)) := by decide +kernel
theorem round_tail_wd {B : List Str} (h : isRound B = true) : ∃ r, B = ("ask" : Str) :: r ∧ (∀ w ∈ r, Wd rsteps w) ∧ r.length ≤ 11 := by
  obtain ⟨r, rfl, h2, _, h4⟩ := isRound_iff.mp h
  rw [List.length_cons] at h2
  exact ⟨r, rfl, fun w hw => word_wd (h4 w hw), by omega⟩
theorem ending_wd {E : List Str} (h : isEnding E = true) : (∀ w ∈ E, Wd rsteps w) ∧ E.length ≤ 6 := ⟨fun w hw => (word_wd ((isEnding_iff.mp h).2 w hw)).mono e_r, (isEnding_iff.mp h).1⟩
end LM

/-! the law's own execution -/
namespace My
open PySem L2 Cm LM EM
abbrev sPassed : Stmt := top 125
abbrev sSliced : Stmt := top 126
abbrev sDone : Stmt := top 127
abbrev sFed : Stmt := top 128
abbrev sBox : Stmt := top 129
/-! ### boxes -/
def bx (r u : Addr) (g : Nat) (ov : Bool) : List (Key × V) := [(.inr "rest", .ref r), (.inr "out", .ref u), (.inr "got", .int g), (.inr "over", .bl ov)]
section
variable (r u r' : Addr) (g : Nat) (ov b : Bool)
theorem bx_r : valV (bx r u g ov) (.inr "rest") = some (.ref r) := by kernel_rfl
theorem bx_u : valV (bx r u g ov) (.inr "out") = some (.ref u) := by kernel_rfl
theorem bx_g : valV (bx r u g ov) (.inr "got") = some (.int g) := by kernel_rfl
theorem bx_o : valV (bx r u g ov) (.inr "over") = some (.bl ov) := by kernel_rfl
theorem bx_pr : putK (bx r u g ov) (.inr "rest") (.ref r') = bx r' u g ov := by kernel_rfl
theorem bx_pu : putK (bx r u g ov) (.inr "out") (.ref r') = bx r r' g ov := by kernel_rfl
theorem bx_po : putK (bx r u g ov) (.inr "over") (.bl b) = bx r u g b := by kernel_rfl
theorem bx_mk : mergeK [] (bx r u g ov) = bx r u g ov := by kernel_rfl
theorem bx_len : (bx r u g ov).length = 4 := rfl
end
section
variable {H : Hp} {b0 r u : Addr} {g : Nat} {ov : Bool}
theorem get_r (h : H b0 = some (.dK (bx r u g ov))) : DGet H b0 (.str "rest") (some (.ref r)) := by
  have := DGet.k (k := Sum.inr "rest") h
  rw [bx_r] at this
  exact this
theorem get_u (h : H b0 = some (.dK (bx r u g ov))) : DGet H b0 (.str "out") (some (.ref u)) := by
  have := DGet.k (k := Sum.inr "out") h
  rw [bx_u] at this
  exact this
theorem get_g (h : H b0 = some (.dK (bx r u g ov))) : DGet H b0 (.str "got") (some (.int g)) := by
  have := DGet.k (k := Sum.inr "got") h
  rw [bx_g] at this
  exact this
theorem get_o (h : H b0 = some (.dK (bx r u g ov))) : DGet H b0 (.str "over") (some (.bl ov)) := by
  have := DGet.k (k := Sum.inr "over") h
  rw [bx_o] at this
  exact this
theorem dput_r (r' : Addr) (h : H b0 = some (.dK (bx r u g ov))) : DPut H b0 (.str "rest") (.ref r') (upd H b0 (.dK (bx r' u g ov))) := by
  have := DPut.k (k := Sum.inr "rest") (v := .ref r') h (by rw [bx_len]; decide)
  rw [bx_pr] at this
  exact this
theorem dput_u (r' : Addr) (h : H b0 = some (.dK (bx r u g ov))) : DPut H b0 (.str "out") (.ref r') (upd H b0 (.dK (bx r r' g ov))) := by
  have := DPut.k (k := Sum.inr "out") (v := .ref r') h (by rw [bx_len]; decide)
  rw [bx_pu] at this
  exact this
theorem dput_o (o' : Bool) (h : H b0 = some (.dK (bx r u g ov))) : DPut H b0 (.str "over") (.bl o') (upd H b0 (.dK (bx r u g o'))) := by
  have := DPut.k (k := Sum.inr "over") (v := .bl o') h (by rw [bx_len]; decide)
  rw [bx_po] at this
  exact this
end
theorem Pcs.app {H : Hp} : ∀ {vs xs ws ys}, Pcs H vs xs → Pcs H ws ys → Pcs H (vs ++ ws) (xs ++ ys)
  | _, _, _, _, .nil, h => h
  | _, _, _, _, .cons a t, h => .cons a (t.app h)
theorem Pcs.same {H H' : Hp} (s : Same H H') {vs xs} (h : Pcs H vs xs) : Pcs H' vs xs := h.mono fun _ _ e => s _ _ e
structure BoxAt (H : Hp) (b : Addr) (x : RP) (g : Nat) (ov : Bool) : Prop where
  ex : ∃ r u vs, H b = some (.dK (bx r u g ov)) ∧ H r = some (.lst (ivs x.rest)) ∧ H u = some (.lst vs) ∧ Pcs H vs x.pieces
theorem BoxAt.same {H H' : Hp} {b : Addr} {x : RP} {g : Nat} {ov : Bool} (s : Same H H') (h : BoxAt H b x g ov) : BoxAt H' b x g ov := let ⟨r, u, vs, a, b, c, d⟩ := h.ex; ⟨r, u, vs, s _ _ a, s _ _ b, s _ _ c, d.same s⟩
theorem BoxAt.off {j : Addr} {H H' : Hp} {b : Addr} {x : RP} {g : Nat} {ov : Bool} (s : Off j H H') (n : ∀ u, H j = some u → (∀ kvs, u ≠ .dK kvs) ∧ (∀ xs, u ≠ .tup xs) ∧ ∃ a b c : Int, u = .lst [.int a, .int b, .int c]) (jb : ∀ r u vs, H b = some (.dK (bx r u g ov)) → H r = some (.lst (ivs x.rest)) → H u = some (.lst vs) → r ≠ j ∧ u ≠ j ∧ b ≠ j) (tp : ∀ q xs, H q = some (.tup xs) → q ≠ j) (h : BoxAt H b x g ov) : BoxAt H' b x g ov := by
  obtain ⟨r, u, vs, h1, h2, h3, h4⟩ := h.ex
  obtain ⟨n1, n2, n3⟩ := jb r u vs h1 h2 h3
  exact ⟨r, u, vs, s _ _ n3 h1, s _ _ n1 h2, s _ _ n2 h3, h4.mono fun q xs e => s _ _ (tp q xs e) e⟩
/-! ### numbers as data -/
def intD (xs : List Int) : List PyData := xs.map PyData.int
theorem dpI {K : PySem.W.Frag} {H : Hp} : ∀ xs : List Int, DpAll K H (ivs xs) (intD xs)
  | [] => .nil
  | x :: r => .cons (.int x) (dpI r)
theorem intD_lay : ∀ xs : List Int, PyData.canLayAll0 (intD xs) = true
  | [] => by simp [intD, PyData.canLayAll0]
  | x :: r => by
    have := intD_lay r
    simp only [intD, List.map_cons, PyData.canLayAll0, PyData.canLay0, Bool.true_and] at this ⊢
    exact this
theorem intD_depth : ∀ xs : List Int, PyData.depthAll (intD xs) ≤ 1
  | [] => by simp [intD, PyData.depthAll]
  | x :: r => by
    have := intD_depth r
    simp only [intD, List.map_cons, PyData.depthAll, PyData.depth] at this ⊢
    omega
theorem intD_shaped (xs : List Int) : SeqAt.shaped (.list (intD xs)) = true := by
  have := intD_depth xs
  refine Bool.and_eq_true_iff.mpr ⟨by simp only [PyData.canLay0]; exact intD_lay xs, decide_eq_true ?_⟩
  simp only [PyData.depth]
  omega
theorem eqv_inil (xs : List Int) : PyData.eqv (.list (intD xs)) (.list []) = decide (xs = []) := by
  cases xs with
  | nil => simp [intD, PyData.eqv, PyData.eqvAll]
  | cons x r => simp [intD, PyData.eqv, PyData.eqvAll]
theorem pos_nil (xs : List Int) : decide (0 < xs.length) = !decide (xs = []) := by cases xs <;> simp
structure TxB (K : PySem.W.Frag) (mg : Str → Option Value) where
  J : TxtJ mg
  range : mg "range" = none
  tuple : mg "tuple" = none
  list : mg "list" = none
  pas : Df K mg "_law_passed" sPassed ["_law_test", "_law_got", "_law_box_here", "_law_said", "_law_wide"]
  sli : Df K mg "_law_sliced" sSliced ["_law_row_here", "_law_wide", "_law_many"]
  don : Df K mg "_law_done" sDone ["_law_words_here", "_law_got", "_law_box_here", "_law_said", "_law_wide"]
  fed : Df K mg "_law_fed" sFed ["_law_made", "_law_box_here", "_law_many", "_law_said", "_law_wide"]
  box : Df K mg "_law_box" sBox []
section
variable {P : Program} {w : World} {K : PySem.W.Frag} {mg : Str → Option Value} {base : Heap}
/-! ### _law_passed -/
def spPd : Sp := fun vs H Q _ => ∃ (ga b : Addr) (t : Str) (got : List Int) (x : RP) (g : Nat) (ov said : Bool) (wide : Nat), vs = [.str t, .ref ga, .ref b, .bl said, .int wide] ∧ t ∈ tests ∧ H ga = some (.lst (ivs got)) ∧ BoxAt H b x g ov ∧ ∀ H', Same H H' → Q (.bl (passM wide got said t x.rest)) H'
theorem scPd : FnScope ["_law_test", "_law_got", "_law_box_here", "_law_said", "_law_wide"] ["_law_test", "_law_got", "_law_box_here", "_law_said", "_law_wide"] (defScope sPassed) := ⟨rfl, rfl, rfl, by decide +kernel, rfl, by decide +kernel, by decide +kernel⟩
theorem pass_1 {wide : Nat} {got rest : List Int} {said : Bool} {t : Str} (h : t = "empty" ∨ t = "some") : passM wide got said t rest = decide (decide (got = []) = decide (t = "empty")) := by
  have e := pos_nil got
  rcases h with rfl | rfl
  · unfold passM
    rw [if_neg (by decide +kernel), if_neg (by decide +kernel), if_neg (by decide +kernel), if_pos (by decide +kernel), e, show decide (("empty" : Str) = "some") = false by decide +kernel, show decide (("empty" : Str) = "empty") = true by decide +kernel]
    cases decide (got = []) <;> rfl
  · unfold passM
    rw [if_neg (by decide +kernel), if_neg (by decide +kernel), if_neg (by decide +kernel), if_pos (by decide +kernel), e, show decide (("some" : Str) = "some") = true by decide +kernel, show decide (("some" : Str) = "empty") = false by decide +kernel]
    cases decide (got = []) <;> rfl
theorem pass_2 {wide : Nat} {got rest : List Int} {said : Bool} {t : Str} (h : t = "short" ∨ t = "full") : passM wide got said t rest = decide (decide (got.length < wide) = decide (t = "short")) := by
  rcases h with rfl | rfl
  · unfold passM
    rw [if_neg (by decide +kernel), if_neg (by decide +kernel), if_neg (by decide +kernel), if_neg (by decide +kernel)]
    rfl
  · unfold passM
    rw [if_neg (by decide +kernel), if_neg (by decide +kernel), if_neg (by decide +kernel), if_neg (by decide +kernel)]
    rfl
theorem pass_3 {wide : Nat} {got rest : List Int} {said : Bool} {t : Str} (h : t = "told" ∨ t = "open") : passM wide got said t rest = decide (said = decide (t = "told")) := by
  have h0 : ¬ t = "" := by rcases h with rfl | rfl <;> decide +kernel
  unfold passM
  rw [if_neg h0, if_pos h]
  rfl
theorem pass_4 {wide : Nat} {got rest : List Int} {said : Bool} {t : Str} (ht : t ∈ tests) (h1 : ¬ (t = "empty" ∨ t = "some")) (h2 : ¬ (t = "short" ∨ t = "full")) (h3 : ¬ (t = "told" ∨ t = "open")) : passM wide got said t rest = decide ((!decide (rest = [])) = decide (t = "rest")) := by
  have h4 : t = "rest" ∨ t = "bare" := by
    have h5 : t = "empty" ∨ t = "some" ∨ t = "short" ∨ t = "full" ∨ t = "told" ∨ t = "open" ∨ t = "rest" ∨ t = "bare" := by simpa [tests] using ht
    rcases h5 with h | h | h | h | h | h | h | h
    · exact absurd (.inl h) h1
    · exact absurd (.inr h) h1
    · exact absurd (.inl h) h2
    · exact absurd (.inr h) h2
    · exact absurd (.inl h) h3
    · exact absurd (.inr h) h3
    · exact .inl h
    · exact .inr h
  have h0 : ¬ t = "" := by rcases h4 with rfl | rfl <;> decide +kernel
  unfold passM
  rw [if_neg h0, if_neg h3, if_pos h4, pos_nil]
  rfl
theorem ok_pd (B : TxB K mg) : FnOk P w K mg base CX0 1 B.pas.f B.pas.fd ["_law_test", "_law_got", "_law_box_here", "_law_said", "_law_wide"] spPd := by
  refine B.pas.F.ok scPd (fun vs H Q E h => ?_) (fun cdv A outer s H vs Q E hr h => ?_)
  · obtain ⟨ga, b, t, got, x, g, ov, said, wide, rfl, _⟩ := h
    rfl
  · obtain ⟨ga, b, t, got, x, g, ov, said, wide, rfl, ht, hg, hB, k⟩ := h
    have hu := hu_of hr
    refine ⟨_, pss_cons (ps_if (pt_cmpR op_in_seq (pv 0) (pe_lst (pa_cons pe_str (pa_cons pe_str pa_nil))) (by rfl)) (pss_one (ps_ret (pe_cmpR op_eq (pe_cmpR (op_eqD (hu64 hr)) (pv 1) (pe_lst pa_nil) (nomark _)) (pe_cmpR op_eq (pv 0) pe_str (nomark _)) (nomark _)))) pss_nil)
      (pss_cons (ps_if (pt_cmpR op_in_seq (pv 0) (pe_lst (pa_cons pe_str (pa_cons pe_str pa_nil))) (by rfl)) (pss_one (ps_ret (pe_cmpR op_eq (pe_cmpR op_lt (pe_callB call_len_seq (by rfl) B.J.len PySem.boot_len (pa_cons (pv 1) pa_nil)) (pv 4) (nomark _)) (pe_cmpR op_eq (pv 0) pe_str (nomark _)) (nomark _)))) pss_nil)
      (pss_cons (ps_if (pt_cmpR op_in_seq (pv 0) (pe_lst (pa_cons pe_str (pa_cons pe_str pa_nil))) (by rfl)) (pss_one (ps_ret (pe_cmpR op_eq (pv 3) (pe_cmpR op_eq (pv 0) pe_str (nomark _)) (nomark _)))) pss_nil)
      (pss_one (ps_ret (pe_cmpR op_eq (pe_cmpR (op_neD (hu64 hr)) (pe_dget hu (pv 2) pe_str (fun _ _ => rfl)) (pe_lst pa_nil) (nomark _)) (pe_cmpR op_eq (pv 0) pe_str (nomark _)) (nomark _)))))), ?_⟩
    refine ⟨_, rfl, (by show 2 ≤ sizeLine; decide), fun t1 n1 => ⟨t1, _, rfl, .inl (SqL.of upd_same), rfl, rfl, _, rfl, ?_⟩⟩
    have s1 : Same H (upd H t1 (.lst [.str "empty", .str "some"])) := same_new n1
    generalize upd H t1 (.lst [.str "empty", .str "some"]) = H1 at s1 ⊢
    rw [show (if false = true then !inV (V.str t) [V.str "empty", V.str "some"] else inV (V.str t) [V.str "empty", V.str "some"]) = decide (t = "empty" ∨ t = "some") from in2 ..]
    by_cases h1 : t = "empty" ∨ t = "some"
    · rw [decide_eq_true h1]
      refine iteT ⟨_, rfl, Nat.zero_le _, fun e ne => ?_⟩
      refine ⟨.list (intD got), .list [], .lst (SqL.of (same_new ne _ _ (s1 _ _ hg))) (dpI got), .lst (SqL.of upd_same) .nil, intD_shaped _, by decide, _, rfl, rfl, rfl, ?_⟩
      rw [eqv_inil, dS, dB]
      have := k _ (Same.trans s1 (same_new (o := .lst []) ne))
      rw [pass_1 h1] at this
      exact this
    rw [decide_eq_false h1]
    refine iteF ?_
    refine ⟨_, rfl, (by show 2 ≤ sizeLine; decide), fun t2 n2 => ⟨t2, _, rfl, .inl (SqL.of upd_same), rfl, rfl, _, rfl, ?_⟩⟩
    have s2 : Same H (upd H1 t2 (.lst [.str "short", .str "full"])) := Same.trans s1 (same_new n2)
    generalize upd H1 t2 (.lst [.str "short", .str "full"]) = H2 at s2 ⊢
    rw [show (if false = true then !inV (V.str t) [V.str "short", V.str "full"] else inV (V.str t) [V.str "short", V.str "full"]) = decide (t = "short" ∨ t = "full") from in2 ..]
    by_cases h2 : t = "short" ∨ t = "full"
    · rw [decide_eq_true h2]
      refine iteT ⟨_, rfl, ga, _, rfl, .inl (SqL.of (s2 _ _ hg)), _, rfl, _, _, rfl, rfl, _, rfl, rfl, rfl, ?_⟩
      rw [dS, dB, ivs_len, lt_dec]
      have := k _ s2
      rw [pass_2 h2] at this
      exact this
    rw [decide_eq_false h2]
    refine iteF ?_
    refine ⟨_, rfl, (by show 2 ≤ sizeLine; decide), fun t3 n3 => ⟨t3, _, rfl, .inl (SqL.of upd_same), rfl, rfl, _, rfl, ?_⟩⟩
    have s3 : Same H (upd H2 t3 (.lst [.str "told", .str "open"])) := Same.trans s2 (same_new n3)
    generalize upd H2 t3 (.lst [.str "told", .str "open"]) = H3 at s3 ⊢
    rw [show (if false = true then !inV (V.str t) [V.str "told", V.str "open"] else inV (V.str t) [V.str "told", V.str "open"]) = decide (t = "told" ∨ t = "open") from in2 ..]
    by_cases h3 : t = "told" ∨ t = "open"
    · rw [decide_eq_true h3]
      refine iteT ⟨_, rfl, _, rfl, rfl, rfl, ?_⟩
      rw [dS, dB]
      have := k _ s3
      rw [pass_3 h3] at this
      exact this
    rw [decide_eq_false h3]
    refine iteF ?_
    obtain ⟨r, u, vs, hb, hr1, hu1, hP⟩ := (hB.same s3).ex
    refine ⟨_, rfl, b, _, rfl, get_r hb, Nat.zero_le _, fun e ne => ?_⟩
    refine ⟨.list (intD x.rest), .list [], .lst (SqL.of (same_new ne _ _ hr1)) (dpI _), .lst (SqL.of upd_same) .nil, intD_shaped _, by decide, _, rfl, rfl, rfl, ?_⟩
    rw [eqv_inil, dS, dB]
    have := k _ (Same.trans s3 (same_new (o := .lst []) ne))
    rw [pass_4 ht h1 h2 h3] at this
    exact this
/-! ### _law_sliced -/
def spSl : Sp := fun vs H Q _ => ∃ (ra : Addr) (row : List Int) (wide many : Nat), vs = [.ref ra, .int wide, .int many] ∧ H ra = some (.lst (ivs row)) ∧ wide ≤ 1000 ∧ many * wide ≤ row.length ∧ row.length ≤ 4000000 ∧ many ≤ 4000000 ∧ ∀ (H' : Hp) (q : Addr) (vs : List V), Same H H' → H' q = some (.lst vs) → Pcs H' vs (cutN wide row many) → Q (.ref q) H'
theorem scSl : FnScope ["_law_row_here", "_law_wide", "_law_many", "_law_k"] ["_law_row_here", "_law_wide", "_law_many"] (defScope sSliced) := ⟨rfl, rfl, rfl, by decide +kernel, rfl, by decide +kernel, by decide +kernel⟩
/-- tuple(row[k * wide:k * wide + wide]) -/
def teSl : TE := fun σ H Q => ∃ (ra : Addr) (row : List Int) (wide k : Nat), σ[0]? = some (some (.ref ra)) ∧ σ[1]? = some (some (.int wide)) ∧ σ[3]? = some (some (.int k)) ∧ H ra = some (.lst (ivs row)) ∧ wide ≤ 1000 ∧ k * wide + wide ≤ row.length ∧
  ∀ (H' : Hp) (q : Addr), Same H H' → H' q = some (.tup (ivs ((row.drop (k * wide)).take wide))) → Q (.ref q) H'
theorem ok_sl (B : TxB K mg) : FnOk P w K mg base CX0 1 B.sli.f B.sli.fd ["_law_row_here", "_law_wide", "_law_many"] spSl := by
  refine B.sli.F.ok scSl (fun vs H Q E h => ?_) (fun cdv A outer s H vs Q E hr h => ?_)
  · obtain ⟨ra, row, wide, many, rfl, _⟩ := h
    rfl
  · obtain ⟨ra, row, wide, many, rfl, hra, w1, l1, l2, l3, k⟩ := h
    refine ⟨_, pss_one (ps_ret (pe_lc (own := [("_law_k", 3)]) (g := gName 3) (tt := tYes) (te := teSl) rfl scSl.nd (pi_range1 rfl B.range (pa_cons (pv 2) pa_nil)) (blkOk_by (own := [("_law_k", 3)]) (N := ["_law_row_here", "_law_wide", "_law_many", "_law_k"]) (sc := defScope sSliced) (by decide +kernel))
      (fun _ _ _ _ _ => pg_name (i := 3) scSl.nd rfl (Or.inl rfl)) (fun _ _ _ _ _ => pts_nil)
      (fun _ _ _ _ _ => pe_imp (pe_callTy call_tuple_of (by rfl) B.tuple (by decide +kernel) (pa_cons (pe_slice sl_list (pv 0) (po_some (pe_op op_mul (pv 3) (pv 1))) (po_some (pe_op op_add (pe_op op_mul (pv 3) (pv 1)) (pv 1)))) pa_nil)) (by
        rintro σ H Q ⟨ra, row, wide, k, h0, h1, h3, hra, w1, l1, q⟩
        refine ⟨_, h0, _, h3, _, h1, _, _, rfl, rfl, .inr ⟨by omega, by omega⟩, ((k * wide : Nat) : Int), by rw [Int.natCast_mul], _, h3, _, h1, _, _, rfl, rfl, .inr ⟨by omega, by omega⟩, _, h1, _, _, rfl, rfl, ((k * wide + wide : Nat) : Int), by rw [Int.natCast_add, Int.natCast_mul], ra, _, rfl, SqL.of hra, fun p np => ?_⟩
        refine ⟨p, _, rfl, .inl ⟨SqL.of upd_same, fun l nl => ?_⟩⟩
        refine q _ l (Same.trans (same_new np) (same_new nl)) ?_
        rw [upd_same, cut_mid _ _ _ (by omega) (by rw [ivs_len]; exact l1), show k * wide + wide - k * wide = wide by omega]
        simp [ivs, List.map_take, List.map_drop])))), ?_⟩
    refine ⟨_, rfl, many, rfl, by omega, by omega, fun D nD => ?_⟩
    refine lc_range (lo := 0) (n := ((many : Int)).toNat) (fun i H' => Same H H' ∧ ∃ vs, H' D = some (.lst vs) ∧ Pcs H' vs (cutN wide row i)) ⟨same_new nD, [], upd_same, .nil⟩ ?_ ?_
    · rintro i H1 hi ⟨s1, vs, hD, hP⟩
      have hi : i < many := by simpa using hi
      have m1 : (i + 1) * wide ≤ row.length := Nat.le_trans (Nat.mul_le_mul_right _ hi) l1
      have m2 : (i + 1) * wide = i * wide + wide := Nat.succ_mul i wide
      refine ⟨rfl, ra, row, wide, i, rfl, rfl, by rw [Int.zero_add]; rfl, s1 _ _ hra, w1, by omega, fun H2 q s2 hq => ?_⟩
      have hD2 := s2 _ _ hD
      have st := tup_stays (o' := .lst (vs ++ [.ref q])) hD2 (by intro xs z; cases z)
      have lp := hP.len
      refine ⟨vs, hD2, ?_, fun b o e => ?_, _, upd_same, ?_⟩
      · rw [lp, cutN, List.length_map, List.length_range]
        exact Nat.lt_of_le_of_lt (show i ≤ 4000000 by omega) (by decide)
      · rw [upd_ne (ne_of_none e nD)]
        exact s2 _ _ (s1 _ _ e)
      · rw [cutN_succ]
        exact Pcs.snoc (st _ _ hq) ((hP.same s2).mono st)
    · rintro H1 ⟨s1, vs, hD, hP⟩
      exact k H1 D vs s1 hD (by simpa using hP)
end
end My

namespace My
open PySem L2 Cm LM EM
section
variable {P : Program} {w : World} {K : PySem.W.Frag} {mg : Str → Option Value} {base : Heap}
/-- a box whose lists are not the jar -/
structure BoxJ (j : Addr) (H : Hp) (b : Addr) (x : RP) (g : Nat) (ov : Bool) : Prop where
  ex : ∃ r u vs, H b = some (.dK (bx r u g ov)) ∧ H r = some (.lst (ivs x.rest)) ∧ H u = some (.lst vs) ∧ Pcs H vs x.pieces ∧ r ≠ j ∧ u ≠ j
theorem BoxJ.at {j : Addr} {H : Hp} {b : Addr} {x : RP} {g : Nat} {ov : Bool} (h : BoxJ j H b x g ov) : BoxAt H b x g ov := let ⟨r, u, vs, a, b, c, d, _⟩ := h.ex; ⟨r, u, vs, a, b, c, d⟩
theorem BoxJ.same {j : Addr} {H H' : Hp} {b : Addr} {x : RP} {g : Nat} {ov : Bool} (s : Same H H') (h : BoxJ j H b x g ov) : BoxJ j H' b x g ov := let ⟨r, u, vs, a, b, c, d, e⟩ := h.ex; ⟨r, u, vs, s _ _ a, s _ _ b, s _ _ c, d.same s, e⟩
theorem BoxJ.off {j : Addr} {H H' : Hp} {b : Addr} {x : RP} {g : Nat} {ov : Bool} (s : Off j H H') (hj : Jar H j) (h : BoxJ j H b x g ov) : BoxJ j H' b x g ov := by
  obtain ⟨r, u, vs, a, b, c, d, e, f⟩ := h.ex
  obtain ⟨x, y, z, q⟩ := hj
  exact ⟨r, u, vs, s _ _ (ne_of a q (by intro z; cases z)) a, s _ _ e b, s _ _ f c, d.mono (fun p xs k => s _ _ (ne_of k q (by intro z; cases z)) k), e, f⟩
/-- a list somewhere -/
def Lsj (H : Hp) (j : Addr) : Prop := ∃ xs, H j = some (.lst xs)
theorem Lsj.new {H : Hp} {j p : Addr} {o : HO} (a : Lsj H j) (n : H p = none) : Lsj (upd H p o) j := by
  obtain ⟨xs, h⟩ := a
  exact ⟨xs, by rw [upd_ne (ne_of_none h n)]; exact h⟩
theorem Lsj.same {H H' : Hp} {j : Addr} (a : Lsj H j) (s : Same H H') : Lsj H' j := by
  obtain ⟨xs, h⟩ := a
  exact ⟨xs, s _ _ h⟩
theorem Jar.lsj {H : Hp} {j : Addr} (a : Jar H j) : Lsj H j := by
  obtain ⟨x, y, z, h⟩ := a
  exact ⟨_, h⟩
/-! ### _law_done -/
def ords (ws : List Str) : List (Str × Str) := ws.map orderOf
def spDn (j : Addr) : Sp := fun vs H Q _ => ∃ (wa ga b : Addr) (ws : List Str) (got : List Int) (x : RP) (g : Nat) (ov said : Bool) (wide k c : Nat), vs = [.ref wa, .ref ga, .ref b, .bl said, .int wide] ∧ H wa = some (.lst (svs ws)) ∧ (∀ z ∈ ws, Wd rsteps z) ∧ ws.length ≤ 12 ∧ H ga = some (.lst (ivs got)) ∧ BoxJ j H b x g ov ∧ Lsj H j ∧ FitK wide got k c x ∧ k ≤ 2400 ∧ c ≤ 7800000 ∧
  ∀ (H' : Hp) (z : Str), Off b H H' → BoxJ j H' b (runW wide got said (ords ws) x).1 g ov → decide (z = "stop") = (runW wide got said (ords ws) x).2 → Q (.str z) H'
theorem scDn : FnScope ["_law_words_here", "_law_got", "_law_box_here", "_law_said", "_law_wide", "_law_word_here", "_law_parts", "_law_many"] ["_law_words_here", "_law_got", "_law_box_here", "_law_said", "_law_wide"] (defScope sDone) := ⟨rfl, rfl, rfl, by decide +kernel, rfl, by decide +kernel, by decide +kernel⟩
/-- its test is not passed -/
def tSkip : TT := fun σ H Q => ∃ (q ga b : Addr) (wd : Str) (got : List Int) (x : RP) (g : Nat) (ov said : Bool) (wide : Nat), σ[6]? = some (some (.ref q)) ∧ σ[1]? = some (some (.ref ga)) ∧ σ[2]? = some (some (.ref b)) ∧ σ[3]? = some (some (.bl said)) ∧ σ[4]? = some (some (.int wide)) ∧ Parts wd ∧ H q = some (.lst (svs (Txt.split wd ":"))) ∧ H ga = some (.lst (ivs got)) ∧ BoxAt H b x g ov ∧
  ∀ H', Same H H' → Q (!(passM wide got said (orderOf wd).1 x.rest)) H'
theorem pass_0 {wide : Nat} {got rest : List Int} {said : Bool} : passM wide got said "" rest = true := by
  unfold passM
  rw [if_pos rfl]
theorem parts_last {wd : Str} (h : Parts wd) : ∃ pre, svs (Txt.split wd ":") = pre ++ [.str (orderOf wd).2] := by
  rcases h.p with ⟨_, e⟩ | ⟨_, e, _⟩
  · exact ⟨[], by rw [e]; rfl⟩
  · exact ⟨[.str (orderOf wd).1], by rw [e]; rfl⟩
theorem box_put {j : Addr} {H H1 : Hp} {b r u r' u' : Addr} {g : Nat} {ov : Bool} {x x' : RP} {vs' : List V} (hb : H b = some (.dK (bx r u g ov))) (h1 : H r' = some (.lst (ivs x'.rest))) (h2 : H u' = some (.lst vs')) (h3 : Pcs H vs' x'.pieces) (n3 : r' ≠ j) (n4 : u' ≠ j) : BoxJ j (upd H b (.dK (bx r' u' g ov))) b x' g ov := by
  have n1 : r' ≠ b := ne_of h1 hb (by intro z; cases z)
  have n2 : u' ≠ b := ne_of h2 hb (by intro z; cases z)
  exact ⟨r', u', vs', upd_same, by rw [upd_ne n1]; exact h1, by rw [upd_ne n2]; exact h2, h3.mono (tup_stays hb (by intro xs z; cases z)), n3, n4⟩
theorem ok_dn (B : TxB K mg) (j : Addr) : FnOk P w K mg base CX0 2 B.don.f B.don.fd ["_law_words_here", "_law_got", "_law_box_here", "_law_said", "_law_wide"] (spDn j) := by
  have GP : FnOk P w K mg base CX0 1 B.pas.f B.pas.fd ["_law_test", "_law_got", "_law_box_here", "_law_said", "_law_wide"] spPd := ok_pd B
  have GS : FnOk P w K mg base CX0 1 B.sli.f B.sli.fd ["_law_row_here", "_law_wide", "_law_many"] spSl := ok_sl B
  refine B.don.F.ok scDn (fun vs H Q E h => ?_) (fun cdv A outer s H vs Q E hr h => ?_)
  · obtain ⟨wa, ga, b, ws, got, x, g, ov, said, wide, k, c, rfl, _⟩ := h
    rfl
  · obtain ⟨wa, ga, b, ws, got, x, g, ov, said, wide, kk, cc, rfl, hwa, hwd, lws, hga, hB, hJ, hF, hk, hc, k⟩ := h
    have hu := hu_of hr
    refine ⟨_, (pss_cons (ps_for PassesOwn.never rfl (pi_list (pv 0)) (pg_name (i := 5) scDn.nd rfl (.inl rfl)) (pss_cons (ps_set (i := 6) scDn.nd rfl (.inl rfl) (pe_split (pv 5) pe_str)) (pss_cons (ps_if (pt_imp (t' := tSkip) (PW.pt (pw_and (pt_cmpR op_eq (pe_callB call_len_seq (by rfl) B.J.len PySem.boot_len (pa_cons (pv 6) pa_nil)) pe_int (nomark _)) (pw_and1 (pt_not (pt_val (pe_call GP hr rfl B.pas.g B.pas.k B.pas.b .nil pass0 (pa_cons (pe_ix ix_list (pv 6) pe_int (fun _ _ => rfl)) (pa_cons (pv 1) (pa_cons (pv 2) (pa_cons (pv 3) (pa_cons (pv 4) pa_nil))))))))))) ?imp) (pss_one ps_continue) pss_nil) (pss_cons (ps_if (pt_cmpR op_in_seq (pe_ix ix_list (pv 6) (pe_un un_neg pe_int) (fun _ _ => rfl)) (pe_lst (pa_cons pe_str (pa_cons pe_str pa_nil))) (by rfl)) (pss_one (ps_ret (pe_ix ix_list (pv 6) (pe_un un_neg pe_int) (fun _ _ => rfl)))) pss_nil) (pss_one (ps_if (pt_cmpR op_eq (pe_ix ix_list (pv 6) (pe_un un_neg pe_int) (fun _ _ => rfl)) pe_str (nomark _)) (pss_one (ps_dput hu (pv 2) pe_str (pe_op op_cat (pe_dget hu (pv 2) pe_str (fun _ _ => rfl)) (pv 1)) rfl)) (pss_one (ps_if (pt_cmpR op_eq (pe_ix ix_list (pv 6) (pe_un un_neg pe_int) (fun _ _ => rfl)) pe_str (nomark _)) (pss_one (ps_dput hu (pv 2) pe_str (pe_op op_cat (pe_dget hu (pv 2) pe_str (fun _ _ => rfl)) (pe_lst (pa_cons (pe_callTy call_tuple_of (by rfl) B.tuple (by decide +kernel) (pa_cons (pv 1) pa_nil)) pa_nil))) rfl)) (pss_one (ps_if (pt_cmpR op_eq (pe_ix ix_list (pv 6) (pe_un un_neg pe_int) (fun _ _ => rfl)) pe_str (nomark _)) (pss_one (ps_asg (pe_tup (pa_cons (pe_op op_cat (pe_dget hu (pv 2) pe_str (fun _ _ => rfl)) (pe_lst (pa_cons (pe_callTy call_tuple_of (by rfl) B.tuple (by decide +kernel) (pa_cons (pe_dget hu (pv 2) pe_str (fun _ _ => rfl)) pa_nil)) pa_nil))) (pa_cons (pe_lst pa_nil) pa_nil))) (pg_tup rfl (pgs_cons (pg_sub (pv 2) pe_str (set_dict hu)) (pgs_cons (pg_sub (pv 2) pe_str (set_dict hu)) pgs_nil))))) (pss_cons (ps_set (i := 7) scDn.nd rfl (.inl rfl) (pe_op op_fdiv (pe_callB call_len_seq (by rfl) B.J.len PySem.boot_len (pa_cons (pe_dget hu (pv 2) pe_str (fun _ _ => rfl)) pa_nil)) (pv 4))) (pss_cons (ps_dput hu (pv 2) pe_str (pe_op op_cat (pe_dget hu (pv 2) pe_str (fun _ _ => rfl)) (pe_call GS hr rfl B.sli.g B.sli.k B.sli.b .nil pass0 (pa_cons (pe_dget hu (pv 2) pe_str (fun _ _ => rfl)) (pa_cons (pv 4) (pa_cons (pv 7) pa_nil))))) rfl) (pss_one (ps_dput hu (pv 2) pe_str (pe_slice sl_list (pe_dget hu (pv 2) pe_str (fun _ _ => rfl)) (po_some (pe_op op_mul (pv 7) (pv 4))) po_none) rfl)))))))))))))) (pss_one (ps_ret pe_str))), ?_⟩
    case imp =>
      rintro σ H1 Q1 ⟨q, ga, b, wd, got, x, g, ov, said, wide, h6, h1, h2, h3, h4, hp, hq, hga, hB, k⟩
      refine ⟨_, h6, q, _, rfl, .inl (SqL.of hq), rfl, _, rfl, ?_⟩
      rw [dI]
      rcases hp.p with ⟨e1, e2⟩ | ⟨e1, e2, e3⟩
      · rw [e2, decide_eq_false (by show ¬ ((1 : Int)) = 2; decide)]
        have k1 := k H1 (Same.refl _)
        rw [e1, emp, pass_0] at k1
        exact iteF k1
      · rw [e2, decide_eq_true (by show ((2 : Int)) = 2; rfl)]
        rw [e2] at hq
        refine iteT ⟨_, h6, q, _, 0, _, rfl, rfl, SqL.of hq, rfl, _, h1, _, h2, _, h3, _, h4, ga, b, _, got, x, g, ov, said, wide, rfl, e3, hga, hB, fun H2 s2 => ⟨_, rfl, k H2 s2⟩⟩
    have lw : (svs ws).length = ws.length := svs_len' ws
    refine ⟨_, rfl, wa, rfl, ⟨_, SqL.of hwa⟩, ?_⟩
    obtain ⟨r0, u0, vs0, hb0, _⟩ := id hB.ex
    have nj : ∀ {Hx : Hp} {q : Addr}, Off b H Hx → Hx q = none → q ≠ j := fun {Hx q} o n z => by
      obtain ⟨xs1, hj⟩ := hJ
      have e := o j _ (ne_of hj hb0 (by intro z; cases z)) hj
      rw [z, e] at n
      cases n
    have wb : wa ≠ b := ne_of hwa hb0 (by intro z; cases z)
    have gb : ga ≠ b := ne_of hga hb0 (by intro z; cases z)
    refine for_list (K := K) (a := wa) (xs := svs ws) (fun i σ H' => ∃ v5 v6 v7, σ = [some (.ref wa), some (.ref ga), some (.ref b), some (.bl said), some (.int wide), v5, v6, v7] ∧ Off b H H' ∧ BoxJ j H' b (runW wide got said ((ords ws).take i) x).1 g ov ∧ goes wide got said ((ords ws).take i) x = true) ⟨none, none, none, rfl, Off.refl, hB, rfl⟩ (fun i σ H' _ ⟨_, _, _, _, o1, _⟩ => SqL.of (o1 _ _ wb hwa)) ?_ ?_
    · rintro i y σ H1 hy ⟨v5, v6, v7, rfl, o1, B1, g1⟩
      obtain ⟨wd, hwi, rfl⟩ := svs_get hy
      have hod : (ords ws)[i]? = some (orderOf wd) := by rw [ords, List.getElem?_map, hwi]; rfl
      have lo : (ords ws).length = ws.length := List.length_map ..
      have li : i < (ords ws).length := lt_of_get hod
      have Wz := hwd wd (List.mem_of_getElem? hwi)
      have hP := parts_of Wz
      have hL : wd.length ≤ 11 := (wd_fs Wz).2
      refine ⟨_, rfl, ⟨_, rfl⟩, wd, ":", rfl, rfl, by decide +kernel, Nat.le_trans (Nat.add_le_add_right hL 2) (by decide), fun q nq => ?_⟩
      have s2 : Same H1 (upd H1 q (.lst (svs (Txt.split wd ":")))) := same_new nq
      have hq2 : (upd H1 q (.lst (svs (Txt.split wd ":")))) q = some (.lst (svs (Txt.split wd ":"))) := upd_same
      show tSeq _ _ _ _ (upd H1 q (.lst (svs (Txt.split wd ":"))))
      generalize upd H1 q (.lst (svs (Txt.split wd ":"))) = H2 at s2 hq2 ⊢
      have B2 := B1.same s2
      have o2 : Off b H H2 := o1.trans (Same.off s2)
      -- the mathematics of this word
      have tk : (ords ws).take (i + 1) = (ords ws).take i ++ [orderOf wd] := take_snoc hod
      have rg := run_goes wide got said ((ords ws).take i) [orderOf wd] x g1
      rw [← tk] at rg
      have rw1 : ords ws = (ords ws).take i ++ (orderOf wd :: (ords ws).drop (i + 1)) := by
        have e := List.take_append_drop i (ords ws)
        rw [List.drop_eq_getElem_cons li] at e
        have : (ords ws)[i] = orderOf wd := (List.getElem?_eq_some_iff.mp hod).2
        rw [this] at e
        exact e.symm
      have rgs := (run_goes wide got said ((ords ws).take i) (orderOf wd :: (ords ws).drop (i + 1)) x g1).1
      rw [← rw1] at rgs
      have fe := few_run (told := said) hF.s1 hF.h ((ords ws).take i) kk cc x hF.f
      have lt : ((ords ws).take i).length ≤ 12 := by rw [List.length_take]; omega
      have fk : FitK wide got (kk + 12) (cc + 12 * (kk + 12)) (runW wide got said ((ords ws).take i) x).1 := ⟨hF.s1, hF.s2, hF.h, by omega, by omega, fe.mono (by omega) (Nat.add_le_add_left (Nat.mul_le_mul lt (by omega)) _)⟩
      generalize hy0 : (runW wide got said ((ords ws).take i) x).1 = y at rg rgs fk B1 B2
      have r1e := rg.1
      have r2e := rg.2.1
      obtain ⟨pre, hpre⟩ := parts_last hP
      have sR := hP.s
      have hqd : orderOf wd = ((orderOf wd).1, (orderOf wd).2) := rfl
      rw [hqd, runW_cons] at rgs
      rw [hqd, runW_cons] at r1e
      rw [hqd, goes_cons] at r2e
      have hga2 := o2 _ _ gb hga
      refine ⟨q, ga, b, wd, got, y, g, ov, said, wide, rfl, rfl, rfl, rfl, rfl, hP, hq2, hga2, B2.at, fun H3 s3 => ?_⟩
      have B3 := B2.same s3
      have o3 : Off b H H3 := o2.trans (Same.off s3)
      have hq3 := s3 _ _ hq2
      have hga3 := s3 _ _ hga2
      rw [hpre] at hq3
      generalize (orderOf wd).1 = t1 at rgs r1e r2e ⊢
      generalize (orderOf wd).2 = s1 at rgs r1e r2e sR hq3 ⊢
      clear hq2 hga2 B2 o2 s2 s3 hP hpre rg rw1 hqd hod
      by_cases cp : passM wide got said t1 y.rest = true
      rotate_left
      · rw [Bool.eq_false_iff.mpr cp]
        rw [if_neg cp] at r1e r2e
        exact iteT ⟨_, _, _, rfl, o3, by rw [r1e]; exact B3, r2e⟩
      rw [cp]
      rw [if_pos cp] at rgs r1e r2e
      refine iteF ?_
      -- stop, again
      refine ⟨_, rfl, _, rfl, q, _, -1, _, rfl, rfl, SqL.of hq3, atI_last _ _, (by show 2 ≤ sizeLine; decide), fun l nl => ⟨l, _, rfl, .inl (SqL.of upd_same), rfl, rfl, _, rfl, ?_⟩⟩
      have s4 : Same H3 (upd H3 l (.lst [.str "stop", .str "again"])) := same_new nl
      generalize upd H3 l (.lst [.str "stop", .str "again"]) = H4 at s4 ⊢
      have B4 := B3.same s4
      have o4 : Off b H H4 := o3.trans (Same.off s4)
      have hq4 := s4 _ _ hq3
      have hga4 := s4 _ _ hga3
      clear B3 o3 hq3 hga3 s4
      rw [show (if false = true then !inV (V.str s1) [V.str "stop", V.str "again"] else inV (V.str s1) [V.str "stop", V.str "again"]) = decide (s1 = "stop" ∨ s1 = "again") from in2 ..]
      by_cases cs : s1 = "stop" ∨ s1 = "again"
      · rw [decide_eq_true cs]
        refine iteT ⟨_, rfl, _, rfl, q, _, -1, _, rfl, rfl, SqL.of hq4, atI_last _ _, ?_⟩
        refine k _ _ o4 ?_ ?_
        · rw [rgs]
          split
          · exact B4
          · rcases cs with c | c
            · rw [if_pos c]; exact B4
            · exact absurd c ‹_›
        · rw [rgs]
          rcases cs with c | c
          · rw [c, if_neg (by decide +kernel), if_pos rfl]
            rfl
          · rw [c, if_pos rfl]
            show decide (("again" : Str) = "stop") = false
            decide +kernel
      rw [decide_eq_false cs]
      refine iteF ?_
      have c1 : ¬ s1 = "again" := fun z => cs (.inr z)
      have c2 : ¬ s1 = "stop" := fun z => cs (.inl z)
      rw [if_neg c1, if_neg c2] at r1e r2e
      obtain ⟨r4, u4, vs4, hb4, hr4, hu4, hP4, nr4, nu4⟩ := id B4.ex
      have fit := fk.fit
      have f1 := fit.r
      have f2 := fit.p
      have f3 := fit.h
      have f4 := fit.s1
      have f5 := fit.s2
      have lp4 := hP4.len
      have done : ∀ H5 v5 v6 v7, Off b H H5 → BoxJ j H5 b (perfM wide got s1 y) g ov → ∃ w5 w6 w7 : Option V, ([some (.ref wa), some (.ref ga), some (.ref b), some (.bl said), some (.int wide), v5, v6, v7] : St) = [some (.ref wa), some (.ref ga), some (.ref b), some (.bl said), some (.int wide), w5, w6, w7] ∧ Off b H H5 ∧ BoxJ j H5 b (runW wide got said ((ords ws).take (i + 1)) x).1 g ov ∧ goes wide got said ((ords ws).take (i + 1)) x = true := fun H5 v5 v6 v7 o5 B5 => ⟨_, _, _, rfl, o5, by rw [r1e]; exact B5, r2e⟩
      refine ⟨_, rfl, _, rfl, q, _, -1, _, rfl, rfl, SqL.of hq4, atI_last _ _, rfl, _, rfl, ?_⟩
      rw [dS]
      by_cases ca : s1 = "add"
      · rw [decide_eq_true ca]
        refine iteT ⟨_, rfl, b, _, rfl, get_r hb4, _, rfl, r4, ga, _, _, rfl, rfl, hr4, hga4, ?_, fun p np => ?_⟩
        · rw [ivs_len, ivs_len]
          exact Nat.le_trans (show y.rest.length + got.length ≤ 4000000 by omega) (by decide)
        have hb5 := same_new (o := .lst (ivs y.rest ++ ivs got)) np _ _ hb4
        refine ⟨_, rfl, b, _, rfl, dput_r p hb5, ?_⟩
        refine done _ _ _ _ (o4.new np).put ?_
        have e : perfM wide got s1 y = ⟨y.rest ++ got, y.pieces⟩ := by unfold perfM; rw [if_pos ca]
        rw [e]
        exact box_put (x := y) (H1 := H4) hb5 (by rw [upd_same]; simp [ivs]) (same_new np _ _ hu4) (hP4.same (same_new np)) (nj o4 np) nu4
      rw [decide_eq_false ca]
      refine iteF ⟨_, rfl, _, rfl, q, _, -1, _, rfl, rfl, SqL.of hq4, atI_last _ _, rfl, _, rfl, ?_⟩
      rw [dS]
      by_cases ch : s1 = "hand"
      · rw [decide_eq_true ch]
        refine iteT ⟨_, rfl, b, _, rfl, get_u hb4, _, rfl, ga, _, rfl, .inl ⟨SqL.of hga4, fun tq ntq => ?_⟩⟩
        refine ⟨(by show 1 ≤ sizeLine; decide), fun lq nlq => ?_⟩
        refine ⟨u4, lq, _, _, rfl, rfl, same_new nlq _ _ (same_new ntq _ _ hu4), upd_same, ?_, fun p np => ?_⟩
        · rw [lp4]
          exact Nat.le_trans (show y.pieces.length + 1 ≤ 9000000 by omega) (by decide)
        have s5 : Same H4 (upd (upd (upd H4 tq (.tup (ivs got))) lq (.lst [.ref tq])) p (.lst (vs4 ++ [.ref tq]))) := Same.trans (same_new ntq) (Same.trans (same_new nlq) (same_new np))
        have hb5 := s5 _ _ hb4
        refine ⟨_, rfl, b, _, rfl, dput_u p hb5, ?_⟩
        refine done _ _ _ _ (o4.trans (Same.off s5)).put ?_
        have e : perfM wide got s1 y = ⟨y.rest, y.pieces ++ [got]⟩ := by unfold perfM; rw [if_neg ca, if_pos ch]
        rw [e]
        exact box_put (x := y) (H1 := H4) hb5 (s5 _ _ hr4) upd_same (Pcs.snoc (same_new np _ _ (same_new nlq _ _ upd_same)) (hP4.same s5)) nr4 (nj (o4.trans (Same.off (Same.trans (same_new ntq) (same_new nlq)))) np)
      rw [decide_eq_false ch]
      refine iteF ⟨_, rfl, _, rfl, q, _, -1, _, rfl, rfl, SqL.of hq4, atI_last _ _, rfl, _, rfl, ?_⟩
      rw [dS]
      by_cases cf : s1 = "flush"
      · rw [decide_eq_true cf]
        have cc' : ¬ s1 = "cut" := by rw [cf]; decide +kernel
        refine iteT ⟨_, rfl, b, _, rfl, get_u hb4, _, rfl, b, _, rfl, get_r hb4, r4, _, rfl, .inl ⟨SqL.of hr4, fun tq ntq => ?_⟩⟩
        refine ⟨(by show 1 ≤ sizeLine; decide), fun lq nlq => ?_⟩
        refine ⟨u4, lq, _, _, rfl, rfl, same_new nlq _ _ (same_new ntq _ _ hu4), upd_same, ?_, fun p np => ?_⟩
        · rw [lp4]
          exact Nat.le_trans (show y.pieces.length + 1 ≤ 9000000 by omega) (by decide)
        have s5 : Same H4 (upd (upd (upd H4 tq (.tup (ivs y.rest))) lq (.lst [.ref tq])) p (.lst (vs4 ++ [.ref tq]))) := Same.trans (same_new ntq) (Same.trans (same_new nlq) (same_new np))
        have hp5 : (upd (upd (upd H4 tq (.tup (ivs y.rest))) lq (.lst [.ref tq])) p (.lst (vs4 ++ [.ref tq]))) p = some (.lst (vs4 ++ [.ref tq])) := upd_same
        have ht5 : (upd (upd (upd H4 tq (.tup (ivs y.rest))) lq (.lst [.ref tq])) p (.lst (vs4 ++ [.ref tq]))) tq = some (.tup (ivs y.rest)) := same_new np _ _ (same_new nlq _ _ upd_same)
        generalize upd (upd (upd H4 tq (.tup (ivs y.rest))) lq (.lst [.ref tq])) p (.lst (vs4 ++ [.ref tq])) = H5 at s5 hp5 ht5 ⊢
        refine ⟨Nat.zero_le _, fun e5 ne5 => ?_⟩
        refine ⟨(by show 2 ≤ sizeLine; decide), fun tt ntt => ?_⟩
        have s6 : Same H4 (upd (upd H5 e5 (.lst [])) tt (.tup [.ref p, .ref e5])) := Same.trans s5 (Same.trans (same_new ne5) (same_new ntt))
        refine ⟨tt, _, rfl, SqT.of upd_same, rfl, _, _, rfl, ?_⟩
        have hb6 := s6 _ _ hb4
        refine ⟨_, rfl, b, _, rfl, dput_u p hb6, ?_⟩
        refine ⟨_, _, rfl, ?_⟩
        have he6 : (upd (upd H5 e5 (.lst [])) tt (.tup [.ref p, .ref e5])) e5 = some (.lst (ivs [])) := same_new ntt _ _ upd_same
        have hp6 := same_new (o := .tup [.ref p, .ref e5]) ntt _ _ (same_new (o := .lst []) ne5 _ _ hp5)
        have ht6 := same_new (o := .tup [.ref p, .ref e5]) ntt _ _ (same_new (o := .lst []) ne5 _ _ ht5)
        have o6 := o4.trans (Same.off s6)
        have hP6 := hP4.same s6
        generalize upd (upd H5 e5 (.lst [])) tt (.tup [.ref p, .ref e5]) = H6 at s6 hb6 he6 hp6 ht6 o6 hP6 ⊢
        have pb6 : p ≠ b := ne_of hp6 hb6 (by intro z; cases z)
        have e5b : e5 ≠ b := ne_of he6 hb6 (by intro z; cases z)
        refine ⟨_, rfl, b, _, rfl, dput_r e5 upd_same, rfl, ?_⟩
        refine done _ _ _ _ o6.put.put ?_
        have e : perfM wide got s1 y = ⟨[], y.pieces ++ [y.rest]⟩ := by unfold perfM; rw [if_neg ca, if_neg ch, if_neg cc', if_pos cf]
        rw [e]
        exact box_put (x := y) (H1 := H4) upd_same (by rw [upd_ne e5b]; exact he6) (by rw [upd_ne pb6]; exact hp6) ((Pcs.snoc ht6 hP6).mono (tup_stays hb6 (by intro xs z; cases z))) (nj (o4.trans (Same.off s5)) ne5) (nj (o4.trans (Same.off (Same.trans (same_new ntq) (same_new nlq)))) np)
      rw [decide_eq_false cf]
      refine iteF ?_
      have ccut : s1 = "cut" := by
        have h5 : s1 = "add" ∨ s1 = "hand" ∨ s1 = "cut" ∨ s1 = "flush" ∨ s1 = "stop" ∨ s1 = "again" := by simpa [rsteps] using sR
        rcases h5 with h | h | h | h | h | h
        · exact absurd h ca
        · exact absurd h ch
        · exact h
        · exact absurd h cf
        · exact absurd h c2
        · exact absurd h c1
      have le : y.rest.length / wide * wide ≤ y.rest.length := Nat.div_mul_le_self _ _
      refine ⟨_, rfl, b, _, rfl, get_r hb4, r4, _, rfl, .inl (SqL.of hr4), _, rfl, _, _, rfl, rfl, ⟨by omega, by omega⟩, ?_⟩
      have eq1 : ((ivs y.rest).length : Int) / (wide : Int) = ((y.rest.length / wide : Nat) : Int) := by rw [ivs_len, Int.natCast_ediv]
      simp only [eq1]
      have eperf : perfM wide got s1 y = ⟨y.rest.drop (y.rest.length / wide * wide), y.pieces ++ cutN wide y.rest (y.rest.length / wide)⟩ := by unfold perfM; rw [if_neg ca, if_neg ch, if_pos ccut]
      have qle : y.rest.length / wide ≤ y.rest.length := Nat.div_le_self _ _
      generalize y.rest.length / wide = qn at le eperf qle ⊢
      refine ⟨_, rfl, b, _, rfl, get_u hb4, _, rfl, b, _, rfl, get_r hb4, _, rfl, _, rfl, r4, y.rest, wide, qn, rfl, hr4, f5, le, by omega, by omega, fun H5 lq vq s5 hlq hPq => ?_⟩
      have lpq := hPq.len
      refine ⟨u4, lq, _, _, rfl, rfl, s5 _ _ hu4, hlq, ?_, fun p np => ?_⟩
      · rw [lp4, lpq, cutN, List.length_map, List.length_range]
        exact Nat.le_trans (show y.pieces.length + qn ≤ 12000000 by omega) (by decide)
      have s6 : Same H4 (upd H5 p (.lst (vs4 ++ vq))) := Same.trans s5 (same_new np)
      have hb6 := s6 _ _ hb4
      refine ⟨_, rfl, b, _, rfl, dput_u p hb6, ?_⟩
      have hp6 : (upd H5 p (.lst (vs4 ++ vq))) p = some (.lst (vs4 ++ vq)) := upd_same
      have hP6 : Pcs (upd H5 p (.lst (vs4 ++ vq))) (vs4 ++ vq) (y.pieces ++ cutN wide y.rest qn) := (hP4.same s6).app (hPq.same (same_new np))
      have o6 := o4.trans (Same.off s6)
      have hr6 := s6 _ _ hr4
      generalize upd H5 p (.lst (vs4 ++ vq)) = H6 at s6 hb6 hp6 hP6 o6 hr6 ⊢
      have r4b : r4 ≠ b := ne_of hr6 hb6 (by intro z; cases z)
      have pb : p ≠ b := ne_of hp6 hb6 (by intro z; cases z)
      refine ⟨_, rfl, b, _, rfl, get_r upd_same, _, rfl, _, rfl, _, _, rfl, rfl, .inr ⟨by omega, by omega⟩, ((qn * wide : Nat) : Int), by rw [Int.natCast_mul], r4, _, rfl, SqL.of (by rw [upd_ne r4b]; exact hr6), fun p2 np2 => ?_⟩
      rw [cut_from]
      have hb7 : (upd (upd H6 b (.dK (bx r4 p g ov))) p2 (.lst ((ivs y.rest).drop (qn * wide)))) b = some (.dK (bx r4 p g ov)) := same_new np2 _ _ upd_same
      refine ⟨_, rfl, b, _, rfl, dput_r p2 hb7, ?_⟩
      refine done _ _ _ _ (o6.put.new np2).put ?_
      rw [eperf]
      exact box_put (x := y) (H1 := H4) hb7 (by rw [upd_same]; simp [ivs, List.map_drop]) (same_new np2 _ _ (by rw [upd_ne pb]; exact hp6)) ((hP6.mono (tup_stays hb6 (by intro xs z; cases z))).same (same_new np2)) (nj o6.put np2) (nj (o4.trans (Same.off s5)) np)
    · rintro σ H1 ⟨v5, v6, v7, rfl, o1, B1, g1⟩
      have lo : (ords ws).length = ws.length := List.length_map ..
      rw [lw, ← lo, List.take_length] at B1 g1
      refine k _ _ o1 B1 ?_
      rw [(run_goes wide got said (ords ws) [] x g1).2.2]
      decide +kernel
end
end My

namespace My
open PySem L2 Cm LM EM
/-! ### the same, as the program's -/
def itemsL (f c : Nat) : List Int := (List.range c).map fun i => (f : Int) + (i : Nat)
theorem rgV_itemsL (f c : Nat) : rgV (f : Int) ((f : Int) + (c : Int)) = ivs (itemsL f c) := by
  unfold rgV itemsL ivs
  rw [show ((f : Int) + (c : Int) - (f : Int)).toNat = c by omega, List.map_map]
  rfl
theorem itemsL_len (f c : Nat) : (itemsL f c).length = c := by rw [itemsL, List.length_map, List.length_range]
theorem run_ask {wide : Nat} {got : List Int} {said : Bool} {r : List Str} {x : RP} : runW wide got said (ords (("ask" : Str) :: r)) x = runW wide got said (ords r) x := by
  show runW wide got said (orderOf "ask" :: ords r) x = _
  rw [ask_order, runW_cons, pass_0, if_pos rfl, if_neg (by decide +kernel), if_neg (by decide +kernel)]
  have e : perfM wide got "ask" x = x := by
    unfold perfM
    rw [if_neg (by decide +kernel), if_neg (by decide +kernel), if_neg (by decide +kernel), if_neg (by decide +kernel)]
  rw [e]
theorem run_end {wide : Nat} {got : List Int} {said : Bool} : ∀ {os : List (Str × Str)} {x : RP}, (∀ o ∈ os, o.2 ≠ "again" ∧ o.2 ≠ "stop") → runW wide got said os x = (endW wide got said os x, false)
  | [], _, _ => rfl
  | (t, s) :: r, x, h => by
    have h1 := h (t, s) (List.mem_cons_self ..)
    have ih := fun x => run_end (wide := wide) (got := got) (said := said) (os := r) (x := x) fun o ho => h o (List.mem_cons_of_mem _ ho)
    rw [runW_cons]
    show _ = (endW wide got said r (if passM wide got said t x.rest = true then perfM wide got s x else x), false)
    by_cases c : passM wide got said t x.rest = true
    · rw [if_pos c, if_pos c, if_neg h1.1, if_neg h1.2]
      exact ih _
    · rw [if_neg c, if_neg c]
      exact ih _
theorem jar_n {H : Hp} {j p : Addr} (a : Lsj H j) (n : H p = none) : p ≠ j := fun z => by
  obtain ⟨x, h⟩ := a
  rw [z, h] at n
  cases n
section
variable {P : Program} {w : World} {K : PySem.W.Frag} {mg : Str → Option Value} {base : Heap}
/-! ### _law_fed -/
def spFd (j : Addr) : Sp := fun vs H Q _ => ∃ (ma a b0 b : Addr) (B E : List Str) (x : RP) (g : Nat) (ov said : Bool) (many wide k c : Nat), vs = [.ref ma, .ref b, .int many, .bl said, .int wide] ∧ H ma = some (.tup [.ref a, .ref b0]) ∧ H a = some (.lst (svs B)) ∧ H b0 = some (.lst (svs E)) ∧ isRound B = true ∧ isEnding E = true ∧ BoxJ j H b x g ov ∧ Lsj H j ∧ 1 ≤ wide ∧ wide ≤ 1000 ∧ many ≤ wide ∧ g ≤ 1000000 ∧ Few wide k c x ∧ k ≤ 2300 ∧ c ≤ 7700000 ∧
  ∀ (H' : Hp) (d : Addr), Same H H' → H d = none → BoxJ j H' d (ansM wide (ords B) (ords E) (itemsL g many) said x).1 (g + many) (ansM wide (ords B) (ords E) (itemsL g many) said x).2 → Q (.ref d) H'
theorem scFd : FnScope ["_law_made", "_law_box_here", "_law_many", "_law_said", "_law_wide", "_law_begun", "_law_ended", "_law_after", "_law_got"] ["_law_made", "_law_box_here", "_law_many", "_law_said", "_law_wide"] (defScope sFed) := ⟨rfl, rfl, rfl, by decide +kernel, rfl, by decide +kernel, by decide +kernel⟩
theorem ok_fd (B : TxB K mg) (j : Addr) : FnOk P w K mg base CX0 3 B.fed.f B.fed.fd ["_law_made", "_law_box_here", "_law_many", "_law_said", "_law_wide"] (spFd j) := by
  have GD : FnOk P w K mg base CX0 2 B.don.f B.don.fd ["_law_words_here", "_law_got", "_law_box_here", "_law_said", "_law_wide"] (spDn j) := ok_dn B j
  refine B.fed.F.ok scFd (fun vs H Q E h => ?_) (fun cdv A outer s H vs Q E hr h => ?_)
  · obtain ⟨ma, a, b0, b, Bg, En, x, g, ov, said, many, wide, k, c, rfl, _⟩ := h
    rfl
  · obtain ⟨ma, a, b0, b, Bg, En, x, g, ov, said, many, wide, kk, cc, rfl, hma, ha, hb0, rB, rE, hB, hJ, w1, w2, m1, g1, hF, hk, hc, k⟩ := h
    have hu := hu_of hr
    refine ⟨_, (pss_cons (ps_asg (pv 0) (pg_tup rfl (pgs_cons (pg_name (i := 5) scFd.nd rfl (.inl rfl)) (pgs_cons (pg_name (i := 6) scFd.nd rfl (.inl rfl)) pgs_nil)))) (pss_cons (ps_set (i := 7) scFd.nd rfl (.inl rfl) (pe_disp (pps_cons pe_str (pe_callTy call_list_of (by rfl) B.list (by decide +kernel) (pa_cons (pe_dget hu (pv 1) pe_str (fun _ _ => rfl)) pa_nil)) (pps_cons pe_str (pe_callTy call_list_of (by rfl) B.list (by decide +kernel) (pa_cons (pe_dget hu (pv 1) pe_str (fun _ _ => rfl)) pa_nil)) (pps_cons pe_str (pe_op op_add (pe_dget hu (pv 1) pe_str (fun _ _ => rfl)) (pv 2)) (pps_cons pe_str pe_bl pps_nil)))) (by rfl) (by rfl) (fun z => by cases z) (by decide))) (pss_cons (ps_set (i := 8) scFd.nd rfl (.inl rfl) (pe_listRg rfl rfl B.list (prg_2 rfl B.range (pe_dget hu (pv 1) pe_str (fun _ _ => rfl)) (pe_op op_add (pe_dget hu (pv 1) pe_str (fun _ _ => rfl)) (pv 2))))) (pss_cons (ps_if (pt_cmpR op_eq (pe_call GD hr rfl B.don.g B.don.k B.don.b .nil pass0 (pa_cons (pe_slice sl_list (pv 5) (po_some pe_int) po_none) (pa_cons (pv 8) (pa_cons (pv 7) (pa_cons (pv 3) (pa_cons (pv 4) pa_nil)))))) pe_str (nomark _)) (pss_cons (ps_expr (pe_call GD hr rfl B.don.g B.don.k B.don.b .nil pass0 (pa_cons (pv 6) (pa_cons (pv 8) (pa_cons (pv 7) (pa_cons (pv 3) (pa_cons (pv 4) pa_nil))))))) (pss_one (ps_dput hu (pv 7) pe_str pe_bl rfl))) pss_nil) (pss_one (ps_ret (pv 7))))))), ?_⟩
    refine ⟨_, rfl, ma, _, rfl, SqT.of hma, rfl, _, _, rfl, _, _, rfl, rfl, ?_⟩
    obtain ⟨r, u, vs, hb, hr1, hu1, hP, nr0, nu0⟩ := id hB.ex
    -- the new box
    intro d nd
    have nda : ∀ {q : Addr} {o : HO}, H q = some o → q ≠ d := fun h => ne_of_none h nd
    have s0 : Same H (upd H d (.dK [])) := same_new nd
    refine ⟨_, rfl, b, _, rfl, get_r (s0 _ _ hb), r, _, rfl, .inl (SqL.of (s0 _ _ hr1)), fun r2 nr2 => ?_⟩
    refine ⟨_, rfl, b, _, rfl, get_u (same_new nr2 _ _ (s0 _ _ hb)), u, _, rfl, .inl (SqL.of (same_new nr2 _ _ (s0 _ _ hu1))), fun u2 nu2 => ?_⟩
    refine ⟨_, rfl, b, _, rfl, get_g (same_new nu2 _ _ (same_new nr2 _ _ (s0 _ _ hb))), _, rfl, _, _, rfl, rfl, ?_⟩
    refine ⟨same_new nu2 _ _ (same_new nr2 _ _ upd_same), bx r2 u2 (g + many) false, ?_, (by rw [bx_len]; decide), ?_⟩
    · simp [bx, kV]
    rw [bx_mk]
    have r2d : r2 ≠ d := fun z => by rw [z, upd_same] at nr2; cases nr2
    have u2r : u2 ≠ r2 := fun z => by rw [z, upd_same] at nu2; cases nu2
    have u2d : u2 ≠ d := fun z => by rw [z, upd_ne r2d.symm, upd_same] at nu2; cases nu2
    have s1 : Same H (upd (upd (upd (upd H d (.dK [])) r2 (.lst (ivs x.rest))) u2 (.lst vs)) d (.dK (bx r2 u2 (g + many) false))) := fun q o e => by
      rw [upd_ne (nda e)]
      exact same_new nu2 _ _ (same_new nr2 _ _ (s0 _ _ e))
    have X1 : BoxJ j (upd (upd (upd (upd H d (.dK [])) r2 (.lst (ivs x.rest))) u2 (.lst vs)) d (.dK (bx r2 u2 (g + many) false))) d x (g + many) false := by
      refine ⟨r2, u2, vs, upd_same, ?_, ?_, hP.same s1, jar_n (hJ.same s0) nr2, jar_n ((hJ.same s0).same (same_new nr2)) nu2⟩
      · rw [upd_ne r2d, upd_ne u2r.symm, upd_same]
      · rw [upd_ne u2d, upd_same]
    generalize upd (upd (upd (upd H d (.dK [])) r2 (.lst (ivs x.rest))) u2 (.lst vs)) d (.dK (bx r2 u2 (g + many) false)) = H1 at s1 X1 ⊢
    -- the items
    have hb1 := s1 _ _ hb
    refine ⟨_, rfl, b, _, rfl, get_g hb1, _, rfl, b, _, rfl, get_g hb1, _, rfl, _, _, rfl, rfl, _, _, rfl, rfl, RgOk.of_le (by omega) (by omega) (by omega) (by omega), fun ga nga => ?_⟩
    rw [rgV_itemsL]
    have s2 : Same H1 (upd H1 ga (.lst (ivs (itemsL g many)))) := same_new nga
    have hga : (upd H1 ga (.lst (ivs (itemsL g many)))) ga = some (.lst (ivs (itemsL g many))) := upd_same
    show tSeq _ _ _ _ (upd H1 ga (.lst (ivs (itemsL g many))))
    generalize upd H1 ga (.lst (ivs (itemsL g many))) = H2 at s2 hga ⊢
    have X2 := X1.same s2
    have s12 := Same.trans s1 s2
    obtain ⟨rw0, eB, hwd, lrw⟩ := round_tail_wd rB
    subst eB
    -- the round
    refine ⟨_, rfl, 1, rfl, a, _, rfl, SqL.of (s12 _ _ ha), fun p np => ?_⟩
    rw [show (1 : Int) = ((1 : Nat) : Int) from rfl, cut_from]
    have ecut : (svs (("ask" : Str) :: rw0)).drop 1 = svs rw0 := rfl
    rw [ecut]
    have s3 : Same H2 (upd H2 p (.lst (svs rw0))) := same_new np
    have FK : FitK wide (itemsL g many) kk cc x := ⟨w1, w2, by rw [itemsL_len]; exact m1, by omega, by omega, hF⟩
    refine ⟨_, rfl, _, rfl, _, rfl, _, rfl, p, ga, d, rw0, itemsL g many, x, g + many, false, said, wide, kk, cc, rfl, upd_same, hwd, by omega, s3 _ _ hga, X2.same s3, hJ.same (Same.trans s12 s3), FK, by omega, by omega, fun H3 z o3 X3 hz => ?_⟩
    have nd1 : ∀ {q : Addr} {o : HO}, H q = some o → H3 q = some o := fun e => o3 _ _ (nda e) (s3 _ _ (s12 _ _ e))
    have dga : ga ≠ d := by
      obtain ⟨_, _, _, hd1, _⟩ := X1.ex
      exact fun e => by rw [e, hd1] at nga; cases nga
    have hga3 := o3 _ _ dga (s3 _ _ hga)
    refine ⟨rfl, _, rfl, ?_⟩
    rw [dS, hz]
    have ra : runW wide (itemsL g many) said (ords (("ask" : Str) :: rw0)) x = runW wide (itemsL g many) said (ords rw0) x := run_ask
    unfold ansM at k
    rw [ra] at k
    have sN : Same H H3 := fun q o e => nd1 e
    cases hst : (runW wide (itemsL g many) said (ords rw0) x).2 with
    | false =>
      rw [hst, if_neg Bool.false_ne_true] at k
      refine iteF ⟨_, rfl, ?_⟩
      exact k H3 d sN nd X3
    | true =>
      rw [hst, if_pos rfl] at k
      refine iteT ?_
      have fe := few_run (told := said) w1 FK.h (ords rw0) kk cc x hF
      have lo : (ords rw0).length = rw0.length := List.length_map ..
      have l11 : (ords rw0).length ≤ 12 := by omega
      have FK3 : FitK wide (itemsL g many) (kk + 12) (cc + 12 * (kk + 12)) (runW wide (itemsL g many) said (ords rw0) x).1 := ⟨w1, w2, FK.h, by omega, by omega, fe.mono (by omega) (Nat.add_le_add_left (Nat.mul_le_mul l11 (by omega)) _)⟩
      have eW := ending_wd rE
      refine ⟨_, rfl, _, rfl, _, rfl, _, rfl, _, rfl, b0, ga, d, En, itemsL g many, _, g + many, false, said, wide, kk + 12, cc + 12 * (kk + 12), rfl, nd1 hb0, eW.1, by omega, hga3, X3, hJ.same sN, FK3, by omega, by omega, fun H4 z4 o4 X4 _ => ?_⟩
      rw [run_end (os := ords En) (ending_flow rE)] at X4
      obtain ⟨r4, u4, vs4, hd4, hr4, hu4, hP4, nr4, nu4⟩ := X4.ex
      refine ⟨_, rfl, d, _, rfl, dput_o true hd4, ?_⟩
      refine ⟨_, rfl, ?_⟩
      refine k _ d (fun q o e => ?_) nd ?_
      · rw [upd_ne (nda e)]
        exact o4 _ _ (nda e) (nd1 e)
      · have n1 : r4 ≠ d := ne_of hr4 hd4 (by intro z; cases z)
        have n2 : u4 ≠ d := ne_of hu4 hd4 (by intro z; cases z)
        exact ⟨r4, u4, vs4, upd_same, by rw [upd_ne n1]; exact hr4, by rw [upd_ne n2]; exact hu4, hP4.mono (tup_stays hd4 (by intro xs z; cases z)), nr4, nu4⟩
/-! ### _law_box -/
def spBx (j : Addr) : Sp := fun vs H Q _ => vs = [] ∧ Lsj H j ∧ ∀ (H' : Hp) (d : Addr), Same H H' → H d = none → BoxJ j H' d ⟨[], []⟩ 0 false → Q (.ref d) H'
theorem scBx : FnScope [] [] (defScope sBox) := ⟨rfl, rfl, rfl, by decide +kernel, rfl, by decide +kernel, by decide +kernel⟩
theorem ok_bx (B : TxB K mg) (j : Addr) : FnOk P w K mg base CX0 1 B.box.f B.box.fd [] (spBx j) := by
  refine B.box.F.ok scBx (fun vs H Q E h => ?_) (fun cdv A outer s H vs Q E hr h => ?_)
  · obtain ⟨rfl, _⟩ := h
    rfl
  · obtain ⟨rfl, hJ, k⟩ := h
    refine ⟨_, (pss_one (ps_ret (pe_disp (pps_cons pe_str (pe_lst pa_nil) (pps_cons pe_str (pe_lst pa_nil) (pps_cons pe_str pe_int (pps_cons pe_str pe_bl pps_nil)))) (by rfl) (by rfl) (fun z => by cases z) (by decide)))), ?_⟩
    intro d nd
    refine ⟨Nat.zero_le _, fun r2 nr2 => ?_⟩
    refine ⟨Nat.zero_le _, fun u2 nu2 => ?_⟩
    refine ⟨same_new nu2 _ _ (same_new nr2 _ _ upd_same), bx r2 u2 0 false, ?_, (by rw [bx_len]; decide), ?_⟩
    · simp [bx, kV]
    rw [bx_mk]
    have r2d : r2 ≠ d := fun z => by rw [z, upd_same] at nr2; cases nr2
    have u2r : u2 ≠ r2 := fun z => by rw [z, upd_same] at nu2; cases nu2
    have u2d : u2 ≠ d := fun z => by rw [z, upd_ne r2d.symm, upd_same] at nu2; cases nu2
    refine k _ d (fun q o e => ?_) nd ⟨r2, u2, [], upd_same, ?_, ?_, .nil, jar_n (hJ.same (same_new nd)) nr2, jar_n ((hJ.same (same_new nd)).same (same_new nr2)) nu2⟩
    · rw [upd_ne (ne_of_none e nd)]
      exact same_new nu2 _ _ (same_new nr2 _ _ (same_new nd _ _ e))
    · rw [upd_ne r2d, upd_ne u2r.symm, upd_same]
      rfl
    · rw [upd_ne u2d, upd_same]
end
end My

/-! Loop.execution, Loop.run -/
namespace My
open PySem L2 Cm LM EM
abbrev sLX : Stmt := inClass (top 57) 8
/-! ### the mirror -/
def itemsF (f c : Nat) : List Int := (List.range c).map fun i => (f : Int) + (i : Nat)
theorem itemsF_len (f c : Nat) : (itemsF f c).length = c := by rw [itemsF, List.length_map, List.length_range]
theorem rgV_items (f c : Nat) : rgV (f : Int) ((f : Int) + (c : Int)) = ivs (itemsF f c) := by
  unfold rgV itemsF ivs
  rw [show ((f : Int) + (c : Int) - (f : Int)).toNat = c by omega, List.map_map]
  rfl
/-- what a run has done: the row, the first item that comes next, the replies used, whether it has stopped -/
structure RS where
  x : RP
  f : Nat
  u : Nat
  st : Bool
def stepM (sz : Nat) (ro eo : List (Str × Str)) (s : RS) (r : Nat × Bool) : RS := if s.st = true then s else ⟨(ansM sz ro eo (itemsF s.f r.1) r.2 s.x).1, s.f + r.1, s.u + 1, (ansM sz ro eo (itemsF s.f r.1) r.2 s.x).2⟩
def runM (sz : Nat) (ro eo : List (Str × Str)) (rs : List (Nat × Bool)) : RS := rs.foldl (stepM sz ro eo) ⟨⟨[], []⟩, 0, 0, false⟩
theorem runM_stop {sz : Nat} {ro eo : List (Str × Str)} : ∀ {rs : List (Nat × Bool)} {s : RS}, s.st = true → rs.foldl (stepM sz ro eo) s = s
  | [], _, _ => rfl
  | r :: rs, s, h => by
    rw [List.foldl_cons, show stepM sz ro eo s r = s by unfold stepM; rw [if_pos h]]
    exact runM_stop h
theorem fold_bound {sz : Nat} {ro eo : List (Str × Str)} (hs : 1 ≤ sz) (l1 : ro.length ≤ 12) (l2 : eo.length ≤ 6) : ∀ (rs : List (Nat × Bool)) (k : Nat) (s : RS), k + rs.length ≤ 100 → (∀ r ∈ rs, r.1 ≤ sz) → Few sz (18 * k) (k * 32724) s.x → s.f ≤ k * sz → s.u ≤ k →
    Few sz (18 * (k + rs.length)) ((k + rs.length) * 32724) (rs.foldl (stepM sz ro eo) s).x ∧ (rs.foldl (stepM sz ro eo) s).f ≤ (k + rs.length) * sz ∧ (rs.foldl (stepM sz ro eo) s).u ≤ k + rs.length
  | [], k, s, _, _, f1, f2, f3 => ⟨f1, f2, f3⟩
  | r :: rs, k, s, hn, hr, f1, f2, f3 => by
    rw [List.length_cons] at hn
    have em : (k + 1) * sz = k * sz + sz := Nat.succ_mul _ _
    have hr1 : r.1 ≤ sz := hr r (List.mem_cons_self ..)
    have st : Few sz (18 * (k + 1)) ((k + 1) * 32724) (stepM sz ro eo s r).x ∧ (stepM sz ro eo s r).f ≤ (k + 1) * sz ∧ (stepM sz ro eo s r).u ≤ k + 1 := by
      unfold stepM
      split
      · exact ⟨f1.mono (by omega) (by omega), by omega, by omega⟩
      · refine ⟨?_, by show s.f + r.1 ≤ _; omega, by show s.u + 1 ≤ _; omega⟩
        have := few_ans (ro := ro) (eo := eo) (held := itemsF s.f r.1) (told := r.2) hs (by rw [itemsF_len]; exact hr1) l1 l2 f1
        exact this.mono (by omega) (by omega)
    have ih := fold_bound hs l1 l2 rs (k + 1) (stepM sz ro eo s r) (by omega) (fun q hq => hr q (List.mem_cons_of_mem _ hq)) st.1 st.2.1 st.2.2
    rw [List.foldl_cons, List.length_cons, show k + (rs.length + 1) = k + 1 + rs.length by omega]
    exact ih
theorem runM_bound {sz : Nat} {ro eo : List (Str × Str)} (hs : 1 ≤ sz) (l1 : ro.length ≤ 12) (l2 : eo.length ≤ 6) (rs : List (Nat × Bool)) (hn : rs.length ≤ 100) (hr : ∀ r ∈ rs, r.1 ≤ sz) :
    Few sz (18 * rs.length) (rs.length * 32724) (runM sz ro eo rs).x ∧ (runM sz ro eo rs).f ≤ rs.length * sz ∧ (runM sz ro eo rs).u ≤ rs.length := by
  have := fold_bound (ro := ro) (eo := eo) hs l1 l2 rs 0 ⟨⟨[], []⟩, 0, 0, false⟩ (by omega) hr ⟨Nat.zero_le _, Nat.zero_le _⟩ (Nat.zero_le _) (Nat.zero_le _)
  rw [Nat.zero_add] at this
  exact this
/-- rows of replies -/
inductive Rps (H : Hp) : List V → List (Nat × Bool) → Prop
  | nil : Rps H [] []
  | cons {q : Addr} {r : Nat × Bool} {vs : List V} {rs : List (Nat × Bool)} (h : H q = some (.tup [.int r.1, .bl r.2])) (t : Rps H vs rs) : Rps H (.ref q :: vs) (r :: rs)
theorem Rps.mono {H H' : Hp} (f : ∀ (p : Addr) (xs : List V), H p = some (.tup xs) → H' p = some (.tup xs)) : ∀ {vs rs}, Rps H vs rs → Rps H' vs rs
  | _, _, .nil => .nil
  | _, _, .cons h t => .cons (f _ _ h) (t.mono f)
theorem Rps.same {H H' : Hp} (s : Same H H') {vs rs} (h : Rps H vs rs) : Rps H' vs rs := h.mono fun _ _ e => s _ _ e
theorem Rps.len {H : Hp} : ∀ {vs rs}, Rps H vs rs → vs.length = rs.length
  | _, _, .nil => rfl
  | _, _, .cons _ t => congrArg (· + 1) t.len
theorem Rps.get {H : Hp} : ∀ {vs rs} {i : Nat} {y : V}, Rps H vs rs → vs[i]? = some y → ∃ (q : Addr) (r : Nat × Bool), rs[i]? = some r ∧ y = .ref q ∧ H q = some (.tup [.int r.1, .bl r.2])
  | _, _, i, y, .nil, h => by simp at h
  | _, _, 0, y, .cons h _, e => ⟨_, _, rfl, (Option.some.inj e).symm, h⟩
  | _, _, i + 1, y, .cons _ t, e => t.get (i := i) e
structure TxN (K : PySem.W.Frag) (mg : Str → Option Value) where
  T : TxC K mg
  X : TxX K mg
  lx : Mt K T.C "execution" "Loop.execution" sLX ["self", "size", "kept"]
def ordsR (t : Str) : List (Str × Str) := (wordsR t).map orderOf
def ordsE (t : Str) : List (Str × Str) := (wordsE t).map orderOf
section
variable {P : Program} {w : World} {K : PySem.W.Frag} {mg : Str → Option Value} {base : Heap}
def spLX (CL CX : Addr) : Sp := fun vs H Q _ => ∃ (o r : Addr) (t : Str) (sz : Nat) (rest : List Int), vs = [.ref o, .int sz, .ref r] ∧ LoopAt CL H o t ∧ H r = some (.tup (ivs rest)) ∧
  ∀ (H' : Hp) (x dx ro eo p : Addr), Same H H' → H x = none → H p = none → ExAt CX H' x dx ro eo p 0 sz [] false ⟨rest, []⟩ false → OrdT H' ro (ordsR t) → OrdT H' eo (ordsE t) → Q (.ref x) H'
theorem scLX : FnScope ["self", "size", "kept"] ["self", "size", "kept"] (defScope sLX) := ⟨rfl, rfl, rfl, by decide +kernel, rfl, by decide +kernel, by decide +kernel⟩
theorem ok_lx (N : TxN K mg) : FnOk P w K mg base CX0 3 N.lx.f N.lx.fd ["self", "size", "kept"] (spLX N.T.C N.X.C) := by
  have GI : FnOk P w K mg base CX0 1 N.X.fI N.X.fdI ["self", "round_orders", "ending_orders", "size", "kept"] (spXI N.X.C) := ok_xi N.X
  refine N.lx.F.ok scLX (fun vs H Q E h => ?_) (fun cdv A outer s H vs Q E hr h => ?_)
  · obtain ⟨o, r, t, sz, rest, rfl, _⟩ := h
    rfl
  · obtain ⟨o, r, t, sz, rest, rfl, ⟨dx, pr, pe, po, pq, e, _, _, h1, h2⟩, hr', k⟩ := h
    refine ⟨_, pss_one (ps_ret (pe_make N.X.MI GI hr rfl N.X.gC N.X.bI .nil pass0 (pa_cons (pe_fld (pv 0) rfl) (pa_cons (pe_fld (pv 0) rfl) (pa_cons (pv 1) (pa_cons (pv 2) pa_nil)))))), ?_⟩
    refine ⟨_, rfl, o, N.T.C, dx, _, _, rfl, e, N.T.cl, N.T.nO, lf_ro .., _, rfl, o, N.T.C, dx, _, _, rfl, e, N.T.cl, N.T.nQ, lf_eo .., _, rfl, _, rfl, ?_⟩
    intro x dx' nx ndx nex
    refine ⟨x, dx', po, pq, r, sz, rest, rfl, upd_same, ?_, fun H2 p o2 np X2 => ⟨rfl, ?_⟩⟩
    · rw [upd_ne (ne_of_none hr' nx), upd_ne (ne_of_none hr' ndx)]
      exact hr'
    · have s2 := made_same nx ndx o2
      have np0 : H p = none := by
        by_cases e1 : p = x
        · rw [e1]; exact nx
        · rw [upd_ne e1] at np
          by_cases e2 : p = dx'
          · rw [e2]; exact ndx
          · rw [upd_ne e2] at np
            exact np
      exact k H2 x dx' po pq p s2 nx np0 X2 (h1.mono fun _ _ z => s2 _ _ z) (h2.mono fun _ _ z => s2 _ _ z)
end
end My


/-! how much a run hands on, and how long it is when it is shown -/
namespace EM
open PySem L2
def wt (ps : List (List Int)) : Nat := (ps.map fun p => p.length + 1).sum
theorem wt_app (a b : List (List Int)) : wt (a ++ b) = wt a + wt b := by simp [wt, List.map_append, List.sum_append]
theorem cutN_succ' (sz : Nat) (xs : List Int) (i : Nat) : cutN sz xs (i + 1) = cutN sz xs i ++ [(xs.drop (i * sz)).take sz] := by
  unfold cutN
  rw [List.range_succ, List.map_append]
  rfl
theorem wt_cut (sz : Nat) (xs : List Int) : ∀ n, wt (cutN sz xs n) ≤ n * sz + n
  | 0 => by simp [wt, cutN]
  | n + 1 => by
    have ih := wt_cut sz xs n
    rw [cutN_succ', wt_app, Nat.succ_mul]
    have : wt [(xs.drop (n * sz)).take sz] ≤ sz + 1 := by
      simp only [wt, List.map_cons, List.map_nil, List.sum_cons, List.sum_nil, List.length_take]
      omega
    omega
/-- the rest has at most r items, the pieces weigh at most w -/
def Lt (r w : Nat) (x : RP) : Prop := x.rest.length ≤ r ∧ wt x.pieces ≤ w
theorem Lt.mono {r w r' w' : Nat} {x : RP} (h : Lt r w x) (h1 : r ≤ r') (h2 : w ≤ w') : Lt r' w' x := ⟨Nat.le_trans h.1 h1, Nat.le_trans h.2 h2⟩
def isA (s : Str) : Nat := if s = "add" then 1 else 0
theorem lt_perf {size r w h : Nat} {held : List Int} {s : Str} {x : RP} (hh : held.length ≤ h) (hx : Lt r w x) : Lt (r + isA s * h) (w + (2 * r + h + 1)) (perfM size held s x) := by
  obtain ⟨h1, h2⟩ := hx
  have w1 : ∀ p : List Int, wt [p] = p.length + 1 := fun p => by simp [wt]
  unfold perfM isA Lt
  split
  · refine ⟨?_, by show wt x.pieces ≤ _; omega⟩
    show (x.rest ++ held).length ≤ _
    rw [List.length_append]
    omega
  · split
    · refine ⟨by show x.rest.length ≤ _; omega, ?_⟩
      show wt (x.pieces ++ [held]) ≤ _
      rw [wt_app, w1]
      omega
    · split
      · refine ⟨?_, ?_⟩
        · show (x.rest.drop _).length ≤ _
          rw [List.length_drop]
          omega
        · show wt (x.pieces ++ cutN size x.rest (x.rest.length / size)) ≤ _
          rw [wt_app]
          have a := wt_cut size x.rest (x.rest.length / size)
          have b := Nat.div_mul_le_self x.rest.length size
          have c := Nat.div_le_self x.rest.length size
          omega
      · split
        · refine ⟨Nat.zero_le _, ?_⟩
          show wt (x.pieces ++ [x.rest]) ≤ _
          rw [wt_app, w1]
          omega
        · exact ⟨by show x.rest.length ≤ _; omega, by show wt x.pieces ≤ _; omega⟩
def adds : List (Str × Str) → Nat
  | [] => 0
  | (_, s) :: r => isA s + adds r
theorem lt_run {size h : Nat} {held : List Int} {told : Bool} (hh : held.length ≤ h) : ∀ (os : List (Str × Str)) (r w : Nat) (x : RP), Lt r w x → Lt (r + adds os * h) (w + os.length * (2 * (r + adds os * h) + h + 1)) (runW size held told os x).1
  | [], r, w, x, hx => by simpa [runW, adds] using hx
  | (t, s) :: os, r, w, x, hx => by
    have e1 : (isA s + adds os) * h = isA s * h + adds os * h := Nat.add_mul _ _ _
    have m : Lt (r + adds ((t, s) :: os) * h) (w + (os.length + 1) * (2 * (r + adds ((t, s) :: os) * h) + h + 1)) x := hx.mono (Nat.le_add_right _ _) (Nat.le_add_right _ _)
    unfold runW
    rw [List.length_cons]
    split
    · split
      · exact m
      · split
        · exact m
        · have ih := lt_run (size := size) (told := told) hh os _ _ _ (lt_perf (size := size) (s := s) hh hx)
          have e2 : r + isA s * h + adds os * h = r + adds ((t, s) :: os) * h := by show _ = r + (isA s + adds os) * h; omega
          rw [e2] at ih
          refine ih.mono (Nat.le_refl _) ?_
          have : 2 * r + h + 1 ≤ 2 * (r + adds ((t, s) :: os) * h) + h + 1 := by omega
          generalize 2 * (r + adds ((t, s) :: os) * h) + h + 1 = M at this ⊢
          have e3 : (os.length + 1) * M = os.length * M + M := Nat.succ_mul _ _
          omega
    · have ih := lt_run (size := size) (told := told) hh os r w x hx
      refine ih.mono ?_ ?_
      · show _ ≤ r + (isA s + adds os) * h
        omega
      · have a : os.length * (2 * (r + adds os * h) + h + 1) ≤ (os.length + 1) * (2 * (r + adds ((t, s) :: os) * h) + h + 1) := Nat.mul_le_mul (by omega) (by show _ ≤ 2 * (r + (isA s + adds os) * h) + h + 1; omega)
        omega
theorem lt_end {size h : Nat} {held : List Int} {told : Bool} (hh : held.length ≤ h) : ∀ (os : List (Str × Str)) (r w : Nat) (x : RP), Lt r w x → Lt (r + adds os * h) (w + os.length * (2 * (r + adds os * h) + h + 1)) (endW size held told os x)
  | [], r, w, x, hx => by simpa [endW, adds] using hx
  | (t, s) :: os, r, w, x, hx => by
    have e1 : (isA s + adds os) * h = isA s * h + adds os * h := Nat.add_mul _ _ _
    unfold endW
    rw [List.length_cons]
    have h2 : Lt (r + isA s * h) (w + (2 * r + h + 1)) (if passM size held told t x.rest = true then perfM size held s x else x) := by
      split
      · exact lt_perf hh hx
      · exact hx.mono (by omega) (by omega)
    have ih := lt_end (size := size) (told := told) hh os _ _ _ h2
    have e2 : r + isA s * h + adds os * h = r + adds ((t, s) :: os) * h := by show _ = r + (isA s + adds os) * h; omega
    rw [e2] at ih
    refine ih.mono (Nat.le_refl _) ?_
    have : 2 * r + h + 1 ≤ 2 * (r + adds ((t, s) :: os) * h) + h + 1 := by omega
    generalize 2 * (r + adds ((t, s) :: os) * h) + h + 1 = M at this ⊢
    have e3 : (os.length + 1) * M = os.length * M + M := Nat.succ_mul _ _
    omega
theorem lt_ans {size h r w : Nat} {ro eo : List (Str × Str)} {held : List Int} {told : Bool} {x : RP} (hh : held.length ≤ h) (l1 : ro.length ≤ 12) (l2 : eo.length ≤ 6) (a1 : adds ro ≤ 1) (a2 : adds eo = 0) (hx : Lt r w x) : Lt (r + h) (w + 18 * (2 * (r + h) + h + 1)) (ansM size ro eo held told x).1 := by
  have a := lt_run (size := size) (told := told) hh ro r w x hx
  have e1 : adds ro * h ≤ h := by
    have := Nat.mul_le_mul_right h a1
    omega
  have b : Lt (r + h) (w + 12 * (2 * (r + h) + h + 1)) (runW size held told ro x).1 := a.mono (by omega) (Nat.add_le_add_left (Nat.mul_le_mul l1 (by omega)) _)
  unfold ansM
  split
  · have c := lt_end (size := size) (told := told) hh eo _ _ _ b
    rw [a2, Nat.zero_mul, Nat.add_zero] at c
    refine c.mono (Nat.le_refl _) ?_
    have : eo.length * (2 * (r + h) + h + 1) ≤ 6 * (2 * (r + h) + h + 1) := Nat.mul_le_mul_right _ l2
    show w + 12 * (2 * (r + h) + h + 1) + eo.length * (2 * (r + h) + h + 1) ≤ w + 18 * (2 * (r + h) + h + 1)
    omega
  · exact b.mono (Nat.le_refl _) (by omega)
/-! ### the numbers of items -/
def AllB (N : Nat) (xs : List Int) : Prop := ∀ i ∈ xs, 0 ≤ i ∧ i < (N : Int)
def AB (N : Nat) (x : RP) : Prop := AllB N x.rest ∧ ∀ p ∈ x.pieces, AllB N p
theorem AllB.app {N : Nat} {a b : List Int} (ha : AllB N a) (hb : AllB N b) : AllB N (a ++ b) := fun i hi => (List.mem_append.mp hi).elim (ha i) (hb i)
theorem ab_perf {N size : Nat} {held : List Int} {s : Str} {x : RP} (hh : AllB N held) (hx : AB N x) : AB N (perfM size held s x) := by
  obtain ⟨h1, h2⟩ := hx
  unfold perfM
  split
  · exact ⟨h1.app hh, h2⟩
  · split
    · refine ⟨h1, fun p hp => ?_⟩
      rcases List.mem_append.mp hp with hp | hp
      · exact h2 p hp
      · rw [List.mem_singleton.mp hp]
        exact hh
    · split
      · refine ⟨fun i hi => h1 i (List.mem_of_mem_drop hi), fun p hp => ?_⟩
        rcases List.mem_append.mp hp with hp | hp
        · exact h2 p hp
        · obtain ⟨k, _, rfl⟩ := List.mem_map.mp hp
          exact fun i hi => h1 i (List.mem_of_mem_drop (List.mem_of_mem_take hi))
      · split
        · refine ⟨fun i hi => (nomatch hi), fun p hp => ?_⟩
          rcases List.mem_append.mp hp with hp | hp
          · exact h2 p hp
          · rw [List.mem_singleton.mp hp]
            exact h1
        · exact ⟨h1, h2⟩
theorem ab_run {N size : Nat} {held : List Int} {told : Bool} (hh : AllB N held) : ∀ (os : List (Str × Str)) (x : RP), AB N x → AB N (runW size held told os x).1
  | [], x, hx => hx
  | (t, s) :: os, x, hx => by
    unfold runW
    split
    · split
      · exact hx
      · split
        · exact hx
        · exact ab_run hh os _ (ab_perf hh hx)
    · exact ab_run hh os _ hx
theorem ab_end {N size : Nat} {held : List Int} {told : Bool} (hh : AllB N held) : ∀ (os : List (Str × Str)) (x : RP), AB N x → AB N (endW size held told os x)
  | [], x, hx => hx
  | (t, s) :: os, x, hx => by
    unfold endW
    refine ab_end hh os _ ?_
    split
    · exact ab_perf hh hx
    · exact hx
theorem ab_ans {N size : Nat} {ro eo : List (Str × Str)} {held : List Int} {told : Bool} {x : RP} (hh : AllB N held) (hx : AB N x) : AB N (ansM size ro eo held told x).1 := by
  unfold ansM
  split
  · exact ab_end hh eo _ (ab_run hh ro x hx)
  · exact ab_run hh ro x hx
/-! ### shown -/
def pieceD (p : List Int) : PyData := .tuple (p.map PyData.int)
def runD (ps : List (List Int)) (u : Nat) (st : Bool) : PyData := .tuple [.tuple (ps.map pieceD), .int u, .bool st]
theorem join_le : ∀ ts : List Str, (Str.join ", " ts).length ≤ (ts.map fun t => t.length + 2).sum
  | [] => Nat.le_refl _
  | [x] => by
    show x.length ≤ _
    simp
  | x :: y :: r => by
    show (x ++ ", " ++ Str.join ", " (y :: r)).length ≤ _
    rw [strLen_append, strLen_append, show (", " : Str).length = 2 by decide +kernel]
    have := join_le (y :: r)
    rw [List.map_cons, List.sum_cons]
    omega
theorem tup_le (ts : List Str) : (tupleText ts).length ≤ (ts.map fun t => t.length + 2).sum + 3 := by
  unfold tupleText
  rw [strLen_append, strLen_append, show ("(" : Str).length = 1 by decide +kernel]
  have := join_le ts
  have : (Str.ofString (if ts.length == 1 then ",)" else ")" : String)).length ≤ 2 := by
    split
    · decide +kernel
    · decide +kernel
  omega
theorem int_le {i : Int} (h0 : 0 ≤ i) (h1 : i < 1000000) : (PyData.shown (.int i)).length ≤ 6 := by
  obtain ⟨n, rfl⟩ := Int.eq_ofNat_of_zero_le h0
  show (Str.ofString (toString ((n : Nat) : Int))).length ≤ 6
  rw [TL.len_tl, TL.tl_num]
  exact TL.numL_len (by decide) (by omega)
theorem sum_ints {N : Nat} (hN : N ≤ 1000000) : ∀ {p : List Int}, AllB N p → ((PyData.shownAll (p.map PyData.int)).map fun t => t.length + 2).sum ≤ 8 * p.length
  | [], _ => by simp [PyData.shownAll]
  | i :: r, h => by
    have a := h i (List.mem_cons_self ..)
    have b := int_le (i := i) a.1 (by omega)
    have c := sum_ints hN (p := r) fun z hz => h z (List.mem_cons_of_mem _ hz)
    rw [List.map_cons, PyData.shownAll, List.map_cons, List.sum_cons, List.length_cons]
    omega
theorem piece_le {N : Nat} (hN : N ≤ 1000000) {p : List Int} (h : AllB N p) : (PyData.shown (pieceD p)).length ≤ 8 * p.length + 3 := by
  unfold pieceD
  rw [PyData.shown]
  have := tup_le (PyData.shownAll (p.map PyData.int))
  have := sum_ints hN h
  omega
theorem sum_pieces {N : Nat} (hN : N ≤ 1000000) : ∀ {ps : List (List Int)}, (∀ p ∈ ps, AllB N p) → ((PyData.shownAll (ps.map pieceD)).map fun t => t.length + 2).sum ≤ 8 * wt ps
  | [], _ => by simp [PyData.shownAll, wt]
  | p :: r, h => by
    have b := piece_le hN (h p (List.mem_cons_self ..))
    have c := sum_pieces hN (ps := r) fun z hz => h z (List.mem_cons_of_mem _ hz)
    rw [List.map_cons, PyData.shownAll, List.map_cons, List.sum_cons]
    have e : wt (p :: r) = p.length + 1 + wt r := by simp [wt]
    omega
theorem run_le {N : Nat} (hN : N ≤ 1000000) {ps : List (List Int)} {u : Nat} {st : Bool} (h : ∀ p ∈ ps, AllB N p) (hu : u < 1000000) : (PyData.shown (runD ps u st)).length ≤ 8 * wt ps + 40 := by
  unfold runD
  rw [PyData.shown]
  have a := tup_le (PyData.shownAll [.tuple (ps.map pieceD), .int (u : Int), .bool st])
  have b : (PyData.shown (.tuple (ps.map pieceD))).length ≤ 8 * wt ps + 3 := by
    rw [PyData.shown]
    have := tup_le (PyData.shownAll (ps.map pieceD))
    have := sum_pieces hN h
    omega
  have c := int_le (i := (u : Int)) (by omega) (by omega)
  have d : (PyData.shown (.bool st)).length ≤ 5 := by cases st <;> decide +kernel
  simp only [PyData.shownAll, List.map_cons, List.map_nil, List.sum_cons, List.sum_nil] at a ⊢
  omega
/-- two of them in a list -/
theorem from_le : ∀ (ts : List Str) (k : Nat) (acc : Str), (textFrom k acc ts).length ≤ acc.length + (ts.map fun t => t.length + 2).sum
  | [], _, _ => by simp [textFrom]
  | t :: r, k, acc => by
    rw [textFrom]
    have ih := from_le r (k + 1) (acc ++ (if k > 0 then ", " else "" : String) ++ t)
    rw [strLen_append, strLen_append] at ih
    have : (Str.ofString (if k > 0 then ", " else "" : String)).length ≤ 2 := by
      split
      · decide +kernel
      · decide +kernel
    rw [List.map_cons, List.sum_cons]
    omega
theorem list_le (ts : List Str) : (listText ts).length ≤ (ts.map fun t => t.length + 2).sum + 2 := by
  unfold listText
  rw [strLen_append, show ("]" : Str).length = 1 by decide +kernel]
  have := from_le ts 0 "["
  rw [show ("[" : Str).length = 1 by decide +kernel] at this
  omega
def twoD (ps : List (List Int)) (u : Nat) (st : Bool) : PyData := .list [runD ps u st, runD ps u st]
theorem two_le {N : Nat} (hN : N ≤ 1000000) {ps : List (List Int)} {u : Nat} {st : Bool} (h : ∀ p ∈ ps, AllB N p) (hu : u < 1000000) : (PyData.shown (twoD ps u st)).length ≤ 16 * wt ps + 90 := by
  unfold twoD
  rw [PyData.shown]
  have a := list_le (PyData.shownAll [runD ps u st, runD ps u st])
  have b := run_le hN (u := u) (st := st) h hu
  simp only [PyData.shownAll, List.map_cons, List.map_nil, List.sum_cons, List.sum_nil] at a ⊢
  omega
theorem ints_showable : ∀ p : List Int, AllB 1000000 p → PyData.showableAll (p.map PyData.int) = true
  | [], _ => by simp [PyData.showableAll]
  | i :: r, h => by
    have a := h i (List.mem_cons_self ..)
    have b := ints_showable r fun z hz => h z (List.mem_cons_of_mem _ hz)
    rw [List.map_cons, PyData.showableAll, PyData.showable, b, Bool.and_true]
    refine decide_eq_true ?_
    obtain ⟨n, rfl⟩ := Int.eq_ofNat_of_zero_le a.1
    show (n : Nat).log2 < 1920
    have hn : n < 1000000 := by omega
    by_cases h0 : n = 0
    · rw [h0]; decide
    · exact Nat.lt_of_lt_of_le ((Nat.log2_lt h0).mpr (Nat.lt_of_lt_of_le hn (show 1000000 ≤ 2 ^ 20 by decide))) (by decide)
theorem pieces_showable : ∀ ps : List (List Int), (∀ p ∈ ps, AllB 1000000 p) → PyData.showableAll (ps.map pieceD) = true
  | [], _ => by simp [PyData.showableAll]
  | p :: r, h => by
    have a := ints_showable p (h p (List.mem_cons_self ..))
    have b := pieces_showable r fun z hz => h z (List.mem_cons_of_mem _ hz)
    rw [List.map_cons, PyData.showableAll, b, Bool.and_true]
    unfold pieceD
    rw [PyData.showable]
    exact a
theorem two_showable {ps : List (List Int)} {u : Nat} {st : Bool} (h : ∀ p ∈ ps, AllB 1000000 p) (hu : u < 1000000) : PyData.showable (twoD ps u st) = true := by
  have a := pieces_showable ps h
  have b := ints_showable [(u : Int)] fun i hi => by rw [List.mem_singleton.mp hi]; exact ⟨by omega, by omega⟩
  simp only [List.map_cons, List.map_nil, PyData.showableAll, Bool.and_true] at b
  simp only [twoD, runD, PyData.showable, PyData.showableAll, a, Bool.true_and, Bool.and_true]
  simp only [PyData.showable] at b
  rw [b]
  rfl
theorem ints_depth : ∀ p : List Int, PyData.depthAll (p.map PyData.int) ≤ 1
  | [] => by simp [PyData.depthAll]
  | x :: r => by
    have := ints_depth r
    simp only [List.map_cons, PyData.depthAll, PyData.depth] at this ⊢
    omega
theorem pieces_depth : ∀ ps : List (List Int), PyData.depthAll (ps.map pieceD) ≤ 2
  | [] => by simp [PyData.depthAll]
  | p :: r => by
    have := pieces_depth r
    have := ints_depth p
    simp only [List.map_cons, PyData.depthAll, PyData.depth, pieceD] at *
    omega
theorem two_depth (ps : List (List Int)) (u : Nat) (st : Bool) : PyData.depth (twoD ps u st) ≤ 64 := by
  have := pieces_depth ps
  simp only [twoD, runD, PyData.depth, PyData.depthAll]
  omega
end EM

/-! comparing loops: what a loop does with an exact and prompt source hangs on kinds of pieces and rests alone -/
namespace CoM
open PySem EM
/-! ### lengths -/
def passL (sz h : Nat) (told : Bool) (t : Str) (n : Nat) : Bool :=
  if t = "" then true
  else if t = "told" ∨ t = "open" then told == decide (t = "told")
  else if t = "rest" ∨ t = "bare" then decide (0 < n) == decide (t = "rest")
  else if t = "empty" ∨ t = "some" then decide (0 < h) == decide (t = "some")
  else decide (h < sz) == decide (t = "short")
theorem pass_len (sz : Nat) (held : List Int) (told : Bool) (t : Str) (rest : List Int) : passM sz held told t rest = passL sz held.length told t rest.length := rfl
def perfL (sz h : Nat) (s : Str) (n : Nat) : Nat := if s = "add" then n + h else if s = "hand" then n else if s = "cut" then n % sz else if s = "flush" then 0 else n
theorem perf_len (sz : Nat) (held : List Int) (s : Str) (x : RP) : (perfM sz held s x).rest.length = perfL sz held.length s x.rest.length := by
  unfold perfM perfL
  split
  · exact List.length_append
  split
  · rfl
  split
  · show (x.rest.drop _).length = _
    rw [List.length_drop, Nat.mod_def, Nat.mul_comm]
  split
  · rfl
  · rfl
def runL (sz h : Nat) (told : Bool) : List (Str × Str) → Nat → Nat × Bool
  | [], n => (n, false)
  | (t, s) :: r, n => if passL sz h told t n = true then (if s = "again" then (n, false) else if s = "stop" then (n, true) else runL sz h told r (perfL sz h s n)) else runL sz h told r n
theorem run_len (sz : Nat) (held : List Int) (told : Bool) : ∀ (ws : List (Str × Str)) (x : RP), (runW sz held told ws x).1.rest.length = (runL sz held.length told ws x.rest.length).1 ∧ (runW sz held told ws x).2 = (runL sz held.length told ws x.rest.length).2
  | [], x => ⟨rfl, rfl⟩
  | (t, s) :: r, x => by
    rw [show runW sz held told ((t, s) :: r) x = if passM sz held told t x.rest = true then (if s = "again" then (x, false) else if s = "stop" then (x, true) else runW sz held told r (perfM sz held s x)) else runW sz held told r x from rfl,
      show runL sz held.length told ((t, s) :: r) x.rest.length = if passL sz held.length told t x.rest.length = true then (if s = "again" then (x.rest.length, false) else if s = "stop" then (x.rest.length, true) else runL sz held.length told r (perfL sz held.length s x.rest.length)) else runL sz held.length told r x.rest.length from rfl, pass_len]
    split
    · split
      · exact ⟨rfl, rfl⟩
      split
      · exact ⟨rfl, rfl⟩
      · rw [← perf_len]
        exact run_len sz held told r _
    · exact run_len sz held told r x
theorem ans_len (sz : Nat) (ro eo : List (Str × Str)) (held : List Int) (told : Bool) (x : RP) : (ansM sz ro eo held told x).2 = (runL sz held.length told ro x.rest.length).2 ∧ ((ansM sz ro eo held told x).2 = false → (ansM sz ro eo held told x).1.rest.length = (runL sz held.length told ro x.rest.length).1) := by
  obtain ⟨a, b⟩ := run_len sz held told ro x
  unfold ansM
  split
  next h => exact ⟨by rw [← b, h], fun z => by cases z⟩
  next h => exact ⟨by rw [← b]; simpa using h, fun _ => a⟩
/-! ### kinds -/
inductive A | e | f | p
  deriving DecidableEq
inductive Hk | no | part | full
  deriving DecidableEq
def al (sz n : Nat) : A := if n = 0 then .e else if n % sz = 0 then .f else .p
def kd (sz h : Nat) : Hk := if h = 0 then .no else if h < sz then .part else .full
def passA (k : Hk) (told : Bool) (t : Str) (a : A) : Bool :=
  if t = "" then true
  else if t = "told" ∨ t = "open" then told == decide (t = "told")
  else if t = "rest" ∨ t = "bare" then decide (a ≠ .e) == decide (t = "rest")
  else if t = "empty" ∨ t = "some" then decide (k ≠ .no) == decide (t = "some")
  else decide (k ≠ .full) == decide (t = "short")
def addA : Hk → A → A
  | .no, a => a
  | .full, .e => .f
  | .full, a => a
  | .part, _ => .p
def cutA : A → A
  | .p => .p
  | _ => .e
def perfA (k : Hk) (s : Str) (a : A) : A := if s = "add" then addA k a else if s = "hand" then a else if s = "cut" then cutA a else if s = "flush" then .e else a
def runA (k : Hk) (told : Bool) : List (Str × Str) → A → A × Bool
  | [], a => (a, false)
  | (t, s) :: r, a => if passA k told t a = true then (if s = "again" then (a, false) else if s = "stop" then (a, true) else runA k told r (perfA k s a)) else runA k told r a
theorem runA_cons (k : Hk) (told : Bool) (t s : Str) (r : List (Str × Str)) (a : A) : runA k told ((t, s) :: r) a = if passA k told t a = true then (if s = "again" then (a, false) else if s = "stop" then (a, true) else runA k told r (perfA k s a)) else runA k told r a := rfl
theorem runL_cons (sz h : Nat) (told : Bool) (t s : Str) (r : List (Str × Str)) (n : Nat) : runL sz h told ((t, s) :: r) n = if passL sz h told t n = true then (if s = "again" then (n, false) else if s = "stop" then (n, true) else runL sz h told r (perfL sz h s n)) else runL sz h told r n := rfl
section
variable {sz h : Nat} (z : 1 ≤ sz) (hh : h ≤ sz)
include z hh
theorem al_e {n : Nat} : (al sz n ≠ .e) ↔ 0 < n := by
  unfold al
  constructor
  · intro q
    by_cases c : n = 0
    · rw [if_pos c] at q
      exact absurd rfl q
    · omega
  · intro q
    rw [if_neg (by omega)]
    split <;> simp
theorem kd_no : (kd sz h ≠ .no) ↔ 0 < h := by
  unfold kd
  constructor
  · intro q
    by_cases c : h = 0
    · rw [if_pos c] at q
      exact absurd rfl q
    · omega
  · intro q
    rw [if_neg (by omega)]
    split <;> simp
theorem kd_full : (kd sz h ≠ .full) ↔ h < sz := by
  unfold kd
  by_cases c : h = 0
  · rw [if_pos c]
    constructor
    · intro; omega
    · intro; simp
  · rw [if_neg c]
    by_cases d : h < sz
    · rw [if_pos d]
      exact ⟨fun _ => d, fun _ => by simp⟩
    · rw [if_neg d]
      exact ⟨fun q => absurd rfl q, fun q => absurd q d⟩
theorem pass_al (told : Bool) (t : Str) (n : Nat) : passL sz h told t n = passA (kd sz h) told t (al sz n) := by
  unfold passL passA
  rw [decide_eq_decide.mpr (al_e z hh (n := n)), decide_eq_decide.mpr (kd_no z hh), decide_eq_decide.mpr (kd_full z hh)]
theorem perf_al (s : Str) (n : Nat) (c : s = "add" → kd sz h = .part → al sz n ≠ .p) : al sz (perfL sz h s n) = perfA (kd sz h) s (al sz n) := by
  unfold perfL perfA
  by_cases h1 : s = "add"
  · rw [if_pos h1, if_pos h1]
    have c := c h1
    unfold kd at c ⊢
    by_cases h0 : h = 0
    · rw [if_pos h0, h0]
      rfl
    rw [if_neg h0] at c ⊢
    by_cases hs : h < sz
    · rw [if_pos hs] at c ⊢
      have c := c rfl
      show al sz (n + h) = .p
      unfold al at c ⊢
      rw [if_neg (by omega)]
      by_cases n0 : n = 0
      · rw [n0, Nat.zero_add, Nat.mod_eq_of_lt hs, if_neg h0]
      · rw [if_neg n0] at c
        by_cases nm : n % sz = 0
        · have : (n + h) % sz = h := by rw [Nat.add_mod, nm, Nat.zero_add, Nat.mod_mod, Nat.mod_eq_of_lt hs]
          rw [this, if_neg h0]
        · rw [if_neg nm] at c
          exact absurd rfl c
    · rw [if_neg hs]
      have e : h = sz := by omega
      subst e
      unfold al
      rw [if_neg (by omega), Nat.add_mod_right]
      by_cases n0 : n = 0
      · rw [n0, Nat.zero_mod, if_pos rfl, if_pos rfl]
        rfl
      · rw [if_neg n0]
        by_cases nm : n % h = 0
        · rw [if_pos nm]
          rfl
        · rw [if_neg nm]
          rfl
  rw [if_neg h1, if_neg h1]
  by_cases h2 : s = "hand"
  · rw [if_pos h2, if_pos h2]
  rw [if_neg h2, if_neg h2]
  by_cases h3 : s = "cut"
  · rw [if_pos h3, if_pos h3]
    unfold al
    by_cases n0 : n = 0
    · rw [n0, Nat.zero_mod, if_pos rfl]
      rfl
    · rw [if_neg n0]
      by_cases nm : n % sz = 0
      · rw [if_pos nm, if_pos nm]
        rfl
      · rw [if_neg nm, if_neg nm, Nat.mod_mod, if_neg nm]
        rfl
  rw [if_neg h3, if_neg h3]
  by_cases h4 : s = "flush"
  · rw [if_pos h4, if_pos h4]
    rfl
  · rw [if_neg h4, if_neg h4]
theorem run_al (told : Bool) : ∀ (ws : List (Str × Str)) (n : Nat), (kd sz h = .part → adds ws ≤ 1 ∧ (adds ws = 0 ∨ al sz n ≠ .p)) → runA (kd sz h) told ws (al sz n) = (al sz (runL sz h told ws n).1, (runL sz h told ws n).2)
  | [], n, _ => rfl
  | (t, s) :: r, n, c => by
    have ea : adds ((t, s) :: r) = isA s + adds r := rfl
    rw [runA_cons, runL_cons, ← pass_al z hh]
    have cr : kd sz h = .part → adds r ≤ 1 ∧ (adds r = 0 ∨ al sz n ≠ .p) := fun q => by
      obtain ⟨c1, c2⟩ := c q
      rw [ea] at c1 c2
      refine ⟨by omega, ?_⟩
      rcases c2 with c2 | c2
      · exact .inl (by omega)
      · exact .inr c2
    split
    · split
      · rfl
      split
      · rfl
      · have ps := perf_al z hh s n (fun h1 q => by
          obtain ⟨c1, c2⟩ := c q
          rw [ea, h1, show isA "add" = 1 from rfl] at c2
          rcases c2 with c2 | c2
          · omega
          · exact c2)
        rw [← ps]
        refine run_al told r _ fun q => ?_
        obtain ⟨c1, c2⟩ := c q
        rw [ea] at c1
        by_cases h1 : s = "add"
        · rw [h1, show isA "add" = 1 from rfl] at c1
          exact ⟨by omega, .inl (by omega)⟩
        · refine ⟨by omega, ?_⟩
          rcases (cr q).2 with d | d
          · exact .inl d
          · refine .inr ?_
            rw [ps]
            unfold perfA
            rw [if_neg h1]
            split
            · exact d
            split
            · intro y
              cases e : al sz n with
              | e => rw [e] at y; cases y
              | f => rw [e] at y; cases y
              | p => exact d e
            split
            · intro y; cases y
            · exact d
    · exact run_al told r n cr
end
/-! ### full pieces -/
/-- a round from an empty rest that leaves full pieces leaves them from full pieces too, or stops -/
theorem two_runs (k : Hk) (hk : k = .full) (told : Bool) : ∀ (ws : List (Str × Str)), runA k told ws .e = (.f, false) → runA k told ws .f = (.f, false) ∨ (runA k told ws .f).2 = true
  | [], h => by cases h
  | (t, s) :: r, h => by
    rw [runA_cons] at h ⊢
    subst hk
    by_cases h1 : s = "again"
    · subst h1
      rw [if_pos rfl] at h ⊢
      split at h
      · cases h
      · split
        · exact .inl rfl
        · exact two_runs .full rfl told r h
    rw [if_neg h1] at h ⊢
    by_cases h2 : s = "stop"
    · subst h2
      rw [if_pos rfl] at h ⊢
      split at h
      · cases h
      · split
        · exact .inr rfl
        · exact two_runs .full rfl told r h
    rw [if_neg h2] at h ⊢
    have pe : perfA .full s .e = .e ∨ (s = "add" ∧ perfA .full s .e = .f) := by
      unfold perfA
      by_cases a : s = "add"
      · rw [if_pos a]
        exact .inr ⟨a, rfl⟩
      · rw [if_neg a]
        split
        · exact .inl rfl
        split
        · exact .inl rfl
        split
        · exact .inl rfl
        · exact .inl rfl
    have pf : (perfA .full s .f = .f ∨ perfA .full s .f = .e) ∧ (s = "add" → perfA .full s .f = .f) := by
      unfold perfA
      by_cases a : s = "add"
      · rw [if_pos a]
        exact ⟨.inl rfl, fun _ => rfl⟩
      · rw [if_neg a]
        refine ⟨?_, fun z => absurd z a⟩
        split
        · exact .inl rfl
        split
        · exact .inr rfl
        split
        · exact .inr rfl
        · exact .inl rfl
    split at h
    · rcases pe with e | ⟨a, e⟩
      · rw [e] at h
        split
        · rcases pf.1 with g | g
          · rw [g]; exact two_runs .full rfl told r h
          · rw [g]; exact .inl h
        · exact two_runs .full rfl told r h
      · rw [e] at h
        split
        · rw [pf.2 a]; exact .inl h
        · exact .inl h
    · split
      · rcases pf.1 with g | g
        · rw [g]; exact two_runs .full rfl told r h
        · rw [g]; exact .inl h
      · exact two_runs .full rfl told r h
/-- with full pieces no part comes into the rest -/
theorem full_np (told : Bool) : ∀ (ws : List (Str × Str)) (a : A), a ≠ .p → (runA .full told ws a).1 ≠ .p
  | [], a, h => h
  | (t, s) :: r, a, h => by
    rw [runA_cons]
    have pp : perfA .full s a ≠ .p := by
      unfold perfA
      split
      · cases a with
        | e => exact fun z => by cases z
        | f => exact fun z => by cases z
        | p => exact absurd rfl h
      split
      · exact h
      split
      · cases a with
        | e => exact fun z => by cases z
        | f => exact fun z => by cases z
        | p => exact absurd rfl h
      split
      · exact fun z => by cases z
      · exact h
    split
    · split
      · exact h
      split
      · exact h
      · exact full_np told r _ pp
    · exact full_np told r a h
end CoM

/-! how often a loop asks: by kinds, and by lengths -/
namespace CoM
open PySem EM
def wl (E : Str) : Bool := decide (E = "with")
def tl (E : Str) : Bool := decide (E ≠ "empty")
/-- rounds without items until the stop -/
def nothA (told : Bool) (ro : List (Str × Str)) : Nat → A → Option Nat
  | 0, _ => none
  | k + 1, a => if (runA .no told ro a).2 = true then some 1 else if (runA .no told ro a).1 = a then none else (nothA told ro k (runA .no told ro a).1).map (· + 1)
/-- how often is asked with q full pieces, and a part perhaps, from this kind of rest -/
def askA (ro : List (Str × Str)) (E : Str) (part : Bool) : Nat → A → Option Nat
  | 0, a => if part = true then (if (runA .part (wl E) ro a).2 = true then some 1 else (nothA (tl E) ro 3 (runA .part (wl E) ro a).1).map (· + 1)) else nothA (tl E) ro 3 a
  | q + 1, a => if (runA .full (wl E && decide (q = 0) && !part) ro a).2 = true then some 1 else (askA ro E part q (runA .full (wl E && decide (q = 0) && !part) ro a).1).map (· + 1)
theorem ask_far (ro : List (Str × Str)) (E : Str) (part : Bool) (q : Nat) (a : A) : askA ro E part (q + 2) a = if (runA .full false ro a).2 = true then some 1 else (askA ro E part (q + 1) (runA .full false ro a).1).map (· + 1) := by
  have e : (wl E && decide (q + 1 = 0) && !part) = false := by
    rw [decide_eq_false (by omega)]
    simp
  show (if (runA .full (wl E && decide (q + 1 = 0) && !part) ro a).2 = true then _ else _) = _
  rw [e]
theorem ask_per (ro : List (Str × Str)) (E : Str) (part : Bool) : (∃ c, ∀ q, 3 ≤ q → askA ro E part q .e = some c) ∨ (∀ q, 3 ≤ q → askA ro E part (q + 1) .e = (askA ro E part q .e).map (· + 1)) := by
  have far : ∀ q a, 2 ≤ q → askA ro E part q a = if (runA .full false ro a).2 = true then some 1 else (askA ro E part (q - 1) (runA .full false ro a).1).map (· + 1) := fun q a h => by
    obtain ⟨r, rfl⟩ : ∃ r, q = r + 2 := ⟨q - 2, by omega⟩
    exact ask_far ro E part r a
  cases s : (runA .full false ro .e).2 with
  | true =>
    refine .inl ⟨1, fun q h => ?_⟩
    rw [far q _ (by omega), if_pos s]
  | false =>
    have np := full_np false ro .e (by intro z; cases z)
    cases g : (runA .full false ro .e).1 with
    | p => exact absurd g np
    | e =>
      refine .inr fun q h => ?_
      rw [far (q + 1) _ (by omega), if_neg (by rw [s]; decide), g]
      rfl
    | f =>
      have ge : runA .full false ro .e = (.f, false) := Prod.ext g s
      rcases two_runs .full rfl false ro ge with w | w
      · refine .inr fun q h => ?_
        rw [far (q + 1) _ (by omega), if_neg (by rw [s]; decide), g, show q + 1 - 1 = q by omega, far q .f (by omega), w, if_neg (by decide), far q .e (by omega), if_neg (by rw [s]; decide), g]
      · refine .inl ⟨2, fun q h => ?_⟩
        rw [far q _ (by omega), if_neg (by rw [s]; decide), g, far (q - 1) _ (by omega), if_pos w]
        rfl
/-- from four full pieces on the numbers go on evenly -/
theorem ask_form (ro : List (Str × Str)) (E : Str) (part : Bool) : (askA ro E part 4 .e = none ∧ ∀ q, 4 ≤ q → askA ro E part q .e = none) ∨ ∃ n d : Nat, d ≤ 1 ∧ ∀ q, 4 ≤ q → askA ro E part q .e = some (n + d * (q - 4)) := by
  rcases ask_per ro E part with ⟨c, h⟩ | h
  · refine .inr ⟨c, 0, by decide, fun q hq => ?_⟩
    rw [h q (by omega), Nat.zero_mul]
    rfl
  · cases e : askA ro E part 4 .e with
    | none =>
      refine .inl ⟨rfl, fun q hq => ?_⟩
      obtain ⟨k, rfl⟩ : ∃ k, q = 4 + k := ⟨q - 4, by omega⟩
      clear hq
      induction k with
      | zero => exact e
      | succ k ih =>
        rw [show 4 + (k + 1) = (4 + k) + 1 by omega, h (4 + k) (by omega), ih]
        rfl
    | some n =>
      refine .inr ⟨n, 1, by decide, fun q hq => ?_⟩
      obtain ⟨k, rfl⟩ : ∃ k, q = 4 + k := ⟨q - 4, by omega⟩
      clear hq
      induction k with
      | zero => exact e
      | succ k ih =>
        rw [show 4 + (k + 1) = (4 + k) + 1 by omega, h (4 + k) (by omega), ih]
        simp only [Option.map_some, Option.some.injEq]
        omega
/-! ### by lengths -/
theorem no_len (sz : Nat) (told : Bool) : ∀ (ws : List (Str × Str)) (n : Nat), (runL sz 0 told ws n).1 = n ∨ (runL sz 0 told ws n).1 = n % sz ∨ (runL sz 0 told ws n).1 = 0
  | [], n => .inl rfl
  | (t, s) :: r, n => by
    rw [runL_cons]
    have ps : perfL sz 0 s n = n ∨ perfL sz 0 s n = n % sz ∨ perfL sz 0 s n = 0 := by
      unfold perfL
      split
      · exact .inl rfl
      split
      · exact .inl rfl
      split
      · exact .inr (.inl rfl)
      split
      · exact .inr (.inr rfl)
      · exact .inl rfl
    split
    · split
      · exact .inl rfl
      split
      · exact .inl rfl
      · rcases ps with e | e | e
        · rw [e]; exact no_len sz told r n
        · rw [e]
          rcases no_len sz told r (n % sz) with y | y | y
          · exact .inr (.inl y)
          · rw [Nat.mod_mod] at y; exact .inr (.inl y)
          · exact .inr (.inr y)
        · rw [e]
          rcases no_len sz told r 0 with y | y | y
          · exact .inr (.inr y)
          · rw [Nat.zero_mod] at y; exact .inr (.inr y)
          · exact .inr (.inr y)
    · exact no_len sz told r n
def nothL (sz : Nat) (told : Bool) (ro : List (Str × Str)) : Nat → Nat → Option Nat
  | 0, _ => none
  | k + 1, n => if (runL sz 0 told ro n).2 = true then some 1 else if (runL sz 0 told ro n).1 = n then none else (nothL sz told ro k (runL sz 0 told ro n).1).map (· + 1)
section
variable {sz : Nat} (z : 1 ≤ sz) (told : Bool) (ro : List (Str × Str))
include z
theorem no_al (n : Nat) : runA .no told ro (al sz n) = (al sz (runL sz 0 told ro n).1, (runL sz 0 told ro n).2) := by
  have := run_al (h := 0) z (Nat.zero_le _) told ro n (fun q => by unfold kd at q; rw [if_pos rfl] at q; cases q)
  unfold kd at this
  rw [if_pos rfl] at this
  exact this
theorem no_e : runA .no told ro .e = (.e, (runL sz 0 told ro 0).2) ∧ (runL sz 0 told ro 0).1 = 0 := by
  have e := no_al z told ro 0
  have l0 : (runL sz 0 told ro 0).1 = 0 := by
    rcases no_len sz told ro 0 with y | y | y
    · exact y
    · rw [Nat.zero_mod] at y; exact y
    · exact y
  rw [l0] at e
  exact ⟨e, l0⟩
theorem noth_0 (k : Nat) : nothL sz told ro (k + 1) 0 = nothA told ro 1 .e := by
  obtain ⟨e, l0⟩ := no_e z told ro
  unfold nothL nothA
  rw [e, l0]
  cases (runL sz 0 told ro 0).2 <;> rfl
theorem nothA_e (k : Nat) : nothA told ro (k + 1) .e = nothA told ro 1 .e := by
  obtain ⟨e, l0⟩ := no_e z told ro
  unfold nothA
  rw [e]
  cases (runL sz 0 told ro 0).2 <;> rfl
theorem noth_al (k n : Nat) : nothL sz told ro (k + 3) n = nothA told ro 3 (al sz n) := by
  have e := no_al z told ro n
  show (if (runL sz 0 told ro n).2 = true then some 1 else if (runL sz 0 told ro n).1 = n then none else (nothL sz told ro (k + 2) (runL sz 0 told ro n).1).map (· + 1)) = if (runA .no told ro (al sz n)).2 = true then some 1 else if (runA .no told ro (al sz n)).1 = al sz n then none else (nothA told ro 2 (runA .no told ro (al sz n)).1).map (· + 1)
  rw [e]
  show _ = if (runL sz 0 told ro n).2 = true then some 1 else if al sz (runL sz 0 told ro n).1 = al sz n then none else (nothA told ro 2 (al sz (runL sz 0 told ro n).1)).map (· + 1)
  cases s : (runL sz 0 told ro n).2 with
  | true => rw [if_pos rfl, if_pos rfl]
  | false =>
    simp only [Bool.false_eq_true, if_false]
    by_cases c : (runL sz 0 told ro n).1 = n
    · rw [if_pos c, c, if_pos rfl]
    · rw [if_neg c]
      rcases no_len sz told ro n with y | y | y
      · exact absurd y c
      · by_cases m : n % sz = 0
        · rw [y, m]
          have n0 : n ≠ 0 := fun q => c (by rw [y, q, Nat.zero_mod])
          have : al sz n = .f := by unfold al; rw [if_neg n0, if_pos m]
          rw [this, show al sz 0 = .e from rfl, if_neg (by intro z; cases z), noth_0 z, nothA_e z told ro 1]
        · have n0 : n ≠ 0 := fun q => m (by rw [q, Nat.zero_mod])
          have a1 : al sz n = .p := by unfold al; rw [if_neg n0, if_neg m]
          have a2 : al sz (n % sz) = .p := by unfold al; rw [if_neg m, Nat.mod_mod, if_neg m]
          rw [y, a1, a2, if_pos rfl]
          have e2 := no_al z told ro (n % sz)
          rw [a2, ← a1, e, y, a2] at e2
          have q1 := (Prod.ext_iff.mp e2).1
          have q2 := (Prod.ext_iff.mp e2).2
          simp only at q1 q2
          have l2 : (runL sz 0 told ro (n % sz)).1 = n % sz := by
            rcases no_len sz told ro (n % sz) with w | w | w
            · exact w
            · rw [Nat.mod_mod] at w; exact w
            · rw [w] at q1; cases q1
          show Option.map _ (if (runL sz 0 told ro (n % sz)).2 = true then some 1 else if (runL sz 0 told ro (n % sz)).1 = n % sz then none else _) = none
          rw [← q2, s, if_neg (by decide), if_pos l2]
          rfl
      · have n0 : n ≠ 0 := fun q => c (by rw [y, q])
        have : al sz n ≠ .e := (al_e (h := 0) z (Nat.zero_le _)).mpr (by omega)
        rw [y, show al sz 0 = .e from rfl, if_neg this.symm, noth_0 z, nothA_e z told ro 1]
end
def askL (sz p : Nat) (ro : List (Str × Str)) (E : Str) : Nat → Nat → Option Nat
  | 0, n => if p = 0 then nothL sz (tl E) ro 4 n else if (runL sz p (wl E) ro n).2 = true then some 1 else (nothL sz (tl E) ro 4 (runL sz p (wl E) ro n).1).map (· + 1)
  | q + 1, n => if (runL sz sz (wl E && decide (q = 0) && decide (p = 0)) ro n).2 = true then some 1 else (askL sz p ro E q (runL sz sz (wl E && decide (q = 0) && decide (p = 0)) ro n).1).map (· + 1)
theorem ask_al {sz p : Nat} (z : 1 ≤ sz) (hp : p < sz) {ro : List (Str × Str)} (ha : adds ro ≤ 1) (E : Str) : ∀ (q n : Nat), al sz n ≠ .p → askL sz p ro E q n = askA ro E (decide (p ≠ 0)) q (al sz n)
  | 0, n, hn => by
    show (if p = 0 then nothL sz (tl E) ro 4 n else if (runL sz p (wl E) ro n).2 = true then some 1 else (nothL sz (tl E) ro 4 (runL sz p (wl E) ro n).1).map (· + 1)) = if decide (p ≠ 0) = true then (if (runA .part (wl E) ro (al sz n)).2 = true then some 1 else (nothA (tl E) ro 3 (runA .part (wl E) ro (al sz n)).1).map (· + 1)) else nothA (tl E) ro 3 (al sz n)
    by_cases p0 : p = 0
    · rw [if_pos p0, if_neg (by simp [p0])]
      exact noth_al z (tl E) ro 1 n
    · have k : kd sz p = .part := by unfold kd; rw [if_neg p0, if_pos hp]
      have e := run_al (h := p) z (Nat.le_of_lt hp) (wl E) ro n (fun _ => ⟨ha, .inr hn⟩)
      rw [k] at e
      rw [if_neg p0, decide_eq_true p0, if_pos (rfl : true = true), e, noth_al z (tl E) ro 1]
  | q + 1, n, hn => by
    have k : kd sz sz = .full := by unfold kd; rw [if_neg (by omega), if_neg (by omega)]
    have eb : decide (p = 0) = !decide (p ≠ 0) := by by_cases p0 : p = 0 <;> simp [p0]
    have e := run_al (h := sz) z (Nat.le_refl _) (wl E && decide (q = 0) && decide (p = 0)) ro n (fun y => by rw [k] at y; cases y)
    rw [k] at e
    have np := full_np (wl E && decide (q = 0) && decide (p = 0)) ro (al sz n) hn
    rw [e] at np
    show (if (runL sz sz (wl E && decide (q = 0) && decide (p = 0)) ro n).2 = true then some 1 else (askL sz p ro E q (runL sz sz (wl E && decide (q = 0) && decide (p = 0)) ro n).1).map (· + 1)) = if (runA .full (wl E && decide (q = 0) && !decide (p ≠ 0)) ro (al sz n)).2 = true then some 1 else (askA ro E (decide (p ≠ 0)) q (runA .full (wl E && decide (q = 0) && !decide (p ≠ 0)) ro (al sz n)).1).map (· + 1)
    rw [← eb, e, ask_al z hp ha E q _ np]
end CoM

/-! rounds without items, as the program does them -/
namespace CoM
open PySem EM
/-- a loop at work: the row, how often it has asked, whether it has stopped -/
structure WS where
  x : RP
  ak : Nat
  st : Bool
def ansS (sz : Nat) (ro eo : List (Str × Str)) (held : List Int) (told : Bool) (s : WS) : WS := ⟨(ansM sz ro eo held told s.x).1, s.ak + 1, (ansM sz ro eo held told s.x).2⟩
/-- m: the length of the rest before the last round -/
def noS (sz : Nat) (ro eo : List (Str × Str)) (told : Bool) : Nat → Option Nat → WS → WS
  | 0, _, s => s
  | k + 1, m, s => if s.st = true then s else if some s.x.rest.length = m then s else noS sz ro eo told k (some s.x.rest.length) (ansS sz ro eo [] told s)
def rk (sz n : Nat) : Nat := if n = 0 then 0 else if n < sz then 1 else 2
theorem rk_le (sz n : Nat) : rk sz n ≤ 2 := by
  unfold rk
  split
  · omega
  split <;> omega
theorem no_rest {sz : Nat} {ro eo : List (Str × Str)} {told : Bool} {x : RP} (h : (ansM sz ro eo [] told x).2 = false) : (ansM sz ro eo [] told x).1.rest.length = x.rest.length ∨ (ansM sz ro eo [] told x).1.rest.length = x.rest.length % sz ∨ (ansM sz ro eo [] told x).1.rest.length = 0 := by
  rw [(ans_len sz ro eo [] told x).2 h]
  exact no_len sz told ro x.rest.length
/-- the rest becomes of a lower rank, or it stays -/
theorem rk_down {sz : Nat} (z : 1 ≤ sz) {n m : Nat} (h : m = n ∨ m = n % sz ∨ m = 0) : m = n ∨ rk sz m < rk sz n := by
  by_cases e : m = n
  · exact .inl e
  refine .inr ?_
  unfold rk
  rcases h with h | h | h
  · exact absurd h e
  · have lt : n % sz < sz := Nat.mod_lt _ z
    have ns : ¬ n < sz := fun c => e (by rw [h, Nat.mod_eq_of_lt c])
    rw [if_neg (show ¬ n = 0 by omega), if_neg ns, h]
    split
    · omega
    · first
        | (rw [if_pos lt]; omega)
        | omega
  · have n0 : n ≠ 0 := fun c => e (by rw [h, c])
    rw [if_pos h, if_neg n0]
    split <;> omega
theorem no_stop (sz : Nat) (ro eo : List (Str × Str)) (told : Bool) (k : Nat) (m : Option Nat) (s : WS) (h : s.st = true) : noS sz ro eo told k m s = s := by
  cases k with
  | zero => rfl
  | succ k =>
    show (if s.st = true then s else _) = s
    rw [if_pos h]
/-- whether and when it stops: by lengths -/
theorem no_asked {sz : Nat} (ro eo : List (Str × Str)) (told : Bool) : ∀ (k : Nat) (s : WS), s.st = false → (match nothL sz told ro k s.x.rest.length with | some r => (noS sz ro eo told k none s).st = true ∧ (noS sz ro eo told k none s).ak = s.ak + r | none => (noS sz ro eo told k none s).st = false) ∧
    ∀ l, l ≠ s.x.rest.length → noS sz ro eo told k (some l) s = noS sz ro eo told k none s
  | 0, s, h => ⟨h, fun _ _ => rfl⟩
  | k + 1, s, h => by
    have eq : ∀ m, some s.x.rest.length ≠ m → noS sz ro eo told (k + 1) m s = noS sz ro eo told k (some s.x.rest.length) (ansS sz ro eo [] told s) := fun m hm => by
      show (if s.st = true then s else if some s.x.rest.length = m then s else _) = _
      rw [if_neg (by rw [h]; decide), if_neg hm]
    refine ⟨?_, fun l hl => by rw [eq _ (by intro z; exact hl (Option.some.inj z).symm), eq none (by intro z; cases z)]⟩
    rw [eq none (by intro z; cases z)]
    obtain ⟨a1, a2⟩ := ans_len sz ro eo [] told s.x
    show (match (if (runL sz 0 told ro s.x.rest.length).2 = true then some 1 else if (runL sz 0 told ro s.x.rest.length).1 = s.x.rest.length then none else (nothL sz told ro k (runL sz 0 told ro s.x.rest.length).1).map (· + 1)) with | some r => _ | none => _)
    by_cases c : (ansM sz ro eo [] told s.x).2 = true
    · have c' : (runL sz 0 told ro s.x.rest.length).2 = true := a1 ▸ c
      rw [if_pos c', no_stop _ _ _ _ _ _ _ (show (ansS sz ro eo [] told s).st = true from c)]
      exact ⟨c, rfl⟩
    · have cf : (ansM sz ro eo [] told s.x).2 = false := by simpa using c
      have c' : ¬ (runL sz 0 told ro s.x.rest.length).2 = true := fun q => c (a1.trans q)
      have ln : (ansS sz ro eo [] told s).x.rest.length = (runL sz 0 told ro s.x.rest.length).1 := a2 cf
      rw [if_neg c']
      by_cases d : (runL sz 0 told ro s.x.rest.length).1 = s.x.rest.length
      · rw [if_pos d]
        show (noS sz ro eo told k (some s.x.rest.length) (ansS sz ro eo [] told s)).st = false
        cases k with
        | zero => exact cf
        | succ k =>
          show (if (ansS sz ro eo [] told s).st = true then (ansS sz ro eo [] told s) else if some (ansS sz ro eo [] told s).x.rest.length = some s.x.rest.length then (ansS sz ro eo [] told s) else _).st = false
          rw [if_neg (by show ¬ (ansM sz ro eo [] told s.x).2 = true; exact c), if_pos (by rw [ln, d])]
          exact cf
      · rw [if_neg d]
        obtain ⟨i1, i2⟩ := no_asked ro eo told k (ansS sz ro eo [] told s) cf
        rw [i2 s.x.rest.length (by rw [ln]; exact fun q => d q.symm)]
        rw [ln] at i1
        cases e : nothL sz told ro k (runL sz 0 told ro s.x.rest.length).1 with
        | none => rw [e] at i1; exact i1
        | some r =>
          rw [e] at i1
          refine ⟨i1.1, ?_⟩
          rw [i1.2]
          show s.ak + 1 + r = s.ak + (r + 1)
          omega
end CoM

/-! a run with an exact and prompt source: how often it asks -/
namespace CoM
open PySem EM
def itF (f c : Nat) : List Int := (List.range c).map fun i => (f : Int) + (i : Nat)
theorem itF_len (f c : Nat) : (itF f c).length = c := by rw [itF, List.length_map, List.length_range]
/-- what such a source tells -/
def tell (E : Str) (before after : Nat) : Bool := if E = "empty" then false else if E = "behind" then decide (before = 0) else decide (after = 0)
def isE (E : Str) : Prop := E = "empty" ∨ E = "with" ∨ E = "behind"
theorem tell_no {E : Str} (h : isE E) : tell E 0 0 = tl E := by
  rcases h with rfl | rfl | rfl <;> decide +kernel
theorem tell_some {E : Str} (h : isE E) (b a : Nat) (hb : b ≠ 0) : tell E b a = (wl E && decide (a = 0)) := by
  unfold tell wl
  rcases h with rfl | rfl | rfl
  · rw [if_pos rfl]
    rfl
  · rw [if_neg (by decide +kernel), if_neg (by decide +kernel), decide_eq_true (rfl : ("with" : Str) = "with"), Bool.true_and]
  · rw [if_neg (by decide +kernel), if_pos rfl, decide_eq_false hb, decide_eq_false (by decide +kernel : ¬ ("behind" : Str) = "with")]
    rfl
/-- the rounds with items -/
def exS (sz : Nat) (ro eo : List (Str × Str)) (E : Str) (N : Nat) : Nat → Nat → WS → WS
  | 0, _, s => s
  | k + 1, first, s => if first < N ∧ s.st = false then exS sz ro eo E N k (min (first + sz) N) (ansS sz ro eo (itF first (min (first + sz) N - first)) (tell E (N - first) (N - min (first + sz) N)) s) else s
/-- the whole run -/
def wkS (sz : Nat) (ro eo : List (Str × Str)) (E : Str) (N : Nat) : WS := noS sz ro eo (tl E) 4 none (exS sz ro eo E N (N + 1) 0 ⟨⟨[], []⟩, 0, false⟩)
def asked (s : WS) : Option Nat := if s.st = true then some s.ak else none
theorem ex_stop (sz : Nat) (ro eo : List (Str × Str)) (E : Str) (N k first : Nat) (s : WS) (h : s.st = true) : exS sz ro eo E N k first s = s := by
  cases k with
  | zero => rfl
  | succ k =>
    show (if first < N ∧ s.st = false then _ else s) = s
    rw [if_neg (by rw [h]; intro z; cases z.2)]
theorem ex_end (sz : Nat) (ro eo : List (Str × Str)) (E : Str) (N k : Nat) (s : WS) : exS sz ro eo E N k N s = s := by
  cases k with
  | zero => rfl
  | succ k =>
    show (if N < N ∧ s.st = false then _ else s) = s
    rw [if_neg (fun z => Nat.lt_irrefl _ z.1)]
theorem ex_asked {sz p : Nat} (z : 1 ≤ sz) (hp : p < sz) (ro eo : List (Str × Str)) {E : Str} (hE : isE E) (N : Nat) : ∀ (q k first : Nat) (s : WS), s.st = false → first + (q * sz + p) = N → q + 2 ≤ k →
    (noS sz ro eo (tl E) 4 none (exS sz ro eo E N k first s)).st = (askL sz p ro E q s.x.rest.length).isSome ∧ ∀ r, askL sz p ro E q s.x.rest.length = some r → (noS sz ro eo (tl E) 4 none (exS sz ro eo E N k first s)).ak = s.ak + r
  | 0, k, first, s, h, e, hk => by
    have nothing : ∀ s : WS, s.st = false → (noS sz ro eo (tl E) 4 none s).st = (nothL sz (tl E) ro 4 s.x.rest.length).isSome ∧ ∀ r, nothL sz (tl E) ro 4 s.x.rest.length = some r → (noS sz ro eo (tl E) 4 none s).ak = s.ak + r := fun s h => by
      have a := (no_asked (sz := sz) ro eo (tl E) 4 s h).1
      cases c : nothL sz (tl E) ro 4 s.x.rest.length with
      | none => rw [c] at a; exact ⟨a, fun r y => by cases y⟩
      | some r =>
        rw [c] at a
        exact ⟨a.1, fun r' y => by cases y; exact a.2⟩
    have al : askL sz p ro E 0 s.x.rest.length = if p = 0 then nothL sz (tl E) ro 4 s.x.rest.length else if (runL sz p (wl E) ro s.x.rest.length).2 = true then some 1 else (nothL sz (tl E) ro 4 (runL sz p (wl E) ro s.x.rest.length).1).map (· + 1) := rfl
    rw [al]
    by_cases p0 : p = 0
    · have : first = N := by rw [p0] at e; omega
      rw [if_pos p0, this, ex_end]
      exact nothing s h
    · rw [if_neg p0]
      obtain ⟨k, rfl⟩ : ∃ j, k = j + 1 := ⟨k - 1, by omega⟩
      have eN : min (first + sz) N = N := by omega
      have ex : exS sz ro eo E N (k + 1) first s = ansS sz ro eo (itF first p) (wl E) s := by
        show (if first < N ∧ s.st = false then exS sz ro eo E N k (min (first + sz) N) (ansS sz ro eo (itF first (min (first + sz) N - first)) (tell E (N - first) (N - min (first + sz) N)) s) else s) = _
        rw [if_pos ⟨by omega, h⟩, eN, ex_end, show N - first = p by omega, show N - N = 0 by omega, tell_some hE p 0 p0, decide_eq_true rfl, Bool.and_true]
      rw [ex]
      obtain ⟨a1, a2⟩ := ans_len sz ro eo (itF first p) (wl E) s.x
      rw [itF_len] at a1 a2
      by_cases c : (ansM sz ro eo (itF first p) (wl E) s.x).2 = true
      · rw [if_pos (a1 ▸ c), no_stop _ _ _ _ _ _ _ (show (ansS sz ro eo (itF first p) (wl E) s).st = true from c)]
        exact ⟨c, fun r y => by cases y; rfl⟩
      · have cf : (ansM sz ro eo (itF first p) (wl E) s.x).2 = false := by simpa using c
        rw [if_neg (fun q => c (a1.trans q))]
        obtain ⟨n1, n2⟩ := nothing (ansS sz ro eo (itF first p) (wl E) s) cf
        have ln : (ansS sz ro eo (itF first p) (wl E) s).x.rest.length = (runL sz p (wl E) ro s.x.rest.length).1 := a2 cf
        rw [ln] at n1 n2
        refine ⟨by rw [n1, Option.isSome_map], fun r y => ?_⟩
        cases d : nothL sz (tl E) ro 4 (runL sz p (wl E) ro s.x.rest.length).1 with
        | none => rw [d] at y; cases y
        | some r' =>
          rw [d] at y
          cases y
          rw [n2 r' d]
          show s.ak + 1 + r' = s.ak + (r' + 1)
          omega
  | q + 1, k, first, s, h, e, hk => by
    obtain ⟨k, rfl⟩ : ∃ j, k = j + 1 := ⟨k - 1, by omega⟩
    have em : (q + 1) * sz = q * sz + sz := Nat.succ_mul q sz
    have eN : min (first + sz) N = first + sz := by omega
    have et : tell E (N - first) (N - (first + sz)) = (wl E && decide (q = 0) && decide (p = 0)) := by
      rw [tell_some hE _ _ (by omega), show N - (first + sz) = q * sz + p by omega, Bool.and_assoc, ← Bool.decide_and]
      refine congrArg (wl E && ·) (decide_eq_decide.mpr ⟨fun y => ?_, fun y => ?_⟩)
      · have m0 : q * sz = 0 := by omega
        rcases Nat.mul_eq_zero.mp m0 with a | a
        · exact ⟨a, by omega⟩
        · omega
      · rw [y.1, y.2, Nat.zero_mul]
    have ex : exS sz ro eo E N (k + 1) first s = exS sz ro eo E N k (first + sz) (ansS sz ro eo (itF first sz) (wl E && decide (q = 0) && decide (p = 0)) s) := by
      show (if first < N ∧ s.st = false then exS sz ro eo E N k (min (first + sz) N) (ansS sz ro eo (itF first (min (first + sz) N - first)) (tell E (N - first) (N - min (first + sz) N)) s) else s) = _
      rw [if_pos ⟨by omega, h⟩, eN, et, show first + sz - first = sz by omega]
    rw [ex]
    have al : askL sz p ro E (q + 1) s.x.rest.length = if (runL sz sz (wl E && decide (q = 0) && decide (p = 0)) ro s.x.rest.length).2 = true then some 1 else (askL sz p ro E q (runL sz sz (wl E && decide (q = 0) && decide (p = 0)) ro s.x.rest.length).1).map (· + 1) := rfl
    rw [al]
    generalize (wl E && decide (q = 0) && decide (p = 0)) = td
    obtain ⟨a1, a2⟩ := ans_len sz ro eo (itF first sz) td s.x
    rw [itF_len] at a1 a2
    by_cases c : (ansM sz ro eo (itF first sz) td s.x).2 = true
    · rw [if_pos (a1 ▸ c), ex_stop _ _ _ _ _ _ _ _ (show (ansS sz ro eo (itF first sz) td s).st = true from c), no_stop _ _ _ _ _ _ _ (show (ansS sz ro eo (itF first sz) td s).st = true from c)]
      exact ⟨c, fun r y => by cases y; rfl⟩
    · have cf : (ansM sz ro eo (itF first sz) td s.x).2 = false := by simpa using c
      rw [if_neg (fun q => c (a1.trans q))]
      have ln : (ansS sz ro eo (itF first sz) td s).x.rest.length = (runL sz sz td ro s.x.rest.length).1 := a2 cf
      obtain ⟨n1, n2⟩ := ex_asked z hp ro eo hE N q k (first + sz) (ansS sz ro eo (itF first sz) td s) cf (by omega) (by omega)
      rw [ln] at n1 n2
      refine ⟨by rw [n1, Option.isSome_map], fun r y => ?_⟩
      cases d : askL sz p ro E q (runL sz sz td ro s.x.rest.length).1 with
      | none => rw [d] at y; cases y
      | some r' =>
        rw [d] at y
        cases y
        rw [n2 r' d]
        show s.ak + 1 + r' = s.ak + (r' + 1)
        omega
/-- how often a run asks hangs on the number of full pieces and on whether there is a part -/
theorem wk_asked {sz : Nat} (z : 1 ≤ sz) {ro eo : List (Str × Str)} (ha : adds ro ≤ 1) {E : Str} (hE : isE E) (N : Nat) : asked (wkS sz ro eo E N) = askA ro E (decide (N % sz ≠ 0)) (N / sz) .e := by
  have hd : N / sz * sz + N % sz = N := by rw [Nat.mul_comm]; exact Nat.div_add_mod N sz
  have hq : N / sz ≤ N := Nat.div_le_self _ _
  have key := ex_asked z (Nat.mod_lt N z) ro eo hE N (N / sz) (N + 1 + 1) 0 ⟨⟨[], []⟩, 0, false⟩ rfl (by omega) (by omega)
  have more : exS sz ro eo E N (N + 1 + 1) 0 ⟨⟨[], []⟩, 0, false⟩ = exS sz ro eo E N (N + 1) 0 ⟨⟨[], []⟩, 0, false⟩ := by
    have gen : ∀ (k first : Nat) (s : WS), N < first + k → exS sz ro eo E N (k + 1) first s = exS sz ro eo E N k first s := by
      intro k
      induction k with
      | zero =>
        intro first s h
        show (if first < N ∧ s.st = false then _ else s) = s
        rw [if_neg (by omega)]
      | succ k ih =>
        intro first s h
        show (if first < N ∧ s.st = false then exS sz ro eo E N (k + 1) (min (first + sz) N) _ else s) = (if first < N ∧ s.st = false then exS sz ro eo E N k (min (first + sz) N) _ else s)
        split
        next c => exact ih _ _ (by omega)
        next c => rfl
    exact gen (N + 1) 0 _ (by omega)
  rw [more] at key
  have e : askL sz (N % sz) ro E (N / sz) 0 = askA ro E (decide (N % sz ≠ 0)) (N / sz) .e := ask_al z (Nat.mod_lt N z) ha E (N / sz) 0 (by intro y; cases y)
  rw [← e]
  obtain ⟨k1, k2⟩ := key
  have k1 : (wkS sz ro eo E N).st = (askL sz (N % sz) ro E (N / sz) 0).isSome := k1
  have k2 : ∀ r, askL sz (N % sz) ro E (N / sz) 0 = some r → (wkS sz ro eo E N).ak = 0 + r := k2
  unfold asked
  cases d : askL sz (N % sz) ro E (N / sz) 0 with
  | none =>
    rw [d] at k1
    rw [if_neg (by rw [k1]; decide)]
  | some r =>
    rw [d] at k1
    rw [if_pos (show (wkS sz ro eo E N).st = true from k1), k2 r d, Nat.zero_add]
end CoM

/-! the search for faults: its states, its moves, what it finds -/
namespace SR
open PySem L2 EM
/-- n items from lo on -/
def rgI (lo : Int) (n : Nat) : List Int := (List.range n).map fun i => lo + (i : Nat)
theorem rgI_len (lo : Int) (n : Nat) : (rgI lo n).length = n := by simp [rgI]
theorem rgV_rgI (lo : Int) (n : Nat) : rgV lo (lo + (n : Int)) = ivs (rgI lo n) := by
  unfold rgV rgI ivs
  rw [show (lo + (n : Int) - lo).toNat = n by omega, List.map_map]
  rfl
theorem rgV_nat {lo : Int} {hi : Int} {n : Nat} (h : hi = lo + (n : Int)) : rgV lo hi = ivs (rgI lo n) := by rw [h, rgV_rgI]
/-- all items of an interval -/
def rgB (lo hi : Int) : List Int := (List.range (hi - lo).toNat).map fun i => lo + (i : Nat)
theorem rgV_rgB (lo hi : Int) : rgV lo hi = ivs (rgB lo hi) := by
  unfold rgV rgB ivs
  rw [List.map_map]
  rfl
def isLow (mark : Str) : Bool := decide (mark = "twice" ∨ mark = "lost")
def lowM (mark : Str) (rest : Nat) : Int := if isLow mark = true then -(rest : Int) else 0
def bhM (mark : Str) (rest count : Nat) : Nat := if isLow mark = true then count else rest + count
theorem bh_low (mark : Str) (rest count : Nat) : lowM mark rest + (rest : Int) + (count : Int) = (bhM mark rest count : Nat) := by
  unfold lowM bhM
  split <;> omega
def markWhole (mark : Str) (x : RP) (st : Bool) (behind left : Nat) : Str :=
  if mark = "lost" ∨ x.pieces.flatten ≠ rgI 0 x.pieces.flatten.length then (if st = true then "fault" else "lost")
  else if st = true then (if x.pieces.flatten.length = behind ∧ left = 0 then "fine" else "fault")
  else if x.rest = rgB (x.pieces.flatten.length : Nat) (behind : Nat) then "fine"
  else if x.pieces.flatten.length = behind then "twice" else "lost"
def evenM (sz : Nat) : Str → List (List Int) → Str
  | m, [] => m
  | m, p :: r => if m = "short" ∨ sz < p.length then "fault" else evenM sz (if p.length < sz then "short" else m) r
def markM (name mark : Str) (sz : Nat) (x : RP) (st told : Bool) (behind left : Nat) : Str :=
  if name = "whole" then markWhole mark x st behind left
  else if name = "filled" then (if [] ∈ x.pieces then "fault" else "fine")
  else if name = "even" then evenM sz mark x.pieces
  else if name = "quiet" then (if told = true ∧ st = false then "fault" else "fine")
  else "fine"
def names : List Str := ["whole", "filled", "even", "quiet", "ends"]
def marks : List Str := ["fine", "short", "twice", "lost", "fault"]
theorem even_mem (sz : Nat) : ∀ (ps : List (List Int)) {m : Str}, m ∈ marks → evenM sz m ps ∈ marks
  | [], m, h => h
  | p :: r, m, h => by
    unfold evenM
    split
    · decide +kernel
    · refine even_mem sz r ?_
      split
      · decide +kernel
      · exact h
theorem mark_mem {name mark : Str} {sz : Nat} {x : RP} {st told : Bool} {behind left : Nat} (h : mark ∈ marks) : markM name mark sz x st told behind left ∈ marks := by
  unfold markM markWhole
  have f1 : ("fault" : Str) ∈ marks := by decide +kernel
  have f2 : ("lost" : Str) ∈ marks := by decide +kernel
  have f3 : ("fine" : Str) ∈ marks := by decide +kernel
  have f4 : ("twice" : Str) ∈ marks := by decide +kernel
  repeat' split
  all_goals first | assumption | exact even_mem sz _ h
/-- what a source tells -/
abbrev Tell := Int → Int → Bool
/-- behind a round -/
def behM (ro eo : List (Str × Str)) (tell : Tell) (name : Str) (before rest : Nat) (mark : Str) (sz count left : Nat) : Option (Nat × Nat × Str) :=
  let w := ansM sz ro eo (rgI (lowM mark rest + (rest : Int)) count) (tell before left) ⟨rgI (lowM mark rest) rest, []⟩
  let m := markM name mark sz w.1 w.2 (tell before left) (bhM mark rest count) left
  if w.2 = true ∧ m ≠ "fault" then none else some (left, w.1.rest.length, m)
def restM (r : Nat) : Nat := if r = 0 then 0 else if r ≤ 4 then (if r = 4 then 4 else 2) else if r % 4 ≠ 0 then 6 else 8
theorem rest_mem (r : Nat) : restM r ∈ [0, 2, 4, 6, 8] := by
  unfold restM
  repeat' split
  all_goals decide
/-- a state: items left or none, the rest, the mark -/
abbrev Node := Nat × Nat × Str
/-- what comes and what is left -/
def movesM (can : Nat → Bool) (left : Nat) : List (Nat × Nat) := if left = 0 then [(0, 0)] else [(1, 0), (2, 0), (3, 0), (4, 0)] ++ ((List.range 5).filter can).map fun c => (c, 1)
theorem moves_len (can : Nat → Bool) (left : Nat) : (movesM can left).length ≤ 9 := by
  unfold movesM
  split
  · decide
  · rw [List.length_append, List.length_map]
    have := List.length_filter_le can (List.range 5)
    rw [List.length_range] at this
    simp only [List.length_cons, List.length_nil]
    omega
theorem moves_get {can : Nat → Bool} {left : Nat} {p : Nat × Nat} (h : p ∈ movesM can left) : p.1 ≤ 4 ∧ p.2 ≤ 1 := by
  unfold movesM at h
  split at h
  · rw [List.mem_singleton.mp h]; decide
  · rcases List.mem_append.mp h with h | h
    · simp only [List.mem_cons, List.mem_nil_iff, or_false] at h
      rcases h with rfl | rfl | rfl | rfl <;> decide
    · obtain ⟨c, hc, rfl⟩ := List.mem_map.mp h
      have := List.mem_range.mp (List.mem_filter.mp hc).1
      exact ⟨by show c ≤ 4; omega, by show 1 ≤ 1; decide⟩
/-- that the loop never stops without items -/
def nevM (ro eo : List (Str × Str)) (tell : Tell) (sz rest : Nat) : Bool := !(CoM.noS sz ro eo (tell 0 0) 4 none ⟨⟨rgI 0 rest, []⟩, 0, false⟩).st
def isFaultM (ro eo : List (Str × Str)) (tell : Tell) (name : Str) (sz : Nat) (n : Node) : Bool := if name = "ends" then decide (n.1 = 0) && nevM ro eo tell sz n.2.1 else decide (n.2.2 = "fault")
/-- one state further -/
def nextM (ro eo : List (Str × Str)) (tell : Tell) (name : Str) (n : Node) (p : Nat × Nat) : Option Node := (behM ro eo tell name n.1 n.2.1 n.2.2 4 p.1 p.2).map fun f => (p.2, restM f.2.1, f.2.2)
def succM (ro eo : List (Str × Str)) (tell : Tell) (can : Nat → Bool) (name : Str) (n : Node) : List Node := (movesM can n.1).filterMap (nextM ro eo tell name n)
inductive Reach (ro eo : List (Str × Str)) (tell : Tell) (can : Nat → Bool) (name : Str) : Node → Prop
  | a : Reach ro eo tell can name (0, 0, "fine")
  | b : Reach ro eo tell can name (1, 0, "fine")
  | step {n m : Node} (h : Reach ro eo tell can name n) (s : m ∈ succM ro eo tell can name n) : Reach ro eo tell can name m
/-- the property has a fault -/
def HasF (ro eo : List (Str × Str)) (tell : Tell) (can : Nat → Bool) (name : Str) : Prop := ∃ n, Reach ro eo tell can name n ∧ isFaultM ro eo tell name 4 n = true
/-- the states that there are -/
def univ : List Node := [0, 1].flatMap fun l => [0, 2, 4, 6, 8].flatMap fun r => marks.map fun m => (l, r, m)
theorem univ_len : univ.length = 50 := by decide +kernel
theorem mem_univ {n : Node} : n ∈ univ ↔ n.1 ≤ 1 ∧ n.2.1 ∈ [0, 2, 4, 6, 8] ∧ n.2.2 ∈ marks := by
  obtain ⟨l, r, m⟩ := n
  unfold univ
  simp only [List.mem_flatMap, List.mem_map, Prod.mk.injEq]
  constructor
  · rintro ⟨l', hl, r', hr, m', hm, rfl, rfl, rfl⟩
    refine ⟨?_, hr, hm⟩
    simp at hl
    omega
  · rintro ⟨hl, hr, hm⟩
    refine ⟨l, ?_, r, hr, m, hm, rfl, rfl, rfl⟩
    have hl : l ≤ 1 := hl
    have : l = 0 ∨ l = 1 := by omega
    rcases this with rfl | rfl <;> decide
theorem next_univ {ro eo : List (Str × Str)} {tell : Tell} {can : Nat → Bool} {name : Str} {n m : Node} {p : Nat × Nat} (hn : n ∈ univ) (hp : p ∈ movesM can n.1) (h : nextM ro eo tell name n p = some m) : m ∈ univ := by
  unfold nextM at h
  cases hb : behM ro eo tell name n.1 n.2.1 n.2.2 4 p.1 p.2 with
  | none => rw [hb] at h; cases h
  | some f =>
    rw [hb] at h
    cases h
    rw [mem_univ] at hn ⊢
    refine ⟨(moves_get hp).2, rest_mem _, ?_⟩
    unfold behM at hb
    dsimp only at hb
    split at hb
    · cases hb
    · cases hb
      exact mark_mem hn.2.2
theorem nodup_len {l : List Node} (nd : l.Nodup) (h : ∀ n ∈ l, n ∈ univ) : l.length ≤ 50 := by
  rw [← univ_len]
  exact sub_len l univ nd h
where sub_len : ∀ (l u : List Node), l.Nodup → (∀ n ∈ l, n ∈ u) → l.length ≤ u.length
  | [], _, _, _ => Nat.zero_le _
  | a :: r, u, nd, h => by
    have ha := h a List.mem_cons_self
    rw [List.nodup_cons] at nd
    have ih := sub_len r (u.erase a) nd.2 fun n hn => (List.mem_erase_of_ne (fun e => nd.1 (by rw [← e]; exact hn))).mpr (h n (List.mem_cons_of_mem _ hn))
    rw [List.length_erase_of_mem ha] at ih
    have := List.length_pos_of_mem ha
    rw [List.length_cons]
    omega
/-- a search that ended without a fault -/
theorem no_fault {ro eo : List (Str × Str)} {tell : Tell} {can : Nat → Bool} {name : Str} {seen : List Node} (ha : ((0, 0, "fine") : Node) ∈ seen) (hb : ((1, 0, "fine") : Node) ∈ seen) (hs : ∀ n ∈ seen, ∀ m ∈ succM ro eo tell can name n, m ∈ seen) (hf : ∀ n ∈ seen, isFaultM ro eo tell name 4 n = false) : ¬ HasF ro eo tell can name := by
  rintro ⟨n, hr, hn⟩
  have : n ∈ seen := by
    clear hn
    induction hr with
    | a => exact ha
    | b => exact hb
    | step _ s ih => exact hs _ ih _ s
  rw [hf n this] at hn
  cases hn
open Classical in
/-- the property's answer -/
noncomputable def alwM (ro eo : List (Str × Str)) (tell : Tell) (can : Nat → Bool) (name : Str) : Bool := decide (¬ HasF ro eo tell can name)
open Classical in
theorem alw_no {ro eo : List (Str × Str)} {tell : Tell} {can : Nat → Bool} {name : Str} (h : ¬ HasF ro eo tell can name) : alwM ro eo tell can name = true := @decide_eq_true _ _ h
open Classical in
theorem alw_has {ro eo : List (Str × Str)} {tell : Tell} {can : Nat → Bool} {name : Str} (h : HasF ro eo tell can name) : alwM ro eo tell can name = false := @decide_eq_false _ _ fun z => z h
end SR

/-! comprehensions with two clauses, by words of their walks -/
namespace L2c
open PySem L2
section
variable {J J1 : It} {n n1 : Nat} {G G1 : Hp → Prop} {Y Y1 : Nat → Hp → V → Hp → Prop}
theorem in_it (w : Walk J1 n1 G1 Y1) {g1 : TG} {tt1 : TT} {te : TE} {vs1 : List Nat} {σ2 : St} {H4 : Hp} {D : Addr} {Nx : Hp → Prop} (Pw : Nat → Hp → Prop) (h0 : Pw 0 H4) (hG : ∀ i H, i ≤ n1 → Pw i H → G1 H)
    (hs : ∀ i x H H', i < n1 → Pw i H → Y1 i H x H' → g1 x (wipe σ2 vs1) H' fun σ3 H5 => wipe σ3 vs1 = wipe σ2 vs1 ∧ tt1 σ3 H5 fun b H6 =>
      if b = true then te σ3 H6 fun y H7 => ∃ acc, H7 D = some (.lst acc) ∧ acc.length < sizeLine ∧ Pw (i + 1) (upd H7 D (.lst (acc ++ [y]))) else Pw (i + 1) H6) (hd : ∀ H, Pw n1 H → Nx H) :
    ∃ W1 : Nat → Nat → Hp → Prop, (∃ m, W1 0 m H4) ∧ ∀ j k H, W1 j k H →
      (J1.stop j H ∧ Nx H) ∨ (J1.go j H ∧ ∃ Nx1 : Hp → Prop, (∀ H', Nx1 H' → ∃ k', k' < k ∧ W1 (j + 1) k' H') ∧ ∀ x H', J1.yld j H x H' → g1 x (wipe σ2 vs1) H' fun σ3 H5 => wipe σ3 vs1 = wipe σ2 vs1 ∧ tt1 σ3 H5 fun b H6 =>
        if b = true then te σ3 H6 fun y H7 => ∃ acc, H7 D = some (.lst acc) ∧ acc.length < sizeLine ∧ Nx1 (upd H7 D (.lst (acc ++ [y]))) else Nx1 H6) := by
  refine ⟨fun i m H => m = n1 - i ∧ i ≤ n1 ∧ Pw i H, ⟨n1, by simp, Nat.zero_le _, h0⟩, ?_⟩
  rintro i m H ⟨rfl, hi, p⟩
  have q := hG i H hi p
  by_cases hlt : i < n1
  · refine .inr ⟨w.goes i H hlt q, Pw (i + 1), fun H' p' => ⟨n1 - (i + 1), by omega, rfl, hlt, p'⟩, fun x H' y => hs i x H H' hlt p (w.yields i H x H' hlt q y)⟩
  · have e : i = n1 := by omega
    subst e
    exact .inl ⟨w.stops H q, hd H p⟩
theorem lc2_it (w : Walk J n G Y) {g g1 : TG} {tt tt1 : TT} {te : TE} {wi1 : TI} {vs vs1 : List Nat} {σ : St} {H1 : Hp} {D : Addr} {Qd : Hp → Prop} (Pv : Nat → Hp → Prop) (h0 : Pv 0 (upd H1 D (.lst []))) (hG : ∀ i H, i ≤ n → Pv i H → G H)
    (hs : ∀ i x H H', i < n → Pv i H → Y i H x H' → g x (wipe σ vs) H' fun σ2 H2 => wipe σ2 vs = wipe σ vs ∧ tt σ2 H2 fun b H3 =>
      if b = true then wi1 σ2 H3 fun J1 H4 => ∃ W1 : Nat → Nat → Hp → Prop, (∃ m, W1 0 m H4) ∧ ∀ j k H, W1 j k H →
        (J1.stop j H ∧ Pv (i + 1) H) ∨ (J1.go j H ∧ ∃ Nx1 : Hp → Prop, (∀ H', Nx1 H' → ∃ k', k' < k ∧ W1 (j + 1) k' H') ∧ ∀ x H', J1.yld j H x H' → g1 x (wipe σ2 vs1) H' fun σ3 H5 => wipe σ3 vs1 = wipe σ2 vs1 ∧ tt1 σ3 H5 fun b H6 =>
          if b = true then te σ3 H6 fun y H7 => ∃ acc, H7 D = some (.lst acc) ∧ acc.length < sizeLine ∧ Nx1 (upd H7 D (.lst (acc ++ [y]))) else Nx1 H6)
      else Pv (i + 1) H3) (hd : ∀ H, Pv n H → Qd H) :
    ∃ W : Nat → Nat → Hp → Prop, (∃ m, W 0 m (upd H1 D (.lst []))) ∧ ∀ i m H, W i m H →
      (J.stop i H ∧ Qd H) ∨ (J.go i H ∧ ∃ Nx : Hp → Prop, (∀ H', Nx H' → ∃ m', m' < m ∧ W (i + 1) m' H') ∧ ∀ x H', J.yld i H x H' → g x (wipe σ vs) H' fun σ2 H2 => wipe σ2 vs = wipe σ vs ∧ tt σ2 H2 fun b H3 =>
        if b = true then wi1 σ2 H3 fun J1 H4 => ∃ W1 : Nat → Nat → Hp → Prop, (∃ m, W1 0 m H4) ∧ ∀ j k H, W1 j k H →
          (J1.stop j H ∧ Nx H) ∨ (J1.go j H ∧ ∃ Nx1 : Hp → Prop, (∀ H', Nx1 H' → ∃ k', k' < k ∧ W1 (j + 1) k' H') ∧ ∀ x H', J1.yld j H x H' → g1 x (wipe σ2 vs1) H' fun σ3 H5 => wipe σ3 vs1 = wipe σ2 vs1 ∧ tt1 σ3 H5 fun b H6 =>
            if b = true then te σ3 H6 fun y H7 => ∃ acc, H7 D = some (.lst acc) ∧ acc.length < sizeLine ∧ Nx1 (upd H7 D (.lst (acc ++ [y]))) else Nx1 H6)
        else Nx H3) := by
  refine ⟨fun i m H => m = n - i ∧ i ≤ n ∧ Pv i H, ⟨n, by simp, Nat.zero_le _, h0⟩, ?_⟩
  rintro i m H ⟨rfl, hi, p⟩
  have q := hG i H hi p
  by_cases hlt : i < n
  · refine .inr ⟨w.goes i H hlt q, Pv (i + 1), fun H' p' => ⟨n - (i + 1), by omega, rfl, hlt, p'⟩, fun x H' y => hs i x H H' hlt p (w.yields i H x H' hlt q y)⟩
  · have e : i = n := by omega
    subst e
    exact .inl ⟨w.stops H q, hd H p⟩
end
end L2c

/-! defs that are called where no repr is running, and repr of plain data there -/
namespace Gd
open PySem PySem.Spec PyProof.Rows L2
/-- a def's promise, for callers around whom no guard stands -/
structure FnG (P : Program) (w : World) (K : PySem.W.Frag) (mg : Str → Option Value) (base : Heap) (CX : CXT) (k : Nat) (f : Addr) (fd : FuncData) (ps : List Str) (sp : Sp) : Prop where
  len : ∀ vs H Q E, sp vs H Q E → vs.length = ps.length
  run : ∀ (A : Around) (outer : List Env) (s : Shared) (H : Hp) (args : Args) (us : List Value) (vs : List V) (Q : VK) (E : XK), A.guards = some [] → Room k A → Env0 P w K mg base A outer s H → BindsTo s fd args (ps.zip us) → Vals vs us → sp vs H Q E →
    codeAny (model P w) A (.call (.ref f) args) (CR CX outer P w H s Q E) s
section
variable {P : Program} {w : World} {K : PySem.W.Frag} {mg : Str → Option Value} {base : Heap}
/-- the rule of a def, its guards told -/
theorem okG {x qual : Str} {st : Stmt} {f : Addr} {fd : FuncData} {N ps : List Str} {k : Nat} {sp : Sp} (F : Fun K x qual st f fd) (S : FnScope N ps (defScope st)) (len : ∀ vs H Q E, sp vs H Q E → vs.length = ps.length)
    (hbody : ∀ (cdv : Value) (A : Around) (outer : List Env) (s : Shared) (H : Hp) (vs : List V) (Q : VK) (E : XK), K.lookup f ≠ none → PySem.W.codeIn K cdv qual = true → fd.code = cdv → A.guards = some [] → Room k (A.deeper (envOfC qual (defScope st) s.heap.objs.size f cdv)) → sp vs H Q E →
      ∃ t, PSs (cxOf CX0 P w K mg base N qual (defScope st) f cdv A outer s H E).nox (defBody st) t ∧ t { nx := fun _ H' => Q .non H', rt := Q } (L2.start N vs) H) : FnG P w K mg base CX0 (k + 1) f fd ps sp := by
  obtain ⟨oc, od, kV, doc, pm, an, cdv, ct, osl, rfl, lk, hcd⟩ := F.ex
  refine ⟨len, fun A outer s H args us vs Q E hg hr e0 hb r h => ?_⟩
  refine LamX.run_ofS lk hcd S hr e0 hb r (len _ _ _ _ h) fun hr2 => ?_
  obtain ⟨t, h1, q⟩ := hbody cdv A outer s H vs Q E (by rw [lk]; simp) hcd rfl hg hr2 h
  exact ⟨t, h1.nox, q⟩
end
section
variable {X : Cx} {CX : CXT} {k : Nat} {f : Addr} {fd : FuncData} {ps : List Str} {sp : Sp} {E : XK} {x : Str} {p pos : Pos} {e : Expr} {es : List Expr} {t : TA} {ds : List Value} {dvs : List V}
/-- f(e, ..) -/
theorem pe_callG (F : FnG X.prog X.w X.K X.mg X.base CX k f fd ps sp) (hgd : X.A.guards = some []) (hr : Room k X.A) (hg : Gl X x) (hm : X.mg x = some (.ref f)) (hk : PySem.W.keepIn X.K (.ref f) = true) (hb : L2.Binds X.K fd ps ds) (hd : Vals dvs ds) (hx : Passes CX X E) (ha : PA X (e :: es) t)
    (hdb : (x == ("__debug__" : Str)) = false := by decide) (he : starEach (e :: es) X.env = (false, eval e X.env) :: starEach es X.env := by rfl) (hpl : (backTo pos (starEach es X.env)).any (·.1) = false := by rfl) :
    PE X (.Call (.Name x p) (e :: es) [] pos) (tCall sp dvs E t) := by
  refine ⟨fun pins s σ H Q I h => ?_⟩
  refine wpAny_Call_Name_kw (ld_glob I hg hm ?_ hdb)
  refine PySem.W.callWith_K (h₀ := X.base) I.ok.mod.kin hk (thn (ha.run pos pins s σ H _ I h) fun us s1 ⟨vs, H1, I1, r, q⟩ => ⟨I1.kIn, ?_⟩) he hpl
  have r2 : Vals (vs ++ dvs) (us ++ ds) := r.append hd
  have hl : (us ++ ds).length = ps.length := by
    rw [← r2.length]
    exact F.len _ _ _ _ q
  refine wpAny_call (codeAny_mono (F.run X.A X.stack s1 H1 ⟨us, []⟩ (us ++ ds) (vs ++ dvs) Q E hgd hr I1.env0 (hb s1 us I1.kIn hl) r2 q) fun rr s2 hq => ?_)
  match rr, hq with
  | .error er, hq => exact hx pins σ H1 s1 er s2 I1 hq
  | .ok (.ret u), hq => exact I1.after hq
end
/-! ### plain data, all of it tracked -/
mutual
inductive Dq (H : Hp) : V → PyData → Prop
  | non : Dq H .non .none
  | bl (b : Bool) : Dq H (.bl b) (.bool b)
  | int (i : Int) : Dq H (.int i) (.int i)
  | str (x : Str) : Dq H (.str x) (.str x)
  | lst {a : Addr} {xs : List V} {ds : List PyData} : H a = some (.lst xs) → DqA H xs ds → Dq H (.ref a) (.list ds)
  | tup {a : Addr} {xs : List V} {ds : List PyData} : H a = some (.tup xs) → DqA H xs ds → Dq H (.ref a) (.tuple ds)
  | dct {a : Addr} : H a = some (.dK []) → Dq H (.ref a) (.dict [])
inductive DqA (H : Hp) : List V → List PyData → Prop
  | nil : DqA H [] []
  | cons {v : V} {vs : List V} {d : PyData} {ds : List PyData} : Dq H v d → DqA H vs ds → DqA H (v :: vs) (d :: ds)
end
section
variable {X : Cx} {pins : List (Addr × Obj)} {σ : L2.St} {H : Hp} {s : Shared}
mutual
theorem Dq.reads (I : Inv X pins σ H s) : ∀ {v : V} {d : PyData} {u : Value}, Dq H v d → RelV v u → ∃ as, Reads s.heap u d as ∧ ∀ b ∈ as, H b ≠ none
  | _, _, _, .non, r => by
    cases r
    exact ⟨_, .none, fun b h => nomatch h⟩
  | _, _, _, .bl b, r => by
    cases r
    exact ⟨_, .bool b, fun b h => nomatch h⟩
  | _, _, _, .int i, r => by
    obtain ⟨t, rfl⟩ := r
    exact ⟨_, .int i t, fun b h => nomatch h⟩
  | _, _, _, .str x, r => by
    obtain ⟨t, rfl⟩ := r
    exact ⟨_, .str x t, fun b h => nomatch h⟩
  | _, _, _, .lst (a := a) (xs := xs) ha hd, r => by
    cases r
    obtain ⟨_, its, n, rv, e⟩ := (show ObjOk X.prog X.w H s.heap a (.lst xs) from I.hok a _ ha)
    obtain ⟨as, h1, h2⟩ := DqA.reads I hd rv
    refine ⟨_, .list e rfl rfl (by simpa using h1), fun b hb => ?_⟩
    rcases List.mem_cons.mp hb with rfl | hb
    · rw [ha]; simp
    · exact h2 b hb
  | _, _, _, .tup (a := a) (xs := xs) ha hd, r => by
    cases r
    obtain ⟨_, its, rv, o, e, c, n, hn⟩ := (show ObjOk X.prog X.w H s.heap a (.tup xs) from I.hok a _ ha)
    obtain ⟨as, h1, h2⟩ := DqA.reads I hd rv
    exact ⟨_, .tuple e c hn (by simpa using h1), h2⟩
  | _, _, _, .dct (a := a) ha, r => by
    cases r
    obtain ⟨_, _, vs, kv, o, es, ep, e, hx, hdt, _, hes, _⟩ := (show ObjOk X.prog X.w H s.heap a (.dK []) from I.hok a _ ha)
    cases kv
    have e0 : es.toList = [] := by
      generalize es.toList = zs at hes
      cases hes
      rfl
    refine ⟨_, .dict (kvs := []) e hx.1 hdt (by rw [e0]; exact .nil) (by rw [e0]; exact .nil), fun b hb => ?_⟩
    have : b = a := by simpa using hb
    rw [this, ha]; simp
theorem DqA.reads (I : Inv X pins σ H s) : ∀ {vs : List V} {ds : List PyData} {us : List Value}, DqA H vs ds → Vals vs us → ∃ as, ReadsAll s.heap us ds as ∧ ∀ b ∈ as, H b ≠ none
  | _, _, _, .nil, r => by
    cases r
    exact ⟨_, .nil, fun b h => nomatch h⟩
  | _, _, _, .cons hd ht, .cons r rt => by
    obtain ⟨as, h1, h2⟩ := Dq.reads I hd r
    obtain ⟨bs, h3, h4⟩ := DqA.reads I ht rt
    exact ⟨_, .cons h1 h3, fun b hb => (List.mem_append.mp hb).elim (h2 b) (h4 b)⟩
end
end
mutual
theorem Dq.same {H H' : Hp} (s : Same H H') : ∀ {v : V} {d : PyData}, Dq H v d → Dq H' v d
  | _, _, .non => .non
  | _, _, .bl b => .bl b
  | _, _, .int i => .int i
  | _, _, .str x => .str x
  | _, _, .lst ha hd => .lst (s _ _ ha) (DqA.same s hd)
  | _, _, .tup ha hd => .tup (s _ _ ha) (DqA.same s hd)
  | _, _, .dct ha => .dct (s _ _ ha)
theorem DqA.same {H H' : Hp} (s : Same H H') : ∀ {vs : List V} {ds : List PyData}, DqA H vs ds → DqA H' vs ds
  | _, _, .nil => .nil
  | _, _, .cons a b => .cons (Dq.same s a) (DqA.same s b)
end
/-- repr of a list, a tuple or an empty dict of such data -/
def rReprD : List V → Hp → VK → Prop := fun xs H Q => ∃ (a : Addr) (d : PyData), xs = [.ref a] ∧ Dq H (.ref a) d ∧ d.showable = true ∧ d.depth ≤ 64 ∧ d.shown.length ≤ sizeLine ∧ Q (.str d.shown) H
theorem call_reprD {X : Cx} {k : Nat} {ob : Obj} (hg : X.A.guards = some []) (hr : Room k X.A) (sm : X.base.get? sysModules = some ob) : CallR X (.builtin "repr") rReprD := by
  intro pins s σ H xs us Q I r h
  obtain ⟨a, d, rfl, hd, hs, hdep, hz, q⟩ := h
  obtain ⟨u, rfl, ru⟩ := vals1 r
  cases (show u = Value.ref a from ru)
  obtain ⟨as, h1, h2⟩ := hd.reads I (u := .ref a) rfl
  have no : sysModules ∉ as := fun hm => h2 _ hm (I.env0.bs _ _ sm).2
  have hu := hr.un
  refine repr_of_reads' h1 hs (fun _ => no) hg (by omega) (fun _ _ e => e) (fun h' u tk hk => ?_) hz
  exact ⟨.str d.shown, H, I.kept (t' := tk) hk, ⟨_, rfl⟩, q⟩
/-! ### the end of a law, from such a promise -/
/-- at the law's call: the tables, and the script unless the module itself holds it -/
def H0 (K : PySem.W.Frag) (tabs : List Addr) (a : Addr) (u : HO) : Hp := fun b => if b ∈ tabs then some (.tbl #[]) else if b = a ∧ K.lookup a = none then some u else none
theorem H0_tab {K : PySem.W.Frag} {tabs : List Addr} {a b : Addr} {u : HO} (h : b ∈ tabs) : H0 K tabs a u b = some (.tbl #[]) := if_pos h
theorem H0_cases {K : PySem.W.Frag} {tabs : List Addr} {a b : Addr} {u o : HO} (h : H0 K tabs a u b = some o) : (b ∈ tabs ∧ o = .tbl #[]) ∨ (b ∉ tabs ∧ b = a ∧ K.lookup a = none ∧ o = u) := by
  unfold H0 at h
  split at h
  next hb => exact .inl ⟨hb, (Option.some.inj h).symm⟩
  next hb =>
    split at h
    next hc => exact .inr ⟨hb, hc.1, hc.2, (Option.some.inj h).symm⟩
    next => cases h
theorem law_callG {P : Program} {w : World} {K : PySem.W.Frag} {mg mb : Str → Option Value} {k : Nat} {fa a : Addr} {cs : List (Addr × Addr)} {fd : FuncData} {x : Str} {sp : Sp} {st : Shared} {vs : List Value} {ns : List Int}
    (KX : K.In st.heap) (gNs : st.heap.Ns mainGlobals mg) (bNs : st.heap.Ns builtinsNs mb) (bEq : ∀ x : Str, x ≠ "__name__" → mb x = bootBuiltins x) (lim : st.heap.NoLimit) (noG : st.gens = #[])
    (isT : ∀ p ∈ cs, st.heap.get? p.2 = some { cls := .none, data := .fields #[] }) (nK : ∀ p ∈ cs, K.lookup p.2 = none) (isC : ∀ p ∈ cs, PySem.W.CodeHd st.heap p.1 p.2)
    (bMain : ∃ (bm : Addr) (ob : Obj), mg "__builtins__" = some (.ref bm) ∧ bm ≠ builtinsNs ∧ st.heap.get? bm = some ob ∧ ob.cls = .type "module" ∧ ob.dict = some builtinsNs ∧ ob.data = .plain)
    (scr : st.heap.get? a = some { cls := .type "list", data := .seq vs.toArray }) (intsA : IntsAre vs ns) (few : ns.length ≤ sizeLine) (room : Room k callerA)
    (mods : ∃ mm, st.heap.Ns sysModules mm)
    (F : ∀ base : Heap, K.In base → base.Ns mainGlobals mg → (∃ ob, base.get? sysModules = some ob) → (∀ p ∈ cs, LamX.TabB base mg p.1 p.2) → FnG P w K mg base CX0 k fa fd [x] sp) (bind : ∀ (s : Shared) (u : Value), BindsTo s fd ⟨[u], []⟩ [(x, u)])
    (hsp : ∀ H : Hp, (∀ p ∈ cs, H p.2 = some (.tbl #[])) → SqL K H a (ns.map V.int) → sp [.ref a] H (fun v _ => v = .bl true) fun _ _ _ => False) :
    codeAny (model P w) callerA (.call (.ref fa) ⟨[.ref a], []⟩) (fun r s2 => r = .ok (.ret (.bool true)) ∧ OldK st.heap s2.heap ∧ s2.os = st.os ∧ AllBare s2.gens) st := by
  have vals := vals_ints intsA
  have tabAt : ∀ b ∈ cs.map (·.2), st.heap.get? b = some { cls := .none, data := .fields #[] } := fun b hb => by
    obtain ⟨p, hp, rfl⟩ := List.mem_map.mp hb
    exact isT p hp
  generalize hu : (HO.frz { cls := .type "list", data := .seq vs.toArray } (.lst (ns.map V.int))) = u
  generalize hH : H0 K (cs.map (·.2)) a u = H
  have tabH : ∀ p ∈ cs, H p.2 = some (.tbl #[]) := fun p hp => by
    rw [← hH]
    exact H0_tab (List.mem_map.mpr ⟨p, hp, rfl⟩)
  have what : ∀ b o, H b = some o → (b ∈ cs.map (·.2) ∧ o = .tbl #[]) ∨ (b ∉ cs.map (·.2) ∧ b = a ∧ K.lookup a = none ∧ o = u) := fun b o e => by
    rw [← hH] at e
    exact H0_cases e
  have held : HOk P w H st.heap := fun b o e => by
    rcases what b o e with ⟨h1, rfl⟩ | ⟨_, rfl, _, rfl⟩
    · exact tabAt b h1
    · rw [← hu]
      exact ⟨scr, by rw [List.length_map]; exact few, vs, _, vals, scr⟩
  have seen : SqL K H a (ns.map V.int) := by
    cases hk : K.lookup a with
    | some o =>
      have e := KX a o hk
      rw [scr] at e
      cases e
      exact .inr ⟨_, vs.toArray, _, hk, rfl, rfl, rfl, by rw [List.size_toArray, intsA.length]; exact few, by simpa using vals⟩
    | none =>
      refine .inl (.inr ⟨{ cls := .type "list", data := .seq vs.toArray }, ?_⟩)
      have nt : a ∉ cs.map (·.2) := fun z => by
        have q := tabAt a z
        rw [scr] at q
        cases congrArg Obj.data (Option.some.inj q)
      rw [← hH, ← hu]
      exact (if_neg nt).trans (if_pos ⟨rfl, hk⟩)
  -- what is neither a list nor an empty table is not tracked
  have untracked : ∀ {b : Addr} {o : Obj}, st.heap.get? b = some o → (∀ us m, o.data ≠ .seq us m) → o.data ≠ .fields #[] → H b = none := fun {b o} e h1 h2 => by
    cases q : H b with
    | none => rfl
    | some z =>
      rcases what b z q with ⟨hb, _⟩ | ⟨_, rfl, _⟩
      · rw [tabAt b hb] at e
        exact absurd (congrArg Obj.data (Option.some.inj e)).symm h2
      · rw [scr] at e
        exact absurd (congrArg Obj.data (Option.some.inj e)).symm (h1 _ _)
  have stays : ∀ {b : Addr} {o : Obj}, st.heap.get? b = some o → (∀ us m, o.data ≠ .seq us m) → o.data ≠ .fields #[] → (hidT st.heap H).get? b = some o := fun e h1 h2 => hidT_get e (untracked e h1 h2)
  have names : ∀ {b : Addr} {m : Str → Option Value}, st.heap.Ns b m → (hidT st.heap H).Ns b m := fun ⟨o, es, ep, e, dt, r⟩ =>
    ⟨o, es, ep, stays e (fun _ _ z => by rw [dt] at z; cases z) (fun z => by rw [dt] at z; cases z), dt, r⟩
  have inB : K.In (hidT st.heap H) := fun b o e => hidT_get (KX b o e) (by
    cases q : H b with
    | none => rfl
    | some z =>
      rcases what b z q with ⟨hb, _⟩ | ⟨_, rfl, hn, _⟩
      · obtain ⟨p, hp, rfl⟩ := List.mem_map.mp hb
        rw [nK p hp] at e
        cases e
      · rw [hn] at e
        cases e)
  obtain ⟨mc, lim1, lim2⟩ := lim
  have modu : L2.Mod K mg (hidT st.heap H) := ⟨inB, names gNs, ⟨mb, names bNs, bEq⟩, ⟨mc, names lim1, lim2⟩⟩
  have tabB : ∀ p ∈ cs, LamX.TabB (hidT st.heap H) mg p.1 p.2 := fun p hp => by
    have atP := isT p hp
    refine { code := ?_, bm := ?_, gP := fun z => ?_ }
    · obtain ⟨o, us, file, tf, flags, tg, inF, text, tt, e1, r1, r2, r3, r4⟩ := isC p hp
      exact ⟨o, us, file, tf, flags, tg, inF, text, tt, stays e1 (fun _ _ z => by rw [r2] at z; cases z) (fun z => by rw [r2] at z; cases z; simp at r3), r1, r2, r3, r4⟩
    · obtain ⟨bm, ob, b1, b2, b3, b4, b5, b6⟩ := bMain
      refine ⟨bm, ob, b1, b2, fun z => ?_, fun z => ?_, stays b3 (fun _ _ z => by rw [b6] at z; cases z) (fun z => by rw [b6] at z; cases z), b4, b5, b6⟩
      · obtain ⟨o, es, ep, e, dt, _⟩ := gNs
        rw [z, e] at b3
        cases b3
        rw [dt] at b6
        cases b6
      · rw [z, atP] at b3
        cases b3
        cases b6
    · obtain ⟨o, es, ep, e, dt, _⟩ := gNs
      rw [z, atP] at e
      cases e
      cases dt
  have env : Env0 P w K mg (hidT st.heap H) callerA [] st H := ⟨rfl, modu, fun b o e => of_hidT e, Nat.le_of_eq (hidT_size _ _), trivial, (fun b hb => absurd (show b ∈ ([] : List Addr) from hb) (by simp)), held, .of_eq noG⟩
  have hm : ∃ ob, (hidT st.heap H).get? sysModules = some ob := by
    obtain ⟨mm, hm⟩ := mods
    obtain ⟨o, es, ep, e, _⟩ := names hm
    exact ⟨o, e⟩
  refine codeAny_mono ((F _ inB (names gNs) hm tabB).run callerA [] st H ⟨[.ref a], []⟩ [.ref a] [.ref a] _ _ rfl room env (bind st (.ref a)) (.cons rfl .nil) (hsp H tabH seen)) fun r s2 h => ?_
  match r, h with
  | .error e, h => exact (show False from h).elim
  | .ok (.ret z), h =>
    obtain ⟨v, H2, os2, bare, un, held2, rz, q⟩ := h
    cases (show v = .bl true from q)
    cases (show z = Value.bool true from rz)
    have kept : ∀ b o, b ∉ cs.map (·.2) → st.heap.get? b = some o → s2.heap.get? b = some o := fun b o nb e => by
      cases q : H b with
      | none => exact un.keep b o e q (fun z => absurd (show b ∈ ([] : List Addr) from z) (by simp)) (by simp)
      | some y =>
        rcases what b y q with ⟨hb, _⟩ | ⟨_, rfl, _, rfl⟩
        · exact absurd hb nb
        · rw [← hu] at q
          have e1 := (held2 _ _ (un.frzs _ _ _ q)).1
          rw [scr] at e
          cases e
          exact e1
    have grew : ∀ p ∈ cs, ∃ more : Array Value, s2.heap.get? p.2 = some { cls := .none, data := .fields more } := fun p hp => by
      obtain ⟨more, z⟩ := un.tbls p.2 #[] (tabH p hp)
      exact ⟨_, held2 p.2 _ z⟩
    refine ⟨rfl, ⟨fun b o e => ?_, fun b o e => ?_⟩, os2, bare⟩
    · by_cases hb : b ∈ cs.map (·.2)
      · obtain ⟨p, hp, rfl⟩ := List.mem_map.mp hb
        obtain ⟨more, hm⟩ := grew p hp
        rw [isT p hp] at e
        cases e
        exact .inr (.inl ⟨((isC p hp).tab (isT p hp)).isCodeTable, rfl, #[], more, rfl, by rw [Array.empty_append]; exact hm⟩)
      · exact .inl (kept b o hb e)
    · by_cases hb : b ∈ cs.map (·.2)
      · obtain ⟨p, hp, rfl⟩ := List.mem_map.mp hb
        obtain ⟨more, hm⟩ := grew p hp
        exact ⟨_, hm⟩
      · exact ⟨o, kept b o hb e⟩
/-- what the law's def promises where the head has ended -/
def LawG (l : PySem.W.OpenLaw) (w : World) (K : PySem.W.Frag) (k n : Nat) (x : Str) (mg : Str → Option Value) (fa : Addr) (h : Heap) : Prop :=
  ∃ (fd : FuncData) (cs : List (Addr × Addr)) (sp : Sp), (∀ p ∈ cs, h.get? p.2 = some { cls := .none, data := .fields #[] }) ∧ (∀ p ∈ cs, K.lookup p.2 = none) ∧ (∀ p ∈ cs, PySem.W.CodeHd h p.1 p.2) ∧ (∀ (s : Shared) (u : Value), BindsTo s fd ⟨[u], []⟩ [(x, u)]) ∧
    (∀ (H : Hp) (a : Addr) (ns : List Int), ns.length ≤ n → (∀ p ∈ cs, H p.2 = some (.tbl #[])) → SqL K H a (ns.map V.int) → sp [.ref a] H (fun v _ => v = .bl true) fun _ _ _ => False) ∧
    ∀ base : Heap, K.In base → base.Ns mainGlobals mg → (∃ ob, base.get? sysModules = some ob) → (∀ p ∈ cs, LamX.TabB base mg p.1 p.2) → FnG l.prog w K mg base CX0 k fa fd [x] sp
theorem walk_ofG {l : PySem.W.OpenLaw} {n k : Nat} {q : Program} {loose : List Str} {XP : (Str → Option Value) → Heap → Prop} {YP : World → Heap → Prop} {d : DefRec} {K : Params → PySem.W.Frag} {x : Str}
    (hn : l.most = some n) (hn2 : n ≤ sizeLine) (hdf : d.params.defaults = []) (hi : importsNone q = true) (hr : Room k callerA) (hY : ∀ (w : World) (h : Heap), YP w h → (K w.params).In h)
    (F : ∀ (w : World) (mg : Str → Option Value) (fa : Addr) (h : Heap), YP w h → (K w.params).In h → h.Ns mainGlobals mg → mg d.name = some (.ref fa) → LawG l w (K w.params) k n x mg fa h) :
    PySem.W.WalkO q loose XP YP l.row.toRowW d [] (fun f vs => PySem.call f vs) := by
  refine Att.attach_call hn hdf fun w t0 t1 mg mb fa o pm cd doc a vs ns gr y1 ho hd hcd hmg hobj hints hlen hgen => ?_
  obtain ⟨fd, cs, sp, c1, c2, c3, c4, c5, c6⟩ := F w mg fa _ y1 (hY w _ y1) gr.T.g hmg
  exact law_callG (hY w _ y1) gr.T.g gr.T.b gr.T.builtins gr.T.nolimit hgen c1 c2 c3 gr.T.bmain hobj hints (Nat.le_trans hlen hn2) hr (let ⟨mm, hm, _⟩ := (gr.T.seer hi).mods; ⟨mm, hm⟩) c6 c4 fun H tabs sq => c5 H a ns hlen tabs sq
end Gd

/-! the marks of the search -/
namespace My
open PySem L2 Cm LM EM SR
abbrev sMw : Stmt := top 86
abbrev sMf : Stmt := top 87
abbrev sMe : Stmt := top 88
abbrev sMq : Stmt := top 89
abbrev sMn : Stmt := top 90
abbrev MP : List Str := ["mark", "work", "behind", "left"]
structure TxMk (K : PySem.W.Frag) (mg : Str → Option Value) where
  X : TxX K mg
  list : mg "list" = none
  tuple : mg "tuple" = none
  fine : ∃ t, mg "FINE" = some (.str "fine" t)
  short : ∃ t, mg "SHORT" = some (.str "short" t)
  twice : ∃ t, mg "TWICE" = some (.str "twice" t)
  lost : ∃ t, mg "LOST" = some (.str "lost" t)
  fault : ∃ t, mg "FAULT" = some (.str "fault" t)
  mw : Df K mg "mark_whole" sMw MP
  mf : Df K mg "mark_filled" sMf MP
  me : Df K mg "mark_even" sMe MP
  mq : Df K mg "mark_quiet" sMq MP
  mn : Df K mg "mark_ends" sMn MP
theorem eqv_ints : ∀ xs ys : List Int, PyData.eqvAll (intD xs) (intD ys) = decide (xs = ys)
  | [], [] => by simp [intD, PyData.eqvAll]
  | [], y :: r => by simp [intD, PyData.eqvAll]
  | x :: r, [] => by simp [intD, PyData.eqvAll]
  | x :: r, y :: q => by
    have ih := eqv_ints r q
    unfold intD at ih ⊢
    rw [List.map_cons, List.map_cons, PyData.eqvAll, ih, PyData.eqv]
    by_cases h1 : x = y
    · subst h1
      simp
    · simp [h1]
theorem eqv_il (xs ys : List Int) : PyData.eqv (.list (intD xs)) (.list (intD ys)) = decide (xs = ys) := by rw [PyData.eqv, eqv_ints]
theorem eqv_it (xs ys : List Int) : PyData.eqv (.tuple (intD xs)) (.tuple (intD ys)) = decide (xs = ys) := by rw [PyData.eqv, eqv_ints]
theorem intD_shapedT (xs : List Int) : SeqAt.shaped (.tuple (intD xs)) = true := by
  have := intD_depth xs
  refine Bool.and_eq_true_iff.mpr ⟨by simp only [PyData.canLay0]; exact intD_lay xs, decide_eq_true ?_⟩
  simp only [PyData.depth]
  omega
theorem wt_flat : ∀ ps : List (List Int), ps.flatten.length + ps.length = wt ps
  | [] => rfl
  | p :: r => by
    have := wt_flat r
    unfold wt at this ⊢
    rw [List.flatten_cons, List.length_append, List.length_cons, List.map_cons, List.sum_cons]
    omega
theorem Pcs.getL {H : Hp} : ∀ {vs : List V} {xs : List (List Int)} {i : Nat} {y : V}, Pcs H vs xs → vs[i]? = some y → ∃ q x, xs[i]? = some x ∧ y = .ref q ∧ H q = some (.tup (ivs x))
  | _, _, i, y, .nil, h => by simp at h
  | _, _, 0, y, .cons h t, e => by
    cases e
    exact ⟨_, _, rfl, rfl, h⟩
  | _, _, i + 1, y, .cons h t, e => by
    obtain ⟨q, x, a, b, c⟩ := Pcs.getL t (i := i) e
    exact ⟨q, x, a, b, c⟩
theorem flat_take {xs : List (List Int)} {i : Nat} {x : List Int} (h : xs[i]? = some x) : (xs.take (i + 1)).flatten = (xs.take i).flatten ++ x := by
  rw [List.take_add_one, h, List.flatten_append]
  simp
section
variable {P : Program} {w : World} {K : PySem.W.Frag} {mg : Str → Option Value} {base : Heap}
/-- the promise of all of them: g what the mark becomes -/
def spMk (C : Addr) (g : Str → Nat → RP → Bool → Bool → Nat → Nat → Str) : Sp := fun vs H Q _ => ∃ (o dx ro eo p : Addr) (mark : Str) (ak sz bh left : Nat) (held : List Int) (told : Bool) (x : RP) (st : Bool), vs = [.str mark, .ref o, .int bh, .int left] ∧ ExAt C H o dx ro eo p ak sz held told x st ∧ wt x.pieces ≤ 100000 ∧ x.rest.length ≤ 100000 ∧ bh ≤ 100000 ∧
  ∀ H', Same H H' → Q (.str (g mark sz x st told bh left)) H'
theorem scMw : FnScope ["mark", "work", "behind", "left", "handed", "held", "item"] MP (defScope sMw) := ⟨rfl, rfl, rfl, by decide +kernel, rfl, by decide +kernel, by decide +kernel⟩
theorem ok_mw (T : TxMk K mg) : FnOk P w K mg base CX0 1 T.mw.f T.mw.fd MP (spMk T.X.C fun m _ x st _ b l => markWhole m x st b l) := by
  obtain ⟨t1, mF⟩ := T.fine
  obtain ⟨t3, mT⟩ := T.twice
  obtain ⟨t4, mL⟩ := T.lost
  obtain ⟨t5, mX⟩ := T.fault
  refine T.mw.F.ok scMw (fun vs H Q E h => ?_) (fun cdv A outer s H vs Q E hr h => ?_)
  · obtain ⟨o, _, _, _, _, mark, _, _, _, _, _, _, _, _, rfl, _⟩ := h
    rfl
  · obtain ⟨o, dx, ro, eo, p, mark, ak, sz, bh, left, held, told, x, st, rfl, hX, hw, hr0, hb, k⟩ := h
    refine ⟨_, (pss_cons (ps_setLc2 (i := 4) (own := [("held", 5), ("item", 6)]) (vs1 := [6]) (g := gName 5) (g1 := gName 6) (tt := tYes) (tt1 := tYes) (wi1 := iTup K (tVar 5)) (te := tVar 6) rfl scMw.nd rfl rfl (sw_true rfl rfl rfl (by decide +kernel)) (pi_list (pe_fld (pv 1) rfl)) (blkOk_by (own := [("held", 5), ("item", 6)]) (N := ["mark", "work", "behind", "left", "handed", "held", "item"]) (sc := defScope sMw) (by decide +kernel)) (by decide) (fun _ _ _ _ _ => pg_name (i := 5) scMw.nd rfl (Or.inl rfl)) (fun _ _ _ _ _ => pts_nil) (fun _ _ _ _ _ => by exact pi_tup (pv 5)) (fun _ _ _ _ _ => pg_name (i := 6) scMw.nd rfl (Or.inl rfl)) (fun _ _ _ _ _ => pts_nil) (fun _ _ _ _ _ => by exact pv 6)) (pss_cons (ps_if (PW.pt (pw_or (pt_cmpR op_eq (pv 0) (pe_glob (v := .str "lost") rfl mL ⟨_, rfl⟩) (nomark _)) (pw_or1 (pt_cmpR (op_neD (hu64 hr)) (pv 4) (pe_listRg rfl rfl T.list (prg_1 rfl T.X.range (pe_callB call_len_seq (by rfl) T.X.len PySem.boot_len (pa_cons (pv 4) pa_nil)))) (nomark _))))) (pss_one (ps_ret (pe_ifExp (pt_val (pe_fld (pv 1) rfl)) (pe_glob (v := .str "fault") rfl mX ⟨_, rfl⟩) (pe_glob (v := .str "lost") rfl mL ⟨_, rfl⟩)))) pss_nil) (pss_cons (ps_if (pt_val (pe_fld (pv 1) rfl)) (pss_one (ps_ret (pe_ifExp (PW.pt (pw_and (pt_cmpR op_eq (pe_callB call_len_seq (by rfl) T.X.len PySem.boot_len (pa_cons (pv 4) pa_nil)) (pv 2) (nomark _)) (pw_and1 (pt_cmpR op_eq (pv 3) pe_int (nomark _))))) (pe_glob (v := .str "fine") rfl mF ⟨_, rfl⟩) (pe_glob (v := .str "fault") rfl mX ⟨_, rfl⟩)))) pss_nil) (pss_cons (ps_if (pt_cmpR (op_eqD (hu64 hr)) (pe_fld (pv 1) rfl) (pe_tupRg rfl rfl T.tuple (prg_2 rfl T.X.range (pe_callB call_len_seq (by rfl) T.X.len PySem.boot_len (pa_cons (pv 4) pa_nil)) (pv 2))) (nomark _)) (pss_one (ps_ret (pe_glob (v := .str "fine") rfl mF ⟨_, rfl⟩))) pss_nil) (pss_one (ps_ret (pe_ifExp (pt_cmpR op_eq (pe_callB call_len_seq (by rfl) T.X.len PySem.boot_len (pa_cons (pv 4) pa_nil)) (pv 2) (nomark _)) (pe_glob (v := .str "twice") rfl mT ⟨_, rfl⟩) (pe_glob (v := .str "lost") rfl mL ⟨_, rfl⟩)))))))), ?_⟩
    obtain ⟨h0, r0, vs0, e0, _, hr0', hp0, hP⟩ := id hX.ex
    have lw := wt_flat x.pieces
    have lp := hP.len
    refine ⟨_, rfl, o, T.X.C, dx, _, _, rfl, e0, T.X.cl, T.X.nP, xf_p .., p, rfl, ⟨_, SqL.of hp0⟩, fun D nD => ?_⟩
    refine L2c.lc2_it (walk_list (K := K) (a := p) (xs := vs0)) (fun i H' => Same H H' ∧ H' D = some (.lst (ivs ((x.pieces.take i).flatten)))) ⟨same_new nD, upd_same⟩ (fun i H' _ ⟨s', _⟩ => SqL.of (s' _ _ hp0)) ?_ ?_
    · rintro i y H1 H1' hi ⟨s1, hD⟩ ⟨rfl, hy⟩
      obtain ⟨q, pc, hpc, rfl, hq⟩ := hP.getL hy
      refine ⟨rfl, _, rfl, q, rfl, ⟨_, SqT.of (s1 _ _ hq)⟩, L2c.in_it (walk_tup (K := K) (a := q) (xs := ivs pc)) (fun j H' => Same H H' ∧ H' D = some (.lst (ivs ((x.pieces.take i).flatten ++ pc.take j)))) ⟨s1, by rw [List.take_zero, List.append_nil]; exact hD⟩ (fun j H' _ ⟨s', _⟩ => SqT.of (s' _ _ hq)) ?_ ?_⟩
      · rintro j z H2 H2' hj ⟨s2, hD2⟩ ⟨rfl, hz⟩
        obtain ⟨n, hn, rfl⟩ : ∃ n, pc[j]? = some n ∧ z = .int n := by
          unfold ivs at hz
          rw [List.getElem?_map] at hz
          cases h : pc[j]? with
          | none => rw [h] at hz; cases hz
          | some n => rw [h] at hz; exact ⟨n, rfl, (Option.some.inj hz).symm⟩
        refine ⟨rfl, _, rfl, _, hD2, ?_, fun b u e => ?_, ?_⟩
        · rw [ivs_len]
          have l1 : ((x.pieces.take i).flatten ++ pc.take j).length ≤ x.pieces.flatten.length := by
            have := flat_take hpc
            have l2 : ((x.pieces.take i).flatten ++ pc).length ≤ x.pieces.flatten.length := by
              rw [← this]
              have e : x.pieces = x.pieces.take (i + 1) ++ x.pieces.drop (i + 1) := (List.take_append_drop _ _).symm
              conv => rhs; rw [e]
              rw [List.flatten_append, List.length_append]
              omega
            rw [List.length_append] at l2 ⊢
            rw [List.length_take]
            omega
          exact szM (by omega)
        · rw [upd_ne (ne_of_none e nD)]
          exact s2 _ _ e
        · rw [upd_same, List.take_add_one, hn]
          simp [ivs]
      · rintro H2 ⟨s2, hD2⟩
        rw [ivs_len, List.take_length, ← flat_take hpc] at hD2
        exact ⟨s2, hD2⟩
    · rintro H1 ⟨s1, hD⟩
      rw [lp, List.take_length] at hD
      generalize hfl : x.pieces.flatten = fl at hD lw
      replace k : ∀ H', Same H H' → Q (.str (markWhole mark x st bh left)) H' := k
      unfold markWhole at k
      rw [hfl] at k
      refine ⟨_, rfl, rfl, _, rfl, ?_⟩
      rw [show decide (V.str mark = V.str "lost") = decide (mark = "lost") from dS ..]
      by_cases c1 : mark = "lost"
      · rw [if_pos (.inl c1)] at k
        rw [decide_eq_true c1]
        refine iteT ⟨_, rfl, o, T.X.C, dx, _, _, rfl, s1 _ _ e0, T.X.cl, T.X.nSt, xf_st .., _, rfl, ?_⟩
        cases st with
        | true => exact iteT (k _ s1)
        | false => exact iteF (k _ s1)
      rw [decide_eq_false c1]
      refine iteF ⟨_, rfl, _, rfl, D, _, rfl, .inl (SqL.of hD), _, rfl, RgOk.of_le (by omega) (by rw [ivs_len]; omega) (by omega) (by omega), fun q nq => ?_⟩
      rw [ivs_len, show rgV 0 ((fl.length : Nat) : Int) = ivs (rgI 0 fl.length) from by rw [← rgV_rgI, Int.zero_add]]
      have u2 := same_new (o := .lst (ivs (rgI 0 fl.length))) nq
      refine ⟨.list (intD fl), .list (intD (rgI 0 fl.length)), .lst (SqL.of (u2 _ _ hD)) (dpI _), .lst (SqL.of upd_same) (dpI _), intD_shaped _, intD_shaped _, _, rfl, ?_⟩
      rw [eqv_il]
      have s2 := Same.trans s1 u2
      have hD2 := u2 _ _ hD
      generalize upd H1 q (.lst (ivs (rgI 0 fl.length))) = H2 at s2 hD2 ⊢
      by_cases c2 : fl = rgI 0 fl.length
      · rw [decide_eq_true c2]
        have n1 : ¬ (mark = "lost" ∨ fl ≠ rgI 0 fl.length) := fun z => z.elim c1 fun z => z c2
        rw [if_neg n1] at k
        refine iteF ⟨_, rfl, o, T.X.C, dx, _, _, rfl, s2 _ _ e0, T.X.cl, T.X.nSt, xf_st .., _, rfl, ?_⟩
        cases st with
        | true =>
          rw [if_pos rfl] at k
          refine iteT ⟨_, rfl, D, _, rfl, .inl (SqL.of hD2), _, rfl, rfl, _, rfl, ?_⟩
          rw [ivs_len, dI]
          by_cases c3 : fl.length = bh
          · rw [show decide (((fl.length : Nat) : Int) = (bh : Nat)) = true from decide_eq_true (by omega)]
            refine iteT ⟨_, rfl, rfl, _, rfl, ?_⟩
            rw [dI]
            by_cases c4 : left = 0
            · rw [if_pos ⟨c3, c4⟩] at k
              rw [show decide (((left : Nat) : Int) = 0) = true from decide_eq_true (by omega)]
              exact iteT (k _ s2)
            · rw [if_neg (fun z => c4 z.2)] at k
              rw [show decide (((left : Nat) : Int) = 0) = false from decide_eq_false (by omega)]
              exact iteF (k _ s2)
          · rw [if_neg (fun z => c3 z.1)] at k
            rw [show decide (((fl.length : Nat) : Int) = (bh : Nat)) = false from decide_eq_false (by omega)]
            exact iteF (k _ s2)
        | false =>
          rw [if_neg (by decide)] at k
          refine iteF ⟨_, rfl, o, T.X.C, dx, _, _, rfl, s2 _ _ e0, T.X.cl, T.X.nR, xf_r .., _, rfl, D, _, rfl, .inl (SqL.of hD2), _, rfl, _, _, rfl, rfl, RgOk.of_le (by omega) (by omega) (by rw [ivs_len]; omega) (by omega), fun q3 nq3 => ?_⟩
          rw [ivs_len, rgV_rgB]
          have u3 := same_new (o := .tup (ivs (rgB (fl.length : Nat) (bh : Nat)))) nq3
          refine ⟨.tuple (intD x.rest), .tuple (intD (rgB (fl.length : Nat) (bh : Nat))), .tup (SqT.of (u3 _ _ (s2 _ _ hr0'))) (dpI _), .tup (SqT.of upd_same) (dpI _), intD_shapedT _, intD_shapedT _, _, rfl, ?_⟩
          rw [eqv_it]
          have s3 := Same.trans s2 u3
          by_cases c5 : x.rest = rgB (fl.length : Nat) (bh : Nat)
          · rw [if_pos c5] at k
            rw [decide_eq_true c5]
            exact iteT (k _ s3)
          · rw [if_neg c5] at k
            rw [decide_eq_false c5]
            refine iteF ⟨_, rfl, D, _, rfl, .inl (SqL.of (u3 _ _ hD2)), _, rfl, rfl, _, rfl, ?_⟩
            rw [ivs_len, dI]
            by_cases c3 : fl.length = bh
            · rw [if_pos c3] at k
              rw [show decide (((fl.length : Nat) : Int) = (bh : Nat)) = true from decide_eq_true (by omega)]
              exact iteT (k _ s3)
            · rw [if_neg c3] at k
              rw [show decide (((fl.length : Nat) : Int) = (bh : Nat)) = false from decide_eq_false (by omega)]
              exact iteF (k _ s3)
      · rw [decide_eq_false c2]
        rw [if_pos (.inr c2)] at k
        refine iteT ⟨_, rfl, o, T.X.C, dx, _, _, rfl, s2 _ _ e0, T.X.cl, T.X.nSt, xf_st .., _, rfl, ?_⟩
        cases st with
        | true => exact iteT (k _ s2)
        | false => exact iteF (k _ s2)
/-! ### filled -/
theorem any_nil : ∀ ps : List (List Int), ((ps.map fun p => PyData.tuple (intD p)).any fun z => PyData.eqv z (.tuple [])) = decide ([] ∈ ps)
  | [] => by simp
  | p :: r => by
    rw [List.map_cons, List.any_cons, any_nil r]
    have e : PyData.eqv (.tuple (intD p)) (.tuple []) = decide (p = []) := eqv_it p []
    rw [e]
    by_cases h : p = []
    · subst h; simp
    · have : ¬ ([] = p) := fun z => h z.symm
      simp [h, this]
theorem pcD_lay : ∀ ps : List (List Int), PyData.canLayAll0 (ps.map fun p => PyData.tuple (intD p)) = true ∧ PyData.depthAll (ps.map fun p => PyData.tuple (intD p)) ≤ 2
  | [] => ⟨by simp [PyData.canLayAll0], by simp [PyData.depthAll]⟩
  | p :: q => by
    obtain ⟨a, b⟩ := pcD_lay q
    have h := intD_depth p
    rw [List.map_cons]
    refine ⟨?_, ?_⟩
    · rw [PyData.canLayAll0, a, PyData.canLay0, intD_lay]; rfl
    · rw [PyData.depthAll]; exact Nat.max_le.mpr ⟨by rw [PyData.depth]; omega, b⟩
theorem pc_shaped (ps : List (List Int)) : SeqAt.shaped (.list (ps.map fun p => PyData.tuple (intD p))) = true := by
  obtain ⟨a, b⟩ := pcD_lay ps
  refine Bool.and_eq_true_iff.mpr ⟨by simp only [PyData.canLay0]; exact a, decide_eq_true ?_⟩
  simp only [PyData.depth]
  omega
theorem pc_dp {H : Hp} : ∀ {vs ps}, Pcs H vs ps → DpAll K H vs (ps.map fun p => PyData.tuple (intD p))
  | _, _, .nil => .nil
  | _, _, .cons h t => .cons (.tup (SqT.of h) (dpI _)) (pc_dp t)
theorem scMf : FnScope MP MP (defScope sMf) := ⟨rfl, rfl, rfl, by decide +kernel, rfl, by decide +kernel, by decide +kernel⟩
theorem ok_mf (T : TxMk K mg) : FnOk P w K mg base CX0 1 T.mf.f T.mf.fd MP (spMk T.X.C fun _ _ x _ _ _ _ => if [] ∈ x.pieces then "fault" else "fine") := by
  obtain ⟨t1, mF⟩ := T.fine
  obtain ⟨t5, mX⟩ := T.fault
  refine T.mf.F.ok scMf (fun vs H Q E h => ?_) (fun cdv A outer s H vs Q E hr h => ?_)
  · obtain ⟨o, _, _, _, _, mark, _, _, _, _, _, _, _, _, rfl, _⟩ := h
    rfl
  · obtain ⟨o, dx, ro, eo, p, mark, ak, sz, bh, left, held, told, x, st, rfl, hX, hw, hr0, hb, k⟩ := h
    refine ⟨_, (pss_one (ps_ret (pe_ifExp (pt_cmpR (op_inD (by have := hr.un; show (A.deeper _).units + 65 < cLine; omega)) (pe_tup pa_nil) (pe_fld (pv 1) rfl) (by rfl)) (pe_glob (v := .str "fault") rfl mX ⟨_, rfl⟩) (pe_glob (v := .str "fine") rfl mF ⟨_, rfl⟩)))), ?_⟩
    obtain ⟨h0, r0, vs0, e0, _, _, hp0, hP⟩ := id hX.ex
    refine ⟨Nat.zero_le _, fun z nz => ?_⟩
    have u1 := same_new (o := .tup []) nz
    replace k : ∀ H', Same H H' → Q (.str (if [] ∈ x.pieces then "fault" else "fine")) H' := k
    refine ⟨_, rfl, o, T.X.C, dx, _, _, rfl, u1 _ _ e0, T.X.cl, T.X.nP, xf_p .., .tuple [], _, .tup (SqT.of upd_same) .nil, .lst (SqL.of (u1 _ _ hp0)) (pc_dp (hP.mono fun _ _ e => u1 _ _ e)), by decide, pc_shaped _, _, rfl, ?_⟩
    rw [any_nil]
    by_cases c : [] ∈ x.pieces
    · rw [if_pos c] at k
      rw [decide_eq_true c]
      exact iteT (k _ u1)
    · rw [if_neg c] at k
      rw [decide_eq_false c]
      exact iteF (k _ u1)
/-! ### even -/
theorem scMe : FnScope ["mark", "work", "behind", "left", "held"] MP (defScope sMe) := ⟨rfl, rfl, rfl, by decide +kernel, rfl, by decide +kernel, by decide +kernel⟩
theorem ok_me (T : TxMk K mg) : FnOk P w K mg base CX0 1 T.me.f T.me.fd MP (spMk T.X.C fun m sz x _ _ _ _ => evenM sz m x.pieces) := by
  obtain ⟨t2, mS⟩ := T.short
  obtain ⟨t5, mX⟩ := T.fault
  refine T.me.F.ok scMe (fun vs H Q E h => ?_) (fun cdv A outer s H vs Q E hr h => ?_)
  · obtain ⟨o, _, _, _, _, mark, _, _, _, _, _, _, _, _, rfl, _⟩ := h
    rfl
  · obtain ⟨o, dx, ro, eo, p, mark, ak, sz, bh, left, held, told, x, st, rfl, hX, hw, hr0, hb, k⟩ := h
    refine ⟨_, (pss_cons (ps_for PassesOwn.never rfl (pi_list (pe_fld (pv 1) rfl)) (pg_name (i := 4) scMe.nd rfl (.inl rfl)) (pss_cons (ps_if (PW.pt (pw_or (pt_cmpR op_eq (pv 0) (pe_glob (v := .str "short") rfl mS ⟨_, rfl⟩) (nomark _)) (pw_or1 (pt_cmpR op_gt (pe_callB call_len_seq (by rfl) T.X.len PySem.boot_len (pa_cons (pv 4) pa_nil)) (pe_fld (pv 1) rfl) (nomark _))))) (pss_one (ps_ret (pe_glob (v := .str "fault") rfl mX ⟨_, rfl⟩))) pss_nil) (pss_one (ps_if (pt_cmpR op_lt (pe_callB call_len_seq (by rfl) T.X.len PySem.boot_len (pa_cons (pv 4) pa_nil)) (pe_fld (pv 1) rfl) (nomark _)) (pss_one (ps_set (i := 0) scMe.nd rfl (.inl rfl) (pe_glob (v := .str "short") rfl mS ⟨_, rfl⟩))) pss_nil)))) (pss_one (ps_ret (pv 0)))), ?_⟩
    obtain ⟨h0, r0, vs0, e0, _, _, hp0, hP⟩ := id hX.ex
    have lp := hP.len
    replace k : ∀ H', Same H H' → Q (.str (evenM sz mark x.pieces)) H' := k
    refine ⟨_, rfl, o, T.X.C, dx, _, _, rfl, e0, T.X.cl, T.X.nP, xf_p .., p, rfl, ⟨_, SqL.of hp0⟩, ?_⟩
    refine for_list (K := K) (a := p) (xs := vs0) (fun i σ H' => ∃ (m : Str) (v4 : Option V), σ = [some (.str m), some (.ref o), some (.int bh), some (.int left), v4] ∧ H' = H ∧ evenM sz m (x.pieces.drop i) = evenM sz mark x.pieces) ⟨mark, none, rfl, rfl, by rw [List.drop_zero]⟩ (fun i σ H' _ ⟨_, _, _, eH, _⟩ => by rw [eH]; exact SqL.of hp0) ?_ ?_
    · rintro i y σ H' hy ⟨m, v4, rfl, rfl, em⟩
      obtain ⟨q, pc, hpc, rfl, hq⟩ := hP.getL hy
      have ed : x.pieces.drop i = pc :: x.pieces.drop (i + 1) := by
        obtain ⟨hi, he⟩ := List.getElem?_eq_some_iff.mp hpc
        rw [← he]
        exact List.drop_eq_getElem_cons hi
      rw [ed] at em
      have emd : evenM sz m (pc :: x.pieces.drop (i + 1)) = if m = "short" ∨ sz < pc.length then ("fault" : Str) else evenM sz (if pc.length < sz then "short" else m) (x.pieces.drop (i + 1)) := rfl
      rw [emd] at em
      refine ⟨_, rfl, rfl, _, rfl, ?_⟩
      rw [show decide (V.str m = V.str "short") = decide (m = "short") from dS ..]
      by_cases c1 : m = "short"
      · rw [if_pos (.inl c1)] at em
        rw [decide_eq_true c1]
        rw [← em] at k
        exact iteT (k _ (Same.refl _))
      rw [decide_eq_false c1]
      refine iteF ⟨_, rfl, q, _, rfl, .inr (SqT.of hq), _, rfl, o, T.X.C, dx, _, _, rfl, e0, T.X.cl, T.X.nSz, xf_sz .., _, _, rfl, rfl, _, rfl, ?_⟩
      rw [ivs_len]
      by_cases c2 : sz < pc.length
      · rw [if_pos (.inr c2)] at em
        rw [show decide (((sz : Nat) : Int) < ((pc.length : Nat) : Int)) = true from decide_eq_true (by omega)]
        rw [← em] at k
        exact iteT (k _ (Same.refl _))
      · rw [if_neg (fun z => z.elim c1 c2)] at em
        rw [show decide (((sz : Nat) : Int) < ((pc.length : Nat) : Int)) = false from decide_eq_false (by omega)]
        refine iteF ⟨_, rfl, q, _, rfl, .inr (SqT.of hq), _, rfl, o, T.X.C, dx, _, _, rfl, e0, T.X.cl, T.X.nSz, xf_sz .., _, _, rfl, rfl, _, rfl, ?_⟩
        rw [ivs_len]
        by_cases c3 : pc.length < sz
        · rw [if_pos c3] at em
          rw [show decide (((pc.length : Nat) : Int) < ((sz : Nat) : Int)) = true from decide_eq_true (by omega)]
          exact iteT ⟨_, _, rfl, rfl, em⟩
        · rw [if_neg c3] at em
          rw [show decide (((pc.length : Nat) : Int) < ((sz : Nat) : Int)) = false from decide_eq_false (by omega)]
          exact iteF ⟨_, _, rfl, rfl, em⟩
    · rintro σ H' ⟨m, v4, rfl, rfl, em⟩
      rw [lp, List.drop_length] at em
      replace k : ∀ H'_1, Same H' H'_1 → Q (.str (evenM sz mark x.pieces)) H'_1 := k
      have em2 : m = evenM sz mark x.pieces := em
      rw [← em2] at k
      exact ⟨_, rfl, k _ (Same.refl _)⟩
/-! ### quiet, ends -/
theorem scMq : FnScope MP MP (defScope sMq) := ⟨rfl, rfl, rfl, by decide +kernel, rfl, by decide +kernel, by decide +kernel⟩
theorem scMn : FnScope MP MP (defScope sMn) := ⟨rfl, rfl, rfl, by decide +kernel, rfl, by decide +kernel, by decide +kernel⟩
theorem ok_mq (T : TxMk K mg) : FnOk P w K mg base CX0 1 T.mq.f T.mq.fd MP (spMk T.X.C fun _ _ _ st told _ _ => if told = true ∧ st = false then "fault" else "fine") := by
  obtain ⟨t1, mF⟩ := T.fine
  obtain ⟨t5, mX⟩ := T.fault
  refine T.mq.F.ok scMq (fun vs H Q E h => ?_) (fun cdv A outer s H vs Q E hr h => ?_)
  · obtain ⟨o, _, _, _, _, mark, _, _, _, _, _, _, _, _, rfl, _⟩ := h
    rfl
  · obtain ⟨o, dx, ro, eo, p, mark, ak, sz, bh, left, held, told, x, st, rfl, hX, hw, hr0, hb, k⟩ := h
    refine ⟨_, (pss_one (ps_ret (pe_ifExp (PW.pt (pw_and (pt_val (pe_fld (pv 1) rfl)) (pw_and1 (pt_not (pt_val (pe_fld (pv 1) rfl)))))) (pe_glob (v := .str "fault") rfl mX ⟨_, rfl⟩) (pe_glob (v := .str "fine") rfl mF ⟨_, rfl⟩)))), ?_⟩
    obtain ⟨h0, r0, vs0, e0, _⟩ := id hX.ex
    refine ⟨_, rfl, o, T.X.C, dx, _, _, rfl, e0, T.X.cl, T.X.nT, xf_t .., _, rfl, ?_⟩
    cases told with
    | false => exact iteF (iteF (k _ (Same.refl _)))
    | true =>
      refine iteT ⟨_, rfl, o, T.X.C, dx, _, _, rfl, e0, T.X.cl, T.X.nSt, xf_st .., _, rfl, ?_⟩
      cases st with
      | true => exact iteF (k _ (Same.refl _))
      | false => exact iteT (k _ (Same.refl _))
theorem ok_mn (T : TxMk K mg) : FnOk P w K mg base CX0 1 T.mn.f T.mn.fd MP (spMk T.X.C fun _ _ _ _ _ _ _ => "fine") := by
  obtain ⟨t1, mF⟩ := T.fine
  refine T.mn.F.ok scMn (fun vs H Q E h => ?_) (fun cdv A outer s H vs Q E hr h => ?_)
  · obtain ⟨o, _, _, _, _, mark, _, _, _, _, _, _, _, _, rfl, _⟩ := h
    rfl
  · obtain ⟨o, dx, ro, eo, p, mark, ak, sz, bh, left, held, told, x, st, rfl, hX, hw, hr0, hb, k⟩ := h
    exact ⟨_, pss_one (ps_ret (pe_glob (v := .str "fine") rfl mF ⟨_, rfl⟩)), k _ (Same.refl _)⟩
end
end My

/-! kinds of sources: check_word, Source.__init__, Source.__repr__ -/
namespace My
open PySem L2 Cm LM
abbrev sQW : Stmt := top 62
abbrev sUI : Stmt := inClass (top 64) 0
abbrev sUR : Stmt := inClass (top 64) 3
def sfU (A B E : Str) : List (Str × V) := [("amount", .str A), ("patience", .str B), ("end", .str E)]
/-- a kind of sources stands at o -/
def SrcU (C : Addr) (H : Hp) (o : Addr) (A B E : Str) : Prop := ∃ dx, H o = some (.ins C dx (sfU A B E))
theorem SrcU.same {C : Addr} {H H' : Hp} {o : Addr} {A B E : Str} (s : Same H H') (h : SrcU C H o A B E) : SrcU C H' o A B E := let ⟨dx, e⟩ := h; ⟨dx, s _ _ e⟩
structure TxU (K : PySem.W.Frag) (mg : Str → Option Value) where
  isi : mg "isinstance" = none
  str : mg "str" = none
  pA : Addr
  pP : Addr
  pE : Addr
  gA : mg "AMOUNTS" = some (.ref pA)
  gP : mg "PATIENCES" = some (.ref pP)
  gE : mg "ENDS" = some (.ref pE)
  lA : ∀ H, SqT K H pA [.str "exact", .str "short"]
  lP : ∀ H, SqT K H pP [.str "prompt", .str "waiting"]
  lE : ∀ H, SqT K H pE [.str "empty", .str "with", .str "behind"]
  ckw : Df K mg "check_word" sQW ["word", "words"]
  C : Addr
  gC : mg "Source" = some (.ref C)
  cl : Cls K C
  nA : NoAttr K C "amount"
  nP : NoAttr K C "patience"
  nE : NoAttr K C "end"
  fI : Addr
  fdI : FuncData
  FI : Fun K "__init__" "Source.__init__" sUI fI fdI
  bI : Binds K fdI ["self", "amount", "patience", "end"] []
  MI : Mk K C fI
  ur : Sm K C "__repr__" "Source.__repr__" sUR ["self"]
  y1 : PySem.W.findIn K (.ref C) "__class__" = some (some (.builtin "object.__class__"))
  y2 : PySem.W.specialIn K (.builtin "object.__class__") "__get__" = some (some (.builtin "getset_descriptor.__get__"))
  y3 : PySem.W.takesIn K (.builtin "object.__class__") = some true
  y4 : PySem.W.mroIn K C (.type "object") = some true
  y5 : PySem.W.kitOne K (.ref C) (.ref C) = some true
section
variable {P : Program} {w : World} {K : PySem.W.Frag} {mg : Str → Option Value} {base : Heap}
theorem SrcU.ty (M : TxU K mg) {H : Hp} {o : Addr} {A B E : Str} (h : SrcU M.C H o A B E) : TyX K H (.ref o) (.ref M.C) := by
  obtain ⟨dx, e⟩ := h
  exact .base (.ins e M.cl M.y1 M.y2 M.y3 M.y4)
/-! ### check_word, __init__ of the right words -/
def spCKW (K : PySem.W.Frag) : Sp := fun vs H Q _ => ∃ (x : Str) (p : Addr) (xs : List V), vs = [.str x, .ref p] ∧ SqT K H p xs ∧ xs.all flatV = true ∧ inV (.str x) xs = true ∧ Q .non H
theorem scQW : FnScope ["word", "words"] ["word", "words"] (defScope sQW) := ⟨rfl, rfl, rfl, by decide +kernel, rfl, by decide +kernel, by decide +kernel⟩
theorem ok_ckw (M : TxU K mg) : FnOk P w K mg base CX0 1 M.ckw.f M.ckw.fd ["word", "words"] (spCKW K) := by
  refine M.ckw.F.ok scQW (fun vs H Q E h => ?_) (fun cdv A outer s H vs Q E hr h => ?_)
  · obtain ⟨x, p, xs, rfl, _⟩ := h
    rfl
  · obtain ⟨x, p, xs, rfl, hp, hf, hi, k⟩ := h
    refine ⟨_, pss_one (ps_if (PW.pt (pw_or (pt_not (pt_val (pe_callB call_isi (by rfl) M.isi (by decide +kernel) (pa_cons (pv 0) (pa_cons (pe_bltn (v := .ty "str") (by rfl) M.str (by decide +kernel) rfl) pa_nil)))))
          (pw_or1 (pt_cmpR op_notIn_seq (pv 0) (pv 1) (by rfl))))) (pss_one ps_never) pss_nil), ?_⟩
    refine ⟨_, rfl, _, _, _, _, true, rfl, .ty "str", .base (.str x), kit_ty (by decide +kernel), true, rfl, iteF ?_⟩
    refine ⟨_, rfl, _, rfl, p, xs, rfl, .inr hp, rfl, hf, _, rfl, ?_⟩
    rw [hi]
    exact iteF k
def isAm (A : Str) : Prop := A = "exact" ∨ A = "short"
def isPa (B : Str) : Prop := B = "prompt" ∨ B = "waiting"
def isEn (E : Str) : Prop := E = "empty" ∨ E = "with" ∨ E = "behind"
def spUI (C : Addr) : Sp := fun vs H Q _ => ∃ (x dx : Addr) (A B E : Str), vs = [.ref x, .str A, .str B, .str E] ∧ isAm A ∧ isPa B ∧ isEn E ∧ H x = some (.ins C dx []) ∧
  ∀ H' : Hp, (∀ b o, b ≠ x → H b = some o → H' b = some o) → H' x = some (.ins C dx (sfU A B E)) → Q .non H'
theorem scUI : FnScope ["self", "amount", "patience", "end"] ["self", "amount", "patience", "end"] (defScope sUI) := ⟨rfl, rfl, rfl, by decide +kernel, rfl, by decide +kernel, by decide +kernel⟩
theorem ok_ui (M : TxU K mg) : FnOk P w K mg base CX0 2 M.fI M.fdI ["self", "amount", "patience", "end"] (spUI M.C) := by
  have G1 : FnOk P w K mg base CX0 1 M.ckw.f M.ckw.fd ["word", "words"] (spCKW K) := ok_ckw M
  refine M.FI.ok scUI (fun vs H Q E h => ?_) (fun cdv A outer s H vs Q E hr h => ?_)
  · obtain ⟨x, dx, A, B, E, rfl, _⟩ := h
    rfl
  · obtain ⟨x, dx, A, B, E, rfl, hA, hB, hE, hx, k⟩ := h
    refine ⟨_, pss_cons (ps_expr (pe_call G1 hr rfl M.ckw.g M.ckw.k M.ckw.b .nil pass0 (pa_cons (pv 1) (pa_cons (pe_glob (v := .ref M.pA) rfl M.gA rfl) pa_nil))))
      (pss_cons (ps_expr (pe_call G1 hr rfl M.ckw.g M.ckw.k M.ckw.b .nil pass0 (pa_cons (pv 2) (pa_cons (pe_glob (v := .ref M.pP) rfl M.gP rfl) pa_nil))))
      (pss_cons (ps_expr (pe_call G1 hr rfl M.ckw.g M.ckw.k M.ckw.b .nil pass0 (pa_cons (pv 3) (pa_cons (pe_glob (v := .ref M.pE) rfl M.gE rfl) pa_nil))))
      (pss_cons (ps_fld (pv 0) (pv 1) rfl) (pss_cons (ps_fld (pv 0) (pv 2) rfl) (pss_one (ps_fld (pv 0) (pv 3) rfl)))))), ?_⟩
    refine ⟨_, rfl, A, M.pA, _, rfl, M.lA _, rfl, ?_, ?_⟩
    · rcases hA with rfl | rfl <;> decide +kernel
    refine ⟨_, rfl, B, M.pP, _, rfl, M.lP _, rfl, ?_, ?_⟩
    · rcases hB with rfl | rfl <;> decide +kernel
    refine ⟨_, rfl, E, M.pE, _, rfl, M.lE _, rfl, ?_, ?_⟩
    · rcases hE with rfl | rfl | rfl <;> decide +kernel
    refine ⟨_, rfl, _, rfl, x, M.C, dx, _, rfl, hx, M.cl, M.nA, (by show 0 < 1000; decide), ?_⟩
    refine ⟨_, rfl, _, rfl, x, M.C, dx, _, rfl, upd_same, M.cl, M.nP, (by show 1 < 1000; decide), ?_⟩
    refine ⟨_, rfl, _, rfl, x, M.C, dx, _, rfl, upd_same, M.cl, M.nE, ?_, ?_⟩
    · exact Nat.lt_of_le_of_lt (putF_len _ _ _) (Nat.lt_of_le_of_lt (Nat.add_le_add_right (putF_len _ _ _) 1) (by decide))
    · refine k _ (fun b o nb e => ?_) upd_same
      rw [upd_ne nb, upd_ne nb, upd_ne nb]
      exact e
theorem uf_am (A B E : Str) : (sfU A B E).lookup ("amount" : Str) = some (.str A) := rfl
theorem uf_pa (A B E : Str) : (sfU A B E).lookup ("patience" : Str) = some (.str B) := rfl
theorem uf_en (A B E : Str) : (sfU A B E).lookup ("end" : Str) = some (.str E) := rfl
/-! ### __repr__ -/
def srS : Str := ("Source(" : Str) ++ "short" ++ " " ++ "prompt" ++ " " ++ "empty" ++ ")"
def spUR (C : Addr) : Sp := fun vs H Q _ => ∃ o : Addr, vs = [.ref o] ∧ SrcU C H o "short" "prompt" "empty" ∧ Q (.str srS) H
theorem scUR : FnScope ["self"] ["self"] (defScope sUR) := ⟨rfl, rfl, rfl, by decide +kernel, rfl, by decide +kernel, by decide +kernel⟩
theorem ok_ur (M : TxU K mg) : FnOk P w K mg base CX0 1 M.ur.f M.ur.fd ["self"] (spUR M.C) := by
  refine M.ur.F.ok scUR (fun vs H Q E h => ?_) (fun cdv A outer s H vs Q E hr h => ?_)
  · obtain ⟨o, rfl, _⟩ := h
    rfl
  · obtain ⟨o, rfl, ⟨dx, e⟩, k⟩ := h
    refine ⟨_, pss_one (ps_ret (pe_joined (.cons pe_str (.cons (pe_fmt (pe_fld (pv 0) rfl)) (.cons pe_str (.cons (pe_fmt (pe_fld (pv 0) rfl)) (.cons pe_str (.cons (pe_fmt (pe_fld (pv 0) rfl)) (.cons pe_str .nil))))))))), ?_⟩
    refine ⟨_, rfl, szl (by decide +kernel), ?_⟩
    refine ⟨_, rfl, o, M.C, dx, _, _, rfl, e, M.cl, M.nA, uf_am .., .inl ⟨"short", rfl, szl (by decide +kernel), _, rfl, szl (by decide +kernel), ?_⟩⟩
    refine ⟨_, rfl, szl (by decide +kernel), ?_⟩
    refine ⟨_, rfl, o, M.C, dx, _, _, rfl, e, M.cl, M.nP, uf_pa .., .inl ⟨"prompt", rfl, szl (by decide +kernel), _, rfl, szl (by decide +kernel), ?_⟩⟩
    refine ⟨_, rfl, szl (by decide +kernel), ?_⟩
    refine ⟨_, rfl, o, M.C, dx, _, _, rfl, e, M.cl, M.nE, uf_en .., .inl ⟨"empty", rfl, szl (by decide +kernel), _, rfl, szl (by decide +kernel), ?_⟩⟩
    refine ⟨_, rfl, szl (by decide +kernel), ?_⟩
    rw [show Str.empty ++ ("Source(" : Str) ++ "short" ++ " " ++ "prompt" ++ " " ++ "empty" ++ ")" = srS by decide +kernel]
    exact k
end
end My

/-! Source.must_tell -/
namespace My
open PySem L2 Cm LM
abbrev sUM : Stmt := inClass (top 64) 6
def mustU (E : Str) (before after : Int) : Bool := if E = "empty" then false else if E = "behind" then decide (before = 0) else decide (after = 0)
structure TxUm (K : PySem.W.Frag) (mg : Str → Option Value) where
  U : TxU K mg
  mu : Mt K U.C "must_tell" "Source.must_tell" sUM ["self", "before", "after"]
section
variable {P : Program} {w : World} {K : PySem.W.Frag} {mg : Str → Option Value} {base : Heap}
def spUM (C : Addr) : Sp := fun vs H Q _ => ∃ (o : Addr) (A B E : Str) (before after : Int), vs = [.ref o, .int before, .int after] ∧ SrcU C H o A B E ∧ Q (.bl (mustU E before after)) H
theorem scUM : FnScope ["self", "before", "after"] ["self", "before", "after"] (defScope sUM) := ⟨rfl, rfl, rfl, by decide +kernel, rfl, by decide +kernel, by decide +kernel⟩
theorem ok_um (M : TxUm K mg) : FnOk P w K mg base CX0 1 M.mu.f M.mu.fd ["self", "before", "after"] (spUM M.U.C) := by
  refine M.mu.F.ok scUM (fun vs H Q E h => ?_) (fun cdv A outer s H vs Q E hr h => ?_)
  · obtain ⟨o, A, B, E, l, c, rfl, _⟩ := h
    rfl
  · obtain ⟨o, A, B, E, l, c, rfl, ⟨dx, ho⟩, k⟩ := h
    refine ⟨_, pss_cons (ps_if (pt_cmpR op_eq (pe_fld (pv 0) rfl) pe_str (nomark _)) (pss_one (ps_ret pe_bl)) pss_nil)
      (pss_cons (ps_if (pt_cmpR op_eq (pe_fld (pv 0) rfl) pe_str (nomark _)) (pss_one (ps_ret (pe_cmpR op_eq (pv 1) pe_int (nomark _)))) pss_nil)
      (pss_one (ps_ret (pe_cmpR op_eq (pv 2) pe_int (nomark _))))), ?_⟩
    unfold mustU at k
    refine ⟨_, rfl, o, M.U.C, dx, _, _, rfl, ho, M.U.cl, M.U.nE, uf_en _ _ _, rfl, _, rfl, ?_⟩
    rw [dS]
    refine ite2 (fun c1 => ?_) (fun c1 => ?_)
    · rw [if_pos (of_decide_eq_true c1)] at k
      exact k
    · rw [if_neg (fun e => c1 (decide_eq_true e))] at k
      refine ⟨_, rfl, o, M.U.C, dx, _, _, rfl, ho, M.U.cl, M.U.nE, uf_en _ _ _, rfl, _, rfl, ?_⟩
      rw [dS]
      refine ite2 (fun c2 => ?_) (fun c2 => ?_)
      · rw [if_pos (of_decide_eq_true c2)] at k
        refine ⟨_, rfl, rfl, ?_⟩
        rw [dI]
        exact k
      · rw [if_neg (fun e => c2 (decide_eq_true e))] at k
        refine ⟨_, rfl, rfl, ?_⟩
        rw [dI]
        exact k
end
end My

/-! Source.can_hand_out -/
namespace My
open PySem L2 Cm LM
abbrev sUC : Stmt := inClass (top 64) 5
/-! ### the mirror -/
def canU (A B : Str) (left size count : Int) : Bool :=
  if count = 0 then (if left = 0 then true else decide (B = "waiting")) else if A = "exact" then decide (count = if left < size then left else size) else decide (count ≤ if left < size then left else size)
structure TxUc (K : PySem.W.Frag) (mg : Str → Option Value) where
  M : TxUm K mg
  min : mg "min" = none
  ca : Mt K M.U.C "can_hand_out" "Source.can_hand_out" sUC ["self", "left", "size", "count"]
section
variable {P : Program} {w : World} {K : PySem.W.Frag} {mg : Str → Option Value} {base : Heap}
/-! ### can_hand_out -/
def spUC (C : Addr) : Sp := fun vs H Q _ => ∃ (o : Addr) (A B E : Str) (left size count : Int), vs = [.ref o, .int left, .int size, .int count] ∧ SrcU C H o A B E ∧ Q (.bl (canU A B left size count)) H
theorem scUC : FnScope ["self", "left", "size", "count"] ["self", "left", "size", "count"] (defScope sUC) := ⟨rfl, rfl, rfl, by decide +kernel, rfl, by decide +kernel, by decide +kernel⟩
theorem ok_uc (M : TxUc K mg) : FnOk P w K mg base CX0 1 M.ca.f M.ca.fd ["self", "left", "size", "count"] (spUC M.M.U.C) := by
  refine M.ca.F.ok scUC (fun vs H Q E h => ?_) (fun cdv A outer s H vs Q E hr h => ?_)
  · obtain ⟨o, A, B, E, l, z, c, rfl, _⟩ := h
    rfl
  · obtain ⟨o, A, B, E, l, z, c, rfl, ⟨dx, ho⟩, k⟩ := h
    refine ⟨_, pss_cons (ps_if (pt_cmpR op_eq (pv 3) pe_int (nomark _)) (pss_one (ps_ret (pe_or (pe_cmpR op_eq (pv 1) pe_int (nomark _)) (pe_one (pe_cmpR op_eq (pe_fld (pv 0) rfl) pe_str (nomark _)))))) pss_nil)
      (pss_cons (ps_if (pt_cmpR op_eq (pe_fld (pv 0) rfl) pe_str (nomark _)) (pss_one (ps_ret (pe_cmpR op_eq (pv 3) (pe_callB (call_min2 rfl) (by rfl) M.min (by decide +kernel) (pa_cons (pv 2) (pa_cons (pv 1) pa_nil))) (nomark _)))) pss_nil)
      (pss_one (ps_ret (pe_cmpR op_le (pv 3) (pe_callB (call_min2 rfl) (by rfl) M.min (by decide +kernel) (pa_cons (pv 2) (pa_cons (pv 1) pa_nil))) (nomark _))))), ?_⟩
    unfold canU at k
    refine ⟨_, rfl, rfl, _, rfl, ?_⟩
    rw [dI]
    refine ite2 (fun c1 => ?_) (fun c1 => ?_)
    · rw [if_pos (of_decide_eq_true c1)] at k
      refine ⟨_, rfl, rfl, _, rfl, ?_⟩
      rw [dI]
      refine ite2 (fun c2 => ?_) (fun c2 => ?_)
      · rw [if_pos (of_decide_eq_true c2)] at k
        exact k
      · rw [if_neg (fun e => c2 (decide_eq_true e))] at k
        refine ⟨_, rfl, o, M.M.U.C, dx, _, _, rfl, ho, M.M.U.cl, M.M.U.nP, uf_pa _ _ _, rfl, ?_⟩
        rw [dS]
        exact k
    · rw [if_neg (fun e => c1 (decide_eq_true e))] at k
      refine ⟨_, rfl, o, M.M.U.C, dx, _, _, rfl, ho, M.M.U.cl, M.M.U.nA, uf_am _ _ _, rfl, _, rfl, ?_⟩
      rw [dS]
      refine ite2 (fun c2 => ?_) (fun c2 => ?_)
      · rw [if_pos (of_decide_eq_true c2)] at k
        refine ⟨_, rfl, _, rfl, _, rfl, z, l, rfl, rfl, ?_⟩
        rw [dI]
        exact k
      · rw [if_neg (fun e => c2 (decide_eq_true e))] at k
        exact ⟨_, rfl, _, rfl, _, rfl, z, l, rfl, _, _, rfl, rfl, k⟩
end
end My

/-! Execution.answer_nothing -/
namespace My
open PySem L2 Cm LM EM CoM
abbrev sXN : Stmt := inClass (top 43) 2
structure TxXn (K : PySem.W.Frag) (mg : Str → Option Value) where
  X : TxX K mg
  no : Mt K X.C "answer_nothing" "Execution.answer_nothing" sXN ["self", "told"]
section
variable {P : Program} {w : World} {K : PySem.W.Frag} {mg : Str → Option Value} {base : Heap}
theorem xf_noN (ro eo : Addr) (ak sz : Nat) (h : Addr) (t : Bool) (r p : Addr) (st : Bool) : (xf ro eo ak sz h t r p st).lookup ("answer_nothing" : Str) = none := by kernel_rfl
def spXN (C : Addr) : Sp := fun vs H Q _ => ∃ (o dx ro eo p : Addr) (ak sz : Nat) (held0 : List Int) (told0 told : Bool) (x : RP) (st : Bool) (rs es : List (Str × Str)) (k c : Nat), vs = [.ref o, .bl told] ∧ ExAt C H o dx ro eo p ak sz held0 told0 x st ∧ OrdT H ro rs ∧ OrdT H eo es ∧ rs.length ≤ 12 ∧ es.length ≤ 6 ∧ 1 ≤ sz ∧ sz ≤ 1000 ∧ Few sz k c x ∧ k ≤ 2000 ∧ c ≤ 7000000 ∧
  ∀ (H' : Hp) (held' : List Int) (told' : Bool), Off2 o p H H' → ExAt C H' o dx ro eo p (noS sz rs es told 4 none ⟨x, ak, st⟩).ak sz held' told' (noS sz rs es told 4 none ⟨x, ak, st⟩).x (noS sz rs es told 4 none ⟨x, ak, st⟩).st → Q .non H'
theorem scXN : FnScope ["self", "told", "many"] ["self", "told"] (defScope sXN) := ⟨rfl, rfl, rfl, by decide +kernel, rfl, by decide +kernel, by decide +kernel⟩
/-- many, as the text holds it -/
def manyV : Option Nat → V
  | none => .int (-1)
  | some l => .int (l : Nat)
theorem scal_many (n : Nat) (mo : Option Nat) : scal (.int (n : Nat)) (manyV mo) = true := by cases mo <;> rfl
theorem many_ne (n : Nat) (mo : Option Nat) : decide (V.int (n : Nat) = manyV mo) = decide (some n = mo) := by
  refine decide_eq_decide.mpr ?_
  cases mo with
  | none =>
    refine ⟨fun e => ?_, fun e => by cases e⟩
    have : ((n : Nat) : Int) = -1 := V.int.inj e
    omega
  | some l =>
    refine ⟨fun e => ?_, fun e => by cases e; rfl⟩
    have : ((n : Nat) : Int) = ((l : Nat) : Int) := V.int.inj e
    rw [show n = l by omega]
theorem ok_xn (T : TxXn K mg) : FnOk P w K mg base CX0 5 T.no.f T.no.fd ["self", "told"] (spXN T.X.C) := by
  have GA : FnOk P w K mg base CX0 4 T.X.an.f T.X.an.fd ["self", "held", "told"] (spXA T.X.C) := ok_xa T.X
  refine T.no.F.ok scXN (fun vs H Q E h => ?_) (fun cdv A outer s H vs Q E hr h => ?_)
  · obtain ⟨o, _, _, _, _, _, _, _, _, _, _, _, _, _, _, _, rfl, _⟩ := h
    rfl
  · obtain ⟨o, dx, ro, eo, p, ak, sz, held0, told0, told, x, st, rs, es, kk, cc, rfl, hX, hRo, hEo, l1, l2, z1, z2, few, hk, hc, k⟩ := h
    refine ⟨_, (pss_cons (ps_set (i := 2) scXN.nd rfl (.inl rfl) (pe_un un_neg pe_int)) (pss_one (ps_while PassesOwn.never (PW.pt (pw_and (pt_not (pt_val (pe_fld (pv 0) rfl))) (pw_and1 (pt_cmpR op_ne (pe_callB call_len_seq (by rfl) T.X.len PySem.boot_len (pa_cons (pe_fld (pv 0) rfl) pa_nil)) (pv 2) (nomark _))))) (pss_cons (ps_set (i := 2) scXN.nd rfl (.inl rfl) (pe_callB call_len_seq (by rfl) T.X.len PySem.boot_len (pa_cons (pe_fld (pv 0) rfl) pa_nil))) (pss_one (ps_expr (pe_meth (pv 0) T.X.cl T.X.an.m GA hr T.X.an.b .nil pass0 (pa_cons (pe_tup pa_nil) (pa_cons (pv 1) pa_nil))))))))), ?_⟩
    refine ⟨_, rfl, ?_⟩
    refine ⟨fun m σ H' => ∃ (mo : Option Nat) (s : WS) (held' : List Int) (told' : Bool), σ = [some (.ref o), some (.bl told), some (manyV mo)] ∧ Off2 o p H H' ∧ ExAt T.X.C H' o dx ro eo p s.ak sz held' told' s.x s.st ∧ noS sz rs es told m mo s = noS sz rs es told 4 none ⟨x, ak, st⟩ ∧ m ≤ 4 ∧ 1 ≤ m ∧ (s.st = false → rk sz s.x.rest.length + 1 + (if some s.x.rest.length = mo then 0 else 1) ≤ m) ∧ Few sz (kk + 18 * (4 - m)) (cc + (4 - m) * 37800) s.x, ⟨4, none, ⟨x, ak, st⟩, held0, told0, rfl, Off2.refl, hX, rfl, Nat.le_refl _, by decide, fun _ => ?_, by simpa using few⟩, ?_⟩
    · have := rk_le sz x.rest.length
      rw [if_neg (by intro z; cases z)]
      show rk sz x.rest.length + 1 + 1 ≤ 4
      omega
    · rintro m σ H1 ⟨mo, s', held', told', rfl, o1, X1, en, m4, m1, hm, fw⟩
      obtain ⟨h0, r0, vs0, e0, _, hr0, _⟩ := id X1.ex
      refine ⟨_, rfl, o, T.X.C, dx, _, _, rfl, e0, T.X.cl, T.X.nSt, xf_st .., _, rfl, ?_⟩
      obtain ⟨m, rfl⟩ : ∃ n, m = n + 1 := ⟨m - 1, by omega⟩
      have out : (s'.st = true ∨ some s'.x.rest.length = mo) → Q .non H1 := fun hd => by
        have es' : noS sz rs es told (m + 1) mo s' = s' := by
          show (if s'.st = true then s' else if some s'.x.rest.length = mo then s' else _) = s'
          rcases hd with hd | hd
          · rw [if_pos hd]
          · by_cases c : s'.st = true
            · rw [if_pos c]
            · rw [if_neg c, if_pos hd]
        rw [es'] at en
        refine k H1 held' told' o1 ?_
        rw [← en]
        exact X1
      cases hst : s'.st with
      | true => exact iteF (iteF (out (.inl hst)))
      | false =>
        refine iteT ?_
        refine ⟨_, rfl, o, T.X.C, dx, _, _, rfl, e0, T.X.cl, T.X.nR, xf_r .., r0, _, rfl, .inr (SqT.of hr0), ?_⟩
        rw [ivs_len]
        refine ⟨_, rfl, scal_many _ mo, _, rfl, ?_⟩
        rw [many_ne]
        by_cases hq : some s'.x.rest.length = mo
        · rw [decide_eq_true hq]
          exact iteF (out (.inr hq))
        · rw [decide_eq_false hq]
          refine iteT ?_
          have hm := hm hst
          rw [if_neg hq] at hm
          refine ⟨fun σ' H' => ∃ (mo : Option Nat) (s : WS) (held' : List Int) (told' : Bool), σ' = [some (.ref o), some (.bl told), some (manyV mo)] ∧ Off2 o p H H' ∧ ExAt T.X.C H' o dx ro eo p s.ak sz held' told' s.x s.st ∧ noS sz rs es told m mo s = noS sz rs es told 4 none ⟨x, ak, st⟩ ∧ m ≤ 4 ∧ 1 ≤ m ∧ (s.st = false → rk sz s.x.rest.length + 1 + (if some s.x.rest.length = mo then 0 else 1) ≤ m) ∧ Few sz (kk + 18 * (4 - m)) (cc + (4 - m) * 37800) s.x, fun σ' H' q => ⟨m, Nat.lt_succ_self m, q⟩, ?_⟩
          refine ⟨_, rfl, o, T.X.C, dx, _, _, rfl, e0, T.X.cl, T.X.nR, xf_r .., r0, _, rfl, .inr (SqT.of hr0), ?_⟩
          rw [ivs_len]
          refine ⟨_, rfl, o, dx, _, rfl, e0, (xf_noA ..).1, Nat.zero_le _, fun t nt => ⟨_, rfl, ?_⟩⟩
          have s2 : Same H1 (upd H1 t (.tup [])) := same_new nt
          have X2 := X1.same s2
          rw [hst] at X2
          have ts2 : TS H (upd H1 t (.tup [])) := fun q xs e => s2 _ _ (o1.ts hX _ _ e)
          refine ⟨o, dx, ro, eo, p, t, s'.ak, sz, held', [], told', told, s'.x, rs, es, kk + 18 * (4 - (m + 1)), cc + (4 - (m + 1)) * 37800, rfl, X2, upd_same, hRo.ts ts2, hEo.ts ts2, l1, l2, ⟨z1, z2, Nat.zero_le _, by omega, by omega, fw⟩, by omega, by omega, fun H3 o3 X3 => ?_⟩
          have fa := few_ans (ro := rs) (eo := es) (held := []) (told := told) z1 (Nat.zero_le _) l1 l2 fw
          refine ⟨some s'.x.rest.length, ansS sz rs es [] told s', [], told, rfl, (o1.same s2).trans o3, X3, ?_, by omega, by omega, fun ca => ?_, fa.mono (by omega) ?_⟩
          · rw [← en]
            show _ = (if s'.st = true then s' else if some s'.x.rest.length = mo then s' else _)
            rw [if_neg (by rw [hst]; decide), if_neg hq]
          · rcases rk_down z1 (no_rest ca) with y | y
            · rw [show (ansS sz rs es [] told s').x.rest.length = s'.x.rest.length from y, if_pos rfl]
              omega
            · have y' : rk sz (ansS sz rs es [] told s').x.rest.length < rk sz s'.x.rest.length := y
              split <;> omega
          · have b1 : 18 * (kk + 18 * (4 - (m + 1)) + 18) ≤ 37800 := by omega
            omega
end
end My

/-! sum of a tuple of ints, a tuple times any count, xs += ys of lists -/
namespace RwR
open PySem PySem.Spec PyProof.Rows L2 Cm
section
variable {prog : Program} {w : World} {A : Around} {E : Value → Shared → Prop} {s : Shared} {l : Addr} {xs : Array (Int × Tok)}
theorem sum_intTupG {Q : Value → Shared → Prop} (hh : A.handled = none) (hl : s.heap.IsTuple l (intItems xs))
    (h : ∀ h' tk t', (∀ b o, s.heap.get? b = some o → h'.get? b = some o) → Q (.int (preSum (numAt xs) xs.size) t') { s with heap := h', toks := tk }) :
    wpAny (model prog w) A (call (.builtin "sum") [.ref l]) Q E s := by
  have hlt : l < s.heap.objs.size := by obtain ⟨_, e, _⟩ := hl; exact Heap.lt_size e
  refine call_sum_walkG (wpAny_pyIter_tuple hl ?_)
  refine ⟨_, [_, l], [_], _, _, _, numAt xs, rfl, Walks.tuple (A := A.in1) hh _ l (Nat.ne_of_lt hlt) (intItems xs), ⟨⟨_, Heap.get?_push_size _ rfl, rfl, rfl⟩, hl.push _⟩, fun c hc => ?_, (fun _ _ => intItems_at), fun h' tk t' hk => ?_⟩
  · show c < (s.heap.push _).objs.size
    rw [Heap.size_push]
    rcases List.mem_cons.mp hc with rfl | hc
    · exact Nat.lt_succ_self _
    · rcases List.mem_cons.mp hc with rfl | hc
      · exact Nat.lt_succ_of_lt hlt
      · cases hc
  · have hold : ∀ b o, s.heap.get? b = some o → h'.get? b = some o := fun b o e => by
      refine hk b o (fun hm => ?_) (Heap.get?_push_of_some _ e)
      rcases List.mem_cons.mp hm with e1 | hm
      · exact absurd (e1 ▸ Heap.lt_size e) (Nat.lt_irrefl _)
      · cases hm
    have := h h' tk t' hold
    simpa [intItems] using this
end
section
variable {X : Cx}
/-- sum(t) -/
def rSumT (K : PySem.W.Frag) : List V → Hp → VK → Prop := fun vs H Q => ∃ (a : Addr) (ns : List Int), vs = [V.ref a] ∧ SqT K H a (ns.map V.int) ∧ Q (.int ns.sum) H
theorem cr_sumT (hc : X.calm = true) : CallR X (.builtin "sum") (rSumT X.K) := by
  intro pins s σ H vs us Q I r h
  obtain ⟨a, ns, rfl, hs, q⟩ := h
  obtain ⟨its, rv, hl, _⟩ := I.tuple hs
  rw [Vals.ref1 r]
  have hi := rv.ints
  obtain ⟨xs, e⟩ := hi.allInts.items
  have hn : numsOf (intItems xs).toList = ns := by rw [← e]; exact hi.numsOf
  rw [nums_intItems] at hn
  rw [e] at hl
  refine sum_intTupG (I.ok.hd hc) hl fun h' tk t' hk => ?_
  rw [preSum_eq, List.take_of_length_le (by simp), hn]
  exact ⟨.int _, H, I.kept hk, ⟨_, rfl⟩, q⟩
/-- xs += ys -/
def rIadd : V → V → Hp → VK → Prop := fun x y H Q => ∃ l b xs zs, x = .ref l ∧ y = .ref b ∧ H l = some (.lst xs) ∧ H b = some (.lst zs) ∧ xs.length + zs.length ≤ sizeLine ∧ Q (.ref l) (upd H l (.lst (xs ++ zs)))
theorem ip_iadd : PIp X .Add rIadd := by
  intro pins s σ H x y v u Q I rx ry h
  obtain ⟨l, b, xs, zs, rfl, rfl, hH, hB, hz, q⟩ := h
  cases rx
  cases ry
  obtain ⟨z, its, n, r, hl, e⟩ := I.lstM hH
  obtain ⟨z2, its2, n2, r2, hl2, e2⟩ := I.lstM hB
  have hsz : its.toArray.size + its2.toArray.size ≤ sizeLine := by rw [List.size_toArray, List.size_toArray]; omega
  have hlong : ¬ (!its.toArray.isEmpty && Builtin.List.listTooLong (its.toArray.size + its2.toArray.size)) = true := by
    rw [notLongL hsz, Bool.and_false]
    exact Bool.false_ne_true
  have ta : s.TypeIs (.ref l) "list" := ⟨_, e, rfl⟩
  have tb : s.TypeIs (.ref b) "list" := ⟨_, e2, rfl⟩
  have hseq : isSeqSlot (some (.builtin "list.__iadd__")) = true := by decide +kernel
  have hfi : fillsInplaceSlot (.type "list") "add" (Operator.Add == .Add) = pure false := by
    unfold fillsInplaceSlot
    show (typeLookup (.type "list") (dunderI "add") >>= fun fi => pure (fi.isSome && !isSeqSlot fi)) = pure false
    rw [PySem.F.slot_list_iadd.lookup]
    show (pure (true && !isSeqSlot (some (.builtin "list.__iadd__"))) : Sem Bool) = pure false
    rw [hseq]
    rfl
  unfold inplaceOp
  refine wpAny_holding ?_
  refine wpAny_bind (wpAny_typeOf ta (wpAny_bind (wpAny_of_eq hfi ?_)))
  show wpAny _ _ (if false = true then _ else _) _ _ s
  rw [if_neg Bool.false_ne_true]
  refine wpAny_bind (PyProof.Rows.binaryOp1_none (nm := "add") ta tb PySem.noFill_list_add ?_)
  refine wpAny_bind (wpAny_of_eq (PySem.seqSlot_of (T := "list") (name := dunderI "add") (id := "list.__iadd__") PySem.F.slot_list_iadd.lookup hseq) ?_)
  refine wpAny_bind (wpAny_rule (call_meets PySem.F.slot_list_iadd ta PySem.F.entry_list_iadd (PySem.F.args_list_iadd_2 _ _)
    (AutoSeq1.list___iadd___list_list_0 l its.toArray n b its2.toArray n2 hlong (by rw [List.size_toArray]; omega) (by omega)) ⟨e, e2, ?_⟩))
  refine ⟨.ref l, _, I.lset (its' := its ++ its2) hH e (by simp) (r.append r2) ?_, rfl, q⟩
  rw [List.length_append]
  omega
/-- a tuple times any count -/
theorem tuple_mul_same (l : Addr) (items : Array Value) (n : Nat) (dd : Option Addr) (sl : Array (Option Value)) (x : Int) (u : Tok) (c0 : (decide (x < -(2 ^ 63)) || decide (x ≥ 2 ^ 63)) = false) (c1 : (items.isEmpty || x == 1) = true) :
    Meets (Builtin.«tuple.__mul__» ⟨[.ref l, .int x u], []⟩) (fun _ R s => s.heap.get? l = some { cls := .type "tuple", dict := dd, data := .seq items n, slots := sl } ∧ R (.ok (.ret (Value.ref l))) s) :=
  .of_wp fun prog w A R s h => by
    obtain ⟨hp, g, d, tk, os⟩ := s
    obtain ⟨hl, h⟩ := h
    have f1 := AutoSeq1.idx_int
    wp_walk using wpAny_loadPart' hl
    repeat (first
      | (refine wpAny_ite_false (decide_eq_false (by rw [c0]; exact Bool.false_ne_true)) ?_; wp_walk using wpAny_loadPart' hl)
      | (refine wpAny_ite_true (decide_eq_true c1) ?_; wp_walk using wpAny_loadPart' hl))
    exact ⟨_, rfl, h⟩
theorem tuple_mul_none (l : Addr) (items : Array Value) (n : Nat) (dd : Option Addr) (sl : Array (Option Value)) (x : Int) (u : Tok) (c0 : (decide (x < -(2 ^ 63)) || decide (x ≥ 2 ^ 63)) = false) (c1 : (items.isEmpty || x == 1) = false) (c2 : (decide (x ≤ 0) || items.isEmpty) = true) :
    Meets (Builtin.«tuple.__mul__» ⟨[.ref l, .int x u], []⟩) (fun _ R s => s.heap.get? l = some { cls := .type "tuple", dict := dd, data := .seq items n, slots := sl } ∧
      R (.ok (.ret (Value.ref s.heap.objs.size))) { s with heap := s.heap.push { cls := Value.type "tuple", data := Data.seq #[] }, toks := s.toks }) :=
  .of_wp fun prog w A R s h => by
    obtain ⟨hp, g, d, tk, os⟩ := s
    obtain ⟨hl, h⟩ := h
    have f1 := AutoSeq1.idx_int
    wp_walk using wpAny_loadPart' hl
    repeat (first
      | (refine wpAny_ite_false (decide_eq_false (by rw [c0]; exact Bool.false_ne_true)) ?_; wp_walk using wpAny_loadPart' hl)
      | (refine wpAny_ite_false (decide_eq_false (by rw [c1]; exact Bool.false_ne_true)) ?_; wp_walk using wpAny_loadPart' hl)
      | (refine wpAny_ite_true (decide_eq_true c2) ?_; wp_walk using wpAny_loadPart' hl)
      | (refine wpAny_ite_false (decide_eq_false (by decide)) ?_; wp_walk using wpAny_loadPart' hl))
    exact ⟨_, rfl, h⟩
def rRepN : R2 := fun x y H Q => ∃ (l : Addr) (k : Nat) (xs : List V), x = .ref l ∧ y = .int k ∧ H l = some (.tup xs) ∧ k < 2 ^ 62 ∧ xs.length ≤ 1000 ∧ (xs ≠ [] → k ≤ 1000) ∧ ∀ (H' : Hp) (q : Addr), Same H H' → H' q = some (.tup (List.replicate k xs).flatten) → Q (.ref q) H'
theorem flat_nil : ∀ k, (List.replicate k ([] : List V)).flatten = []
  | 0 => rfl
  | k + 1 => by rw [List.replicate_succ, List.flatten_cons, flat_nil k]; rfl
theorem op_repN : OpR X (binaryOp .Mult) rRepN := by
  intro pins s σ H x y v u Q I rx ry h
  obtain ⟨l, k, xs, rfl, rfl, hT, hk, hx, hl, q⟩ := h
  by_cases hne : xs ≠ [] ∧ 2 ≤ k
  · refine op_repT pins s σ H _ _ v u Q I rx ry ⟨l, k, xs, rfl, rfl, SqT.of hT, hne.1, by omega, by have := hl hne.1; omega, hx, fun p np => ?_⟩
    rw [Int.toNat_natCast]
    exact q _ p (same_new np) upd_same
  cases rx
  obtain ⟨t, rfl⟩ := ry
  obtain ⟨its, r, ⟨⟨cls, dd, data, sl⟩, ho, hc, n, hd⟩, hs⟩ := I.tuple (SqT.of hT)
  simp only at hc hd
  subst hc hd
  have hle : its.length = xs.length := r.length.symm
  have c0 : (decide ((k : Int) < -(2 ^ 63)) || decide ((k : Int) ≥ 2 ^ 63)) = false := by
    rw [decide_eq_false (by omega), decide_eq_false (by omega)]
    rfl
  by_cases hs1 : xs = [] ∨ k = 1
  · have c1 : (its.toArray.isEmpty || (k : Int) == 1) = true := by
      rcases hs1 with e | e
      · have : its = [] := List.eq_nil_of_length_eq_zero (by rw [hle, e]; rfl)
        rw [this]
        rfl
      · rw [e]
        simp
    refine wpAny_binaryOp_repeat_ref (T := "tuple") (U := "int") (by decide) ⟨_, ho, rfl⟩ (fun s' => typeIs_int s' k t) noFill_tuple_mul F.fills_int_mul F.slot_int_rmul repeat_tuple F.slot_int_index.lookup
      (call_meets F.slot_int_rmul (typeIs_int s k t) F.entry_int_rmul (F.args_int_rmul_2 _ _) (int_rmul_tuple k t l its.toArray n dd sl)
        ⟨ho, rfl, ⟨_, ho, rfl⟩, call_meets F.slot_tuple_mul ⟨_, ho, rfl⟩ F.entry_tuple_mul (F.args_tuple_mul_2 _ _) (tuple_mul_same l its.toArray n dd sl k t c0 c1) ⟨ho, ?_⟩⟩)
    refine ⟨.ref l, H, I, rfl, q H l (Same.refl _) ?_⟩
    rw [hT]
    rcases hs1 with e | e
    · rw [e, flat_nil]
    · rw [e]
      simp
  · have hx0 : xs ≠ [] := fun e => hs1 (.inl e)
    have k0 : k = 0 := by
      have : ¬ 2 ≤ k := fun e => hne ⟨hx0, e⟩
      have : k ≠ 1 := fun e => hs1 (.inr e)
      omega
    subst k0
    have hi : its.toArray.isEmpty = false := by
      cases its with
      | nil => exact absurd (List.eq_nil_of_length_eq_zero hle.symm) hx0
      | cons a b => rfl
    refine wpAny_binaryOp_repeat_ref (T := "tuple") (U := "int") (by decide) ⟨_, ho, rfl⟩ (fun s' => typeIs_int s' _ t) noFill_tuple_mul F.fills_int_mul F.slot_int_rmul repeat_tuple F.slot_int_index.lookup
      (call_meets F.slot_int_rmul (typeIs_int s _ t) F.entry_int_rmul (F.args_int_rmul_2 _ _) (int_rmul_tuple _ t l its.toArray n dd sl)
        ⟨ho, rfl, ⟨_, ho, rfl⟩, call_meets F.slot_tuple_mul ⟨_, ho, rfl⟩ F.entry_tuple_mul (F.args_tuple_mul_2 _ _) (tuple_mul_none l its.toArray n dd sl _ t c0 (by rw [hi]; rfl) rfl) ⟨ho, ?_⟩⟩)
    refine ⟨.ref s.heap.objs.size, _, I.laid (t' := s.toks) (o := .tup []) (fun b ob q => Heap.get?_push_of_some _ q) (Nat.le_refl _) ?_, rfl, q _ _ (same_new (I.hok.fresh (Nat.le_refl _))) upd_same⟩
    exact ⟨Nat.zero_le _, [], .nil, IsTup.new _ _⟩
end
end RwR
namespace RwR
open PySem PySem.Spec PyProof.Rows L2
section
variable {X : Cx} {d : Addr} {es : Array DictEntry} {n : Nat}
/-- d[key] of a dict of the module -/
theorem ix_kd (D : KDict X.K X.w d es n) : IxR X (fun x y H Q => ∃ (z : Str) (u0 : Value) (v0 : V), x = .ref d ∧ y = .str z ∧ PySem.W.nsIn X.K d z = some (some u0) ∧ RelV v0 u0 ∧ Q v0 H) := by
  intro value slice pins s σ H x y v u Q I rx ry h hs
  obtain ⟨z, u0, v0, rfl, rfl, e, r, q⟩ := h
  cases rx
  obtain ⟨t, rfl⟩ := ry
  refine tail_any (kd_type D I) PySem.F.slot_dict_getitem.lookup ?_ hs
  exact wpAny_getItem_of (PySem.strKind_is X.prog X.w z t) (PySem.W.mapOf_K (prog := X.prog) I.kIn D.at_ D.lit) (PySem.W.find_K D.at_ e) ⟨v0, H, I.tok _, r, q⟩
end
end RwR
namespace RwR
open PySem PySem.Spec PyProof.Rows L2
/-- a call of a local name that holds one of several defs of one row of parameters -/
def tCallI {ι : Type} (i : Nat) (fs : ι → Addr) (sps : ι → Sp) (E : XK) (t : TA) : TE := fun σ H Q => ∃ a : ι, σ[i]? = some (some (.ref (fs a))) ∧ t σ H fun vs H1 => sps a vs H1 Q E
theorem pe_callI {X : Cx} {ι : Type} {CX : CXT} {k i : Nat} {fs : ι → Addr} {fds : ι → FuncData} {ps : List Str} {sps : ι → Sp} {E : XK} {x : Str} {p pos : Pos} {e : Expr} {es : List Expr} {t : TA}
    (F : ∀ a, FnOk X.prog X.w X.K X.mg X.base CX k (fs a) (fds a) ps (sps a)) (hr : Room k X.A) (hN : X.N[i]? = some x) (hv : Vis X.env.scope x) (hk : ∀ a, PySem.W.keepIn X.K (.ref (fs a)) = true) (hb : ∀ a, Binds X.K (fds a) ps []) (hx : Passes CX X E) (ha : PA X (e :: es) t)
    (hdb : (x == ("__debug__" : Str)) = false := by decide) (hcd : (x == ("__classdict__" : Str)) = false := by decide)
    (he : starEach (e :: es) X.env = (false, eval e X.env) :: starEach es X.env := by rfl) (hpl : (backTo pos (starEach es X.env)).any (·.1) = false := by rfl) : PE X (.Call (.Name x p) (e :: es) [] pos) (tCallI i fs sps E t) := by
  refine ⟨fun pins s σ H Q I h => ?_⟩
  obtain ⟨a, hs, ht⟩ := h
  refine (pe_callL (i := i) (f := fs a) (sp := sps a) (dvs := []) (E := E) (F a) hr hN hv (hk a) (hb a) .nil hx ha hdb hcd he hpl).run pins s σ H Q I ⟨hs, ?_⟩
  have e0 : (fun (vs : List V) (H1 : Hp) => sps a (vs ++ []) H1 Q E) = fun vs H1 => sps a vs H1 Q E := by
    funext vs H1
    rw [List.append_nil]
  rw [e0]
  exact ht
end RwR

/-! a dict of the module with text keys: what it has not -/
namespace CD
open PySem L2
theorem no_key {P : Params} {z : Str} : ∀ {l : List DictEntry} {ks : List Str}, l.map He.keyOf = He.keysIn P ks → z ∉ ks → l.find? (·.key.isStr z) = none ∧ l.any (·.refKey) = false
  | [], _, _, _ => ⟨rfl, rfl⟩
  | e :: r, [], h, _ => by cases h
  | e :: r, k :: ks, h, hz => by
    have h1 : He.keyOf e :: r.map He.keyOf = some (k, PyData.keyHash P k) :: He.keysIn P ks := h
    injection h1 with h2 h3
    obtain ⟨a, b⟩ := no_key (z := z) h3 fun q => hz (List.mem_cons_of_mem _ q)
    unfold He.keyOf at h2
    split at h2
    · rename_i x t q
      obtain ⟨h5, h6⟩ := Prod.mk.inj (Option.some.inj h2)
      have ne : x ≠ z := fun q => hz (by rw [← q, h5]; exact List.mem_cons_self ..)
      have e1 : e.key.isStr z = false := by
        rw [q, PySem.W.isStr_of]
        show (x == z) = false
        exact beq_eq_false_iff_ne.mpr ne
      have e2 : e.refKey = false := by
        unfold PySem.DictEntry.refKey
        rw [q]
      rw [List.find?_cons, e1, List.any_cons, e2]
      exact ⟨a, by rw [b]; rfl⟩
    · cases h2
theorem dic_no {K : PySem.W.Frag} {P : Params} {a : Addr} {ks : List Str} (h : He.dicW K a = some (He.keysIn P ks)) {z : Str} (hz : z ∉ ks) : PySem.W.nsIn K a z = some none := by
  unfold He.dicW at h
  unfold PySem.W.nsIn
  cases q : K.lookup a with
  | none => rw [q] at h; cases h
  | some o =>
    obtain ⟨oc, od, dt, osl⟩ := o
    rw [q] at h
    cases oc with
    | type c =>
      cases od with
      | none =>
        cases dt with
        | dict es n =>
          have h1 : (match decide (c = "dict") && (osl.isEmpty && !(a == sysModules)) with
              | true => some (es.toList.map He.keyOf)
              | false => none) = some (He.keysIn P ks) := h
          split at h1
          · obtain ⟨e1, e2⟩ := no_key (Option.some.inj h1) hz
            show (match es.toList.find? (·.key.isStr z) with
              | some e => some (some e.val)
              | none => if es.toList.any (·.refKey) then none else some none) = _
            rw [e1, e2]
            rfl
          · cases h1
        | _ => cases h
      | some _ => cases h
    | _ => cases h
end CD

/-! shown data as data: code points, lengths -/
namespace SkT
open PySem
theorem ok_of (s : String) : PyData.strOk (Str.ofString s) = true := by
  unfold PyData.strOk
  rw [Str.ofString_eq_toList, List.all_toArray, List.all_eq_true]
  intro n hn
  obtain ⟨c, _, rfl⟩ := List.mem_map.mp hn
  refine decide_eq_true ?_
  have := c.valid
  unfold Char.toNat
  rcases this with h | h
  · exact Nat.lt_trans h (by decide)
  · exact h.2
theorem ok_app {a b : Str} (h1 : PyData.strOk a = true) (h2 : PyData.strOk b = true) : PyData.strOk (a ++ b) = true := by
  unfold PyData.strOk at h1 h2 ⊢
  show (a.cps ++ b.cps).all _ = true
  rw [Array.all_append, h1, h2]
  rfl
theorem ok_join {sep : Str} (hs : PyData.strOk sep = true) : ∀ {ts : List Str}, (∀ t ∈ ts, PyData.strOk t = true) → PyData.strOk (Str.join sep ts) = true
  | [], _ => (by decide +kernel : PyData.strOk Str.empty = true)
  | [x], h => h x List.mem_cons_self
  | x :: y :: r, h => ok_app (ok_app (h x List.mem_cons_self) hs) (ok_join hs fun t ht => h t (List.mem_cons_of_mem _ ht))
theorem ok_from : ∀ {ts : List Str} {k : Nat} {acc : Str}, PyData.strOk acc = true → (∀ t ∈ ts, PyData.strOk t = true) → PyData.strOk (textFrom k acc ts) = true
  | [], _, _, ha, _ => ha
  | t :: r, k, acc, ha, h => by
    rw [textFrom]
    exact ok_from (ok_app (ok_app ha (ok_of _)) (h t List.mem_cons_self)) fun x hx => h x (List.mem_cons_of_mem _ hx)
theorem ok_list {ts : List Str} (h : ∀ t ∈ ts, PyData.strOk t = true) : PyData.strOk (listText ts) = true := ok_app (ok_from (ok_of _) h) (ok_of _)
theorem ok_tup {ts : List Str} (h : ∀ t ∈ ts, PyData.strOk t = true) : PyData.strOk (tupleText ts) = true := ok_app (ok_app (ok_of _) (ok_join (ok_of _) h)) (ok_of _)
theorem join_le : ∀ ts : List Str, (Str.join ", " ts).length ≤ (ts.map fun t => t.length + 2).sum
  | [] => Nat.le_refl _
  | [x] => by
    show x.length ≤ _
    simp
  | x :: y :: r => by
    show (x ++ ", " ++ Str.join ", " (y :: r)).length ≤ _
    rw [strLen_append, strLen_append, show (", " : Str).length = 2 by decide +kernel]
    have := join_le (y :: r)
    rw [List.map_cons, List.sum_cons]
    omega
theorem tup_le (ts : List Str) : (tupleText ts).length ≤ (ts.map fun t => t.length + 2).sum + 3 := by
  unfold tupleText
  rw [strLen_append, strLen_append, show ("(" : Str).length = 1 by decide +kernel]
  have := join_le ts
  have : (Str.ofString (if ts.length == 1 then ",)" else ")" : String)).length ≤ 2 := by
    split
    · decide +kernel
    · decide +kernel
  omega
theorem from_le : ∀ (ts : List Str) (k : Nat) (acc : Str), (textFrom k acc ts).length ≤ acc.length + (ts.map fun t => t.length + 2).sum
  | [], _, _ => by simp [textFrom]
  | t :: r, k, acc => by
    rw [textFrom]
    have ih := from_le r (k + 1) (acc ++ (if k > 0 then ", " else "" : String) ++ t)
    rw [strLen_append, strLen_append] at ih
    have : (Str.ofString (if k > 0 then ", " else "" : String)).length ≤ 2 := by
      split
      · decide +kernel
      · decide +kernel
    rw [List.map_cons, List.sum_cons]
    omega
theorem list_le (ts : List Str) : (listText ts).length ≤ (ts.map fun t => t.length + 2).sum + 2 := by
  unfold listText
  rw [strLen_append, show ("]" : Str).length = 1 by decide +kernel]
  have := from_le ts 0 "["
  rw [show ("[" : Str).length = 1 by decide +kernel] at this
  omega
/-- data that can be shown; n bounds its text, k its depth -/
structure Sw (n k : Nat) (d : PyData) : Prop where
  sh : d.showable = true
  dp : d.depth ≤ k
  ln : d.shown.length ≤ n
  ok : PyData.strOk d.shown = true
theorem Sw.mono {n m k j : Nat} {d : PyData} (h : Sw n k d) (a : n ≤ m) (b : k ≤ j) : Sw m j d := ⟨h.sh, Nat.le_trans h.dp b, Nat.le_trans h.ln a, h.ok⟩
theorem sw_all {n k : Nat} : ∀ {ds : List PyData}, (∀ x ∈ ds, Sw n k x) → PyData.showableAll ds = true ∧ PyData.depthAll ds ≤ k ∧ ((PyData.shownAll ds).map fun t => t.length + 2).sum ≤ (n + 2) * ds.length ∧ ∀ t ∈ PyData.shownAll ds, PyData.strOk t = true
  | [], _ => ⟨rfl, by simp [PyData.depthAll], by simp [PyData.shownAll], fun t h => by simp [PyData.shownAll] at h⟩
  | d :: r, h => by
    obtain ⟨a, b, c, e⟩ := sw_all (ds := r) fun x hx => h x (List.mem_cons_of_mem _ hx)
    have hd := h d List.mem_cons_self
    refine ⟨?_, ?_, ?_, ?_⟩
    · rw [PyData.showableAll, a, hd.sh]; rfl
    · rw [PyData.depthAll]; exact Nat.max_le.mpr ⟨hd.dp, b⟩
    · rw [PyData.shownAll, List.map_cons, List.sum_cons, List.length_cons, Nat.mul_succ]
      have := hd.ln
      omega
    · intro t ht
      rw [PyData.shownAll] at ht
      rcases List.mem_cons.mp ht with rfl | z
      · exact hd.ok
      · exact e t z
theorem sw_tup {n k : Nat} {ds : List PyData} (h : ∀ x ∈ ds, Sw n k x) : Sw ((n + 2) * ds.length + 3) (k + 1) (.tuple ds) := by
  obtain ⟨a, b, c, e⟩ := sw_all h
  refine ⟨by rw [PyData.showable]; exact a, by rw [PyData.depth]; omega, ?_, ?_⟩
  · rw [PyData.shown]
    exact Nat.le_trans (tup_le _) (by omega)
  · rw [PyData.shown]
    exact ok_tup e
theorem sw_lst {n k : Nat} {ds : List PyData} (h : ∀ x ∈ ds, Sw n k x) : Sw ((n + 2) * ds.length + 2) (k + 1) (.list ds) := by
  obtain ⟨a, b, c, e⟩ := sw_all h
  refine ⟨by rw [PyData.showable]; exact a, by rw [PyData.depth]; omega, ?_, ?_⟩
  · rw [PyData.shown]
    exact Nat.le_trans (list_le _) (by omega)
  · rw [PyData.shown]
    exact ok_list e
theorem log_nat {n : Nat} (h : n < 10 ^ 20) : (n : Nat).log2 < 1920 := by
  by_cases h0 : n = 0
  · rw [h0]; decide
  · exact Nat.lt_of_lt_of_le ((Nat.log2_lt h0).mpr (Nat.lt_of_lt_of_le h (show 10 ^ 20 ≤ 2 ^ 70 by decide))) (by decide)
theorem sw_int {i : Int} {n : Nat} (h : i.natAbs < 10 ^ 20) (hl : (PyData.shown (.int i)).length ≤ n) : Sw n 0 (.int i) := ⟨by simp only [PyData.showable, decide_eq_true_eq]; exact log_nat h, by simp [PyData.depth], hl, ok_of _⟩
theorem sw_bl (b : Bool) : Sw 5 0 (.bool b) := by cases b <;> exact ⟨rfl, by simp [PyData.depth], by decide +kernel, by decide +kernel⟩
theorem sw_non : Sw 4 0 .none := ⟨rfl, by simp [PyData.depth], by decide +kernel, by decide +kernel⟩
/-- two rows of two words as data -/
theorem shaped2 {a b : Str} (h1 : PyData.strOk a = true) (h2 : PyData.strOk b = true) : SeqAt.shaped (.list [.str a, .str b]) = true := by
  unfold SeqAt.shaped
  simp [PyData.canLay0, PyData.canLayAll0, h1, h2, PyData.depth, PyData.depthAll]
theorem shaped3 {a b : Str} {c : Bool} (h1 : PyData.strOk a = true) (h2 : PyData.strOk b = true) : SeqAt.shaped (.list [.str a, .str b, .bool c]) = true := by
  unfold SeqAt.shaped
  simp [PyData.canLay0, PyData.canLayAll0, h1, h2, PyData.depth, PyData.depthAll]
end SkT

/-! repr of any plain data, also behind a caught error; the types of plain data; slices of lists of counts -/
namespace RpA
open PySem L2 Gd
theorem ext_same {H H' : Hp} (s : Same H H') : LamX.ExtN H H' := fun b o e _ => s b o e
mutual
theorem dq_ext {H H' : Hp} (s : LamX.ExtN H H') : ∀ {v : V} {d : PyData}, Dq H v d → Dq H' v d
  | _, _, .non => .non
  | _, _, .bl b => .bl b
  | _, _, .int i => .int i
  | _, _, .str x => .str x
  | _, _, .lst ha hd => .lst (s _ _ ha (by intro ps z; cases z)) (dqa_ext s hd)
  | _, _, .tup ha hd => .tup (s _ _ ha (by intro ps z; cases z)) (dqa_ext s hd)
  | _, _, .dct ha => .dct (s _ _ ha (by intro ps z; cases z))
theorem dqa_ext {H H' : Hp} (s : LamX.ExtN H H') : ∀ {vs : List V} {ds : List PyData}, DqA H vs ds → DqA H' vs ds
  | _, _, .nil => .nil
  | _, _, .cons a b => .cons (dq_ext s a) (dqa_ext s b)
end
theorem dqa_app {H : Hp} : ∀ {vs ws : List V} {ds es : List PyData}, DqA H vs ds → DqA H ws es → DqA H (vs ++ ws) (ds ++ es)
  | _, _, _, _, .nil, b => b
  | _, _, _, _, .cons a t, b => .cons a (dqa_app t b)
theorem dqa_len {H : Hp} : ∀ {vs : List V} {ds : List PyData}, DqA H vs ds → vs.length = ds.length
  | _, _, .nil => rfl
  | _, _, .cons _ t => by rw [List.length_cons, List.length_cons, dqa_len t]
theorem dqa_mem {H : Hp} : ∀ {vs : List V} {ds : List PyData}, DqA H vs ds → ∀ x ∈ vs, ∃ d ∈ ds, Dq H x d
  | _, _, .nil, _, h => nomatch h
  | _, _, .cons a t, x, h => by
    rcases List.mem_cons.mp h with rfl | z
    · exact ⟨_, List.mem_cons_self, a⟩
    · obtain ⟨d, m, q⟩ := dqa_mem t x z
      exact ⟨d, List.mem_cons_of_mem _ m, q⟩
/-- the name of the type -/
def tyN : PyData → String
  | .none => "NoneType"
  | .bool _ => "bool"
  | .int _ => "int"
  | .str _ => "str"
  | .list _ => "list"
  | .tuple _ => "tuple"
  | .dict _ => "dict"
theorem dq_ty {K : PySem.W.Frag} {H : Hp} {v : V} {d : PyData} (q : Dq H v d) : TyX K H v (.type (tyN d)) := by
  cases q with
  | non => exact .base .non
  | bl b => exact .base (.bl b)
  | int i => exact .base (.int i)
  | str x => exact .base (.str x)
  | lst h _ => exact .base (.lst h)
  | tup h _ => exact .base (.tup h)
  | dct h => exact .base (.dK h)
/-- repr of such data -/
def rReprA : List V → Hp → VK → Prop := fun xs H Q => ∃ (v : V) (d : PyData) (n : Nat), xs = [v] ∧ Dq H v d ∧ SkT.Sw n 64 d ∧ n ≤ sizeLine ∧ Q (.str d.shown) H
theorem call_reprA {X : Cx} {ob : Obj} (hg : X.A.guards = some []) (hu : X.A.units + 66 < cLine) (sm : X.base.get? sysModules = some ob) : CallR X (.builtin "repr") rReprA := by
  intro pins s σ H xs us Q I r h
  obtain ⟨v, d, n, rfl, hd, hs, hn, q⟩ := h
  obtain ⟨u, rfl, ru⟩ := vals1 r
  have ref : ∀ a, v = .ref a → wpAny (model X.prog X.w) X.A (PySem.call (.builtin "repr") [u]) (fun u' s' => ∃ (v' : V) (H' : Hp), Inv X pins σ H' s' ∧ RelV v' u' ∧ Q v' H') X.xe s := fun a e => by
    subst e
    cases (show u = Value.ref a from ru)
    obtain ⟨as, h1, h2⟩ := hd.reads I (u := .ref a) rfl
    have no : sysModules ∉ as := fun hm => h2 _ hm (I.env0.bs _ _ sm).2
    have := hs.dp
    refine repr_of_reads' h1 hs.sh (fun _ => no) hg (by omega) (fun _ _ e => e) (fun h' u tk hk => ?_) (Nat.le_trans hs.ln hn)
    exact ⟨.str d.shown, H, I.kept (t' := tk) hk, ⟨_, rfl⟩, q⟩
  cases hd with
  | non =>
    cases ru
    exact PySem.P.repr_of_none ⟨.str _, H, I.tok _, ⟨_, rfl⟩, q⟩
  | bl b =>
    cases ru
    exact PySem.P.repr_of_bool ⟨.str _, H, I.tok _, ⟨_, rfl⟩, q⟩
  | int i =>
    obtain ⟨t, rfl⟩ := ru
    exact PySem.P.repr_of_int (by have := hs.sh; simpa [PyData.showable] using this) ⟨.str _, H, I.tok _, ⟨_, rfl⟩, q⟩
  | str x =>
    obtain ⟨t, rfl⟩ := ru
    exact PySem.P.repr_of_str ⟨.str _, H, I.tok _, ⟨_, rfl⟩, q⟩ (Nat.le_trans hs.ln hn)
  | lst ha hd => exact ref _ rfl
  | tup ha hd => exact ref _ rfl
  | dct ha => exact ref _ rfl
theorem sl_from {K : PySem.W.Frag} {Q : VK} {H : Hp} {l : Addr} {vs : List V} {n : Int} {k : Nat} (hl : H l = some (.lst vs)) (e : n = (k : Nat)) (h : ∀ z, H z = none → ∀ H', Same H H' → H' z = some (.lst (vs.drop k)) → Q (.ref z) H') : rSlL K (.ref l) (some n) none H Q := by
  refine ⟨l, vs, rfl, SqL.of hl, fun z nz => ?_⟩
  rw [e, Cm.cut_from]
  exact h z nz _ (fun b o q => by rw [upd_ne (ne_of_none q nz)]; exact q) upd_same
theorem sl_to {K : PySem.W.Frag} {Q : VK} {H : Hp} {l : Addr} {vs : List V} {n : Int} {k : Nat} (hl : H l = some (.lst vs)) (e : n = (k : Nat)) (hk : k ≤ vs.length) (h : ∀ z, H z = none → ∀ H', Same H H' → H' z = some (.lst (vs.take k)) → Q (.ref z) H') : rSlL K (.ref l) none (some n) H Q := by
  refine ⟨l, vs, rfl, SqL.of hl, fun z nz => ?_⟩
  rw [e, Cm.cut_to _ _ hk]
  exact h z nz _ (fun b o q => by rw [upd_ne (ne_of_none q nz)]; exact q) upd_same
theorem cat {Q : VK} {H : Hp} {p r : Addr} {xs ys : List V} (hp : H p = some (.lst xs)) (hr : H r = some (.lst ys)) (hl : xs.length + ys.length ≤ sizeLine) (k : ∀ z, H z = none → ∀ H', Same H H' → H' z = some (.lst (xs ++ ys)) → Q (.ref z) H') : rCat (.ref p) (.ref r) H Q :=
  ⟨p, r, xs, ys, rfl, rfl, hp, hr, hl, fun z nz => k z nz _ (fun b o q => by rw [upd_ne (ne_of_none q nz)]; exact q) upd_same⟩
end RpA

/-! the search: its facts, model_rest, model_moves -/
namespace My
open PySem L2 Cm LM EM SR RpA
abbrev sMr : Stmt := top 99
abbrev sSI : Stmt := inClass (top 100) 0
abbrev sHf : Stmt := inClass (top 100) 1
abbrev sMm : Stmt := inClass (top 100) 2
abbrev sSb : Stmt := inClass (top 100) 7
abbrev sIf : Stmt := inClass (top 100) 8
abbrev sNv : Stmt := inClass (top 100) 9
/-- the five names -/
inductive Nm | w | f | e | q | n
def nmS : Nm → Str
  | .w => "whole"
  | .f => "filled"
  | .e => "even"
  | .q => "quiet"
  | .n => "ends"
structure TxSr (w : World) (K : PySem.W.Frag) (mg : Str → Option Value) where
  T : TxC K mg
  Mk : TxMk K mg
  lx : Mt K T.C "execution" "Loop.execution" sLX ["self", "size", "kept"]
  no : Mt K Mk.X.C "answer_nothing" "Execution.answer_nothing" sXN ["self", "told"]
  U : TxUc K mg
  mz : ∃ t, mg "MODEL_SIZE" = some (.int 4 t)
  mp : ∃ t, mg "MODEL_PART" = some (.int 2 t)
  mf : ∃ t, mg "MODEL_FULL" = some (.int 4 t)
  mo : ∃ t, mg "MODEL_MORE" = some (.int 6 t)
  mm : ∃ t, mg "MODEL_MULTIPLE" = some (.int 8 t)
  sl : ∃ t, mg "SOME_LEFT" = some (.int 1 t)
  C : Addr
  gC : mg "Search" = some (.ref C)
  cl : Cls K C
  nL : NoAttr K C "loop"
  nS : NoAttr K C "source"
  nN : NoAttr K C "name"
  fI : Addr
  fdI : FuncData
  FI : Fun K "__init__" "Search.__init__" sSI fI fdI
  bI : Binds K fdI ["self", "loop", "source", "name"] []
  MI : L2.Mk K C fI
  mr : Df K mg "model_rest" sMr ["rest"]
  mv : Mt K C "model_moves" "Search.model_moves" sMm ["self", "left"]
  sb : Mt K C "state_behind" "Search.state_behind" sSb ["self", "state", "size", "count", "left"]
  isf : Mt K C "is_fault" "Search.is_fault" sIf ["self", "state", "size"]
  nv : Mt K C "never_stops" "Search.never_stops" sNv ["self", "rest", "size"]
  hf : Mt K C "has_fault" "Search.has_fault" sHf ["self"]
  dK : Addr
  gK : mg "MARKERS" = some (.ref dK)
  dw : He.dicW K dK = some (He.keysIn w.params names)
  nk : PySem.W.nsIn K dK "whole" = some (some (.ref Mk.mw.f)) ∧ PySem.W.nsIn K dK "filled" = some (some (.ref Mk.mf.f)) ∧ PySem.W.nsIn K dK "even" = some (some (.ref Mk.me.f)) ∧ PySem.W.nsIn K dK "quiet" = some (some (.ref Mk.mq.f)) ∧ PySem.W.nsIn K dK "ends" = some (some (.ref Mk.mn.f))
abbrev TxSr.N {w : World} {K : PySem.W.Frag} {mg : Str → Option Value} (S : TxSr w K mg) : TxN K mg := ⟨S.T, S.Mk.X, S.lx⟩
abbrev TxSr.Xn {w : World} {K : PySem.W.Frag} {mg : Str → Option Value} (S : TxSr w K mg) : TxXn K mg := ⟨S.Mk.X, S.no⟩
def sfS (lo so : Addr) (nm : Str) : List (Str × V) := [("loop", .ref lo), ("source", .ref so), ("name", .str nm)]
theorem sf_l (lo so : Addr) (nm : Str) : (sfS lo so nm).lookup ("loop" : Str) = some (.ref lo) := by kernel_rfl
theorem sf_s (lo so : Addr) (nm : Str) : (sfS lo so nm).lookup ("source" : Str) = some (.ref so) := by kernel_rfl
theorem sf_n (lo so : Addr) (nm : Str) : (sfS lo so nm).lookup ("name" : Str) = some (.str nm) := by kernel_rfl
theorem sf_no (lo so : Addr) (nm : Str) : (sfS lo so nm).lookup ("model_moves" : Str) = none ∧ (sfS lo so nm).lookup ("state_behind" : Str) = none ∧ (sfS lo so nm).lookup ("is_fault" : Str) = none ∧ (sfS lo so nm).lookup ("never_stops" : Str) = none ∧ (sfS lo so nm).lookup ("has_fault" : Str) = none := by
  refine ⟨?_, ?_, ?_, ?_, ?_⟩ <;> kernel_rfl
/-- a search stands at o -/
structure SeAt {w : World} {K : PySem.W.Frag} {mg : Str → Option Value} (S : TxSr w K mg) (H : Hp) (o dx lo so : Addr) (t A B E nm : Str) : Prop where
  at_ : H o = some (.ins S.C dx (sfS lo so nm))
  lo : LoopAt S.T.C H lo t
  so : SrcU S.U.M.U.C H so A B E
theorem SeAt.same {w : World} {K : PySem.W.Frag} {mg : Str → Option Value} {S : TxSr w K mg} {H H' : Hp} {o dx lo so : Addr} {t A B E nm : Str} (s : Same H H') (h : SeAt S H o dx lo so t A B E nm) : SeAt S H' o dx lo so t A B E nm := ⟨s _ _ h.at_, h.lo.same s, h.so.same s⟩
/-- rows of pairs of numbers -/
inductive Mvs (H : Hp) : List V → List (Nat × Nat) → Prop
  | nil : Mvs H [] []
  | cons {q : Addr} {r : Nat × Nat} {vs : List V} {rs : List (Nat × Nat)} (h : H q = some (.tup [.int r.1, .int r.2])) (t : Mvs H vs rs) : Mvs H (.ref q :: vs) (r :: rs)
theorem Mvs.mono {H H' : Hp} (f : ∀ (p : Addr) (xs : List V), H p = some (.tup xs) → H' p = some (.tup xs)) : ∀ {vs rs}, Mvs H vs rs → Mvs H' vs rs
  | _, _, .nil => .nil
  | _, _, .cons h t => .cons (f _ _ h) (t.mono f)
theorem Mvs.len {H : Hp} : ∀ {vs rs}, Mvs H vs rs → vs.length = rs.length
  | _, _, .nil => rfl
  | _, _, .cons _ t => congrArg (· + 1) t.len
theorem Mvs.app {H : Hp} : ∀ {vs rs vs' rs'}, Mvs H vs rs → Mvs H vs' rs' → Mvs H (vs ++ vs') (rs ++ rs')
  | _, _, _, _, .nil, h => h
  | _, _, _, _, .cons a t, h => .cons a (t.app h)
theorem Mvs.get {H : Hp} : ∀ {vs : List V} {xs : List (Nat × Nat)} {i : Nat} {y : V}, Mvs H vs xs → vs[i]? = some y → ∃ q x, xs[i]? = some x ∧ y = .ref q ∧ H q = some (.tup [.int x.1, .int x.2])
  | _, _, i, y, .nil, h => by simp at h
  | _, _, 0, y, .cons h t, e => by
    cases e
    exact ⟨_, _, rfl, rfl, h⟩
  | _, _, i + 1, y, .cons h t, e => by
    obtain ⟨q, x, a, b, c⟩ := Mvs.get t (i := i) e
    exact ⟨q, x, a, b, c⟩
section
variable {P : Program} {w : World} {K : PySem.W.Frag} {mg : Str → Option Value} {base : Heap}
/-! ### model_rest -/
def spMr : Sp := fun vs H Q _ => ∃ r : Nat, vs = [.int r] ∧ Q (.int (restM r : Nat)) H
theorem scMr : FnScope ["rest"] ["rest"] (defScope sMr) := ⟨rfl, rfl, rfl, by decide +kernel, rfl, by decide +kernel, by decide +kernel⟩
theorem ok_mr (S : TxSr w K mg) : FnOk P w K mg base CX0 1 S.mr.f S.mr.fd ["rest"] spMr := by
  obtain ⟨t1, gz⟩ := S.mz
  obtain ⟨t2, gp⟩ := S.mp
  obtain ⟨t3, gf⟩ := S.mf
  obtain ⟨t4, go⟩ := S.mo
  obtain ⟨t5, gm⟩ := S.mm
  refine S.mr.F.ok scMr (fun vs H Q E h => ?_) (fun cdv A outer s H vs Q E hr h => ?_)
  · obtain ⟨r, rfl, _⟩ := h
    rfl
  · obtain ⟨r, rfl, k⟩ := h
    refine ⟨_, (pss_cons (ps_if (pt_cmpR op_eq (pv 0) pe_int (nomark _)) (pss_one (ps_ret pe_int)) pss_nil) (pss_cons (ps_if (pt_cmpR op_le (pv 0) (pe_glob (v := .int 4) rfl gz ⟨_, rfl⟩) (nomark _)) (pss_one (ps_ret (pe_ifExp (pt_cmpR op_eq (pv 0) (pe_glob (v := .int 4) rfl gz ⟨_, rfl⟩) (nomark _)) (pe_glob (v := .int 4) rfl gf ⟨_, rfl⟩) (pe_glob (v := .int 2) rfl gp ⟨_, rfl⟩)))) pss_nil) (pss_one (ps_ret (pe_ifExp (pt_truth (pe_op op_mod (pv 0) (pe_glob (v := .int 4) rfl gz ⟨_, rfl⟩)) (by intro _; rfl)) (pe_glob (v := .int 6) rfl go ⟨_, rfl⟩) (pe_glob (v := .int 8) rfl gm ⟨_, rfl⟩)))))), ?_⟩
    unfold restM at k
    refine ⟨_, rfl, rfl, _, rfl, ?_⟩
    rw [dI]
    by_cases c0 : r = 0
    · rw [if_pos c0] at k
      rw [show decide (((r : Nat) : Int) = 0) = true from decide_eq_true (by omega)]
      exact iteT k
    rw [if_neg c0] at k
    rw [show decide (((r : Nat) : Int) = 0) = false from decide_eq_false (by omega)]
    refine iteF ⟨_, rfl, _, _, rfl, rfl, _, rfl, ?_⟩
    by_cases c1 : r ≤ 4
    · rw [if_pos c1] at k
      rw [show decide (((r : Nat) : Int) ≤ 4) = true from decide_eq_true (by omega)]
      refine iteT ⟨_, rfl, rfl, _, rfl, ?_⟩
      rw [dI]
      by_cases c2 : r = 4
      · rw [if_pos c2] at k
        rw [show decide (((r : Nat) : Int) = 4) = true from decide_eq_true (by omega)]
        exact iteT k
      · rw [if_neg c2] at k
        rw [show decide (((r : Nat) : Int) = 4) = false from decide_eq_false (by omega)]
        exact iteF k
    · rw [if_neg c1] at k
      rw [show decide (((r : Nat) : Int) ≤ 4) = false from decide_eq_false (by omega)]
      refine iteF ⟨_, rfl, _, _, rfl, rfl, (by show (0 : Int) < 4; decide), _, rfl, ?_⟩
      have em : ((r : Nat) : Int) % 4 = ((r % 4 : Nat) : Int) := by omega
      rw [em]
      by_cases c3 : r % 4 ≠ 0
      · rw [if_pos c3] at k
        rw [show ((((r % 4 : Nat) : Int)) != 0) = true from by simp; omega]
        exact iteT k
      · rw [if_neg c3] at k
        rw [show ((((r % 4 : Nat) : Int)) != 0) = false from by simp; omega]
        exact iteF k
/-! ### model_moves -/
def canM (A B : Str) (c : Nat) : Bool := canU A B 5 4 (c : Int)
theorem mvs_snoc {H : Hp} {q : Addr} {r : Nat × Nat} (h : H q = some (.tup [.int r.1, .int r.2])) {vs rs} (a : Mvs H vs rs) : Mvs H (vs ++ [.ref q]) (rs ++ [r]) := a.app (.cons h .nil)
def spMv (S : TxSr w K mg) : Sp := fun vs H Q _ => ∃ (o dx lo so : Addr) (t A B E nm : Str) (left : Nat), vs = [.ref o, .int left] ∧ SeAt S H o dx lo so t A B E nm ∧ ∀ (H' : Hp) (q : Addr) (ms : List V), Same H H' → H q = none → H' q = some (.lst ms) → Mvs H' ms (movesM (canM A B) left) → Q (.ref q) H'
abbrev NMv : List Str := ["self", "left", "last", "far", "count"]
theorem scMv : FnScope NMv ["self", "left"] (defScope sMm) := ⟨rfl, rfl, rfl, by decide +kernel, rfl, by decide +kernel, by decide +kernel⟩
theorem range_one : ∀ i, (List.range i).map (fun k => ((k + 1, 0) : Nat × Nat)) ++ [(i + 1, 0)] = (List.range (i + 1)).map fun k => ((k + 1, 0) : Nat × Nat) := fun i => by rw [List.range_succ, List.map_append]; rfl
theorem ok_mv (S : TxSr w K mg) : FnOk P w K mg base CX0 2 S.mv.f S.mv.fd ["self", "left"] (spMv S) := by
  have GC : FnOk P w K mg base CX0 1 S.U.ca.f S.U.ca.fd ["self", "left", "size", "count"] (spUC S.U.M.U.C) := ok_uc S.U
  obtain ⟨t1, gz⟩ := S.mz
  obtain ⟨t2, gl⟩ := S.sl
  refine S.mv.F.ok scMv (fun vs H Q E h => ?_) (fun cdv A outer s H vs Q E hr h => ?_)
  · obtain ⟨o, _, _, _, _, _, _, _, _, left, rfl, _⟩ := h
    rfl
  · obtain ⟨o, dx, lo, so, t, A1, B1, E1, nm, left, rfl, hS, k⟩ := h
    refine ⟨_, (pss_cons (ps_if (pt_cmpR op_eq (pv 1) pe_int (nomark _)) (pss_one (ps_ret (pe_lst (pa_cons (pe_tup (pa_cons pe_int (pa_cons pe_int pa_nil))) pa_nil)))) pss_nil) (pss_cons (ps_setLc (i := 2) (own := [("count", 4)]) (g := gName 4) (tt := tYes) (te := tTup (tCons (tVar 4) (tCons (tC (.int 0)) tNil))) rfl scMv.nd rfl rfl (sw_true rfl rfl rfl (by decide +kernel)) (pi_range2 rfl S.Mk.X.range (pa_cons pe_int (pa_cons (pe_op op_add (pe_glob (v := .int 4) rfl gz ⟨_, rfl⟩) pe_int) pa_nil))) (blkOk_by (own := [("count", 4)]) (N := NMv) (sc := defScope sMm) (by decide +kernel)) (fun _ _ _ _ _ => pg_name (i := 4) scMv.nd rfl (Or.inl rfl)) (fun _ _ _ _ _ => pts_nil) (fun _ _ _ _ _ => by exact (pe_tup (pa_cons (pv 4) (pa_cons pe_int pa_nil))))) (pss_cons (ps_set (i := 3) scMv.nd rfl (.inr rfl) (pe_op op_add (pe_glob (v := .int 4) rfl gz ⟨_, rfl⟩) pe_int)) (pss_one (ps_ret (pe_op op_cat (pv 2) (pe_lc (own := [("count", 4)]) (g := gName 4) (tt := tTest (tMeth S.U.M.U.C "can_hand_out" (spUC S.U.M.U.C) [] E0 (tFld K (tVar 0) "source") (tCons (tVar 3) (tCons (tC (.int 4)) (tCons (tVar 4) tNil))))) (te := tTup (tCons (tVar 4) (tCons (tC (.int 1)) tNil))) rfl scMv.nd (pi_range1 rfl S.Mk.X.range (pa_cons (pe_op op_add (pe_glob (v := .int 4) rfl gz ⟨_, rfl⟩) pe_int) pa_nil)) (blkOk_by (own := [("count", 4)]) (N := NMv) (sc := defScope sMm) (by decide +kernel)) (fun _ _ _ _ _ => pg_name (i := 4) scMv.nd rfl (Or.inl rfl)) (fun _ _ _ _ _ => by exact pts_one (pt_val (pe_meth (pe_fld (pv 0) rfl) S.U.M.U.cl S.U.ca.m GC hr S.U.ca.b .nil pass0 (pa_cons (pv 3) (pa_cons (pe_glob (v := .int 4) rfl gz ⟨_, rfl⟩) (pa_cons (pv 4) pa_nil)))))) (fun _ _ _ _ _ => by exact (pe_tup (pa_cons (pv 4) (pa_cons (pe_glob (v := .int 1) rfl gl ⟨_, rfl⟩) pa_nil))))))))))), ?_⟩
    unfold movesM at k
    refine ⟨_, rfl, rfl, _, rfl, ?_⟩
    rw [dI]
    by_cases c0 : left = 0
    · rw [if_pos c0] at k
      rw [show decide (((left : Nat) : Int) = 0) = true from decide_eq_true (by omega)]
      refine iteT ⟨(by show 2 ≤ sizeLine; decide), fun q nq => ⟨(by show 1 ≤ sizeLine; decide), fun l nl => ?_⟩⟩
      have u1 := same_new (o := .tup [.int 0, .int 0]) nq
      have u2 := same_new (o := .lst [.ref q]) nl
      exact k _ l _ (Same.trans u1 u2) (u1.free nl) upd_same (.cons (u2 _ _ upd_same) .nil)
    rw [if_neg c0] at k
    rw [show decide (((left : Nat) : Int) = 0) = false from decide_eq_false (by omega)]
    refine iteF ⟨_, _, rfl, rfl, 1, 5, rfl, ⟨by decide, by decide, by decide, by decide⟩, fun D nD => ?_⟩
    refine lc_range (lo := 1) (n := ((5 : Int) - 1).toNat) (fun i H' => Same H H' ∧ ∃ ms, H' D = some (.lst ms) ∧ Mvs H' ms ((List.range i).map fun k => (k + 1, 0)) ∧ ms.length ≤ 4) ⟨same_new nD, [], upd_same, .nil, by decide⟩ ?_ ?_
    · rintro i H1 hi ⟨s1, ms, hD, hM, lm⟩
      have hi4 : i < 4 := hi
      refine ⟨rfl, _, rfl, (by show 2 ≤ sizeLine; decide), fun q nq => ?_⟩
      have u1 := same_new (o := .tup [.int (1 + (i : Nat)), .int 0]) nq
      have eq1 : (1 : Int) + (i : Nat) = ((i + 1 : Nat) : Int) := by omega
      have st : ∀ (p : Addr) (ys : List V), (upd H1 q (.tup [.int (1 + (i : Nat)), .int 0])) p = some (.tup ys) → (upd (upd H1 q (.tup [.int (1 + (i : Nat)), .int 0])) D (.lst (ms ++ [.ref q]))) p = some (.tup ys) := tup_stays (u1 _ _ hD) (by intro xs z; cases z)
      have lm2 := hM.len
      rw [List.length_map, List.length_range] at lm2
      refine ⟨ms, u1 _ _ hD, szM (by omega), fun b o' e => ?_, ms ++ [.ref q], upd_same, ?_, by rw [List.length_append, lm2]; show i + 1 ≤ 4; omega⟩
      · rw [upd_ne (ne_of_none e nD)]
        exact u1 _ _ (s1 _ _ e)
      · rw [← range_one]
        refine mvs_snoc (r := (i + 1, 0)) (st _ _ ?_) ((hM.mono fun _ _ e => u1 _ _ e).mono st)
        rw [upd_same, eq1]
        rfl
    · rintro H1 ⟨s1, ms, hD, hM, lm⟩
      have hS1 := hS.same s1
      obtain ⟨sdx, hso⟩ := id hS1.so
      refine ⟨_, _, rfl, rfl, ?_⟩
      refine ⟨_, rfl, _, _, rfl, rfl, 5, rfl, by decide, by decide, fun D2 nD2 => ?_⟩
      have DD : D ≠ D2 := ne_of_none hD nD2
      refine lc_range (lo := 0) (n := ((5 : Int)).toNat) (fun i H' => Same H1 H' ∧ ∃ m2, H' D2 = some (.lst m2) ∧ Mvs H' m2 (((List.range i).filter (canM A1 B1)).map fun c => (c, 1))) ⟨same_new nD2, [], upd_same, .nil⟩ ?_ ?_
      · rintro i H2 hi ⟨s2, m2, hD2, hM2⟩
        have hi5 : i < 5 := hi
        have hS2 := hS1.same s2
        refine ⟨rfl, _, rfl, o, S.C, dx, _, _, rfl, hS2.at_, S.cl, S.nS, sf_s .., so, sdx, _, rfl, s2 _ _ hso, rfl, _, rfl, _, rfl, so, A1, B1, E1, 5, 4, _, rfl, hS2.so, _, rfl, ?_⟩
        have er : (List.range (i + 1)).filter (canM A1 B1) = (List.range i).filter (canM A1 B1) ++ (if canM A1 B1 i = true then [i] else []) := by
          rw [List.range_succ, List.filter_append]
          congr 1
          by_cases h : canM A1 B1 i = true
          · rw [if_pos h, List.filter_cons_of_pos h]; rfl
          · rw [if_neg h, List.filter_cons_of_neg h]; rfl
        have ec : canU A1 B1 5 4 (0 + (i : Nat)) = canM A1 B1 i := by unfold canM; rw [Int.zero_add]
        rw [ec]
        cases hc : canM A1 B1 i with
        | false =>
          rw [hc, if_neg (by decide), List.append_nil] at er
          refine iteF ⟨s2, m2, hD2, ?_⟩
          rw [er]
          exact hM2
        | true =>
          rw [hc, if_pos rfl] at er
          refine iteT ⟨_, rfl, (by show 2 ≤ sizeLine; decide), fun q nq => ?_⟩
          have u1 := same_new (o := .tup [.int (0 + (i : Nat)), .int 1]) nq
          have st : ∀ (p : Addr) (ys : List V), (upd H2 q (.tup [.int (0 + (i : Nat)), .int 1])) p = some (.tup ys) → (upd (upd H2 q (.tup [.int (0 + (i : Nat)), .int 1])) D2 (.lst (m2 ++ [.ref q]))) p = some (.tup ys) := tup_stays (u1 _ _ hD2) (by intro xs z; cases z)
          have lm2 := hM2.len
          rw [List.length_map] at lm2
          have lf := List.length_filter_le (canM A1 B1) (List.range i)
          rw [List.length_range] at lf
          refine ⟨m2, u1 _ _ hD2, szM (by omega), fun b o' e => ?_, m2 ++ [.ref q], upd_same, ?_⟩
          · rw [upd_ne (ne_of_none e nD2)]
            exact u1 _ _ (s2 _ _ e)
          · rw [er, List.map_append]
            refine mvs_snoc (r := (i, 1)) (st _ _ ?_) ((hM2.mono fun _ _ e => u1 _ _ e).mono st)
            rw [upd_same, Int.zero_add]
            rfl
      · rintro H2 ⟨s2, m2, hD2, hM2⟩
        have hD1 := s2 _ _ hD
        have lm2 := hM2.len
        rw [List.length_map] at lm2
        have lf := List.length_filter_le (canM A1 B1) (List.range 5)
        rw [List.length_range] at lf
        refine cat hD1 hD2 (Nat.le_of_lt (szM (by have : (List.range ((5 : Int)).toNat).filter (canM A1 B1) = (List.range 5).filter (canM A1 B1) := rfl; rw [this] at lm2; omega))) fun z nz H3 s3 hz => ?_
        refine k H3 z _ (Same.trans s1 (Same.trans s2 s3)) ((Same.trans s1 s2).free nz) hz (Mvs.app (hM.mono fun _ _ e => s3 _ _ (s2 _ _ e)) (hM2.mono fun _ _ e => s3 _ _ e))
end
end My

/-! the search: state_behind, is_fault, never_stops -/
namespace My
open PySem L2 Cm LM EM SR RpA
theorem adds_leS : ∀ B : List Str, adds (B.map orderOf) = (B.filter isAdd).length
  | [] => rfl
  | b :: r => by
    show isA (orderOf b).2 + adds (r.map orderOf) = _
    rw [adds_leS r]
    by_cases h : (orderOf b).2 = "add"
    · have : isAdd b = true := decide_eq_true h
      rw [List.filter_cons_of_pos this, List.length_cons, isA, if_pos h]
      omega
    · have : ¬ isAdd b = true := fun z => h (of_decide_eq_true z)
      rw [List.filter_cons_of_neg this, isA, if_neg h]
      omega
structure Gd4 (ro eo : List (Str × Str)) : Prop where
  l1 : ro.length ≤ 12
  l2 : eo.length ≤ 6
  a1 : adds ro ≤ 1
  a2 : adds eo = 0
theorem good4 {t : Str} (g : goodText t = true) : Gd4 (ordsR t) (ordsE t) := by
  obtain ⟨rB, rE⟩ := good_iff.mp g
  refine ⟨by rw [ordsR, List.length_map]; exact (round_sht rB).2, by rw [ordsE, List.length_map]; exact (ending_sht rE).2, by rw [ordsR, adds_leS]; exact round_adds rB, ?_⟩
  rw [ordsE, adds_leS, show (wordsE t).filter isAdd = [] from List.filter_eq_nil_iff.mpr fun z hz => ?_]
  · rfl
  · rw [wd_noadd z (Wd.mem ((word_wd ((isEnding_iff.mp rE).2 z hz)).mono (by decide +kernel)))]
    exact Bool.false_ne_true
/-- what a mark becomes, by its name -/
def mkG (k : Nm) : Str → Nat → RP → Bool → Bool → Nat → Nat → Str := fun m sz x st told b l => markM (nmS k) m sz x st told b l
section
variable {P : Program} {w : World} {K : PySem.W.Frag} {mg : Str → Option Value} {base : Heap}
def fkM (S : TxSr w K mg) : Nm → Addr
  | .w => S.Mk.mw.f
  | .f => S.Mk.mf.f
  | .e => S.Mk.me.f
  | .q => S.Mk.mq.f
  | .n => S.Mk.mn.f
def fdM (S : TxSr w K mg) : Nm → FuncData
  | .w => S.Mk.mw.fd
  | .f => S.Mk.mf.fd
  | .e => S.Mk.me.fd
  | .q => S.Mk.mq.fd
  | .n => S.Mk.mn.fd
theorem nm_w (m : Str) (sz : Nat) (x : RP) (st told : Bool) (b l : Nat) : mkG .w m sz x st told b l = markWhole m x st b l := by unfold mkG markM nmS; rw [if_pos rfl]
theorem nm_f (m : Str) (sz : Nat) (x : RP) (st told : Bool) (b l : Nat) : mkG .f m sz x st told b l = if [] ∈ x.pieces then ("fault" : Str) else "fine" := by unfold mkG markM nmS; rw [if_neg (by decide +kernel), if_pos rfl]
theorem nm_e (m : Str) (sz : Nat) (x : RP) (st told : Bool) (b l : Nat) : mkG .e m sz x st told b l = evenM sz m x.pieces := by unfold mkG markM nmS; rw [if_neg (by decide +kernel), if_neg (by decide +kernel), if_pos rfl]
theorem nm_q (m : Str) (sz : Nat) (x : RP) (st told : Bool) (b l : Nat) : mkG .q m sz x st told b l = if told = true ∧ st = false then ("fault" : Str) else "fine" := by unfold mkG markM nmS; rw [if_neg (by decide +kernel), if_neg (by decide +kernel), if_neg (by decide +kernel), if_pos rfl]
theorem nm_n (m : Str) (sz : Nat) (x : RP) (st told : Bool) (b l : Nat) : mkG .n m sz x st told b l = "fine" := by unfold mkG markM nmS; rw [if_neg (by decide +kernel), if_neg (by decide +kernel), if_neg (by decide +kernel), if_neg (by decide +kernel)]
theorem mk_re {k : Nat} {f : Addr} {fd : FuncData} {C : Addr} {g g' : Str → Nat → RP → Bool → Bool → Nat → Nat → Str} (F : FnOk P w K mg base CX0 k f fd MP (spMk C g)) (e : ∀ m sz x st told b l, g' m sz x st told b l = g m sz x st told b l) : FnOk P w K mg base CX0 k f fd MP (spMk C g') := by
  have : g' = g := by funext m sz x st told b l; exact e ..
  rw [this]
  exact F
theorem ok_mk (S : TxSr w K mg) : ∀ k : Nm, FnOk P w K mg base CX0 1 (fkM S k) (fdM S k) MP (spMk S.Mk.X.C (mkG k))
  | .w => mk_re (ok_mw S.Mk) nm_w
  | .f => mk_re (ok_mf S.Mk) nm_f
  | .e => mk_re (ok_me S.Mk) nm_e
  | .q => mk_re (ok_mq S.Mk) nm_q
  | .n => mk_re (ok_mn S.Mk) nm_n
theorem mk_keep (S : TxSr w K mg) : ∀ k : Nm, PySem.W.keepIn K (.ref (fkM S k)) = true
  | .w => S.Mk.mw.k
  | .f => S.Mk.mf.k
  | .e => S.Mk.me.k
  | .q => S.Mk.mq.k
  | .n => S.Mk.mn.k
theorem mk_binds (S : TxSr w K mg) : ∀ k : Nm, Binds K (fdM S k) MP []
  | .w => S.Mk.mw.b
  | .f => S.Mk.mf.b
  | .e => S.Mk.me.b
  | .q => S.Mk.mq.b
  | .n => S.Mk.mn.b
theorem mk_ns (S : TxSr w K mg) : ∀ k : Nm, PySem.W.nsIn K S.dK (nmS k) = some (some (.ref (fkM S k)))
  | .w => S.nk.1
  | .f => S.nk.2.1
  | .e => S.nk.2.2.1
  | .q => S.nk.2.2.2.1
  | .n => S.nk.2.2.2.2
/-! ### state_behind -/
def spSb (S : TxSr w K mg) : Sp := fun vs H Q _ => ∃ (o dx lo so stt : Addr) (t A B E mark : Str) (nm : Nm) (before rest sz count left : Nat), vs = [.ref o, .ref stt, .int sz, .int count, .int left] ∧ SeAt S H o dx lo so t A B E (nmS nm) ∧ goodText t = true ∧ H stt = some (.tup [.int before, .int rest, .str mark]) ∧ 1 ≤ sz ∧ sz ≤ 100 ∧ count ≤ sz ∧ rest ≤ 100 ∧ left ≤ 1000 ∧
  (behM (ordsR t) (ordsE t) (mustU E) (nmS nm) before rest mark sz count left = none → ∀ H', Same H H' → Q .non H') ∧
  (∀ f, behM (ordsR t) (ordsE t) (mustU E) (nmS nm) before rest mark sz count left = some f → ∀ (H' : Hp) (q : Addr), Same H H' → H' q = some (.tup [.int f.1, .int f.2.1, .str f.2.2]) → Q (.ref q) H')
abbrev NSb : List Str := ["self", "state", "size", "count", "left", "before", "rest", "mark", "low", "behind", "work", "marker"]
theorem scSb : FnScope NSb ["self", "state", "size", "count", "left"] (defScope sSb) := ⟨rfl, rfl, rfl, by decide +kernel, rfl, by decide +kernel, by decide +kernel⟩
theorem eqV_str (a b : Str) : eqV (.str a) (.str b) = decide (a = b) := by
  show (a == b) = _
  rw [Bool.eq_iff_iff]
  simp
theorem low_in (mark : Str) : inV (.str mark) [.str "twice", .str "lost"] = isLow mark := by
  unfold isLow
  show (eqV (.str "twice") (.str mark) || (eqV (.str "lost") (.str mark) || false)) = _
  rw [eqV_str, eqV_str, Bool.or_false, ← Bool.decide_or]
  exact decide_eq_decide.mpr ⟨fun h => h.elim (fun z => .inl z.symm) fun z => .inr z.symm, fun h => h.elim (fun z => .inl z.symm) fun z => .inr z.symm⟩
theorem ok_sb (S : TxSr w K mg) : FnOk P w K mg base CX0 5 S.sb.f S.sb.fd ["self", "state", "size", "count", "left"] (spSb S) := by
  have GL : FnOk P w K mg base CX0 3 S.lx.f S.lx.fd ["self", "size", "kept"] (spLX S.T.C S.Mk.X.C) := ok_lx S.N
  have GA : FnOk P w K mg base CX0 4 S.Mk.X.an.f S.Mk.X.an.fd ["self", "held", "told"] (spXA S.Mk.X.C) := ok_xa S.Mk.X
  have GU : FnOk P w K mg base CX0 1 S.U.M.mu.f S.U.M.mu.fd ["self", "before", "after"] (spUM S.U.M.U.C) := ok_um S.U.M
  have GK : ∀ k : Nm, FnOk P w K mg base CX0 1 (fkM S k) (fdM S k) MP (spMk S.Mk.X.C (mkG k)) := ok_mk S
  have hk := mk_keep S
  have hb := mk_binds S
  obtain ⟨t3, mT⟩ := S.Mk.twice
  obtain ⟨t4, mL⟩ := S.Mk.lost
  obtain ⟨t5, mX⟩ := S.Mk.fault
  obtain ⟨es, nd, D⟩ := He.dicW_ok S.dw
  refine S.sb.F.ok scSb (fun vs H Q E h => ?_) (fun cdv A outer s H vs Q E hr h => ?_)
  · obtain ⟨o, _, _, _, stt, _, _, _, _, _, _, _, _, _, _, _, rfl, _⟩ := h
    rfl
  · obtain ⟨o, dx, lo, so, stt, t, A1, B1, E1, mark, nm, before, rest, sz, count, left, rfl, hS, gt, hst, z1, z2, c1, r1, lf, k0, k1⟩ := h
    have hr1 : Room 1 _ := hr.mono (by decide)
    have hr3 : Room 3 _ := hr.mono (by decide)
    have hr4 : Room 4 _ := hr.mono (by decide)
    refine ⟨_, (pss_cons (ps_asg (pv 1) (pg_tup rfl (pgs_cons (pg_name (i := 5) scSb.nd rfl (.inl rfl)) (pgs_cons (pg_name (i := 6) scSb.nd rfl (.inl rfl)) (pgs_cons (pg_name (i := 7) scSb.nd rfl (.inl rfl)) pgs_nil))))) (C8.pss_cut (ps_set (i := 8) scSb.nd rfl (.inl rfl) (pe_ifExp (pt_cmpR op_in_seq (pv 7) (pe_tup (pa_cons (pe_glob (v := .str "twice") rfl mT ⟨_, rfl⟩) (pa_cons (pe_glob (v := .str "lost") rfl mL ⟨_, rfl⟩) pa_nil))) (by rfl)) (pe_un un_neg (pv 6)) pe_int)) (pss_cons (ps_set (i := 9) scSb.nd rfl (.inl rfl) (pe_op op_add (pe_op op_add (pv 8) (pv 6)) (pv 3))) (pss_cons (ps_set (i := 10) scSb.nd rfl (.inl rfl) (pe_meth (pe_fld (pv 0) rfl) S.T.cl S.lx.m GL hr3 S.lx.b .nil pass0 (pa_cons (pv 2) (pa_cons (pe_tupRg rfl rfl S.Mk.tuple (prg_2 rfl S.Mk.X.range (pv 8) (pe_op op_add (pv 8) (pv 6)))) pa_nil)))) (pss_cons (ps_expr (pe_meth (pv 10) S.Mk.X.cl S.Mk.X.an.m GA hr4 S.Mk.X.an.b .nil pass0 (pa_cons (pe_tupRg rfl rfl S.Mk.tuple (prg_2 rfl S.Mk.X.range (pe_op op_add (pv 8) (pv 6)) (pv 9))) (pa_cons (pe_meth (pe_fld (pv 0) rfl) S.U.M.U.cl S.U.M.mu.m GU hr1 S.U.M.mu.b .nil pass0 (pa_cons (pv 5) (pa_cons (pv 4) pa_nil))) pa_nil)))) (pss_cons (ps_set (i := 11) scSb.nd rfl (.inl rfl) (pe_ix (RwR.ix_kd D) (pe_glob (v := .ref S.dK) rfl S.gK rfl) (pe_fld (pv 0) rfl) (fun _ _ => rfl))) (pss_cons (ps_set (i := 7) scSb.nd rfl (.inl rfl) (RwR.pe_callI (i := 11) (E := E0) GK hr1 rfl (.inl rfl) hk hb pass0 (pa_cons (pv 7) (pa_cons (pv 10) (pa_cons (pv 9) (pa_cons (pv 4) pa_nil)))))) (pss_cons (ps_if (PW.pt (pw_and (pt_val (pe_fld (pv 10) rfl)) (pw_and1 (pt_cmpR op_ne (pv 7) (pe_glob (v := .str "fault") rfl mX ⟨_, rfl⟩) (nomark _))))) (pss_one (ps_ret pe_non)) pss_nil) (pss_one (ps_ret (pe_tup (pa_cons (pv 4) (pa_cons (pe_callB call_len_seq (by rfl) S.Mk.X.len PySem.boot_len (pa_cons (pe_fld (pv 10) rfl) pa_nil)) (pa_cons (pv 7) pa_nil)))))))))))))), ?_⟩
    have g4 := good4 gt
    refine ⟨_, rfl, stt, _, rfl, SqT.of hst, rfl, _, _, rfl, _, _, rfl, _, _, rfl, rfl, ?_⟩
    -- low
    refine ⟨fun σ H' => σ = [some (.ref o), some (.ref stt), some (.int (sz : Nat)), some (.int (count : Nat)), some (.int (left : Nat)), some (.int (before : Nat)), some (.int (rest : Nat)), some (.str mark), some (.int (lowM mark rest)), none, none, none] ∧ Same H H', ?_, ?_⟩
    · refine ⟨_, rfl, (by show 2 ≤ sizeLine; decide), fun l nl => ⟨l, _, rfl, .inr (SqT.of upd_same), rfl, rfl, _, rfl, ?_⟩⟩
      have u1 := same_new (o := .tup [.str "twice", .str "lost"]) nl
      rw [low_in]
      unfold lowM
      cases hl : isLow mark with
      | true => exact iteT ⟨_, rfl, _, rfl, rfl, u1⟩
      | false => exact iteF ⟨rfl, u1⟩
    rintro _ H2 ⟨rfl, s2⟩
    have hS2 := hS.same s2
    obtain ⟨sdx, hso⟩ := id hS2.so
    obtain ⟨ldx, lpr, lpe, lpo, lpq, hlo, _⟩ := id hS2.lo
    have hlow : -(100 : Int) ≤ lowM mark rest ∧ lowM mark rest ≤ 0 := by unfold lowM; split <;> omega
    have bh := bh_low mark rest count
    have bb : bhM mark rest count ≤ 200 := by unfold bhM; split <;> omega
    refine ⟨_, rfl, _, rfl, _, _, rfl, rfl, _, rfl, _, _, rfl, rfl, ?_⟩
    refine ⟨_, rfl, o, S.C, dx, _, _, rfl, hS2.at_, S.cl, S.nL, sf_l .., lo, ldx, _, rfl, hlo, lf_no _ _ _ _ _ (by decide +kernel) (by decide +kernel) (by decide +kernel) (by decide +kernel) (by decide +kernel), _, rfl, _, rfl, _, rfl, _, rfl, _, _, rfl, rfl, _, _, rfl, rfl, ?_⟩
    refine ⟨⟨by omega, by omega, by omega, by omega, by omega⟩, fun z nz => ?_⟩
    rw [rgV_rgI]
    have u3 := same_new (o := .tup (ivs (rgI (lowM mark rest) rest))) nz
    refine ⟨lo, z, t, sz, _, rfl, hS2.lo.same u3, upd_same, fun H4 x dxx ro eo p s4 nx np hX hRo hEo => ?_⟩
    have s24 := Same.trans u3 s4
    have hS4 := hS2.same s24
    obtain ⟨sdx4, hso4⟩ := id hS4.so
    obtain ⟨xh, xr, xvs, ex0, _⟩ := id hX.ex
    show tSeq _ _ _ [some (.ref o), some (.ref stt), some (.int (sz : Nat)), some (.int (count : Nat)), some (.int (left : Nat)), some (.int (before : Nat)), some (.int (rest : Nat)), some (.str mark), some (.int (lowM mark rest)), some (.int (lowM mark rest + (rest : Int) + (count : Int))), some (.ref x), none] H4
    rw [bh]
    refine ⟨_, rfl, x, dxx, _, rfl, ex0, (xf_noA ..).1, _, rfl, _, rfl, _, _, rfl, rfl, _, rfl, _, _, rfl, rfl, ⟨by omega, by omega, by omega, by omega, by omega⟩, fun z2 nz2 => ?_⟩
    rw [rgV_nat (lo := lowM mark rest + (rest : Int)) (n := count) bh.symm]
    have u5 := same_new (o := .tup (ivs (rgI (lowM mark rest + (rest : Int)) count))) nz2
    have hS5 := hS4.same u5
    refine ⟨_, rfl, o, S.C, dx, _, _, rfl, hS5.at_, S.cl, S.nS, sf_s .., so, sdx4, _, rfl, u5 _ _ hso4, rfl, _, rfl, _, rfl, so, A1, B1, E1, _, _, rfl, hS5.so, ?_⟩
    have X5 := hX.same u5
    have lt0 : Lt 100 0 (⟨rgI (lowM mark rest) rest, []⟩ : RP) := ⟨by show (rgI _ _).length ≤ 100; rw [rgI_len]; exact r1, Nat.le_refl _⟩
    have few : Few sz 100 0 (⟨rgI (lowM mark rest) rest, []⟩ : RP) := ⟨by show (rgI _ _).length ≤ _; rw [rgI_len]; exact Nat.le_trans r1 (Nat.le_mul_of_pos_right _ z1), Nat.le_refl _⟩
    refine ⟨x, dxx, ro, eo, p, z2, 0, sz, [], _, false, _, _, ordsR t, ordsE t, 100, 0, rfl, X5, upd_same, hRo.ts (Same.ts u5), hEo.ts (Same.ts u5), g4.l1, g4.l2, ⟨z1, by omega, by rw [rgI_len]; exact c1, by omega, by omega, few⟩, by decide, by decide, fun H6 o6 X6 => ?_⟩
    have lt1 := lt_ans (size := sz) (told := mustU E1 (before : Nat) (left : Nat)) (held := rgI (lowM mark rest + (rest : Int)) count) (h := 100) (by rw [rgI_len]; omega) g4.l1 g4.l2 g4.a1 g4.a2 lt0
    have s26 : Same H2 H6 := fun b u e => o6 b u (ne_of_none (u3 _ _ e) nx) (ne_of_none (u3 _ _ e) np) (u5 _ _ (s24 _ _ e))
    have hS6 := hS2.same s26
    generalize hw : ansM sz (ordsR t) (ordsE t) (rgI (lowM mark rest + (rest : Int)) count) (mustU E1 (before : Nat) (left : Nat)) ⟨rgI (lowM mark rest) rest, []⟩ = wk at X6 lt1
    -- the mark
    have eb : behM (ordsR t) (ordsE t) (mustU E1) (nmS nm) before rest mark sz count left = if wk.2 = true ∧ mkG nm mark sz wk.1 wk.2 (mustU E1 (before : Nat) (left : Nat)) (bhM mark rest count) left ≠ "fault" then none else some (left, wk.1.rest.length, mkG nm mark sz wk.1 wk.2 (mustU E1 (before : Nat) (left : Nat)) (bhM mark rest count) left) := by
      unfold behM mkG
      rw [hw]
    rw [eb] at k0 k1
    generalize hmm : mkG nm mark sz wk.1 wk.2 (mustU E1 (before : Nat) (left : Nat)) (bhM mark rest count) left = m2 at k0 k1
    refine ⟨_, rfl, o, S.C, dx, _, _, rfl, hS6.at_, S.cl, S.nN, sf_n .., nmS nm, _, .ref (fkM S nm), rfl, rfl, mk_ns S nm, rfl, ?_⟩
    refine ⟨nm, rfl, _, rfl, _, rfl, _, rfl, _, rfl, x, dxx, ro, eo, p, mark, _, sz, _, left, _, _, _, _, rfl, X6, ?_, ?_, by omega, fun H7 s7 => ?_⟩
    · have := lt1.2
      omega
    · have := lt1.1
      omega
    rw [hmm]
    have X7 := X6.same s7
    obtain ⟨yh, yr, yvs, ey0, _, hyr, _⟩ := id X7.ex
    have sE : Same H H7 := Same.trans s2 (Same.trans s26 s7)
    refine ⟨_, rfl, x, S.Mk.X.C, dxx, _, _, rfl, ey0, S.Mk.X.cl, S.Mk.X.nSt, xf_st .., _, rfl, ?_⟩
    have fin : ¬ (wk.2 = true ∧ m2 ≠ "fault") → tRet (tTup (tCons (tVar 4) (tCons (tCB (fun xs H Q => ∃ p ys, xs = [V.ref p] ∧ (SqL K H p ys ∨ SqT K H p ys) ∧ Q (.int (ys.length : Nat)) H) (tCons (tFld K (tVar 10) "kept") tNil)) (tCons (tVar 7) tNil)))) { nx := fun x H' => Q V.non H', rt := Q } [some (.ref o), some (.ref stt), some (.int (sz : Nat)), some (.int (count : Nat)), some (.int (left : Nat)), some (.int (before : Nat)), some (.int (rest : Nat)), some (.str m2), some (.int (lowM mark rest)), some (.int (bhM mark rest count : Nat)), some (.ref x), some (.ref (fkM S nm))] H7 := fun ng => by
      rw [if_neg ng] at k1
      refine ⟨_, rfl, _, rfl, x, S.Mk.X.C, dxx, _, _, rfl, ey0, S.Mk.X.cl, S.Mk.X.nR, xf_r .., yr, _, rfl, .inr (SqT.of hyr), _, rfl, (by show 3 ≤ sizeLine; decide), fun q nq => ?_⟩
      rw [ivs_len]
      exact k1 _ rfl _ q (Same.trans sE (same_new nq)) upd_same
    cases hw2 : wk.2 with
    | false =>
      rw [hw2] at fin
      exact iteF (iteF (fin fun z => Bool.noConfusion z.1))
    | true =>
      rw [hw2] at fin k0
      refine iteT ⟨_, rfl, rfl, _, rfl, ?_⟩
      rw [show decide (V.str m2 = V.str "fault") = decide (m2 = "fault") from dS ..]
      by_cases cf : m2 = "fault"
      · rw [decide_eq_true cf]
        exact iteF (fin fun z => z.2 cf)
      · rw [decide_eq_false cf]
        rw [if_pos ⟨rfl, cf⟩] at k0
        exact iteT (k0 rfl _ sE)
end
end My

/-! the search: never_stops, is_fault, has_fault -/
namespace My
open PySem L2 Cm LM EM SR RpA
section
variable {P : Program} {w : World} {K : PySem.W.Frag} {mg : Str → Option Value} {base : Heap}
def spNv (S : TxSr w K mg) : Sp := fun vs H Q _ => ∃ (o dx lo so : Addr) (t A B E nm : Str) (rest sz : Nat), vs = [.ref o, .int rest, .int sz] ∧ SeAt S H o dx lo so t A B E nm ∧ goodText t = true ∧ 1 ≤ sz ∧ sz ≤ 100 ∧ rest ≤ 100 ∧ ∀ H', Same H H' → Q (.bl (nevM (ordsR t) (ordsE t) (mustU E) sz rest)) H'
theorem scNv : FnScope ["self", "rest", "size", "work"] ["self", "rest", "size"] (defScope sNv) := ⟨rfl, rfl, rfl, by decide +kernel, rfl, by decide +kernel, by decide +kernel⟩
theorem ok_nv (S : TxSr w K mg) : FnOk P w K mg base CX0 6 S.nv.f S.nv.fd ["self", "rest", "size"] (spNv S) := by
  have GL : FnOk P w K mg base CX0 3 S.lx.f S.lx.fd ["self", "size", "kept"] (spLX S.T.C S.Mk.X.C) := ok_lx S.N
  have GN : FnOk P w K mg base CX0 5 S.no.f S.no.fd ["self", "told"] (spXN S.Mk.X.C) := ok_xn S.Xn
  have GU : FnOk P w K mg base CX0 1 S.U.M.mu.f S.U.M.mu.fd ["self", "before", "after"] (spUM S.U.M.U.C) := ok_um S.U.M
  refine S.nv.F.ok scNv (fun vs H Q E h => ?_) (fun cdv A outer s H vs Q E hr h => ?_)
  · obtain ⟨o, _, _, _, _, _, _, _, _, _, _, rfl, _⟩ := h
    rfl
  · obtain ⟨o, dx, lo, so, t, A1, B1, E1, nm, rest, sz, rfl, hS, gt, z1, z2, r1, k⟩ := h
    have hr1 : Room 1 _ := hr.mono (by decide)
    have hr3 : Room 3 _ := hr.mono (by decide)
    have hr5 : Room 5 _ := hr.mono (by decide)
    refine ⟨_, (pss_cons (ps_set (i := 3) scNv.nd rfl (.inl rfl) (pe_meth (pe_fld (pv 0) rfl) S.T.cl S.lx.m GL hr3 S.lx.b .nil pass0 (pa_cons (pv 2) (pa_cons (pe_tupRg rfl rfl S.Mk.tuple (prg_1 rfl S.Mk.X.range (pv 1))) pa_nil)))) (pss_cons (ps_expr (pe_meth (pv 3) S.Mk.X.cl S.no.m GN hr5 S.no.b .nil pass0 (pa_cons (pe_meth (pe_fld (pv 0) rfl) S.U.M.U.cl S.U.M.mu.m GU hr1 S.U.M.mu.b .nil pass0 (pa_cons pe_int (pa_cons pe_int pa_nil))) pa_nil))) (pss_one (ps_ret (pe_not (pe_fld (pv 3) rfl)))))), ?_⟩
    have g4 := good4 gt
    obtain ⟨ldx, lpr, lpe, lpo, lpq, hlo, _⟩ := id hS.lo
    refine ⟨_, rfl, o, S.C, dx, _, _, rfl, hS.at_, S.cl, S.nL, sf_l .., lo, ldx, _, rfl, hlo, lf_no _ _ _ _ _ (by decide +kernel) (by decide +kernel) (by decide +kernel) (by decide +kernel) (by decide +kernel), _, rfl, _, rfl, _, rfl, ⟨by omega, by omega, by omega, by omega, by omega⟩, fun z nz => ?_⟩
    rw [rgV_nat (lo := 0) (n := rest) (by omega)]
    have u3 := same_new (o := .tup (ivs (rgI 0 rest))) nz
    refine ⟨lo, z, t, sz, _, rfl, hS.lo.same u3, upd_same, fun H4 x dxx ro eo p s4 nx np hX hRo hEo => ?_⟩
    have s24 := Same.trans u3 s4
    have hS4 := hS.same s24
    obtain ⟨sdx4, hso4⟩ := id hS4.so
    obtain ⟨xh, xr, xvs, ex0, _⟩ := id hX.ex
    refine ⟨_, rfl, x, dxx, _, rfl, ex0, xf_noN .., _, rfl, o, S.C, dx, _, _, rfl, hS4.at_, S.cl, S.nS, sf_s .., so, sdx4, _, rfl, hso4, rfl, so, A1, B1, E1, _, _, rfl, hS4.so, ?_⟩
    have few : Few sz 100 0 (⟨rgI 0 rest, []⟩ : RP) := ⟨by show (rgI _ _).length ≤ _; rw [rgI_len]; exact Nat.le_trans r1 (Nat.le_mul_of_pos_right _ z1), Nat.le_refl _⟩
    refine ⟨x, dxx, ro, eo, p, 0, sz, [], false, _, _, false, ordsR t, ordsE t, 100, 0, rfl, hX, hRo, hEo, g4.l1, g4.l2, z1, by omega, few, by decide, by decide, fun H6 held' told' o6 X6 => ?_⟩
    have s26 : Same H H6 := fun b u e => o6 b u (ne_of_none (u3 _ _ e) nx) (ne_of_none (u3 _ _ e) np) (s24 _ _ e)
    obtain ⟨yh, yr, yvs, ey0, _⟩ := id X6.ex
    refine ⟨_, rfl, x, S.Mk.X.C, dxx, _, _, rfl, ey0, S.Mk.X.cl, S.Mk.X.nSt, xf_st .., _, rfl, ?_⟩
    exact k H6 s26
/-! ### is_fault -/
def spIf (S : TxSr w K mg) : Sp := fun vs H Q _ => ∃ (o dx lo so stt : Addr) (t A B E nm m : Str) (l r sz : Nat), vs = [.ref o, .ref stt, .int sz] ∧ SeAt S H o dx lo so t A B E nm ∧ goodText t = true ∧ H stt = some (.tup [.int l, .int r, .str m]) ∧ 1 ≤ sz ∧ sz ≤ 100 ∧ r ≤ 100 ∧ ∀ H', Same H H' → Q (.bl (isFaultM (ordsR t) (ordsE t) (mustU E) nm sz (l, r, m))) H'
abbrev NIf : List Str := ["self", "state", "size", "left", "rest", "mark"]
theorem scIf : FnScope NIf ["self", "state", "size"] (defScope sIf) := ⟨rfl, rfl, rfl, by decide +kernel, rfl, by decide +kernel, by decide +kernel⟩
theorem ok_if (S : TxSr w K mg) : FnOk P w K mg base CX0 7 S.isf.f S.isf.fd ["self", "state", "size"] (spIf S) := by
  have GN : FnOk P w K mg base CX0 6 S.nv.f S.nv.fd ["self", "rest", "size"] (spNv S) := ok_nv S
  obtain ⟨t5, mX⟩ := S.Mk.fault
  refine S.isf.F.ok scIf (fun vs H Q E h => ?_) (fun cdv A outer s H vs Q E hr h => ?_)
  · obtain ⟨o, _, _, _, stt, _, _, _, _, _, _, _, _, _, rfl, _⟩ := h
    rfl
  · obtain ⟨o, dx, lo, so, stt, t, A1, B1, E1, nm, m, l, r, sz, rfl, hS, gt, hst, z1, z2, r1, k⟩ := h
    refine ⟨_, (pss_cons (ps_asg (pv 1) (pg_tup rfl (pgs_cons (pg_name (i := 3) scIf.nd rfl (.inl rfl)) (pgs_cons (pg_name (i := 4) scIf.nd rfl (.inl rfl)) (pgs_cons (pg_name (i := 5) scIf.nd rfl (.inl rfl)) pgs_nil))))) (pss_cons (ps_if (pt_cmpR op_eq (pe_fld (pv 0) rfl) pe_str (nomark _)) (pss_one (ps_ret (pe_and (pe_cmpR op_eq (pv 3) pe_int (nomark _)) (pe_one (pe_meth (pv 0) S.cl S.nv.m GN hr S.nv.b .nil pass0 (pa_cons (pv 4) (pa_cons (pv 2) pa_nil))))))) pss_nil) (pss_one (ps_ret (pe_cmpR op_eq (pv 5) (pe_glob (v := .str "fault") rfl mX ⟨_, rfl⟩) (nomark _)))))), ?_⟩
    refine ⟨_, rfl, stt, _, rfl, SqT.of hst, rfl, _, _, rfl, _, _, rfl, _, _, rfl, rfl, ?_⟩
    refine ⟨_, rfl, o, S.C, dx, _, _, rfl, hS.at_, S.cl, S.nN, sf_n .., rfl, _, rfl, ?_⟩
    rw [show decide (V.str nm = V.str "ends") = decide (nm = "ends") from dS ..]
    unfold isFaultM at k
    by_cases c1 : nm = "ends"
    · rw [if_pos c1] at k
      rw [decide_eq_true c1]
      refine iteT ⟨_, rfl, rfl, _, rfl, ?_⟩
      rw [dI]
      by_cases c2 : l = 0
      · rw [show decide (((l : Nat) : Int) = 0) = true from decide_eq_true (by omega)]
        rw [show decide ((l, r, m).1 = 0) = true from decide_eq_true c2, Bool.true_and] at k
        exact iteT ⟨_, rfl, o, dx, _, rfl, hS.at_, (sf_no ..).2.2.2.1, _, rfl, _, rfl, o, dx, lo, so, t, A1, B1, E1, nm, r, sz, rfl, hS, gt, z1, z2, r1, k⟩
      · rw [show decide (((l : Nat) : Int) = 0) = false from decide_eq_false (by omega)]
        rw [show decide ((l, r, m).1 = 0) = false from decide_eq_false c2, Bool.false_and] at k
        exact iteF (k _ (Same.refl _))
    · rw [if_neg c1] at k
      rw [decide_eq_false c1]
      refine iteF ⟨_, rfl, rfl, ?_⟩
      rw [show decide (V.str m = V.str "fault") = decide (m = "fault") from dS ..]
      exact k _ (Same.refl _)
/-! ### has_fault -/
inductive Nds (H : Hp) : List V → List Node → Prop
  | nil : Nds H [] []
  | cons {q : Addr} {n : Node} {vs : List V} {ns : List Node} (h : H q = some (.tup [.int n.1, .int n.2.1, .str n.2.2])) (t : Nds H vs ns) : Nds H (.ref q :: vs) (n :: ns)
theorem Nds.mono {H H' : Hp} (f : ∀ (p : Addr) (xs : List V), H p = some (.tup xs) → H' p = some (.tup xs)) : ∀ {vs ns}, Nds H vs ns → Nds H' vs ns
  | _, _, .nil => .nil
  | _, _, .cons h t => .cons (f _ _ h) (t.mono f)
theorem Nds.len {H : Hp} : ∀ {vs ns}, Nds H vs ns → vs.length = ns.length
  | _, _, .nil => rfl
  | _, _, .cons _ t => congrArg (· + 1) t.len
theorem Nds.snoc {H : Hp} {q : Addr} {n : Node} (h : H q = some (.tup [.int n.1, .int n.2.1, .str n.2.2])) : ∀ {vs ns}, Nds H vs ns → Nds H (vs ++ [.ref q]) (ns ++ [n])
  | _, _, .nil => .cons h .nil
  | _, _, .cons a t => .cons a (t.snoc h)
theorem Nds.last {H : Hp} : ∀ {vs : List V} {ns : List Node}, Nds H vs ns → ns ≠ [] → ∃ q n ms, vs[vs.length - 1]? = some (.ref q) ∧ ns = ms ++ [n] ∧ H q = some (.tup [.int n.1, .int n.2.1, .str n.2.2]) ∧ Nds H vs.dropLast ms
  | _, _, .nil, h => absurd rfl h
  | _, _, .cons (q := q) (n := n) h .nil, _ => ⟨q, n, [], rfl, rfl, h, .nil⟩
  | _, _, .cons (q := q) (n := n) h (.cons (q := q2) (n := m) (vs := vs) (ns := ns) h2 t), _ => by
    obtain ⟨q', n', ms, a, b, c, d⟩ := Nds.last (.cons h2 t) (by simp)
    refine ⟨q', n', n :: ms, ?_, by rw [b]; rfl, c, ?_⟩
    · rw [List.length_cons, Nat.add_sub_cancel]
      have : (V.ref q2 :: vs).length - 1 + 1 = (V.ref q2 :: vs).length := by rw [List.length_cons]; omega
      rw [← this, List.getElem?_cons_succ]
      exact a
    · rw [List.dropLast_cons_of_ne_nil (by simp)]
      exact .cons h d
def keyN (n : Node) : List Key := [.inl (n.1 : Nat), .inl (n.2.1 : Nat), .inr n.2.2]
theorem key_map (n : Node) : (keyN n).map kV = [.int n.1, .int n.2.1, .str n.2.2] := rfl
theorem key_inj {a b : Node} (h : keyN a = keyN b) : a = b := by
  obtain ⟨a1, a2, a3⟩ := a
  obtain ⟨b1, b2, b3⟩ := b
  simp only [keyN, List.cons.injEq, Sum.inl.injEq, Sum.inr.injEq, and_true] at h
  obtain ⟨h1, h2, h3⟩ := h
  have h1 : a1 = b1 := by omega
  have h2 : a2 = b2 := by omega
  rw [h1, h2, h3]
/-- what stands in the search's loop -/
structure HfI (ro eo : List (Str × Str)) (tell : Tell) (can : Nat → Bool) (name : Str) (todo seen : List Node) : Prop where
  ut : ∀ n ∈ todo, n ∈ univ
  us : ∀ n ∈ seen, n ∈ univ
  nd : seen.Nodup
  rt : ∀ n ∈ todo, Reach ro eo tell can name n
  fs : ∀ n ∈ seen, isFaultM ro eo tell name 4 n = false
  cl : ∀ n ∈ seen, ∀ m ∈ succM ro eo tell can name n, m ∈ seen ∨ m ∈ todo
  ia : ((0, 0, "fine") : Node) ∈ seen ∨ ((0, 0, "fine") : Node) ∈ todo
  ib : ((1, 0, "fine") : Node) ∈ seen ∨ ((1, 0, "fine") : Node) ∈ todo
/-- the heap's part -/
structure HfH (H0 H : Hp) (a d : Addr) (todo seen : List Node) : Prop where
  same : Same H0 H
  na : H0 a = none
  nd : H0 d = none
  td : ∃ vs, H a = some (.lst vs) ∧ Nds H vs todo
  sd : ∃ kvs : List (List Key × V), H d = some (.dT kvs) ∧ kvs.length ≤ seen.length ∧ ∀ n, valV kvs (keyN n) = if n ∈ seen then some (.bl true) else none
def spHf (S : TxSr w K mg) : Sp := fun vs H Q _ => ∃ (o dx lo so : Addr) (t A B E : Str) (nm : Nm), vs = [.ref o] ∧ SeAt S H o dx lo so t A B E (nmS nm) ∧ goodText t = true ∧
  (HasF (ordsR t) (ordsE t) (mustU E) (canM A B) (nmS nm) → ∀ H', Same H H' → Q (.bl true) H') ∧ (¬ HasF (ordsR t) (ordsE t) (mustU E) (canM A B) (nmS nm) → ∀ H', Same H H' → Q (.bl false) H')
abbrev NHf : List Str := ["self", "todo", "seen", "state", "count", "left", "following"]
theorem scHf : FnScope NHf ["self"] (defScope sHf) := ⟨rfl, rfl, rfl, by decide +kernel, rfl, by decide +kernel, by decide +kernel⟩
theorem ok_hf (S : TxSr w K mg) : FnOk P w K mg base CX0 8 S.hf.f S.hf.fd ["self"] (spHf S) := by
  have GI : FnOk P w K mg base CX0 7 S.isf.f S.isf.fd ["self", "state", "size"] (spIf S) := ok_if S
  have GM : FnOk P w K mg base CX0 2 S.mv.f S.mv.fd ["self", "left"] (spMv S) := ok_mv S
  have GB : FnOk P w K mg base CX0 5 S.sb.f S.sb.fd ["self", "state", "size", "count", "left"] (spSb S) := ok_sb S
  have GR : FnOk P w K mg base CX0 1 S.mr.f S.mr.fd ["rest"] spMr := ok_mr S
  obtain ⟨t1, gz⟩ := S.mz
  obtain ⟨t2, gl⟩ := S.sl
  obtain ⟨t3, mF⟩ := S.Mk.fine
  refine S.hf.F.ok scHf (fun vs H Q E h => ?_) (fun cdv A outer s H vs Q E hr h => ?_)
  · obtain ⟨o, _, _, _, _, _, _, _, _, rfl, _⟩ := h
    rfl
  · obtain ⟨o, dx, lo, so, t, A1, B1, E1, nm, rfl, hS, gt, k1, k0⟩ := h
    have hu := hu_of hr
    have hr1 : Room 1 _ := hr.mono (by decide)
    have hr2 : Room 2 _ := hr.mono (by decide)
    have hr5 : Room 5 _ := hr.mono (by decide)
    refine ⟨_, (pss_cons (ps_set (i := 1) scHf.nd rfl (.inl rfl) (pe_lst (pa_cons (pe_tup (pa_cons pe_int (pa_cons pe_int (pa_cons (pe_glob (v := .str "fine") rfl mF ⟨_, rfl⟩) pa_nil)))) (pa_cons (pe_tup (pa_cons (pe_glob (v := .int 1) rfl gl ⟨_, rfl⟩) (pa_cons pe_int (pa_cons (pe_glob (v := .str "fine") rfl mF ⟨_, rfl⟩) pa_nil)))) pa_nil)))) (pss_cons (ps_set (i := 2) scHf.nd rfl (.inl rfl) pe_dnewT) (pss_cons (ps_while PassesOwn.never (pt_truth (pv 1) (by intro _; rfl)) (pss_cons (ps_set (i := 3) scHf.nd rfl (.inl rfl) (pe_bm0 PySem.F.plainAttrs_list PySem.F.slot_list_pop PySem.F.type_list_pop mt_pop (pv 1))) (pss_cons (ps_if (pt_cmp (pc_din hu (pv 3) (pv 2))) (pss_one ps_continue) pss_nil) (pss_cons (ps_dput hu (pv 2) (pv 3) pe_bl rfl) (pss_cons (ps_if (pt_val (pe_meth (pv 0) S.cl S.isf.m GI hr S.isf.b .nil pass0 (pa_cons (pv 3) (pa_cons (pe_glob (v := .int 4) rfl gz ⟨_, rfl⟩) pa_nil)))) (pss_one (ps_ret pe_bl)) pss_nil) (pss_one (ps_for PassesOwn.never rfl (pi_list (pe_meth (pv 0) S.cl S.mv.m GM hr2 S.mv.b .nil pass0 (pa_cons (pe_ix ix_tup (pv 3) pe_int (fun _ _ => rfl)) pa_nil))) (pg_tup rfl (pgs_cons (pg_name (i := 4) scHf.nd rfl (.inl rfl)) (pgs_cons (pg_name (i := 5) scHf.nd rfl (.inl rfl)) pgs_nil))) (pss_cons (ps_set (i := 6) scHf.nd rfl (.inl rfl) (pe_meth (pv 0) S.cl S.sb.m GB hr5 S.sb.b .nil pass0 (pa_cons (pv 3) (pa_cons (pe_glob (v := .int 4) rfl gz ⟨_, rfl⟩) (pa_cons (pv 4) (pa_cons (pv 5) pa_nil)))))) (pss_one (ps_if (pt_cmpR op_notN (pv 6) pe_non (nomark _)) (pss_one (ps_expr (pe_bm PySem.F.plainAttrs_list PySem.F.slot_list_append PySem.F.type_list_append mt_append (pv 1) (pa_cons (pe_tup (pa_cons (pv 5) (pa_cons (pe_call GR hr1 rfl S.mr.g S.mr.k S.mr.b .nil pass0 (pa_cons (pe_ix ix_tup (pv 6) pe_int (fun _ _ => rfl)) pa_nil)) (pa_cons (pe_ix ix_tup (pv 6) pe_int (fun _ _ => rfl)) pa_nil)))) pa_nil)))) pss_nil)))))))))) (pss_one (ps_ret pe_bl))))), ?_⟩
    generalize hro : ordsR t = ro at k1 k0
    generalize heo : ordsE t = eo at k1 k0
    refine ⟨(by show 3 ≤ sizeLine; decide), fun q1 nq1 => ⟨(by show 3 ≤ sizeLine; decide), fun q2 nq2 => ⟨(by show 2 ≤ sizeLine; decide), fun a na => ?_⟩⟩⟩
    have u1 := same_new (o := .tup [.int 0, .int 0, .str "fine"]) nq1
    have u2 := same_new (o := .tup [.int 1, .int 0, .str "fine"]) nq2
    have u3 := same_new (o := .lst [.ref q1, .ref q2]) na
    intro d nd
    have u4 := same_new (o := .dT []) nd
    have s3 := Same.trans u1 (Same.trans u2 u3)
    have na0 : H a = none := (Same.trans u1 u2).free na
    have nd0 : H d = none := s3.free nd
    have st0 : HfH H (upd (upd (upd (upd H q1 (.tup [.int 0, .int 0, .str "fine"])) q2 (.tup [.int 1, .int 0, .str "fine"])) a (.lst [.ref q1, .ref q2])) d (.dT [])) a d [(0, 0, "fine"), (1, 0, "fine")] [] :=
      ⟨Same.trans s3 u4, na0, nd0, ⟨_, u4 _ _ upd_same, .cons (u4 _ _ (u3 _ _ (u2 _ _ upd_same))) (.cons (u4 _ _ (u3 _ _ upd_same)) .nil)⟩, ⟨[], upd_same, Nat.le_refl _, fun n => by rw [if_neg (by simp)]; rfl⟩⟩
    have in0 : HfI ro eo (mustU E1) (canM A1 B1) (nmS nm) [(0, 0, "fine"), (1, 0, "fine")] [] := by
      refine ⟨fun n hn => ?_, fun n hn => (nomatch hn), List.nodup_nil, fun n hn => ?_, fun n hn => (nomatch hn), fun n hn => (nomatch hn), .inr (by simp), .inr (by simp)⟩
      · simp only [List.mem_cons, List.mem_nil_iff, or_false] at hn
        rcases hn with rfl | rfl <;> decide +kernel
      · simp only [List.mem_cons, List.mem_nil_iff, or_false] at hn
        rcases hn with rfl | rfl
        · exact .a
        · exact .b
    generalize upd (upd (upd (upd H q1 (.tup [.int 0, .int 0, .str "fine"])) q2 (.tup [.int 1, .int 0, .str "fine"])) a (.lst [.ref q1, .ref q2])) d (.dT []) = Hs at st0
    clear u1 u2 u3 u4 s3 na nd nq1 nq2
    -- the loop
    refine ⟨fun m σ H' => ∃ (todo seen : List Node) (v3 v4 v5 v6 : Option V), σ = [some (.ref o), some (.ref a), some (.ref d), v3, v4, v5, v6] ∧ HfH H H' a d todo seen ∧ HfI ro eo (mustU E1) (canM A1 B1) (nmS nm) todo seen ∧ 10 * (50 - seen.length) + todo.length ≤ m ∧ m ≤ 502, ⟨502, _, _, none, none, none, none, rfl, st0, in0, by decide, Nat.le_refl _⟩, ?_⟩
    clear st0 in0
    rintro m σ H1 ⟨todo, seen, v3, v4, v5, v6, rfl, hH, hI, hm, m5⟩
    obtain ⟨tvs, hta, hN⟩ := hH.td
    obtain ⟨kvs, hkd, kl, kv⟩ := hH.sd
    refine ⟨_, rfl, _, .inl ⟨_, SqL.of hta, rfl⟩, ?_⟩
    have ltv := hN.len
    by_cases e0 : todo = []
    · -- nothing is left
      subst e0
      have : tvs = [] := List.eq_nil_of_length_eq_zero ltv
      subst this
      refine iteF ?_
      have no : ¬ HasF ro eo (mustU E1) (canM A1 B1) (nmS nm) := no_fault (hI.ia.elim id fun z => nomatch z) (hI.ib.elim id fun z => nomatch z) (fun n hn m hm => (hI.cl n hn m hm).elim id fun z => nomatch z) hI.fs
      exact k0 no _ hH.same
    have ne : (!tvs.isEmpty) = true := by
      cases tvs with
      | nil => rw [List.length_nil] at ltv; exact absurd (List.eq_nil_of_length_eq_zero ltv.symm) e0
      | cons _ _ => rfl
    rw [ne]
    refine iteT ?_
    obtain ⟨q, n, ms, hq1, rfl, hq, hN2⟩ := hN.last e0
    obtain ⟨m0, rfl⟩ : ∃ m0, m = m0 + 1 := by
      rw [List.length_append] at hm
      exact ⟨m - 1, by simp at hm; omega⟩
    have lm : ms.length + 1 = (ms ++ [n]).length := by simp
    have nu : n ∈ univ := hI.ut n (by simp)
    have nR := hI.rt n (by simp)
    obtain ⟨nb1, nb2, nb3⟩ := mem_univ.mp nu
    refine ⟨fun σ H' => ∃ (todo seen : List Node) (v3 v4 v5 v6 : Option V), σ = [some (.ref o), some (.ref a), some (.ref d), v3, v4, v5, v6] ∧ HfH H H' a d todo seen ∧ HfI ro eo (mustU E1) (canM A1 B1) (nmS nm) todo seen ∧ 10 * (50 - seen.length) + todo.length ≤ m0, fun σ' H' ⟨todo, seen, v3, v4, v5, v6, e, h1, h2, h3⟩ => ⟨m0, Nat.lt_succ_self _, todo, seen, v3, v4, v5, v6, e, h1, h2, h3, by omega⟩, ?_⟩
    -- the pop
    refine ⟨_, rfl, .inl ⟨rfl, _, SqL.of hta⟩, a, _, _, rfl, rfl, hta, hq1, ?_⟩
    have ad : a ≠ d := ne_of hta hkd (by intro z; cases z)
    have up : ∀ {p : Addr} {u : HO}, p ≠ a → H1 p = some u → (upd H1 a (.lst tvs.dropLast)) p = some u := fun h e => by rw [upd_ne h]; exact e
    have tpa : ∀ (p : Addr) (xs : List V), H1 p = some (.tup xs) → (upd H1 a (.lst tvs.dropLast)) p = some (.tup xs) := tup_stays hta (by intro xs z; cases z)
    have sA : Same H (upd H1 a (.lst tvs.dropLast)) := fun b u e => by
      rw [upd_ne (ne_of_none e hH.na)]
      exact hH.same _ _ e
    have hq2 := tpa _ _ hq
    have hN3 := hN2.mono tpa
    have hta2 : (upd H1 a (.lst tvs.dropLast)) a = some (.lst tvs.dropLast) := upd_same
    have hkd2 := up ad.symm hkd
    show tSeq _ _ _ [some (.ref o), some (.ref a), some (.ref d), some (.ref q), v4, v5, v6] (upd H1 a (.lst tvs.dropLast))
    generalize upd H1 a (.lst tvs.dropLast) = H2 at sA hq2 hN3 hta2 hkd2 ⊢
    clear up tpa hq hN2 hta hkd
    have sub : ∀ x ∈ ms, x ∈ ms ++ [n] := fun x hx => List.mem_append_left _ hx
    refine ⟨_, rfl, _, rfl, d, _, rfl, DGet.t (k := keyN n) hkd2 hq2, _, rfl, ?_⟩
    rw [kv]
    by_cases hs : n ∈ seen
    · rw [if_pos hs]
      refine iteT ?_
      refine ⟨ms, seen, _, _, _, _, rfl, ⟨sA, hH.na, hH.nd, ⟨_, hta2, hN3⟩, ⟨kvs, hkd2, kl, kv⟩⟩, ?_, by omega⟩
      have mv : ∀ x, x ∈ seen ∨ x ∈ ms ++ [n] → x ∈ seen ∨ x ∈ ms := fun x h => h.elim .inl fun h => (List.mem_append.mp h).elim .inr fun h => .inl (by rw [List.mem_singleton.mp h]; exact hs)
      exact ⟨fun x hx => hI.ut x (sub x hx), hI.us, hI.nd, fun x hx => hI.rt x (sub x hx), hI.fs, fun x hx y hy => mv y (hI.cl x hx y hy), mv _ hI.ia, mv _ hI.ib⟩
    rw [if_neg hs]
    refine iteF ?_
    have sl := nodup_len hI.nd hI.us
    have nd2 : (n :: seen).Nodup := List.nodup_cons.mpr ⟨hs, hI.nd⟩
    have us2 : ∀ x ∈ n :: seen, x ∈ univ := fun x hx => (List.mem_cons.mp hx).elim (fun e => by rw [e]; exact nu) (hI.us x)
    have sl2 := nodup_len nd2 us2
    rw [List.length_cons] at sl2
    refine ⟨_, rfl, _, rfl, d, _, rfl, DPut.t (k := keyN n) hkd2 hq2 (szM (by omega)), ?_⟩
    have da : d ≠ a := ad.symm
    have qd : q ≠ d := ne_of hq2 hkd2 (by intro z; cases z)
    have tpd : ∀ (p : Addr) (xs : List V), H2 p = some (.tup xs) → (upd H2 d (.dT (putK kvs (keyN n) (.bl true)))) p = some (.tup xs) := tup_stays hkd2 (by intro xs z; cases z)
    have sB : Same H (upd H2 d (.dT (putK kvs (keyN n) (.bl true)))) := fun b u e => by
      rw [upd_ne (ne_of_none e hH.nd)]
      exact sA _ _ e
    have hq3 := tpd _ _ hq2
    have hN4 := hN3.mono tpd
    have hta3 : (upd H2 d (.dT (putK kvs (keyN n) (.bl true)))) a = some (.lst tvs.dropLast) := by rw [upd_ne ad]; exact hta2
    have hkd3 : (upd H2 d (.dT (putK kvs (keyN n) (.bl true)))) d = some (.dT (putK kvs (keyN n) (.bl true))) := upd_same
    have kl3 := Nat.le_trans (length_putK kvs (keyN n) (.bl true)) (Nat.succ_le_succ kl)
    have kv3 : ∀ x, valV (putK kvs (keyN n) (.bl true)) (keyN x) = if x ∈ n :: seen then some (.bl true) else none := fun x => by
      rw [valV_put, kv]
      by_cases e : x = n
      · rw [e, if_pos rfl, if_pos List.mem_cons_self]
      · rw [if_neg (fun z => e (key_inj z))]
        by_cases h : x ∈ seen
        · rw [if_pos h, if_pos (List.mem_cons_of_mem _ h)]
        · rw [if_neg h, if_neg (fun z => (List.mem_cons.mp z).elim e h)]
    show tSeq _ _ _ [some (.ref o), some (.ref a), some (.ref d), some (.ref q), v4, v5, v6] (upd H2 d (.dT (putK kvs (keyN n) (.bl true))))
    generalize upd H2 d (.dT (putK kvs (keyN n) (.bl true))) = H3 at sB hq3 hN4 hta3 hkd3 ⊢
    generalize putK kvs (keyN n) (.bl true) = kvs3 at kl3 kv3 hkd3
    clear tpd sA hkd2 hta2 hq2 hN3
    -- is it a fault
    have hS3 := hS.same sB
    have rb : n.2.1 ≤ 8 := by
      have := nb2
      simp only [List.mem_cons, List.mem_nil_iff, or_false] at this
      omega
    refine ⟨_, rfl, o, dx, _, rfl, hS3.at_, (sf_no ..).2.2.1, _, rfl, o, dx, lo, so, q, t, A1, B1, E1, nmS nm, n.2.2, n.1, n.2.1, 4, rfl, hS3, gt, hq3, by decide, by decide, by omega, fun H4 s4 => ⟨_, rfl, ?_⟩⟩
    rw [hro, heo]
    have stay : ∀ {H5 : Hp}, Same H3 H5 → Same H H5 ∧ H5 q = some (.tup [.int n.1, .int n.2.1, .str n.2.2]) ∧ Nds H5 tvs.dropLast ms ∧ H5 a = some (.lst tvs.dropLast) ∧ H5 d = some (.dT kvs3) := fun s5 => ⟨Same.trans sB s5, s5 _ _ hq3, hN4.mono fun _ _ e => s5 _ _ e, s5 _ _ hta3, s5 _ _ hkd3⟩
    cases hf : isFaultM ro eo (mustU E1) (nmS nm) 4 (n.1, n.2.1, n.2.2) with
    | true => exact iteT (k1 ⟨n, nR, hf⟩ _ (Same.trans sB s4))
    | false =>
      refine iteF ?_
      obtain ⟨sC, hq4, hN5, hta4, hkd4⟩ := stay s4
      have hS4 := hS.same sC
      refine ⟨_, rfl, o, dx, _, rfl, hS4.at_, (sf_no ..).1, _, rfl, q, _, 0, _, rfl, rfl, SqT.of hq4, rfl, o, dx, lo, so, t, A1, B1, E1, nmS nm, n.1, rfl, hS4, fun H5 qm mvs s5 nqm hqm hM => ?_⟩
      obtain ⟨sD, hq5, hN6, hta5, hkd5⟩ := stay (Same.trans s4 s5)
      have lmv := hM.len
      have lmo := moves_len (canM A1 B1) n.1
      have qma : qm ≠ a := (ne_of_none hta4 nqm).symm
      have qmd : qm ≠ d := (ne_of_none hkd4 nqm).symm
      have qa : q ≠ a := ne_of hq5 hta5 (by intro z; cases z)
      have suc : succM ro eo (mustU E1) (canM A1 B1) (nmS nm) n = (movesM (canM A1 B1) n.1).filterMap (nextM ro eo (mustU E1) (nmS nm) n) := rfl
      generalize hmo : movesM (canM A1 B1) n.1 = mo at hM lmv lmo suc
      refine ⟨qm, rfl, ⟨_, SqL.of hqm⟩, for_list (K := K) (a := qm) (xs := mvs) (fun i σ H' => ∃ (v4 v5 v6 : Option V), σ = [some (.ref o), some (.ref a), some (.ref d), some (.ref q), v4, v5, v6] ∧ HfH H H' a d (ms ++ (mo.take i).filterMap (nextM ro eo (mustU E1) (nmS nm) n)) (n :: seen) ∧ H' qm = some (.lst mvs) ∧ Mvs H' mvs mo ∧ H' q = some (.tup [.int n.1, .int n.2.1, .str n.2.2]))
        ⟨v4, v5, v6, rfl, ⟨sD, hH.na, hH.nd, ⟨_, hta5, by rw [List.take_zero]; simpa using hN6⟩, ⟨kvs3, hkd5, kl3, kv3⟩⟩, hqm, hM, hq5⟩ (fun i σ H' _ ⟨_, _, _, _, _, e, _⟩ => SqL.of e) ?_ ?_⟩
      · rintro i y σ H6 hy ⟨w4, w5, w6, rfl, h6, hqm6, hM6, hq6⟩
        obtain ⟨p, mv, hmv, rfl, hp⟩ := hM6.get hy
        have mm : mv ∈ movesM (canM A1 B1) n.1 := by rw [hmo]; exact List.mem_of_getElem? hmv
        obtain ⟨mc, mleft⟩ := moves_get mm
        have et : (mo.take (i + 1)).filterMap (nextM ro eo (mustU E1) (nmS nm) n) = (mo.take i).filterMap (nextM ro eo (mustU E1) (nmS nm) n) ++ (nextM ro eo (mustU E1) (nmS nm) n mv).toList := by
          rw [List.take_add_one, hmv, List.filterMap_append]
          congr 1
        refine ⟨p, _, rfl, SqT.of hp, rfl, _, _, rfl, _, _, rfl, rfl, ?_⟩
        have hS6 := hS.same h6.same
        refine ⟨_, rfl, o, dx, _, rfl, hS6.at_, (sf_no ..).2.1, _, rfl, _, rfl, _, rfl, o, dx, lo, so, q, t, A1, B1, E1, n.2.2, nm, n.1, n.2.1, 4, mv.1, mv.2, rfl, hS6, gt, hq6, by decide, by decide, mc, by omega, by omega, fun hnone H7 s7 => ?_, fun f hsome H7 q7 s7 hq7 => ?_⟩
        · rw [hro, heo] at hnone
          have nx : nextM ro eo (mustU E1) (nmS nm) n mv = none := by unfold nextM; rw [hnone]; rfl
          rw [nx, Option.toList_none, List.append_nil] at et
          refine ⟨_, rfl, rfl, _, rfl, iteF ⟨_, _, _, rfl, ?_, s7 _ _ hqm6, hM6.mono fun _ _ e => s7 _ _ e, s7 _ _ hq6⟩⟩
          rw [et]
          obtain ⟨b1, b2, b3, ⟨b4, b5, b6⟩, b7, b8, b9, b10⟩ := h6
          exact ⟨Same.trans b1 s7, b2, b3, ⟨b4, s7 _ _ b5, b6.mono fun _ _ e => s7 _ _ e⟩, ⟨b7, s7 _ _ b8, b9, b10⟩⟩
        · rw [hro, heo] at hsome
          have nx : nextM ro eo (mustU E1) (nmS nm) n mv = some (mv.2, restM f.2.1, f.2.2) := by unfold nextM; rw [hsome]; rfl
          rw [nx, Option.toList_some] at et
          obtain ⟨b1, b2, b3, ⟨b4, b5, b6⟩, b7, b8, b9, b10⟩ := h6
          have b5' := s7 _ _ b5
          refine ⟨_, rfl, rfl, _, rfl, iteT ?_⟩
          refine ⟨_, rfl, .inl ⟨rfl, _, SqL.of b5'⟩, _, rfl, _, rfl, q7, _, 1, _, rfl, rfl, SqT.of hq7, rfl, f.2.1, rfl, _, rfl, q7, _, 2, _, rfl, rfl, SqT.of hq7, rfl, (by show 3 ≤ sizeLine; decide), fun tq ntq => ?_⟩
          have u8 := same_new (o := .tup [.int mv.2, .int (restM f.2.1 : Nat), .str f.2.2]) ntq
          have s8 := Same.trans s7 u8
          have b5'' := u8 _ _ b5'
          have lb := b6.len
          have lfm : ((mo.take i).filterMap (nextM ro eo (mustU E1) (nmS nm) n)).length ≤ 9 := Nat.le_trans (List.length_filterMap_le _ _) (by rw [List.length_take]; omega)
          have lms : ms.length ≤ 1000 := by
            rw [List.length_append] at hm
            omega
          refine ⟨a, _, _, rfl, rfl, b5'', szM (by rw [lb, List.length_append]; omega), ?_⟩
          have tp : ∀ (p : Addr) (xs : List V), (upd H7 tq (.tup [.int mv.2, .int (restM f.2.1 : Nat), .str f.2.2])) p = some (.tup xs) → (upd (upd H7 tq (.tup [.int mv.2, .int (restM f.2.1 : Nat), .str f.2.2])) a (.lst (b4 ++ [.ref tq]))) p = some (.tup xs) := tup_stays b5'' (by intro xs z; cases z)
          refine ⟨_, _, _, rfl, ?_, by rw [upd_ne qma]; exact s8 _ _ hqm6, (hM6.mono fun _ _ e => s8 _ _ e).mono tp, tp _ _ (s8 _ _ hq6)⟩
          rw [et, ← List.append_assoc]
          refine ⟨fun b u e => ?_, b2, b3, ⟨_, upd_same, Nds.snoc (n := (mv.2, restM f.2.1, f.2.2)) (tp _ _ upd_same) ((b6.mono fun _ _ e => s8 _ _ e).mono tp)⟩, ⟨b7, by rw [upd_ne da]; exact s8 _ _ b8, b9, b10⟩⟩
          rw [upd_ne (ne_of_none e b2)]
          exact s8 _ _ (b1 _ _ e)
      · rintro σ H6 ⟨w4, w5, w6, rfl, h6, _⟩
        rw [lmv, List.take_length, ← suc] at h6
        have ls : (succM ro eo (mustU E1) (canM A1 B1) (nmS nm) n).length ≤ 9 := by rw [suc]; exact Nat.le_trans (List.length_filterMap_le _ _) lmo
        have mv : ∀ x, x ∈ seen ∨ x ∈ ms ++ [n] → x ∈ n :: seen ∨ x ∈ ms ++ succM ro eo (mustU E1) (canM A1 B1) (nmS nm) n := fun x h => h.elim (fun h => .inl (List.mem_cons_of_mem _ h)) fun h => (List.mem_append.mp h).elim (fun h => .inr (List.mem_append_left _ h)) fun h => .inl (by rw [List.mem_singleton.mp h]; exact List.mem_cons_self)
        refine ⟨_, _, _, _, _, _, rfl, h6, ⟨fun x hx => ?_, us2, nd2, fun x hx => ?_, fun x hx => ?_, fun x hx y hy => ?_, mv _ hI.ia, mv _ hI.ib⟩, ?_⟩
        · rcases List.mem_append.mp hx with hx | hx
          · exact hI.ut x (sub x hx)
          · obtain ⟨p, hp, e⟩ := List.mem_filterMap.mp hx
            exact next_univ nu hp e
        · rcases List.mem_append.mp hx with hx | hx
          · exact hI.rt x (sub x hx)
          · exact .step nR hx
        · rcases List.mem_cons.mp hx with rfl | hx
          · exact hf
          · exact hI.fs x hx
        · rcases List.mem_cons.mp hx with rfl | hx
          · exact .inr (List.mem_append_right _ hy)
          · exact mv y (hI.cl x hx y hy)
        · rw [List.length_append, List.length_cons]
          rw [List.length_append, List.length_singleton] at hm
          omega
end
end My

/-! the same run, as a law walks it: rest by rest -/
namespace CoM
open PySem EM
def said (E : Str) (left c : Nat) : Bool := if left = 0 then decide (E ≠ "empty") else (decide (E = "with") && decide (c = left))
def out (s : WS) : Option (Nat × List (List Int)) := if s.st = true then some (s.ak, s.x.pieces) else none
def lwA (sz : Nat) (ro eo : List (Str × Str)) (E : Str) (N first : Nat) (s : WS) : WS := ansS sz ro eo (itF first (min (N - first) sz)) (said E (N - first) (min (N - first) sz)) s
def lwS (sz : Nat) (ro eo : List (Str × Str)) (E : Str) (N : Nat) : Nat → Nat → WS → Option (Nat × List (List Int))
  | 0, _, _ => none
  | k + 1, first, s => if (lwA sz ro eo E N first s).st = true then some ((lwA sz ro eo E N first s).ak, (lwA sz ro eo E N first s).x.pieces) else if min (N - first) sz = 0 ∧ (lwA sz ro eo E N first s).x.rest = s.x.rest then none else lwS sz ro eo E N k (first + min (N - first) sz) (lwA sz ro eo E N first s)
theorem lwS_succ (sz : Nat) (ro eo : List (Str × Str)) (E : Str) (N k first : Nat) (s : WS) : lwS sz ro eo E N (k + 1) first s = if (lwA sz ro eo E N first s).st = true then some ((lwA sz ro eo E N first s).ak, (lwA sz ro eo E N first s).x.pieces) else if min (N - first) sz = 0 ∧ (lwA sz ro eo E N first s).x.rest = s.x.rest then none else lwS sz ro eo E N k (first + min (N - first) sz) (lwA sz ro eo E N first s) := rfl
theorem run_suffix (sz : Nat) (told : Bool) : ∀ (ws : List (Str × Str)) (x : RP), ∃ d, (runW sz [] told ws x).1.rest = x.rest.drop d
  | [], x => ⟨0, rfl⟩
  | (t, s) :: r, x => by
    rw [show runW sz [] told ((t, s) :: r) x = if passM sz [] told t x.rest = true then (if s = "again" then (x, false) else if s = "stop" then (x, true) else runW sz [] told r (perfM sz [] s x)) else runW sz [] told r x from rfl]
    split
    · split
      · exact ⟨0, rfl⟩
      split
      · exact ⟨0, rfl⟩
      · obtain ⟨d, e⟩ := run_suffix sz told r (perfM sz [] s x)
        have : ∃ d, (perfM sz [] s x).rest = x.rest.drop d := by
          unfold perfM
          split
          · exact ⟨0, List.append_nil _⟩
          split
          · exact ⟨0, rfl⟩
          split
          · exact ⟨_, rfl⟩
          split
          · exact ⟨x.rest.length, List.drop_length.symm⟩
          · exact ⟨0, rfl⟩
        obtain ⟨d2, e2⟩ := this
        exact ⟨d2 + d, by rw [e, e2, List.drop_drop]⟩
    · exact run_suffix sz told r x
theorem rest_eq {sz : Nat} {ro eo : List (Str × Str)} {told : Bool} {x : RP} (h : (ansM sz ro eo [] told x).2 = false) : (ansM sz ro eo [] told x).1.rest.length = x.rest.length ↔ (ansM sz ro eo [] told x).1.rest = x.rest := by
  refine ⟨fun e => ?_, fun e => by rw [e]⟩
  have e0 : (ansM sz ro eo [] told x).1 = (runW sz [] told ro x).1 := by
    unfold ansM at h ⊢
    split at h
    · cases h
    · rename_i c
      rw [if_neg c]
  rw [e0] at e ⊢
  obtain ⟨d, ed⟩ := run_suffix sz told ro x
  rw [ed] at e ⊢
  rw [List.length_drop] at e
  by_cases c : d = 0
  · rw [c]; rfl
  · have : x.rest = [] := List.length_eq_zero_iff.mp (by omega)
    rw [this, List.drop_nil]
theorem itF0 (f : Nat) : itF f 0 = [] := rfl
theorem lwA_no {sz : Nat} {ro eo : List (Str × Str)} {E : Str} (N : Nat) (s : WS) : lwA sz ro eo E N N s = ansS sz ro eo [] (tl E) s := by
  unfold lwA
  rw [Nat.sub_self, Nat.zero_min]
  rfl
theorem lw_no {sz : Nat} (z : 1 ≤ sz) (ro eo : List (Str × Str)) (E : Str) (N : Nat) : ∀ (k k' : Nat) (m : Option Nat) (s : WS), s.st = false → some s.x.rest.length ≠ m → rk sz s.x.rest.length + 2 ≤ k → rk sz s.x.rest.length + 2 ≤ k' → lwS sz ro eo E N k' N s = out (noS sz ro eo (tl E) k m s)
  | 0, k', m, s, _, _, h, _ => by omega
  | k + 1, k', m, s, hs, hm, h1, h2 => by
    obtain ⟨k', rfl⟩ : ∃ j, k' = j + 1 := ⟨k' - 1, by omega⟩
    have eN : noS sz ro eo (tl E) (k + 1) m s = noS sz ro eo (tl E) k (some s.x.rest.length) (ansS sz ro eo [] (tl E) s) := by
      show (if s.st = true then s else if some s.x.rest.length = m then s else _) = _
      rw [if_neg (by rw [hs]; decide), if_neg hm]
    rw [lwS_succ, lwA_no, eN, Nat.sub_self, Nat.zero_min]
    by_cases c : (ansS sz ro eo [] (tl E) s).st = true
    · rw [if_pos c, no_stop _ _ _ _ _ _ _ c]
      unfold out
      rw [if_pos c]
    · have cf : (ansM sz ro eo [] (tl E) s.x).2 = false := by
        have : ¬ (ansM sz ro eo [] (tl E) s.x).2 = true := c
        simpa using this
      rw [if_neg c]
      by_cases d : (ansS sz ro eo [] (tl E) s).x.rest = s.x.rest
      · rw [if_pos ⟨rfl, d⟩]
        have e : noS sz ro eo (tl E) k (some s.x.rest.length) (ansS sz ro eo [] (tl E) s) = ansS sz ro eo [] (tl E) s := by
          cases k with
          | zero => rfl
          | succ k =>
            show (if _ = true then _ else if some (ansS sz ro eo [] (tl E) s).x.rest.length = some s.x.rest.length then _ else _) = _
            rw [if_neg c, if_pos (by rw [d])]
        rw [e]
        unfold out
        rw [if_neg c]
      · rw [if_neg (fun y => d y.2)]
        have nl : (ansS sz ro eo [] (tl E) s).x.rest.length ≠ s.x.rest.length := fun y => d ((rest_eq cf).mp y)
        have dn : rk sz (ansS sz ro eo [] (tl E) s).x.rest.length < rk sz s.x.rest.length := (rk_down z (no_rest cf)).resolve_left nl
        exact lw_no z ro eo E N k k' (some s.x.rest.length) _ cf (fun y => nl (Option.some.inj y)) (by omega) (by omega)
theorem said_tell {E : Str} (hE : isE E) (left c after : Nat) (h0 : left ≠ 0) (h : c + after = left) : said E left c = tell E left after := by
  rw [tell_some hE _ _ h0]
  unfold said
  rw [if_neg h0]
  unfold wl
  exact congrArg (_ && ·) (decide_eq_decide.mpr (by omega))
theorem lw_ex {sz : Nat} (z : 1 ≤ sz) (ro eo : List (Str × Str)) {E : Str} (hE : isE E) (N : Nat) : ∀ (k k' first : Nat) (s : WS), s.st = false → first ≤ N → N < first + k → N - first + 4 ≤ k' → lwS sz ro eo E N k' first s = out (noS sz ro eo (tl E) 4 none (exS sz ro eo E N k first s))
  | 0, k', first, s, _, h1, h2, _ => by omega
  | k + 1, k', first, s, hs, h1, h2, h3 => by
    by_cases e : first = N
    · subst e
      rw [ex_end]
      have := rk_le sz s.x.rest.length
      exact lw_no z ro eo E first 4 k' none s hs (by intro y; cases y) (by omega) (by omega)
    · obtain ⟨k', rfl⟩ : ∃ j, k' = j + 1 := ⟨k' - 1, by omega⟩
      have em : min (first + sz) N - first = min (N - first) sz := by omega
      have eA : lwA sz ro eo E N first s = ansS sz ro eo (itF first (min (first + sz) N - first)) (tell E (N - first) (N - min (first + sz) N)) s := by
        unfold lwA
        rw [said_tell hE (N - first) (min (N - first) sz) (N - min (first + sz) N) (by omega) (by omega), em]
      have eX : exS sz ro eo E N (k + 1) first s = exS sz ro eo E N k (min (first + sz) N) (lwA sz ro eo E N first s) := by
        rw [eA]
        show (if first < N ∧ s.st = false then _ else s) = _
        rw [if_pos ⟨by omega, hs⟩]
      rw [eX, lwS_succ]
      by_cases c : (lwA sz ro eo E N first s).st = true
      · rw [if_pos c, ex_stop _ _ _ _ _ _ _ _ c, no_stop _ _ _ _ _ _ _ c]
        unfold out
        rw [if_pos c]
      · rw [if_neg c, if_neg (by omega), show first + min (N - first) sz = min (first + sz) N by omega]
        exact lw_ex z ro eo hE N k k' (min (first + sz) N) _ (by simpa using c) (by omega) (by omega) (by omega)
theorem lw_wk {sz : Nat} (z : 1 ≤ sz) (ro eo : List (Str × Str)) {E : Str} (hE : isE E) (N : Nat) : lwS sz ro eo E N (N + 9) 0 ⟨⟨[], []⟩, 0, false⟩ = out (wkS sz ro eo E N) :=
  lw_ex z ro eo hE N (N + 1) (N + 9) 0 _ rfl (Nat.zero_le _) (by omega) (by omega)
theorem out_asked (s : WS) : (out s).map (·.1) = asked s := by
  unfold out asked
  split <;> rfl
/-- the numbers of a form, and its step -/
theorem noth_le (told : Bool) (ro : List (Str × Str)) : ∀ (k : Nat) (a : A) (r : Nat), nothA told ro k a = some r → r ≤ k
  | 0, a, r, h => by cases h
  | k + 1, a, r, h => by
    have h : (if (runA .no told ro a).2 = true then some 1 else if (runA .no told ro a).1 = a then none else (nothA told ro k (runA .no told ro a).1).map (· + 1)) = some r := h
    split at h
    · cases h; omega
    split at h
    · cases h
    · cases e : nothA told ro k (runA .no told ro a).1 with
      | none => rw [e] at h; cases h
      | some r' =>
        rw [e] at h
        cases h
        have := noth_le told ro k _ _ e
        show r' + 1 ≤ _
        omega
theorem ask_le (ro : List (Str × Str)) (E : Str) (part : Bool) : ∀ (q : Nat) (a : A) (r : Nat), askA ro E part q a = some r → r ≤ q + 4
  | 0, a, r, h => by
    have h : (if part = true then (if (runA .part (wl E) ro a).2 = true then some 1 else (nothA (tl E) ro 3 (runA .part (wl E) ro a).1).map (· + 1)) else nothA (tl E) ro 3 a) = some r := h
    split at h
    · split at h
      · cases h; omega
      · cases e : nothA (tl E) ro 3 (runA .part (wl E) ro a).1 with
        | none => rw [e] at h; cases h
        | some r' =>
          rw [e] at h
          cases h
          have := noth_le _ _ _ _ _ e
          show r' + 1 ≤ _
          omega
    · have := noth_le _ _ _ _ _ h
      omega
  | q + 1, a, r, h => by
    have h : (if (runA .full (wl E && decide (q = 0) && !part) ro a).2 = true then some 1 else (askA ro E part q (runA .full (wl E && decide (q = 0) && !part) ro a).1).map (· + 1)) = some r := h
    split at h
    · cases h; omega
    · generalize (runA .full (wl E && decide (q = 0) && !part) ro a).1 = b at h
      cases e : askA ro E part q b with
      | none => rw [e] at h; cases h
      | some r' =>
        rw [e] at h
        cases h
        have := ask_le ro E part q b r' e
        show r' + 1 ≤ _
        omega
def numA (ro : List (Str × Str)) (E : Str) (part : Bool) (q : Nat) : Option Nat := askA ro E part q .e
def stepA (ro : List (Str × Str)) (E : Str) (part : Bool) : Nat := match numA ro E part 4, numA ro E part 5 with | some l, some m => m - l | _, _ => 0
/-- from the fifth number on -/
theorem num_far (ro : List (Str × Str)) (E : Str) (part : Bool) : stepA ro E part ≤ 1 ∧ (numA ro E part 4 = none → ∀ q, 4 ≤ q → numA ro E part q = none) ∧ ∀ l, numA ro E part 4 = some l → ∀ q, 4 ≤ q → numA ro E part q = some (l + stepA ro E part * (q - 4)) := by
  unfold numA stepA
  rcases ask_per ro E part with ⟨c, h⟩ | h
  · have h4 := h 4 (by omega)
    have h5 := h 5 (by omega)
    unfold numA
    rw [h4, h5]
    refine ⟨(by show c - c ≤ 1; omega), (fun z => by cases z), fun l el q hq => ?_⟩
    cases el
    rw [h q (by omega)]
    show some c = some (c + (c - c) * (q - 4))
    rw [Nat.sub_self, Nat.zero_mul, Nat.add_zero]
  · unfold numA
    have h5 := h 4 (by omega)
    rw [h5]
    cases e : askA ro E part 4 .e with
    | none =>
      refine ⟨(by show 0 ≤ 1; omega), fun _ q hq => ?_, fun l el => by cases el⟩
      obtain ⟨d, rfl⟩ : ∃ d, q = 4 + d := ⟨q - 4, by omega⟩
      clear hq
      induction d with
      | zero => exact e
      | succ d ih => rw [show 4 + (d + 1) = 4 + d + 1 by omega, h _ (by omega), ih]; rfl
    | some l =>
      refine ⟨(by show l + 1 - l ≤ 1; omega), (fun z => by cases z), fun l' el q hq => ?_⟩
      cases el
      obtain ⟨d, rfl⟩ : ∃ d, q = 4 + d := ⟨q - 4, by omega⟩
      clear hq
      show askA ro E part (4 + d) .e = some (l + (l + 1 - l) * (4 + d - 4))
      rw [show l + 1 - l = 1 by omega, Nat.one_mul, show 4 + d - 4 = d by omega]
      induction d with
      | zero => exact e
      | succ d ih => rw [show 4 + (d + 1) = 4 + d + 1 by omega, h _ (by omega), ih]; show some (l + d + 1) = _; rw [Nat.add_assoc]
end CoM

/-! the replies of an exact and prompt source, and a run with them -/
namespace CoM
open PySem EM
def tlS (E : Str) (sz : Nat) : Nat → Nat → List (Nat × Bool)
  | 0, _ => []
  | n + 1, left => (min left sz, said E left (min left sz)) :: tlS E sz n (left - min left sz)
theorem tlS_len (E : Str) (sz : Nat) : ∀ n left, (tlS E sz n left).length = n
  | 0, _ => rfl
  | n + 1, left => by rw [tlS, List.length_cons, tlS_len]
theorem tlS_le (E : Str) (sz : Nat) : ∀ n left, ∀ r ∈ tlS E sz n left, r.1 ≤ sz
  | 0, _, r, h => by cases h
  | n + 1, left, r, h => by
    rcases List.mem_cons.mp h with rfl | h
    · exact Nat.min_le_right _ _
    · exact tlS_le E sz n _ r h
/-- one reply more to a run: the row, the items that came, how many replies, whether it has stopped -/
structure RS' where
  x : RP
  f : Nat
  u : Nat
  st : Bool
def stp (sz : Nat) (ro eo : List (Str × Str)) (s : RS') (r : Nat × Bool) : RS' := if s.st = true then s else ⟨(ansM sz ro eo (itF s.f r.1) r.2 s.x).1, s.f + r.1, s.u + 1, (ansM sz ro eo (itF s.f r.1) r.2 s.x).2⟩
theorem stp_stop {sz : Nat} {ro eo : List (Str × Str)} {s : RS'} (h : s.st = true) : ∀ rs : List (Nat × Bool), rs.foldl (stp sz ro eo) s = s
  | [] => rfl
  | r :: rs => by
    rw [List.foldl_cons, show stp sz ro eo s r = s by rw [stp, if_pos h], stp_stop h rs]
theorem tale_cons {sz : Nat} {ro eo : List (Str × Str)} {E : Str} {N : Nat} {n first : Nat} {s : WS} (hf : first ≤ N) (h : s.st = false) : (tlS E sz (n + 1) (N - first)).foldl (stp sz ro eo) ⟨s.x, first, s.ak, false⟩ = (tlS E sz n (N - (first + min (N - first) sz))).foldl (stp sz ro eo) ⟨(lwA sz ro eo E N first s).x, first + min (N - first) sz, (lwA sz ro eo E N first s).ak, (lwA sz ro eo E N first s).st⟩ := by
  rw [tlS, List.foldl_cons, stp, if_neg (show ¬ false = true by decide), Nat.sub_sub]
  rfl
/-- a run that stops -/
theorem tale_stop {sz : Nat} {ro eo : List (Str × Str)} {E : Str} {N : Nat} : ∀ (k first n : Nat) (s : WS) (ak : Nat) (ps : List (List Int)), first ≤ N → s.st = false → lwS sz ro eo E N k first s = some (ak, ps) → ak ≤ s.ak + n →
    ((tlS E sz n (N - first)).foldl (stp sz ro eo) ⟨s.x, first, s.ak, false⟩).x.pieces = ps ∧ ((tlS E sz n (N - first)).foldl (stp sz ro eo) ⟨s.x, first, s.ak, false⟩).u = ak ∧ ((tlS E sz n (N - first)).foldl (stp sz ro eo) ⟨s.x, first, s.ak, false⟩).st = true ∧ s.ak < ak
  | 0, first, n, s, ak, ps, hf, h, e, hn => by cases e
  | k + 1, first, n, s, ak, ps, hf, h, e, hn => by
    rw [lwS_succ] at e
    have ea : (lwA sz ro eo E N first s).ak = s.ak + 1 := rfl
    split at e
    next c =>
      cases e
      rw [ea] at hn ⊢
      obtain ⟨n, rfl⟩ : ∃ m, n = m + 1 := ⟨n - 1, by omega⟩
      rw [tale_cons hf h, stp_stop c]
      exact ⟨rfl, rfl, c, by omega⟩
    next c =>
      have c : (lwA sz ro eo E N first s).st = false := by simpa using c
      split at e
      · cases e
      · have ih := fun n hn => tale_stop k (first + min (N - first) sz) n (lwA sz ro eo E N first s) ak ps (by omega) c e hn
        have lt := (ih ak (by omega)).2.2.2
        rw [ea] at lt
        obtain ⟨n, rfl⟩ : ∃ m, n = m + 1 := ⟨n - 1, by omega⟩
        obtain ⟨i1, i2, i3, _⟩ := ih n (by rw [ea]; omega)
        rw [tale_cons hf h, c]
        exact ⟨i1, i2, i3, by omega⟩
theorem ans_rest (sz : Nat) (ro eo : List (Str × Str)) (held : List Int) (told : Bool) (x y : RP) (e : x.rest = y.rest) : (ansM sz ro eo held told x).2 = (ansM sz ro eo held told y).2 ∧ ((ansM sz ro eo held told x).2 = false → (ansM sz ro eo held told x).1.rest = (ansM sz ro eo held told y).1.rest) := by
  have rp : ∀ (s : Str) (x y : RP), x.rest = y.rest → (perfM sz held s x).rest = (perfM sz held s y).rest := fun s x y e => by
    unfold perfM
    split
    · show x.rest ++ held = y.rest ++ held
      rw [e]
    split
    · exact e
    split
    · show x.rest.drop _ = y.rest.drop _
      rw [e]
    split
    · rfl
    · exact e
  have rr : ∀ (ws : List (Str × Str)) (x y : RP), x.rest = y.rest → (runW sz held told ws x).1.rest = (runW sz held told ws y).1.rest ∧ (runW sz held told ws x).2 = (runW sz held told ws y).2 := fun ws => by
    induction ws with
    | nil => exact fun x y e => ⟨e, rfl⟩
    | cons w r ih =>
      intro x y e
      obtain ⟨t, s⟩ := w
      rw [show runW sz held told ((t, s) :: r) x = if passM sz held told t x.rest = true then (if s = "again" then (x, false) else if s = "stop" then (x, true) else runW sz held told r (perfM sz held s x)) else runW sz held told r x from rfl,
        show runW sz held told ((t, s) :: r) y = if passM sz held told t y.rest = true then (if s = "again" then (y, false) else if s = "stop" then (y, true) else runW sz held told r (perfM sz held s y)) else runW sz held told r y from rfl, e]
      split
      · split
        · exact ⟨e, rfl⟩
        split
        · exact ⟨e, rfl⟩
        · exact ih _ _ (rp s x y e)
      · exact ih _ _ e
  obtain ⟨a, b⟩ := rr ro x y e
  unfold ansM
  rw [b]
  split
  · exact ⟨rfl, fun z => by cases z⟩
  · exact ⟨rfl, fun _ => a⟩
/-- nothing comes any more, and the rest stays -/
theorem tale_still {sz : Nat} {ro eo : List (Str × Str)} {E : Str} {N : Nat} : ∀ (n : Nat) (s : WS), s.st = false → (lwA sz ro eo E N N s).st = false → (lwA sz ro eo E N N s).x.rest = s.x.rest →
    ((tlS E sz n (N - N)).foldl (stp sz ro eo) ⟨s.x, N, s.ak, false⟩).st = false ∧ ((tlS E sz n (N - N)).foldl (stp sz ro eo) ⟨s.x, N, s.ak, false⟩).u = s.ak + n
  | 0, s, _, _, _ => ⟨rfl, rfl⟩
  | n + 1, s, h, c, e => by
    have m0 : N + min (N - N) sz = N := by rw [Nat.sub_self, Nat.zero_min, Nat.add_zero]
    rw [tale_cons (Nat.le_refl N) h, m0, c]
    have key : ∀ (a b : WS), a.x.rest = b.x.rest → (lwA sz ro eo E N N a).st = (lwA sz ro eo E N N b).st ∧ ((lwA sz ro eo E N N a).st = false → (lwA sz ro eo E N N a).x.rest = (lwA sz ro eo E N N b).x.rest) := fun a b eab => by
      have g := ans_rest sz ro eo (itF N (min (N - N) sz)) (said E (N - N) (min (N - N) sz)) a.x b.x eab
      exact ⟨g.1, g.2⟩
    obtain ⟨k1, k2⟩ := key (lwA sz ro eo E N N s) s e
    obtain ⟨i1, i2⟩ := tale_still n (lwA sz ro eo E N N s) c (k1.trans c) ((k2 (k1.trans c)).trans (by rw [e]))
    refine ⟨i1, i2.trans ?_⟩
    show s.ak + 1 + n = s.ak + (n + 1)
    omega
/-- a run that never stops -/
theorem tale_never {sz : Nat} (z : 1 ≤ sz) {ro eo : List (Str × Str)} {E : Str} {N : Nat} : ∀ (n k first : Nat) (s : WS), n ≤ k → first ≤ N → s.st = false → lwS sz ro eo E N k first s = none →
    ((tlS E sz n (N - first)).foldl (stp sz ro eo) ⟨s.x, first, s.ak, false⟩).st = false ∧ ((tlS E sz n (N - first)).foldl (stp sz ro eo) ⟨s.x, first, s.ak, false⟩).u = s.ak + n
  | 0, k, first, s, _, _, h, _ => ⟨rfl, rfl⟩
  | n + 1, k, first, s, hk, hf, h, e => by
    obtain ⟨k, rfl⟩ : ∃ m, k = m + 1 := ⟨k - 1, by omega⟩
    rw [lwS_succ] at e
    split at e
    · cases e
    next c =>
      have c : (lwA sz ro eo E N first s).st = false := by simpa using c
      split at e
      next d =>
        have : first = N := by have := d.1; omega
        subst this
        exact tale_still (n + 1) s h c d.2
      next d =>
        rw [tale_cons hf h, c]
        obtain ⟨i1, i2⟩ := tale_never z n k (first + min (N - first) sz) (lwA sz ro eo E N first s) (by omega) (by omega) c e
        refine ⟨i1, i2.trans ?_⟩
        show s.ak + 1 + n = s.ak + (n + 1)
        omega
/-- a run with the first replies -/
def rnT (sz : Nat) (ro eo : List (Str × Str)) (E : Str) (N n : Nat) : RS' := (tlS E sz n N).foldl (stp sz ro eo) ⟨⟨[], []⟩, 0, 0, false⟩
theorem rnT_stop {sz : Nat} (z : 1 ≤ sz) {ro eo : List (Str × Str)} (ha : adds ro ≤ 1) {E : Str} (hE : isE E) {N n ak : Nat} {ps : List (List Int)} (e : out (wkS sz ro eo E N) = some (ak, ps)) (hn : N / sz + 4 ≤ n) :
    (rnT sz ro eo E N n).x.pieces = ps ∧ (rnT sz ro eo E N n).u = ak ∧ (rnT sz ro eo E N n).st = true := by
  have l := ask_le ro E (decide (N % sz ≠ 0)) (N / sz) .e ak (by rw [← wk_asked z (eo := eo) ha hE N, ← out_asked, e]; rfl)
  obtain ⟨a, b, c, _⟩ := tale_stop (N + 9) 0 n ⟨⟨[], []⟩, 0, false⟩ ak ps (Nat.zero_le _) rfl ((lw_wk z ro eo hE N).trans e) (by show ak ≤ 0 + n; omega)
  exact ⟨a, b, c⟩
theorem rnT_never {sz : Nat} (z : 1 ≤ sz) {ro eo : List (Str × Str)} {E : Str} (hE : isE E) {N n : Nat} (e : out (wkS sz ro eo E N) = none) :
    (rnT sz ro eo E N n).u = n ∧ (rnT sz ro eo E N n).st = false := by
  have := lw_ex z ro eo hE N (N + 1) (N + 4 + n) 0 ⟨⟨[], []⟩, 0, false⟩ rfl (Nat.zero_le _) (by omega) (by omega)
  obtain ⟨a, b⟩ := tale_never z n (N + 4 + n) 0 ⟨⟨[], []⟩, 0, false⟩ (by omega) (Nat.zero_le _) rfl (this.trans e)
  exact ⟨b.trans (Nat.zero_add n), a⟩
end CoM
namespace CoM
open PySem EM
theorem itF_all {N f c : Nat} (h : f + c ≤ N) : AllB N (itF f c) := fun i hi => by
  obtain ⟨k, hk, rfl⟩ := List.mem_map.mp hi
  have := List.mem_range.mp hk
  omega
/-- how much there is: the items that came, a bound of what is shown -/
structure Bd' (N : Nat) (s : RS') : Prop where
  f : s.f ≤ N
  l : Lt s.f (s.u * (18 * (3 * N + 1))) s.x
  a : AB N s.x
theorem bd_stp {sz N : Nat} {ro eo : List (Str × Str)} (hN : N ≤ 1000) (l1 : ro.length ≤ 12) (l2 : eo.length ≤ 6) (a1 : adds ro ≤ 1) (a2 : adds eo = 0) {s : RS'} {c : Nat} {t : Bool} (hc : s.f + c ≤ N) (h : Bd' N s) : Bd' N (stp sz ro eo s (c, t)) := by
  unfold stp
  split
  · exact h
  · refine ⟨hc, ?_, ab_ans (itF_all hc) h.a⟩
    have g := lt_ans (size := sz) (told := t) (h := c) (Nat.le_of_eq (itF_len s.f c)) l1 l2 a1 a2 h.l
    refine g.mono (Nat.le_refl _) ?_
    show s.u * (18 * (3 * N + 1)) + 18 * (2 * (s.f + c) + c + 1) ≤ (s.u + 1) * (18 * (3 * N + 1))
    have e : (s.u + 1) * (18 * (3 * N + 1)) = s.u * (18 * (3 * N + 1)) + 18 * (3 * N + 1) := Nat.succ_mul _ _
    rw [e]
    have : 18 * (2 * (s.f + c) + c + 1) ≤ 18 * (3 * N + 1) := Nat.mul_le_mul_left _ (by omega)
    exact Nat.add_le_add_left this _
theorem bd_fold {sz N : Nat} {ro eo : List (Str × Str)} {E : Str} (hN : N ≤ 1000) (l1 : ro.length ≤ 12) (l2 : eo.length ≤ 6) (a1 : adds ro ≤ 1) (a2 : adds eo = 0) : ∀ (n left : Nat) (s : RS'), s.f + left ≤ N → Bd' N s → Bd' N ((tlS E sz n left).foldl (stp sz ro eo) s)
  | 0, _, _, _, h => h
  | n + 1, left, s, hl, h => by
    rw [tlS, List.foldl_cons]
    have b := bd_stp (sz := sz) (t := said E left (min left sz)) hN l1 l2 a1 a2 (c := min left sz) (by omega) h
    by_cases hs : s.st = true
    · have e : stp sz ro eo s (min left sz, said E left (min left sz)) = s := by rw [stp, if_pos hs]
      rw [e, stp_stop hs]
      exact h
    · refine bd_fold hN l1 l2 a1 a2 n (left - min left sz) _ ?_ b
      have : (stp sz ro eo s (min left sz, said E left (min left sz))).f = s.f + min left sz := by rw [stp, if_neg hs]
      rw [this]
      omega
theorem bd_rnT {sz N n : Nat} {ro eo : List (Str × Str)} {E : Str} (hN : N ≤ 1000) (l1 : ro.length ≤ 12) (l2 : eo.length ≤ 6) (a1 : adds ro ≤ 1) (a2 : adds eo = 0) : Bd' N (rnT sz ro eo E N n) :=
  bd_fold hN l1 l2 a1 a2 n N _ (by show 0 + N ≤ N; omega) ⟨Nat.zero_le _, ⟨Nat.zero_le _, Nat.zero_le _⟩, (fun i h => by cases h), (fun p h => by cases h)⟩
theorem u_stp {sz : Nat} {ro eo : List (Str × Str)} : ∀ (rs : List (Nat × Bool)) (s : RS'), (rs.foldl (stp sz ro eo) s).u ≤ s.u + rs.length
  | [], s => Nat.le_refl _
  | r :: rs, s => by
    rw [List.foldl_cons, List.length_cons]
    have := u_stp (sz := sz) (ro := ro) (eo := eo) rs (stp sz ro eo s r)
    have : (stp sz ro eo s r).u ≤ s.u + 1 := by
      unfold stp
      split
      · omega
      · exact Nat.le_refl _
    omega
theorem u_rnT {sz N n : Nat} {ro eo : List (Str × Str)} {E : Str} : (rnT sz ro eo E N n).u ≤ n := by
  have := u_stp (sz := sz) (ro := ro) (eo := eo) (tlS E sz n N) ⟨⟨[], []⟩, 0, 0, false⟩
  rw [tlS_len] at this
  exact Nat.le_trans this (by show 0 + n ≤ n; omega)
theorem run_showable {ps : List (List Int)} {u : Nat} {st : Bool} (h : ∀ p ∈ ps, AllB 1000000 p) (hu : u < 1000000) : PyData.showable (runD ps u st) = true := by
  have a := pieces_showable ps h
  have b := ints_showable [(u : Int)] fun i hi => by rw [List.mem_singleton.mp hi]; exact ⟨by omega, by omega⟩
  simp only [List.map_cons, List.map_nil, PyData.showableAll, Bool.and_true] at b
  simp only [runD, PyData.showable, PyData.showableAll, a, Bool.true_and, Bool.and_true]
  simp only [PyData.showable] at b
  rw [b]
theorem run_depth (ps : List (List Int)) (u : Nat) (st : Bool) : PyData.depth (runD ps u st) ≤ 64 := by
  have := pieces_depth ps
  simp only [runD, PyData.depth, PyData.depthAll]
  omega
theorem rnT_shown {sz N n : Nat} {ro eo : List (Str × Str)} {E : Str} (hN : N ≤ 1000) (hn : n ≤ 100) (l1 : ro.length ≤ 12) (l2 : eo.length ≤ 6) (a1 : adds ro ≤ 1) (a2 : adds eo = 0) (st : Bool) (hu : N ≤ 440 ∧ (rnT sz ro eo E N n).u ≤ 64 ∨ (rnT sz ro eo E N n).u ≤ 5) :
    PyData.showable (runD (rnT sz ro eo E N n).x.pieces (rnT sz ro eo E N n).u st) = true ∧ PyData.depth (runD (rnT sz ro eo E N n).x.pieces (rnT sz ro eo E N n).u st) ≤ 64 ∧ (PyData.shown (runD (rnT sz ro eo E N n).x.pieces (rnT sz ro eo E N n).u st)).length ≤ 12200000 := by
  have b := bd_rnT (sz := sz) (n := n) (E := E) hN l1 l2 a1 a2
  have u := u_rnT (sz := sz) (ro := ro) (eo := eo) (E := E) (N := N) (n := n)
  have h6 : ∀ p ∈ (rnT sz ro eo E N n).x.pieces, AllB 1000000 p := fun p hp i hi => by have := b.a.2 p hp i hi; omega
  refine ⟨run_showable h6 (by omega), run_depth _ _ _, ?_⟩
  have le := run_le (N := N) (by omega) (u := (rnT sz ro eo E N n).u) (st := st) b.a.2 (by omega)
  have w := b.l.2
  have : (rnT sz ro eo E N n).u * (18 * (3 * N + 1)) ≤ 1521792 := by
    rcases hu with ⟨h1, h2⟩ | h2
    · exact Nat.le_trans (Nat.mul_le_mul h2 (show 18 * (3 * N + 1) ≤ 18 * (3 * 440 + 1) by omega)) (by decide)
    · exact Nat.le_trans (Nat.mul_le_mul h2 (show 18 * (3 * N + 1) ≤ 18 * (3 * 1000 + 1) by omega)) (by decide)
  omega
end CoM

/-! pieces that were handed before do not matter -/
namespace EM
open PySem L2
def addP (ps : List (List Int)) (x : RP) : RP := ⟨x.rest, ps ++ x.pieces⟩
theorem addP_rest (ps : List (List Int)) (x : RP) : (addP ps x).rest = x.rest := rfl
theorem perf_add (size : Nat) (held : List Int) (s : Str) (ps : List (List Int)) (x : RP) : perfM size held s (addP ps x) = addP ps (perfM size held s x) := by
  unfold perfM addP
  split
  · rfl
  · split
    · show RP.mk _ _ = RP.mk _ _
      rw [List.append_assoc]
    · split
      · show RP.mk _ _ = RP.mk _ _
        rw [List.append_assoc]
      · split
        · show RP.mk _ _ = RP.mk _ _
          rw [List.append_assoc]
        · rfl
theorem run_add (size : Nat) (held : List Int) (told : Bool) (ps : List (List Int)) : ∀ (os : List (Str × Str)) (x : RP), runW size held told os (addP ps x) = (addP ps (runW size held told os x).1, (runW size held told os x).2)
  | [], x => rfl
  | (t, s) :: r, x => by
    unfold runW
    rw [addP_rest]
    split
    · split
      · rfl
      · split
        · rfl
        · rw [perf_add]
          exact run_add size held told ps r _
    · exact run_add size held told ps r x
theorem end_add (size : Nat) (held : List Int) (told : Bool) (ps : List (List Int)) : ∀ (os : List (Str × Str)) (x : RP), endW size held told os (addP ps x) = addP ps (endW size held told os x)
  | [], x => rfl
  | (t, s) :: r, x => by
    unfold endW
    rw [addP_rest]
    split
    · rw [perf_add]
      exact end_add size held told ps r _
    · exact end_add size held told ps r x
theorem ans_add (size : Nat) (ro eo : List (Str × Str)) (held : List Int) (told : Bool) (ps : List (List Int)) (x : RP) : ansM size ro eo held told (addP ps x) = (addP ps (ansM size ro eo held told x).1, (ansM size ro eo held told x).2) := by
  unfold ansM
  rw [run_add]
  split
  · rw [end_add]
  · rfl
/-- from the rest alone -/
theorem ans_from (size : Nat) (ro eo : List (Str × Str)) (held : List Int) (told : Bool) (x : RP) : ansM size ro eo held told x = (⟨(ansM size ro eo held told ⟨x.rest, []⟩).1.rest, x.pieces ++ (ansM size ro eo held told ⟨x.rest, []⟩).1.pieces⟩, (ansM size ro eo held told ⟨x.rest, []⟩).2) := by
  have e : x = addP x.pieces ⟨x.rest, []⟩ := by
    obtain ⟨r, p⟩ := x
    show RP.mk r p = RP.mk r (p ++ [])
    rw [List.append_nil]
  conv => lhs; rw [e, ans_add]
  rfl
end EM

/-! papers of faults, judged: the program's looking at the whole run against the law's own looking reply by reply -/
namespace FJ
open PySem EM CoM
abbrev Rep := List (Nat × Bool)
def s0 : RS' := ⟨⟨[], []⟩, 0, 0, false⟩
section
variable (sz : Nat) (ro eo : List (Str × Str))
def rn (rs : Rep) : RS' := rs.foldl (stp sz ro eo) s0
theorem rn_app (a b : Rep) : rn sz ro eo (a ++ b) = b.foldl (stp sz ro eo) (rn sz ro eo a) := by unfold rn; rw [List.foldl_append]
theorem rn_snoc (a : Rep) (r : Nat × Bool) : rn sz ro eo (a ++ [r]) = stp sz ro eo (rn sz ro eo a) r := by rw [rn_app]; rfl
theorem stp_u (s : RS') (r : Nat × Bool) : (stp sz ro eo s r).u ≤ s.u + 1 := by
  unfold stp
  split
  · omega
  · exact Nat.le_refl _
theorem fold_u : ∀ (rs : Rep) (s : RS'), (rs.foldl (stp sz ro eo) s).u ≤ s.u + rs.length
  | [], s => Nat.le_refl _
  | r :: rs, s => by
    have := fold_u rs (stp sz ro eo s r)
    have := stp_u sz ro eo s r
    rw [List.foldl_cons, List.length_cons]
    omega
theorem rn_u (rs : Rep) : (rn sz ro eo rs).u ≤ rs.length := by
  have := fold_u sz ro eo rs s0
  unfold rn
  have e : s0.u = 0 := rfl
  omega
theorem stp_pcs (s : RS') (r : Nat × Bool) : ∃ d, (stp sz ro eo s r).x.pieces = s.x.pieces ++ d := by
  unfold stp
  split
  · exact ⟨[], (List.append_nil _).symm⟩
  · rw [ans_from]
    exact ⟨_, rfl⟩
theorem fold_pcs : ∀ (rs : Rep) (s : RS'), ∃ d, (rs.foldl (stp sz ro eo) s).x.pieces = s.x.pieces ++ d
  | [], s => ⟨[], (List.append_nil _).symm⟩
  | r :: rs, s => by
    obtain ⟨d, e⟩ := stp_pcs sz ro eo s r
    obtain ⟨d', e'⟩ := fold_pcs rs (stp sz ro eo s r)
    exact ⟨d ++ d', by rw [List.foldl_cons, e', e, List.append_assoc]⟩
/-- its items are the first ones -/
theorem stp_ab {s : RS'} {r : Nat × Bool} (h : AB s.f s.x) : AB (stp sz ro eo s r).f (stp sz ro eo s r).x := by
  unfold stp
  split
  · exact h
  · refine ab_ans (fun i hi => ?_) ⟨fun i hi => ?_, fun p hp i hi => ?_⟩
    · obtain ⟨k, hk, rfl⟩ := List.mem_map.mp hi
      have := List.mem_range.mp hk
      exact ⟨by omega, by show ((s.f : Nat) : Int) + ((k : Nat) : Int) < ((s.f + r.1 : Nat) : Int); omega⟩
    · have := h.1 i hi
      exact ⟨this.1, by show i < ((s.f + r.1 : Nat) : Int); omega⟩
    · have := h.2 p hp i hi
      exact ⟨this.1, by show i < ((s.f + r.1 : Nat) : Int); omega⟩
theorem fold_ab : ∀ (rs : Rep) (s : RS'), AB s.f s.x → AB (rs.foldl (stp sz ro eo) s).f (rs.foldl (stp sz ro eo) s).x
  | [], _, h => h
  | r :: rs, s, h => by rw [List.foldl_cons]; exact fold_ab rs _ (stp_ab sz ro eo h)
theorem rn_ab (rs : Rep) : AB (rn sz ro eo rs).f (rn sz ro eo rs).x := fold_ab sz ro eo rs s0 ⟨fun _ h => (nomatch h), fun _ h => (nomatch h)⟩
end
def cnt (rs : Rep) : Nat := (rs.map (·.1)).sum
theorem cnt_app (a b : Rep) : cnt (a ++ b) = cnt a + cnt b := by simp [cnt, List.sum_append]
theorem cnt_one (r : Nat × Bool) : cnt [r] = r.1 := by simp [cnt]
/-! ### uneven pieces -/
def unevP (sz : Nat) (ps : List (List Int)) : Bool := ps.any (fun p => decide (sz < p.length)) || ps.dropLast.any (fun p => decide (p.length < sz))
def unevL (sz : Nat) (ps : List (List Int)) : Bool := ps.any (fun p => decide (sz < p.length)) || ps.dropLast.any (fun p => decide (p.length ≠ sz))
theorem mem_drop {α : Type} {a : α} : ∀ {l : List α}, a ∈ l.dropLast → a ∈ l := fun h => List.dropLast_subset _ h
theorem unev_iff {sz : Nat} {ps : List (List Int)} : unevP sz ps = true ↔ (∃ p ∈ ps, sz < p.length) ∨ ∃ p ∈ ps.dropLast, p.length < sz := by
  unfold unevP
  rw [Bool.or_eq_true, List.any_eq_true, List.any_eq_true]
  refine or_congr ⟨fun ⟨p, h, e⟩ => ⟨p, h, of_decide_eq_true e⟩, fun ⟨p, h, e⟩ => ⟨p, h, decide_eq_true e⟩⟩ ⟨fun ⟨p, h, e⟩ => ⟨p, h, of_decide_eq_true e⟩, fun ⟨p, h, e⟩ => ⟨p, h, decide_eq_true e⟩⟩
theorem unev_same (sz : Nat) (ps : List (List Int)) : unevL sz ps = unevP sz ps := by
  refine Bool.eq_iff_iff.mpr ⟨fun h => unev_iff.mpr ?_, fun h => ?_⟩
  · unfold unevL at h
    rw [Bool.or_eq_true, List.any_eq_true, List.any_eq_true] at h
    rcases h with ⟨p, h, e⟩ | ⟨p, h, e⟩
    · exact .inl ⟨p, h, of_decide_eq_true e⟩
    · have e := of_decide_eq_true e
      by_cases c : p.length < sz
      · exact .inr ⟨p, h, c⟩
      · exact .inl ⟨p, mem_drop h, by omega⟩
  · unfold unevL
    rw [Bool.or_eq_true, List.any_eq_true, List.any_eq_true]
    rcases unev_iff.mp h with ⟨p, h, e⟩ | ⟨p, h, e⟩
    · exact .inl ⟨p, h, decide_eq_true e⟩
    · exact .inr ⟨p, h, decide_eq_true (by omega)⟩
theorem unev_more {sz : Nat} {ps d : List (List Int)} (h : unevP sz ps = true) : unevP sz (ps ++ d) = true := by
  refine unev_iff.mpr ?_
  rcases unev_iff.mp h with ⟨p, h, e⟩ | ⟨p, h, e⟩
  · exact .inl ⟨p, List.mem_append_left _ h, e⟩
  · refine .inr ⟨p, ?_, e⟩
    cases d with
    | nil => rw [List.append_nil]; exact h
    | cons x d =>
      rw [List.dropLast_append_of_ne_nil (by intro z; cases z)]
      exact List.mem_append_left _ (mem_drop h)
/-! ### the program's word -/
def toldR (rs : Rep) : Bool := (rs.getLast?.map (·.2)).getD false
theorem told_snoc (a : Rep) (r : Nat × Bool) : toldR (a ++ [r]) = r.2 := by simp [toldR]
section
variable (sz : Nat) (ro eo : List (Str × Str)) (te : Bool)
def evP (s : RS') : Bool := !(noS sz ro eo te 4 none ⟨s.x, s.u, s.st⟩).st
def brW (s : RS') (n : Nat) : Bool := s.st && decide (s.x.pieces.flatten ≠ itF 0 n)
def brF (b s : RS') : Bool := decide ([] ∈ s.x.pieces) && !decide ([] ∈ b.x.pieces)
def brE (b s : RS') : Bool := unevP sz s.x.pieces && !unevP sz b.x.pieces
def brQ (s : RS') (rs : Rep) : Bool := toldR rs && (!s.st && !rs.dropLast.any (·.2))
def brN (s : RS') (n : Nat) (rs : Rep) : Bool := if cnt rs ≠ n ∨ rs.getLast?.map (·.1) = some 0 then false else evP sz ro eo te s
def isF (name : Str) (n : Nat) (rs : Rep) : Bool :=
  if (rn sz ro eo rs).u < rs.length then false
  else if name = "quiet" then brQ (rn sz ro eo rs) rs
  else if name = "ends" then brN sz ro eo te (rn sz ro eo rs) n rs
  else if name = "whole" then brW (rn sz ro eo rs) n
  else if name = "filled" then brF (rn sz ro eo rs.dropLast) (rn sz ro eo rs)
  else brE sz (rn sz ro eo rs.dropLast) (rn sz ro eo rs)
/-- the source can give these replies -/
def alw (opt : Nat → Rep) : Nat → Rep → Bool
  | _, [] => true
  | left, r :: rs => decide (r ∈ opt left) && alw opt (left - r.1) rs
/-! ### the law's word -/
def shown (name : Str) (rs : Rep) (left : Nat) (s : RS') : Bool :=
  if name = "whole" then s.st && (decide (0 < left) || decide (s.x.pieces.flatten ≠ itF 0 s.f))
  else if name = "filled" then decide ([] ∈ s.x.pieces)
  else if name = "even" then unevL sz s.x.pieces
  else if name = "quiet" then toldR rs && !s.st
  else decide (left = 0) && (decide (rs.getLast?.map (·.1) ≠ some 0) && evP sz ro eo te s)
def walk (name : Str) (opt : Nat → Rep) : Rep → Nat → RS' → Rep → Bool
  | so, left, s, [] => shown sz ro eo te name so left s
  | so, left, s, r :: rs => if s.st = true ∨ r ∉ opt left then false
    else if so ≠ [] ∧ shown sz ro eo te name so left s = true then false
    else walk name opt (so ++ [r]) (left - r.1) (stp sz ro eo s r) rs
def isP (name : Str) (opt : Nat → Rep) (n : Nat) (rs : Rep) : Bool := if rs = [] ∧ (name ≠ "ends" ∨ 0 < n) then false else walk sz ro eo te name opt [] n s0 rs
end
section
variable {sz : Nat} {ro eo : List (Str × Str)} {te : Bool} {opt : Nat → Rep}
theorem it_last {n f : Nat} (h : f < n) {ps : List (List Int)} (hb : ∀ p ∈ ps, AllB f p) : ps.flatten ≠ itF 0 n := fun e => by
  have m : ((n - 1 : Nat) : Int) ∈ itF 0 n := List.mem_map.mpr ⟨n - 1, List.mem_range.mpr (by omega), by show ((0 : Nat) : Int) + ((n - 1 : Nat) : Int) = _; omega⟩
  rw [← e] at m
  obtain ⟨p, hp, hi⟩ := List.mem_flatten.mp m
  have := (hb p hp _ hi).2
  omega
theorem alw_zero {te0 : Bool} (h0 : opt 0 = [(0, te0)]) : ∀ (rs : Rep), alw opt 0 rs = true → ∀ r ∈ rs, r.1 = 0
  | [], _, r, h => (nomatch h)
  | q :: rs, e, r, h => by
    unfold alw at e
    obtain ⟨a, b⟩ := Bool.and_eq_true_iff.mp e
    have a := of_decide_eq_true a
    rw [h0] at a
    have aq : q = (0, te0) := List.mem_singleton.mp a
    rcases List.mem_cons.mp h with rfl | h
    · rw [aq]
    · refine alw_zero h0 rs ?_ r h
      rw [aq] at b
      exact b
def Names (name : Str) : Prop := name = "whole" ∨ name = "filled" ∨ name = "even" ∨ name = "quiet" ∨ name = "ends"
theorem Names.e {name : Str} (hn : Names name) (c1 : name ≠ "whole") (c2 : name ≠ "filled") (c3 : name ≠ "even") (c4 : name ≠ "quiet") : name = "ends" := by
  rcases hn with h | h | h | h | h
  · exact absurd h c1
  · exact absurd h c2
  · exact absurd h c3
  · exact absurd h c4
  · exact h
theorem isF_stop {name : Str} {n : Nat} {a : Rep} {r : Nat × Bool} {b : Rep} (h : (rn sz ro eo a).st = true) : isF sz ro eo te name n (a ++ r :: b) = false := by
  unfold isF
  have e : rn sz ro eo (a ++ r :: b) = rn sz ro eo a := by rw [rn_app, stp_stop h]
  rw [e, if_pos]
  have := rn_u sz ro eo a
  rw [List.length_append, List.length_cons]
  omega
theorem last_app {a : Rep} {r : Nat × Bool} {b : Rep} : ∃ z ∈ r :: b, (a ++ r :: b).getLast? = some z := by
  refine ⟨(r :: b).getLast (by intro z; cases z), List.getLast_mem _, ?_⟩
  rw [List.getLast?_append, List.getLast?_eq_some_getLast (by intro z; cases z)]
  rfl
theorem drop_app {a : Rep} {r : Nat × Bool} {b : Rep} : (a ++ r :: b).dropLast = a ++ (r :: b).dropLast := List.dropLast_append_of_ne_nil (by intro z; cases z)
theorem snoc_of {a : Rep} (h : a ≠ []) : ∃ b r, a = b ++ [r] := ⟨a.dropLast, a.getLast h, (List.dropLast_concat_getLast h).symm⟩
/-- what was seen earlier is no fault any more -/
theorem isF_seen {te0 : Bool} (h0 : opt 0 = [(0, te0)]) {name : Str} (hn : Names name) {n left : Nat} {a : Rep} (ha : a ≠ []) {r : Nat × Bool} {b : Rep} (hs : shown sz ro eo te name a left (rn sz ro eo a) = true) (hl : alw opt left (r :: b) = true) : isF sz ro eo te name n (a ++ r :: b) = false := by
  unfold shown at hs
  by_cases c1 : name = "whole"
  · rw [if_pos c1] at hs
    exact isF_stop (Bool.and_eq_true_iff.mp hs).1
  rw [if_neg c1] at hs
  unfold isF
  by_cases c0 : (rn sz ro eo (a ++ r :: b)).u < (a ++ r :: b).length
  · rw [if_pos c0]
  rw [if_neg c0]
  by_cases c2 : name = "filled"
  · subst c2
    rw [if_pos rfl] at hs
    rw [if_neg (show ¬ ("filled" : Str) = "quiet" by decide +kernel), if_neg (show ¬ ("filled" : Str) = "ends" by decide +kernel), if_neg (show ¬ ("filled" : Str) = "whole" by decide +kernel), if_pos rfl, drop_app]
    unfold brF
    obtain ⟨d, e⟩ := fold_pcs sz ro eo (r :: b).dropLast (rn sz ro eo a)
    rw [rn_app sz ro eo a (r :: b).dropLast, e, decide_eq_true (show [] ∈ (rn sz ro eo a).x.pieces ++ d from List.mem_append_left _ (of_decide_eq_true hs))]
    exact Bool.and_false _
  rw [if_neg c2] at hs
  by_cases c3 : name = "even"
  · subst c3
    rw [if_pos rfl] at hs
    rw [if_neg (show ¬ ("even" : Str) = "quiet" by decide +kernel), if_neg (show ¬ ("even" : Str) = "ends" by decide +kernel), if_neg (show ¬ ("even" : Str) = "whole" by decide +kernel), if_neg (show ¬ ("even" : Str) = "filled" by decide +kernel), drop_app]
    unfold brE
    obtain ⟨d, e⟩ := fold_pcs sz ro eo (r :: b).dropLast (rn sz ro eo a)
    rw [unev_same] at hs
    rw [rn_app sz ro eo a (r :: b).dropLast, e, unev_more hs]
    exact Bool.and_false _
  rw [if_neg c3] at hs
  by_cases c4 : name = "quiet"
  · rw [if_pos c4] at hs
    rw [if_pos c4]
    unfold brQ
    obtain ⟨a', r', rfl⟩ := snoc_of ha
    have ht := (Bool.and_eq_true_iff.mp hs).1
    rw [told_snoc] at ht
    have : (a' ++ [r'] ++ r :: b).dropLast.any (·.2) = true := by
      rw [drop_app]
      exact List.any_eq_true.mpr ⟨r', List.mem_append_left _ (List.mem_append_right _ (List.mem_singleton.mpr rfl)), ht⟩
    rw [this]
    simp
  rw [if_neg c4] at hs
  rw [if_neg c4, if_pos (hn.e c1 c2 c3 c4)]
  unfold brN
  have l0 : left = 0 := of_decide_eq_true (Bool.and_eq_true_iff.mp hs).1
  rw [l0] at hl
  obtain ⟨z, hz, e⟩ := last_app (a := a) (r := r) (b := b)
  rw [if_pos (.inr (by rw [e, Option.map_some, alw_zero h0 _ hl z hz]))]
theorem st_used {a : Rep} (r : Nat × Bool) (h : (rn sz ro eo a).st = false) : (rn sz ro eo (a ++ [r])).u = (rn sz ro eo a).u + 1 ∧ (rn sz ro eo (a ++ [r])).f = (rn sz ro eo a).f + r.1 := by
  rw [rn_snoc]
  unfold stp
  rw [if_neg (by rw [h]; decide)]
  exact ⟨rfl, rfl⟩
/-- nothing was seen before the last reply -/
structure Inv (sz : Nat) (ro eo : List (Str × Str)) (name : Str) (n left : Nat) (a : Rep) : Prop where
  c : cnt a + left = n
  f : (rn sz ro eo a).f = cnt a
  u : (rn sz ro eo a).u = a.length
  fi : name = "filled" → ¬ [] ∈ (rn sz ro eo a.dropLast).x.pieces
  ev : name = "even" → unevP sz (rn sz ro eo a.dropLast).x.pieces = false
  qu : name = "quiet" → a.dropLast.any (·.2) = false
theorem shown_end {name : Str} (hn : Names name) {n left : Nat} {a : Rep} (i : Inv sz ro eo name n left a) : shown sz ro eo te name a left (rn sz ro eo a) = isF sz ro eo te name n a := by
  have ic := i.c
  unfold shown isF
  rw [if_neg (show ¬ (rn sz ro eo a).u < a.length by have := i.u; omega)]
  by_cases c1 : name = "whole"
  · subst c1
    rw [if_pos rfl, if_neg (show ¬ ("whole" : Str) = "quiet" by decide +kernel), if_neg (show ¬ ("whole" : Str) = "ends" by decide +kernel), if_pos rfl]
    unfold brW
    congr 1
    by_cases l0 : 0 < left
    · rw [decide_eq_true l0, Bool.true_or]
      exact (decide_eq_true (it_last (f := (rn sz ro eo a).f) (by have := i.f; omega) (rn_ab sz ro eo a).2)).symm
    · rw [decide_eq_false l0, Bool.false_or, i.f, show cnt a = n by omega]
  rw [if_neg c1]
  by_cases c2 : name = "filled"
  · subst c2
    rw [if_pos rfl, if_neg (show ¬ ("filled" : Str) = "quiet" by decide +kernel), if_neg (show ¬ ("filled" : Str) = "ends" by decide +kernel), if_neg (show ¬ ("filled" : Str) = "whole" by decide +kernel), if_pos rfl]
    unfold brF
    rw [decide_eq_false (i.fi rfl)]
    exact (Bool.and_true _).symm
  rw [if_neg c2]
  by_cases c3 : name = "even"
  · subst c3
    rw [if_pos rfl, if_neg (show ¬ ("even" : Str) = "quiet" by decide +kernel), if_neg (show ¬ ("even" : Str) = "ends" by decide +kernel), if_neg (show ¬ ("even" : Str) = "whole" by decide +kernel), if_neg (show ¬ ("even" : Str) = "filled" by decide +kernel), unev_same]
    unfold brE
    rw [i.ev rfl]
    exact (Bool.and_true _).symm
  rw [if_neg c3]
  by_cases c4 : name = "quiet"
  · rw [if_pos c4, if_pos c4]
    unfold brQ
    rw [i.qu c4]
    simp
  rw [if_neg c4, if_neg c4, if_pos (hn.e c1 c2 c3 c4)]
  unfold brN
  by_cases l0 : left = 0
  · rw [decide_eq_true l0, Bool.true_and]
    by_cases e : a.getLast?.map (·.1) = some 0
    · rw [if_pos (.inr e), decide_eq_false (show ¬ a.getLast?.map (·.1) ≠ some 0 from fun z => z e)]
      rfl
    · rw [if_neg (fun z => z.elim (fun z => z (by omega)) e), decide_eq_true (show a.getLast?.map (·.1) ≠ some 0 from e)]
      rfl
  · rw [decide_eq_false l0, if_pos (.inl (by omega))]
    rfl
theorem walk_is {te0 : Bool} (h0 : opt 0 = [(0, te0)]) (hle : ∀ l r, r ∈ opt l → r.1 ≤ l) {name : Str} (hn : Names name) {n : Nat} : ∀ (rest : Rep) (a : Rep) (left : Nat), Inv sz ro eo name n left a →
    walk sz ro eo te name opt a left (rn sz ro eo a) rest = (alw opt left rest && isF sz ro eo te name n (a ++ rest))
  | [], a, left, i => by
    rw [List.append_nil]
    show shown sz ro eo te name a left (rn sz ro eo a) = (true && _)
    rw [Bool.true_and]
    exact shown_end hn i
  | r :: rs, a, left, i => by
    unfold walk
    by_cases c1 : (rn sz ro eo a).st = true ∨ r ∉ opt left
    · rw [if_pos c1]
      rcases c1 with c1 | c1
      · rw [isF_stop c1, Bool.and_false]
      · have : alw opt left (r :: rs) = false := by
          unfold alw
          rw [decide_eq_false c1, Bool.false_and]
        rw [this, Bool.false_and]
    rw [if_neg c1]
    have st0 : (rn sz ro eo a).st = false := by
      cases h : (rn sz ro eo a).st with
      | true => exact absurd (.inl h) c1
      | false => rfl
    have hr : r ∈ opt left := Decidable.of_not_not fun z => c1 (.inr z)
    by_cases c2 : a ≠ [] ∧ shown sz ro eo te name a left (rn sz ro eo a) = true
    · rw [if_pos c2]
      cases hal : alw opt left (r :: rs) with
      | false => rfl
      | true => rw [isF_seen h0 hn c2.1 c2.2 hal, Bool.and_false]
    rw [if_neg c2, ← rn_snoc]
    have le := hle _ _ hr
    obtain ⟨u1, u2⟩ := st_used r st0
    have ic := i.c
    have nshown : a = [] ∨ shown sz ro eo te name a left (rn sz ro eo a) = false := by
      by_cases z : a = []
      · exact .inl z
      · refine .inr ?_
        cases h : shown sz ro eo te name a left (rn sz ro eo a) with
        | false => rfl
        | true => exact absurd ⟨z, h⟩ c2
    have ih := walk_is h0 hle hn (n := n) rs (a ++ [r]) (left - r.1) ⟨by rw [cnt_app, cnt_one]; omega, by rw [u2, cnt_app, cnt_one, i.f], by rw [u1, i.u, List.length_append, List.length_singleton], fun e => ?_, fun e => ?_, fun e => ?_⟩
    · rw [ih, List.append_assoc, List.singleton_append, show alw opt left (r :: rs) = (decide (r ∈ opt left) && alw opt (left - r.1) rs) from rfl, decide_eq_true hr, Bool.true_and]
    · rw [List.dropLast_concat]
      rcases nshown with rfl | h
      · exact fun z => (nomatch z)
      · subst e
        unfold shown at h
        rw [if_neg (show ¬ ("filled" : Str) = "whole" by decide +kernel), if_pos rfl] at h
        exact of_decide_eq_false h
    · rw [List.dropLast_concat]
      rcases nshown with rfl | h
      · rfl
      · subst e
        unfold shown at h
        rw [if_neg (show ¬ ("even" : Str) = "whole" by decide +kernel), if_neg (show ¬ ("even" : Str) = "filled" by decide +kernel), if_pos rfl, unev_same] at h
        exact h
    · rw [List.dropLast_concat]
      rcases nshown with rfl | h
      · rfl
      · have hq := i.qu e
        subst e
        unfold shown at h
        rw [if_neg (show ¬ ("quiet" : Str) = "whole" by decide +kernel), if_neg (show ¬ ("quiet" : Str) = "filled" by decide +kernel), if_neg (show ¬ ("quiet" : Str) = "even" by decide +kernel), if_pos rfl, st0] at h
        have h : toldR a = false := by simpa using h
        by_cases z : a = []
        · rw [z]; rfl
        · obtain ⟨a', r', rfl⟩ := snoc_of z
          rw [told_snoc] at h
          rw [List.dropLast_concat] at hq
          rw [List.any_append, hq]
          simp [h]
theorem inv0 (name : Str) (n : Nat) : Inv sz ro eo name n n [] := ⟨Nat.zero_add n, rfl, rfl, fun _ z => (nomatch z), fun _ => rfl, fun _ => rfl⟩
theorem isF_nil {name : Str} (hn : Names name) {n : Nat} (h : name ≠ "ends" ∨ 0 < n) : isF sz ro eo te name n [] = false := by
  rcases hn with rfl | rfl | rfl | rfl | rfl
  · rfl
  · rfl
  · rfl
  · rfl
  · rcases h with h | h
    · exact absurd rfl h
    · show (if _ < _ then false else _) = false
      rw [if_neg (show ¬ (rn sz ro eo []).u < ([] : Rep).length from Nat.lt_irrefl 0), if_neg (show ¬ ("ends" : Str) = "quiet" by decide +kernel), if_pos rfl]
      unfold brN
      rw [if_pos (.inl (by show 0 ≠ n; omega))]
/-- the two words agree -/
theorem is_paper {te0 : Bool} (h0 : opt 0 = [(0, te0)]) (hle : ∀ l r, r ∈ opt l → r.1 ≤ l) {name : Str} (hn : Names name) (n : Nat) (rs : Rep) : isP sz ro eo te name opt n rs = (alw opt n rs && isF sz ro eo te name n rs) := by
  unfold isP
  by_cases c : rs = [] ∧ (name ≠ "ends" ∨ 0 < n)
  · rw [if_pos c, c.1, isF_nil hn c.2, Bool.and_false]
  · rw [if_neg c]
    exact walk_is h0 hle hn rs [] n (inv0 name n)
end
/-! ### going on for ever, as the law sees it -/
def evL (sz : Nat) (ro eo : List (Str × Str)) (te : Bool) : Nat → List (List Int) → WS → Bool
  | 0, _, s => !s.st
  | k + 1, seen, s => if s.st = true then false else if s.x.rest ∈ seen then true else evL sz ro eo te k (seen ++ [s.x.rest]) (ansS sz ro eo [] te s)
section
variable {sz : Nat} {ro eo : List (Str × Str)} {te : Bool}
theorem ans_suffix (x : RP) (h : (ansM sz ro eo [] te x).2 = false) : ∃ d, (ansM sz ro eo [] te x).1.rest = x.rest.drop d := by
  unfold ansM at h ⊢
  by_cases c : (runW sz [] te ro x).2 = true
  · rw [if_pos c] at h; cases h
  · rw [if_neg c]
    exact run_suffix sz te ro x
/-- the rests that were seen: the last one is behind `s`, the others are longer -/
theorem ev_same (z : 1 ≤ sz) : ∀ (k k' : Nat) (m : Option Nat) (seen : List (List Int)) (s : WS),
    (match m with | none => seen = [] | some l => ∃ q ∈ seen, q.length = l ∧ (∃ d, s.st = false → s.x.rest = q.drop d) ∧ ∀ q' ∈ seen, l ≤ q'.length) →
    (s.st = false → rk sz s.x.rest.length + 1 + (if some s.x.rest.length = m then 0 else 1) ≤ k) → k ≤ k' → evL sz ro eo te k' seen s = !(noS sz ro eo te k m s).st
  | 0, k', m, seen, s, _, hk, _ => by
    cases h : s.st with
    | false =>
      have := hk h
      omega
    | true =>
      rw [show noS sz ro eo te 0 m s = s from rfl, h]
      cases k' with
      | zero => show (!s.st) = _; rw [h]
      | succ k' => show (if s.st = true then false else _) = _; rw [if_pos h]; rfl
  | k + 1, k', m, seen, s, hm, hk, hkk => by
    obtain ⟨k', rfl⟩ : ∃ j, k' = j + 1 := ⟨k' - 1, by omega⟩
    show (if s.st = true then false else if s.x.rest ∈ seen then true else evL sz ro eo te k' (seen ++ [s.x.rest]) (ansS sz ro eo [] te s)) = !(if s.st = true then s else if some s.x.rest.length = m then s else noS sz ro eo te k (some s.x.rest.length) (ansS sz ro eo [] te s)).st
    cases h : s.st with
    | true => rw [if_pos rfl, if_pos rfl, h]; rfl
    | false =>
      simp only [Bool.false_eq_true, if_false]
      have hin : s.x.rest ∈ seen ↔ some s.x.rest.length = m := by
        cases m with
        | none =>
          rw [show seen = [] from hm]
          exact ⟨fun q => (nomatch q), fun q => (nomatch q)⟩
        | some l =>
          obtain ⟨q, hq, lq, ⟨d, e⟩, mn⟩ := hm
          have e := e h
          refine ⟨fun q' => ?_, fun q' => ?_⟩
          · have a := mn _ q'
            have b : s.x.rest.length ≤ l := by rw [e, List.length_drop]; omega
            rw [show s.x.rest.length = l by omega]
          · have q' := Option.some.inj q'
            have l2 : (q.drop d).length = q.length := by rw [← e]; omega
            rw [List.length_drop] at l2
            have : q.drop d = q := by
              by_cases d0 : d = 0
              · rw [d0]; rfl
              · have : q = [] := List.eq_nil_of_length_eq_zero (by omega)
                rw [this, List.drop_nil]
            rw [e, this]
            exact hq
      by_cases c : some s.x.rest.length = m
      · rw [if_pos (hin.mpr c), if_pos c, h]; rfl
      · rw [if_neg (fun q => c (hin.mp q)), if_neg c]
        refine ev_same z k k' (some s.x.rest.length) (seen ++ [s.x.rest]) (ansS sz ro eo [] te s) ⟨s.x.rest, List.mem_append_right _ (List.mem_singleton.mpr rfl), rfl, ?_, fun q' hq' => ?_⟩ (fun h2 => ?_) (by omega)
        · by_cases h2 : (ansM sz ro eo [] te s.x).2 = false
          · obtain ⟨d, e⟩ := ans_suffix s.x h2
            exact ⟨d, fun _ => e⟩
          · exact ⟨0, fun q => absurd q h2⟩
        · rcases List.mem_append.mp hq' with hq' | hq'
          · cases m with
            | none =>
              rw [show seen = [] from hm] at hq'
              cases hq'
            | some l =>
              obtain ⟨q, hq, lq, ⟨d, e⟩, mn⟩ := hm
              have e := e h
              have a := mn _ hq'
              have b : s.x.rest.length ≤ l := by rw [e, List.length_drop]; omega
              omega
          · rw [List.mem_singleton.mp hq']
            exact Nat.le_refl _
        · have a := hk h
          rw [if_neg c] at a
          have h2 : (ansM sz ro eo [] te s.x).2 = false := h2
          rcases rk_down z (no_rest h2) with b | b
          · show rk sz (ansM sz ro eo [] te s.x).1.rest.length + 1 + (if some (ansM sz ro eo [] te s.x).1.rest.length = some s.x.rest.length then 0 else 1) ≤ k
            rw [b, if_pos rfl]
            omega
          · show rk sz (ansM sz ro eo [] te s.x).1.rest.length + 1 + (if some (ansM sz ro eo [] te s.x).1.rest.length = some s.x.rest.length then 0 else 1) ≤ k
            split <;> omega
theorem ev_is (z : 1 ≤ sz) (s : RS') : evL sz ro eo te 90 [] ⟨s.x, s.u, s.st⟩ = evP sz ro eo te s := ev_same z 4 90 none [] _ rfl (fun _ => by have := rk_le sz s.x.rest.length; rw [if_neg (by intro z; cases z)]; show rk sz s.x.rest.length + 1 + 1 ≤ 4; omega) (by decide)
end
end FJ

/-! how much a run can hand on -/
namespace FJ
open PySem EM CoM
theorem fold_lt {sz h K : Nat} {ro eo : List (Str × Str)} (l1 : ro.length ≤ 12) (l2 : eo.length ≤ 6) (a1 : adds ro ≤ 1) (a2 : adds eo = 0) : ∀ (rs : Rep) (k : Nat) (s : RS'), k + rs.length ≤ K → (∀ r ∈ rs, r.1 ≤ h) → Lt (k * h) (k * (18 * (2 * (K * h) + h + 1))) s.x → Lt ((k + rs.length) * h) ((k + rs.length) * (18 * (2 * (K * h) + h + 1))) (rs.foldl (stp sz ro eo) s).x
  | [], k, s, _, _, L => L
  | r :: rs, k, s, hk, hr, L => by
    rw [List.length_cons] at hk
    have e1 : (k + 1) * h = k * h + h := Nat.succ_mul _ _
    have e2 : (k + 1) * (18 * (2 * (K * h) + h + 1)) = k * (18 * (2 * (K * h) + h + 1)) + 18 * (2 * (K * h) + h + 1) := Nat.succ_mul _ _
    have le : (k + 1) * h ≤ K * h := Nat.mul_le_mul_right _ (by omega)
    have L1 : Lt ((k + 1) * h) ((k + 1) * (18 * (2 * (K * h) + h + 1))) (stp sz ro eo s r).x := by
      unfold stp
      split
      · exact L.mono (by omega) (by omega)
      · have := lt_ans (size := sz) (told := r.2) (held := itF s.f r.1) (h := h) (by rw [itF_len]; exact hr r (List.mem_cons_self ..)) l1 l2 a1 a2 L
        exact this.mono (by omega) (by omega)
    have ih := fold_lt (sz := sz) l1 l2 a1 a2 rs (k + 1) (stp sz ro eo s r) (by omega) (fun q hq => hr q (List.mem_cons_of_mem _ hq)) L1
    rw [List.foldl_cons, List.length_cons, show k + (rs.length + 1) = k + 1 + rs.length by omega]
    exact ih
theorem rn_wt {sz h : Nat} {ro eo : List (Str × Str)} (l1 : ro.length ≤ 12) (l2 : eo.length ≤ 6) (a1 : adds ro ≤ 1) (a2 : adds eo = 0) (rs : Rep) (hl : rs.length ≤ 100) (hb : rs.length * h ≤ 100) (hr : ∀ r ∈ rs, r.1 ≤ h) : wt (rn sz ro eo rs).x.pieces ≤ 400000 := by
  have := (fold_lt (sz := sz) (K := rs.length) l1 l2 a1 a2 rs 0 s0 (by omega) hr ⟨Nat.zero_le _, Nat.zero_le _⟩).2
  rw [Nat.zero_add] at this
  refine Nat.le_trans this ?_
  generalize rs.length = K at hl hb
  have e : K * (18 * (2 * (K * h) + h + 1)) = 18 * (K * (2 * (K * h) + 1) + K * h) := by
    rw [Nat.mul_left_comm, ← Nat.mul_add, show 2 * (K * h) + 1 + h = 2 * (K * h) + h + 1 by omega]
  rw [e]
  have : K * (2 * (K * h) + 1) ≤ 100 * 201 := Nat.mul_le_mul hl (by omega)
  omega
end FJ

/-! d.get(key) of a dict that the module holds -/
namespace RwR
open PySem PySem.Spec PyProof.Rows L2
section
variable {X : Cx} {d : Addr} {es : Array DictEntry} {n : Nat} {o e : Expr} {apos cpos : Pos} {td ty : TE}
def tKGet (K : PySem.W.Frag) (d : Addr) (td ty : TE) : TE := fun σ H Q => td σ H fun x H1 => x = .ref d ∧ ty σ H1 fun y H2 => ∃ (z : Str) (u0 : Value) (v0 : V), y = .str z ∧ PySem.W.nsIn K d z = some (some u0) ∧ RelV v0 u0 ∧ Q v0 H2
theorem pe_kget (D : KDict X.K X.w d es n) (ho : PE X o td) (he : PE X e ty) (m : M1 X o "get" apos e cpos) : PE X (.Call (.Attribute o "get" apos) [e] [] cpos) (tKGet X.K d td ty) := by
  refine ⟨fun pins s σ H Q I h => ?_⟩
  refine wpAny_Call_method m.base m.few m.line PySem.F.plainAttrs_dict PySem.F.slot_dict_get PySem.F.type_dict_get (thn (ho.run pins s σ H _ I h) fun u s1 ⟨x, H1, I1, rx, ex, q1⟩ => ?_)
  subst ex
  obtain rfl : u = Value.ref d := rx
  refine ⟨kd_type D I1, fun b q => ?_, ?_⟩
  · cases q
    exact ⟨_, I1.kIn _ _ D.at_, rfl⟩
  rw [m.trees]
  refine Calls.callWith_builtin rfl (Calls.evalArgs_plain (Calls.spliced_cons (thn (he.run pins s1 σ H1 _ I1 q1) fun iv s2 ⟨y, H2, I2, ry, z, u0, v0, ey, ns, rv, q2⟩ => Calls.spliced_nil ?_)))
  subst ey
  obtain ⟨t, rfl⟩ := ry
  refine call_meetsIn PySem.F.slot_dict_get (kd_type D I2) PySem.F.entry_dict_get (PySem.F.args_dict_get_2 _ _) (meets_dict_get (strKind X.prog X.w) d (PySem.strKind_is X.prog X.w z t) D.low) ⟨_, PySem.W.mapOf_K (prog := X.prog) I2.kIn D.at_ D.lit, ?_⟩
  rw [PySem.W.find_K D.at_ ns]
  exact ⟨v0, H2, I2.tok _, rv, q2⟩
end
end RwR

/-! orders that do the same have the same faults -/
namespace SR
open PySem L2 EM
def Eqv (ro ro' eo : List (Str × Str)) : Prop := ∀ sz held told x, ansM sz ro eo held told x = ansM sz ro' eo held told x
section
variable {ro ro' eo : List (Str × Str)} (h : Eqv ro ro' eo)
include h
theorem noS_eqv (sz : Nat) (told : Bool) : ∀ (k : Nat) (m : Option Nat) (s : CoM.WS), CoM.noS sz ro eo told k m s = CoM.noS sz ro' eo told k m s
  | 0, _, _ => rfl
  | k + 1, m, s => by
    unfold CoM.noS
    have : CoM.ansS sz ro eo [] told s = CoM.ansS sz ro' eo [] told s := by unfold CoM.ansS; rw [h]
    rw [this, noS_eqv sz told k]
theorem nev_eqv (tell : Tell) (sz rest : Nat) : nevM ro eo tell sz rest = nevM ro' eo tell sz rest := by unfold nevM; rw [noS_eqv h]
theorem beh_eqv (tell : Tell) (name : Str) (b r : Nat) (m : Str) (sz c l : Nat) : behM ro eo tell name b r m sz c l = behM ro' eo tell name b r m sz c l := by unfold behM; rw [h]
theorem isFault_eqv (tell : Tell) (name : Str) (sz : Nat) (n : Node) : isFaultM ro eo tell name sz n = isFaultM ro' eo tell name sz n := by unfold isFaultM; rw [nev_eqv h]
theorem next_eqv (tell : Tell) (name : Str) (n : Node) (p : Nat × Nat) : nextM ro eo tell name n p = nextM ro' eo tell name n p := by unfold nextM; rw [beh_eqv h]
theorem succ_eqv (tell : Tell) (can : Nat → Bool) (name : Str) (n : Node) : succM ro eo tell can name n = succM ro' eo tell can name n := by
  unfold succM
  rw [show nextM ro eo tell name n = nextM ro' eo tell name n from funext fun p => next_eqv h tell name n p]
theorem reach_eqv {tell : Tell} {can : Nat → Bool} {name : Str} {n : Node} (r : Reach ro eo tell can name n) : Reach ro' eo tell can name n := by
  induction r with
  | a => exact .a
  | b => exact .b
  | step _ s ih => exact .step ih (by rw [← succ_eqv h]; exact s)
theorem has_eqv1 {tell : Tell} {can : Nat → Bool} {name : Str} (f : HasF ro eo tell can name) : HasF ro' eo tell can name := let ⟨n, r, e⟩ := f; ⟨n, reach_eqv h r, by rw [← isFault_eqv h]; exact e⟩
end
theorem Eqv.symm {ro ro' eo : List (Str × Str)} (h : Eqv ro ro' eo) : Eqv ro' ro eo := fun sz held told x => (h sz held told x).symm
theorem alw_eqv {ro ro' eo : List (Str × Str)} (h : Eqv ro ro' eo) (tell : Tell) (can : Nat → Bool) (name : Str) : alwM ro eo tell can name = alwM ro' eo tell can name := by
  by_cases f : HasF ro eo tell can name
  · rw [alw_has f, alw_has (has_eqv1 h f)]
  · rw [alw_no f, alw_no fun g => f (has_eqv1 h.symm g)]
/-! a word that does nothing -/
theorem cut_bare {sz : Nat} {held : List Int} {told : Bool} {x : RP} (h : passM sz held told "bare" x.rest = true) : perfM sz held "cut" x = x := by
  have e : passM sz held told "bare" x.rest = (decide (0 < x.rest.length) == false) := by
    unfold passM
    rw [if_neg (by decide +kernel), if_neg (by decide +kernel), if_pos (Or.inr rfl)]
    rfl
  rw [e] at h
  have l0 : x.rest = [] := by
    cases hr : x.rest with
    | nil => rfl
    | cons a t => rw [hr] at h; simp at h
  obtain ⟨r, p⟩ := x
  cases l0
  unfold perfM
  rw [if_neg (by decide +kernel), if_neg (by decide +kernel), if_pos rfl]
  simp [cutN]
theorem run_bare (sz : Nat) (held : List Int) (told : Bool) (b : List (Str × Str)) : ∀ (a : List (Str × Str)) (x : RP), runW sz held told (a ++ (("bare", "cut") : Str × Str) :: b) x = runW sz held told (a ++ b) x
  | [], x => by
    show runW sz held told ((("bare", "cut") : Str × Str) :: b) x = runW sz held told b x
    show (if passM sz held told "bare" x.rest = true then (if ("cut" : Str) = "again" then (x, false) else if ("cut" : Str) = "stop" then (x, true) else runW sz held told b (perfM sz held "cut" x)) else runW sz held told b x) = _
    by_cases h : passM sz held told "bare" x.rest = true
    · rw [if_pos h, if_neg (by decide +kernel), if_neg (by decide +kernel), cut_bare h]
    · rw [if_neg h]
  | (t, s) :: a, x => by
    show (if passM sz held told t x.rest = true then (if s = "again" then (x, false) else if s = "stop" then (x, true) else runW sz held told (a ++ (("bare", "cut") : Str × Str) :: b) (perfM sz held s x)) else runW sz held told (a ++ (("bare", "cut") : Str × Str) :: b) x) = (if passM sz held told t x.rest = true then (if s = "again" then (x, false) else if s = "stop" then (x, true) else runW sz held told (a ++ b) (perfM sz held s x)) else runW sz held told (a ++ b) x)
    rw [run_bare sz held told b a, run_bare sz held told b a]
theorem eqv_bare (a b eo : List (Str × Str)) : Eqv (a ++ (("bare", "cut") : Str × Str) :: b) (a ++ b) eo := fun sz held told x => by
  unfold ansM
  rw [run_bare]
end SR

/-! the search, computed: whether there is a fault, and the least one -/
namespace SR
open PySem L2 EM
section
variable (ro eo : List (Str × Str)) (tell : Tell) (can : Nat → Bool) (name : Str)
/-- the states met in so many turns -/
def closN : Nat → List Node → List Node
  | 0, l => l
  | k + 1, l => closN k (l ++ ((l.flatMap (succM ro eo tell can name)).filter fun n => decide (n ∉ l)).eraseDups)
def clos : List Node := closN ro eo tell can name 12 [(0, 0, "fine"), (1, 0, "fine")]
/-- whether the property has a fault, if the turns are enough -/
def hasB : Option Bool :=
  if (clos ro eo tell can name).any (isFaultM ro eo tell name 4) = true then some true
  else if ((clos ro eo tell can name).all fun n => (succM ro eo tell can name n).all fun m => decide (m ∈ clos ro eo tell can name)) = true then some false
  else none
end
section
variable {ro eo : List (Str × Str)} {tell : Tell} {can : Nat → Bool} {name : Str}
theorem clos_reach : ∀ (k : Nat) (l : List Node), (∀ n ∈ l, Reach ro eo tell can name n) → ∀ n ∈ closN ro eo tell can name k l, Reach ro eo tell can name n
  | 0, l, h, n, hn => h n hn
  | k + 1, l, h, n, hn => by
    refine clos_reach k _ (fun m hm => ?_) n hn
    rcases List.mem_append.mp hm with hm | hm
    · exact h m hm
    · have := List.mem_filter.mp (List.mem_eraseDups.mp hm)
      obtain ⟨p, hp, hs⟩ := List.mem_flatMap.mp this.1
      exact .step (h p hp) hs
theorem clos_sub : ∀ (k : Nat) (l : List Node), ∀ n ∈ l, n ∈ closN ro eo tell can name k l
  | 0, l, n, h => h
  | k + 1, l, n, h => clos_sub k _ n (List.mem_append.mpr (.inl h))
theorem has_b {b : Bool} (h : hasB ro eo tell can name = some b) : alwM ro eo tell can name = !b := by
  unfold hasB at h
  split at h
  · rename_i e
    cases h
    obtain ⟨n, hn, hf⟩ := List.any_eq_true.mp e
    refine alw_has ⟨n, clos_reach 12 _ (fun m hm => ?_) n hn, hf⟩
    rcases List.mem_cons.mp hm with rfl | hm
    · exact .a
    · rw [List.mem_singleton.mp hm]
      exact .b
  · rename_i e
    split at h
    · rename_i c
      cases h
      refine alw_no (no_fault (seen := clos ro eo tell can name) (clos_sub 12 _ _ (by simp)) (clos_sub 12 _ _ (by simp)) (fun n hn m hm => ?_) fun n hn => ?_)
      · exact of_decide_eq_true (List.all_eq_true.mp (List.all_eq_true.mp c n hn) m hm)
      · cases hf : isFaultM ro eo tell name 4 n with
        | false => rfl
        | true => exact absurd (List.any_eq_true.mpr ⟨n, hn, hf⟩) e
    · cases h
end
/-! ### the least fault -/
abbrev Rep := List (Nat × Bool)
abbrev Lay := List (Node × Rep)
section
variable (ro eo : List (Str × Str)) (tell : Tell) (can3 : Nat → Nat → Nat → Bool) (name : Str)
/-- what comes and what is left -/
def moves3 (left sz : Nat) : List (Nat × Nat) := ((List.range (min left sz + 1)).filter (can3 left sz)).map fun c => (c, left - c)
def stepN (sz : Nat) (n : Node) (reps : Rep) (s : Lay × List Node) (p : Nat × Nat) : Lay × List Node :=
  match behM ro eo tell name n.1 n.2.1 n.2.2 sz p.1 p.2 with
  | none => s
  | some f => if f ∈ s.2 then s else (s.1 ++ [(f, reps ++ [(p.1, tell n.1 p.2)])], s.2 ++ [f])
def stepS (sz : Nat) (s : Lay × List Node) (x : Node × Rep) : Lay × List Node := (moves3 can3 x.1.1 sz).foldl (stepN ro eo tell name sz x.1 x.2) s
def nextL (sz : Nat) (lay : Lay) (seen : List Node) : Lay × List Node := lay.foldl (stepS ro eo tell can3 name sz) ([], seen)
/-- what the reading of a turn asks -/
def okL (lay : Lay) (seen : List Node) : Bool := decide (lay.length ≤ 100) && (decide (seen.length ≤ 1000) && lay.all fun x => decide (x.1.1 ≤ 1000) && (decide (x.1.2.1 ≤ 100) && decide (x.2.length ≤ 100)))
/-- the least replies, within so many turns -/
def leastR (sz : Nat) : Nat → Lay → List Node → Option (Option Rep)
  | 0, _, _ => none
  | k + 1, lay, seen =>
    if lay = [] then some none
    else if okL lay seen = true then
      match lay.find? fun x => isFaultM ro eo tell name sz x.1 with
      | some x => some (some x.2)
      | none => leastR sz k (nextL ro eo tell can3 name sz lay seen).1 (nextL ro eo tell can3 name sz lay seen).2
    else none
def leastS (items : Nat) : List Nat → Option (Option (Nat × Rep))
  | [] => some none
  | sz :: r => match leastR ro eo tell can3 name sz 60 [((items, 0, "fine"), [])] [(items, 0, "fine")] with
    | none => none
    | some (some rs) => some (some (sz, rs))
    | some none => leastS items r
def sizes (items : Nat) : List Nat := (List.range (items + 1)).map (· + 1)
def leastF : Nat → Nat → Option (Nat × Nat × Rep)
  | 0, _ => none
  | k + 1, items => match leastS ro eo tell can3 name items (sizes items) with
    | none => none
    | some (some (sz, rs)) => some (items, sz, rs)
    | some none => leastF k (items + 1)
end
section
variable {ro eo : List (Str × Str)} {tell : Tell} {can3 : Nat → Nat → Nat → Bool} {name : Str}
theorem moves3_len (left sz : Nat) : (moves3 can3 left sz).length ≤ min left sz + 1 := by
  unfold moves3
  rw [List.length_map]
  have := List.length_filter_le (can3 left sz) (List.range (min left sz + 1))
  rw [List.length_range] at this
  exact this
theorem moves3_get {left sz : Nat} {p : Nat × Nat} (h : p ∈ moves3 can3 left sz) : p.1 ≤ left ∧ p.1 ≤ sz ∧ p.2 = left - p.1 := by
  obtain ⟨c, hc, rfl⟩ := List.mem_map.mp h
  have := List.mem_range.mp (List.mem_filter.mp hc).1
  exact ⟨by show c ≤ left; omega, by show c ≤ sz; omega, rfl⟩
theorem stepN_len (sz : Nat) (n : Node) (reps : Rep) (s : Lay × List Node) (p : Nat × Nat) : (stepN ro eo tell name sz n reps s p).1.length ≤ s.1.length + 1 ∧ (stepN ro eo tell name sz n reps s p).2.length ≤ s.2.length + 1 := by
  unfold stepN
  split
  · exact ⟨Nat.le_succ _, Nat.le_succ _⟩
  · split
    · exact ⟨Nat.le_succ _, Nat.le_succ _⟩
    · refine ⟨?_, ?_⟩
      · show (s.1 ++ [_]).length ≤ _
        rw [List.length_append]
        exact Nat.le_refl _
      · show (s.2 ++ [_]).length ≤ _
        rw [List.length_append]
        exact Nat.le_refl _
theorem foldN_len (sz : Nat) (n : Node) (reps : Rep) : ∀ (ps : List (Nat × Nat)) (s : Lay × List Node), (ps.foldl (stepN ro eo tell name sz n reps) s).1.length ≤ s.1.length + ps.length ∧ (ps.foldl (stepN ro eo tell name sz n reps) s).2.length ≤ s.2.length + ps.length
  | [], s => ⟨Nat.le_refl _, Nat.le_refl _⟩
  | p :: r, s => by
    have a := stepN_len (ro := ro) (eo := eo) (tell := tell) (name := name) sz n reps s p
    have b := foldN_len sz n reps r (stepN ro eo tell name sz n reps s p)
    rw [List.foldl_cons, List.length_cons]
    exact ⟨by omega, by omega⟩
theorem foldS_len {sz : Nat} (hz : sz ≤ 100) : ∀ (xs : Lay) (s : Lay × List Node), (xs.foldl (stepS ro eo tell can3 name sz) s).1.length ≤ s.1.length + 101 * xs.length ∧ (xs.foldl (stepS ro eo tell can3 name sz) s).2.length ≤ s.2.length + 101 * xs.length
  | [], s => ⟨Nat.le_refl _, Nat.le_refl _⟩
  | x :: r, s => by
    have a : (stepS ro eo tell can3 name sz s x).1.length ≤ s.1.length + (moves3 can3 x.1.1 sz).length ∧ (stepS ro eo tell can3 name sz s x).2.length ≤ s.2.length + (moves3 can3 x.1.1 sz).length := foldN_len sz x.1 x.2 _ s
    have m := moves3_len (can3 := can3) x.1.1 sz
    have b := foldS_len hz r (stepS ro eo tell can3 name sz s x)
    rw [List.foldl_cons, List.length_cons]
    exact ⟨by omega, by omega⟩
theorem okL_iff {lay : Lay} {seen : List Node} (h : okL lay seen = true) : lay.length ≤ 100 ∧ seen.length ≤ 1000 ∧ ∀ x ∈ lay, x.1.1 ≤ 1000 ∧ x.1.2.1 ≤ 100 ∧ x.2.length ≤ 100 := by
  unfold okL at h
  have h1 := Bool.and_eq_true_iff.mp h
  have h2 := Bool.and_eq_true_iff.mp h1.2
  refine ⟨of_decide_eq_true h1.1, of_decide_eq_true h2.1, fun x hx => ?_⟩
  have h3 := Bool.and_eq_true_iff.mp (List.all_eq_true.mp h2.2 x hx)
  have h4 := Bool.and_eq_true_iff.mp h3.2
  exact ⟨of_decide_eq_true h3.1, of_decide_eq_true h4.1, of_decide_eq_true h4.2⟩
theorem find_at {p : Node × Rep → Bool} {lay : Lay} {i : Nat} {x : Node × Rep} (h : lay[i]? = some x) (no : ∀ y ∈ lay.take i, p y = false) (yes : p x = true) : lay.find? p = some x := by
  have l := (List.getElem?_eq_some_iff.mp h).1
  have e : lay = lay.take i ++ x :: lay.drop (i + 1) := by
    have := (List.getElem?_eq_some_iff.mp h).2
    rw [← this, List.getElem_cons_drop, List.take_append_drop]
  have n : (lay.take i).find? p = none := List.find?_eq_none.mpr fun y hy z => by rw [no y hy] at z; cases z
  rw [e, List.find?_append, n]
  show List.find? p (x :: lay.drop (i + 1)) = some x
  rw [List.find?_cons, yes]
theorem find_no {p : Node × Rep → Bool} {lay : Lay} (no : ∀ y ∈ lay, p y = false) : lay.find? p = none := List.find?_eq_none.mpr fun y hy z => by rw [no y hy] at z; cases z
end
end SR

/-! whether a loop ends, with exact and prompt sources: the search against the runs -/
namespace SR
open PySem L2 EM CoM
/-- the source tells what an exact and prompt one tells -/
def TellE (tell : Tell) (E : Str) : Prop := isE E ∧ ∀ b a : Nat, tell (b : Int) (a : Int) = CoM.tell E b a
section
variable {ro eo : List (Str × Str)} {tell : Tell} {can : Nat → Bool} {E : Str}
theorem TellE.no (h : TellE tell E) : tell 0 0 = tl E := (h.2 0 0).trans (tell_no h.1)
theorem TellE.some (h : TellE tell E) {b : Nat} (hb : b ≠ 0) (a : Nat) : tell (b : Int) (a : Int) = (wl E && decide (a = 0)) := (h.2 b a).trans (tell_some h.1 b a hb)
theorem mark_ends (mark : Str) (sz : Nat) (x : RP) (st told : Bool) (behind left : Nat) : markM "ends" mark sz x st told behind left = "fine" := by
  unfold markM
  rw [if_neg (by decide +kernel), if_neg (by decide +kernel), if_neg (by decide +kernel), if_neg (by decide +kernel)]
theorem beh_ends (before rest sz count left : Nat) : behM ro eo tell "ends" before rest "fine" sz count left = if (runL sz count (tell before left) ro rest).2 = true then none else some (left, (runL sz count (tell before left) ro rest).1, ("fine" : Str)) := by
  have low : lowM "fine" rest = 0 := by unfold lowM; rw [if_neg (by decide +kernel)]
  have a := ans_len sz ro eo (rgI (lowM "fine" rest + (rest : Int)) count) (tell before left) ⟨rgI (lowM "fine" rest) rest, []⟩
  rw [rgI_len] at a
  have lr : (⟨rgI (lowM "fine" rest) rest, []⟩ : RP).rest.length = rest := rgI_len _ _
  rw [lr] at a
  unfold behM
  dsimp only
  rw [mark_ends]
  by_cases c : (ansM sz ro eo (rgI (lowM "fine" rest + (rest : Int)) count) (tell before left) ⟨rgI (lowM "fine" rest) rest, []⟩).2 = true
  · rw [if_pos ⟨c, by decide +kernel⟩, if_pos (a.1 ▸ c)]
  · rw [if_neg (fun z => c z.1), if_neg (by rw [← a.1]; exact c), a.2 (by simpa using c)]
theorem nev_ends (hT : TellE tell E) (sz rest : Nat) : nevM ro eo tell sz rest = (nothL sz (tl E) ro 4 rest).isNone := by
  unfold nevM
  rw [hT.no]
  have a := (no_asked (sz := sz) ro eo (tl E) 4 ⟨⟨rgI 0 rest, []⟩, 0, false⟩ rfl).1
  rw [show (⟨⟨rgI 0 rest, []⟩, 0, false⟩ : WS).x.rest.length = rest from rgI_len _ _] at a
  cases c : nothL sz (tl E) ro 4 rest with
  | none => rw [c] at a; rw [a]; rfl
  | some r => rw [c] at a; rw [a.1]; rfl
theorem fault_ends (hT : TellE tell E) (sz left rest : Nat) (mark : Str) : isFaultM ro eo tell "ends" sz (left, rest, mark) = (decide (left = 0) && (nothL sz (tl E) ro 4 rest).isNone) := by
  unfold isFaultM
  rw [if_pos rfl, nev_ends hT]
theorem al_rest (r : Nat) : al 4 (restM r) = al 4 r := by
  unfold restM
  split
  · rename_i h; rw [h]
  split
  · split
    · rename_i h; rw [h]
    · unfold al
      rw [if_neg (show ¬ r = 0 by omega), if_neg (show ¬ r % 4 = 0 by omega)]
      rfl
  · split
    · rename_i h
      unfold al
      rw [if_neg (show ¬ r = 0 by omega), if_neg (show ¬ r % 4 = 0 from h)]
      rfl
    · rename_i h
      unfold al
      rw [if_neg (show ¬ r = 0 by omega), if_pos (show r % 4 = 0 by omega)]
      rfl
/-! ### the model -/
/-- kinds of rests behind full pieces with which the loop goes on -/
inductive FullR (ro : List (Str × Str)) : A → Prop
  | z : FullR ro .e
  | s {a : A} (h : FullR ro a) (g : (runA .full false ro a).2 = false) : FullR ro (runA .full false ro a).1
theorem FullR.np {a : A} (h : FullR ro a) : a ≠ .p := by
  induction h with
  | z => intro z; cases z
  | s _ _ ih => exact full_np false ro _ ih
theorem ask_succ (ro : List (Str × Str)) (E : Str) (part : Bool) (m : Nat) (a : A) (h : part = true ∨ 1 ≤ m) : askA ro E part (m + 1) a = if (runA .full false ro a).2 = true then some 1 else (askA ro E part m (runA .full false ro a).1).map (· + 1) := by
  have e : (wl E && decide (m = 0) && !part) = false := by
    rcases h with h | h
    · rw [h]; simp
    · rw [decide_eq_false (by omega)]; simp
  show (if (runA .full (wl E && decide (m = 0) && !part) ro a).2 = true then _ else _) = _
  rw [e]
theorem FullR.ask {a : A} (h : FullR ro a) (E : Str) (part : Bool) : ∀ m, (part = true ∨ 1 ≤ m) → askA ro E part m a = none → ∃ q, askA ro E part q .e = none := by
  induction h with
  | z => exact fun m _ e => ⟨m, e⟩
  | s _ g ih =>
    intro m hm e
    refine ih (m + 1) (.inr (by omega)) ?_
    rw [ask_succ _ _ _ _ _ hm, if_neg (by rw [g]; decide), e]
    rfl
theorem noth_step (told : Bool) {n : Nat} (g : (runL 4 0 told ro n).2 = false) (h : nothA told ro 3 (al 4 (runL 4 0 told ro n).1) = none) : nothA told ro 3 (al 4 n) = none := by
  rw [← noth_al (by decide : 1 ≤ 4) told ro 2 n]
  show (if (runL 4 0 told ro n).2 = true then some 1 else if (runL 4 0 told ro n).1 = n then none else (nothL 4 told ro 4 (runL 4 0 told ro n).1).map (· + 1)) = none
  rw [if_neg (by rw [g]; decide)]
  split
  · rfl
  · rw [noth_al (by decide : 1 ≤ 4) told ro 1, h]
    rfl
/-- what is known of a state that the search meets -/
def Inv1 (ro : List (Str × Str)) (E : Str) (n : Node) : Prop := n.2.2 = "fine" ∧ (n.1 = 1 ∧ FullR ro (al 4 n.2.1) ∨ n.1 = 0 ∧ (nothA (tl E) ro 3 (al 4 n.2.1) = none → ∃ part q, askA ro E part q .e = none))
theorem reach_inv (hT : TellE tell E) (ha : adds ro ≤ 1) (hc : ∀ c, can c = true → c = 4) {n : Node} (h : Reach ro eo tell can "ends" n) : Inv1 ro E n := by
  induction h with
  | a => exact ⟨rfl, .inr ⟨rfl, fun z => ⟨false, 0, z⟩⟩⟩
  | b => exact ⟨rfl, .inl ⟨rfl, .z⟩⟩
  | @step n m h s ih =>
    obtain ⟨l, r, mk⟩ := n
    obtain ⟨em, ih⟩ := ih
    have em : mk = "fine" := em
    subst em
    obtain ⟨p, hp, hs⟩ := List.mem_filterMap.mp s
    unfold nextM at hs
    rw [beh_ends] at hs
    split at hs
    · cases hs
    rename_i g
    have g : (runL 4 p.1 (tell l p.2) ro r).2 = false := by simpa using g
    obtain rfl : m = (p.2, restM (runL 4 p.1 (tell l p.2) ro r).1, ("fine" : Str)) := (Option.some.inj hs).symm
    refine ⟨rfl, ?_⟩
    show p.2 = 1 ∧ FullR ro (al 4 (restM _)) ∨ p.2 = 0 ∧ (nothA (tl E) ro 3 (al 4 (restM _)) = none → _)
    rw [al_rest]
    rcases ih with ⟨l1, hF⟩ | ⟨l0, hN⟩
    · have l1 : l = 1 := l1
      subst l1
      have hF : FullR ro (al 4 r) := hF
      have np := hF.np
      have t0 : tell ((1 : Nat) : Int) ((0 : Nat) : Int) = wl E := by rw [hT.some (by decide)]; simp
      have t1 : tell ((1 : Nat) : Int) ((1 : Nat) : Int) = false := by rw [hT.some (by decide)]; simp
      have full : ∀ told, runA .full told ro (al 4 r) = (al 4 (runL 4 4 told ro r).1, (runL 4 4 told ro r).2) := fun told => by
        have := run_al (h := 4) (by decide : 1 ≤ 4) (Nat.le_refl _) told ro r (fun q => by cases q)
        exact this
      unfold movesM at hp
      rw [if_neg (show ¬ (1 : Nat) = 0 by decide)] at hp
      rcases List.mem_append.mp hp with hp | hp
      · have part : ∀ c, 1 ≤ c → c < 4 → runA .part (wl E) ro (al 4 r) = (al 4 (runL 4 c (wl E) ro r).1, (runL 4 c (wl E) ro r).2) := fun c c1 c4 => by
          have := run_al (h := c) (by decide : 1 ≤ 4) (Nat.le_of_lt c4) (wl E) ro r (fun _ => ⟨ha, .inr np⟩)
          rw [show kd 4 c = .part by unfold kd; rw [if_neg (by omega), if_pos c4]] at this
          exact this
        have fin : ∀ c, 1 ≤ c → c < 4 → (runL 4 c (wl E) ro r).2 = false → nothA (tl E) ro 3 (al 4 (runL 4 c (wl E) ro r).1) = none → ∃ part q, askA ro E part q .e = none := fun c c1 c4 g z => by
          obtain ⟨q, hq⟩ := hF.ask E true 0 (.inl rfl) (by
            show (if true = true then (if (runA .part (wl E) ro (al 4 r)).2 = true then some 1 else (nothA (tl E) ro 3 (runA .part (wl E) ro (al 4 r)).1).map (· + 1)) else _) = none
            rw [if_pos rfl, part c c1 c4, if_neg (by rw [g]; decide), z]
            rfl)
          exact ⟨true, q, hq⟩
        simp only [List.mem_cons, List.mem_nil_iff, or_false] at hp
        rcases hp with rfl | rfl | rfl | rfl
        · rw [t0] at g ⊢; exact .inr ⟨rfl, fin 1 (by decide) (by decide) g⟩
        · rw [t0] at g ⊢; exact .inr ⟨rfl, fin 2 (by decide) (by decide) g⟩
        · rw [t0] at g ⊢; exact .inr ⟨rfl, fin 3 (by decide) (by decide) g⟩
        · rw [t0] at g ⊢
          refine .inr ⟨rfl, fun z => ?_⟩
          obtain ⟨q, hq⟩ := hF.ask E false 1 (.inr (by decide)) (by
            show (if (runA .full (wl E && decide (0 = 0) && !false) ro (al 4 r)).2 = true then some 1 else (askA ro E false 0 (runA .full (wl E && decide (0 = 0) && !false) ro (al 4 r)).1).map (· + 1)) = none
            rw [show (wl E && decide (0 = 0) && !false) = wl E by simp, full, if_neg (by rw [g]; decide)]
            show Option.map _ (nothA (tl E) ro 3 (al 4 (runL 4 4 (wl E) ro r).1)) = none
            rw [z]
            rfl)
          exact ⟨false, q, hq⟩
      · obtain ⟨c, hcm, rfl⟩ := List.mem_map.mp hp
        obtain rfl := hc c (List.mem_filter.mp hcm).2
        rw [t1] at g ⊢
        refine .inl ⟨rfl, ?_⟩
        have := FullR.s hF (by rw [full]; exact g)
        rw [full] at this
        exact this
    · have l0 : l = 0 := l0
      subst l0
      unfold movesM at hp
      rw [if_pos rfl] at hp
      obtain rfl := List.mem_singleton.mp hp
      have t : tell ((0 : Nat) : Int) ((0 : Nat) : Int) = tl E := hT.no
      rw [t] at g ⊢
      exact .inr ⟨rfl, fun z => hN (noth_step _ g z)⟩
theorem run_full (told : Bool) (r : Nat) : runA .full told ro (al 4 r) = (al 4 (runL 4 4 told ro r).1, (runL 4 4 told ro r).2) :=
  run_al (h := 4) (by decide : 1 ≤ 4) (Nat.le_refl _) told ro r (fun q => by cases q)
theorem open_has (hT : TellE tell E) (ha : adds ro ≤ 1) (hc : can 4 = true) (part : Bool) : ∀ (q r : Nat), (part = true ∨ 1 ≤ q) → al 4 r ≠ .p → Reach ro eo tell can "ends" (1, r, "fine") → askA ro E part q (al 4 r) = none → HasF ro eo tell can "ends" := by
  have t0 : tell ((1 : Nat) : Int) ((0 : Nat) : Int) = wl E := by rw [hT.some (by decide)]; simp
  have t1 : tell ((1 : Nat) : Int) ((1 : Nat) : Int) = false := by rw [hT.some (by decide)]; simp
  have last : ∀ (r c : Nat), (c, 0) ∈ movesM can 1 → Reach ro eo tell can "ends" (1, r, "fine") → (runL 4 c (wl E) ro r).2 = false → nothA (tl E) ro 3 (al 4 (runL 4 c (wl E) ro r).1) = none → HasF ro eo tell can "ends" := fun r c hm hr g z => by
    have hs : nextM ro eo tell "ends" (1, r, "fine") (c, 0) = some (0, restM (runL 4 c (wl E) ro r).1, ("fine" : Str)) := by
      unfold nextM
      rw [beh_ends]
      show Option.map _ (if (runL 4 c (tell ((1 : Nat) : Int) ((0 : Nat) : Int)) ro r).2 = true then none else _) = _
      rw [t0, if_neg (by rw [g]; decide)]
      rfl
    refine ⟨_, hr.step (List.mem_filterMap.mpr ⟨(c, 0), hm, hs⟩), ?_⟩
    rw [fault_ends hT, noth_al (by decide : 1 ≤ 4) (tl E) ro 1, al_rest, z]
    rfl
  intro q
  induction q with
  | zero =>
    intro r hq np hr h
    obtain rfl : part = true := by
      rcases hq with hq | hq
      · exact hq
      · omega
    have h : (if true = true then (if (runA .part (wl E) ro (al 4 r)).2 = true then some 1 else (nothA (tl E) ro 3 (runA .part (wl E) ro (al 4 r)).1).map (· + 1)) else nothA (tl E) ro 3 (al 4 r)) = none := h
    have e := run_al (h := 2) (by decide : 1 ≤ 4) (by decide) (wl E) ro r (fun _ => ⟨ha, .inr np⟩)
    rw [show kd 4 2 = .part from rfl] at e
    rw [if_pos rfl, e] at h
    split at h
    · cases h
    rename_i g
    exact last r 2 (by unfold movesM; rw [if_neg (by decide)]; simp) hr (by simpa using g) (by simpa using h)
  | succ q ih =>
    intro r hq np hr h
    by_cases l : part = true ∨ 1 ≤ q
    · rw [ask_succ _ _ _ _ _ l, run_full] at h
      split at h
      · cases h
      rename_i g
      have g : (runL 4 4 false ro r).2 = false := by simpa using g
      have np' := full_np false ro (al 4 r) np
      rw [run_full] at np'
      have hs : nextM ro eo tell "ends" (1, r, "fine") (4, 1) = some (1, restM (runL 4 4 false ro r).1, ("fine" : Str)) := by
        unfold nextM
        rw [beh_ends]
        show Option.map _ (if (runL 4 4 (tell ((1 : Nat) : Int) ((1 : Nat) : Int)) ro r).2 = true then none else _) = _
        rw [t1, if_neg (by rw [g]; decide)]
        rfl
      refine ih (restM (runL 4 4 false ro r).1) l (by rw [al_rest]; exact np') (hr.step (List.mem_filterMap.mpr ⟨(4, 1), ?_, hs⟩)) (by rw [al_rest]; simpa using h)
      unfold movesM
      rw [if_neg (show ¬ (1 : Nat) = 0 by decide)]
      refine List.mem_append.mpr (.inr (List.mem_map.mpr ⟨4, List.mem_filter.mpr ⟨by decide, hc⟩, rfl⟩))
    · obtain rfl : q = 0 := by omega
      obtain rfl : part = false := by cases part with | true => exact absurd (.inl rfl) l | false => rfl
      have h : (if (runA .full (wl E && decide (0 = 0) && !false) ro (al 4 r)).2 = true then some 1 else (askA ro E false 0 (runA .full (wl E && decide (0 = 0) && !false) ro (al 4 r)).1).map (· + 1)) = none := h
      rw [show (wl E && decide (0 = 0) && !false) = wl E by simp, run_full] at h
      split at h
      · cases h
      rename_i g
      exact last r 4 (by unfold movesM; rw [if_neg (by decide)]; simp) hr (by simpa using g) (by
        have h : Option.map (· + 1) (nothA (tl E) ro 3 (al 4 (runL 4 4 (wl E) ro r).1)) = none := h
        simpa using h)
/-- a loop always ends exactly if no number of questions is None -/
theorem ends_iff (hT : TellE tell E) (ha : adds ro ≤ 1) (h4 : can 4 = true) (hc : ∀ c, can c = true → c = 4) : HasF ro eo tell can "ends" ↔ ∃ part q, askA ro E part q .e = none := by
  constructor
  · rintro ⟨n, hr, hf⟩
    obtain ⟨l, r, mk⟩ := n
    rw [fault_ends hT] at hf
    have h := Bool.and_eq_true_iff.mp hf
    have l0 : l = 0 := of_decide_eq_true h.1
    obtain ⟨_, hi⟩ := reach_inv hT ha hc hr
    have z : nothA (tl E) ro 3 (al 4 r) = none := by
      rw [← noth_al (by decide : 1 ≤ 4) (tl E) ro 1]
      exact Option.isNone_iff_eq_none.mp h.2
    rcases hi with ⟨l1, _⟩ | ⟨_, hN⟩
    · have l1 : l = 1 := l1
      omega
    · exact hN z
  · rintro ⟨part, q, h⟩
    by_cases l : part = true ∨ 1 ≤ q
    · exact open_has hT ha h4 part q 0 l (by intro z; cases z) .b h
    · obtain rfl : q = 0 := by omega
      obtain rfl : part = false := by cases part with | true => exact absurd (.inl rfl) l | false => rfl
      refine ⟨_, .a, ?_⟩
      rw [fault_ends hT, noth_al (by decide : 1 ≤ 4) (tl E) ro 1]
      have h : nothA (tl E) ro 3 .e = none := h
      rw [show al 4 0 = .e from rfl, h]
      rfl
end
end SR

/-! the search finds what runs show: one round, seen by sorts -/
namespace SS
open PySem EM CoM SR
inductive Q | e | p | f | m | x
  deriving DecidableEq
def so (sz n : Nat) : Q := if n = 0 then .e else if n < sz then .p else if n = sz then .f else if n % sz = 0 then .x else .m
def cutQ : Q → Q
  | .p => .p
  | .m => .p
  | _ => .e
def lowQ (a : Q) : Bool := match a with | .e => true | .p => true | _ => false
section
variable {sz : Nat} (z : 1 ≤ sz)
include z
theorem so_e {n : Nat} : so sz n = .e ↔ n = 0 := by
  unfold so
  constructor
  · intro h
    by_cases c : n = 0
    · exact c
    · rw [if_neg c] at h
      split at h
      · cases h
      · split at h
        · cases h
        · split at h <;> cases h
  · intro h; rw [if_pos h]
theorem so_low {n : Nat} : lowQ (so sz n) = decide (n < sz) := by
  unfold so
  by_cases a : n = 0
  · rw [if_pos a, decide_eq_true (by omega)]; rfl
  · rw [if_neg a]
    by_cases b : n < sz
    · rw [if_pos b, decide_eq_true b]; rfl
    · rw [if_neg b, decide_eq_false b]
      split
      · rfl
      · split <;> rfl
theorem so_cut (n : Nat) : so sz (n % sz) = cutQ (so sz n) := by
  have lt : n % sz < sz := Nat.mod_lt _ z
  unfold so
  by_cases a : n = 0
  · rw [if_pos a, if_pos (by rw [a, Nat.zero_mod])]; rfl
  rw [if_neg a]
  by_cases b : n < sz
  · rw [if_pos b, Nat.mod_eq_of_lt b, if_neg a, if_pos b]; rfl
  rw [if_neg b]
  by_cases c : n = sz
  · rw [if_pos c, if_pos (by rw [c, Nat.mod_self])]; rfl
  rw [if_neg c]
  by_cases d : n % sz = 0
  · rw [if_pos d, if_pos d]; rfl
  · rw [if_neg d, if_neg d, if_pos lt]; rfl
theorem so_f {n : Nat} : so sz n = .f ↔ n = sz := by
  unfold so
  constructor
  · intro h
    by_cases a : n = 0
    · rw [if_pos a] at h; cases h
    · rw [if_neg a] at h
      split at h
      · cases h
      · split at h
        · assumption
        · split at h <;> cases h
  · rintro rfl
    rw [if_neg (by omega), if_neg (by omega), if_pos rfl]
/-- a multiple of the size -/
theorem so_mul {n : Nat} : (so sz n = .e ∨ so sz n = .f ∨ so sz n = .x) ↔ n % sz = 0 := by
  unfold so
  by_cases a : n = 0
  · rw [if_pos a]; exact ⟨fun _ => by rw [a, Nat.zero_mod], fun _ => .inl rfl⟩
  rw [if_neg a]
  by_cases b : n < sz
  · rw [if_pos b, Nat.mod_eq_of_lt b]; exact ⟨fun h => (by rcases h with h | h | h <;> cases h), fun h => absurd h a⟩
  rw [if_neg b]
  by_cases c : n = sz
  · rw [if_pos c]; exact ⟨fun _ => by rw [c, Nat.mod_self], fun _ => .inr (.inl rfl)⟩
  rw [if_neg c]
  by_cases d : n % sz = 0
  · rw [if_pos d]; exact ⟨fun _ => d, fun _ => .inr (.inr rfl)⟩
  · rw [if_neg d]; exact ⟨fun h => (by rcases h with h | h | h <;> cases h), fun h => absurd h d⟩
end
theorem rest_so (r : Nat) : so 4 (restM r) = so 4 r := by
  unfold restM
  by_cases a : r = 0
  · rw [if_pos a, a]
  rw [if_neg a]
  by_cases b : r ≤ 4
  · rw [if_pos b]
    by_cases c : r = 4
    · rw [if_pos c, c]
    · rw [if_neg c]
      unfold so
      rw [if_neg (by decide), if_pos (by decide), if_neg a, if_pos (by omega)]
  rw [if_neg b]
  unfold so
  rw [if_neg a, if_neg (show ¬ r < 4 by omega), if_neg (show ¬ r = 4 by omega)]
  by_cases c : r % 4 = 0
  · rw [if_neg (show ¬ r % 4 ≠ 0 from fun h => h c), if_pos c]; rfl
  · rw [if_pos c, if_neg c]; rfl
/-- what an add can make of a rest -/
def allow : Hk → Q → Q → Bool
  | .no, a, o => decide (o = a)
  | .full, .e, o => decide (o = .f)
  | .full, .p, o => decide (o = .m)
  | .full, .f, o => decide (o = .x)
  | .full, .m, o => decide (o = .m)
  | .full, .x, o => decide (o = .x)
  | .part, .e, o => decide (o = .p)
  | .part, .p, o => decide (o = .p ∨ o = .f ∨ o = .m)
  | .part, .f, o => decide (o = .m)
  | .part, .m, o => decide (o = .m ∨ o = .x)
  | .part, .x, o => decide (o = .m)
theorem mod_le {a b sz : Nat} (z : 1 ≤ sz) (h : a % sz = 0) (hb : b < sz) (b0 : b ≠ 0) : (a + b) % sz ≠ 0 := by
  rw [Nat.add_mod, h, Nat.zero_add, Nat.mod_mod, Nat.mod_eq_of_lt hb]
  exact b0
theorem add_ok {sz : Nat} (z : 1 ≤ sz) {c : Nat} (hc : c ≤ sz) (n : Nat) : allow (kd sz c) (so sz n) (so sz (n + c)) = true := by
  unfold kd
  by_cases c0 : c = 0
  · rw [if_pos c0, c0]; exact decide_eq_true rfl
  rw [if_neg c0]
  have ne : n + c ≠ 0 := by omega
  by_cases c1 : c < sz
  · rw [if_pos c1]
    have big : ¬ n < sz → n ≠ 0 := by omega
    by_cases a : n = 0
    · rw [(so_e z).mpr a, a, Nat.zero_add]
      refine decide_eq_true ?_
      unfold so; rw [if_neg c0, if_pos c1]
    by_cases b : n < sz
    · rw [show so sz n = .p by unfold so; rw [if_neg a, if_pos b]]
      refine decide_eq_true ?_
      unfold so
      rw [if_neg ne]
      by_cases d : n + c < sz
      · rw [if_pos d]; exact .inl rfl
      rw [if_neg d]
      by_cases e : n + c = sz
      · rw [if_pos e]; exact .inr (.inl rfl)
      rw [if_neg e]
      have : (n + c) % sz ≠ 0 := by
        have e1 : (n + c) % sz = n + c - sz := by rw [Nat.mod_eq_sub_mod (by omega), Nat.mod_eq_of_lt (by omega)]
        omega
      rw [if_neg this]; exact .inr (.inr rfl)
    have g : ¬ n + c < sz := by omega
    have g2 : ¬ n + c = sz := by omega
    by_cases d : n % sz = 0
    · have o : so sz (n + c) = .m := by
        unfold so; rw [if_neg ne, if_neg g, if_neg g2, if_neg (mod_le z d c1 c0)]
      rw [o]
      rcases (so_mul z).mpr d with h | h | h
      · exact absurd ((so_e z).mp h) a
      · rw [h]; rfl
      · rw [h]; rfl
    · rw [show so sz n = .m by unfold so; rw [if_neg a, if_neg b, if_neg (by intro h; rw [h, Nat.mod_self] at d; exact d rfl), if_neg d]]
      refine decide_eq_true ?_
      unfold so
      rw [if_neg ne, if_neg g, if_neg g2]
      split
      · exact .inr rfl
      · exact .inl rfl
  · rw [if_neg c1]
    have hcs : c = sz := by omega
    subst hcs
    have g : ¬ n + c < c := by omega
    have em : (n + c) % c = n % c := Nat.add_mod_right n c
    by_cases a : n = 0
    · rw [(so_e z).mpr a, a, Nat.zero_add, (so_f z).mpr rfl]; rfl
    have g2 : ¬ n + c = c := by omega
    by_cases b : n < c
    · rw [show so c n = .p by unfold so; rw [if_neg a, if_pos b]]
      refine decide_eq_true ?_
      unfold so; rw [if_neg ne, if_neg g, if_neg g2, em, Nat.mod_eq_of_lt b, if_neg a]
    by_cases d : n % c = 0
    · have o : so c (n + c) = .x := by unfold so; rw [if_neg ne, if_neg g, if_neg g2, em, if_pos d]
      rw [o]
      rcases (so_mul z).mpr d with h | h | h
      · exact absurd ((so_e z).mp h) a
      · rw [h]; rfl
      · rw [h]; rfl
    · rw [show so c n = .m by unfold so; rw [if_neg a, if_neg b, if_neg (by intro h; rw [h, Nat.mod_self] at d; exact d rfl), if_neg d]]
      refine decide_eq_true ?_
      unfold so; rw [if_neg ne, if_neg g, if_neg g2, em, if_neg d]
/-- the model can make each of them -/
def cands : Hk → List Nat
  | .no => [0]
  | .full => [4]
  | .part => [1, 2, 3]
def norm : List Nat := [0, 2, 4, 6, 8]
theorem add_can : ∀ k : Hk, ∀ y ∈ norm, ∀ o : Q, allow k (so 4 y) o = true → ∃ c ∈ cands k, so 4 (y + c) = o := by
  have : ∀ k ∈ [Hk.no, Hk.part, Hk.full], ∀ y ∈ norm, ∀ o ∈ [Q.e, Q.p, Q.f, Q.m, Q.x], allow k (so 4 y) o = true → ∃ c ∈ cands k, so 4 (y + c) = o := by decide +kernel
  intro k y hy o h
  exact this k (by cases k <;> decide) y hy o (by cases o <;> decide) h
end SS

/-! one round, seen by sorts: what is handed on -/
namespace SS
open PySem EM CoM SR
/-- where the round stands: A, B before and behind an add; H, T all handed on, T some of it kept; a b g t the same if old items are kept; Z out of order; N nothing is told -/
inductive Ph | A | B1 (a : Q) | B2 (b : Bool) | H | T | a | h | b | t | Z | N
structure AS where
  s : Q
  ph : Ph
  em : Bool
  ev : Str
/-- one piece more: lt, eq or gt the size -/
def evB (m : Str) (lt gt : Bool) : Str := if m = "fault" then "fault" else if m = "short" ∨ gt = true then "fault" else if lt = true then "short" else m
def evF (sz : Nat) (m : Str) (ps : List (List Int)) : Str := ps.foldl (fun m p => evB m (decide (p.length < sz)) (decide (sz < p.length))) m
theorem evF_app (sz : Nat) (m : Str) (a b : List (List Int)) : evF sz m (a ++ b) = evF sz (evF sz m a) b := by unfold evF; rw [List.foldl_append]
theorem evF_fault (sz : Nat) : ∀ ps : List (List Int), evF sz "fault" ps = "fault"
  | [] => rfl
  | p :: r => by
    show evF sz (evB "fault" _ _) r = _
    rw [show ∀ a b, evB "fault" a b = "fault" from fun a b => if_pos rfl, evF_fault sz r]
theorem even_evF (sz : Nat) : ∀ (ps : List (List Int)) (m : Str), m ≠ "fault" → evenM sz m ps = evF sz m ps
  | [], m, _ => rfl
  | p :: r, m, h => by
    show (if m = "short" ∨ sz < p.length then ("fault" : Str) else evenM sz (if p.length < sz then "short" else m) r) = evF sz (evB m (decide (p.length < sz)) (decide (sz < p.length))) r
    unfold evB
    rw [if_neg h]
    by_cases c : m = "short" ∨ sz < p.length
    · rw [if_pos c, if_pos (c.imp id decide_eq_true), evF_fault]
    · rw [if_neg c, if_neg (show ¬ (m = "short" ∨ decide (sz < p.length) = true) from fun q => c (q.imp id of_decide_eq_true))]
      by_cases d : p.length < sz
      · rw [if_pos d, if_pos (decide_eq_true d)]
        exact even_evF sz r _ (by decide +kernel)
      · rw [if_neg d, if_neg (by rw [decide_eq_false d]; decide)]
        exact even_evF sz r _ h
theorem evB_full (m : Str) : evB m false false = if m = "fault" ∨ m = "short" then ("fault" : Str) else m := by
  unfold evB
  by_cases c : m = "fault"
  · rw [if_pos c, if_pos (.inl c)]
  · rw [if_neg c]
    by_cases d : m = "short"
    · rw [if_pos (.inl d), if_pos (.inr d)]
    · rw [if_neg (show ¬ (m = "short" ∨ false = true) from fun q => q.elim d (by decide)), if_neg (show ¬ false = true by decide), if_neg (fun q => q.elim c d)]
theorem evB_ff (m : Str) : evB (evB m false false) false false = evB m false false := by
  rw [evB_full m]
  by_cases c : m = "fault" ∨ m = "short"
  · rw [if_pos c]; rfl
  · rw [if_neg c, evB_full, if_neg c]
/-- full pieces -/
theorem evF_full (sz : Nat) (m : Str) : ∀ ps : List (List Int), (∀ p ∈ ps, p.length = sz) → evF sz m ps = if ps = [] then m else evB m false false
  | [], _ => rfl
  | p :: r, h => by
    have hp := h p (List.mem_cons_self ..)
    have e : evF sz m (p :: r) = evF sz (evB m false false) r := by
      show evF sz (evB m (decide (p.length < sz)) (decide (sz < p.length))) r = _
      rw [decide_eq_false (by omega), decide_eq_false (by omega)]
    rw [e, evF_full sz _ r (fun q hq => h q (List.mem_cons_of_mem _ hq)), if_neg (show ¬ p :: r = [] from fun z => by cases z)]
    by_cases c : r = []
    · rw [if_pos c]
    · rw [if_neg c, evB_ff]
def ltQ (a : Q) : Bool := lowQ a
def gtQ (a : Q) : Bool := match a with | .m => true | .x => true | _ => false
def mulQ (a : Q) : Bool := match a with | .m => false | .p => false | _ => true
/-- what a step makes of it: k what is held, o what an add makes of the rest -/
def stepP (k : Hk) (s : Q) (ord : Str) (ph : Ph) : Ph :=
  if ord = "add" then (match ph with | .A => .B1 s | .H => .T | .a => .b | .h => .t | .Z => .Z | _ => .N)
  else if ord = "hand" then (if k = .no then ph else match ph with
    | .A => if s = .e then .H else .Z
    | .B1 a => if a = .e then .T else .Z
    | .B2 b => if b = true then .T else .Z
    | .a => .h
    | .b => .t
    | .N => .N
    | _ => .Z)
  else if ord = "cut" then (match ph with
    | .B1 a => .B2 (mulQ a && decide (k ≠ .full))
    | .T => if k = .full then .Z else .T
    | .a => if lowQ s then .a else .Z
    | .h => if lowQ s then .h else .Z
    | .b => if lowQ s then .b else .Z
    | .t => if lowQ s then .t else .Z
    | p => p)
  else if ord = "flush" then (match ph with
    | .B1 _ => .B2 (decide (k = .no))
    | .B2 _ => .B2 (decide (k = .no))
    | .T => if k = .no then .T else .Z
    | .a => .Z
    | .h => .Z
    | .b => .Z
    | .t => .Z
    | p => p)
  else ph
def stepA (k : Hk) (o : Q) (ord : Str) (a : AS) : AS :=
  ⟨if ord = "add" then o else if ord = "hand" then a.s else if ord = "cut" then cutQ a.s else if ord = "flush" then .e else a.s,
   stepP k a.s ord a.ph,
   if ord = "hand" then a.em || decide (k = .no) else if ord = "flush" then a.em || decide (a.s = .e) else a.em,
   if ord = "hand" then evB a.ev (decide (k ≠ .full)) false else if ord = "cut" then (if lowQ a.s then a.ev else evB a.ev false false) else if ord = "flush" then evB a.ev (ltQ a.s) (gtQ a.s) else a.ev⟩
/-- the orders of a round -/
def runS (k : Hk) (told : Bool) (o : Q) : List (Str × Str) → AS → AS × Bool
  | [], a => (a, false)
  | (t, s) :: r, a => if passA k told t (if a.s = .e then .e else .p) = true then (if s = "again" then (a, false) else if s = "stop" then (a, true) else runS k told o r (stepA k o s a)) else runS k told o r a
def endS (k : Hk) (told : Bool) (o : Q) : List (Str × Str) → AS → AS
  | [], a => a
  | (t, s) :: r, a => endS k told o r (if passA k told t (if a.s = .e then .e else .p) = true then stepA k o s a else a)
/-- what a round is about: the first item that is not handed on yet, how many items the rest has, what is held; whether old items are kept -/
structure Rd where
  k : Int
  r : Nat
  c : Nat
  old : List Int
def Rd.held (d : Rd) (tw : Bool) : List Int := if tw = true then rgI d.k d.c else rgI (d.k + (d.r : Nat)) d.c
def PhOk (sz : Nat) (d : Rd) (tw : Bool) (F rest : List Int) : Ph → Prop
  | .A => tw = false ∧ ∃ j, j ≤ d.r ∧ F = rgI d.k j ∧ rest = rgI (d.k + (j : Nat)) (d.r - j)
  | .B1 a => tw = false ∧ ∃ j, j ≤ d.r ∧ F = rgI d.k j ∧ rest = rgI (d.k + (j : Nat)) (d.r + d.c - j) ∧ so sz (d.r - j) = a
  | .B2 b => tw = false ∧ ∃ j, j ≤ d.r + d.c ∧ F = rgI d.k j ∧ rest = rgI (d.k + (j : Nat)) (d.r + d.c - j) ∧ d.r + d.c - j < sz ∧ (b = true ↔ j = d.r)
  | .H => tw = false ∧ F = rgI d.k (d.r + d.c) ∧ rest = []
  | .T => tw = false ∧ F = rgI d.k (d.r + d.c) ∧ rest = rgI (d.k + (d.r : Nat)) d.c
  | .a => tw = true ∧ F = [] ∧ rest = d.old
  | .h => tw = true ∧ F = rgI d.k d.c ∧ rest = d.old
  | .b => tw = true ∧ F = [] ∧ rest = d.old ++ rgI d.k d.c
  | .t => tw = true ∧ F = rgI d.k d.c ∧ rest = d.old ++ rgI d.k d.c
  | .Z => F ≠ rgI d.k F.length
  | .N => True
theorem rgI_app (lo : Int) (n m : Nat) : rgI lo n ++ rgI (lo + (n : Nat)) m = rgI lo (n + m) := by
  unfold rgI
  rw [List.range_add, List.map_append, List.map_map]
  congr 1
  refine List.map_congr_left fun i _ => ?_
  show lo + (n : Int) + (i : Int) = lo + ((n + i : Nat) : Int)
  omega
theorem rgI_zero (lo : Int) : rgI lo 0 = [] := rfl
theorem rgI_get {lo : Int} {n i : Nat} (h : i < n) : (rgI lo n)[i]? = some (lo + (i : Nat)) := by
  unfold rgI
  rw [List.getElem?_map, List.getElem?_range h]
  rfl
/-- out of order stays so -/
theorem bad_app {k : Int} {F G : List Int} (h : F ≠ rgI k F.length) : F ++ G ≠ rgI k (F ++ G).length := fun e => by
  apply h
  rw [List.length_append, ← rgI_app] at e
  exact (List.append_inj e (rgI_len _ _).symm).1
theorem bad_at {k : Int} {F : List Int} {i : Nat} {v : Int} (h : F[i]? = some v) (n : v ≠ k + (i : Nat)) : F ≠ rgI k F.length := fun e => by
  have lt : i < F.length := (List.getElem?_eq_some_iff.mp h).1
  rw [e, rgI_get lt] at h
  exact n (Option.some.inj h).symm

/-- the round so far, seen by sorts -/
structure Ok (sz : Nat) (d : Rd) (tw : Bool) (m0 : Str) (x : RP) (a : AS) : Prop where
  s : so sz x.rest.length = a.s
  ph : PhOk sz d tw x.pieces.flatten x.rest a.ph
  em : decide ([] ∈ x.pieces) = a.em
  ev : evF sz m0 x.pieces = a.ev
theorem cutN_len {sz : Nat} (z : 1 ≤ sz) (xs : List Int) (n : Nat) (h : n * sz ≤ xs.length) : ∀ p ∈ cutN sz xs n, p.length = sz := fun p hp => by
  unfold cutN at hp
  obtain ⟨i, hi, rfl⟩ := List.mem_map.mp hp
  have hi := List.mem_range.mp hi
  have : (i + 1) * sz ≤ n * sz := Nat.mul_le_mul_right _ hi
  have e : (i + 1) * sz = i * sz + sz := Nat.succ_mul _ _
  rw [List.length_take, List.length_drop]
  omega
theorem cutN_flat (sz : Nat) (xs : List Int) : ∀ n, (cutN sz xs n).flatten = xs.take (n * sz)
  | 0 => by simp [cutN]
  | n + 1 => by
    rw [cutN_succ', List.flatten_append, cutN_flat sz xs n]
    simp only [List.flatten_cons, List.flatten_nil, List.append_nil]
    rw [Nat.succ_mul, List.take_add]
theorem cutN_nil (sz : Nat) (xs : List Int) (n : Nat) : cutN sz xs n = [] ↔ n = 0 := by
  unfold cutN
  rw [List.map_eq_nil_iff, List.range_eq_nil]
theorem rgI_take (lo : Int) (n m : Nat) : (rgI lo n).take m = rgI lo (min m n) := by
  unfold rgI
  rw [← List.map_take, List.take_range]
theorem rgI_drop (lo : Int) (n m : Nat) : (rgI lo n).drop m = rgI (lo + (m : Nat)) (n - m) := by
  by_cases h : m ≤ n
  · have e : n = m + (n - m) := by omega
    conv => lhs; rw [e]
    rw [← rgI_app, List.drop_left' (rgI_len _ _)]
  · rw [List.drop_eq_nil_of_le (by rw [rgI_len]; omega), show n - m = 0 by omega]
    rfl
theorem kd_no {sz c : Nat} (z : 1 ≤ sz) : kd sz c = .no ↔ c = 0 := by
  unfold kd
  by_cases h : c = 0
  · rw [if_pos h]; exact ⟨fun _ => h, fun _ => rfl⟩
  · rw [if_neg h]; exact ⟨fun q => (by split at q <;> cases q), fun q => absurd q h⟩
theorem kd_full {sz c : Nat} (z : 1 ≤ sz) (hc : c ≤ sz) : kd sz c = .full ↔ c = sz := by
  unfold kd
  by_cases h : c = 0
  · rw [if_pos h]; exact ⟨fun q => (by cases q), fun q => (by omega)⟩
  · rw [if_neg h]
    by_cases g : c < sz
    · rw [if_pos g]; exact ⟨fun q => (by cases q), fun q => (by omega)⟩
    · rw [if_neg g]; exact ⟨fun _ => (by omega), fun _ => rfl⟩
theorem pass_so {sz : Nat} (z : 1 ≤ sz) {held : List Int} (hc : held.length ≤ sz) (told : Bool) (t : Str) {rest : List Int} {s : Q} (h : so sz rest.length = s) : passM sz held told t rest = passA (kd sz held.length) told t (if s = .e then .e else .p) := by
  have hr : decide (0 < rest.length) = decide ((if s = Q.e then A.e else A.p) ≠ A.e) := by
    refine decide_eq_decide.mpr ?_
    rw [← h]
    by_cases c : so sz rest.length = .e
    · rw [if_pos c]
      have := (so_e z).mp c
      exact ⟨fun q => (by omega), fun q => absurd rfl q⟩
    · rw [if_neg c]
      have : rest.length ≠ 0 := fun q => c ((so_e z).mpr q)
      exact ⟨fun _ q => (by cases q), fun _ => (by omega)⟩
  have h1 : decide (0 < held.length) = decide (kd sz held.length ≠ .no) := decide_eq_decide.mpr ⟨fun q e => (by have := (kd_no z).mp e; omega), fun q => (by have := mt (kd_no z).mpr q; omega)⟩
  have h2 : decide (held.length < sz) = decide (kd sz held.length ≠ .full) := decide_eq_decide.mpr ⟨fun q e => (by have := (kd_full z hc).mp e; omega), fun q => (by have := mt (kd_full z hc).mpr q; omega)⟩
  unfold passM passA
  rw [hr, h1, h2]
end SS

/-! one step, seen by sorts -/
namespace SS
open PySem EM CoM SR
def Od (d : Rd) (tw : Bool) : Prop := tw = true → ∃ v t, d.old = v :: t ∧ v < d.k
section
variable {sz : Nat} (z : 1 ≤ sz) {d : Rd} {tw : Bool} {m0 : Str} (hcs : d.c ≤ sz) (od : Od d tw)
theorem held_len : (d.held tw).length = d.c := by
  unfold Rd.held
  split <;> exact rgI_len _ _
include z hcs
theorem held_e : (d.held tw = []) ↔ kd sz d.c = .no := by
  rw [kd_no z, ← held_len (d := d) (tw := tw)]
  exact List.length_eq_zero_iff.symm
theorem bad_old {F : List Int} {i : Nat} {v : Int} {t : List Int} (h : F.length = i) (n : v < d.k) : F ++ v :: t ≠ rgI d.k (F ++ v :: t).length := by
  refine bad_at (i := i) (v := v) ?_ (by omega)
  rw [List.getElem?_append_right (by omega), h, Nat.sub_self]
  rfl
theorem twice_bad {n m c : Nat} (hm : m < n) (hc : c ≠ 0) : rgI d.k n ++ rgI (d.k + (m : Nat)) c ≠ rgI d.k (rgI d.k n ++ rgI (d.k + (m : Nat)) c).length := by
  refine bad_at (i := n) (v := d.k + (m : Nat)) ?_ (by omega)
  rw [List.getElem?_append_right (by rw [rgI_len]; omega), rgI_len, Nat.sub_self, rgI_get (by omega)]
  simp
theorem gap_bad {n m c : Nat} (hm : n < m) (hc : c ≠ 0) : rgI d.k n ++ rgI (d.k + (m : Nat)) c ≠ rgI d.k (rgI d.k n ++ rgI (d.k + (m : Nat)) c).length := by
  refine bad_at (i := n) (v := d.k + (m : Nat)) ?_ (by omega)
  rw [List.getElem?_append_right (by rw [rgI_len]; omega), rgI_len, Nat.sub_self, rgI_get (by omega)]
  simp
include od
theorem add_ph {x : RP} {a : AS} (h : Ok sz d tw m0 x a) : PhOk sz d tw x.pieces.flatten (x.rest ++ d.held tw) (stepP (kd sz d.c) a.s "add" a.ph) := by
  have hp := h.ph
  unfold stepP
  rw [if_pos rfl]
  cases e : a.ph with
  | A =>
    rw [e] at hp
    obtain ⟨rfl, j, hj, hF, hr⟩ := hp
    refine ⟨rfl, j, hj, hF, ?_, ?_⟩
    · rw [hr]
      show rgI _ _ ++ rgI (d.k + (d.r : Nat)) d.c = _
      have e1 : d.k + (d.r : Int) = d.k + (j : Nat) + ((d.r - j : Nat) : Nat) := by omega
      rw [e1, rgI_app, show d.r - j + d.c = d.r + d.c - j by omega]
    · rw [← h.s, hr, rgI_len]
  | H =>
    rw [e] at hp
    obtain ⟨rfl, hF, hr⟩ := hp
    exact ⟨rfl, hF, by rw [hr]; rfl⟩
  | a =>
    rw [e] at hp
    obtain ⟨rfl, hF, hr⟩ := hp
    exact ⟨rfl, hF, by rw [hr]; rfl⟩
  | h =>
    rw [e] at hp
    obtain ⟨rfl, hF, hr⟩ := hp
    exact ⟨rfl, hF, by rw [hr]; rfl⟩
  | Z => rw [e] at hp; exact hp
  | B1 _ => trivial
  | B2 _ => trivial
  | T => trivial
  | b => trivial
  | t => trivial
  | N => trivial
theorem hand_ph {x : RP} {a : AS} (h : Ok sz d tw m0 x a) : PhOk sz d tw (x.pieces.flatten ++ d.held tw) x.rest (stepP (kd sz d.c) a.s "hand" a.ph) := by
  have hp := h.ph
  unfold stepP
  rw [if_neg (show ¬ ("hand" : Str) = "add" by decide +kernel), if_pos rfl]
  by_cases k0 : kd sz d.c = .no
  · rw [if_pos k0, (held_e z hcs).mpr k0, List.append_nil]
    exact hp
  rw [if_neg k0]
  have c0 : d.c ≠ 0 := fun q => k0 ((kd_no z).mpr q)
  cases e : a.ph with
  | A =>
    rw [e] at hp
    obtain ⟨rfl, j, hj, hF, hr⟩ := hp
    have hs := h.s
    rw [hr, rgI_len] at hs
    by_cases s0 : a.s = .e
    · show PhOk _ _ _ _ _ (if a.s = .e then _ else _)
      rw [if_pos s0]
      rw [s0] at hs
      have := (so_e z).mp hs
      have ej : j = d.r := by omega
      refine ⟨rfl, ?_, ?_⟩
      · rw [hF, ej]; exact rgI_app _ _ _
      · rw [hr, this]; rfl
    · show PhOk _ _ _ _ _ (if a.s = .e then _ else _)
      rw [if_neg s0]
      have : d.r - j ≠ 0 := fun q => s0 (hs.symm.trans ((so_e z).mpr q))
      rw [hF]
      exact gap_bad z hcs (by omega) c0
  | B1 a0 =>
    rw [e] at hp
    obtain ⟨rfl, j, hj, hF, hr, ha⟩ := hp
    by_cases s0 : a0 = .e
    · show PhOk _ _ _ _ _ (if a0 = .e then _ else _)
      rw [if_pos s0]
      have := (so_e z).mp (ha.trans s0)
      have ej : j = d.r := by omega
      refine ⟨rfl, ?_, ?_⟩
      · rw [hF, ej]; exact rgI_app _ _ _
      · rw [hr, ej, show d.r + d.c - d.r = d.c by omega]
    · show PhOk _ _ _ _ _ (if a0 = .e then _ else _)
      rw [if_neg s0]
      have : d.r - j ≠ 0 := fun q => s0 (ha.symm.trans ((so_e z).mpr q))
      rw [hF]
      exact gap_bad z hcs (by omega) c0
  | B2 b =>
    rw [e] at hp
    obtain ⟨rfl, j, hj, hF, hr, hl, hb⟩ := hp
    by_cases s0 : b = true
    · show PhOk _ _ _ _ _ (if b = true then _ else _)
      rw [if_pos s0]
      have ej := hb.mp s0
      refine ⟨rfl, ?_, ?_⟩
      · rw [hF, ej]; exact rgI_app _ _ _
      · rw [hr, ej, show d.r + d.c - d.r = d.c by omega]
    · show PhOk _ _ _ _ _ (if b = true then _ else _)
      rw [if_neg s0]
      have : j ≠ d.r := fun q => s0 (hb.mpr q)
      rw [hF]
      show rgI d.k j ++ rgI (d.k + (d.r : Nat)) d.c ≠ rgI d.k (rgI d.k j ++ rgI (d.k + (d.r : Nat)) d.c).length
      rcases Nat.lt_or_gt_of_ne this with q | q
      · exact gap_bad z hcs q c0
      · exact twice_bad z hcs q c0
  | H =>
    rw [e] at hp
    obtain ⟨rfl, hF, hr⟩ := hp
    rw [hF]
    exact twice_bad z hcs (m := d.r) (by omega) c0
  | T =>
    rw [e] at hp
    obtain ⟨rfl, hF, hr⟩ := hp
    rw [hF]
    exact twice_bad z hcs (m := d.r) (by omega) c0
  | a =>
    rw [e] at hp
    obtain ⟨rfl, hF, hr⟩ := hp
    exact ⟨rfl, by rw [hF]; rfl, hr⟩
  | h =>
    rw [e] at hp
    obtain ⟨rfl, hF, hr⟩ := hp
    rw [hF]
    have := twice_bad (d := d) z hcs (n := d.c) (m := 0) (by omega) c0
    rw [show d.k + ((0 : Nat) : Int) = d.k by omega] at this
    exact this
  | b =>
    rw [e] at hp
    obtain ⟨rfl, hF, hr⟩ := hp
    exact ⟨rfl, by rw [hF]; rfl, hr⟩
  | t =>
    rw [e] at hp
    obtain ⟨rfl, hF, hr⟩ := hp
    rw [hF]
    have := twice_bad (d := d) z hcs (n := d.c) (m := 0) (by omega) c0
    rw [show d.k + ((0 : Nat) : Int) = d.k by omega] at this
    exact this
  | Z => rw [e] at hp; exact bad_app hp
  | N => trivial
end
end SS

/-! one round, seen by sorts -/
namespace SS
open PySem EM CoM SR
section
variable {sz : Nat} (z : 1 ≤ sz) {d : Rd} {tw : Bool} {m0 : Str} (hcs : d.c ≤ sz) (od : Od d tw)
include z hcs od
theorem low_n {n : Nat} (h : n < sz) : n / sz * sz = 0 := by rw [Nat.div_eq_of_lt h, Nat.zero_mul]
theorem cut_ph {x : RP} {a : AS} (h : Ok sz d tw m0 x a) : PhOk sz d tw (x.pieces.flatten ++ x.rest.take (x.rest.length / sz * sz)) (x.rest.drop (x.rest.length / sz * sz)) (stepP (kd sz d.c) a.s "cut" a.ph) := by
  have hp := h.ph
  have hs := h.s
  have hlow : lowQ a.s = decide (x.rest.length < sz) := by rw [← hs]; exact so_low z
  have hdm := Nat.div_add_mod' x.rest.length sz
  have hml := Nat.mod_lt x.rest.length z
  -- old items
  have oldZ : tw = true → ∀ (F : List Int) (u : List Int), x.rest = d.old ++ u → x.pieces.flatten = F → ¬ x.rest.length < sz → x.pieces.flatten ++ x.rest.take (x.rest.length / sz * sz) ≠ rgI d.k (x.pieces.flatten ++ x.rest.take (x.rest.length / sz * sz)).length := by
    intro ht F u hr hF hl
    obtain ⟨v, t, ho, hv⟩ := od ht
    have pos : 0 < x.rest.length / sz * sz := Nat.mul_pos (Nat.div_pos (by omega) z) z
    generalize x.rest.length / sz * sz = n at pos
    obtain ⟨n', rfl⟩ : ∃ m, n = m + 1 := ⟨n - 1, by omega⟩
    rw [hr, ho, List.cons_append, List.take_succ_cons]
    exact bad_old z hcs rfl hv
  have stay : x.rest.length < sz → x.pieces.flatten ++ x.rest.take (x.rest.length / sz * sz) = x.pieces.flatten ∧ x.rest.drop (x.rest.length / sz * sz) = x.rest := fun hl => by
    rw [low_n z hcs od hl]
    exact ⟨List.append_nil _, rfl⟩
  unfold stepP
  rw [if_neg (show ¬ ("cut" : Str) = "add" by decide +kernel), if_neg (show ¬ ("cut" : Str) = "hand" by decide +kernel), if_pos rfl]
  cases e : a.ph with
  | A =>
    rw [e] at hp
    obtain ⟨rfl, j, hj, hF, hr⟩ := hp
    have hl : x.rest.length = d.r - j := by rw [hr, rgI_len]
    generalize x.rest.length / sz * sz = n at hdm
    have hn : n ≤ d.r - j := by omega
    refine ⟨rfl, j + n, by omega, ?_, ?_⟩
    · rw [hF, hr, rgI_take, Nat.min_eq_left hn, rgI_app]
    · rw [hr, rgI_drop, show d.k + (j : Int) + (n : Int) = d.k + ((j + n : Nat) : Int) by omega, show d.r - j - n = d.r - (j + n) by omega]
  | B1 a0 =>
    rw [e] at hp
    obtain ⟨rfl, j, hj, hF, hr, ha⟩ := hp
    have hl : x.rest.length = d.r + d.c - j := by rw [hr, rgI_len]
    have key : (mulQ a0 && decide (kd sz d.c ≠ .full)) = true ↔ j + x.rest.length / sz * sz = d.r := by
      rw [Bool.and_eq_true]
      have hm : mulQ a0 = true ↔ (d.r - j) % sz = 0 := by
        rw [← so_mul z, ha]
        cases a0 <;> simp [mulQ]
      rw [hm, decide_eq_true_iff]
      constructor
      · rintro ⟨h1, h2⟩
        have c1 : d.c < sz := by have := mt (kd_full z hcs).mpr h2; omega
        have e1 : x.rest.length % sz = d.c := by
          rw [hl, show d.r + d.c - j = (d.r - j) + d.c by omega, Nat.add_mod, h1, Nat.zero_add, Nat.mod_mod, Nat.mod_eq_of_lt c1]
        omega
      · intro h1
        have e1 : d.r - j = x.rest.length / sz * sz := by omega
        refine ⟨by rw [e1]; exact Nat.mul_mod_left _ _, fun h2 => ?_⟩
        have := (kd_full z hcs).mp h2
        omega
    generalize hn0 : x.rest.length / sz * sz = n at hdm key
    refine ⟨rfl, j + n, by omega, ?_, ?_, by omega, key⟩
    · rw [hF, hr, rgI_take, Nat.min_eq_left (by omega), rgI_app]
    · rw [hr, rgI_drop, show d.k + (j : Int) + (n : Int) = d.k + ((j + n : Nat) : Int) by omega, show d.r + d.c - j - n = d.r + d.c - (j + n) by omega]
  | B2 b =>
    rw [e] at hp
    obtain ⟨rfl, j, hj, hF, hr, hl, hb⟩ := hp
    obtain ⟨e1, e2⟩ := stay (by rw [hr, rgI_len]; exact hl)
    rw [e1, e2]
    exact ⟨rfl, j, hj, hF, hr, hl, hb⟩
  | H =>
    rw [e] at hp
    obtain ⟨rfl, hF, hr⟩ := hp
    obtain ⟨e1, e2⟩ := stay (by rw [hr]; exact z)
    rw [e1, e2]
    exact ⟨rfl, hF, hr⟩
  | T =>
    rw [e] at hp
    obtain ⟨rfl, hF, hr⟩ := hp
    show PhOk _ _ _ _ _ (if kd sz d.c = .full then _ else _)
    by_cases kf : kd sz d.c = .full
    · rw [if_pos kf]
      have ec := (kd_full z hcs).mp kf
      have hl : x.rest.length = sz := by rw [hr, rgI_len, ec]
      rw [hl, Nat.div_self z, Nat.one_mul, List.take_of_length_le (by omega), hF, hr]
      exact twice_bad z hcs (n := d.r + d.c) (m := d.r) (by omega) (by omega)
    · rw [if_neg kf]
      have : d.c ≠ sz := fun q => kf ((kd_full z hcs).mpr q)
      obtain ⟨e1, e2⟩ := stay (by rw [hr, rgI_len]; omega)
      rw [e1, e2]
      exact ⟨rfl, hF, hr⟩
  | a =>
    rw [e] at hp
    obtain ⟨ht, hF, hr⟩ := hp
    show PhOk _ _ _ _ _ (if lowQ a.s = true then _ else _)
    by_cases l : x.rest.length < sz
    · rw [if_pos (by rw [hlow, decide_eq_true l]), (stay l).1, (stay l).2]
      exact ⟨ht, hF, hr⟩
    · rw [if_neg (by rw [hlow, decide_eq_false l]; decide)]
      exact oldZ ht _ [] (by rw [List.append_nil]; exact hr) rfl l
  | h =>
    rw [e] at hp
    obtain ⟨ht, hF, hr⟩ := hp
    show PhOk _ _ _ _ _ (if lowQ a.s = true then _ else _)
    by_cases l : x.rest.length < sz
    · rw [if_pos (by rw [hlow, decide_eq_true l]), (stay l).1, (stay l).2]
      exact ⟨ht, hF, hr⟩
    · rw [if_neg (by rw [hlow, decide_eq_false l]; decide)]
      exact oldZ ht _ [] (by rw [List.append_nil]; exact hr) rfl l
  | b =>
    rw [e] at hp
    obtain ⟨ht, hF, hr⟩ := hp
    show PhOk _ _ _ _ _ (if lowQ a.s = true then _ else _)
    by_cases l : x.rest.length < sz
    · rw [if_pos (by rw [hlow, decide_eq_true l]), (stay l).1, (stay l).2]
      exact ⟨ht, hF, hr⟩
    · rw [if_neg (by rw [hlow, decide_eq_false l]; decide)]
      exact oldZ ht _ _ hr rfl l
  | t =>
    rw [e] at hp
    obtain ⟨ht, hF, hr⟩ := hp
    show PhOk _ _ _ _ _ (if lowQ a.s = true then _ else _)
    by_cases l : x.rest.length < sz
    · rw [if_pos (by rw [hlow, decide_eq_true l]), (stay l).1, (stay l).2]
      exact ⟨ht, hF, hr⟩
    · rw [if_neg (by rw [hlow, decide_eq_false l]; decide)]
      exact oldZ ht _ _ hr rfl l
  | Z => rw [e] at hp; exact bad_app hp
  | N => trivial
theorem flush_ph {x : RP} {a : AS} (h : Ok sz d tw m0 x a) : PhOk sz d tw (x.pieces.flatten ++ x.rest) [] (stepP (kd sz d.c) a.s "flush" a.ph) := by
  have hp := h.ph
  have oldZ : tw = true → ∀ (u : List Int), x.rest = d.old ++ u → x.pieces.flatten ++ x.rest ≠ rgI d.k (x.pieces.flatten ++ x.rest).length := by
    intro ht u hr
    obtain ⟨v, t, ho, hv⟩ := od ht
    rw [hr, ho, List.cons_append]
    exact bad_old z hcs rfl hv
  have kb : (decide (kd sz d.c = .no)) = true ↔ d.r + d.c = d.r := by
    rw [decide_eq_true_iff, kd_no z]
    omega
  unfold stepP
  rw [if_neg (show ¬ ("flush" : Str) = "add" by decide +kernel), if_neg (show ¬ ("flush" : Str) = "hand" by decide +kernel), if_neg (show ¬ ("flush" : Str) = "cut" by decide +kernel), if_pos rfl]
  cases e : a.ph with
  | A =>
    rw [e] at hp
    obtain ⟨rfl, j, hj, hF, hr⟩ := hp
    refine ⟨rfl, d.r, Nat.le_refl _, ?_, ?_⟩
    · rw [hF, hr, rgI_app, show j + (d.r - j) = d.r by omega]
    · rw [Nat.sub_self]; rfl
  | B1 a0 =>
    rw [e] at hp
    obtain ⟨rfl, j, hj, hF, hr, ha⟩ := hp
    refine ⟨rfl, d.r + d.c, Nat.le_refl _, ?_, ?_, by omega, kb⟩
    · rw [hF, hr, rgI_app, show j + (d.r + d.c - j) = d.r + d.c by omega]
    · rw [Nat.sub_self]; rfl
  | B2 b =>
    rw [e] at hp
    obtain ⟨rfl, j, hj, hF, hr, hl, hb⟩ := hp
    refine ⟨rfl, d.r + d.c, Nat.le_refl _, ?_, ?_, by omega, kb⟩
    · rw [hF, hr, rgI_app, show j + (d.r + d.c - j) = d.r + d.c by omega]
    · rw [Nat.sub_self]; rfl
  | H =>
    rw [e] at hp
    obtain ⟨rfl, hF, hr⟩ := hp
    exact ⟨rfl, by rw [hF, hr, List.append_nil], rfl⟩
  | T =>
    rw [e] at hp
    obtain ⟨rfl, hF, hr⟩ := hp
    show PhOk _ _ _ _ _ (if kd sz d.c = .no then _ else _)
    by_cases kf : kd sz d.c = .no
    · rw [if_pos kf]
      have ec := (kd_no z).mp kf
      rw [ec] at hr hF
      refine ⟨rfl, ?_, ?_⟩
      · rw [hF, hr, ec]; exact List.append_nil _
      · rw [ec]; rfl
    · rw [if_neg kf]
      have c0 : d.c ≠ 0 := fun q => kf ((kd_no z).mpr q)
      rw [hF, hr]
      exact twice_bad z hcs (n := d.r + d.c) (m := d.r) (by omega) c0
  | a =>
    rw [e] at hp
    obtain ⟨ht, hF, hr⟩ := hp
    exact oldZ ht [] (by rw [List.append_nil]; exact hr)
  | h =>
    rw [e] at hp
    obtain ⟨ht, hF, hr⟩ := hp
    exact oldZ ht [] (by rw [List.append_nil]; exact hr)
  | b =>
    rw [e] at hp
    obtain ⟨ht, hF, hr⟩ := hp
    exact oldZ ht _ hr
  | t =>
    rw [e] at hp
    obtain ⟨ht, hF, hr⟩ := hp
    exact oldZ ht _ hr
  | Z => rw [e] at hp; exact bad_app hp
  | N => trivial
theorem step_ok {x : RP} {a : AS} (h : Ok sz d tw m0 x a) {o : Q} {ord : Str} (ho : ord = "add" → so sz (x.rest.length + d.c) = o) : Ok sz d tw m0 (perfM sz (d.held tw) ord x) (stepA (kd sz d.c) o ord a) := by
  have hlow : lowQ a.s = decide (x.rest.length < sz) := by rw [← h.s]; exact so_low z
  have n1 : ¬ ("hand" : Str) = "add" := by decide +kernel
  have n2 : ¬ ("cut" : Str) = "add" := by decide +kernel
  have n3 : ¬ ("cut" : Str) = "hand" := by decide +kernel
  have n4 : ¬ ("flush" : Str) = "add" := by decide +kernel
  have n5 : ¬ ("flush" : Str) = "hand" := by decide +kernel
  have n6 : ¬ ("flush" : Str) = "cut" := by decide +kernel
  have n7 : ¬ ("add" : Str) = "hand" := by decide +kernel
  have n8 : ¬ ("add" : Str) = "cut" := by decide +kernel
  have n9 : ¬ ("add" : Str) = "flush" := by decide +kernel
  have n10 : ¬ ("hand" : Str) = "cut" := by decide +kernel
  have n11 : ¬ ("hand" : Str) = "flush" := by decide +kernel
  have n12 : ¬ ("cut" : Str) = "flush" := by decide +kernel
  unfold perfM stepA
  by_cases a1 : ord = "add"
  · subst a1
    rw [if_pos rfl, if_pos rfl, if_neg n7, if_neg n9, if_neg n7, if_neg n8, if_neg n9]
    refine ⟨?_, add_ph z hcs od h, h.em, h.ev⟩
    show so sz (x.rest ++ d.held tw).length = o
    rw [List.length_append, held_len]
    exact ho rfl
  rw [if_neg a1, if_neg a1]
  by_cases a2 : ord = "hand"
  · subst a2
    rw [if_pos rfl, if_pos rfl, if_pos rfl, if_pos rfl]
    refine ⟨h.s, ?_, ?_, ?_⟩
    · show PhOk _ _ _ (x.pieces ++ [d.held tw]).flatten _ _
      rw [List.flatten_append, List.flatten_cons, List.flatten_nil, List.append_nil]
      exact hand_ph z hcs od h
    · show decide ([] ∈ x.pieces ++ [d.held tw]) = _
      rw [← h.em, ← Bool.decide_or]
      refine decide_eq_decide.mpr ?_
      rw [List.mem_append, List.mem_singleton, ← held_e (tw := tw) z hcs]
      exact or_congr Iff.rfl ⟨fun q => q.symm, fun q => q.symm⟩
    · show evF sz m0 (x.pieces ++ [d.held tw]) = _
      rw [evF_app, h.ev]
      show evB a.ev (decide ((d.held tw).length < sz)) (decide (sz < (d.held tw).length)) = _
      rw [held_len, decide_eq_false (show ¬ sz < d.c by omega), show decide (d.c < sz) = decide (kd sz d.c ≠ .full) from decide_eq_decide.mpr ⟨fun q e => (by have := (kd_full z hcs).mp e; omega), fun q => (by have := mt (kd_full z hcs).mpr q; omega)⟩]
  rw [if_neg a2, if_neg a2, if_neg a2, if_neg a2]
  by_cases a3 : ord = "cut"
  · subst a3
    rw [if_pos rfl, if_pos rfl, if_neg n12, if_pos rfl]
    have hfull := cutN_len z x.rest (x.rest.length / sz) (Nat.div_mul_le_self _ _)
    refine ⟨?_, ?_, ?_, ?_⟩
    · show so sz (x.rest.drop (x.rest.length / sz * sz)).length = _
      rw [List.length_drop, ← h.s, ← so_cut z]
      congr 1
      have := Nat.div_add_mod' x.rest.length sz
      omega
    · show PhOk _ _ _ (x.pieces ++ cutN sz x.rest (x.rest.length / sz)).flatten _ _
      rw [List.flatten_append, cutN_flat]
      exact cut_ph z hcs od h
    · show decide ([] ∈ x.pieces ++ cutN sz x.rest (x.rest.length / sz)) = _
      rw [← h.em]
      refine decide_eq_decide.mpr ?_
      rw [List.mem_append]
      exact ⟨fun q => q.elim id fun q => (by have := hfull _ q; rw [List.length_nil] at this; omega), .inl⟩
    · show evF sz m0 (x.pieces ++ cutN sz x.rest (x.rest.length / sz)) = _
      rw [evF_app, h.ev, evF_full sz _ _ hfull, hlow]
      by_cases l : x.rest.length < sz
      · rw [if_pos ((cutN_nil _ _ _).mpr (Nat.div_eq_of_lt l)), if_pos (decide_eq_true l)]
      · rw [if_neg (fun q => by have := (cutN_nil _ _ _).mp q; have := Nat.div_pos (show sz ≤ x.rest.length by omega) z; omega), if_neg (by rw [decide_eq_false l]; decide)]
  rw [if_neg a3, if_neg a3, if_neg a3]
  by_cases a4 : ord = "flush"
  · subst a4
    rw [if_pos rfl, if_pos rfl, if_pos rfl, if_pos rfl]
    refine ⟨(so_e z).mpr rfl, ?_, ?_, ?_⟩
    · show PhOk _ _ _ (x.pieces ++ [x.rest]).flatten _ _
      rw [List.flatten_append, List.flatten_cons, List.flatten_nil, List.append_nil]
      exact flush_ph z hcs od h
    · show decide ([] ∈ x.pieces ++ [x.rest]) = _
      rw [← h.em, ← Bool.decide_or]
      refine decide_eq_decide.mpr ?_
      rw [List.mem_append, List.mem_singleton, ← h.s, so_e z, List.length_eq_zero_iff]
      exact or_congr Iff.rfl ⟨fun q => q.symm, fun q => q.symm⟩
    · show evF sz m0 (x.pieces ++ [x.rest]) = _
      rw [evF_app, h.ev]
      show evB a.ev (decide (x.rest.length < sz)) (decide (sz < x.rest.length)) = evB a.ev (ltQ a.s) (gtQ a.s)
      have hg : gtQ a.s = decide (sz < x.rest.length) := by
        have hf := so_f z (n := x.rest.length)
        rw [h.s] at hf
        cases es : a.s with
        | e => rw [es] at hlow hf; have := of_decide_eq_true hlow.symm; exact (decide_eq_false (by omega)).symm
        | p => rw [es] at hlow hf; have := of_decide_eq_true hlow.symm; exact (decide_eq_false (by omega)).symm
        | f => have := hf.mp es; exact (decide_eq_false (by omega)).symm
        | m => rw [es] at hlow hf; have h1 := of_decide_eq_false hlow.symm; have h2 : x.rest.length ≠ sz := (fun q => by cases hf.mpr q); exact (decide_eq_true (by omega)).symm
        | x => rw [es] at hlow hf; have h1 := of_decide_eq_false hlow.symm; have h2 : x.rest.length ≠ sz := (fun q => by cases hf.mpr q); exact (decide_eq_true (by omega)).symm
      rw [hg, show ltQ a.s = decide (x.rest.length < sz) from hlow]
  rw [if_neg a4, if_neg a4, if_neg a4, if_neg a4]
  refine ⟨h.s, ?_, h.em, h.ev⟩
  unfold stepP
  rw [if_neg a1, if_neg a2, if_neg a3, if_neg a4]
  exact h.ph
end
end SS

/-! a round, seen by sorts: the orders one after another -/
namespace SS
open PySem EM CoM SR
theorem adds_cons (t s : Str) (r : List (Str × Str)) : adds ((t, s) :: r) = (if s = "add" then 1 else 0) + adds r := rfl
theorem stepA_o {k : Hk} {o o' : Q} {ord : Str} {a : AS} (h : ord ≠ "add") : stepA k o ord a = stepA k o' ord a := by
  unfold stepA
  rw [if_neg h, if_neg h]
theorem cands_kd : ∀ k : Hk, ∀ c ∈ cands k, kd 4 c = k ∧ c ≤ 4 := by
  intro k c hc
  cases k <;> simp [cands] at hc
  · rw [hc]; decide
  · rcases hc with rfl | rfl | rfl <;> decide
  · rw [hc]; decide
theorem cands_ne (k : Hk) : ∃ c, c ∈ cands k := by cases k <;> exact ⟨_, List.mem_cons_self ..⟩
section
variable {sz : Nat} (z : 1 ≤ sz) {d : Rd} {tw : Bool} {m0 : Str} (hcs : d.c ≤ sz) (od : Od d tw)
include z hcs od
/-- without an add -/
theorem run_no (told : Bool) (o : Q) : ∀ (ro : List (Str × Str)), adds ro = 0 → ∀ (x : RP) (a : AS), Ok sz d tw m0 x a → (runW sz (d.held tw) told ro x).2 = (runS (kd sz d.c) told o ro a).2 ∧ Ok sz d tw m0 (runW sz (d.held tw) told ro x).1 (runS (kd sz d.c) told o ro a).1
  | [], _, x, a, h => ⟨rfl, h⟩
  | (t, s) :: r, ha, x, a, h => by
    rw [adds_cons] at ha
    have hs : s ≠ "add" := fun e => by rw [if_pos e] at ha; omega
    have ha' : adds r = 0 := by omega
    unfold runW runS
    rw [pass_so z (by rw [held_len]; exact hcs) told t h.s, held_len]
    by_cases p : passA (kd sz d.c) told t (if a.s = .e then .e else .p) = true
    · rw [if_pos p, if_pos p]
      by_cases s1 : s = "again"
      · rw [if_pos s1, if_pos s1]; exact ⟨rfl, h⟩
      rw [if_neg s1, if_neg s1]
      by_cases s2 : s = "stop"
      · rw [if_pos s2, if_pos s2]; exact ⟨rfl, h⟩
      rw [if_neg s2, if_neg s2]
      exact run_no told o r ha' _ _ (step_ok z hcs od h fun e => absurd e hs)
    · rw [if_neg p, if_neg p]
      exact run_no told o r ha' _ _ h
theorem end_no (told : Bool) (o : Q) : ∀ (eo : List (Str × Str)), adds eo = 0 → ∀ (x : RP) (a : AS), Ok sz d tw m0 x a → Ok sz d tw m0 (endW sz (d.held tw) told eo x) (endS (kd sz d.c) told o eo a)
  | [], _, x, a, h => h
  | (t, s) :: r, ha, x, a, h => by
    rw [adds_cons] at ha
    have hs : s ≠ "add" := fun e => by rw [if_pos e] at ha; omega
    have ha' : adds r = 0 := by omega
    unfold endW endS
    rw [pass_so z (by rw [held_len]; exact hcs) told t h.s, held_len]
    by_cases p : passA (kd sz d.c) told t (if a.s = .e then .e else .p) = true
    · rw [if_pos p, if_pos p]
      exact end_no told o r ha' _ _ (step_ok z hcs od h fun e => absurd e hs)
    · rw [if_neg p, if_neg p]
      exact end_no told o r ha' _ _ h
end
/-- the length of a rest of the search behind an order -/
def stepL (ord : Str) (y : Nat) : Nat := if ord = "cut" then y - y / 4 * 4 else if ord = "flush" then 0 else y
theorem stepL_norm {ord : Str} {y : Nat} (h : y ∈ norm) : stepL ord y ∈ norm := by
  have : ∀ y ∈ norm, y - y / 4 * 4 ∈ norm := by decide
  unfold stepL
  split
  · exact this y h
  split
  · decide
  · exact h
theorem stepL_is {held : List Int} {ord : Str} (h : ord ≠ "add") {x : RP} : (perfM 4 held ord x).rest.length = stepL ord x.rest.length := by
  unfold perfM stepL
  rw [if_neg h]
  by_cases h1 : ord = "hand"
  · subst h1
    rw [if_pos rfl, if_neg (by decide +kernel), if_neg (by decide +kernel)]
  rw [if_neg h1]
  by_cases h2 : ord = "cut"
  · rw [if_pos h2, if_pos h2]; exact List.length_drop
  rw [if_neg h2, if_neg h2]
  by_cases h3 : ord = "flush"
  · rw [if_pos h3, if_pos h3]; rfl
  · rw [if_neg h3, if_neg h3]
/-- the same round of the search -/
def Sim (d : Rd) (c : Nat) (told : Bool) (ro : List (Str × Str)) (y : Nat) (a : AS) (R : AS × Bool) : Prop :=
  ∀ (d' : Rd) (tw : Bool) (m0 : Str) (x' : RP), d'.c = c → Od d' tw → x'.rest.length = y → Ok 4 d' tw m0 x' a → (runW 4 (d'.held tw) told ro x').2 = R.2 ∧ Ok 4 d' tw m0 (runW 4 (d'.held tw) told ro x').1 R.1
section
variable {sz : Nat} (z : 1 ≤ sz) {d : Rd} {tw : Bool} {m0 : Str} (hcs : d.c ≤ sz) (od : Od d tw)
include z hcs od
theorem run_ex (told : Bool) : ∀ (ro : List (Str × Str)), adds ro ≤ 1 → ∀ (x : RP) (a : AS) (y : Nat), Ok sz d tw m0 x a → so 4 y = a.s → y ∈ norm →
    ∃ o, ∃ c ∈ cands (kd sz d.c), (runW sz (d.held tw) told ro x).2 = (runS (kd sz d.c) told o ro a).2 ∧ Ok sz d tw m0 (runW sz (d.held tw) told ro x).1 (runS (kd sz d.c) told o ro a).1 ∧ Sim d c told ro y a (runS (kd sz d.c) told o ro a)
  | [], _, x, a, y, h, _, _ => by
    obtain ⟨c, hc⟩ := cands_ne (kd sz d.c)
    exact ⟨.e, c, hc, rfl, h, fun d' tw' m0' x' _ _ _ h' => ⟨rfl, h'⟩⟩
  | (t, s) :: r, ha, x, a, y, h, hy, hn => by
    rw [adds_cons] at ha
    have ps := pass_so z (show (d.held tw).length ≤ sz by rw [held_len]; exact hcs) told t h.s
    rw [held_len] at ps
    have ps' : ∀ (d' : Rd) (tw : Bool) (m0 : Str) (x' : RP) (c : Nat), c ∈ cands (kd sz d.c) → d'.c = c → Ok 4 d' tw m0 x' a → passM 4 (d'.held tw) told t x'.rest = passA (kd sz d.c) told t (if a.s = .e then .e else .p) := by
      intro d' tw' m0' x' c hc e h'
      have g := cands_kd _ _ hc
      rw [pass_so (by decide) (by rw [held_len, e]; exact g.2) told t h'.s, held_len, e, g.1]
    by_cases p : passA (kd sz d.c) told t (if a.s = .e then .e else .p) = true
    · by_cases s1 : s = "again"
      · obtain ⟨c, hc⟩ := cands_ne (kd sz d.c)
        refine ⟨.e, c, hc, ?_⟩
        unfold Sim runW runS
        rw [ps, if_pos p, if_pos p, if_pos s1, if_pos s1]
        refine ⟨rfl, h, fun d' tw' m0' x' e _ _ h' => ?_⟩
        rw [ps' d' tw' m0' x' c hc e h', if_pos p, if_pos s1]
        exact ⟨rfl, h'⟩
      by_cases s2 : s = "stop"
      · obtain ⟨c, hc⟩ := cands_ne (kd sz d.c)
        refine ⟨.e, c, hc, ?_⟩
        unfold Sim runW runS
        rw [ps, if_pos p, if_pos p, if_neg s1, if_neg s1, if_pos s2, if_pos s2]
        refine ⟨rfl, h, fun d' tw' m0' x' e _ _ h' => ?_⟩
        rw [ps' d' tw' m0' x' c hc e h', if_pos p, if_neg s1, if_pos s2]
        exact ⟨rfl, h'⟩
      by_cases s3 : s = "add"
      · rw [if_pos s3] at ha
        have ha' : adds r = 0 := by omega
        have al := add_ok z hcs x.rest.length
        rw [h.s] at al
        obtain ⟨c, hc, eo⟩ := add_can (kd sz d.c) y hn (so sz (x.rest.length + d.c)) (by rw [hy]; exact al)
        have g := cands_kd _ _ hc
        refine ⟨so sz (x.rest.length + d.c), c, hc, ?_⟩
        unfold Sim runW runS
        rw [ps, if_pos p, if_pos p, if_neg s1, if_neg s1, if_neg s2, if_neg s2]
        have n1 := run_no z hcs od told (so sz (x.rest.length + d.c)) r ha' _ _ (step_ok z hcs od h (o := so sz (x.rest.length + d.c)) (ord := s) fun _ => rfl)
        refine ⟨n1.1, n1.2, fun d' tw' m0' x' e od' ey h' => ?_⟩
        rw [ps' d' tw' m0' x' c hc e h', if_pos p, if_neg s1, if_neg s2]
        have hc' : d'.c ≤ 4 := by rw [e]; exact g.2
        have n2 := run_no (by decide) hc' od' told (so sz (x.rest.length + d.c)) r ha' _ _ (step_ok (by decide) hc' od' h' (o := so sz (x.rest.length + d.c)) (ord := s) fun _ => by rw [ey, e]; exact eo)
        rw [e, g.1] at n2
        exact n2
      · rw [if_neg s3] at ha
        have ha' : adds r ≤ 1 := by omega
        have st := step_ok z hcs od h (o := .e) (ord := s) fun e => absurd e s3
        have sm : so 4 (stepL s y) = (stepA (kd sz d.c) .e s a).s := by
          unfold stepL stepA
          rw [if_neg s3]
          by_cases q1 : s = "hand"
          · rw [if_pos q1, if_neg (by rw [q1]; decide +kernel), if_neg (by rw [q1]; decide +kernel)]; exact hy
          rw [if_neg q1]
          by_cases q2 : s = "cut"
          · rw [if_pos q2, if_pos q2, ← hy, ← so_cut (by decide)]
            congr 1
            have := Nat.div_add_mod' y 4
            omega
          rw [if_neg q2, if_neg q2]
          by_cases q3 : s = "flush"
          · rw [if_pos q3, if_pos q3]; rfl
          · rw [if_neg q3, if_neg q3]; exact hy
        obtain ⟨o, c, hc, i1, i2, i3⟩ := run_ex told r ha' _ _ _ st sm (stepL_norm hn)
        have g := cands_kd _ _ hc
        have so' := stepA_o (k := kd sz d.c) (o := o) (o' := .e) (a := a) s3
        refine ⟨o, c, hc, ?_⟩
        unfold Sim runW runS
        rw [ps, if_pos p, if_pos p, if_neg s1, if_neg s1, if_neg s2, if_neg s2, so']
        refine ⟨i1, i2, fun d' tw' m0' x' e od' ey h' => ?_⟩
        rw [ps' d' tw' m0' x' c hc e h', if_pos p, if_neg s1, if_neg s2]
        have hc' : d'.c ≤ 4 := by rw [e]; exact g.2
        have st' := step_ok (by decide) hc' od' h' (o := .e) (ord := s) fun e => absurd e s3
        rw [e, g.1] at st'
        exact i3 d' tw' m0' _ e od' (by rw [stepL_is s3, ey]) st'
    · have ha' : adds r ≤ 1 := by omega
      obtain ⟨o, c, hc, i1, i2, i3⟩ := run_ex told r ha' x a y h hy hn
      refine ⟨o, c, hc, ?_⟩
      unfold Sim runW runS
      rw [ps, if_neg p, if_neg p]
      refine ⟨i1, i2, fun d' tw' m0' x' e od' ey h' => ?_⟩
      rw [ps' d' tw' m0' x' c hc e h', if_neg p]
      exact i3 d' tw' m0' x' e od' ey h'
/-- a whole answer -/
theorem ans_ex (told : Bool) {ro eo : List (Str × Str)} (ha : adds ro ≤ 1) (he : adds eo = 0) {x : RP} {a : AS} {y : Nat} (h : Ok sz d tw m0 x a) (hy : so 4 y = a.s) (hn : y ∈ norm) :
    ∃ o, ∃ c ∈ cands (kd sz d.c), let R := runS (kd sz d.c) told o ro a; let b := if R.2 = true then endS (kd sz d.c) told o eo R.1 else R.1
      (ansM sz ro eo (d.held tw) told x).2 = R.2 ∧ Ok sz d tw m0 (ansM sz ro eo (d.held tw) told x).1 b ∧
      ∀ (d' : Rd) (tw : Bool) (m0 : Str) (x' : RP), d'.c = c → Od d' tw → x'.rest.length = y → Ok 4 d' tw m0 x' a → (ansM 4 ro eo (d'.held tw) told x').2 = R.2 ∧ Ok 4 d' tw m0 (ansM 4 ro eo (d'.held tw) told x').1 b := by
  obtain ⟨o, c, hc, i1, i2, i3⟩ := run_ex z hcs od told ro ha x a y h hy hn
  have g := cands_kd _ _ hc
  refine ⟨o, c, hc, ?_⟩
  dsimp only
  by_cases st : (runS (kd sz d.c) told o ro a).2 = true
  · rw [if_pos st]
    refine ⟨?_, ?_, fun d' tw' m0' x' e od' ey h' => ?_⟩
    · unfold ansM; rw [if_pos (i1.trans st), st]
    · unfold ansM; rw [if_pos (i1.trans st)]; exact end_no z hcs od told o eo he _ _ i2
    · have j := i3 d' tw' m0' x' e od' ey h'
      have hc' : d'.c ≤ 4 := by rw [e]; exact g.2
      unfold ansM
      rw [if_pos (j.1.trans st), st]
      refine ⟨rfl, ?_⟩
      have n2 := end_no (by decide) hc' od' told o eo he _ _ j.2
      rw [e, g.1] at n2
      exact n2
  · rw [if_neg st]
    refine ⟨?_, ?_, fun d' tw' m0' x' e od' ey h' => ?_⟩
    · unfold ansM; rw [if_neg (by rw [i1]; exact st)]; exact (by simpa using st : _ = false).symm
    · unfold ansM; rw [if_neg (by rw [i1]; exact st)]; exact i2
    · have j := i3 d' tw' m0' x' e od' ey h'
      unfold ansM
      rw [if_neg (by rw [j.1]; exact st)]
      exact ⟨(by simpa using st : _ = false).symm, j.2⟩
end
end SS

/-! what the search finds of a round, and what the loop shows -/
namespace SS
open PySem EM CoM SR
def pre : Ph → Bool
  | .A => true
  | .H => true
  | .a => true
  | .h => true
  | .Z => true
  | _ => false
def okP : Ph → Bool
  | .N => false
  | _ => true
theorem pre_ok {p : Ph} (h : pre p = true) : okP p = true := by cases p <;> first | rfl | cases h
theorem pre_ite (c : Prop) [Decidable c] (a b : Ph) (ha : pre a = true) (hb : pre b = true) : pre (if c then a else b) = true := by split <;> assumption
theorem ok_ite (c : Prop) [Decidable c] (a b : Ph) (ha : okP a = true) (hb : okP b = true) : okP (if c then a else b) = true := by split <;> assumption
theorem stepP_pre {k : Hk} {s : Q} {ord : Str} {p : Ph} (ho : ord ≠ "add") (h : pre p = true) : pre (stepP k s ord p) = true := by
  unfold stepP
  rw [if_neg ho]
  split
  · split
    · exact h
    · cases p <;> first | rfl | exact pre_ite _ _ _ rfl rfl | exact Bool.noConfusion h
  split
  · cases p <;> first | rfl | exact pre_ite _ _ _ rfl rfl | exact Bool.noConfusion h
  split
  · cases p <;> first | rfl | exact pre_ite _ _ _ rfl rfl | exact Bool.noConfusion h
  · exact h
theorem stepP_ok {k : Hk} {s : Q} {ord : Str} {p : Ph} (ho : ord ≠ "add") (h : okP p = true) : okP (stepP k s ord p) = true := by
  unfold stepP
  rw [if_neg ho]
  split
  · split
    · exact h
    · cases p <;> first | rfl | exact ok_ite _ _ _ rfl rfl | exact Bool.noConfusion h
  split
  · cases p <;> first | rfl | exact ok_ite _ _ _ rfl rfl | exact Bool.noConfusion h
  split
  · cases p <;> first | rfl | exact ok_ite _ _ _ rfl rfl | exact Bool.noConfusion h
  · exact h
theorem stepP_add {k : Hk} {s : Q} {p : Ph} (h : pre p = true) : okP (stepP k s "add" p) = true := by
  unfold stepP
  rw [if_pos rfl]
  cases p <;> first | rfl | cases h
theorem runS_ok (k : Hk) (told : Bool) (o : Q) : ∀ (ro : List (Str × Str)) (a : AS), (adds ro = 0 ∧ okP a.ph = true) ∨ (adds ro ≤ 1 ∧ pre a.ph = true) → okP (runS k told o ro a).1.ph = true
  | [], a, h => h.elim (·.2) fun h => pre_ok h.2
  | (t, s) :: r, a, h => by
    rw [adds_cons] at h
    unfold runS
    have hk : okP a.ph = true := h.elim (·.2) fun h => pre_ok h.2
    by_cases p : passA k told t (if a.s = .e then .e else .p) = true
    · rw [if_pos p]
      by_cases s1 : s = "again"
      · rw [if_pos s1]; exact hk
      rw [if_neg s1]
      by_cases s2 : s = "stop"
      · rw [if_pos s2]; exact hk
      rw [if_neg s2]
      refine runS_ok k told o r _ ?_
      by_cases s3 : s = "add"
      · rw [if_pos s3] at h
        rcases h with h | h
        · omega
        · rw [s3]
          exact .inl ⟨by omega, stepP_add (k := k) h.2⟩
      · rw [if_neg s3] at h
        exact h.imp (fun h => ⟨by omega, stepP_ok s3 h.2⟩) fun h => ⟨by omega, stepP_pre s3 h.2⟩
    · rw [if_neg p]
      refine runS_ok k told o r _ ?_
      by_cases s3 : s = "add"
      · rw [if_pos s3] at h
        rcases h with h | h
        · omega
        · exact .inl ⟨by omega, hk⟩
      · rw [if_neg s3] at h
        exact h.imp (fun h => ⟨by omega, h.2⟩) fun h => ⟨by omega, h.2⟩
theorem endS_ok (k : Hk) (told : Bool) (o : Q) : ∀ (eo : List (Str × Str)) (a : AS), adds eo = 0 → okP a.ph = true → okP (endS k told o eo a).ph = true
  | [], a, _, h => h
  | (t, s) :: r, a, ha, h => by
    rw [adds_cons] at ha
    unfold endS
    have hs : s ≠ "add" := fun e => by rw [if_pos e] at ha; omega
    refine endS_ok k told o r _ (by omega) ?_
    by_cases p : passA k told t (if a.s = .e then .e else .p) = true
    · rw [if_pos p]; exact stepP_ok hs h
    · rw [if_neg p]; exact h
/-! ### all items in order -/
theorem mw_bad {mk : Str} {x : RP} {st : Bool} {bh left : Nat} (h : x.pieces.flatten ≠ rgI 0 x.pieces.flatten.length) : markWhole mk x st bh left = if st = true then ("fault" : Str) else "lost" := by
  unfold markWhole
  rw [if_pos (.inr h)]
theorem mw_good {mk : Str} {x : RP} {st : Bool} {bh left n : Nat} (hm : mk ≠ "lost") (h : x.pieces.flatten = rgI 0 n) : markWhole mk x st bh left = if st = true then (if n = bh ∧ left = 0 then ("fine" : Str) else "fault") else if x.rest = rgB (n : Nat) (bh : Nat) then ("fine" : Str) else if n = bh then "twice" else "lost" := by
  unfold markWhole
  rw [h, rgI_len, if_neg (fun q => q.elim hm fun q => q rfl)]
theorem rgB_len (a b : Nat) : (rgB (a : Int) (b : Int)).length = b - a := by
  unfold rgB
  rw [List.length_map, List.length_range]
  omega
theorem rgB_same (a : Nat) : rgB (a : Int) (a : Int) = [] := List.eq_nil_of_length_eq_zero (by rw [rgB_len]; omega)
theorem rgB_ge {a b : Nat} {i : Int} (h : i ∈ rgB (a : Int) (b : Int)) : (a : Int) ≤ i := by
  unfold rgB at h
  obtain ⟨k, _, rfl⟩ := List.mem_map.mp h
  omega
def WI (M : Str) (x : RP) (f : Nat) : Prop := (M = "fine" ∧ ∃ k : Nat, k ≤ f ∧ x.pieces.flatten = rgI 0 k ∧ x.rest = rgI (k : Nat) (f - k)) ∨ (M = "twice" ∧ x.pieces.flatten = rgI 0 f ∧ ∃ v t, x.rest = v :: t ∧ v < (f : Nat)) ∨ M = "lost"
theorem rg_app0 (k n : Nat) : rgI 0 k ++ rgI (k : Nat) n = rgI 0 (k + n) := by
  have := rgI_app 0 k n
  rw [Int.zero_add] at this
  exact this
section
variable {sz : Nat} (z : 1 ≤ sz) {f c c' y k left : Nat} {x w w' : RP} {m : Str} {b : AS} {st : Bool}
include z
theorem whole_fine (hk : k ≤ f) (hx : x.pieces.flatten = rgI 0 k) (h0 : c = 0 ↔ c' = 0) (hw : Ok sz ⟨(k : Nat), f - k, c, []⟩ false m w b) (hw' : Ok 4 ⟨0, y, c', []⟩ false m w' b) (hb : okP b.ph = true) :
    (st = false → WI (markWhole "fine" w' st (y + c') left) ⟨w.rest, x.pieces ++ w.pieces⟩ (f + c)) ∧ (st = true → markWhole "fine" w' st (y + c') left ≠ "fault" → left = 0 ∧ (x.pieces ++ w.pieces).flatten = rgI 0 (f + c)) := by
  have fl : ("fine" : Str) ≠ "lost" := by decide +kernel
  have p := hw.ph
  have p' := hw'.ph
  have se : w'.rest.length = 0 → w.rest.length = 0 := fun q => (so_e z).mp (hw.s.trans (hw'.s.symm.trans ((so_e (by decide)).mpr q)))
  have good : ∀ n : Nat, w'.pieces.flatten = rgI 0 n → (w'.rest = rgB (n : Nat) ((y + c' : Nat) : Int) → ∃ k' : Nat, k' ≤ f + c ∧ (x.pieces ++ w.pieces).flatten = rgI 0 k' ∧ w.rest = rgI (k' : Nat) (f + c - k')) → (w'.rest ≠ rgB (n : Nat) ((y + c' : Nat) : Int) → n = y + c' → (x.pieces ++ w.pieces).flatten = rgI 0 (f + c) ∧ ∃ v t, w.rest = v :: t ∧ v < ((f + c : Nat) : Int)) → (n = y + c' → (x.pieces ++ w.pieces).flatten = rgI 0 (f + c)) →
      (st = false → WI (markWhole "fine" w' st (y + c') left) ⟨w.rest, x.pieces ++ w.pieces⟩ (f + c)) ∧ (st = true → markWhole "fine" w' st (y + c') left ≠ "fault" → left = 0 ∧ (x.pieces ++ w.pieces).flatten = rgI 0 (f + c)) := by
    intro n hF h1 h2 h3
    rw [mw_good fl hF]
    refine ⟨fun s => ?_, fun s => ?_⟩
    · rw [if_neg (by rw [s]; decide)]
      by_cases q : w'.rest = rgB (n : Nat) ((y + c' : Nat) : Int)
      · rw [if_pos q]; exact .inl ⟨rfl, h1 q⟩
      rw [if_neg q]
      by_cases q2 : n = y + c'
      · rw [if_pos q2]; exact .inr (.inl ⟨rfl, h2 q q2⟩)
      · rw [if_neg q2]; exact .inr (.inr rfl)
    · rw [if_pos s]
      by_cases q : n = y + c' ∧ left = 0
      · exact fun _ => ⟨q.2, h3 q.1⟩
      · rw [if_neg q]; exact fun q => absurd rfl q
  have fa : ∀ n : Nat, w.pieces.flatten = rgI (k : Nat) n → (x.pieces ++ w.pieces).flatten = rgI 0 (k + n) := fun n q => by rw [List.flatten_append, hx, q, rg_app0]
  cases e : b.ph with
  | A =>
    rw [e] at p p'
    obtain ⟨_, j, hj, hF, hr⟩ := p
    obtain ⟨_, j', hj', hF', hr'⟩ := p'
    have hj : j ≤ f - k := hj
    have hj' : j' ≤ y := hj'
    have hF' : w'.pieces.flatten = rgI 0 j' := hF'
    have hF : w.pieces.flatten = rgI (k : Nat) j := hF
    have hr' : w'.rest = rgI (0 + (j' : Nat)) (y - j') := hr'
    have hr : w.rest = rgI ((k : Int) + (j : Nat)) (f - k - j) := hr
    have l' : w'.rest.length = y - j' := by rw [hr', rgI_len]
    have l : w.rest.length = f - k - j := by rw [hr, rgI_len]
    refine good j' hF' (fun q => ?_) (fun q q2 => ?_) fun q2 => ?_
    · have := congrArg List.length q
      rw [l', rgB_len] at this
      have c0 : c = 0 := h0.mpr (by omega)
      refine ⟨k + j, by omega, fa j hF, ?_⟩
      rw [hr, show f - k - j = f + c - (k + j) by omega]
      rfl
    · exact absurd (by rw [show j' = y + c' from q2] at hr' ⊢; rw [rgB_same]; exact List.eq_nil_of_length_eq_zero (by omega)) q
    · have c0 : c = 0 := h0.mpr (by omega)
      have := se (by omega)
      rw [fa j hF, show k + j = f + c by omega]
  | B1 a =>
    rw [e] at p p'
    obtain ⟨_, j, hj, hF, hr, ha⟩ := p
    obtain ⟨_, j', hj', hF', hr', ha'⟩ := p'
    have hj : j ≤ f - k := hj
    have hj' : j' ≤ y := hj'
    have hF' : w'.pieces.flatten = rgI 0 j' := hF'
    have hF : w.pieces.flatten = rgI (k : Nat) j := hF
    have hr' : w'.rest = rgI (0 + (j' : Nat)) (y + c' - j') := hr'
    have hr : w.rest = rgI ((k : Int) + (j : Nat)) (f - k + c - j) := hr
    have l' : w'.rest.length = y + c' - j' := by rw [hr', rgI_len]
    have l : w.rest.length = f - k + c - j := by rw [hr, rgI_len]
    refine good j' hF' (fun q => ?_) (fun q q2 => ?_) fun q2 => ?_
    · refine ⟨k + j, by omega, fa j hF, ?_⟩
      rw [hr, show f - k + c - j = f + c - (k + j) by omega]
      rfl
    · exact absurd (by rw [show j' = y + c' from q2] at hr' ⊢; rw [rgB_same]; exact List.eq_nil_of_length_eq_zero (by omega)) q
    · have := se (by omega)
      rw [fa j hF, show k + j = f + c by omega]
  | B2 a =>
    rw [e] at p p'
    obtain ⟨_, j, hj, hF, hr, ha⟩ := p
    obtain ⟨_, j', hj', hF', hr', ha'⟩ := p'
    have hj : j ≤ f - k + c := hj
    have hj' : j' ≤ y + c' := hj'
    have hF' : w'.pieces.flatten = rgI 0 j' := hF'
    have hF : w.pieces.flatten = rgI (k : Nat) j := hF
    have hr' : w'.rest = rgI (0 + (j' : Nat)) (y + c' - j') := hr'
    have hr : w.rest = rgI ((k : Int) + (j : Nat)) (f - k + c - j) := hr
    have l' : w'.rest.length = y + c' - j' := by rw [hr', rgI_len]
    have l : w.rest.length = f - k + c - j := by rw [hr, rgI_len]
    refine good j' hF' (fun q => ?_) (fun q q2 => ?_) fun q2 => ?_
    · refine ⟨k + j, by omega, fa j hF, ?_⟩
      rw [hr, show f - k + c - j = f + c - (k + j) by omega]
      rfl
    · exact absurd (by rw [show j' = y + c' from q2] at hr' ⊢; rw [rgB_same]; exact List.eq_nil_of_length_eq_zero (by omega)) q
    · have := se (by omega)
      rw [fa j hF, show k + j = f + c by omega]
  | H =>
    rw [e] at p p'
    obtain ⟨_, hF, hr⟩ := p
    obtain ⟨_, hF', hr'⟩ := p'
    have hF' : w'.pieces.flatten = rgI 0 (y + c') := hF'
    have hF : w.pieces.flatten = rgI (k : Nat) (f - k + c) := hF
    have a : (x.pieces ++ w.pieces).flatten = rgI 0 (f + c) := by rw [fa _ hF, show k + (f - k + c) = f + c by omega]
    refine good (y + c') hF' (fun q => ?_) (fun q q2 => ?_) fun q2 => a
    · exact ⟨f + c, Nat.le_refl _, a, by rw [hr, Nat.sub_self]; rfl⟩
    · exact absurd (by rw [hr', rgB_same]) q
  | T =>
    rw [e] at p p'
    obtain ⟨_, hF, hr⟩ := p
    obtain ⟨_, hF', hr'⟩ := p'
    have hF' : w'.pieces.flatten = rgI 0 (y + c') := hF'
    have hF : w.pieces.flatten = rgI (k : Nat) (f - k + c) := hF
    have hr' : w'.rest = rgI (0 + (y : Nat)) c' := hr'
    have hr : w.rest = rgI ((k : Int) + ((f - k : Nat) : Nat)) c := hr
    have a : (x.pieces ++ w.pieces).flatten = rgI 0 (f + c) := by rw [fa _ hF, show k + (f - k + c) = f + c by omega]
    refine good (y + c') hF' (fun q => ?_) (fun q q2 => ?_) fun q2 => a
    · have := congrArg List.length q
      rw [hr', rgI_len, rgB_len] at this
      have c0 : c = 0 := h0.mpr (by omega)
      exact ⟨f + c, Nat.le_refl _, a, by rw [hr, Nat.sub_self, c0]; rfl⟩
    · have c0 : c ≠ 0 := fun z => q (by rw [hr', h0.mp z, Nat.add_zero, rgB_same]; rfl)
      refine ⟨a, ((k : Int) + ((f - k : Nat) : Int)), rgI ((k : Int) + ((f - k : Nat) : Int) + ((1 : Nat) : Int)) (c - 1), ?_, by omega⟩
      rw [hr]
      conv => lhs; rw [show c = 1 + (c - 1) by omega]
      rw [← rgI_app]
      show [(k : Int) + ((f - k : Nat) : Int) + ((0 : Nat) : Int)] ++ _ = _
      rw [show (k : Int) + ((f - k : Nat) : Int) + ((0 : Nat) : Int) = (k : Int) + ((f - k : Nat) : Int) by omega]
      rfl
  | Z =>
    rw [e] at p'
    have p' : w'.pieces.flatten ≠ rgI 0 w'.pieces.flatten.length := p'
    rw [mw_bad p']
    refine ⟨fun s => ?_, fun s => ?_⟩
    · rw [if_neg (by rw [s]; decide)]; exact .inr (.inr rfl)
    · rw [if_pos s]; exact fun q => absurd rfl q
  | N => rw [e] at hb; cases hb
  | a => rw [e] at p; exact absurd p.1 (by decide)
  | h => rw [e] at p; exact absurd p.1 (by decide)
  | b => rw [e] at p; exact absurd p.1 (by decide)
  | t => rw [e] at p; exact absurd p.1 (by decide)
theorem whole_twice {v : Int} {t old : List Int} (ho : old = v :: t) (hv : v < (f : Nat)) (hy : y ≠ 0) (hx : x.pieces.flatten = rgI 0 f) (h0 : c = 0 ↔ c' = 0) (hw : Ok sz ⟨(f : Nat), 0, c, old⟩ true m w b) (hw' : Ok 4 ⟨0, 0, c', rgI (-(y : Int)) y⟩ true m w' b) (hb : okP b.ph = true) :
    (st = false → WI (markWhole "twice" w' st c' left) ⟨w.rest, x.pieces ++ w.pieces⟩ (f + c)) ∧ (st = true → markWhole "twice" w' st c' left ≠ "fault" → left = 0 ∧ (x.pieces ++ w.pieces).flatten = rgI 0 (f + c)) := by
  have fl : ("twice" : Str) ≠ "lost" := by decide +kernel
  have p := hw.ph
  have p' := hw'.ph
  have nb : ∀ (u : List Int) (n : Nat), w'.rest = rgI (-(y : Int)) y ++ u → w'.rest ≠ rgB (n : Nat) (c' : Nat) := fun u n q q2 => by
    have : -(y : Int) ∈ w'.rest := by
      rw [q]
      refine List.mem_append_left _ (List.mem_map.mpr ⟨0, List.mem_range.mpr (by omega), ?_⟩)
      show -(y : Int) + ((0 : Nat) : Int) = _
      omega
    rw [q2] at this
    have := rgB_ge this
    omega
  have good : ∀ (n : Nat) (u u' : List Int), w'.pieces.flatten = rgI 0 n → w'.rest = rgI (-(y : Int)) y ++ u' → w.rest = old ++ u → (n = c' → (x.pieces ++ w.pieces).flatten = rgI 0 (f + c)) →
      (st = false → WI (markWhole "twice" w' st c' left) ⟨w.rest, x.pieces ++ w.pieces⟩ (f + c)) ∧ (st = true → markWhole "twice" w' st c' left ≠ "fault" → left = 0 ∧ (x.pieces ++ w.pieces).flatten = rgI 0 (f + c)) := by
    intro n u u' hF hr' hr h3
    rw [mw_good fl hF]
    refine ⟨fun s => ?_, fun s => ?_⟩
    · rw [if_neg (by rw [s]; decide), if_neg (nb u' n hr')]
      by_cases q2 : n = c'
      · rw [if_pos q2]
        refine .inr (.inl ⟨rfl, h3 q2, v, t ++ u, ?_, by omega⟩)
        show w.rest = _
        rw [hr, ho]; rfl
      · rw [if_neg q2]; exact .inr (.inr rfl)
    · rw [if_pos s]
      by_cases q : n = c' ∧ left = 0
      · exact fun _ => ⟨q.2, h3 q.1⟩
      · rw [if_neg q]; exact fun q => absurd rfl q
  have fa : ∀ n : Nat, w.pieces.flatten = rgI (f : Nat) n → (x.pieces ++ w.pieces).flatten = rgI 0 (f + n) := fun n q => by rw [List.flatten_append, hx, q, rg_app0]
  cases e : b.ph with
  | a =>
    rw [e] at p p'
    exact good 0 [] [] p'.2.1 (p'.2.2.trans (List.append_nil _).symm) (p.2.2.trans (List.append_nil _).symm) fun q => by rw [h0.mpr q.symm]; exact fa 0 p.2.1
  | h =>
    rw [e] at p p'
    exact good c' [] [] p'.2.1 (p'.2.2.trans (List.append_nil _).symm) (p.2.2.trans (List.append_nil _).symm) fun _ => fa c p.2.1
  | b =>
    rw [e] at p p'
    exact good 0 _ _ p'.2.1 p'.2.2 p.2.2 fun q => by rw [h0.mpr q.symm]; exact fa 0 p.2.1
  | t =>
    rw [e] at p p'
    exact good c' _ _ p'.2.1 p'.2.2 p.2.2 fun _ => fa c p.2.1
  | Z =>
    rw [e] at p'
    have p' : w'.pieces.flatten ≠ rgI 0 w'.pieces.flatten.length := p'
    rw [mw_bad p']
    refine ⟨fun s => ?_, fun s => ?_⟩
    · rw [if_neg (by rw [s]; decide)]; exact .inr (.inr rfl)
    · rw [if_pos s]; exact fun q => absurd rfl q
  | N => rw [e] at hb; cases hb
  | A => rw [e] at p; exact absurd p.1 (by decide)
  | B1 _ => rw [e] at p; exact absurd p.1 (by decide)
  | B2 _ => rw [e] at p; exact absurd p.1 (by decide)
  | H => rw [e] at p; exact absurd p.1 (by decide)
  | T => rw [e] at p; exact absurd p.1 (by decide)
end
end SS

/-! a property that the search finds no fault of has none in any run -/
namespace SS
open PySem EM CoM SR
def bit (n : Nat) : Nat := if n = 0 then 0 else 1
/-- the source's replies, as the search sees them -/
def OptOk (opt : Nat → FJ.Rep) (tell : Tell) (can : Nat → Bool) (sz : Nat) : Prop := ∀ left r, r ∈ opt left → r.1 ≤ sz ∧ r.1 ≤ left ∧ tell (bit left : Nat) (bit (left - r.1) : Nat) = r.2 ∧ ∀ c ∈ cands (kd sz r.1), (c, bit (left - r.1)) ∈ movesM can (bit left)
def PI (name M : Str) (sz : Nat) (x : RP) (f : Nat) : Prop :=
  (name = "whole" → WI M x f) ∧ (name = "filled" → [] ∉ x.pieces) ∧ (name = "even" → evF sz "fine" x.pieces = M) ∧ (name ≠ "whole" → isLow M = false)
def Lv (ro eo : List (Str × Str)) (tell : Tell) (can : Nat → Bool) (name : Str) (sz left : Nat) (s : RS') : Prop :=
  s.st = false ∧ ∃ (y : Nat) (M : Str), Reach ro eo tell can name (bit left, y, M) ∧ so 4 y = so sz s.x.rest.length ∧ y ∈ norm ∧ M ≠ "fault" ∧ PI name M sz s.x s.f
section
variable {ro eo : List (Str × Str)} {tell : Tell} {can : Nat → Bool} {name : Str} {sz : Nat}
theorem lv0 (hn : FJ.Names name) (n : Nat) : Lv ro eo tell can name sz n FJ.s0 := by
  refine ⟨rfl, 0, "fine", ?_, rfl, by decide, by decide +kernel, ⟨fun _ => .inl ⟨rfl, 0, Nat.le_refl _, rfl, rfl⟩, fun _ q => (nomatch q), fun _ => rfl, fun _ => by decide +kernel⟩⟩
  unfold bit
  split
  · exact .a
  · exact .b
theorem mark_low {M : Str} {x : RP} {st told : Bool} {bh left : Nat} (h1 : name ≠ "whole") (hM : isLow M = false) : isLow (markM name M 4 x st told bh left) = false := by
  have ev : ∀ (ps : List (List Int)) (m : Str), isLow m = false → isLow (evenM 4 m ps) = false := by
    intro ps
    induction ps with
    | nil => exact fun m h => h
    | cons p r ih =>
      intro m h
      unfold evenM
      split
      · decide +kernel
      · refine ih _ ?_
        split
        · decide +kernel
        · exact h
  unfold markM
  rw [if_neg h1]
  split
  · split <;> decide +kernel
  split
  · exact ev _ _ hM
  split
  · split <;> decide +kernel
  · decide +kernel
/-- one round of the search -/
theorem model_step (nf : ¬ HasF ro eo tell can name) (hn : name ≠ "ends") {l y : Nat} {M : Str} (h : Reach ro eo tell can name (l, y, M)) {c p : Nat} (hm : (c, p) ∈ movesM can l) {told : Bool} (ht : tell (l : Nat) (p : Nat) = told) :
    let w := ansM 4 ro eo (rgI (lowM M y + (y : Int)) c) told ⟨rgI (lowM M y) y, []⟩
    markM name M 4 w.1 w.2 told (bhM M y c) p ≠ "fault" := by
  subst ht
  intro w q
  apply nf
  refine ⟨(p, restM w.1.rest.length, "fault"), .step h (List.mem_filterMap.mpr ⟨(c, p), hm, ?_⟩), ?_⟩
  · unfold nextM behM
    show Option.map _ (if w.2 = true ∧ markM name M 4 w.1 w.2 (tell (l : Nat) (p : Nat)) (bhM M y c) p ≠ "fault" then _ else some (p, w.1.rest.length, markM name M 4 w.1 w.2 (tell (l : Nat) (p : Nat)) (bhM M y c) p)) = _
    rw [if_neg (fun z => z.2 q), q]
    rfl
  · unfold isFaultM
    rw [if_neg hn]
    rfl
theorem model_next {l y : Nat} {M : Str} (h : Reach ro eo tell can name (l, y, M)) {c p : Nat} (hm : (c, p) ∈ movesM can l) {told : Bool} (ht : tell (l : Nat) (p : Nat) = told) :
    let w := ansM 4 ro eo (rgI (lowM M y + (y : Int)) c) told ⟨rgI (lowM M y) y, []⟩
    w.2 = false → Reach ro eo tell can name (p, restM w.1.rest.length, markM name M 4 w.1 w.2 told (bhM M y c) p) := by
  subst ht
  intro w q
  refine .step h (List.mem_filterMap.mpr ⟨(c, p), hm, ?_⟩)
  unfold nextM behM
  show Option.map _ (if w.2 = true ∧ markM name M 4 w.1 w.2 (tell (l : Nat) (p : Nat)) (bhM M y c) p ≠ "fault" then _ else some (p, w.1.rest.length, markM name M 4 w.1 w.2 (tell (l : Nat) (p : Nat)) (bhM M y c) p)) = _
  rw [if_neg (fun z => by rw [q] at z; exact absurd z.1 (by decide))]
  rfl
theorem itF_rg (f c : Nat) : itF f c = rgI (f : Nat) c := rfl
/-- what the step shows, whatever the search's mark is about -/
theorem low_zero {M : Str} (h : isLow M = false) (y : Nat) : lowM M y = 0 := by unfold lowM; rw [if_neg (by rw [h]; decide)]
theorem bh_zero {M : Str} (h : isLow M = false) (y c : Nat) : bhM M y c = y + c := by unfold bhM; rw [if_neg (by rw [h]; decide)]
theorem low_some {M : Str} (h : isLow M = true) (y : Nat) : lowM M y = -(y : Int) := by unfold lowM; rw [if_pos h]
theorem bh_some {M : Str} (h : isLow M = true) (y c : Nat) : bhM M y c = c := by unfold bhM; rw [if_pos h]
theorem cand0 {c c' : Nat} (z : 1 ≤ sz) (h : c' ∈ cands (kd sz c)) : c = 0 ↔ c' = 0 := by
  rw [← kd_no (sz := sz) z, ← (cands_kd _ _ h).1, kd_no (by decide)]
/-- one round: the same sorts, an empty piece, sizes -/
theorem round_ex (z : 1 ≤ sz) (ha : adds ro ≤ 1) (he : adds eo = 0) (M : Str) (f : Nat) {c : Nat} (hc : c ≤ sz) (told : Bool) {rest : List Int} {y : Nat} (hy : so 4 y = so sz rest.length) (hn : y ∈ norm) :
    ∃ c' ∈ cands (kd sz c), let w := ansM sz ro eo (itF f c) told ⟨rest, []⟩; let w' := ansM 4 ro eo (rgI (lowM M y + (y : Int)) c') told ⟨rgI (lowM M y) y, []⟩
      w.2 = w'.2 ∧ so sz w.1.rest.length = so 4 w'.1.rest.length ∧ ([] ∈ w.1.pieces ↔ [] ∈ w'.1.pieces) ∧ evF sz M w.1.pieces = evF 4 M w'.1.pieces := by
  obtain ⟨o, c', hc', i1, i2, i3⟩ := ans_ex (sz := sz) z (d := ⟨(f : Nat), 0, c, []⟩) (tw := false) (m0 := M) hc (fun q => by cases q) told ha he (x := ⟨rest, []⟩) (a := ⟨so sz rest.length, .N, false, M⟩) (y := y) ⟨rfl, trivial, rfl, rfl⟩ hy hn
  have j := i3 ⟨lowM M y + (y : Int), 0, c', []⟩ false M ⟨rgI (lowM M y) y, []⟩ rfl (fun q => by cases q) (rgI_len _ _) ⟨by show so 4 (rgI (lowM M y) y).length = _; rw [rgI_len]; exact hy, trivial, rfl, rfl⟩
  have e1 : (⟨(f : Nat), 0, c, []⟩ : Rd).held false = itF f c := by
    show rgI ((f : Int) + ((0 : Nat) : Int)) c = _
    rw [show (f : Int) + ((0 : Nat) : Int) = (f : Int) by omega]
    rfl
  have e2 : (⟨lowM M y + (y : Int), 0, c', []⟩ : Rd).held false = rgI (lowM M y + (y : Int)) c' := by
    show rgI (lowM M y + (y : Int) + ((0 : Nat) : Int)) c' = _
    rw [show lowM M y + (y : Int) + ((0 : Nat) : Int) = lowM M y + (y : Int) by omega]
  rw [e1] at i1 i2
  rw [e2] at j
  exact ⟨c', hc', i1.trans j.1.symm, i2.s.trans j.2.s.symm, decide_eq_decide.mp (i2.em.trans j.2.em.symm), i2.ev.trans j.2.ev.symm⟩
/-- one round: the items in order -/
theorem round_whole (z : 1 ≤ sz) (ha : adds ro ≤ 1) (he : adds eo = 0) {M : Str} {x : RP} {f c : Nat} (hW : WI M x f) (hc : c ≤ sz) (told : Bool) {y : Nat} (hy : so 4 y = so sz x.rest.length) (hn : y ∈ norm) (left : Nat) :
    ∃ c' ∈ cands (kd sz c), let w := ansM sz ro eo (itF f c) told ⟨x.rest, []⟩; let w' := ansM 4 ro eo (rgI (lowM M y + (y : Int)) c') told ⟨rgI (lowM M y) y, []⟩
      w.2 = w'.2 ∧ so sz w.1.rest.length = so 4 w'.1.rest.length ∧ (w'.2 = false → WI (markWhole M w'.1 w'.2 (bhM M y c') left) ⟨w.1.rest, x.pieces ++ w.1.pieces⟩ (f + c)) ∧ (w'.2 = true → markWhole M w'.1 w'.2 (bhM M y c') left ≠ "fault" → left = 0 ∧ (x.pieces ++ w.1.pieces).flatten = itF 0 (f + c)) := by
  rcases hW with ⟨rfl, k, hk, hx, hr⟩ | ⟨rfl, hx, v, t, hr, hv⟩ | rfl
  · obtain ⟨o, c', hc', i1, i2, i3⟩ := ans_ex (sz := sz) z (d := ⟨(k : Nat), f - k, c, []⟩) (tw := false) (m0 := "fine") hc (fun q => by cases q) told ha he (x := ⟨x.rest, []⟩) (a := ⟨so sz x.rest.length, .A, false, "fine"⟩) (y := y) ⟨rfl, ⟨rfl, 0, Nat.zero_le _, rfl, by show x.rest = rgI ((k : Int) + ((0 : Nat) : Int)) (f - k - 0); rw [hr, show (k : Int) + ((0 : Nat) : Int) = (k : Int) by omega]; rfl⟩, rfl, rfl⟩ hy hn
    have l0 := low_zero (M := "fine") (by decide +kernel) y
    have b0 := bh_zero (M := "fine") (by decide +kernel) y c'
    have j := i3 ⟨0, y, c', []⟩ false "fine" ⟨rgI 0 y, []⟩ rfl (fun q => by cases q) (rgI_len _ _) ⟨by show so 4 (rgI 0 y).length = _; rw [rgI_len]; exact hy, ⟨rfl, 0, Nat.zero_le _, rfl, rfl⟩, rfl, rfl⟩
    have e1 : (⟨(k : Nat), f - k, c, []⟩ : Rd).held false = itF f c := by
      show rgI ((k : Int) + ((f - k : Nat) : Int)) c = _
      rw [show (k : Int) + ((f - k : Nat) : Int) = (f : Int) by omega]
      rfl
    rw [e1] at i1 i2
    refine ⟨c', hc', ?_⟩
    rw [l0, b0]
    have j : _ ∧ Ok 4 ⟨0, y, c', []⟩ false "fine" (ansM 4 ro eo (rgI (0 + (y : Int)) c') told ⟨rgI 0 y, []⟩).1 _ := j
    have g := cand0 z hc'
    have hb : okP (if (runS (kd sz c) told o ro ⟨so sz x.rest.length, .A, false, "fine"⟩).2 = true then endS (kd sz c) told o eo (runS (kd sz c) told o ro ⟨so sz x.rest.length, .A, false, "fine"⟩).1 else (runS (kd sz c) told o ro ⟨so sz x.rest.length, .A, false, "fine"⟩).1).ph = true := by
      have a := runS_ok (kd sz c) told o ro ⟨so sz x.rest.length, .A, false, "fine"⟩ (.inr ⟨ha, rfl⟩)
      by_cases q : (runS (kd sz c) told o ro ⟨so sz x.rest.length, .A, false, "fine"⟩).2 = true
      · rw [if_pos q]; exact endS_ok _ _ _ _ _ he a
      · rw [if_neg q]; exact a
    exact ⟨i1.trans j.1.symm, i2.s.trans j.2.s.symm, whole_fine z hk hx g i2 j.2 hb⟩
  · obtain ⟨o, c', hc', i1, i2, i3⟩ := ans_ex (sz := sz) z (d := ⟨(f : Nat), 0, c, x.rest⟩) (tw := true) (m0 := "twice") hc (fun _ => ⟨v, t, hr, hv⟩) told ha he (x := ⟨x.rest, []⟩) (a := ⟨so sz x.rest.length, .a, false, "twice"⟩) (y := y) ⟨rfl, ⟨rfl, rfl, rfl⟩, rfl, rfl⟩ hy hn
    have l0 := low_some (M := "twice") (by decide +kernel) y
    have b0 := bh_some (M := "twice") (by decide +kernel) y c'
    have y0 : y ≠ 0 := fun q => by
      rw [q] at hy
      have := (so_e z).mp (hy.symm.trans rfl)
      rw [hr] at this
      cases this
    have od' : Od ⟨0, 0, c', rgI (-(y : Int)) y⟩ true := fun _ => by
      refine ⟨-(y : Int), rgI (-(y : Int) + ((1 : Nat) : Int)) (y - 1), ?_, by show -(y : Int) < 0; omega⟩
      show rgI (-(y : Int)) y = _
      conv => lhs; rw [show rgI (-(y : Int)) y = rgI (-(y : Int)) (1 + (y - 1)) by rw [show 1 + (y - 1) = y by omega]]
      rw [← rgI_app]
      show [-(y : Int) + ((0 : Nat) : Int)] ++ _ = _
      rw [show -(y : Int) + ((0 : Nat) : Int) = -(y : Int) by omega]
      rfl
    have j := i3 ⟨0, 0, c', rgI (-(y : Int)) y⟩ true "twice" ⟨rgI (-(y : Int)) y, []⟩ rfl od' (rgI_len _ _) ⟨by show so 4 (rgI _ y).length = _; rw [rgI_len]; exact hy, ⟨rfl, rfl, rfl⟩, rfl, rfl⟩
    have e1 : (⟨(f : Nat), 0, c, x.rest⟩ : Rd).held true = itF f c := rfl
    rw [e1] at i1 i2
    refine ⟨c', hc', ?_⟩
    rw [l0, b0, show -(y : Int) + (y : Int) = 0 by omega]
    have j : _ ∧ Ok 4 ⟨0, 0, c', rgI (-(y : Int)) y⟩ true "twice" (ansM 4 ro eo (rgI 0 c') told ⟨rgI (-(y : Int)) y, []⟩).1 _ := j
    have g := cand0 z hc'
    have hb : okP (if (runS (kd sz c) told o ro ⟨so sz x.rest.length, .a, false, "twice"⟩).2 = true then endS (kd sz c) told o eo (runS (kd sz c) told o ro ⟨so sz x.rest.length, .a, false, "twice"⟩).1 else (runS (kd sz c) told o ro ⟨so sz x.rest.length, .a, false, "twice"⟩).1).ph = true := by
      have a := runS_ok (kd sz c) told o ro ⟨so sz x.rest.length, .a, false, "twice"⟩ (.inr ⟨ha, rfl⟩)
      by_cases q : (runS (kd sz c) told o ro ⟨so sz x.rest.length, .a, false, "twice"⟩).2 = true
      · rw [if_pos q]; exact endS_ok _ _ _ _ _ he a
      · rw [if_neg q]; exact a
    exact ⟨i1.trans j.1.symm, i2.s.trans j.2.s.symm, whole_twice z hr hv y0 hx g i2 j.2 hb⟩
  · obtain ⟨c', hc', i1, i2, _, _⟩ := round_ex z ha he "lost" f hc told hy hn
    refine ⟨c', hc', i1, i2, fun s => ?_, fun s q => ?_⟩
    · unfold markWhole
      rw [if_pos (.inl rfl), if_neg (by rw [s]; decide)]
      exact .inr (.inr rfl)
    · unfold markWhole at q
      rw [if_pos (.inl rfl), if_pos s] at q
      exact absurd rfl q
end
end SS

/-! no run shows a fault -/
namespace SS
open PySem EM CoM SR FJ
section
variable {ro eo : List (Str × Str)} {tell : Tell} {can : Nat → Bool} {name : Str} {sz : Nat} {opt : Nat → FJ.Rep}
/-- what one more reply does -/
structure Nx (ro eo : List (Str × Str)) (tell : Tell) (can : Nat → Bool) (name : Str) (sz left : Nat) (told : Bool) (s : RS') : Prop where
  lv : s.st = false → Lv ro eo tell can name sz left s
  w : name = "whole" → s.st = true → left = 0 ∧ s.x.pieces.flatten = itF 0 s.f
  fi : name = "filled" → [] ∉ s.x.pieces
  ev : name = "even" → evF sz "fine" s.x.pieces ≠ "fault"
  qu : name = "quiet" → told = true → s.st = true
theorem so_norm (r : Nat) : restM r ∈ norm := rest_mem r
theorem lv_step (z : 1 ≤ sz) (ha : adds ro ≤ 1) (he : adds eo = 0) (hn : Names name) (nf : ¬ HasF ro eo tell can name) (hO : OptOk opt tell can sz) {left : Nat} {s : RS'} (h : Lv ro eo tell can name sz left s) {r : Nat × Bool} (hr : r ∈ opt left) : Nx ro eo tell can name sz (left - r.1) r.2 (stp sz ro eo s r) := by
  obtain ⟨st, y, M, hR, hy, hyn, hM, p1, p2, p3, p4⟩ := h
  obtain ⟨hc, hle, ht, hm⟩ := hO left r hr
  have es : stp sz ro eo s r = ⟨⟨(ansM sz ro eo (itF s.f r.1) r.2 ⟨s.x.rest, []⟩).1.rest, s.x.pieces ++ (ansM sz ro eo (itF s.f r.1) r.2 ⟨s.x.rest, []⟩).1.pieces⟩, s.f + r.1, s.u + 1, (ansM sz ro eo (itF s.f r.1) r.2 ⟨s.x.rest, []⟩).2⟩ := by
    unfold stp
    rw [if_neg (by rw [st]; decide), ans_from]
  rw [es]
  by_cases n1 : name = "whole"
  · subst n1
    obtain ⟨c', hc', i1, i2, i3, i4⟩ := round_whole z ha he (p1 rfl) hc r.2 hy hyn (bit (left - r.1))
    have mm := hm c' hc'
    have mf := model_step nf (by decide +kernel) hR mm ht
    have mn := model_next hR mm ht
    have mw : ∀ (x : RP) (a b : Bool) (k l : Nat), markM "whole" M 4 x a b k l = markWhole M x a k l := fun x a b k l => by unfold markM; rw [if_pos rfl]
    dsimp only at mf mn i1 i2 i3 i4
    rw [mw] at mf mn
    refine ⟨fun q => ⟨q, _, _, mn (i1.symm.trans q), ?_, so_norm _, mf, fun _ => ?_, fun q => absurd q (by decide +kernel), fun q => absurd q (by decide +kernel), fun q => absurd rfl q⟩, fun _ q => ?_, fun q => absurd q (by decide +kernel), fun q => absurd q (by decide +kernel), fun q => absurd q (by decide +kernel)⟩
    · rw [rest_so]; exact i2.symm
    · exact i3 (i1.symm.trans q)
    · have := i4 (i1.symm.trans q) mf
      refine ⟨?_, this.2⟩
      have a := this.1
      unfold bit at a
      by_cases l0 : left - r.1 = 0
      · exact l0
      · rw [if_neg l0] at a; cases a
  · have lo := p4 n1
    obtain ⟨c', hc', i1, i2, i3, i4⟩ := round_ex z ha he M s.f hc r.2 hy hyn
    have mm := hm c' hc'
    have mn := model_next hR mm ht
    dsimp only at mn i1 i2 i3 i4
    -- the mark
    have mf : markM name M 4 (ansM 4 ro eo (rgI (lowM M y + (y : Int)) c') r.2 ⟨rgI (lowM M y) y, []⟩).1 (ansM 4 ro eo (rgI (lowM M y + (y : Int)) c') r.2 ⟨rgI (lowM M y) y, []⟩).2 r.2 (bhM M y c') (bit (left - r.1)) ≠ "fault" := by
      by_cases n5 : name = "ends"
      · rw [n5, mark_ends]; decide +kernel
      · exact model_step nf n5 hR mm ht
    have me : name = "even" → evF sz "fine" (s.x.pieces ++ (ansM sz ro eo (itF s.f r.1) r.2 ⟨s.x.rest, []⟩).1.pieces) = markM name M 4 (ansM 4 ro eo (rgI (lowM M y + (y : Int)) c') r.2 ⟨rgI (lowM M y) y, []⟩).1 (ansM 4 ro eo (rgI (lowM M y + (y : Int)) c') r.2 ⟨rgI (lowM M y) y, []⟩).2 r.2 (bhM M y c') (bit (left - r.1)) := by
      intro n
      rw [evF_app, p3 n, i4, n]
      unfold markM
      rw [if_neg (show ¬ ("even" : Str) = "whole" by decide +kernel), if_neg (show ¬ ("even" : Str) = "filled" by decide +kernel), if_pos rfl]
      exact (even_evF 4 _ _ hM).symm
    have hf : name = "filled" → [] ∉ s.x.pieces ++ (ansM sz ro eo (itF s.f r.1) r.2 ⟨s.x.rest, []⟩).1.pieces := by
      intro n q
      rcases List.mem_append.mp q with q | q
      · exact p2 n q
      · apply mf
        rw [n]
        unfold markM
        rw [if_neg (show ¬ ("filled" : Str) = "whole" by decide +kernel), if_pos rfl, if_pos (i3.mp q)]
    refine ⟨fun q => ⟨q, _, _, mn (i1.symm.trans q), ?_, so_norm _, mf, fun q => absurd q n1, hf, me, fun _ => mark_low n1 lo⟩, fun q => absurd q n1, hf, fun n => ?_, fun n t => ?_⟩
    · rw [rest_so]; exact i2.symm
    · show evF sz "fine" (s.x.pieces ++ _) ≠ _
      rw [me n]; exact mf
    · show (ansM sz ro eo (itF s.f r.1) r.2 ⟨s.x.rest, []⟩).2 = true
      rw [i1]
      cases q : (ansM 4 ro eo (rgI (lowM M y + (y : Int)) c') r.2 ⟨rgI (lowM M y) y, []⟩).2 with
      | true => rfl
      | false =>
        exfalso
        apply mf
        rw [q, n]
        unfold markM
        rw [if_neg (show ¬ ("quiet" : Str) = "whole" by decide +kernel), if_neg (show ¬ ("quiet" : Str) = "filled" by decide +kernel), if_neg (show ¬ ("quiet" : Str) = "even" by decide +kernel), if_pos rfl, if_pos ⟨t, rfl⟩]
/-- going on for ever -/
theorem al_so (z : 1 ≤ sz) {a b : Nat} (h : so 4 a = so sz b) : al 4 a = al sz b := by
  have e1 : a = 0 ↔ b = 0 := by rw [← so_e (sz := 4) (by decide), ← so_e z, h]
  have e2 : a % 4 = 0 ↔ b % sz = 0 := by rw [← so_mul (sz := 4) (by decide), ← so_mul z, h]
  unfold al
  by_cases c : a = 0
  · rw [if_pos c, if_pos (e1.mp c)]
  rw [if_neg c, if_neg (fun q => c (e1.mpr q))]
  by_cases d : a % 4 = 0
  · rw [if_pos d, if_pos (e2.mp d)]
  · rw [if_neg d, if_neg (fun q => d (e2.mpr q))]
theorem ev_ends (z : 1 ≤ sz) (nf : ¬ HasF ro eo tell can "ends") {te : Bool} (ht : tell 0 0 = te) {s : RS'} (h : s.st = false → Lv ro eo tell can "ends" sz 0 s) : evP sz ro eo te s = false := by
  cases st : s.st with
  | true =>
    unfold evP
    rw [show noS sz ro eo te 4 none ⟨s.x, s.u, s.st⟩ = ⟨s.x, s.u, s.st⟩ by show (if s.st = true then _ else _) = _; rw [if_pos st]]
    show (!s.st) = _
    rw [st]; rfl
  | false =>
    obtain ⟨_, y, M, hR, hy, hyn, hM, _⟩ := h st
    cases e : evP sz ro eo te s with
    | false => rfl
    | true =>
      exfalso
      apply nf
      refine ⟨_, hR, ?_⟩
      unfold isFaultM
      rw [if_pos rfl]
      show (decide (bit 0 = 0) && nevM ro eo tell 4 y) = true
      rw [show bit 0 = 0 from rfl, decide_eq_true rfl, Bool.true_and]
      have a := (no_asked (sz := sz) ro eo te 4 ⟨s.x, s.u, s.st⟩ st).1
      have b := (no_asked (sz := 4) ro eo te 4 ⟨⟨rgI 0 y, []⟩, 0, false⟩ rfl).1
      rw [show (⟨⟨rgI 0 y, []⟩, 0, false⟩ : WS).x.rest.length = y from rgI_len _ _] at b
      have l1 := noth_al (sz := sz) z te ro 1 s.x.rest.length
      have l2 := noth_al (sz := 4) (by decide) te ro 1 y
      rw [al_so z hy] at l2
      unfold nevM
      rw [ht]
      unfold evP at e
      have a : (match nothL sz te ro (1 + 3) s.x.rest.length with | some r => (noS sz ro eo te 4 none ⟨s.x, s.u, s.st⟩).st = true ∧ (noS sz ro eo te 4 none ⟨s.x, s.u, s.st⟩).ak = s.u + r | none => (noS sz ro eo te 4 none ⟨s.x, s.u, s.st⟩).st = false) := a
      have b : (match nothL 4 te ro (1 + 3) y with | some r => (noS 4 ro eo te 4 none ⟨⟨rgI 0 y, []⟩, 0, false⟩).st = true ∧ (noS 4 ro eo te 4 none ⟨⟨rgI 0 y, []⟩, 0, false⟩).ak = 0 + r | none => (noS 4 ro eo te 4 none ⟨⟨rgI 0 y, []⟩, 0, false⟩).st = false) := b
      rw [l1] at a
      rw [l2] at b
      cases q : nothA te ro 3 (al sz s.x.rest.length) with
      | some r =>
        rw [q] at a
        rw [a.1] at e
        cases e
      | none =>
        rw [q] at b
        rw [b]
        rfl
/-- sizes in order -/
theorem unev_evF (sz : Nat) : ∀ (ps : List (List Int)), evF sz "short" ps ≠ "fault" → ps = []
  | [], _ => rfl
  | p :: r, h => by
    exfalso
    apply h
    show evF sz (evB "short" _ _) r = _
    rw [show ∀ a b, evB "short" a b = "fault" from fun a b => by unfold evB; rw [if_neg (by decide +kernel), if_pos (.inl rfl)], evF_fault]
theorem even_ok (sz : Nat) : ∀ (ps : List (List Int)), evF sz "fine" ps ≠ "fault" → unevL sz ps = false := by
  intro ps h
  rw [unev_same]
  cases u : unevP sz ps with
  | false => rfl
  | true =>
    exfalso
    have key : ∀ ps : List (List Int), evF sz "fine" ps ≠ "fault" → (∀ p ∈ ps, p.length ≤ sz) ∧ ∀ p ∈ ps.dropLast, ¬ p.length < sz := by
      intro ps
      induction ps with
      | nil => exact fun _ => ⟨fun _ q => (nomatch q), fun _ q => (nomatch q)⟩
      | cons p r ih =>
        intro h
        have e : evF sz "fine" (p :: r) = evF sz (evB "fine" (decide (p.length < sz)) (decide (sz < p.length))) r := rfl
        rw [e] at h
        have g : ¬ sz < p.length := fun q => by
          apply h
          rw [show evB "fine" (decide (p.length < sz)) (decide (sz < p.length)) = "fault" by unfold evB; rw [if_neg (by decide +kernel), if_pos (.inr (decide_eq_true q))], evF_fault]
        by_cases l : p.length < sz
        · have eb : evB "fine" (decide (p.length < sz)) (decide (sz < p.length)) = "short" := by
            unfold evB
            rw [if_neg (by decide +kernel), if_neg (fun q => q.elim (by decide +kernel) fun q => g (of_decide_eq_true q)), if_pos (decide_eq_true l)]
          rw [eb] at h
          have := unev_evF sz r h
          subst this
          exact ⟨fun q hq => by rw [List.mem_singleton.mp hq]; omega, fun q hq => (nomatch hq)⟩
        · have eb : evB "fine" (decide (p.length < sz)) (decide (sz < p.length)) = "fine" := by
            unfold evB
            rw [if_neg (by decide +kernel), if_neg (fun q => q.elim (by decide +kernel) fun q => g (of_decide_eq_true q)), if_neg (by rw [decide_eq_false l]; decide)]
          rw [eb] at h
          obtain ⟨i1, i2⟩ := ih h
          refine ⟨fun q hq => ?_, fun q hq => ?_⟩
          · rcases List.mem_cons.mp hq with rfl | hq
            · omega
            · exact i1 q hq
          · cases r with
            | nil => cases hq
            | cons a r =>
              rw [List.dropLast_cons_of_ne_nil (by intro z; cases z)] at hq
              rcases List.mem_cons.mp hq with rfl | hq
              · exact l
              · exact i2 q hq
    obtain ⟨k1, k2⟩ := key ps h
    rcases unev_iff.mp u with ⟨p, hp, q⟩ | ⟨p, hp, q⟩
    · have := k1 p hp; omega
    · exact k2 p hp q
/-- nothing is shown behind a reply -/
theorem shown_no (z : 1 ≤ sz) (hn : Names name) (nf : ¬ HasF ro eo tell can name) {te : Bool} (ht : tell 0 0 = te) {left : Nat} {s : RS'} {rs : FJ.Rep} {r : Nat × Bool} (h : Nx ro eo tell can name sz left r.2 s) : shown sz ro eo te name (rs ++ [r]) left s = false := by
  unfold shown
  by_cases c1 : name = "whole"
  · rw [if_pos c1]
    cases st : s.st with
    | false => rfl
    | true =>
      have := h.w c1 st
      rw [this.1, decide_eq_false (by omega), decide_eq_false (fun q => q this.2)]
      rfl
  rw [if_neg c1]
  by_cases c2 : name = "filled"
  · rw [if_pos c2]; exact decide_eq_false (h.fi c2)
  rw [if_neg c2]
  by_cases c3 : name = "even"
  · rw [if_pos c3]; exact even_ok sz _ (h.ev c3)
  rw [if_neg c3]
  by_cases c4 : name = "quiet"
  · rw [if_pos c4, told_snoc]
    cases t : r.2 with
    | false => rfl
    | true => rw [h.qu c4 t]; rfl
  rw [if_neg c4]
  have c5 := hn.e c1 c2 c3 c4
  subst c5
  by_cases l0 : left = 0
  · subst l0
    rw [ev_ends z nf ht h.lv]
    simp
  · rw [decide_eq_false l0]; rfl
theorem shown_no0 (z : 1 ≤ sz) (hn : Names name) (nf : ¬ HasF ro eo tell can name) {te : Bool} (ht : tell 0 0 = te) (n : Nat) : shown sz ro eo te name [] n s0 = false := by
  unfold shown
  by_cases c1 : name = "whole"
  · rw [if_pos c1]; rfl
  rw [if_neg c1]
  by_cases c2 : name = "filled"
  · rw [if_pos c2]; rfl
  rw [if_neg c2]
  by_cases c3 : name = "even"
  · rw [if_pos c3]; rfl
  rw [if_neg c3]
  by_cases c4 : name = "quiet"
  · rw [if_pos c4]; rfl
  rw [if_neg c4]
  have c5 := hn.e c1 c2 c3 c4
  subst c5
  by_cases l0 : n = 0
  · subst l0
    rw [ev_ends z nf ht fun _ => lv0 hn 0]
    simp
  · rw [decide_eq_false l0]; rfl
end
end SS

/-! try with several clauses `except C as n`, all of one name -/
namespace TryAs
open PySem PySem.Spec PyProof.Rows L2
/-- a clause: its class, and what its suite does -/
structure Cl where
  c : Value
  ts : Addr → Value → Option Addr → TS
/-- behind a suite the name is gone -/
def bare (i : Nat) (D : Ends) : Ends := ⟨fun σ H => D.nx (σ.set i none) H, D.rt, fun σ H => D.bk (σ.set i none) H, fun σ H => D.ct (σ.set i none) H⟩
def wish (K : PySem.W.Frag) (i : Nat) (out : WX) (D : Ends) : List Cl → WX
  | [] => out
  | k :: ks => fun cls d σ H => ∃ yes, PySem.W.exmOne K cls k.c = some yes ∧ cond yes (∀ e, H e = none → k.ts e cls d (bare i D) (σ.set i (some (.ref e))) H) (wish K i out D ks cls d σ H)
inductive Cls (X : Cx) (n : Str) : List ExceptHandler → List Cl → Prop
  | stop : Cls X n [] []
  | more {x : Str} {k : Cl} {st : Stmt} {sts : List Stmt} {p1 p2 : Pos} {hds : List ExceptHandler} {ks : List Cl} : Names X x k.c →
      (∀ (e : Addr) (o : Obj) (cls : Value) (d : Option Addr) (pn : List (Addr × Obj)), Zc cls d o → (∃ vs, o.data = .fields vs) → PSs (X.suite e ((e, o) :: pn)) (st :: sts) (k.ts e cls d)) → Cls X n hds ks →
      Cls X n (.ExceptHandler (some (.Name x p1)) (some n) (st :: sts) p2 :: hds) (k :: ks)
section
variable {X : Cx} {n : Str} {i : Nat} {out : WX} {D : Ends} {pins : List (Addr × Obj)} {σ : L2.St} {H : Hp} {sI : Shared} {B : Heap} {e : Addr} {cls : Value} {d : Option Addr}
/-- an error that has come down in X, sI is the state without it -/
structure Down (X : Cx) (pins : List (Addr × Obj)) (σ : L2.St) (H : Hp) (sI : Shared) (B : Heap) (e : Addr) (cls : Value) (d : Option Addr) (h : Heap) : Prop where
  J : Inv X pins σ H sI
  nb : ∀ b o, sI.heap.get? b = some o → b ∉ frs X.stack → B.get? b = some o
  up : sI.heap.UpToSlots h
  fl : HandSPX.FlyingZ B (X.env :: X.outer) e (Zc cls d) h
  na : H e = none
theorem Down.here {h : Heap} {s : Shared} (Z : Down X pins σ H sI B e cls d h) (os : s.os = sI.os) (ag : AllBare s.gens) : Inv X pins σ H { s with heap := h } := Z.J.landed Z.nb Z.fl.1 Z.up os ag
theorem Down.outside {h : Heap} (Z : Down X pins σ H sI B e cls d h) (hf : X.env.frame = some X.env.locals) : e ≠ X.env.locals ∧ e ∉ X.fs := by
  have no : e ∉ frs (X.env :: X.outer) := fun m => by
    obtain ⟨o1, vs, g1, _, f1⟩ := Z.fl.there
    obtain ⟨_, o2, g2, f2⟩ := Z.fl.2.2.1.mem m
    exact f2 vs ((congrArg Obj.data (Option.some.inj (g2.symm.trans g1))).trans f1)
  refine ⟨fun q => no ?_, fun q => no ?_⟩
  · exact q ▸ List.mem_filterMap.mpr ⟨X.env, List.mem_cons_self, hf⟩
  · obtain ⟨v, h1, h2⟩ := List.mem_filterMap.mp q
    exact List.mem_filterMap.mpr ⟨v, List.mem_cons_of_mem _ h1, h2⟩
/-- no clause has taken it: it goes on -/
theorem Down.on {h : Heap} {s : Shared} (Z : Down X pins σ H sI B e cls d h) (hs : X.stack = X.env :: X.outer) (hf : X.env.frame = some X.env.locals) (tk : Takes X out) (os : s.os = sI.os) (ag : AllBare s.gens) (w : out cls d σ H) :
    wpAny (model X.prog X.w) X.A (handleBy (.ref e) X.env []) (SP X pins D) X.xe { s with heap := h } := by
  refine wpAny_handleBy_nil ?_
  have last : wpAny (model X.prog X.w) X.A (setFlight (.ref e) X.env.frame) (fun _ t => wpAny (model X.prog X.w) X.A (throw (.ref e) : Sem Flow) (SP X pins D) X.xe t) X.xe { s with heap := h } := by
    rw [hf]
    exact HandSPX.setFlight_upZ Z.fl fun g held u => wpAny_throw (tk _ _ ⟨e, B, sI, pins, σ, H, cls, d, rfl, Z.J, Z.nb, Z.up.trans u, .inr (.inr (hs ▸ held)), Z.na, os, ag, w⟩)
  obtain ⟨_, _, _, o, vs, T, _, _, g1, _, g2, g3, _⟩ := id Z.fl
  unfold PySem.passOn
  refine wpAny_bind (wpAny_field g1 g2 g3 ?_)
  have ne : ¬ ((Value.ref T == Value.none) = true) := by simp
  rw [if_neg ne]
  first
    | exact wpAny_bind (wpAny_pure (wpAny_bind last))
    | exact wpAny_bind last
theorem Cls.run (hs : X.stack = X.env :: X.outer) (hf : X.env.frame = some X.env.locals) (nd : X.N.Nodup) (hi : X.N[i]? = some n) (ln : X.env.kindOf n = some .local) (tk : Takes X out) {h : Heap} {s : Shared} (Z : Down X pins σ H sI B e cls d h) (os : s.os = sI.os) (ag : AllBare s.gens) :
    ∀ {hds : List ExceptHandler} {ks : List Cl}, Cls X n hds ks → wish X.K i out D ks cls d σ H → wpAny (model X.prog X.w) X.A (handleBy (.ref e) X.env hds) (SP X pins D) X.xe { s with heap := h }
  | _, _, .stop, w => Z.on hs hf tk os ag w
  | _, _, .more (x := x) (k := k) (p1 := p1) (p2 := p2) nm ru re, w => by
    obtain ⟨yes, ex, w⟩ := w
    have I3 := Z.here os ag
    obtain ⟨n1, n2⟩ := Z.outside hf
    obtain ⟨o3, v3, g3, z3, f3⟩ := Z.fl.there
    have S3 := I3.suite g3 f3 Z.na n1 n2
    have ty : PySem.W.Looks (model X.prog X.w) h (typeOf (.ref e)) cls := fun _ _ _ _ kk q => wpAny_typeOf_ref (kk _ _ g3) (z3.1.symm ▸ q)
    have mt := PySem.W.exm_one (M := model X.prog X.w) I3.kIn ty ex
    have look : ∀ {Q E : Value → Shared → Prop}, Q k.c { s with heap := h } → wpAny (model X.prog X.w) (X.A.mark (some (.ref e))) (eval (.Name x p1) X.env) Q E { s with heap := h } := fun {Q E} q => by
      obtain ⟨gl, db, m1 | ⟨m1, m2, m3⟩⟩ := nm
      · exact ld_glob (X := X.suite e ((e, o3) :: (X.pn ++ pins))) S3 gl m1 q db
      · exact ld_blt (X := X.suite e ((e, o3) :: (X.pn ++ pins))) S3 gl m1 m2 q m3 db
    refine wpAny_handleBy_cons (codeAny_handlers_test (look (mt.here ?_))) fun q => nomatch q
    cases yes with
    | false => exact Cls.run hs hf nd hi ln tk Z os ag re w
    | true =>
      refine codeAny_handlers_suite_as (HandSPX.lands_againZ Z.fl fun g fl u => ?_)
      have Z4 : Down X pins σ H sI B e cls d g := ⟨Z.J, Z.nb, Z.up.trans u, fl, Z.na⟩
      have I4 := Z4.here os ag
      obtain ⟨o4, v4, g4, z4, f4⟩ := fl.there
      refine store_ok (X := X.suite e ((e, o4) :: (X.pn ++ pins))) (v := .ref e) (I4.suite g4 f4 Z.na n1 n2) nd hi (.inl ln) rfl (fun s5 S5 => ?_) (.inr ln)
      have run5 := (ru e o4 cls d (X.pn ++ pins) z4 ⟨v4, f4⟩).run [] s5 _ H (bare i D) S5 (w e Z.na)
      refine wpAny_mono run5 (fun fw s6 r6 => ?_) fun _ _ z => z.elim
      have gone : ∀ {σ6 : L2.St} {H6 : Hp} {q : Addr × Obj} {Q : Shared → Prop}, Inv (X.suite e (q :: (X.pn ++ pins))) [] σ6 H6 s6 → (∀ s7, Inv X pins (σ6.set i none) H6 s7 → Q s7) → wpAny (model X.prog X.w) X.A (do bindName X.env n .none; unbindBehindTheSuite X.env n p2) (fun _ s7 => Q s7) X.xe s6 :=
        fun S6 k => gone_ok (S6.unsuite Z.J.ok) nd hi ln k
      match fw, r6 with
      | .next, ⟨σ6, H6, S6, k6⟩ => exact gone S6 fun s7 I7 => ⟨_, _, I7, k6⟩
      | .brk, ⟨σ6, H6, S6, k6⟩ => exact gone S6 fun s7 I7 => ⟨_, _, I7, k6⟩
      | .cont, ⟨σ6, H6, S6, k6⟩ => exact gone S6 fun s7 I7 => ⟨_, _, I7, k6⟩
      | .ret v, ⟨v6, σ6, H6, S6, rv, k6⟩ => exact gone S6 fun s7 I7 => ⟨_, _, _, I7, rv, k6⟩
variable {body : List Stmt} {hd : ExceptHandler} {hds : List ExceptHandler} {ks : List Cl} {pos : Pos} {tb : WX → TS}
/-- the rule -/
theorem ps_try_asN (hs : X.stack = X.env :: X.outer) (hf : X.env.frame = some X.env.locals) (nd : X.N.Nodup) (hi : X.N[i]? = some n) (ln : X.env.kindOf n = some .local) (tk : Takes X out)
    (hb : ∀ (W : WX) (pn : List (Addr × Obj)) (xe : Value → Shared → Prop), Takes (X.tr pn xe) W → PassesOwn (model X.prog X.w) X.A X.env xe → PSs (X.tr pn xe) body (tb W)) (hh : Cls X n (hd :: hds) ks) :
    PS X (.Try body (hd :: hds) [] [] pos) fun D σ H => tb (wish X.K i out D ks) D σ H := by
  refine ⟨fun pins s σ H D I h => wpAny_Try_except ?_⟩
  have fr : X.A.frames = some (X.env :: X.outer) := I.ok.frames.trans (congrArg some hs)
  refine wpAny_mono ((hb _ (X.pn ++ pins) _ ?_ PassesOwn.looking).run [] s σ H D (I.toTry _) h) (fun fw t r => ?_) fun _ _ z => z
  · rintro _ t ⟨e, B, sI, _, σ1, H1, cls, d, rfl, J, nb, up, sky, na, os, ag, w⟩
    refine Sky.land Zc.steady fr hf (hs ▸ sky) fun g fl u => ?_
    exact Cls.run hs hf nd hi ln tk ⟨J.ofTry I.ok, nb, up.trans u, fl, na⟩ os ag hh w
  · match fw, r with
    | .next, ⟨_, _, J, q⟩ => exact wpAny_execs_nil ⟨_, _, J.ofTry I.ok, q⟩
    | .brk, ⟨_, _, J, q⟩ => exact ⟨_, _, J.ofTry I.ok, q⟩
    | .cont, ⟨_, _, J, q⟩ => exact ⟨_, _, J.ofTry I.ok, q⟩
    | .ret v, ⟨_, _, _, J, rv, q⟩ => exact ⟨_, _, _, J.ofTry I.ok, rv, q⟩
end
end TryAs

namespace IsX
open PySem L2
/-! ### isinstance of a caught error that bears a field -/
structure XiC (K : PySem.W.Frag) (D : Addr) : Prop where
  xf : XfC K D
  ic : (PySem.W.clsIn K D).isSome = true
  c1 : PySem.W.findIn K (.ref D) "__class__" = some (some (.builtin "object.__class__"))
  c2 : PySem.W.specialIn K (.builtin "object.__class__") "__get__" = some (some (.builtin "getset_descriptor.__get__"))
  c3 : PySem.W.takesIn K (.builtin "object.__class__") = some true
  c4 : PySem.W.mroIn K D (.type "object") = some true
def rIsX (K : PySem.W.Frag) (D a : Addr) (cls : Value) (d : Option Addr) : List V → Hp → VK → Prop := fun xs H Q => ∃ (c : V) (cv : Value) (b : Bool) (dd : Addr) (fs : List (Str × V)), xs = [.ref a, c] ∧ (∀ u, RelV c u → u = cv) ∧ cls = .ref D ∧ d = some dd ∧ H dd = some (.xd fs) ∧ PySem.W.kitOne K (.ref D) cv = some b ∧ Q (.bl b) H
theorem call_isX {X : Cx} {a D : Addr} {oe : Obj} {cls : Value} {d : Option Addr} {pn : List (Addr × Obj)} (C : XiC X.K D) (hz : Zc cls d oe) (hf : ∃ vs, oe.data = .fields vs) : CallR (X.suite a ((a, oe) :: pn)) (.builtin "isinstance") (rIsX X.K D a cls d) := by
  intro pins s σ H xs us Q I r h
  obtain ⟨c, cv, b, dd, fs, rfl, hcv, rfl, rfl, hdd, e, q⟩ := h
  cases r with
  | cons rx rr =>
    cases rr with
    | cons rt rr =>
      cases rr
      cases rx
      cases hcv _ rt
      obtain ⟨hget, _⟩ := I.pin (a, oe) (List.mem_append.mpr (.inl List.mem_cons_self))
      obtain ⟨vs, hv⟩ := hf
      have hx : ObjOk X.prog X.w H s.heap dd (.xd fs) := I.hok dd _ hdd
      obtain ⟨mA, hns, _⟩ := hx
      obtain ⟨od, ho, _⟩ := lookIn_ns hns
      have J : PySem.W.InstAt s.heap a oe D (some od) := ⟨hget, hz.1, by unfold PySem.W.notCls; rw [hv] <;> rfl, by rw [hz.2]; exact ho⟩
      exact PySem.W.kia_one (PySem.W.kitx_exc (gt := none) C.ic C.xf.ga C.xf.gg C.xf.exC C.c1 C.c2 C.c3 C.c4) I.kIn J e (fun z => nomatch z) fun tk => ⟨.bl b, H, I.kept (t' := tk) fun _ _ z => z, rfl, q⟩
/-- the slots are as many as the names -/
theorem takes_len {X : Cx} {W : WX} (tk : Takes X W) : Takes X (fun cls d σ H => σ.length = X.N.length → W cls d σ H) := fun u s2 ⟨a, B, sI, pins, σ, H, cls, d, e, I, nb, up, sky, na, os, ag, h⟩ =>
  tk u s2 ⟨a, B, sI, pins, σ, H, cls, d, e, I, nb, up, sky, na, os, ag, h I.len⟩
theorem len3 {σ : St} (h : σ.length = 3) : ∃ a b c, σ = [a, b, c] := by
  match σ, h with
  | [a, b, c], _ => exact ⟨a, b, c, rfl⟩
end IsX

/-! what a law's _law_came asks of the classes that it catches -/
namespace CmH
open PySem L2 IsX
theorem ss_imp {X : Cx} {ss : List Stmt} {t t' : L2.TS} (h : PSs X ss t) (f : ∀ D σ H, t' D σ H → t D σ H) : PSs X ss t' := ⟨fun pins s σ H D I q => h.run pins s σ H D I (f _ _ _ q)⟩
/-- an error with a field; CB its own base, bt Python's -/
structure HF (K : PySem.W.Frag) (fld : Str) (bt : String) (C CB : Addr) : Prop where
  x : XiC K C
  n : PySem.W.findIn K (.ref C) fld = some none
  k1 : PySem.W.kitOne K (.ref C) (.ref CB) = some true
  k2 : PySem.W.kitOne K (.ref C) (.type bt) = some true
/-- an error without fields -/
structure HN (K : PySem.W.Frag) (bt : String) (C CB : Addr) : Prop where
  x : ExcC K C
  k1 : PySem.W.kitOne K (.ref C) (.ref CB) = some true
  k2 : PySem.W.kitOne K (.ref C) (.type bt) = some true
def tRowF (D : Addr) (nm fld : Str) (a : Addr) (cls : Value) (d : Option Addr) : L2.TS := fun Z σ H => cls = .ref D ∧ ∃ (dd : Addr) (v : V), d = some dd ∧ H dd = some (.xd [(fld, v)]) ∧ σ[2]? = some (some (.ref a)) ∧ ∀ p, H p = none → Z.rt (.ref p) (upd H p (.lst [.str nm, v, .bl true]))
def tRowN (D : Addr) (nm : Str) (a : Addr) (cls : Value) (d : Option Addr) : L2.TS := fun Z σ H => cls = .ref D ∧ d = none ∧ σ[2]? = some (some (.ref a)) ∧ ∀ p, H p = none → Z.rt (.ref p) (upd H p (.lst [.str nm, .bl true]))
def tGiv : L2.TS := fun D σ H => ∃ u : V, σ[1]? = some (some u) ∧ ∀ p, H p = none → D.rt (.ref p) (upd H p (.lst [.str "given", u]))
end CmH

/-! what a source can give; the search's source -/
namespace My
open PySem L2 Cm LM EM
theorem sIx_m1 (n d : Nat) : HT.sIx n d (some (-1)) = n - 1 := by
  show (if (-1 : Int) < 0 then ((-1 : Int) + (n : Int)).toNat else min (-1 : Int).toNat n) = _
  rw [if_pos (by omega)]
  omega
theorem cut_m1 (xs : List V) : cutV xs none (some (-1)) = xs.dropLast := by
  unfold cutV
  rw [HT.sIx_none, sIx_m1, List.dropLast_eq_take]
  rfl
theorem take_get {α : Type} {l : List α} {i : Nat} {x : α} (h : l[i]? = some x) : l.take (i + 1) = l.take i ++ [x] := by rw [List.take_add_one, h]; rfl
theorem filt_snoc {α : Type} (f : α → Bool) (l : List α) (x : α) : (l ++ [x]).filter f = l.filter f ++ (if f x = true then [x] else []) := by
  rw [List.filter_append]
  congr 1
  by_cases h : f x = true
  · rw [if_pos h, List.filter_cons_of_pos h]; rfl
  · rw [if_neg h, List.filter_cons_of_neg h]; rfl
theorem it_rg (n : Nat) : rgV 0 ((n : Nat) : Int) = ivs (CoM.itF 0 n) := by
  unfold rgV CoM.itF ivs
  rw [show (((n : Nat) : Int) - 0).toNat = n by omega, List.map_map]
  refine List.map_congr_left fun i _ => ?_
  simp
/-! ### what a source can give -/
def optM (A B E : Str) (left sz : Nat) : FJ.Rep := if left = 0 then [(0, decide (E ≠ "empty"))]
  else (if B = "waiting" then [(0, false)] else []) ++ ((List.range (min left sz)).filter fun i => decide (A = "short" ∨ i + 1 = min left sz)).map fun i => (i + 1, decide (E = "with") && decide (i + 1 = left))
theorem opt_zero (A B E : Str) (sz : Nat) : optM A B E 0 sz = [(0, decide (E ≠ "empty"))] := by unfold optM; rw [if_pos rfl]
theorem opt_mem {A B E : Str} (hA : isAm A) (hE : isEn E) {left sz : Nat} {r : Nat × Bool} : r ∈ optM A B E left sz ↔ canU A B (left : Int) (sz : Int) (r.1 : Int) = true ∧ r.2 = mustU E (left : Int) ((left : Int) - (r.1 : Int)) := by
  obtain ⟨c, t⟩ := r
  have hexc : ¬ ("short" : Str) = "exact" := by decide +kernel
  have hsh : ¬ ("exact" : Str) = "short" := by decide +kernel
  unfold optM
  by_cases l0 : left = 0
  · subst l0
    rw [if_pos rfl, List.mem_singleton, Prod.mk.injEq]
    have hc : canU A B ((0 : Nat) : Int) (sz : Int) (c : Int) = true ↔ c = 0 := by
      unfold canU
      by_cases h : (c : Int) = 0
      · rw [if_pos h, if_pos (show ((0 : Nat) : Int) = 0 from rfl)]
        exact ⟨fun _ => by omega, fun _ => rfl⟩
      · rw [if_neg h]
        rcases hA with rfl | rfl
        · rw [if_pos rfl]
          exact ⟨fun q => by have := of_decide_eq_true q; split at this <;> omega, fun q => by omega⟩
        · rw [if_neg hexc]
          exact ⟨fun q => by have := of_decide_eq_true q; split at this <;> omega, fun q => by omega⟩
    have hm : c = 0 → mustU E ((0 : Nat) : Int) (((0 : Nat) : Int) - (c : Int)) = decide (E ≠ "empty") := by
      rintro rfl
      rcases hE with rfl | rfl | rfl <;> decide +kernel
    exact ⟨fun ⟨a, b⟩ => ⟨hc.mpr a, b.trans (hm a).symm⟩, fun ⟨a, b⟩ => ⟨hc.mp a, b.trans (hm (hc.mp a))⟩⟩
  · rw [if_neg l0, List.mem_append]
    have hcan : canU A B (left : Int) (sz : Int) (c : Int) = true ↔ (c = 0 ∧ B = "waiting") ∨ (c ≠ 0 ∧ c ≤ min left sz ∧ (A = "short" ∨ c = min left sz)) := by
      unfold canU
      have em : (if (left : Int) < (sz : Int) then (left : Int) else (sz : Int)) = ((min left sz : Nat) : Int) := by split <;> omega
      rw [em]
      by_cases h : (c : Int) = 0
      · rw [if_pos h, if_neg (by omega)]
        exact ⟨fun q => .inl ⟨by omega, of_decide_eq_true q⟩, fun q => q.elim (fun q => decide_eq_true q.2) fun q => absurd (show c = 0 by omega) q.1⟩
      · rw [if_neg h]
        rcases hA with rfl | rfl
        · rw [if_pos rfl]
          exact ⟨fun q => .inr ⟨by omega, by have := of_decide_eq_true q; omega, .inr (by have := of_decide_eq_true q; omega)⟩, fun q => q.elim (fun q => absurd (show (c : Int) = 0 by omega) h) fun q => q.2.2.elim (fun z => absurd z hsh) fun z => decide_eq_true (by omega)⟩
        · rw [if_neg hexc]
          exact ⟨fun q => .inr ⟨by omega, by have := of_decide_eq_true q; omega, .inl rfl⟩, fun q => q.elim (fun q => absurd (show (c : Int) = 0 by omega) h) fun q => decide_eq_true (by omega)⟩
    have hmust : mustU E (left : Int) ((left : Int) - (c : Int)) = (decide (E = "with") && decide (c = left)) := by
      unfold mustU
      rcases hE with rfl | rfl | rfl
      · rw [if_pos rfl, decide_eq_false (show ¬ ("empty" : Str) = "with" by decide +kernel), Bool.false_and]
      · rw [if_neg (show ¬ ("with" : Str) = "empty" by decide +kernel), if_neg (show ¬ ("with" : Str) = "behind" by decide +kernel), decide_eq_true rfl, Bool.true_and]
        exact decide_eq_decide.mpr (by omega)
      · rw [if_neg (show ¬ ("behind" : Str) = "empty" by decide +kernel), if_pos rfl, decide_eq_false (show ¬ ("behind" : Str) = "with" by decide +kernel), Bool.false_and]
        exact decide_eq_false (by omega)
    rw [hcan, hmust]
    constructor
    · rintro (h | h)
      · by_cases hB : B = "waiting"
        · rw [if_pos hB] at h
          cases List.mem_singleton.mp h
          exact ⟨.inl ⟨rfl, hB⟩, by rw [decide_eq_false (show ¬ 0 = left by omega), Bool.and_false]⟩
        · rw [if_neg hB] at h
          cases h
      · obtain ⟨i, hi, e⟩ := List.mem_map.mp h
        obtain ⟨hi1, hi2⟩ := List.mem_filter.mp hi
        have hi1 := List.mem_range.mp hi1
        have hi2 := of_decide_eq_true hi2
        cases e
        exact ⟨.inr ⟨by omega, by omega, hi2⟩, rfl⟩
    · rintro ⟨(⟨rfl, hB⟩ | ⟨h1, h2, h3⟩), ht⟩
      · replace ht : t = (decide (E = "with") && decide (0 = left)) := ht
        rw [decide_eq_false (show ¬ 0 = left by omega), Bool.and_false] at ht
        rw [if_pos hB, ht]
        exact .inl (List.mem_singleton.mpr rfl)
      · refine .inr (List.mem_map.mpr ⟨c - 1, List.mem_filter.mpr ⟨List.mem_range.mpr (by omega), decide_eq_true ?_⟩, ?_⟩)
        · exact h3.imp id fun z => by omega
        · replace ht : t = (decide (E = "with") && decide (c = left)) := ht
          rw [show c - 1 + 1 = c by omega, ht]
theorem can_le {A B : Str} (hA : isAm A) {left sz c : Nat} (h : canU A B (left : Int) (sz : Int) (c : Int) = true) : c ≤ left ∧ c ≤ sz := by
  unfold canU at h
  by_cases h0 : (c : Int) = 0
  · omega
  · rw [if_neg h0] at h
    rcases hA with rfl | rfl
    · rw [if_pos rfl] at h
      have := of_decide_eq_true h
      split at this <;> omega
    · rw [if_neg (by decide +kernel)] at h
      have := of_decide_eq_true h
      split at this <;> omega
/-! ### the search's source -/
def tellU (E : Str) : SR.Tell := fun b a => mustU E b a
theorem bit_int (n : Nat) : ((SS.bit n : Nat) : Int) = 0 ↔ (n : Int) = 0 := by unfold SS.bit; split <;> omega
theorem opt_ok {A B E : Str} (hA : isAm A) (hB : isPa B) (hE : isEn E) (sz : Nat) (z : 1 ≤ sz) : SS.OptOk (fun l => optM A B E l sz) (mustU E) (fun c => canU A B 5 4 (c : Int)) sz := by
  intro left r hr
  have hr : r ∈ optM A B E left sz := hr
  obtain ⟨h1, h2⟩ := (opt_mem hA hE).mp hr
  obtain ⟨l1, l2⟩ := can_le hA h1
  refine ⟨l2, l1, ?_, fun c hc => ?_⟩
  · rw [h2]
    unfold mustU
    have e1 := bit_int left
    have e2 := bit_int (left - r.1)
    have e3 : ((left - r.1 : Nat) : Int) = (left : Int) - (r.1 : Int) := by omega
    rw [e3] at e2
    by_cases a : E = "empty"
    · rw [if_pos a, if_pos a]
    rw [if_neg a, if_neg a]
    by_cases b : E = "behind"
    · rw [if_pos b, if_pos b]; exact decide_eq_decide.mpr e1
    · rw [if_neg b, if_neg b]; exact decide_eq_decide.mpr e2
  · unfold SR.movesM
    by_cases l0 : left = 0
    · subst l0
      have r0 : r.1 = 0 := by omega
      rw [r0] at hc ⊢
      have : c = 0 := List.mem_singleton.mp (show c ∈ [0] from hc)
      rw [this]
      rw [if_pos (show SS.bit 0 = 0 from rfl)]
      exact List.mem_singleton.mpr rfl
    · rw [if_neg (show ¬ SS.bit left = 0 by unfold SS.bit; rw [if_neg l0]; decide)]
      have g := SS.cands_kd _ _ hc
      by_cases a0 : left - r.1 = 0
      · rw [show SS.bit (left - r.1) = 0 by unfold SS.bit; rw [if_pos a0]]
        have r0 : r.1 ≠ 0 := by omega
        have c0 : c ≠ 0 := fun q => r0 ((SS.cand0 z hc).mpr q)
        refine List.mem_append_left _ ?_
        have := g.2
        have : c = 1 ∨ c = 2 ∨ c = 3 ∨ c = 4 := by omega
        rcases this with rfl | rfl | rfl | rfl <;> simp
      · rw [show SS.bit (left - r.1) = 1 by unfold SS.bit; rw [if_neg a0]]
        refine List.mem_append_right _ (List.mem_map.mpr ⟨c, List.mem_filter.mpr ⟨List.mem_range.mpr (by have := g.2; omega), ?_⟩, rfl⟩)
        unfold canU at h1 ⊢
        by_cases r0 : r.1 = 0
        · have c0 : c = 0 := (SS.cand0 z hc).mp r0
          rw [if_pos (by omega), if_neg (by omega)] at h1
          rw [if_pos (by omega), if_neg (by decide)]
          exact h1
        · have c0 : c ≠ 0 := fun q => r0 ((SS.cand0 z hc).mpr q)
          rw [if_neg (by omega)] at h1
          rw [if_neg (by omega)]
          rcases hA with rfl | rfl
          · rw [if_pos rfl] at h1 ⊢
            have h1 := of_decide_eq_true h1
            have e4 : r.1 = sz := by split at h1 <;> omega
            have kf : CoM.kd sz r.1 = .full := (SS.kd_full z l2).mpr e4
            rw [kf] at hc
            have : c = 4 := List.mem_singleton.mp (show c ∈ [4] from hc)
            rw [this]
            decide
          · rw [if_neg (by decide +kernel)] 
            have := g.2
            refine decide_eq_true ?_
            rw [if_neg (by decide)]
            omega
theorem tell_no (E : Str) (hE : isEn E) : mustU E 0 0 = decide (E ≠ "empty") := by rcases hE with rfl | rfl | rfl <;> decide +kernel
end My

/-! the law's own looking at faults: kinds, what a source can give, going on for ever, what is shown -/
namespace My
open PySem L2 Cm LM EM
abbrev sKind : Stmt := top 124
abbrev sOpt : Stmt := top 130
abbrev sFev : Stmt := top 131
abbrev sFlat : Stmt := top 132
abbrev sShw : Stmt := top 133
abbrev PO3 : List Str := ["_law_kind_here", "_law_left", "_law_wide"]
abbrev PV4 : List Str := ["_law_made", "_law_kind_here", "_law_box_here", "_law_wide"]
abbrev PS7 : List Str := ["_law_made", "_law_kind_here", "_law_tale", "_law_prop", "_law_left", "_law_box_here", "_law_wide"]
structure TxLw (K : PySem.W.Frag) (mg : Str → Option Value) where
  B : TxB K mg
  D : TxD K mg
  min : mg "min" = none
  any : mg "any" = none
  knd : Df K mg "_law_kind" sKind ["_law_jar_here"]
  opt : Df K mg "_law_options" sOpt PO3
  fev : Df K mg "_law_for_ever" sFev PV4
  flt : Df K mg "_law_flat" sFlat ["_law_out"]
  shw : Df K mg "_law_shown" sShw PS7
section
variable {P : Program} {w : World} {K : PySem.W.Frag} {mg : Str → Option Value} {base : Heap}
/-! ### _law_kind -/
def spKind : Sp := fun vs H Q _ => ∃ j : Addr, vs = [.ref j] ∧ Jar H j ∧ ∀ (H' : Hp) (q : Addr) (A B E : Str), Off j H H' → Jar H' j → q ≠ j → isAm A → isPa B → isEn E → H' q = some (.lst [.str A, .str B, .str E]) → Q (.ref q) H'
theorem scKind : FnScope ["_law_jar_here", "_law_ends_here", "_law_first_here"] ["_law_jar_here"] (defScope sKind) := ⟨rfl, rfl, rfl, by decide +kernel, rfl, by decide +kernel, by decide +kernel⟩
theorem ok_kind (R : TxLw K mg) : FnOk P w K mg base CX0 3 R.knd.f R.knd.fd ["_law_jar_here"] spKind := by
  have GF : FnOk P w K mg base CX0 2 R.D.frm.f R.D.frm.fd ["_law_jar_here", "_law_things"] (spFrom K) := gk_from R.D
  refine R.knd.F.ok scKind (fun vs H Q E h => ?_) (fun cdv A outer s H vs Q E hr h => ?_)
  · obtain ⟨j, rfl, _⟩ := h
    rfl
  · obtain ⟨j, rfl, hJ, k⟩ := h
    have hr2 : Room 2 _ := hr.mono (by decide)
    refine ⟨_, (pss_cons (ps_set (i := 1) scKind.nd rfl (.inl rfl) (pe_lst (pa_cons pe_str (pa_cons pe_str (pa_cons pe_str pa_nil))))) (pss_cons (ps_set (i := 2) scKind.nd rfl (.inl rfl) (pe_call GF hr2 rfl R.D.frm.g R.D.frm.k R.D.frm.b .nil pass0 (pa_cons (pv 0) (pa_cons (pe_lst (pa_cons pe_str (pa_cons pe_str pa_nil))) pa_nil)))) (pss_one (ps_ret (pe_lst (pa_cons (pv 2) (pa_cons (pe_call GF hr2 rfl R.D.frm.g R.D.frm.k R.D.frm.b .nil pass0 (pa_cons (pv 0) (pa_cons (pe_lst (pa_cons pe_str (pa_cons pe_str (pa_cons pe_str pa_nil)))) pa_nil))) (pa_cons (pe_call GF hr2 rfl R.D.frm.g R.D.frm.k R.D.frm.b .nil pass0 (pa_cons (pv 0) (pa_cons (pv 1) pa_nil))) pa_nil)))))))), ?_⟩
    refine ⟨(by show 3 ≤ sizeLine; decide), fun e ne => ?_⟩
    refine ⟨_, rfl, (by show 2 ≤ sizeLine; decide), fun l nl => ?_⟩
    have J1 := hJ.new (o := .lst [.str "empty", .str "with", .str "behind"]) ne
    have ej := jar_ne hJ ne
    refine ⟨j, l, _, rfl, J1.new nl, jar_ne J1 nl, SqL.of upd_same, (by show 0 < 2; decide), (by show 2 < 1073741824; decide), fun H2 i y hy o2 J2 => ?_⟩
    have he2 := o2 _ _ ej (same_new nl _ _ upd_same)
    have o02 : Off j H H2 := (((Off.new Off.refl ne).new nl)).trans o2
    refine ⟨_, rfl, _, rfl, (by show 3 ≤ sizeLine; decide), fun l3 nl3 => ?_⟩
    refine ⟨j, l3, _, rfl, J2.new nl3, jar_ne J2 nl3, SqL.of upd_same, (by show 0 < 3; decide), (by show 3 < 1073741824; decide), fun H4 i2 y2 hy2 o4 J4 => ?_⟩
    have he4 := o4 _ _ ej (same_new nl3 _ _ he2)
    have o04 : Off j H H4 := (o02.new nl3).trans o4
    refine ⟨_, rfl, _, rfl, j, e, _, rfl, J4, ej, SqL.of he4, (by show 0 < 3; decide), (by show 3 < 1073741824; decide), fun H5 i3 y3 hy3 o5 J5 => ?_⟩
    refine ⟨(by show 3 ≤ sizeLine; decide), fun q nq => ?_⟩
    obtain ⟨A1, rfl, hA⟩ : ∃ A, y = .str A ∧ isAm A := by
      match i, hy with
      | 0, hy => exact ⟨_, (Option.some.inj hy).symm, .inl rfl⟩
      | 1, hy => exact ⟨_, (Option.some.inj hy).symm, .inr rfl⟩
    obtain ⟨A2, rfl, hB⟩ : ∃ A, y2 = .str A ∧ isPa A := by
      match i2, hy2 with
      | 0, hy => exact ⟨_, (Option.some.inj hy).symm, .inl rfl⟩
      | 1, hy => exact ⟨_, (Option.some.inj hy).symm, .inl rfl⟩
      | 2, hy => exact ⟨_, (Option.some.inj hy).symm, .inr rfl⟩
    obtain ⟨A3, rfl, hE⟩ : ∃ A, y3 = .str A ∧ isEn A := by
      match i3, hy3 with
      | 0, hy => exact ⟨_, (Option.some.inj hy).symm, .inl rfl⟩
      | 1, hy => exact ⟨_, (Option.some.inj hy).symm, .inr (.inl rfl)⟩
      | 2, hy => exact ⟨_, (Option.some.inj hy).symm, .inr (.inr rfl)⟩
    exact k _ q A1 A2 A3 ((o04.trans o5).new nq) (J5.new nq) (jar_ne J5 nq) hA hB hE upd_same
/-! ### _law_options -/
theorem Rps.app {H : Hp} : ∀ {vs rs ws ss}, Rps H vs rs → Rps H ws ss → Rps H (vs ++ ws) (rs ++ ss)
  | _, _, _, _, .nil, h => h
  | _, _, _, _, .cons a t, h => .cons a (t.app h)
def optB (B : Str) : FJ.Rep := if B = "waiting" then [(0, false)] else []
def optN (A E : Str) (left most i : Nat) : FJ.Rep := ((List.range i).filter fun i => decide (A = "short" ∨ i + 1 = most)).map fun i => (i + 1, decide (E = "with") && decide (i + 1 = left))
theorem optN_succ (A E : Str) (left most i : Nat) : optN A E left most (i + 1) = optN A E left most i ++ (if A = "short" ∨ i + 1 = most then [(i + 1, decide (E = "with") && decide (i + 1 = left))] else []) := by
  unfold optN
  rw [List.range_succ, filt_snoc, List.map_append]
  congr 1
  by_cases h : A = "short" ∨ i + 1 = most
  · rw [if_pos (decide_eq_true h), if_pos h]; rfl
  · rw [if_neg (by rw [decide_eq_false h]; decide), if_neg h]; rfl
theorem optN_len (A E : Str) (left most i : Nat) : (optN A E left most i).length ≤ i := by
  unfold optN
  rw [List.length_map]
  exact Nat.le_trans (List.length_filter_le ..) (by rw [List.length_range]; exact Nat.le_refl _)
def spOp : Sp := fun vs H Q _ => ∃ (q : Addr) (A B E : Str) (left sz : Nat), vs = [.ref q, .int (left : Nat), .int (sz : Nat)] ∧ H q = some (.lst [.str A, .str B, .str E]) ∧ left ≤ 1000 ∧ sz ≤ 1000 ∧
  ∀ (H' : Hp) (p : Addr) (xs : List V), Same H H' → H p = none → H' p = some (.lst xs) → Rps H' xs (optM A B E left sz) → Q (.ref p) H'
abbrev NOp : List Str := ["_law_kind_here", "_law_left", "_law_wide", "_law_most", "_law_found", "_law_many"]
theorem scOp : FnScope NOp PO3 (defScope sOpt) := ⟨rfl, rfl, rfl, by decide +kernel, rfl, by decide +kernel, by decide +kernel⟩
def OpI (q l : Addr) (A B E : Str) (left sz most : Nat) (H : Hp) (i : Nat) : L2.St → Hp → Prop := fun σ H' => ∃ (v5 : Option V) (xs : List V), σ = [some (.ref q), some (.int (left : Nat)), some (.int (sz : Nat)), some (.int (most : Nat)), some (.ref l), v5] ∧ Same H H' ∧ H' l = some (.lst xs) ∧ Rps H' xs (optB B ++ optN A E left most i)
theorem ok_op (R : TxLw K mg) : FnOk P w K mg base CX0 1 R.opt.f R.opt.fd PO3 spOp := by
  refine R.opt.F.ok scOp (fun vs H Q E h => ?_) (fun cdv A outer s H vs Q E hr h => ?_)
  · obtain ⟨q, _, _, _, _, _, rfl, _⟩ := h
    rfl
  · obtain ⟨q, A1, B1, E1, left, sz, rfl, hq, hl, hs, k⟩ := h
    refine ⟨_, (pss_cons (ps_if (pt_cmpR op_eq (pv 1) pe_int (nomark _)) (pss_one (ps_ret (pe_lst (pa_cons (pe_tup (pa_cons pe_int (pa_cons (pe_cmpR op_ne (pe_ix ix_list (pv 0) pe_int (fun _ _ => rfl)) pe_str (nomark _)) pa_nil))) pa_nil)))) pss_nil) (pss_cons (ps_set (i := 3) scOp.nd rfl (.inl rfl) (pe_callB (call_min2 rfl) (by rfl) R.min (by decide +kernel) (pa_cons (pv 1) (pa_cons (pv 2) pa_nil)))) (C8.pss_cut (ps_set (i := 4) scOp.nd rfl (.inl rfl) (pe_ifExp (pt_cmpR op_eq (pe_ix ix_list (pv 0) pe_int (fun _ _ => rfl)) pe_str (nomark _)) (pe_lst (pa_cons (pe_tup (pa_cons pe_int (pa_cons pe_bl pa_nil))) pa_nil)) (pe_lst pa_nil))) (pss_cons (ps_for PassesOwn.never rfl (pi_range2 rfl R.D.range (pa_cons pe_int (pa_cons (pe_op op_add (pv 3) pe_int) pa_nil))) (pg_name (i := 5) scOp.nd rfl (.inl rfl)) (pss_one (ps_if (PW.pt (pw_or (pt_cmpR op_eq (pe_ix ix_list (pv 0) pe_int (fun _ _ => rfl)) pe_str (nomark _)) (pw_or1 (pt_cmpR op_eq (pv 5) (pv 3) (nomark _))))) (pss_one (ps_expr (pe_bm PySem.F.plainAttrs_list PySem.F.slot_list_append PySem.F.type_list_append mt_append (pv 4) (pa_cons (pe_tup (pa_cons (pv 5) (pa_cons (pe_and (pe_cmpR op_eq (pe_ix ix_list (pv 0) pe_int (fun _ _ => rfl)) pe_str (nomark _)) (pe_one (pe_cmpR op_eq (pv 5) (pv 1) (nomark _)))) pa_nil))) pa_nil)))) pss_nil))) (pss_one (ps_ret (pv 4))))))), ?_⟩
    refine ⟨_, rfl, rfl, _, rfl, ?_⟩
    rw [dI]
    by_cases l0 : left = 0
    · rw [decide_eq_true (show ((left : Nat) : Int) = 0 by omega)]
      refine iteT ⟨_, rfl, q, _, 2, _, rfl, rfl, SqL.of hq, rfl, rfl, (by show 2 ≤ sizeLine; decide), fun z nz => ⟨(by show 1 ≤ sizeLine; decide), fun p np => ?_⟩⟩
      have u1 := same_new (o := .tup [.int 0, .bl (!decide (V.str E1 = V.str "empty"))]) nz
      have u2 := same_new (o := .lst [.ref z]) np
      refine k _ p _ (Same.trans u1 u2) (u1.free np) upd_same ?_
      rw [l0, opt_zero]
      refine .cons (u2 _ _ ?_) .nil
      rw [upd_same]
      rw [show decide (V.str E1 = V.str "empty") = decide (E1 = "empty") from dS .., ← decide_not]
      rfl
    · rw [decide_eq_false (show ¬ ((left : Nat) : Int) = 0 by omega)]
      have eo : optM A1 B1 E1 left sz = optB B1 ++ optN A1 E1 left (min left sz) (min left sz) := by unfold optM; rw [if_neg l0]; rfl
      rw [eo] at k
      refine iteF ⟨_, rfl, _, rfl, _, _, rfl, ?_⟩
      have em : (if ((sz : Nat) : Int) < ((left : Nat) : Int) then ((sz : Nat) : Int) else ((left : Nat) : Int)) = ((min left sz : Nat) : Int) := by split <;> omega
      rw [em]
      have lm : min left sz ≤ 1000 := by omega
      generalize min left sz = most at k lm
      refine ⟨fun σ H' => ∃ (l : Addr) (xs : List V), σ = [some (.ref q), some (.int (left : Nat)), some (.int (sz : Nat)), some (.int (most : Nat)), some (.ref l), none] ∧ Same H H' ∧ H l = none ∧ H' l = some (.lst xs) ∧ Rps H' xs (optB B1), ?_, ?_⟩
      · refine ⟨_, rfl, q, _, 1, _, rfl, rfl, SqL.of hq, rfl, rfl, _, rfl, ?_⟩
        rw [show decide (V.str B1 = V.str "waiting") = decide (B1 = "waiting") from dS ..]
        unfold optB
        by_cases hB : B1 = "waiting"
        · rw [decide_eq_true hB, if_pos hB]
          refine iteT ⟨(by show 2 ≤ sizeLine; decide), fun z nz => ⟨(by show 1 ≤ sizeLine; decide), fun p np => ?_⟩⟩
          have u1 := same_new (o := .tup [.int 0, .bl false]) nz
          have u2 := same_new (o := .lst [.ref z]) np
          exact ⟨p, _, rfl, Same.trans u1 u2, u1.free np, upd_same, .cons (u2 _ _ upd_same) .nil⟩
        · rw [decide_eq_false hB, if_neg hB]
          refine iteF ⟨Nat.zero_le _, fun p np => ?_⟩
          exact ⟨p, _, rfl, same_new np, np, upd_same, .nil⟩
      rintro _ H1 ⟨l, xs, rfl, s1, nl, hl1, hR⟩
      refine ⟨_, rfl, _, _, rfl, rfl, 1, _, rfl, ⟨by decide, by decide, by omega, by omega⟩, ?_⟩
      rw [show (((most : Nat) : Int) + 1 - 1).toNat = most by omega]
      refine for_range (lo := 1) (n := most) (OpI q l A1 B1 E1 left sz most H) ⟨none, xs, rfl, s1, hl1, by rw [show optN A1 E1 left most 0 = [] from rfl, List.append_nil]; exact hR⟩ ?_ ?_
      · rintro i σ H2 hi ⟨v5, xs, rfl, s2, hl2, hR2⟩
        have e1 : (1 : Int) + (i : Nat) = ((i + 1 : Nat) : Int) := by omega
        rw [e1]
        have lx := hR2.len
        have ln := optN_len A1 E1 left most i
        have lb : (optB B1).length ≤ 1 := by unfold optB; split <;> decide
        rw [List.length_append] at lx
        have fin : A1 = "short" ∨ i + 1 = most → ∀ z : Addr, H2 z = none → OpI q l A1 B1 E1 left sz most H (i + 1) [some (.ref q), some (.int (left : Nat)), some (.int (sz : Nat)), some (.int (most : Nat)), some (.ref l), some (.int ((i + 1 : Nat) : Int))] (upd (upd H2 z (.tup [.int ((i + 1 : Nat) : Int), .bl (decide (E1 = "with") && decide (i + 1 = left))])) l (.lst (xs ++ [.ref z]))) := by
          intro hc z nz
          have u1 := same_new (o := .tup [.int ((i + 1 : Nat) : Int), .bl (decide (E1 = "with") && decide (i + 1 = left))]) nz
          have st : ∀ (p : Addr) (ys : List V), (upd H2 z (.tup [.int ((i + 1 : Nat) : Int), .bl (decide (E1 = "with") && decide (i + 1 = left))])) p = some (.tup ys) → (upd (upd H2 z (.tup [.int ((i + 1 : Nat) : Int), .bl (decide (E1 = "with") && decide (i + 1 = left))])) l (.lst (xs ++ [.ref z]))) p = some (.tup ys) := tup_stays (u1 _ _ hl2) (by intro xs z; cases z)
          refine ⟨_, xs ++ [.ref z], rfl, fun b o e => ?_, upd_same, ?_⟩
          · rw [upd_ne (ne_of_none e nl)]
            exact u1 _ _ (s2 _ _ e)
          · rw [optN_succ, if_pos hc, ← List.append_assoc]
            exact ((hR2.same u1).mono st).app (.cons (st _ _ upd_same) .nil)
        refine ⟨_, rfl, q, _, 0, _, rfl, rfl, SqL.of (s2 _ _ hq), rfl, rfl, _, rfl, ?_⟩
        rw [show decide (V.str A1 = V.str "short") = decide (A1 = "short") from dS ..]
        by_cases hA : A1 = "short"
        · rw [decide_eq_true hA]
          refine iteT (iteT ⟨_, rfl, .inl ⟨rfl, _, SqL.of hl2⟩, _, rfl, _, rfl, q, _, 2, _, rfl, rfl, SqL.of (s2 _ _ hq), rfl, rfl, _, rfl, ?_⟩)
          rw [show decide (V.str E1 = V.str "with") = decide (E1 = "with") from dS ..]
          have fn := fin (.inl hA)
          by_cases hE : E1 = "with"
          · rw [decide_eq_true hE, Bool.true_and] at fn
            rw [decide_eq_true hE]
            refine iteT ⟨_, rfl, _, rfl, rfl, (by show 2 ≤ sizeLine; decide), fun z nz => ⟨l, _, _, rfl, rfl, same_new nz _ _ hl2, szM (by omega), ?_⟩⟩
            have f2 := fn z nz
            rw [show decide (i + 1 = left) = decide (V.int ((i + 1 : Nat) : Int) = V.int ((left : Nat) : Int)) from decide_eq_decide.mpr ⟨fun h => by rw [h], fun h => by have := V.int.inj h; omega⟩] at f2
            exact f2
          · rw [decide_eq_false hE, Bool.false_and] at fn
            rw [decide_eq_false hE]
            exact iteF ⟨(by show 2 ≤ sizeLine; decide), fun z nz => ⟨l, _, _, rfl, rfl, same_new nz _ _ hl2, szM (by omega), fn z nz⟩⟩
        · rw [decide_eq_false hA]
          refine iteF ⟨_, rfl, _, rfl, rfl, _, rfl, ?_⟩
          rw [dI]
          by_cases hm : i + 1 = most
          · rw [decide_eq_true (show ((i + 1 : Nat) : Int) = ((most : Nat) : Int) by omega)]
            refine iteT ⟨_, rfl, .inl ⟨rfl, _, SqL.of hl2⟩, _, rfl, _, rfl, q, _, 2, _, rfl, rfl, SqL.of (s2 _ _ hq), rfl, rfl, _, rfl, ?_⟩
            rw [show decide (V.str E1 = V.str "with") = decide (E1 = "with") from dS ..]
            have fn := fin (.inr hm)
            by_cases hE : E1 = "with"
            · rw [decide_eq_true hE, Bool.true_and] at fn
              rw [decide_eq_true hE]
              refine iteT ⟨_, rfl, _, rfl, rfl, (by show 2 ≤ sizeLine; decide), fun z nz => ⟨l, _, _, rfl, rfl, same_new nz _ _ hl2, szM (by omega), ?_⟩⟩
              have f2 := fn z nz
              rw [show decide (i + 1 = left) = decide (V.int ((i + 1 : Nat) : Int) = V.int ((left : Nat) : Int)) from decide_eq_decide.mpr ⟨fun h => by rw [h], fun h => by have := V.int.inj h; omega⟩] at f2
              exact f2
            · rw [decide_eq_false hE, Bool.false_and] at fn
              rw [decide_eq_false hE]
              exact iteF ⟨(by show 2 ≤ sizeLine; decide), fun z nz => ⟨l, _, _, rfl, rfl, same_new nz _ _ hl2, szM (by omega), fn z nz⟩⟩
          · rw [decide_eq_false (show ¬ ((i + 1 : Nat) : Int) = ((most : Nat) : Int) by omega)]
            exact iteF ⟨_, xs, rfl, s2, hl2, by rw [optN_succ, if_neg (fun h => h.elim hA hm), List.append_nil]; exact hR2⟩
      · rintro σ H2 ⟨v5, xs, rfl, s2, hl2, hR2⟩
        exact ⟨_, rfl, k H2 l xs s2 nl hl2 hR2⟩
/-! ### _law_flat -/
def spFl : Sp := fun vs H Q _ => ∃ (p : Addr) (vs0 : List V) (ps : List (List Int)), vs = [.ref p] ∧ H p = some (.lst vs0) ∧ Pcs H vs0 ps ∧ wt ps ≤ 400000 ∧ ∀ (H' : Hp) (q : Addr), Same H H' → H q = none → H' q = some (.lst (ivs ps.flatten)) → Q (.ref q) H'
theorem scFl : FnScope ["_law_out", "_law_found", "_law_each"] ["_law_out"] (defScope sFlat) := ⟨rfl, rfl, rfl, by decide +kernel, rfl, by decide +kernel, by decide +kernel⟩
theorem ok_fl (R : TxLw K mg) : FnOk P w K mg base CX0 1 R.flt.f R.flt.fd ["_law_out"] spFl := by
  refine R.flt.F.ok scFl (fun vs H Q E h => ?_) (fun cdv A outer s H vs Q E hr h => ?_)
  · obtain ⟨p, _, _, rfl, _⟩ := h
    rfl
  · obtain ⟨p, vs0, ps, rfl, hp, hP, hw, k⟩ := h
    refine ⟨_, (pss_cons (ps_set (i := 1) scFl.nd rfl (.inl rfl) (pe_lst pa_nil)) (pss_cons (ps_for PassesOwn.never rfl (pi_list (pv 0)) (pg_name (i := 2) scFl.nd rfl (.inl rfl)) (pss_one (ps_set (i := 1) scFl.nd rfl (.inl rfl) (pe_op op_cat (pv 1) (pe_callTy call_list_of (by rfl) R.B.list (by decide +kernel) (pa_cons (pv 2) pa_nil)))))) (pss_one (ps_ret (pv 1))))), ?_⟩
    have lp := hP.len
    have lw := wt_flat ps
    refine ⟨Nat.zero_le _, fun l nl => ?_⟩
    have s1 := same_new (o := .lst []) nl
    refine ⟨_, rfl, p, rfl, ⟨_, SqL.of (s1 _ _ hp)⟩, ?_⟩
    refine for_list (K := K) (a := p) (xs := vs0) (fun i σ H' => ∃ (l : Addr) (v2 : Option V), σ = [some (.ref p), some (.ref l), v2] ∧ Same H H' ∧ H l = none ∧ H' l = some (.lst (ivs ((ps.take i).flatten)))) ⟨l, none, rfl, s1, nl, upd_same⟩ (fun i σ H' _ ⟨_, _, _, s', _⟩ => SqL.of (s' _ _ hp)) ?_ ?_
    · rintro i y σ H1 hy ⟨l, v2, rfl, s1, nl, hl⟩
      obtain ⟨q, pc, hpc, rfl, hq⟩ := hP.getL hy
      have l1 : ((ps.take i).flatten ++ pc).length ≤ ps.flatten.length := by
        rw [← flat_take hpc]
        have e : ps = ps.take (i + 1) ++ ps.drop (i + 1) := (List.take_append_drop _ _).symm
        conv => rhs; rw [e]
        rw [List.flatten_append, List.length_append]
        omega
      rw [List.length_append] at l1
      refine ⟨_, rfl, _, rfl, q, _, rfl, .inr (SqT.of (s1 _ _ hq)), fun z nz => ?_⟩
      have u1 := same_new (o := .lst (ivs pc)) nz
      refine ⟨l, z, _, _, rfl, rfl, u1 _ _ hl, upd_same, Nat.le_of_lt (szM (by rw [ivs_len, ivs_len]; omega)), fun z2 nz2 => ?_⟩
      have s2 := Same.trans s1 (Same.trans u1 (same_new (o := .lst (ivs ((ps.take i).flatten) ++ ivs pc)) nz2))
      refine ⟨z2, _, rfl, s2, (Same.trans s1 u1).free nz2, ?_⟩
      rw [upd_same, flat_take hpc]
      simp [ivs]
    · rintro σ H1 ⟨l, v2, rfl, s1, nl, hl⟩
      rw [lp, List.take_length] at hl
      exact ⟨_, rfl, k _ l s1 nl hl⟩
/-! ### _law_for_ever -/
inductive Rws (H : Hp) : List V → List (List Int) → Prop
  | nil : Rws H [] []
  | cons {q : Addr} {x : List Int} {vs : List V} {xs : List (List Int)} (h : H q = some (.lst (ivs x))) (t : Rws H vs xs) : Rws H (.ref q :: vs) (x :: xs)
theorem Rws.mono {H H' : Hp} (f : ∀ (q : Addr) (x : List Int), H q = some (.lst (ivs x)) → H' q = some (.lst (ivs x))) : ∀ {vs xs}, Rws H vs xs → Rws H' vs xs
  | _, _, .nil => .nil
  | _, _, .cons h t => .cons (f _ _ h) (t.mono f)
theorem Rws.monoN {H H' : Hp} : ∀ {vs xs}, (∀ (q : Addr) (x : List Int), V.ref q ∈ vs → H q = some (.lst (ivs x)) → H' q = some (.lst (ivs x))) → Rws H vs xs → Rws H' vs xs
  | _, _, _, .nil => .nil
  | _, _, f, .cons h t => .cons (f _ _ (List.mem_cons_self ..) h) (t.monoN fun q x m => f q x (List.mem_cons_of_mem _ m))
theorem Rws.app {H : Hp} : ∀ {vs rs ws ss}, Rws H vs rs → Rws H ws ss → Rws H (vs ++ ws) (rs ++ ss)
  | _, _, _, _, .nil, h => h
  | _, _, _, _, .cons a t, h => .cons a (t.app h)
theorem Rws.len {H : Hp} : ∀ {vs xs}, Rws H vs xs → vs.length = xs.length
  | _, _, .nil => rfl
  | _, _, .cons _ t => congrArg (· + 1) t.len
def rwD (xs : List (List Int)) : List PyData := xs.map fun x => .list (intD x)
theorem rw_dp {H : Hp} : ∀ {vs xs}, Rws H vs xs → DpAll K H vs (rwD xs)
  | _, _, .nil => .nil
  | _, _, .cons h t => .cons (.lst (SqL.of h) (dpI _)) (rw_dp t)
theorem rw_lay : ∀ xs : List (List Int), PyData.canLayAll0 (rwD xs) = true ∧ PyData.depthAll (rwD xs) ≤ 2
  | [] => ⟨by simp [rwD, PyData.canLayAll0], by simp [rwD, PyData.depthAll]⟩
  | p :: q => by
    obtain ⟨a, b⟩ := rw_lay q
    have h := intD_depth p
    have e : rwD (p :: q) = .list (intD p) :: rwD q := rfl
    rw [e]
    refine ⟨?_, ?_⟩
    · rw [PyData.canLayAll0, a, PyData.canLay0, intD_lay]; rfl
    · rw [PyData.depthAll]; exact Nat.max_le.mpr ⟨by rw [PyData.depth]; omega, b⟩
theorem rw_shaped (xs : List (List Int)) : SeqAt.shaped (.list (rwD xs)) = true := by
  obtain ⟨a, b⟩ := rw_lay xs
  refine Bool.and_eq_true_iff.mpr ⟨by simp only [PyData.canLay0]; exact a, decide_eq_true ?_⟩
  simp only [PyData.depth]
  omega
theorem rw_in (x : List Int) : ∀ xs : List (List Int), ((rwD xs).any fun z => PyData.eqv z (.list (intD x))) = decide (x ∈ xs)
  | [] => rfl
  | p :: r => by
    have e : rwD (p :: r) = .list (intD p) :: rwD r := rfl
    rw [e, List.any_cons, rw_in x r, eqv_il]
    by_cases h : p = x
    · subst h; simp
    · have : ¬ (x = p) := fun z => h z.symm
      simp [h, this]
def spEv (j : Addr) : Sp := fun vs H Q _ => ∃ (ma a b0 q b : Addr) (B E : List Str) (A1 B1 E1 : Str) (x : RP) (g u : Nat) (ov : Bool) (sz k c : Nat), vs = [.ref ma, .ref q, .ref b, .int (sz : Nat)] ∧ H ma = some (.tup [.ref a, .ref b0]) ∧ H a = some (.lst (svs B)) ∧ H b0 = some (.lst (svs E)) ∧ isRound B = true ∧ isEnding E = true ∧ H q = some (.lst [.str A1, .str B1, .str E1]) ∧ BoxJ j H b x g ov ∧ Lsj H j ∧ 1 ≤ sz ∧ sz ≤ 1000 ∧ g ≤ 1000000 ∧ Few sz k c x ∧ k ≤ 600 ∧ c ≤ 3000000 ∧
  ∀ H' : Hp, Same H H' → Q (.bl (FJ.evP sz (ords B) (ords E) (decide (E1 ≠ "empty")) ⟨x, g, u, ov⟩)) H'
abbrev NEv : List Str := ["_law_made", "_law_kind_here", "_law_box_here", "_law_wide", "_law_seen"]
theorem scEv : FnScope NEv PV4 (defScope sFev) := ⟨rfl, rfl, rfl, by decide +kernel, rfl, by decide +kernel, by decide +kernel⟩
theorem ok_ev (R : TxLw K mg) (j : Addr) : FnOk P w K mg base CX0 4 R.fev.f R.fev.fd PV4 (spEv j) := by
  have GD : FnOk P w K mg base CX0 3 R.B.fed.f R.B.fed.fd ["_law_made", "_law_box_here", "_law_many", "_law_said", "_law_wide"] (spFd j) := ok_fd R.B j
  refine R.fev.F.ok scEv (fun vs H Q E h => ?_) (fun cdv A outer s H vs Q E hr h => ?_)
  · obtain ⟨ma, _, _, _, _, _, _, _, _, _, _, _, _, _, _, _, _, rfl, _⟩ := h
    rfl
  · obtain ⟨ma, a, b0, q, b, B, E', A1, B1, E1, x, g, u, ov, sz, kk, cc, rfl, hma, ha, hb0, rB, rE, hq, hB, hJ, z1, z2, hg, few, hk, hc, k⟩ := h
    have hu := hu_of hr
    have hu65 : ((cxOf CX0 P w K mg base NEv "_law_for_ever" (defScope sFev) R.fev.f cdv A outer s H E).nox).A.units + 65 < cLine := by
      have := hr.un
      show (A.deeper _).units + 65 < cLine
      omega
    refine ⟨_, (pss_cons (ps_set (i := 4) scEv.nd rfl (.inl rfl) (pe_lst pa_nil)) (pss_cons (ps_while PassesOwn.never (PW.pt (pw_and (pt_not (pt_val (pe_dget hu (pv 2) pe_str (fun _ _ => rfl)))) (pw_and1 (pt_cmpR op_lt (pe_callB call_len_seq (by rfl) R.D.J.len PySem.boot_len (pa_cons (pv 4) pa_nil)) pe_int (nomark _))))) (pss_cons (ps_if (pt_cmpR (op_inD hu65) (pe_dget hu (pv 2) pe_str (fun _ _ => rfl)) (pv 4) (by rfl)) (pss_one (ps_ret pe_bl)) pss_nil) (pss_cons (ps_expr (pe_bm PySem.F.plainAttrs_list PySem.F.slot_list_append PySem.F.type_list_append mt_append (pv 4) (pa_cons (pe_dget hu (pv 2) pe_str (fun _ _ => rfl)) pa_nil))) (pss_one (ps_set (i := 2) scEv.nd rfl (.inl rfl) (pe_call GD hr rfl R.B.fed.g R.B.fed.k R.B.fed.b .nil pass0 (pa_cons (pv 0) (pa_cons (pv 2) (pa_cons pe_int (pa_cons (pe_cmpR op_ne (pe_ix ix_list (pv 1) pe_int (fun _ _ => rfl)) pe_str (nomark _)) (pa_cons (pv 3) pa_nil))))))))))) (pss_one (ps_ret (pe_not (pe_dget hu (pv 2) pe_str (fun _ _ => rfl))))))), ?_⟩
    rw [← FJ.ev_is z1] at k
    refine ⟨Nat.zero_le _, fun l nl => ?_⟩
    have s1 := same_new (o := .lst []) nl
    have lB : (ords B).length ≤ 12 := by rw [ords, List.length_map]; exact (round_sht rB).2
    have lE : (ords E').length ≤ 6 := by rw [ords, List.length_map]; exact (ending_sht rE).2
    refine ⟨fun m σ H' => ∃ (b : Addr) (vs : List V) (seen : List (List Int)) (g : Nat) (s : CoM.WS), σ = [some (.ref ma), some (.ref q), some (.ref b), some (.int (sz : Nat)), some (.ref l)] ∧ Same H H' ∧ H' l = some (.lst vs) ∧ Rws H' vs seen ∧ (∀ z ∈ vs, z ≠ .ref l) ∧ BoxJ j H' b s.x g s.st ∧ (vs = [] → BoxJ j H b s.x g s.st) ∧ g ≤ 1000000 ∧ m ≤ 90 ∧ seen.length = 90 - m ∧ FJ.evL sz (ords B) (ords E') (decide (E1 ≠ "empty")) m seen s = FJ.evL sz (ords B) (ords E') (decide (E1 ≠ "empty")) 90 [] ⟨x, u, ov⟩ ∧ Few sz (kk + 18 * (90 - m)) (cc + (90 - m) * 40320) s.x,
      ⟨90, b, [], [], g, ⟨x, u, ov⟩, rfl, s1, upd_same, .nil, fun _ h => (nomatch h), hB.same s1, fun _ => hB, hg, Nat.le_refl _, rfl, rfl, by simpa using few⟩, ?_⟩
    rintro m σ H1 ⟨b, vs, seen, g, s', rfl, s1, hl, hR, hne, hB, hB0, hg, m90, hsl, em, fw⟩
    have lv := hR.len
    obtain ⟨r2, u2, vs2, hd2, hr2, hu2, hP2, nr2, nu2, rl, ul⟩ : ∃ r u ws, H1 b = some (.dK (bx r u g s'.st)) ∧ H1 r = some (.lst (ivs s'.x.rest)) ∧ H1 u = some (.lst ws) ∧ Pcs H1 ws s'.x.pieces ∧ r ≠ j ∧ u ≠ j ∧ r ≠ l ∧ u ≠ l := by
      cases hR with
      | nil =>
        obtain ⟨r, u, ws, a1, a2, a3, a4, a5, a6⟩ := (hB0 rfl).ex
        exact ⟨r, u, ws, s1 _ _ a1, s1 _ _ a2, s1 _ _ a3, a4.same s1, a5, a6, ne_of_none a2 nl, ne_of_none a3 nl⟩
      | cons h t =>
        obtain ⟨r, u, ws, a1, a2, a3, a4, a5, a6⟩ := hB.ex
        refine ⟨r, u, ws, a1, a2, a3, a4, a5, a6, fun z => ?_, fun z => ?_⟩
        · rw [z, hl] at a2
          have a2 := HO.lst.inj (Option.some.inj a2)
          cases hx : s'.x.rest with
          | nil => rw [hx] at a2; cases a2
          | cons i r => rw [hx] at a2; cases a2
        · rw [z, hl] at a3
          have a3 := HO.lst.inj (Option.some.inj a3)
          rw [← a3] at a4
          generalize s'.x.pieces = pcs at a4
          cases a4 with
          | cons h2 _ => rw [h] at h2; cases h2
    have exit : s'.st = true ∨ m = 0 → FJ.evL sz (ords B) (ords E') (decide (E1 ≠ "empty")) m seen s' = !s'.st := by
      rintro (h | rfl)
      · cases m with
        | zero => rfl
        | succ m => show (if s'.st = true then false else _) = _; rw [if_pos h, h]; rfl
      · rfl
    refine ⟨_, rfl, b, _, rfl, get_o hd2, _, rfl, ?_⟩
    cases hst : s'.st with
    | true =>
      rw [exit (.inl hst), hst] at em
      rw [← em] at k
      rw [hst] at hd2
      exact iteF ⟨_, rfl, b, _, rfl, get_o hd2, _, rfl, k _ s1⟩
    | false =>
      refine iteT ⟨_, rfl, l, _, rfl, .inl (SqL.of hl), _, _, rfl, rfl, _, rfl, ?_⟩
      cases m with
      | zero =>
        rw [exit (.inr rfl), hst] at em
        rw [← em] at k
        rw [hst] at hd2
        rw [decide_eq_false (show ¬ ((vs.length : Nat) : Int) < 90 by omega)]
        exact iteF ⟨_, rfl, b, _, rfl, get_o hd2, _, rfl, k _ s1⟩
      | succ m =>
        rw [decide_eq_true (show ((vs.length : Nat) : Int) < 90 by omega)]
        have es : FJ.evL sz (ords B) (ords E') (decide (E1 ≠ "empty")) (m + 1) seen s' = if s'.x.rest ∈ seen then true else FJ.evL sz (ords B) (ords E') (decide (E1 ≠ "empty")) m (seen ++ [s'.x.rest]) (CoM.ansS sz (ords B) (ords E') [] (decide (E1 ≠ "empty")) s') := by
          show (if s'.st = true then false else _) = _
          rw [if_neg (by rw [hst]; decide)]
        rw [es] at em
        refine iteT ⟨fun σ H' => ∃ (b : Addr) (vs : List V) (seen : List (List Int)) (g : Nat) (s : CoM.WS), σ = [some (.ref ma), some (.ref q), some (.ref b), some (.int (sz : Nat)), some (.ref l)] ∧ Same H H' ∧ H' l = some (.lst vs) ∧ Rws H' vs seen ∧ (∀ z ∈ vs, z ≠ .ref l) ∧ BoxJ j H' b s.x g s.st ∧ (vs = [] → BoxJ j H b s.x g s.st) ∧ g ≤ 1000000 ∧ m ≤ 90 ∧ seen.length = 90 - m ∧ FJ.evL sz (ords B) (ords E') (decide (E1 ≠ "empty")) m seen s = FJ.evL sz (ords B) (ords E') (decide (E1 ≠ "empty")) 90 [] ⟨x, u, ov⟩ ∧ Few sz (kk + 18 * (90 - m)) (cc + (90 - m) * 40320) s.x,
          fun σ' H' h => ⟨m, Nat.lt_succ_self _, h⟩, ?_⟩
        refine ⟨_, rfl, b, _, rfl, get_r hd2, _, rfl, .list (intD s'.x.rest), rwD seen, .lst (SqL.of hr2) (dpI _), .lst (SqL.of hl) (rw_dp hR), intD_shaped _, rw_shaped _, _, rfl, ?_⟩
        rw [rw_in]
        by_cases cin : s'.x.rest ∈ seen
        · rw [if_pos cin] at em
          rw [← em] at k
          rw [decide_eq_true cin]
          exact iteT (k _ s1)
        rw [if_neg cin] at em
        rw [decide_eq_false cin]
        refine iteF ⟨_, rfl, .inl ⟨rfl, _, SqL.of hl⟩, _, rfl, b, _, rfl, get_r hd2, l, _, _, rfl, rfl, hl, szM (by omega), ?_⟩
        have bl : b ≠ l := ne_of hd2 hl (by intro z; cases z)
        have lj : l ≠ j := jar_n hJ nl
        have st : ∀ (p : Addr) (ys : List V), H1 p = some (.tup ys) → (upd H1 l (.lst (vs ++ [.ref r2]))) p = some (.tup ys) := tup_stays hl (by intro xs z; cases z)
        have ku : ∀ {p : Addr} {o : HO}, p ≠ l → H1 p = some o → (upd H1 l (.lst (vs ++ [.ref r2]))) p = some o := fun n e => by rw [upd_ne n]; exact e
        have s2 : Same H (upd H1 l (.lst (vs ++ [.ref r2]))) := fun p o e => ku (ne_of_none e nl) (s1 _ _ e)
        have hB2 : BoxJ j (upd H1 l (.lst (vs ++ [.ref r2]))) b s'.x g false := ⟨r2, u2, vs2, ku bl (by rw [← hst]; exact hd2), ku rl hr2, ku ul hu2, hP2.mono st, nr2, nu2⟩
        have hR2 : Rws (upd H1 l (.lst (vs ++ [.ref r2]))) (vs ++ [.ref r2]) (seen ++ [s'.x.rest]) := (hR.monoN fun p y m e => ku (fun z => hne _ m (by rw [z])) e).app (.cons (ku rl hr2) .nil)
        have hl2 : (upd H1 l (.lst (vs ++ [.ref r2]))) l = some (.lst (vs ++ [.ref r2])) := upd_same
        have hne2 : ∀ z ∈ vs ++ [.ref r2], z ≠ .ref l := fun z hz => (List.mem_append.mp hz).elim (hne z) fun h => by rw [List.mem_singleton.mp h]; exact fun z => rl (V.ref.inj z)
        generalize upd H1 l (.lst (vs ++ [.ref r2])) = H2 at s2 hB2 hR2 hl2 ⊢
        refine ⟨_, rfl, _, rfl, _, rfl, q, _, 2, _, rfl, rfl, SqL.of (s2 _ _ hq), rfl, rfl, _, rfl, ma, a, b0, b, B, E', s'.x, g, false, _, 0, sz, kk + 18 * (90 - (m + 1)), cc + (90 - (m + 1)) * 40320, rfl, s2 _ _ hma, s2 _ _ ha, s2 _ _ hb0, rB, rE, hB2, hJ.same s2, z1, z2, Nat.zero_le _, hg, fw, by omega, by omega, fun H3 d s3 nd X3 => ?_⟩
        rw [show decide (V.str E1 = V.str "empty") = decide (E1 = "empty") from dS .., ← decide_not] at X3
        refine ⟨d, vs ++ [.ref r2], seen ++ [s'.x.rest], g + 0, CoM.ansS sz (ords B) (ords E') [] (decide (E1 ≠ "empty")) s', rfl, Same.trans s2 s3, s3 _ _ hl2, hR2.monoN fun p y _ e => s3 _ _ e, hne2, X3, fun z => absurd z (by simp), by omega, by omega, by rw [List.length_append, hsl]; show 90 - (m + 1) + 1 = 90 - m; omega, em, ?_⟩
        have fa := few_ans (told := decide (E1 ≠ "empty")) (held := []) z1 (Nat.zero_le _) lB lE fw
        exact fa.mono (by omega) (by omega)
end
end My

/-! the law's own looking at faults: what is shown -/
namespace My
open PySem L2 Cm LM EM
/-! ### replies as data -/
def rpD (rs : FJ.Rep) : List PyData := rs.map fun r => .tuple [.int (r.1 : Nat), .bool r.2]
theorem rp_dp {K : PySem.W.Frag} {H : Hp} : ∀ {vs rs}, Rps H vs rs → DpAll K H vs (rpD rs)
  | _, _, .nil => .nil
  | _, _, .cons h t => .cons (.tup (SqT.of h) (.cons (.int _) (.cons (.bl _) .nil))) (rp_dp t)
theorem rp_lay : ∀ rs : FJ.Rep, PyData.canLayAll0 (rpD rs) = true ∧ PyData.depthAll (rpD rs) ≤ 2
  | [] => ⟨by simp [rpD, PyData.canLayAll0], by simp [rpD, PyData.depthAll]⟩
  | p :: q => by
    obtain ⟨a, b⟩ := rp_lay q
    have e : rpD (p :: q) = .tuple [.int (p.1 : Nat), .bool p.2] :: rpD q := rfl
    rw [e]
    refine ⟨?_, ?_⟩
    · rw [PyData.canLayAll0, a, PyData.canLay0]
      simp [PyData.canLayAll0, PyData.canLay0]
    · rw [PyData.depthAll]
      refine Nat.max_le.mpr ⟨?_, b⟩
      simp [PyData.depth, PyData.depthAll]
theorem rp_shaped (rs : FJ.Rep) : SeqAt.shaped (.list (rpD rs)) = true := by
  obtain ⟨a, b⟩ := rp_lay rs
  refine Bool.and_eq_true_iff.mpr ⟨by simp only [PyData.canLay0]; exact a, decide_eq_true ?_⟩
  simp only [PyData.depth]
  omega
theorem rp_shapedT (rs : FJ.Rep) : SeqAt.shaped (.tuple (rpD rs)) = true := by
  obtain ⟨a, b⟩ := rp_lay rs
  refine Bool.and_eq_true_iff.mpr ⟨by simp only [PyData.canLay0]; exact a, decide_eq_true ?_⟩
  simp only [PyData.depth]
  omega
theorem rp_nil (rs : FJ.Rep) : PyData.eqv (.list (rpD rs)) (.list []) = decide (rs = []) := by
  cases rs with
  | nil => simp [rpD, PyData.eqv, PyData.eqvAll]
  | cons r t => simp [rpD, PyData.eqv, PyData.eqvAll]
theorem rp_nilT (rs : FJ.Rep) : PyData.eqv (.tuple (rpD rs)) (.tuple []) = decide (rs = []) := by
  cases rs with
  | nil => simp [rpD, PyData.eqv, PyData.eqvAll]
  | cons r t => simp [rpD, PyData.eqv, PyData.eqvAll]
theorem Rps.last {H : Hp} : ∀ {vs rs} {r : Nat × Bool}, Rps H vs (rs ++ [r]) → ∃ ws q, vs = ws ++ [.ref q] ∧ H q = some (.tup [.int r.1, .bl r.2])
  | _, [], _, .cons h .nil => ⟨[], _, rfl, h⟩
  | _, _ :: rs, _, .cons h t => by
    obtain ⟨ws, q, e, h2⟩ := t.last
    exact ⟨_ :: ws, q, by rw [e]; rfl, h2⟩
section
variable {P : Program} {w : World} {K : PySem.W.Frag} {mg : Str → Option Value} {base : Heap}
def tGtE : TE := fun σ H Q => ∃ (a : Addr) (xs : List V) (n : Nat), σ[8]? = some (some (.ref a)) ∧ σ[6]? = some (some (.int (n : Nat))) ∧ H a = some (.tup xs) ∧ Q (.bl (decide (n < xs.length))) H
def tNeE : TE := fun σ H Q => ∃ (a : Addr) (xs : List V) (n : Nat), σ[8]? = some (some (.ref a)) ∧ σ[6]? = some (some (.int (n : Nat))) ∧ H a = some (.tup xs) ∧ Q (.bl (decide (xs.length ≠ n))) H
def spSh (j : Addr) : Sp := fun vs H Q _ => ∃ (ma a b0 q p b : Addr) (B E : List Str) (A1 B1 E1 nm : Str) (tvs : List V) (rs : FJ.Rep) (left : Nat) (x : RP) (g u : Nat) (ov : Bool) (sz k c : Nat), vs = [.ref ma, .ref q, .ref p, .str nm, .int (left : Nat), .ref b, .int (sz : Nat)] ∧ H ma = some (.tup [.ref a, .ref b0]) ∧ H a = some (.lst (svs B)) ∧ H b0 = some (.lst (svs E)) ∧ isRound B = true ∧ isEnding E = true ∧ H q = some (.lst [.str A1, .str B1, .str E1]) ∧ H p = some (.lst tvs) ∧ Rps H tvs rs ∧ rs.length ≤ 100 ∧ FJ.Names nm ∧ BoxJ j H b x g ov ∧ Lsj H j ∧ 1 ≤ sz ∧ sz ≤ 1000 ∧ g ≤ 100000 ∧ Few sz k c x ∧ k ≤ 600 ∧ c ≤ 3000000 ∧ wt x.pieces ≤ 400000 ∧
  ∀ H' : Hp, Same H H' → Q (.bl (FJ.shown sz (ords B) (ords E) (decide (E1 ≠ "empty")) nm rs left ⟨x, g, u, ov⟩)) H'
abbrev NSh : List Str := ["_law_made", "_law_kind_here", "_law_tale", "_law_prop", "_law_left", "_law_box_here", "_law_wide", "_law_out", "_law_each"]
theorem scSh : FnScope NSh PS7 (defScope sShw) := ⟨rfl, rfl, rfl, by decide +kernel, rfl, by decide +kernel, by decide +kernel⟩
theorem any_map {α : Type} (f : α → Bool) (l : List α) : (l.map f).any id = l.any f := by rw [List.any_map]; rfl
theorem ok_sh (R : TxLw K mg) (j : Addr) : FnOk P w K mg base CX0 5 R.shw.f R.shw.fd PS7 (spSh j) := by
  have GE : FnOk P w K mg base CX0 4 R.fev.f R.fev.fd PV4 (spEv j) := ok_ev R j
  have GF : FnOk P w K mg base CX0 1 R.flt.f R.flt.fd ["_law_out"] spFl := ok_fl R
  refine R.shw.F.ok scSh (fun vs H Q E h => ?_) (fun cdv A outer s H vs Q E hr h => ?_)
  · obtain ⟨_, _, _, _, _, _, _, _, _, _, _, _, _, _, _, _, _, _, _, _, _, _, rfl, _⟩ := h
    rfl
  · obtain ⟨ma, a, b0, q, p, b, B, E', A1, B1, E1, nm, tvs, rs, left, x, g, u, ov, sz, kk, cc, rfl, hma, ha, hb0, rB, rE, hq, hp, hR, hl, hn, hB, hJ, z1, z2, hg, few, hk, hc, hw, k⟩ := h
    have hu := hu_of hr
    have hr1 : Room 1 _ := hr.mono (by decide)
    have hu65 : ((cxOf CX0 P w K mg base NSh "_law_shown" (defScope sShw) R.shw.f cdv A outer s H E).nox).A.units + 65 < cLine := by
      have := hr.un
      show (A.deeper _).units + 65 < cLine
      omega
    have hu64 : ((cxOf CX0 P w K mg base NSh "_law_shown" (defScope sShw) R.shw.f cdv A outer s H E).nox).A.units + 64 < cLine := by omega
    refine ⟨_, (pss_cons (ps_set (i := 7) scSh.nd rfl (.inl rfl) (pe_dget hu (pv 5) pe_str (fun _ _ => rfl))) (pss_cons (ps_if (pt_cmpR op_eq (pv 3) pe_str (nomark _)) (pss_one (ps_ret (pe_and (pe_dget hu (pv 5) pe_str (fun _ _ => rfl)) (pe_one (pe_or (pe_cmpR op_gt (pv 4) pe_int (nomark _)) (pe_one (pe_cmpR (op_neD hu64) (pe_call GF hr1 rfl R.flt.g R.flt.k R.flt.b .nil pass0 (pa_cons (pv 7) pa_nil)) (pe_listRg rfl rfl R.B.list (prg_1 rfl R.B.range (pe_dget hu (pv 5) pe_str (fun _ _ => rfl)))) (nomark _)))))))) pss_nil) (pss_cons (ps_if (pt_cmpR op_eq (pv 3) pe_str (nomark _)) (pss_one (ps_ret (pe_cmpR (op_inD hu65) (pe_tup pa_nil) (pv 7) (by rfl)))) pss_nil) (pss_cons (ps_if (pt_cmpR op_eq (pv 3) pe_str (nomark _)) (pss_one (ps_ret (pe_or (pe_callB (cr_any rfl) (by rfl) R.any (by decide +kernel) (pa_cons (pe_lc (own := [("_law_each", 8)]) (g := gName 8) (tt := tYes) (te := tGtE) rfl scSh.nd (pi_list (pv 7)) (blkOk_by (own := [("_law_each", 8)]) (N := NSh) (sc := defScope sShw) (by decide +kernel)) (fun _ _ _ _ _ => pg_name (i := 8) scSh.nd rfl (Or.inl rfl)) (fun _ _ _ _ _ => pts_nil) (fun _ _ _ _ _ => by exact pe_imp (t' := tGtE) (pe_cmpR op_gt (pe_callB call_len_seq (by rfl) R.D.J.len PySem.boot_len (pa_cons (pv 8) pa_nil)) (pv 6) (nomark _)) (fun σ H1 Q1 ⟨q, xs, n, h8, h6, hq, k⟩ => ⟨_, h8, q, _, rfl, .inr (SqT.of hq), _, h6, _, _, rfl, rfl, (by show Q1 (.bl (decide (((n : Nat) : Int) < ((xs.length : Nat) : Int)))) H1; rw [show decide (((n : Nat) : Int) < ((xs.length : Nat) : Int)) = decide (n < xs.length) from decide_eq_decide.mpr (by omega)]; exact k)⟩))) pa_nil)) (pe_one (pe_callB (cr_any rfl) (by rfl) R.any (by decide +kernel) (pa_cons (pe_lc (own := [("_law_each", 8)]) (g := gName 8) (tt := tYes) (te := tNeE) rfl scSh.nd (pi_list (pe_slice sl_list (pv 7) po_none (po_some (pe_un un_neg pe_int)))) (blkOk_by (own := [("_law_each", 8)]) (N := NSh) (sc := defScope sShw) (by decide +kernel)) (fun _ _ _ _ _ => pg_name (i := 8) scSh.nd rfl (Or.inl rfl)) (fun _ _ _ _ _ => pts_nil) (fun _ _ _ _ _ => by exact pe_imp (t' := tNeE) (pe_cmpR op_ne (pe_callB call_len_seq (by rfl) R.D.J.len PySem.boot_len (pa_cons (pv 8) pa_nil)) (pv 6) (nomark _)) (fun σ H1 Q1 ⟨q, xs, n, h8, h6, hq, k⟩ => ⟨_, h8, q, _, rfl, .inr (SqT.of hq), _, h6, rfl, (by rw [show (!decide (V.int ((xs.length : Nat) : Int) = V.int ((n : Nat) : Int))) = decide (xs.length ≠ n) from by rw [← decide_not]; exact decide_eq_decide.mpr ⟨fun h z => h (by rw [z]), fun h z => h (by have := V.int.inj z; omega)⟩]; exact k)⟩))) pa_nil)))))) pss_nil) (pss_cons (ps_if (pt_cmpR op_eq (pv 3) pe_str (nomark _)) (pss_one (ps_ret (pe_and (pe_cmpR (op_neD hu64) (pv 2) (pe_lst pa_nil) (nomark _)) (pe_and (pe_ix ix_tup (pe_ix ix_list (pv 2) (pe_un un_neg pe_int) (fun _ _ => rfl)) pe_int (fun _ _ => rfl)) (pe_one (pe_not (pe_dget hu (pv 5) pe_str (fun _ _ => rfl)))))))) pss_nil) (pss_one (ps_ret (pe_and (pe_cmpR op_eq (pv 4) pe_int (nomark _)) (pe_and (pe_or (pe_cmpR (op_eqD hu64) (pv 2) (pe_lst pa_nil) (nomark _)) (pe_one (pe_cmpR op_gt (pe_ix ix_tup (pe_ix ix_list (pv 2) (pe_un un_neg pe_int) (fun _ _ => rfl)) pe_int (fun _ _ => rfl)) pe_int (nomark _)))) (pe_one (pe_call GE hr rfl R.fev.g R.fev.k R.fev.b .nil pass0 (pa_cons (pv 0) (pa_cons (pv 1) (pa_cons (pv 5) (pa_cons (pv 6) pa_nil))))))))))))))), ?_⟩
    obtain ⟨r2, u2, vs2, hd2, hr2, hu2, hP2, nr2, nu2⟩ := id hB.ex
    have lp := hP2.len
    have lw := wt_flat x.pieces
    have lt := hR.len
    refine ⟨_, rfl, b, _, rfl, get_u hd2, _, rfl, rfl, _, rfl, ?_⟩
    rw [show decide (V.str nm = V.str "whole") = decide (nm = "whole") from dS ..]
    unfold FJ.shown at k
    by_cases c1 : nm = "whole"
    · rw [if_pos c1] at k
      rw [decide_eq_true c1]
      refine iteT ⟨_, rfl, b, _, rfl, get_o hd2, _, rfl, ?_⟩
      cases ov with
      | false => exact iteF (k _ (Same.refl _))
      | true =>
        refine iteT ⟨_, rfl, _, _, rfl, rfl, _, rfl, ?_⟩
        by_cases l0 : 0 < left
        · rw [decide_eq_true l0] at k
          rw [decide_eq_true (show (0 : Int) < ((left : Nat) : Int) by omega)]
          exact iteT (k _ (Same.refl _))
        · rw [decide_eq_false l0] at k
          rw [decide_eq_false (show ¬ (0 : Int) < ((left : Nat) : Int) by omega)]
          refine iteF ⟨_, rfl, u2, vs2, x.pieces, rfl, hu2, hP2, hw, fun H1 q1 s1 nq1 hq1 => ?_⟩
          refine ⟨_, rfl, b, _, rfl, get_g (s1 _ _ hd2), _, rfl, RgOk.of_le (by omega) (by omega) (by omega) (by omega), fun z nz => ?_⟩
          rw [it_rg]
          have u2' := same_new (o := .lst (ivs (CoM.itF 0 g))) nz
          refine ⟨.list (intD x.pieces.flatten), .list (intD (CoM.itF 0 g)), .lst (SqL.of (u2' _ _ hq1)) (dpI _), .lst (SqL.of upd_same) (dpI _), intD_shaped _, intD_shaped _, ?_⟩
          rw [eqv_il, ← decide_not]
          exact k _ (Same.trans s1 u2')
    rw [if_neg c1] at k
    rw [decide_eq_false c1]
    refine iteF ⟨_, rfl, rfl, _, rfl, ?_⟩
    rw [show decide (V.str nm = V.str "filled") = decide (nm = "filled") from dS ..]
    by_cases c2 : nm = "filled"
    · rw [if_pos c2] at k
      rw [decide_eq_true c2]
      refine iteT ⟨Nat.zero_le _, fun z nz => ?_⟩
      have u1 := same_new (o := .tup []) nz
      refine ⟨_, rfl, .tuple [], _, .tup (SqT.of upd_same) .nil, .lst (SqL.of (u1 _ _ hu2)) (pc_dp (hP2.mono fun _ _ e => u1 _ _ e)), by decide, pc_shaped _, ?_⟩
      rw [any_nil]
      exact k _ u1
    rw [if_neg c2] at k
    rw [decide_eq_false c2]
    refine iteF ⟨_, rfl, rfl, _, rfl, ?_⟩
    rw [show decide (V.str nm = V.str "even") = decide (nm = "even") from dS ..]
    by_cases c3 : nm = "even"
    · rw [if_pos c3] at k
      rw [decide_eq_true c3]
      refine iteT ⟨_, rfl, u2, rfl, ⟨_, SqL.of hu2⟩, fun D nD => ?_⟩
      refine lc_list (K := K) (a := u2) (xs := vs2) (fun i H' => Same H H' ∧ H' D = some (.lst (((x.pieces.take i).map fun p => decide (sz < p.length)).map V.bl))) ⟨same_new nD, upd_same⟩ (fun i H' _ ⟨s', _⟩ => SqL.of (s' _ _ hu2)) ?_ ?_
      · rintro i y H1 hy ⟨s1, hD⟩
        obtain ⟨q', pc, hpc, rfl, hq'⟩ := hP2.getL hy
        refine ⟨rfl, q', _, sz, rfl, rfl, s1 _ _ hq', _, hD, szM (by rw [List.length_map, List.length_map, List.length_take]; omega), fun b u e => ?_, ?_⟩
        · rw [upd_ne (ne_of_none e nD)]
          exact s1 _ _ e
        · rw [upd_same, take_get hpc, ivs_len]
          simp
      rintro H1 ⟨s1, hD⟩
      rw [lp, List.take_length] at hD
      refine ⟨D, _, rfl, SqL.of hD, _, rfl, ?_⟩
      rw [any_map]
      unfold FJ.unevL at k
      cases ca : x.pieces.any (fun p => decide (sz < p.length)) with
      | true =>
        rw [ca] at k
        exact iteT (k _ s1)
      | false =>
        rw [ca, Bool.false_or] at k
        refine iteF ⟨_, rfl, ?_⟩
        unfold tNoPart
        refine ⟨_, rfl, _, rfl, u2, _, rfl, SqL.of (s1 _ _ hu2), fun z nz => ?_⟩
        rw [cut_m1]
        have u3 := same_new (o := .lst vs2.dropLast) nz
        have hPd : Pcs H vs2.dropLast x.pieces.dropLast := by
          have : ∀ {vs ps}, Pcs H vs ps → Pcs H vs.dropLast ps.dropLast := by
            intro vs ps h
            induction h with
            | nil => exact .nil
            | cons h t ih =>
              cases t with
              | nil => exact .nil
              | cons h2 t2 => exact .cons h ih
          exact this hP2
        have s13 := Same.trans s1 u3
        have hz : (upd H1 z (.lst vs2.dropLast)) z = some (.lst vs2.dropLast) := upd_same
        generalize upd H1 z (.lst vs2.dropLast) = H3 at s13 hz ⊢
        refine ⟨z, rfl, ⟨_, SqL.of hz⟩, fun D3 nD3 => ?_⟩
        have lpd := hPd.len
        refine lc_list (K := K) (a := z) (xs := vs2.dropLast) (fun i H' => Same H3 H' ∧ H' D3 = some (.lst (((x.pieces.dropLast.take i).map fun p => decide (p.length ≠ sz)).map V.bl))) ⟨same_new nD3, upd_same⟩ (fun i H' _ ⟨s', _⟩ => SqL.of (s' _ _ hz)) ?_ ?_
        · rintro i y H4 hy ⟨s4, hD4⟩
          obtain ⟨q', pc, hpc, rfl, hq'⟩ := hPd.getL hy
          refine ⟨rfl, q', _, sz, rfl, rfl, s4 _ _ (s13 _ _ hq'), _, hD4, szM (by rw [List.length_map, List.length_map, List.length_take, List.length_dropLast]; omega), fun b u e => ?_, ?_⟩
          · rw [upd_ne (ne_of_none e nD3)]
            exact s4 _ _ e
          · rw [upd_same, take_get hpc, ivs_len]
            simp
        rintro H4 ⟨s4, hD4⟩
        rw [lpd, List.take_length] at hD4
        refine ⟨D3, _, rfl, SqL.of hD4, ?_⟩
        rw [any_map]
        exact k _ (Same.trans s13 s4)
    rw [if_neg c3] at k
    rw [decide_eq_false c3]
    refine iteF ⟨_, rfl, rfl, _, rfl, ?_⟩
    rw [show decide (V.str nm = V.str "quiet") = decide (nm = "quiet") from dS ..]
    by_cases c4 : nm = "quiet"
    · rw [if_pos c4] at k
      rw [decide_eq_true c4]
      refine iteT ⟨_, rfl, Nat.zero_le _, fun z nz => ?_⟩
      have u1 := same_new (o := .lst []) nz
      refine ⟨.list (rpD rs), .list [], .lst (SqL.of (u1 _ _ hp)) (rp_dp (hR.same u1)), .lst (SqL.of upd_same) .nil, rp_shaped _, by decide, _, rfl, ?_⟩
      rw [rp_nil]
      rcases List.eq_nil_or_concat rs with rfl | ⟨rs', r, rfl⟩
      · rw [decide_eq_true rfl]
        exact iteF (k _ u1)
      · rw [List.concat_eq_append] at hR k ⊢
        rw [FJ.told_snoc] at k
        rw [decide_eq_false (show ¬ rs' ++ [r] = [] by simp)]
        obtain ⟨ws, q', rfl, hq'⟩ := hR.last
        refine iteT ⟨_, rfl, _, rfl, p, _, -1, _, rfl, rfl, SqL.of (u1 _ _ hp), atI_last _ _, q', _, 1, _, rfl, rfl, SqT.of (u1 _ _ hq'), rfl, _, rfl, ?_⟩
        cases hr2 : r.2 with
        | false =>
          rw [hr2] at k
          exact iteF (k _ u1)
        | true =>
          rw [hr2] at k
          refine iteT ⟨_, rfl, b, _, rfl, get_o (u1 _ _ hd2), _, rfl, ?_⟩
          exact k _ u1
    rw [if_neg c4] at k
    rw [decide_eq_false c4]
    refine iteF ⟨_, rfl, rfl, _, rfl, ?_⟩
    rw [dI]
    by_cases l0 : left = 0
    rotate_left
    · rw [decide_eq_false l0, Bool.false_and] at k
      rw [decide_eq_false (show ¬ ((left : Nat) : Int) = 0 by omega)]
      exact iteF (k _ (Same.refl _))
    rw [decide_eq_true l0, Bool.true_and] at k
    rw [decide_eq_true (show ((left : Nat) : Int) = 0 by omega)]
    refine iteT ⟨_, rfl, Nat.zero_le _, fun z nz => ?_⟩
    have u1 := same_new (o := .lst []) nz
    refine ⟨.list (rpD rs), .list [], .lst (SqL.of (u1 _ _ hp)) (rp_dp (hR.same u1)), .lst (SqL.of upd_same) .nil, rp_shaped _, by decide, _, rfl, ?_⟩
    rw [rp_nil]
    rcases List.eq_nil_or_concat rs with rfl | ⟨rs', r, rfl⟩
    · rw [decide_eq_true rfl]
      rw [decide_eq_true (show (([] : FJ.Rep).getLast?.map (·.1)) ≠ some 0 from fun z => by cases z), Bool.true_and] at k
      refine iteT ⟨_, rfl, iteT ⟨_, rfl, _, rfl, _, rfl, _, rfl, ma, a, b0, q, b, B, E', A1, B1, E1, x, g, u, ov, sz, kk, cc, rfl, u1 _ _ hma, u1 _ _ ha, u1 _ _ hb0, rB, rE, u1 _ _ hq, hB.same u1, hJ.same u1, z1, z2, by omega, few, hk, hc, fun H2 s2 => k _ (Same.trans u1 s2)⟩⟩
    · rw [List.concat_eq_append] at hR k ⊢
      rw [decide_eq_false (show ¬ rs' ++ [r] = [] by simp)]
      rw [show (rs' ++ [r]).getLast? = some r by simp] at k
      obtain ⟨ws, q', rfl, hq'⟩ := hR.last
      refine iteF ⟨_, rfl, _, rfl, p, _, -1, _, rfl, rfl, SqL.of (u1 _ _ hp), atI_last _ _, q', _, 0, _, rfl, rfl, SqT.of (u1 _ _ hq'), rfl, _, _, rfl, rfl, _, rfl, ?_⟩
      by_cases c0 : r.1 = 0
      · rw [decide_eq_false (show ¬ Option.map (·.1) (some r) ≠ some 0 from fun z => z (by rw [Option.map_some, c0])), Bool.false_and] at k
        rw [decide_eq_false (show ¬ (0 : Int) < ((r.1 : Nat) : Int) by omega)]
        exact iteF (k _ u1)
      · rw [decide_eq_true (show Option.map (·.1) (some r) ≠ some 0 from fun z => c0 (Option.some.inj z)), Bool.true_and] at k
        rw [decide_eq_true (show (0 : Int) < ((r.1 : Nat) : Int) by omega)]
        exact iteT ⟨_, rfl, _, rfl, _, rfl, _, rfl, ma, a, b0, q, b, B, E', A1, B1, E1, x, g, u, ov, sz, kk, cc, rfl, u1 _ _ hma, u1 _ _ ha, u1 _ _ hb0, rB, rE, u1 _ _ hq, hB.same u1, hJ.same u1, z1, z2, by omega, few, hk, hc, fun H2 s2 => k _ (Same.trans u1 s2)⟩
end
end My

/-! a dict whose keys are tuples of a number, two tuples of numbers, and a truth -/
namespace DnT
open PySem L2
structure NKey where
  left : Int
  rest : List Int
  flat : List Int
  odd : Bool
deriving DecidableEq
def nk (k : NKey) : NestedKey := .tup [.num k.left, .tup (k.rest.map .num), .tup (k.flat.map .num), .num (if k.odd = true then 1 else 0)]
theorem num_inj : ∀ {a b : List Int}, a.map NestedKey.num = b.map NestedKey.num → a = b
  | [], [], _ => rfl
  | [], _ :: _, h => by cases h
  | _ :: _, [], h => by cases h
  | x :: a, y :: b, h => by
    rw [List.map_cons, List.map_cons] at h
    obtain ⟨h1, h2⟩ := List.cons.inj h
    rw [NestedKey.num.inj h1, num_inj h2]
theorem nk_inj {a b : NKey} (h : nk a = nk b) : a = b := by
  obtain ⟨l, r, f, o⟩ := a
  obtain ⟨l', r', f', o'⟩ := b
  unfold nk at h
  have h := NestedKey.tup.inj h
  obtain ⟨h1, h⟩ := List.cons.inj h
  obtain ⟨h2, h⟩ := List.cons.inj h
  obtain ⟨h3, h⟩ := List.cons.inj h
  obtain ⟨h4, _⟩ := List.cons.inj h
  have e1 := NestedKey.num.inj h1
  have e2 := num_inj (NestedKey.tup.inj h2)
  have e3 := num_inj (NestedKey.tup.inj h3)
  have e4 := NestedKey.num.inj h4
  subst e1 e2 e3
  have e5 : o = o' := by
    cases o <;> cases o' <;> first | rfl | (simp at e4)
  rw [e5]
theorem depth_nums : ∀ xs : List Int, NestedKey.depthAll (xs.map NestedKey.num) ≤ 1
  | [] => by simp [NestedKey.depthAll]
  | x :: r => by
    have := depth_nums r
    simp only [List.map_cons, NestedKey.depthAll, NestedKey.depth]
    omega
theorem nk_depth (k : NKey) : (nk k).depth ≤ 8 := by
  have a := depth_nums k.rest
  have b := depth_nums k.flat
  simp only [nk, NestedKey.depth, NestedKey.depthAll]
  omega
def NkAt (H : Hp) (k : NKey) (a : Addr) : Prop := ∃ q1 q2, H a = some (.tup [.int k.left, .ref q1, .ref q2, .bl k.odd]) ∧ H q1 = some (.tup (k.rest.map V.int)) ∧ H q2 = some (.tup (k.flat.map V.int))
theorem NkAt.mono {H H' : Hp} (f : ∀ (p : Addr) (xs : List V), H p = some (.tup xs) → H' p = some (.tup xs)) {k : NKey} {a : Addr} (h : NkAt H k a) : NkAt H' k a := let ⟨q1, q2, a, b, c⟩ := h; ⟨q1, q2, f _ _ a, f _ _ b, f _ _ c⟩
abbrev Ents := List (NestedKey × Addr × Value)
def DictN (P : Program) (w : World) (d : Addr) (xs : Ents) : HO := .ext fun h => ∃ o es ep, h.get? d = some o ∧ o.ExactDict ∧ o.data = Data.dict es ep ∧ es.toList = xs.map (entryOfKey (nestedKind P w)) ∧ (xs.map (·.1)).Nodup
inductive EntsAt (H : Hp) : List NKey → Ents → Prop
  | nil : EntsAt H [] []
  | cons {k : NKey} {a : Addr} {v : Value} {ks : List NKey} {xs : Ents} (h : NkAt H k a) (t : EntsAt H ks xs) : EntsAt H (k :: ks) ((nk k, a, v) :: xs)
theorem EntsAt.mono {H H' : Hp} (f : ∀ (p : Addr) (xs : List V), H p = some (.tup xs) → H' p = some (.tup xs)) : ∀ {ks xs}, EntsAt H ks xs → EntsAt H' ks xs
  | _, _, .nil => .nil
  | _, _, .cons h t => .cons (h.mono f) (t.mono f)
theorem EntsAt.snoc {H : Hp} {k : NKey} {a : Addr} {v : Value} (h : NkAt H k a) : ∀ {ks xs}, EntsAt H ks xs → EntsAt H (ks ++ [k]) (xs ++ [(nk k, a, v)])
  | _, _, .nil => .cons h .nil
  | _, _, .cons h2 t => .cons h2 (t.snoc h)
theorem EntsAt.keys {H : Hp} : ∀ {ks xs}, EntsAt H ks xs → xs.map (·.1) = ks.map nk
  | _, _, .nil => rfl
  | _, _, .cons _ t => by rw [List.map_cons, List.map_cons, t.keys]
theorem EntsAt.len {H : Hp} : ∀ {ks xs}, EntsAt H ks xs → xs.length = ks.length
  | _, _, .nil => rfl
  | _, _, .cons _ t => congrArg (· + 1) t.len
structure SeenN (P : Program) (w : World) (H : Hp) (d : Addr) (ks : List NKey) : Prop where
  nd : (d == sysModules) = false
  l : ks.length ≤ 1000000
  ex : ∃ xs : Ents, H d = some (DictN P w d xs) ∧ EntsAt H ks xs
theorem SeenN.mono {P : Program} {w : World} {H H' : Hp} {d : Addr} {ks : List NKey} (e : H' d = H d) (f : ∀ (p : Addr) (xs : List V), H p = some (.tup xs) → H' p = some (.tup xs)) (h : SeenN P w H d ks) : SeenN P w H' d ks := by
  obtain ⟨xs, a, b⟩ := h.ex
  exact ⟨h.nd, h.l, xs, by rw [e]; exact a, b.mono f⟩
/-! ### what the heap holds -/
theorem nums_is {h : Heap} : ∀ {xs : List Int} {its : List Value}, Vals (xs.map V.int) its → NestedAll h (xs.map NestedKey.num) its
  | [], _, .nil => .nil
  | x :: r, _, .cons a t => by
    obtain ⟨tk, rfl⟩ := a
    exact .cons (.int x tk) (nums_is t)
theorem tup_is {P : Program} {w : World} {H : Hp} {h : Heap} (I : HOk P w H h) {a : Addr} {xs : List V} (e : H a = some (.tup xs)) : ∃ its o n, Vals xs its ∧ h.get? a = some o ∧ o.cls = .type "tuple" ∧ o.data = Data.seq its.toArray n := by
  obtain ⟨_, its, hv, o, h1, h2, n, h3⟩ := I a _ e
  exact ⟨its, o, n, hv, h1, h2, h3⟩
theorem of_nk {P : Program} {w : World} {H : Hp} {h : Heap} (I : HOk P w H h) {k : NKey} {a : Addr} (hk : NkAt H k a) : (nestedKind P w).is h (nk k) a := by
  obtain ⟨q1, q2, h0, h1, h2⟩ := hk
  refine ⟨?_, nk_depth k⟩
  obtain ⟨i0, o0, n0, v0, a0, b0, c0⟩ := tup_is I h0
  obtain ⟨i1, o1, n1, v1, a1, b1, c1⟩ := tup_is I h1
  obtain ⟨i2, o2, n2, v2, a2, b2, c2⟩ := tup_is I h2
  refine .tup a0 b0 c0 ?_
  cases v0 with
  | cons x0 t0 =>
    cases t0 with
    | cons x1 t1 =>
      cases t1 with
      | cons x2 t2 =>
        cases t2 with
        | cons x3 t3 =>
          cases t3
          obtain ⟨tk, rfl⟩ := x0
          obtain rfl := x1
          obtain rfl := x2
          obtain rfl := x3
          refine .cons (.int _ tk) (.cons (.tup a1 b1 c1 (nums_is v1)) (.cons (.tup a2 b2 c2 (nums_is v2)) (.cons (.bool rfl) .nil)))
theorem EntsAt.is {P : Program} {w : World} {H : Hp} {h : Heap} (I : HOk P w H h) : ∀ {ks : List NKey} {xs : Ents}, EntsAt H ks xs → ∀ x ∈ xs, (nestedKind P w).is h x.1 x.2.1
  | _, _, .nil, _, hx => (nomatch hx)
  | _, _, .cons h t, x, hx => by
    rcases List.mem_cons.mp hx with rfl | hx
    · exact of_nk I h
    · exact t.is I x hx
theorem dict_is {P : Program} {w : World} {H : Hp} {h : Heap} (I : HOk P w H h) {d : Addr} {ks : List NKey} {xs : Ents} (e : H d = some (DictN P w d xs)) (hE : EntsAt H ks xs) : Heap.DictOfH (nestedKind P w) h d xs := by
  obtain ⟨⟨o, es, ep, h1, h2, h3, h4, h5⟩, _⟩ := I d _ e
  exact ⟨o, es, ep, h1, h2, h3, h4, fun x hx => hE.is I x hx, h5⟩
theorem ext_ok {P : Program} {w : World} {H : Hp} {h : Heap} {d : Addr} {xs : Ents} (D : Heap.DictOfH (nestedKind P w) h d xs) : ObjOk P w H h d (DictN P w d xs) := by
  obtain ⟨o, es, ep, h1, h2, h3, h4, _, h5⟩ := D
  refine ⟨⟨o, es, ep, h1, h2, h3, h4, h5⟩, ⟨o, h1⟩, fun a b ⟨o', es', ep', g1, g2⟩ f => ⟨o', es', ep', f _ g1, g2⟩⟩
theorem at_key : ∀ {H : Hp} {ks : List NKey} {xs : Ents} (k : NKey), EntsAt H ks xs → (atKey xs (nk k)).isSome = decide (k ∈ ks)
  | _, _, _, k, .nil => rfl
  | _, _, _, k, .cons (k := k') (a := a) (v := v) (ks := ks) (xs := xs) h t => by
    have ih := at_key k t
    unfold atKey at ih ⊢
    rw [List.find?_cons]
    by_cases e : k' = k
    · subst e
      rw [show decide ((nk k', a, v).1 = nk k') = true from decide_eq_true rfl]
      simp
    · rw [show decide ((nk k', a, v).1 = nk k) = false from decide_eq_false fun z => e (nk_inj z)]
      rw [ih]
      have : ¬ k = k' := fun z => e z.symm
      simp [this]
section
variable {X : Cx}
theorem op_notInN (hu : X.A.units + 16 < cLine) : OpR X (compareOp .NotIn) (fun x y H Q => ∃ (a d : Addr) (k : NKey) (ks : List NKey), x = .ref a ∧ y = .ref d ∧ NkAt H k a ∧ SeenN X.prog X.w H d ks ∧ Q (.bl (!decide (k ∈ ks))) H) := by
  intro pins s σ H x y v u Q I rx ry h
  obtain ⟨a, d, k, ks, rfl, rfl, hk, hS, q⟩ := h
  obtain rfl : v = Value.ref a := rx
  obtain rfl : u = Value.ref d := ry
  obtain ⟨xs, hd, hE⟩ := hS.ex
  refine PyProof.Rows.wpAny_notIn_heap (knd := nestedKind X.prog X.w) (k := nk k) (show X.A.units + 1 + 8 < cLine by omega) (of_nk I.hok hk) hS.nd (dict_is I.hok hd hE) ?_
  exact fin_bl (I.tok _) q (by rw [at_key k hE])
def rSetN (P : Program) (w : World) : V → V → V → Hp → (Hp → Prop) → Prop := fun o i v H Q => ∃ (d a : Addr) (k : NKey) (ks : List NKey), o = .ref d ∧ i = .ref a ∧ v = .bl true ∧ NkAt H k a ∧ SeenN P w H d ks ∧ k ∉ ks ∧ ks.length < 1000000 ∧ ∀ H' : Hp, (∀ b, b ≠ d → H' b = H b) → SeenN P w H' d (ks ++ [k]) → Q H'
theorem set_dN (hu : X.A.units + 16 < cLine) : PSet X (rSetN X.prog X.w) := by
  intro pins s σ H o i v ov iv u Q I ro ri rv h
  obtain ⟨d, a, k, ks, rfl, rfl, rfl, hk, hS, hn, hl, q⟩ := h
  obtain rfl : ov = Value.ref d := ro
  obtain rfl : iv = Value.ref a := ri
  obtain ⟨xs, hd, hE⟩ := hS.ex
  have lx := hE.len
  refine wpAny_setItem_heap (knd := nestedKind X.prog X.w) (k := nk k) (xs := xs) (show X.A.units + 1 + 8 < cLine by omega) (of_nk I.hok hk) (dict_is I.hok hd hE) (fun h' D sb => ?_) (by have : (1000000 : Nat) ≤ sizeLine := (by decide); omega)
  have es : storedH xs (nk k) a u = xs ++ [(nk k, a, u)] := by
    unfold storedH
    rw [at_key k hE, decide_eq_false hn, if_neg (by decide)]
  rw [es] at D
  have ex : ∃ q, h'.get? d = some q := by obtain ⟨o, _, _, e, _⟩ := D; exact ⟨o, e⟩
  have st : ∀ (p : Addr) (ys : List V), H p = some (.tup ys) → (upd H d (DictN X.prog X.w d (xs ++ [(nk k, a, u)]))) p = some (.tup ys) := fun p ys e => by
    by_cases c : p = d
    · rw [c, hd] at e; cases e
    · rw [upd_ne c]; exact e
  refine ⟨upd H d (DictN X.prog X.w d (xs ++ [(nk k, a, u)])), d_write I (by rw [hd]; exact True.intro) sb ex (ext_ok D), q _ (fun b n => upd_ne n) ⟨hS.nd, by rw [List.length_append, List.length_singleton]; omega, _, upd_same, (hE.mono st).snoc (hk.mono st)⟩⟩
def tDNewN (P : Program) (w : World) : TE := fun _ H Q => ∀ p, H p = none → ∀ H' : Hp, (∀ b, b ≠ p → H' b = H b) → SeenN P w H' p [] → Q (.ref p) H'
theorem pe_dnewN {pos : Pos} : PE X (.Dict [] [] pos) (tDNewN X.prog X.w) := by
  refine ⟨fun pins s σ H Q I q => ?_⟩
  refine thn ((pe_dnewT (X := X) (pos := pos)).run pins s σ H (fun x H1 => ∃ p, x = .ref p ∧ H p = none ∧ H1 = upd H p (.dT [])) I (fun p np => ⟨p, rfl, np, rfl⟩)) fun u s1 ⟨x, H1, I1, rx, p, ex, np, eH⟩ => ?_
  subst ex eH
  obtain rfl : u = Value.ref p := rx
  obtain ⟨_, nd, xs, hK, D⟩ := dt_of I1.hok (upd_same (H := H) (a := p) (o := .dT []))
  obtain ⟨o, es, ep, h1, h2, h3, h4, _, _⟩ := D
  have e0 : xs = [] := by cases hK; rfl
  subst e0
  have D' : Heap.DictOfH (nestedKind X.prog X.w) s1.heap p [] := ⟨o, es, ep, h1, h2, h3, h4, fun x hx => (nomatch hx), List.nodup_nil⟩
  refine ⟨.ref p, upd (upd H p (.dT [])) p (DictN X.prog X.w p []), d_write I1 (by rw [upd_same]; exact True.intro) ⟨rfl, fun _ _ => rfl⟩ ⟨o, h1⟩ (ext_ok D'), rfl, q p np _ (fun b n => by rw [upd_ne n, upd_ne n]) ⟨nd, Nat.zero_le _, [], upd_same, .nil⟩⟩
end
end DnT

/-! the law's own search: it ends -/
namespace SS
open PySem EM CoM SR DnT
/-- without new items, pieces and rest together stay -/
theorem keep_perf (sz : Nat) (s : Str) (x : RP) : (perfM sz [] s x).pieces.flatten ++ (perfM sz [] s x).rest = x.pieces.flatten ++ x.rest := by
  unfold perfM
  by_cases a1 : s = "add"
  · rw [if_pos a1]; show _ ++ (x.rest ++ []) = _; rw [List.append_nil]
  rw [if_neg a1]
  by_cases a2 : s = "hand"
  · rw [if_pos a2]
    show (x.pieces ++ [[]]).flatten ++ x.rest = _
    rw [List.flatten_append]; simp
  rw [if_neg a2]
  by_cases a3 : s = "cut"
  · rw [if_pos a3]
    show (x.pieces ++ cutN sz x.rest (x.rest.length / sz)).flatten ++ x.rest.drop (x.rest.length / sz * sz) = _
    rw [List.flatten_append, cutN_flat, List.append_assoc, List.take_append_drop]
  rw [if_neg a3]
  by_cases a4 : s = "flush"
  · rw [if_pos a4]
    show (x.pieces ++ [x.rest]).flatten ++ [] = _
    rw [List.flatten_append, List.append_nil]; simp
  · rw [if_neg a4]
theorem keep_run (sz : Nat) (told : Bool) : ∀ (ro : List (Str × Str)) (x : RP), (runW sz [] told ro x).1.pieces.flatten ++ (runW sz [] told ro x).1.rest = x.pieces.flatten ++ x.rest
  | [], x => rfl
  | (t, s) :: r, x => by
    unfold runW
    split
    · split
      · rfl
      split
      · rfl
      rw [keep_run sz told r, keep_perf]
    · exact keep_run sz told r x
theorem keep_ans {sz : Nat} {ro eo : List (Str × Str)} {told : Bool} {x : RP} (h : (ansM sz ro eo [] told x).2 = false) : (ansM sz ro eo [] told x).1.pieces.flatten ++ (ansM sz ro eo [] told x).1.rest = x.pieces.flatten ++ x.rest := by
  unfold ansM at h ⊢
  by_cases c : (runW sz [] told ro x).2 = true
  · rw [if_pos c] at h; cases h
  · rw [if_neg c]; exact keep_run sz told ro x
/-- a reply without items: the rest gets shorter, or nothing changes -/
theorem zero_ans {sz : Nat} {ro eo : List (Str × Str)} {told : Bool} {x : RP} (h : (ansM sz ro eo [] told x).2 = false) :
    (ansM sz ro eo [] told x).1.rest.length < x.rest.length ∨ ((ansM sz ro eo [] told x).1.rest = x.rest ∧ (ansM sz ro eo [] told x).1.pieces.flatten = x.pieces.flatten) := by
  obtain ⟨d, e⟩ := FJ.ans_suffix x h
  have k := keep_ans h
  by_cases c : (ansM sz ro eo [] told x).1.rest.length < x.rest.length
  · exact .inl c
  · right
    have l := congrArg List.length e
    rw [List.length_drop] at l
    have er : (ansM sz ro eo [] told x).1.rest = x.rest := by
      rw [e]
      by_cases d0 : d = 0
      · rw [d0]; rfl
      · have : x.rest = [] := List.eq_nil_of_length_eq_zero (by omega)
        rw [this, List.drop_nil]
    refine ⟨er, ?_⟩
    rw [er] at k
    exact List.append_cancel_right k
/-- how long the rest can get -/
theorem rest_le {sz : Nat} {ro eo : List (Str × Str)} (ha : adds ro ≤ 1) {held : List Int} {told : Bool} {x : RP} (h : (ansM sz ro eo held told x).2 = false) : (ansM sz ro eo held told x).1.rest.length ≤ x.rest.length + held.length := by
  unfold ansM at h ⊢
  by_cases c : (runW sz held told ro x).2 = true
  · rw [if_pos c] at h; cases h
  · rw [if_neg c]
    have a := (lt_run (size := sz) (told := told) (Nat.le_refl held.length) ro x.rest.length (wt x.pieces) x ⟨Nat.le_refl _, Nat.le_refl _⟩).1
    have : adds ro * held.length ≤ 1 * held.length := Nat.mul_le_mul_right _ ha
    show (runW sz held told ro x).1.rest.length ≤ _
    omega
theorem pcs_ans (sz : Nat) (ro eo : List (Str × Str)) (held : List Int) (told : Bool) (x : RP) : ∃ d, (ansM sz ro eo held told x).1.pieces = x.pieces ++ d := by
  rw [ans_from]
  exact ⟨_, rfl⟩
/-! ### weights -/
def oddP (sz : Nat) (x : RP) : Bool := x.pieces.any fun p => decide (p.length ≠ sz)
def keyM (sz left : Nat) (x : RP) : NKey := ⟨left, x.rest, x.pieces.flatten, oddP sz x⟩
/-- new: nothing was seen of it -/
def kM (sz : Nat) (x : RP) (new : Bool) : Nat := 3 * x.rest.length + (if new = true then 2 else if oddP sz x = true then 0 else 1)
def wM (l k : Nat) : Nat := 15 ^ l * (k + 1)
/-- the weight of what can follow -/
def wO (l k : Nat) (r : Nat × Bool) : Nat := if r.1 = 0 then 15 ^ l * k else 14 * 15 ^ (l - r.1)
theorem oddP_more {sz : Nat} {x x' : RP} (h : ∃ d, x'.pieces = x.pieces ++ d) (o : oddP sz x = true) : oddP sz x' = true := by
  obtain ⟨d, e⟩ := h
  unfold oddP at o ⊢
  rw [e, List.any_append, o, Bool.true_or]
theorem child_w {sz l : Nat} {ro eo : List (Str × Str)} (ha : adds ro ≤ 1) {x : RP} {new : Bool} {r : Nat × Bool} {held : List Int} (hh : held.length = r.1) (hl : r.1 ≤ l) (hr : x.rest.length + l ≤ 4) (hs : (ansM sz ro eo held r.2 x).2 = false) (hk : new = false → (keyM sz (l - r.1) (ansM sz ro eo held r.2 x).1) ≠ keyM sz l x) :
    wM (l - r.1) (kM sz (ansM sz ro eo held r.2 x).1 false) ≤ wO l (kM sz x new) r ∧ (ansM sz ro eo held r.2 x).1.rest.length + (l - r.1) ≤ 4 := by
  have rl := rest_le ha hs
  rw [hh] at rl
  refine ⟨?_, by omega⟩
  unfold wO wM
  by_cases r0 : r.1 = 0
  · rw [if_pos r0, r0, Nat.sub_zero]
    refine Nat.mul_le_mul_left _ ?_
    have h0 : held = [] := List.eq_nil_of_length_eq_zero (by omega)
    subst h0
    have o := oddP_more (sz := sz) (pcs_ans sz ro eo [] r.2 x)
    unfold kM
    rw [if_neg (show ¬ false = true by decide)]
    rcases zero_ans hs with c | ⟨c1, c2⟩
    · split <;> split <;> first | omega | (split <;> omega)
    · rw [c1]
      cases new with
      | true =>
        rw [if_pos rfl]
        split <;> omega
      | false =>
        have k := hk rfl
        rw [r0, Nat.sub_zero] at k
        unfold keyM at k
        rw [c1, c2] at k
        have ne : oddP sz (ansM sz ro eo [] r.2 x).1 ≠ oddP sz x := fun q => k (by rw [q])
        rw [if_neg (show ¬ false = true by decide)]
        cases h1 : oddP sz x with
        | true => rw [h1] at ne; exact absurd (o h1) ne
        | false =>
          rw [h1] at ne
          have : oddP sz (ansM sz ro eo [] r.2 x).1 = true := by simpa using ne
          rw [if_pos this, if_neg (by decide)]
          omega
  · rw [if_neg r0]
    have : kM sz (ansM sz ro eo held r.2 x).1 false + 1 ≤ 14 := by
      unfold kM
      rw [if_neg (by decide)]
      have : x.rest.length + l ≤ 4 := hr
      split <;> omega
    rw [Nat.mul_comm 14]
    exact Nat.mul_le_mul_left _ this
/-- all that can follow weighs less -/
theorem sum_rg (l : Nat) : ∀ m, m ≤ l → ((List.range m).map fun i => 14 * 15 ^ (l - (i + 1))).sum + 15 ^ (l - m) = 15 ^ l
  | 0, _ => by simp
  | m + 1, h => by
    have ih := sum_rg l m (by omega)
    rw [List.range_succ, List.map_append, List.sum_append]
    have e : 15 ^ (l - m) = 15 * 15 ^ (l - (m + 1)) := by
      rw [show l - m = (l - (m + 1)) + 1 by omega, Nat.pow_succ, Nat.mul_comm]
    simp only [List.map_cons, List.map_nil, List.sum_cons, List.sum_nil]
    omega
theorem sum_filter {α : Type} (f : α → Nat) (p : α → Bool) : ∀ xs : List α, ((xs.filter p).map f).sum ≤ (xs.map f).sum
  | [] => Nat.le_refl _
  | x :: r => by
    have ih := sum_filter f p r
    rw [List.map_cons, List.sum_cons]
    by_cases h : p x = true
    · rw [List.filter_cons_of_pos h, List.map_cons, List.sum_cons]; omega
    · rw [List.filter_cons_of_neg h]; omega
theorem opt_w (l k m : Nat) (hm : m ≤ l) (wait : Bool) (p : Nat → Bool) (g : Nat → Bool) :
    ((((if wait = true then [(0, false)] else []) ++ ((List.range m).filter p).map fun i => (i + 1, g i) : List (Nat × Bool))).map (wO l k)).sum + 1 ≤ wM l k := by
  rw [List.map_append, List.sum_append, List.map_map]
  have a := sum_filter (wO l k ∘ fun i => (i + 1, g i)) p (List.range m)
  have b : (List.range m).map (wO l k ∘ fun i => (i + 1, g i)) = (List.range m).map fun i => 14 * 15 ^ (l - (i + 1)) := List.map_congr_left fun i _ => by
    show wO l k (i + 1, g i) = _
    unfold wO
    rw [if_neg (show ¬ i + 1 = 0 by omega)]
  rw [b] at a
  have c := sum_rg l m hm
  have d : 1 ≤ 15 ^ (l - m) := Nat.one_le_pow _ _ (by decide)
  have e : ((if wait = true then [((0 : Nat), false)] else []).map (wO l k)).sum ≤ 15 ^ l * k := by
    split
    · show wO l k (0, false) + 0 ≤ _
      unfold wO
      rw [if_pos rfl]
      exact Nat.le_refl _
    · exact Nat.zero_le _
  unfold wM
  rw [Nat.mul_succ]
  omega
theorem opt_w0 (k : Nat) (t : Bool) : (([((0 : Nat), t)]).map (wO 0 k)).sum + 1 ≤ wM 0 k := by
  show wO 0 k (0, t) + 0 + 1 ≤ _
  unfold wO wM
  rw [if_pos rfl]
  show 15 ^ 0 * k + 0 + 1 ≤ 15 ^ 0 * (k + 1)
  rw [Nat.pow_zero]
  omega
end SS

/-! what matters of a state: _law_key -/
namespace My
open PySem L2 Cm LM EM
abbrev sKy : Stmt := top 134
abbrev PK3 : List Str := ["_law_left", "_law_box_here", "_law_wide"]
abbrev NKy : List Str := ["_law_left", "_law_box_here", "_law_wide", "_law_each"]
structure TxKy (K : PySem.W.Frag) (mg : Str → Option Value) where
  L : TxLw K mg
  key : Df K mg "_law_key" sKy PK3
section
variable {P : Program} {w : World} {K : PySem.W.Frag} {mg : Str → Option Value} {base : Heap}
def tNeK : TE := fun σ H Q => ∃ (a : Addr) (xs : List V) (n : Nat), σ[3]? = some (some (.ref a)) ∧ σ[2]? = some (some (.int (n : Nat))) ∧ H a = some (.tup xs) ∧ Q (.bl (decide (xs.length ≠ n))) H
def spKy (j : Addr) : Sp := fun vs H Q _ => ∃ (b : Addr) (left sz g : Nat) (x : RP) (ov : Bool), vs = [.int (left : Nat), .ref b, .int (sz : Nat)] ∧ BoxJ j H b x g ov ∧ wt x.pieces ≤ 400000 ∧ x.rest.length ≤ 400000 ∧
  ∀ (H' : Hp) (q : Addr), Same H H' → H q = none → DnT.NkAt H' (SS.keyM sz left x) q → Q (.ref q) H'
theorem scKy : FnScope NKy PK3 (defScope sKy) := ⟨rfl, rfl, rfl, by decide +kernel, rfl, by decide +kernel, by decide +kernel⟩
theorem ok_ky (R : TxKy K mg) (j : Addr) : FnOk P w K mg base CX0 2 R.key.f R.key.fd PK3 (spKy j) := by
  have GF : FnOk P w K mg base CX0 1 R.L.flt.f R.L.flt.fd ["_law_out"] spFl := ok_fl R.L
  refine R.key.F.ok scKy (fun vs H Q E h => ?_) (fun cdv A outer s H vs Q E hr h => ?_)
  · obtain ⟨_, _, _, _, _, _, rfl, _⟩ := h
    rfl
  · obtain ⟨b, left, sz, g, x, ov, rfl, hB, hw, hx, k⟩ := h
    have hu := hu_of hr
    refine ⟨_, (pss_one (ps_ret (pe_tup (pa_cons (pv 0) (pa_cons (pe_callTy call_tuple_of (by rfl) R.L.B.tuple (by decide +kernel) (pa_cons (pe_dget hu (pv 1) pe_str (fun _ _ => rfl)) pa_nil)) (pa_cons (pe_callTy call_tuple_of (by rfl) R.L.B.tuple (by decide +kernel) (pa_cons (pe_call GF hr rfl R.L.flt.g R.L.flt.k R.L.flt.b .nil pass0 (pa_cons (pe_dget hu (pv 1) pe_str (fun _ _ => rfl)) pa_nil)) pa_nil)) (pa_cons (pe_callB (cr_any rfl) (by rfl) R.L.any (by decide +kernel) (pa_cons (pe_lc (own := [("_law_each", 3)]) (g := gName 3) (tt := tYes) (te := tNeK) rfl scKy.nd (pi_list (pe_dget hu (pv 1) pe_str (fun _ _ => rfl))) (blkOk_by (own := [("_law_each", 3)]) (N := NKy) (sc := defScope sKy) (by decide +kernel)) (fun _ _ _ _ _ => pg_name (i := 3) scKy.nd rfl (Or.inl rfl)) (fun _ _ _ _ _ => pts_nil) (fun _ _ _ _ _ => by exact pe_imp (t' := tNeK) (pe_cmpR op_ne (pe_callB call_len_seq (by rfl) R.L.D.J.len PySem.boot_len (pa_cons (pv 3) pa_nil)) (pv 2) (nomark _)) (fun σ H1 Q1 ⟨q, xs, n, h3, h2, hq, k⟩ => ⟨_, h3, q, _, rfl, .inr (SqT.of hq), _, h2, rfl, (by rw [show (!decide (V.int ((xs.length : Nat) : Int) = V.int ((n : Nat) : Int))) = decide (xs.length ≠ n) from by rw [← decide_not]; exact decide_eq_decide.mpr ⟨fun h z => h (by rw [z]), fun h z => h (by have := V.int.inj z; omega)⟩]; exact k)⟩))) pa_nil)) pa_nil))))))), ?_⟩
    obtain ⟨r2, u2, vs2, hd2, hr2, hu2, hP2, nr2, nu2⟩ := id hB.ex
    have lp := hP2.len
    have lw := wt_flat x.pieces
    refine ⟨_, rfl, _, rfl, b, _, rfl, get_r hd2, r2, _, rfl, .inl ⟨SqL.of hr2, fun q1 nq1 => ?_⟩⟩
    have s1 := same_new (o := .tup (ivs x.rest)) nq1
    have hq1 : (upd H q1 (.tup (ivs x.rest))) q1 = some (.tup (ivs x.rest)) := upd_same
    generalize upd H q1 (.tup (ivs x.rest)) = H1 at s1 hq1 ⊢
    refine ⟨_, rfl, b, _, rfl, get_u (s1 _ _ hd2), u2, vs2, x.pieces, rfl, s1 _ _ hu2, hP2.same s1, hw, fun H2 z s2 nz hz => ?_⟩
    refine ⟨z, _, rfl, .inl ⟨SqL.of hz, fun q2 nq2 => ?_⟩⟩
    have s3 := same_new (o := .tup (ivs x.pieces.flatten)) nq2
    have hq2 : (upd H2 q2 (.tup (ivs x.pieces.flatten))) q2 = some (.tup (ivs x.pieces.flatten)) := upd_same
    generalize upd H2 q2 (.tup (ivs x.pieces.flatten)) = H3 at s3 hq2 ⊢
    have s13 := Same.trans s1 (Same.trans s2 s3)
    refine ⟨_, rfl, b, _, rfl, get_u (s13 _ _ hd2), u2, rfl, ⟨_, SqL.of (s13 _ _ hu2)⟩, fun D nD => ?_⟩
    refine lc_list (K := K) (a := u2) (xs := vs2) (fun i H' => Same H3 H' ∧ H' D = some (.lst (((x.pieces.take i).map fun p => decide (p.length ≠ sz)).map V.bl))) ⟨same_new nD, upd_same⟩ (fun i H' _ ⟨s', _⟩ => SqL.of (s' _ _ (s13 _ _ hu2))) ?_ ?_
    · rintro i y H4 hy ⟨s4, hD4⟩
      obtain ⟨q', pc, hpc, rfl, hq'⟩ := hP2.getL hy
      refine ⟨rfl, q', _, sz, rfl, rfl, s4 _ _ (s13 _ _ hq'), _, hD4, szM (by rw [List.length_map, List.length_map, List.length_take]; omega), fun b u e => ?_, ?_⟩
      · rw [upd_ne (ne_of_none e nD)]
        exact s4 _ _ e
      · rw [upd_same, take_get hpc, ivs_len]
        simp
    rintro H4 ⟨s4, hD4⟩
    rw [lp, List.take_length] at hD4
    refine ⟨D, _, rfl, SqL.of hD4, (by show 4 ≤ sizeLine; decide), fun q nq => ?_⟩
    rw [any_map]
    have s5 := same_new (o := .tup [.int (left : Nat), .ref q1, .ref q2, .bl (x.pieces.any fun p => decide (p.length ≠ sz))]) nq
    refine k _ q (Same.trans s13 (Same.trans s4 s5)) ((Same.trans s13 s4).free nq) ⟨q1, q2, upd_same, ?_, ?_⟩
    · exact s5 _ _ (s4 _ _ (s3 _ _ (s2 _ _ hq1)))
    · exact s5 _ _ (s4 _ _ hq2)
end
end My

/-! a list of anything against the empty list -/
namespace NeN
open PySem L2
theorem lst_is {P : Program} {w : World} {H : Hp} {h : Heap} (I : HOk P w H h) {a : Addr} {xs : List V} (e : H a = some (.lst xs)) : ∃ its : List Value, Vals xs its ∧ h.IsList a its.toArray := by
  obtain ⟨_, its, n, hv, ho⟩ := I a _ e
  exact ⟨its, hv, _, ho, rfl, n, rfl⟩
section
variable {X : Cx}
theorem op_neNil (hu : X.A.units + 16 < cLine) : OpR X (compareOp .NotEq) (fun x y H Q => ∃ (a b : Addr) (xs : List V), x = .ref a ∧ y = .ref b ∧ H a = some (.lst xs) ∧ H b = some (.lst []) ∧ Q (.bl (!xs.isEmpty)) H) := by
  intro pins s σ H x y v u Q I rx ry h
  obtain ⟨a, b, xs, rfl, rfl, ha, hb, q⟩ := h
  obtain rfl : v = Value.ref a := rx
  obtain rfl : u = Value.ref b := ry
  obtain ⟨its, hv, hl⟩ := lst_is I.hok ha
  obtain ⟨its2, hv2, hl2⟩ := lst_is I.hok hb
  cases hv2
  cases hv with
  | nil => exact SeqAt.RcNeAt.lists (e := fun _ => true) hl hl2 rfl (by omega) (fun j h1 => absurd h1 (Nat.not_lt_zero _)) _ _ _ _ (fin_bl I q rfl)
  | cons r t => exact SeqAt.RcNeAt.lists_lengths hl hl2 rfl (by omega) _ _ _ _ (fin_bl I q rfl)
end
end NeN

/-! the law's own search: its states in the heap -/
namespace My
open PySem L2 Cm LM EM
abbrev Ent := FJ.Rep × Nat × CoM.RS' × Bool
def OffS (g d : Addr) (H H' : Hp) : Prop := ∀ a o, a ≠ g → a ≠ d → H a = some o → H' a = some o
/-- a state in the heap: its lists are not g -/
structure EnO (g : Addr) (H : Hp) (a : Addr) (e : Ent) : Prop where
  ex : ∃ tl b tvs, H a = some (.tup [.ref tl, .int (e.2.1 : Nat), .ref b]) ∧ H tl = some (.lst tvs) ∧ tl ≠ g ∧ Rps H tvs e.1 ∧ BoxJ g H b e.2.2.1.x e.2.2.1.f false
theorem EnO.same {g : Addr} {H H' : Hp} {a : Addr} {e : Ent} (s : Same H H') (h : EnO g H a e) : EnO g H' a e := by
  obtain ⟨tl, b, tvs, h1, h2, h3, h4, h5⟩ := h.ex
  exact ⟨tl, b, tvs, s _ _ h1, s _ _ h2, h3, h4.same s, h5.same s⟩
theorem EnO.fresh {g0 g : Addr} {H : Hp} {a : Addr} {e : Ent} (n : H g = none) (h : EnO g0 H a e) : EnO g H a e := by
  obtain ⟨tl, b, tvs, h1, h2, h3, h4, h5⟩ := h.ex
  obtain ⟨r, u, vs, a1, a2, a3, a4, a5, a6⟩ := h5.ex
  exact ⟨tl, b, tvs, h1, h2, ne_of_none h2 n, h4, ⟨r, u, vs, a1, a2, a3, a4, ne_of_none a2 n, ne_of_none a3 n⟩⟩
theorem tup_off {g d : Addr} {H H' : Hp} {gvs : List V} {D : Heap → Prop} (o : OffS g d H H') (hg : H g = some (.lst gvs)) (hd : H d = some (.ext D)) : ∀ (p : Addr) (xs : List V), H p = some (.tup xs) → H' p = some (.tup xs) := fun p xs e => o _ _ (ne_of e hg (by intro z; cases z)) (ne_of e hd (by intro z; cases z)) e
theorem box_off {g d b : Addr} {H H' : Hp} {gvs : List V} {D : Heap → Prop} {x : RP} {f : Nat} {ov : Bool} (o : OffS g d H H') (hg : H g = some (.lst gvs)) (hd : H d = some (.ext D)) (h : BoxJ g H b x f ov) : BoxJ g H' b x f ov := by
  obtain ⟨r, u, vs, a1, a2, a3, a4, a5, a6⟩ := h.ex
  exact ⟨r, u, vs, o _ _ (ne_of a1 hg (by intro z; cases z)) (ne_of a1 hd (by intro z; cases z)) a1, o _ _ a5 (ne_of a2 hd (by intro z; cases z)) a2, o _ _ a6 (ne_of a3 hd (by intro z; cases z)) a3, a4.mono (tup_off o hg hd), a5, a6⟩
theorem EnO.off {g d : Addr} {H H' : Hp} {gvs : List V} {D : Heap → Prop} {a : Addr} {e : Ent} (o : OffS g d H H') (hg : H g = some (.lst gvs)) (hd : H d = some (.ext D)) (h : EnO g H a e) : EnO g H' a e := by
  obtain ⟨tl, b, tvs, h1, h2, h3, h4, h5⟩ := h.ex
  exact ⟨tl, b, tvs, tup_off o hg hd _ _ h1, o _ _ h3 (ne_of h2 hd (by intro z; cases z)) h2, h3, h4.mono (tup_off o hg hd), box_off o hg hd h5⟩
inductive Ens (g : Addr) (H : Hp) : List V → List Ent → Prop
  | nil : Ens g H [] []
  | cons {a : Addr} {e : Ent} {vs : List V} {es : List Ent} (h : EnO g H a e) (t : Ens g H vs es) : Ens g H (.ref a :: vs) (e :: es)
theorem Ens.map {g g' : Addr} {H H' : Hp} (f : ∀ a e, EnO g H a e → EnO g' H' a e) : ∀ {vs es}, Ens g H vs es → Ens g' H' vs es
  | _, _, .nil => .nil
  | _, _, .cons h t => .cons (f _ _ h) (t.map f)
theorem Ens.snoc {g : Addr} {H : Hp} {a : Addr} {e : Ent} (h : EnO g H a e) : ∀ {vs es}, Ens g H vs es → Ens g H (vs ++ [.ref a]) (es ++ [e])
  | _, _, .nil => .cons h .nil
  | _, _, .cons h2 t => .cons h2 (t.snoc h)
theorem Ens.len {g : Addr} {H : Hp} : ∀ {vs es}, Ens g H vs es → vs.length = es.length
  | _, _, .nil => rfl
  | _, _, .cons _ t => congrArg (· + 1) t.len
theorem Ens.get {g : Addr} {H : Hp} : ∀ {vs es} {i : Nat} {y : V}, Ens g H vs es → vs[i]? = some y → ∃ (a : Addr) (e : Ent), y = .ref a ∧ es[i]? = some e ∧ EnO g H a e
  | _, _, i, y, .nil, h => by simp at h
  | _, _, 0, y, .cons h t, e => ⟨_, _, (Option.some.inj e).symm, rfl, h⟩
  | _, _, i + 1, y, .cons _ t, e => t.get (i := i) e
/-- what is known of a state -/
structure EnG (sz : Nat) (G : Nat → CoM.RS' → Prop) (ks : List DnT.NKey) (e : Ent) : Prop where
  st : e.2.2.1.st = false
  g : G e.2.1 e.2.2.1
  r : e.2.2.1.x.rest.length + e.2.1 ≤ 4
  f : e.2.2.1.f + e.2.1 ≤ 4
  w : wt e.2.2.1.x.pieces ≤ 1000 * e.1.length
  d : e.1.length + 15 * e.2.1 + SS.kM sz e.2.2.1.x e.2.2.2 ≤ 62
  k : e.2.2.2 = false → SS.keyM sz e.2.1 e.2.2.1.x ∈ ks
theorem EnG.more {sz : Nat} {G : Nat → CoM.RS' → Prop} {ks ks' : List DnT.NKey} (m : ∀ k ∈ ks, k ∈ ks') {e : Ent} (h : EnG sz G ks e) : EnG sz G ks' e := ⟨h.st, h.g, h.r, h.f, h.w, h.d, fun q => m _ (h.k q)⟩
def wE (sz : Nat) (e : Ent) : Nat := SS.wM e.2.1 (SS.kM sz e.2.2.1.x e.2.2.2)
def sE (sz : Nat) (es : List Ent) : Nat := (es.map (wE sz)).sum
theorem sE_app (sz : Nat) (a b : List Ent) : sE sz (a ++ b) = sE sz a + sE sz b := by unfold sE; rw [List.map_append, List.sum_append]
theorem sE_one (sz : Nat) (e : Ent) : sE sz [e] = wE sz e := by unfold sE; simp
theorem sE_len (sz : Nat) : ∀ es : List Ent, es.length ≤ sE sz es
  | [] => Nat.zero_le _
  | e :: r => by
    have ih := sE_len sz r
    have : 1 ≤ wE sz e := Nat.mul_pos (Nat.pow_pos (by decide)) (Nat.succ_pos _)
    have : sE sz (e :: r) = wE sz e + sE sz r := by
      show ((e :: r).map (wE sz)).sum = _
      rw [List.map_cons, List.sum_cons]
      rfl
    rw [List.length_cons]
    omega
theorem sE_drop {sz : Nat} {es : List Ent} {i : Nat} {e : Ent} (h : es[i]? = some e) : sE sz (es.drop i) = wE sz e + sE sz (es.drop (i + 1)) := by
  have lt : i < es.length := (List.getElem?_eq_some_iff.mp h).1
  have e1 : es.drop i = e :: es.drop (i + 1) := by
    rw [List.drop_eq_getElem_cons lt, (List.getElem?_eq_some_iff.mp h).2]
  rw [e1]
  show ((e :: es.drop (i + 1)).map (wE sz)).sum = _
  rw [List.map_cons, List.sum_cons]
  rfl
def sO (l k : Nat) (rs : FJ.Rep) : Nat := (rs.map (SS.wO l k)).sum
theorem sO_drop {l k : Nat} {rs : FJ.Rep} {i : Nat} {r : Nat × Bool} (h : rs[i]? = some r) : sO l k (rs.drop i) = SS.wO l k r + sO l k (rs.drop (i + 1)) := by
  have lt : i < rs.length := (List.getElem?_eq_some_iff.mp h).1
  have e1 : rs.drop i = r :: rs.drop (i + 1) := by
    rw [List.drop_eq_getElem_cons lt, (List.getElem?_eq_some_iff.mp h).2]
  rw [e1]
  show ((r :: rs.drop (i + 1)).map (SS.wO l k)).sum = _
  rw [List.map_cons, List.sum_cons]
  rfl
theorem sO_opt (A B E : Str) (left sz k : Nat) : sO left k (optM A B E left sz) + 1 ≤ SS.wM left k := by
  unfold sO optM
  by_cases l0 : left = 0
  · rw [if_pos l0, l0]
    exact SS.opt_w0 k _
  · rw [if_neg l0]
    have := SS.opt_w left k (min left sz) (Nat.min_le_left _ _) (decide (B = "waiting")) (fun i => decide (A = "short" ∨ i + 1 = min left sz)) (fun i => decide (E = "with") && decide (i + 1 = left))
    by_cases b : B = "waiting"
    · rw [if_pos b]
      rw [if_pos (decide_eq_true b)] at this
      exact this
    · rw [if_neg b]
      rw [if_neg (fun z => b (of_decide_eq_true z))] at this
      exact this
/-- one reply further: weights and bounds -/
theorem child {sz : Nat} {ro eo : List (Str × Str)} (l1 : ro.length ≤ 12) (l2 : eo.length ≤ 6) (a1 : adds ro ≤ 1) (a2 : adds eo = 0) {G : Nat → CoM.RS' → Prop} {ks : List DnT.NKey} {e : Ent} (h : EnG sz G ks e) {r : Nat × Bool} (hl : r.1 ≤ e.2.1) :
    wt (CoM.stp sz ro eo e.2.2.1 r).x.pieces ≤ 1000 * (e.1.length + 1) ∧ (CoM.stp sz ro eo e.2.2.1 r).x.rest.length ≤ 8 ∧ (CoM.stp sz ro eo e.2.2.1 r).f = e.2.2.1.f + r.1 ∧
    ((CoM.stp sz ro eo e.2.2.1 r).st = false → SS.keyM sz (e.2.1 - r.1) (CoM.stp sz ro eo e.2.2.1 r).x ∉ ks → ∀ g2 : G (e.2.1 - r.1) (CoM.stp sz ro eo e.2.2.1 r), ∀ (rs' : FJ.Rep) (ks' : List DnT.NKey), rs'.length = e.1.length + 1 → SS.keyM sz (e.2.1 - r.1) (CoM.stp sz ro eo e.2.2.1 r).x ∈ ks' →
      EnG sz G ks' (rs', e.2.1 - r.1, CoM.stp sz ro eo e.2.2.1 r, false) ∧ wE sz (rs', e.2.1 - r.1, CoM.stp sz ro eo e.2.2.1 r, false) ≤ SS.wO e.2.1 (SS.kM sz e.2.2.1.x e.2.2.2) r) := by
  obtain ⟨rs, left, s, new⟩ := e
  obtain ⟨st, g, hr, hf, hw, hd, hk⟩ := h
  have es : CoM.stp sz ro eo s r = ⟨(ansM sz ro eo (CoM.itF s.f r.1) r.2 s.x).1, s.f + r.1, s.u + 1, (ansM sz ro eo (CoM.itF s.f r.1) r.2 s.x).2⟩ := by
    unfold CoM.stp
    rw [if_neg (by rw [show s.st = false from st]; decide)]
  have hl : r.1 ≤ left := hl
  have hr : s.x.rest.length + left ≤ 4 := hr
  have hw : wt s.x.pieces ≤ 1000 * rs.length := hw
  have hd : rs.length + 15 * left + SS.kM sz s.x new ≤ 62 := hd
  have hf : s.f + left ≤ 4 := hf
  have lt := lt_ans (size := sz) (told := r.2) (held := CoM.itF s.f r.1) (h := 4) (by rw [CoM.itF_len]; omega) l1 l2 a1 a2 (x := s.x) (r := 4) (w := 1000 * rs.length) ⟨by omega, hw⟩
  show wt (CoM.stp sz ro eo s r).x.pieces ≤ 1000 * (rs.length + 1) ∧ (CoM.stp sz ro eo s r).x.rest.length ≤ 8 ∧ (CoM.stp sz ro eo s r).f = s.f + r.1 ∧ _
  rw [es]
  refine ⟨Nat.le_trans lt.2 (by omega), lt.1, rfl, fun hs hn g2 rs' ks' hl' hm => ?_⟩
  have hs : (ansM sz ro eo (CoM.itF s.f r.1) r.2 s.x).2 = false := by
    have : (CoM.stp sz ro eo s r).st = false := by first | exact hs | (rw [es]; exact hs)
    rw [es] at this; exact this
  have cw := SS.child_w (sz := sz) (l := left) (new := new) a1 (held := CoM.itF s.f r.1) (CoM.itF_len _ _) hl hr hs (fun q z => hn (by
    show SS.keyM sz (left - r.1) _ ∈ ks
    first | (rw [z]; exact hk q) | (rw [es]; rw [z]; exact hk q)))
  have dd : 15 * (left - r.1) + SS.kM sz (ansM sz ro eo (CoM.itF s.f r.1) r.2 s.x).1 false + 1 ≤ 15 * left + SS.kM sz s.x new := by
    have c1 := cw.1
    unfold SS.wO SS.wM at c1
    by_cases r0 : r.1 = 0
    · rw [if_pos r0, r0, Nat.sub_zero] at c1
      have := Nat.le_of_mul_le_mul_left c1 (Nat.pow_pos (by decide))
      rw [r0, Nat.sub_zero]
      omega
    · have := cw.2
      have : SS.kM sz (ansM sz ro eo (CoM.itF s.f r.1) r.2 s.x).1 false ≤ 13 := by
        unfold SS.kM
        rw [if_neg (show ¬ false = true by decide)]
        split <;> omega
      omega
  have g2' : G (left - r.1) ⟨(ansM sz ro eo (CoM.itF s.f r.1) r.2 s.x).1, s.f + r.1, s.u + 1, (ansM sz ro eo (CoM.itF s.f r.1) r.2 s.x).2⟩ := by
    first | exact g2 | (rw [es] at g2; exact g2)
  refine ⟨⟨hs, g2', cw.2, by show s.f + r.1 + (left - r.1) ≤ 4; omega, ?_, ?_, fun _ => hm⟩, cw.1⟩
  · show wt (ansM sz ro eo (CoM.itF s.f r.1) r.2 s.x).1.pieces ≤ 1000 * rs'.length
    rw [hl']
    exact Nat.le_trans lt.2 (by show 1000 * rs.length + _ ≤ 1000 * (rs.length + 1); omega)
  · show rs'.length + 15 * (left - r.1) + SS.kM sz (ansM sz ro eo (CoM.itF s.f r.1) r.2 s.x).1 false ≤ 62
    have : rs'.length = rs.length + 1 := hl'
    omega
/-- one level of the search, under way -/
structure LeS (P : Program) (w : World) (H H' : Hp) (lv d g : Addr) (lvs : List V) (es : List Ent) (gvs : List V) (gs : List Ent) (ks : List DnT.NKey) (sz : Nat) (G : Nat → CoM.RS' → Prop) : Prop where
  s : Same H H'
  hl : H' lv = some (.lst lvs)
  eL : Ens g H' lvs es
  hg : H' g = some (.lst gvs)
  eG : Ens g H' gvs gs
  sn : DnT.SeenN P w H' d ks
  qL : ∀ e ∈ es, EnG sz G ks e
  qG : ∀ e ∈ gs, EnG sz G ks e
section
variable {P : Program} {w : World} {H H' H2 : Hp} {lv d g : Addr} {lvs gvs : List V} {es gs : List Ent} {ks : List DnT.NKey} {sz : Nat} {G : Nat → CoM.RS' → Prop}
theorem seen_same {P : Program} {w : World} {H H' : Hp} {d : Addr} {ks : List DnT.NKey} (s : Same H H') (h : DnT.SeenN P w H d ks) : DnT.SeenN P w H' d ks := by
  obtain ⟨xs, e, _⟩ := h.ex
  exact h.mono (by rw [e]; exact s _ _ e) fun _ _ e => s _ _ e
theorem LeS.same (h : LeS P w H H' lv d g lvs es gvs gs ks sz G) (s : Same H' H2) : LeS P w H H2 lv d g lvs es gvs gs ks sz G :=
  ⟨Same.trans h.s s, s _ _ h.hl, h.eL.map fun _ _ e => e.same s, s _ _ h.hg, h.eG.map fun _ _ e => e.same s, seen_same s h.sn, h.qL, h.qG⟩
theorem off_put (hH : ∀ b, b ≠ d → H2 b = H' b) : OffS g d H' H2 := fun a o _ n e => by rw [hH a n]; exact e
/-- a key more -/
theorem LeS.put (h : LeS P w H H' lv d g lvs es gvs gs ks sz G) (nd : H d = none) (hH : ∀ b, b ≠ d → H2 b = H' b) {ks' : List DnT.NKey} (m : ∀ k ∈ ks, k ∈ ks') (sn : DnT.SeenN P w H2 d ks') : LeS P w H H2 lv d g lvs es gvs gs ks' sz G := by
  obtain ⟨xs, hd, _⟩ := h.sn.ex
  have o : OffS g d H' H2 := off_put hH
  exact ⟨fun p o e => (by rw [hH p (ne_of_none e nd)]; exact h.s _ _ e), (by rw [hH _ (ne_of h.hl hd (by intro z; cases z))]; exact h.hl), h.eL.map fun _ _ e => e.off o h.hg hd, (by rw [hH _ (ne_of h.hg hd (by intro z; cases z))]; exact h.hg), h.eG.map fun _ _ e => e.off o h.hg hd, sn, fun e he => (h.qL e he).more m, fun e he => (h.qG e he).more m⟩
/-- a state more -/
theorem LeS.app (h : LeS P w H H' lv d g lvs es gvs gs ks sz G) (ng : H g = none) (lg : lv ≠ g) {a : Addr} {e : Ent} (hE : EnO g H' a e) (q : EnG sz G ks e) : LeS P w H (upd H' g (.lst (gvs ++ [.ref a]))) lv d g lvs es (gvs ++ [.ref a]) (gs ++ [e]) ks sz G := by
  obtain ⟨xs, hd, _⟩ := h.sn.ex
  have o : OffS g d H' (upd H' g (.lst (gvs ++ [.ref a]))) := fun p o n _ e => by rw [upd_ne n]; exact e
  have dg : d ≠ g := ne_of hd h.hg (by intro z; cases z)
  exact ⟨fun p o e => (by rw [upd_ne (ne_of_none e ng)]; exact h.s _ _ e), (by rw [upd_ne lg]; exact h.hl), h.eL.map fun _ _ e => e.off o h.hg hd, upd_same, (h.eG.map fun _ _ e => e.off o h.hg hd).snoc (hE.off o h.hg hd), h.sn.mono (upd_ne dg) (tup_stays h.hg (by intro xs z; cases z)), h.qL, fun e' he => (List.mem_append.mp he).elim (h.qG e') fun z => (by rw [List.mem_singleton.mp z]; exact q)⟩
end
end My

/-! the law's own search: _law_least finds nothing -/
namespace My
open PySem L2 Cm LM EM
abbrev sLst : Stmt := top 135
abbrev PL5 : List Str := ["_law_made", "_law_kind_here", "_law_prop", "_law_many", "_law_wide"]
abbrev NLst : List Str := ["_law_made", "_law_kind_here", "_law_prop", "_law_many", "_law_wide", "_law_level", "_law_seen", "_law_longer", "_law_tale", "_law_left", "_law_box_here", "_law_reply", "_law_rest_left", "_law_after", "_law_key_here"]
structure TxLe (K : PySem.W.Frag) (mg : Str → Option Value) where
  Y : TxKy K mg
  lea : Df K mg "_law_least" sLst PL5
theorem fn_ex {α : Type} {P : Program} {w : World} {K : PySem.W.Frag} {mg : Str → Option Value} {base : Heap} {CX : CXT} {k : Nat} {f : Addr} {fd : FuncData} {ps : List Str} {sp : α → Sp} (h : ∀ j, FnOk P w K mg base CX k f fd ps (sp j)) : FnOk P w K mg base CX k f fd ps (fun vs H Q E => ∃ j, sp j vs H Q E) :=
  ⟨fun vs H Q E ⟨j, h'⟩ => (h j).1 vs H Q E h', fun A outer s H args us vs Q E hr e0 hb r ⟨j, hsp⟩ => (h j).2 A outer s H args us vs Q E hr e0 hb r hsp⟩
section
variable {P : Program} {w : World} {K : PySem.W.Frag} {mg : Str → Option Value} {base : Heap}
def spLst : Sp := fun vs H Q _ => ∃ (ma a b0 q : Addr) (B E : List Str) (A1 B1 E1 nm : Str) (n sz : Nat) (G : Nat → CoM.RS' → Prop), vs = [.ref ma, .ref q, .str nm, .int (n : Nat), .int (sz : Nat)] ∧ H ma = some (.tup [.ref a, .ref b0]) ∧ H a = some (.lst (svs B)) ∧ H b0 = some (.lst (svs E)) ∧ isRound B = true ∧ isEnding E = true ∧ adds (ords B) ≤ 1 ∧ adds (ords E) = 0 ∧ H q = some (.lst [.str A1, .str B1, .str E1]) ∧ isAm A1 ∧ isEn E1 ∧ FJ.Names nm ∧ n ≤ 4 ∧ 1 ≤ sz ∧ sz ≤ 1000 ∧ G n FJ.s0 ∧
  FJ.shown sz (ords B) (ords E) (decide (E1 ≠ "empty")) nm [] n FJ.s0 = false ∧
  (∀ left s, G left s → s.st = false → ∀ r, r ∈ optM A1 B1 E1 left sz → (∀ rs, FJ.shown sz (ords B) (ords E) (decide (E1 ≠ "empty")) nm (rs ++ [r]) (left - r.1) (CoM.stp sz (ords B) (ords E) s r) = false) ∧ ((CoM.stp sz (ords B) (ords E) s r).st = false → G (left - r.1) (CoM.stp sz (ords B) (ords E) s r))) ∧
  ∀ H', Same H H' → Q .non H'
theorem scLst : FnScope NLst PL5 (defScope sLst) := ⟨rfl, rfl, rfl, by decide +kernel, rfl, by decide +kernel, by decide +kernel⟩
theorem few8 {sz : Nat} (z : 1 ≤ sz) {x : RP} (hr : x.rest.length ≤ 8) (hw : wt x.pieces ≤ 400000) : Few sz 8 400000 x := by
  have := wt_flat x.pieces
  exact ⟨Nat.le_trans hr (by omega), by omega⟩
def LeW (P : Program) (w : World) (H : Hp) (ma q d : Addr) (nm : Str) (n sz : Nat) (G : Nat → CoM.RS' → Prop) : Nat → L2.St → Hp → Prop := fun m σ H' => ∃ (g0 lv : Addr) (lvs : List V) (es : List Ent) (ks : List DnT.NKey) (v7 v8 v9 v10 v11 v12 v13 v14 : Option V), σ = [some (.ref ma), some (.ref q), some (.str nm), some (.int (n : Nat)), some (.int (sz : Nat)), some (.ref lv), some (.ref d), v7, v8, v9, v10, v11, v12, v13, v14] ∧ Same H H' ∧ H' lv = some (.lst lvs) ∧ Ens g0 H' lvs es ∧ DnT.SeenN P w H' d ks ∧ (∀ e ∈ es, EnG sz G ks e) ∧ ks.length + 2 * sE sz es ≤ 400000 + es.length ∧ m = sE sz es
def LeO (P : Program) (w : World) (H : Hp) (ma q d : Addr) (nm : Str) (n sz : Nat) (G : Nat → CoM.RS' → Prop) (lv g : Addr) (lvs : List V) (es : List Ent) (m i : Nat) : L2.St → Hp → Prop := fun σ H' => ∃ (gvs : List V) (gs : List Ent) (ks : List DnT.NKey) (v8 v9 v10 v11 v12 v13 v14 : Option V), σ = [some (.ref ma), some (.ref q), some (.str nm), some (.int (n : Nat)), some (.int (sz : Nat)), some (.ref lv), some (.ref d), some (.ref g), v8, v9, v10, v11, v12, v13, v14] ∧ LeS P w H H' lv d g lvs es gvs gs ks sz G ∧ ks.length + 2 * sE sz gs + 2 * sE sz (es.drop i) ≤ 400000 + gs.length + (es.length - i) ∧ sE sz gs + sE sz (es.drop i) + i ≤ m
def LeI (P : Program) (w : World) (H : Hp) (ma q d : Addr) (nm : Str) (n sz : Nat) (G : Nat → CoM.RS' → Prop) (lv g : Addr) (lvs : List V) (es : List Ent) (m i : Nat) (tl b op : Addr) (e : Ent) (tvs ovs : List V) (opts : FJ.Rep) (k : Nat) : L2.St → Hp → Prop := fun σ H' => ∃ (gvs : List V) (gs : List Ent) (ks : List DnT.NKey) (v11 v12 v13 v14 : Option V), σ = [some (.ref ma), some (.ref q), some (.str nm), some (.int (n : Nat)), some (.int (sz : Nat)), some (.ref lv), some (.ref d), some (.ref g), some (.ref tl), some (.int (e.2.1 : Nat)), some (.ref b), v11, v12, v13, v14] ∧ LeS P w H H' lv d g lvs es gvs gs ks sz G ∧ H' op = some (.lst ovs) ∧ Rps H' ovs opts ∧ H' tl = some (.lst tvs) ∧ Rps H' tvs e.1 ∧ BoxJ g H' b e.2.2.1.x e.2.2.1.f false ∧ EnG sz G ks e ∧
  ks.length + 2 * sE sz gs + 2 * sO e.2.1 (SS.kM sz e.2.2.1.x e.2.2.2) (opts.drop k) + 2 * sE sz (es.drop (i + 1)) ≤ 400000 + gs.length + (es.length - (i + 1)) ∧ sE sz gs + sO e.2.1 (SS.kM sz e.2.2.1.x e.2.2.2) (opts.drop k) + sE sz (es.drop (i + 1)) + (i + 1) ≤ m
theorem ok_lst (R : TxLe K mg) : FnOk P w K mg base CX0 6 R.lea.f R.lea.fd PL5 spLst := by
  have GD : FnOk P w K mg base CX0 3 R.Y.L.B.fed.f R.Y.L.B.fed.fd ["_law_made", "_law_box_here", "_law_many", "_law_said", "_law_wide"] (fun vs H Q E => ∃ j, spFd j vs H Q E) := fn_ex fun j => ok_fd R.Y.L.B j
  have GS : FnOk P w K mg base CX0 5 R.Y.L.shw.f R.Y.L.shw.fd PS7 (fun vs H Q E => ∃ j, spSh j vs H Q E) := fn_ex fun j => ok_sh R.Y.L j
  have GX : FnOk P w K mg base CX0 1 R.Y.L.B.box.f R.Y.L.B.box.fd [] (fun vs H Q E => ∃ j, spBx j vs H Q E) := fn_ex fun j => ok_bx R.Y.L.B j
  have GK : FnOk P w K mg base CX0 2 R.Y.key.f R.Y.key.fd PK3 (fun vs H Q E => ∃ j, spKy j vs H Q E) := fn_ex fun j => ok_ky R.Y j
  have GO : FnOk P w K mg base CX0 1 R.Y.L.opt.f R.Y.L.opt.fd PO3 spOp := ok_op R.Y.L
  refine R.lea.F.ok scLst (fun vs H Q E h => ?_) (fun cdv A outer s H vs Q E hr h => ?_)
  · obtain ⟨_, _, _, _, _, _, _, _, _, _, _, _, _, rfl, _⟩ := h
    rfl
  · obtain ⟨ma, a, b0, q, B, E', A1, B1, E1, nm, n, sz, G, rfl, hma, ha, hb0, rB, rE, aB, aE, hq, hA, hE1, hn, n4, z1, z2, g0, sh0, hG, k⟩ := h
    have hu := hu_of hr
    have hr1 : Room 1 _ := hr.mono (by decide)
    have hr2 : Room 2 _ := hr.mono (by decide)
    have hr3 : Room 3 _ := hr.mono (by decide)
    have hu16 : ((cxOf CX0 P w K mg base NLst "_law_least" (defScope sLst) R.lea.f cdv A outer s H E).nox).A.units + 16 < cLine := by
      have := hr.un
      show (A.deeper _).units + 16 < cLine
      omega
    refine ⟨_, (pss_cons (ps_par (i := 5) (j := 6) rfl scLst.nd rfl rfl (by decide) rfl rfl (pa_cons (pe_lst (pa_cons (pe_tup (pa_cons (pe_lst pa_nil) (pa_cons (pv 3) (pa_cons (pe_call0 GX hr1 rfl R.Y.L.B.box.g R.Y.L.B.box.k R.Y.L.B.box.b .nil pass0) pa_nil)))) pa_nil)) (pa_cons DnT.pe_dnewN pa_nil)) (by rfl)) (C8.pss_cut (ps_if (PW.pt (pw_and (pt_cmpR op_eq (pv 2) pe_str (nomark _)) (pw_and1 (pt_val (pe_call GS hr rfl R.Y.L.shw.g R.Y.L.shw.k R.Y.L.shw.b .nil pass0 (pa_cons (pv 0) (pa_cons (pv 1) (pa_cons (pe_lst pa_nil) (pa_cons (pv 2) (pa_cons (pv 3) (pa_cons (pe_call0 GX hr1 rfl R.Y.L.B.box.g R.Y.L.B.box.k R.Y.L.B.box.b .nil pass0) (pa_cons (pv 4) pa_nil)))))))))))) (pss_one (ps_ret (pe_tup pa_nil))) pss_nil) (pss_cons (ps_while PassesOwn.never (pt_cmpR (NeN.op_neNil hu16) (pv 5) (pe_lst pa_nil) (nomark _)) (pss_cons (ps_set (i := 7) scLst.nd rfl (.inl rfl) (pe_lst pa_nil)) (pss_cons (ps_for PassesOwn.never rfl (pi_list (pv 5)) (pg_tup rfl (pgs_cons (pg_name (i := 8) scLst.nd rfl (.inl rfl)) (pgs_cons (pg_name (i := 9) scLst.nd rfl (.inl rfl)) (pgs_cons (pg_name (i := 10) scLst.nd rfl (.inl rfl)) pgs_nil)))) (pss_one (ps_for PassesOwn.never rfl (pi_list (pe_call GO hr1 rfl R.Y.L.opt.g R.Y.L.opt.k R.Y.L.opt.b .nil pass0 (pa_cons (pv 1) (pa_cons (pv 9) (pa_cons (pv 4) pa_nil))))) (pg_name (i := 11) scLst.nd rfl (.inl rfl)) (pss_cons (ps_par (i := 12) (j := 13) rfl scLst.nd rfl rfl (by decide) rfl rfl (pa_cons (pe_op op_sub (pv 9) (pe_ix ix_tup (pv 11) pe_int (fun _ _ => rfl))) (pa_cons (pe_call GD hr3 rfl R.Y.L.B.fed.g R.Y.L.B.fed.k R.Y.L.B.fed.b .nil pass0 (pa_cons (pv 0) (pa_cons (pv 10) (pa_cons (pe_ix ix_tup (pv 11) pe_int (fun _ _ => rfl)) (pa_cons (pe_ix ix_tup (pv 11) pe_int (fun _ _ => rfl)) (pa_cons (pv 4) pa_nil)))))) pa_nil)) (by rfl)) (pss_cons (ps_if (pt_val (pe_call GS hr rfl R.Y.L.shw.g R.Y.L.shw.k R.Y.L.shw.b .nil pass0 (pa_cons (pv 0) (pa_cons (pv 1) (pa_cons (pe_op op_cat (pv 8) (pe_lst (pa_cons (pv 11) pa_nil))) (pa_cons (pv 2) (pa_cons (pv 12) (pa_cons (pv 13) (pa_cons (pv 4) pa_nil))))))))) (pss_one (ps_ret (pe_callTy call_tuple_of (by rfl) R.Y.L.B.tuple (by decide +kernel) (pa_cons (pe_op op_cat (pv 8) (pe_lst (pa_cons (pv 11) pa_nil))) pa_nil)))) pss_nil) (pss_cons (ps_set (i := 14) scLst.nd rfl (.inl rfl) (pe_call GK hr2 rfl R.Y.key.g R.Y.key.k R.Y.key.b .nil pass0 (pa_cons (pv 12) (pa_cons (pv 13) (pa_cons (pv 4) pa_nil))))) (pss_one (ps_if (PW.pt (pw_and (pt_not (pt_val (pe_dget hu (pv 13) pe_str (fun _ _ => rfl)))) (pw_and1 (pt_cmpR (DnT.op_notInN hu16) (pv 14) (pv 6) (by rfl))))) (pss_cons (ps_asg pe_bl (pg_sub (pv 6) (pv 14) (DnT.set_dN hu16))) (pss_one (ps_expr (pe_bm PySem.F.plainAttrs_list PySem.F.slot_list_append PySem.F.type_list_append mt_append (pv 7) (pa_cons (pe_tup (pa_cons (pe_op op_cat (pv 8) (pe_lst (pa_cons (pv 11) pa_nil))) (pa_cons (pv 12) (pa_cons (pv 13) pa_nil)))) pa_nil))))) pss_nil)))))))) (pss_one (ps_set (i := 5) scLst.nd rfl (.inl rfl) (pv 7)))))) (pss_one (ps_ret pe_non))))), ?_⟩
    have lB : (ords B).length ≤ 12 := by rw [ords, List.length_map]; exact (round_sht rB).2
    have lE : (ords E').length ≤ 6 := by rw [ords, List.length_map]; exact (ending_sht rE).2
    -- the start
    refine ⟨Nat.zero_le _, fun t0 nt0 => ?_⟩
    have s1 := same_new (o := .lst []) nt0
    have ht0 : (upd H t0 (.lst [])) t0 = some (.lst []) := upd_same
    generalize upd H t0 (.lst []) = H1 at s1 ht0 ⊢
    refine ⟨_, rfl, q, rfl, ⟨_, s1 _ _ hq⟩, fun H2 b1 s2 nb1 X1 => ?_⟩
    refine ⟨(by show 3 ≤ sizeLine; decide), fun e0 ne0 => ⟨(by show 1 ≤ sizeLine; decide), fun lv nlv => ?_⟩⟩
    intro d nd H5 hH5 hS5
    have sA : Same H H5 := fun p o e => by
      have e4 := s2 _ _ (s1 _ _ e)
      have e5 : (upd (upd H2 e0 (.tup [.ref t0, .int (n : Nat), .ref b1])) lv (.lst [.ref e0])) p = some o := same_new nlv _ _ (same_new ne0 _ _ e4)
      rw [hH5 p (ne_of_none e5 nd)]
      exact e5
    have hlv : H5 lv = some (.lst [.ref e0]) := by rw [hH5 lv (ne_of_none upd_same nd)]; exact upd_same
    have En0 : EnO q H5 e0 ([], n, FJ.s0, true) := by
      have X3 : EnO q (upd (upd H2 e0 (.tup [.ref t0, .int (n : Nat), .ref b1])) lv (.lst [.ref e0])) e0 ([], n, FJ.s0, true) := ⟨t0, b1, [], same_new nlv _ _ upd_same, same_new nlv _ _ (same_new ne0 _ _ (s2 _ _ ht0)), fun z => (by rw [z, hq] at nt0; cases nt0), .nil, (X1.same (same_new ne0)).same (same_new nlv)⟩
      exact X3.same fun p o e => by rw [hH5 p (ne_of_none e nd)]; exact e
    have s2k := s2
    clear hH5 X1 s2 ht0
    refine ⟨_, _, rfl, ?_⟩
    refine ⟨fun σ H' => σ = [some (.ref ma), some (.ref q), some (.str nm), some (.int (n : Nat)), some (.int (sz : Nat)), some (.ref lv), some (.ref d), none, none, none, none, none, none, none, none] ∧ Same H5 H', ?_, ?_⟩
    · refine ⟨_, rfl, rfl, _, rfl, ?_⟩
      rw [show decide (V.str nm = V.str "ends") = decide (nm = "ends") from dS ..]
      by_cases c : nm = "ends"
      · rw [decide_eq_true c]
        refine iteT ⟨_, rfl, _, rfl, Nat.zero_le _, fun t1 nt1 => ?_⟩
        have s6 := same_new (o := .lst []) nt1
        have ht1 : (upd H5 t1 (.lst [])) t1 = some (.lst []) := upd_same
        generalize upd H5 t1 (.lst []) = H6 at s6 ht1 ⊢
        refine ⟨_, rfl, _, rfl, q, rfl, ⟨_, s6 _ _ (sA _ _ hq)⟩, fun H7 b2 s7 nb2 X7 => ?_⟩
        have s57 := Same.trans s6 s7
        have s07 := Same.trans sA s57
        refine ⟨_, rfl, q, ma, a, b0, q, t1, b2, B, E', A1, B1, E1, nm, [], [], n, ⟨[], []⟩, 0, 0, false, sz, 8, 400000, rfl, s07 _ _ hma, s07 _ _ ha, s07 _ _ hb0, rB, rE, s07 _ _ hq, s7 _ _ ht1, .nil, Nat.zero_le _, hn, X7, ⟨_, s07 _ _ hq⟩, z1, z2, Nat.zero_le _, few8 z1 (Nat.zero_le _) (by decide), by decide, by decide, by decide, fun H8 s8 => ?_⟩
        refine ⟨_, rfl, ?_⟩
        rw [show FJ.shown sz (ords B) (ords E') (decide (E1 ≠ "empty")) nm [] n ⟨⟨[], []⟩, 0, 0, false⟩ = false from sh0]
        exact iteF ⟨rfl, Same.trans s57 s8⟩
      · rw [decide_eq_false c]
        exact iteF ⟨rfl, Same.refl _⟩
    rintro σ H6 ⟨rfl, s6⟩
    have hS6 := seen_same s6 hS5
    have s06 := Same.trans sA s6
    have hlv6 := s6 _ _ hlv
    have En6 := En0.same s6
    have nd0 : H d = none := by
      by_cases c : H d = none
      · exact c
      · obtain ⟨o, ho⟩ := Option.ne_none_iff_exists'.mp c
        have e5 : (upd (upd H2 e0 (.tup [.ref t0, .int (n : Nat), .ref b1])) lv (.lst [.ref e0])) d = some o := same_new nlv _ _ (same_new ne0 _ _ (s2k _ _ (s1 _ _ ho)))
        rw [e5] at nd; cases nd
    refine ⟨LeW P w H ma q d nm n sz G, ⟨sE sz [([], n, FJ.s0, true)], q, lv, [.ref e0], [([], n, FJ.s0, true)], [], none, none, none, none, none, none, none, none, rfl, s06, hlv6, .cons En6 .nil, hS6, fun e he => ?_, ?_, rfl⟩, ?_⟩
    · rw [List.mem_singleton.mp he]
      refine ⟨rfl, g0, ?_, ?_, Nat.zero_le _, ?_, fun z => by cases z⟩
      · show 0 + n ≤ 4; omega
      · show 0 + n ≤ 4; omega
      · show 0 + 15 * n + SS.kM sz ⟨[], []⟩ true ≤ 62
        have : SS.kM sz ⟨[], []⟩ true = 2 := rfl
        omega
    · rw [sE_one]
      show 0 + 2 * SS.wM n (SS.kM sz ⟨[], []⟩ true) ≤ 400000 + 1
      have : SS.kM sz ⟨[], []⟩ true = 2 := rfl
      rw [this]
      unfold SS.wM
      have : 15 ^ n ≤ 15 ^ 4 := Nat.pow_le_pow_right (by decide) n4
      have : (15 : Nat) ^ 4 = 50625 := by decide
      omega
    clear hlv6 En6 hS6 s06 s6
    rintro m σ H6 ⟨g0', lv', lvs, es, ks, v7, v8, v9, v10, v11, v12, v13, v14, rfl, s06, hlv6, eL, sn, qL, sz1, rfl⟩
    refine ⟨_, rfl, Nat.zero_le _, fun z nz => ?_⟩
    have s7 := same_new (o := .lst []) nz
    have hz : (upd H6 z (.lst [])) z = some (.lst []) := upd_same
    generalize upd H6 z (.lst []) = H7 at s7 hz ⊢
    refine ⟨lv', z, lvs, rfl, rfl, s7 _ _ hlv6, hz, _, rfl, ?_⟩
    have ll := eL.len
    cases lvs with
    | nil => exact iteF (k _ (Same.trans s06 s7))
    | cons y0 lvs0 =>
    generalize hlvs : y0 :: lvs0 = lvs at *
    have pos : 0 < es.length := by rw [← ll, ← hlvs]; exact Nat.zero_lt_succ _
    have ne : (!lvs.isEmpty) = true := by rw [← hlvs]; rfl
    rw [ne]
    refine iteT ⟨fun σ' H' => ∃ m', m' < sE sz es ∧ LeW P w H ma q d nm n sz G m' σ' H', fun σ' H' h => h, ?_⟩
    refine ⟨Nat.zero_le _, fun g ng => ?_⟩
    have s8 := same_new (o := .lst []) ng
    have hg8 : (upd H7 g (.lst [])) g = some (.lst []) := upd_same
    have ngH : H g = none := (Same.trans s06 s7).free ng
    have lg : lv' ≠ g := ne_of_none (s7 _ _ hlv6) ng
    have S8 : LeS P w H (upd H7 g (.lst [])) lv' d g lvs es [] [] ks sz G := ⟨Same.trans s06 (Same.trans s7 s8), s8 _ _ (s7 _ _ hlv6), eL.map fun _ _ e => ((e.same s7).fresh ng).same s8, hg8, .nil, seen_same (Same.trans s7 s8) sn, qL, fun _ h => (nomatch h)⟩
    generalize upd H7 g (.lst []) = H8 at s8 S8 ⊢
    clear s8 hg8
    refine ⟨_, rfl, lv', rfl, ⟨_, SqL.of S8.hl⟩, ?_⟩
    refine for_list (K := K) (a := lv') (xs := lvs) (LeO P w H ma q d nm n sz G lv' g lvs es (sE sz es)) ⟨[], [], ks, _, _, _, _, _, _, _, rfl, S8, by simpa [sE] using sz1, by simp [sE]⟩ (fun i σ H' _ ⟨_, _, _, _, _, _, _, _, _, _, _, S, _⟩ => SqL.of S.hl) ?_ ?_
    rotate_left
    · rintro σ H9 ⟨gvs, gs, ks, v8, v9, v10, v11, v12, v13, v14, rfl, S, q1, q2⟩
      rw [ll, List.drop_length] at q1 q2
      refine ⟨_, rfl, sE sz gs, ?_, g, g, gvs, gs, ks, _, _, _, _, _, _, _, _, rfl, S.s, S.hg, S.eG, S.sn, S.qG, by simpa [sE] using q1, rfl⟩
      have : sE sz [] = 0 := rfl
      omega
    rintro i y σ H9 hy ⟨gvs, gs, ks, v8, v9, v10, v11, v12, v13, v14, rfl, S, q1, q2⟩
    obtain ⟨a9, e, rfl, he, hE⟩ := S.eL.get hy
    obtain ⟨tl, b, tvs, he1, htl, tlg, hRt, hBx⟩ := hE.ex
    refine ⟨a9, _, rfl, SqT.of he1, rfl, _, _, rfl, _, _, rfl, _, _, rfl, rfl, ?_⟩
    have qe := S.qL e (List.mem_of_getElem? he)
    have e14 := qe.r
    have e24 := qe.f
    have iL : i < es.length := (List.getElem?_eq_some_iff.mp he).1
    refine ⟨_, rfl, _, rfl, _, rfl, q, A1, B1, E1, e.2.1, sz, rfl, S.s _ _ hq, by omega, z2, fun H10 op ovs s10 nop hop hRo => ?_⟩
    have S10 := S.same s10
    have opg : op ≠ g := fun z => by rw [z, S.hg] at nop; cases nop
    refine ⟨op, rfl, ⟨_, SqL.of hop⟩, ?_⟩
    have lo := hRo.len
    refine for_list (K := K) (a := op) (xs := ovs) (LeI P w H ma q d nm n sz G lv' g lvs es (sE sz es) i tl b op e tvs ovs (optM A1 B1 E1 e.2.1 sz)) ⟨gvs, gs, ks, _, _, _, _, rfl, S10, hop, hRo, s10 _ _ htl, hRt.same s10, hBx.same s10, qe, ?_, ?_⟩ (fun i σ H' _ ⟨_, _, _, _, _, _, _, _, _, h, _⟩ => SqL.of h) ?_ ?_
    · rw [sE_drop he] at q1
      have := sO_opt A1 B1 E1 e.2.1 sz (SS.kM sz e.2.2.1.x e.2.2.2)
      have : SS.wM e.2.1 (SS.kM sz e.2.2.1.x e.2.2.2) = wE sz e := rfl
      rw [List.drop_zero]
      omega
    · rw [sE_drop he] at q2
      have := sO_opt A1 B1 E1 e.2.1 sz (SS.kM sz e.2.2.1.x e.2.2.2)
      have : SS.wM e.2.1 (SS.kM sz e.2.2.1.x e.2.2.2) = wE sz e := rfl
      rw [List.drop_zero]
      omega
    rotate_left
    · rintro σ H11 ⟨gvs, gs, ks, v11, v12, v13, v14, rfl, S, _, _, _, _, _, _, q1, q2⟩
      rw [lo, List.drop_length] at q1 q2
      have z0 : sO e.2.1 (SS.kM sz e.2.2.1.x e.2.2.2) [] = 0 := rfl
      rw [z0] at q1 q2
      exact ⟨gvs, gs, ks, _, _, _, _, _, _, _, rfl, S, by omega, by omega⟩
    clear qe q1 q2 S10 hop hRo htl hRt hBx S he1 hE s10 nop v8 v9 v10 v11 v12 v13 v14 gvs gs ks
    rintro kk y σ H11 hy ⟨gvs, gs, ks, v11, v12, v13, v14, rfl, S, hop, hRo, htl, hRt, hBx, qe, q1, q2⟩
    obtain ⟨pr, r, hrr, rfl, hpr⟩ := hRo.get hy
    have rin := List.mem_of_getElem? hrr
    have rl := can_le hA ((opt_mem hA hE1).mp rin).1
    have lo1 := hRt.len
    have e14 := qe.r
    have e24 := qe.f
    have e34 := qe.w
    have e44 := qe.d
    have rs62 : e.1.length ≤ 62 := by omega
    obtain ⟨c1, c2, c3, c4⟩ := child (sz := sz) lB lE aB aE qe rl.1
    obtain ⟨gg1, gg2⟩ := hG _ _ qe.g qe.st r rin
    have eS2 : CoM.stp sz (ords B) (ords E') e.2.2.1 r = ⟨(ansM sz (ords B) (ords E') (itemsL e.2.2.1.f r.1) r.2 e.2.2.1.x).1, e.2.2.1.f + r.1, e.2.2.1.u + 1, (ansM sz (ords B) (ords E') (itemsL e.2.2.1.f r.1) r.2 e.2.2.1.x).2⟩ := by
      unfold CoM.stp
      rw [if_neg (by rw [qe.st]; decide)]
      rfl
    generalize CoM.stp sz (ords B) (ords E') e.2.2.1 r = s2 at c1 c2 c3 c4 gg1 gg2 eS2
    have esx : (ansM sz (ords B) (ords E') (itemsL e.2.2.1.f r.1) r.2 e.2.2.1.x).1 = s2.x := by rw [eS2]
    have est : (ansM sz (ords B) (ords E') (itemsL e.2.2.1.f r.1) r.2 e.2.2.1.x).2 = s2.st := by rw [eS2]
    have esf : e.2.2.1.f + r.1 = s2.f := by rw [eS2]
    have hsub : ((e.2.1 : Nat) : Int) - (r.1 : Int) = ((e.2.1 - r.1 : Nat) : Int) := by have := rl.1; omega
    have wf0 := wt_flat e.2.2.1.x.pieces
    have fe : Few sz 8 400000 e.2.2.1.x := few8 z1 (by omega) (by omega)
    refine ⟨_, rfl, _, rfl, pr, _, 0, _, rfl, rfl, SqT.of hpr, rfl, _, _, rfl, rfl, _, rfl, _, rfl, _, rfl, pr, _, 0, _, rfl, rfl, SqT.of hpr, rfl, _, rfl, pr, _, 1, _, rfl, rfl, SqT.of hpr, rfl, _, rfl, g, ma, a, b0, b, B, E', e.2.2.1.x, e.2.2.1.f, false, r.2, r.1, sz, 8, 400000, rfl, S.s _ _ hma, S.s _ _ ha, S.s _ _ hb0, rB, rE, hBx, ⟨_, S.hg⟩, z1, z2, rl.2, by omega, fe, by decide, by decide, fun H12 b2 s12 nb2 X12 => ?_⟩
    rw [esx, est, esf] at X12
    refine ⟨_, _, rfl, ?_⟩
    dsimp only
    rw [hsub]
    have S12 := S.same s12
    have hpr12 := s12 _ _ hpr
    have htl12 := s12 _ _ htl
    have hRt12 := hRt.same s12
    -- what is shown
    refine ⟨_, rfl, _, rfl, _, rfl, _, rfl, (by show 1 ≤ sizeLine; decide), fun y1 ny1 => ?_⟩
    have s13 := same_new (o := .lst [.ref pr]) ny1
    have hy1 : (upd H12 y1 (.lst [.ref pr])) y1 = some (.lst [.ref pr]) := upd_same
    generalize upd H12 y1 (.lst [.ref pr]) = H13 at s13 hy1 ⊢
    refine ⟨tl, y1, _, _, rfl, rfl, s13 _ _ htl12, hy1, Nat.le_of_lt (szM (by show tvs.length + 1 ≤ _; omega)), fun y2 ny2 => ?_⟩
    have s14 := same_new (o := .lst (tvs ++ [.ref pr])) ny2
    have hy2 : (upd H13 y2 (.lst (tvs ++ [.ref pr]))) y2 = some (.lst (tvs ++ [.ref pr])) := upd_same
    generalize upd H13 y2 (.lst (tvs ++ [.ref pr])) = H14 at s14 hy2 ⊢
    have s24 := Same.trans s13 s14
    have S14 := S12.same s24
    have hR14 : Rps H14 (tvs ++ [.ref pr]) (e.1 ++ [r]) := (hRt12.same s24).app (.cons (s24 _ _ hpr12) .nil)
    refine ⟨_, rfl, _, rfl, _, rfl, _, rfl, g, ma, a, b0, q, y2, b2, B, E', A1, B1, E1, nm, _, e.1 ++ [r], e.2.1 - r.1, s2.x, s2.f, s2.u, s2.st, sz, 8, 400000, rfl, S14.s _ _ hma, S14.s _ _ ha, S14.s _ _ hb0, rB, rE, S14.s _ _ hq, hy2, hR14, (by rw [List.length_append, List.length_singleton]; omega), hn, X12.same s24, ⟨_, S14.hg⟩, z1, z2, (by omega), few8 z1 c2 (by omega), by decide, by decide, (by omega), fun H15 s15 => ?_⟩
    rw [show (⟨s2.x, s2.f, s2.u, s2.st⟩ : CoM.RS') = s2 from rfl, gg1 e.1]
    refine ⟨_, rfl, iteF ?_⟩
    have s25 := Same.trans s24 s15
    have S15 := S14.same s15
    -- the key
    refine ⟨_, rfl, _, rfl, _, rfl, g, b2, e.2.1 - r.1, sz, s2.f, s2.x, s2.st, rfl, X12.same s25, (by omega), (by omega), fun H16 kq s16 nkq hNk => ?_⟩
    have s26 := Same.trans s25 s16
    have S16 := S15.same s16
    have X16 := X12.same s26
    obtain ⟨r3, u3, vs3, hd3, hr3', hu3, hP3, nr3, nu3⟩ := id X16.ex
    have lgs0 := sE_len sz gs
    have les0 := sE_len sz (es.drop (i + 1))
    rw [List.length_drop] at les0
    have dd := sO_drop (l := e.2.1) (k := SS.kM sz e.2.2.1.x e.2.2.2) hrr
    have inv : ∀ H', Same H16 H' → LeI P w H ma q d nm n sz G lv' g lvs es (sE sz es) i tl b op e tvs ovs (optM A1 B1 E1 e.2.1 sz) (kk + 1) [some (.ref ma), some (.ref q), some (.str nm), some (.int (n : Nat)), some (.int (sz : Nat)), some (.ref lv'), some (.ref d), some (.ref g), some (.ref tl), some (.int (e.2.1 : Nat)), some (.ref b), some (.ref pr), some (.int ((e.2.1 - r.1 : Nat) : Int)), some (.ref b2), some (.ref kq)] H' := fun H' s' =>
      ⟨gvs, gs, ks, _, _, _, _, rfl, S16.same s', s' _ _ (s26 _ _ (s12 _ _ hop)), ((hRo.same s12).same s26).same s', s' _ _ (s26 _ _ htl12), (hRt12.same s26).same s', ((hBx.same s12).same s26).same s', qe, by omega, by omega⟩
    refine ⟨_, rfl, b2, _, rfl, get_o hd3, _, rfl, ?_⟩
    cases hst : s2.st with
    | true => exact iteF (inv _ (Same.refl _))
    | false =>
      refine iteT ⟨_, rfl, _, rfl, kq, d, SS.keyM sz (e.2.1 - r.1) s2.x, ks, rfl, rfl, hNk, S16.sn, _, rfl, ?_⟩
      by_cases cin : SS.keyM sz (e.2.1 - r.1) s2.x ∈ ks
      · rw [decide_eq_true cin]
        exact iteF (inv _ (Same.refl _))
      rw [decide_eq_false cin]
      obtain ⟨qn, wn⟩ := c4 hst cin (gg2 hst) (e.1 ++ [r]) (ks ++ [SS.keyM sz (e.2.1 - r.1) s2.x]) (by rw [List.length_append, List.length_singleton]) (List.mem_append_right _ (List.mem_singleton.mpr rfl))
      refine iteT ⟨_, rfl, _, rfl, d, kq, SS.keyM sz (e.2.1 - r.1) s2.x, ks, rfl, rfl, rfl, hNk, S16.sn, cin, (by omega), fun H17 hH17 sn17 => ?_⟩
      have S17 := S16.put nd0 hH17 (fun k hk => List.mem_append_left _ hk) sn17
      obtain ⟨xs6, hd6, _⟩ := S16.sn.ex
      have o7 : OffS g d H16 H17 := off_put hH17
      have kL : ∀ {p : Addr} {vs : List V}, H16 p = some (.lst vs) → H17 p = some (.lst vs) := fun {p vs} h => by rw [hH17 p (ne_of h hd6 (by intro z; cases z))]; exact h
      have kT := tup_off o7 S16.hg hd6
      have X17 := box_off o7 S16.hg hd6 X16
      have hB17 := box_off o7 S16.hg hd6 ((hBx.same s12).same s26)
      have htl17 := kL (s26 _ _ htl12)
      have hop17 := kL (s26 _ _ (s12 _ _ hop))
      have hRo17 := ((hRo.same s12).same s26).mono kT
      have hRt17 := (hRt12.same s26).mono kT
      have hpr17 := kT _ _ (s26 _ _ hpr12)
      clear hH17 sn17 o7 kL kT
      refine ⟨_, rfl, .inl ⟨rfl, _, SqL.of S17.hg⟩, _, rfl, _, rfl, (by show 1 ≤ sizeLine; decide), fun y3 ny3 => ?_⟩
      have s18 := same_new (o := .lst [.ref pr]) ny3
      have hy3 : (upd H17 y3 (.lst [.ref pr])) y3 = some (.lst [.ref pr]) := upd_same
      generalize upd H17 y3 (.lst [.ref pr]) = H18 at s18 hy3 ⊢
      refine ⟨tl, y3, _, _, rfl, rfl, s18 _ _ htl17, hy3, Nat.le_of_lt (szM (by show tvs.length + 1 ≤ _; omega)), fun y4 ny4 => ?_⟩
      have s19 := same_new (o := .lst (tvs ++ [.ref pr])) ny4
      have hy4 : (upd H18 y4 (.lst (tvs ++ [.ref pr]))) y4 = some (.lst (tvs ++ [.ref pr])) := upd_same
      have y4g : y4 ≠ g := fun z => by rw [z, s18 _ _ S17.hg] at ny4; cases ny4
      generalize upd H18 y4 (.lst (tvs ++ [.ref pr])) = H19 at s19 hy4 ⊢
      refine ⟨_, rfl, _, rfl, (by show 3 ≤ sizeLine; decide), fun y5 ny5 => ?_⟩
      have s20 := same_new (o := .tup [.ref y4, .int ((e.2.1 - r.1 : Nat) : Int), .ref b2]) ny5
      have hy5 : (upd H19 y5 (.tup [.ref y4, .int ((e.2.1 - r.1 : Nat) : Int), .ref b2])) y5 = some (.tup [.ref y4, .int ((e.2.1 - r.1 : Nat) : Int), .ref b2]) := upd_same
      generalize upd H19 y5 (.tup [.ref y4, .int ((e.2.1 - r.1 : Nat) : Int), .ref b2]) = H20 at s20 hy5 ⊢
      have s70 := Same.trans s18 (Same.trans s19 s20)
      have S20 := S17.same s70
      have En : EnO g H20 y5 (e.1 ++ [r], e.2.1 - r.1, s2, false) := ⟨y4, b2, _, hy5, s20 _ _ hy4, y4g, (hRt17.same s70).app (.cons (s70 _ _ hpr17) .nil), by rw [hst] at X17; exact X17.same s70⟩
      have lgs := S20.eG.len
      have S21 := S20.app ngH lg En qn
      have tl_g : ∀ {p : Addr} {o : HO}, p ≠ g → H20 p = some o → (upd H20 g (.lst (gvs ++ [.ref y5]))) p = some o := fun n e => by rw [upd_ne n]; exact e
      obtain ⟨xs7, hd7, _⟩ := S20.sn.ex
      have o8 : OffS g d H20 (upd H20 g (.lst (gvs ++ [.ref y5]))) := fun p o n _ e => by rw [upd_ne n]; exact e
      refine ⟨g, _, _, rfl, rfl, S20.hg, ?_, ?_⟩
      · refine szM ?_
        rw [lgs]
        omega
      · refine ⟨_, _, _, _, _, _, _, rfl, S21, tl_g opg (s70 _ _ hop17), ((hRo17.same s70).mono (tup_off o8 S20.hg hd7)), tl_g tlg (s70 _ _ htl17), (hRt17.same s70).mono (tup_off o8 S20.hg hd7), box_off o8 S20.hg hd7 (hB17.same s70), qe.more fun k hk => List.mem_append_left _ hk, ?_, ?_⟩
        · rw [List.length_append, List.length_singleton, sE_app, sE_one]
          rw [List.length_append, List.length_singleton]
          omega
        · rw [sE_app, sE_one]
          omega
end
end My

/-! the law's own search: _law_first finds nothing -/
namespace My
open PySem L2 Cm LM EM
abbrev sFi : Stmt := top 136
abbrev PF4 : List Str := ["_law_made", "_law_kind_here", "_law_prop", "_law_most"]
abbrev NFi : List Str := ["_law_made", "_law_kind_here", "_law_prop", "_law_most", "_law_many", "_law_wide", "_law_found"]
structure TxFi (K : PySem.W.Frag) (mg : Str → Option Value) where
  E : TxLe K mg
  fir : Df K mg "_law_first" sFi PF4
section
variable {P : Program} {w : World} {K : PySem.W.Frag} {mg : Str → Option Value} {base : Heap}
def spFi : Sp := fun vs H Q _ => ∃ (ma a b0 q : Addr) (B E : List Str) (A1 B1 E1 nm : Str), vs = [.ref ma, .ref q, .str nm, .int 3] ∧ H ma = some (.tup [.ref a, .ref b0]) ∧ H a = some (.lst (svs B)) ∧ H b0 = some (.lst (svs E)) ∧ isRound B = true ∧ isEnding E = true ∧ adds (ords B) ≤ 1 ∧ adds (ords E) = 0 ∧ H q = some (.lst [.str A1, .str B1, .str E1]) ∧ isAm A1 ∧ isPa B1 ∧ isEn E1 ∧ FJ.Names nm ∧ ¬ SR.HasF (ords B) (ords E) (mustU E1) (fun c => canU A1 B1 5 4 (c : Int)) nm ∧
  ∀ H', Same H H' → Q .non H'
theorem scFi : FnScope NFi PF4 (defScope sFi) := ⟨rfl, rfl, rfl, by decide +kernel, rfl, by decide +kernel, by decide +kernel⟩
theorem ok_fi (R : TxFi K mg) : FnOk P w K mg base CX0 7 R.fir.f R.fir.fd PF4 spFi := by
  have GL : FnOk P w K mg base CX0 6 R.E.lea.f R.E.lea.fd PL5 spLst := ok_lst R.E
  refine R.fir.F.ok scFi (fun vs H Q E h => ?_) (fun cdv A outer s H vs Q E hr h => ?_)
  · obtain ⟨_, _, _, _, _, _, _, _, _, _, rfl, _⟩ := h
    rfl
  · obtain ⟨ma, a, b0, q, B, E', A1, B1, E1, nm, rfl, hma, ha, hb0, rB, rE, aB, aE, hq, hA, hB, hE1, hn, nf, k⟩ := h
    refine ⟨_, (pss_cons (ps_for PassesOwn.never rfl (pi_range1 rfl R.E.Y.L.B.range (pa_cons (pe_op op_add (pv 3) pe_int) pa_nil)) (pg_name (i := 4) scFi.nd rfl (.inl rfl)) (pss_one (ps_for PassesOwn.never rfl (pi_range2 rfl R.E.Y.L.B.range (pa_cons pe_int (pa_cons (pe_op op_add (pv 4) pe_int) pa_nil))) (pg_name (i := 5) scFi.nd rfl (.inl rfl)) (pss_cons (ps_set (i := 6) scFi.nd rfl (.inl rfl) (pe_call GL hr rfl R.E.lea.g R.E.lea.k R.E.lea.b .nil pass0 (pa_cons (pv 0) (pa_cons (pv 1) (pa_cons (pv 2) (pa_cons (pv 4) (pa_cons (pv 5) pa_nil))))))) (pss_one (ps_if (pt_cmpR op_notN (pv 6) pe_non (nomark _)) (pss_one (ps_ret (pe_tup (pa_cons (pv 4) (pa_cons (pv 5) (pa_cons (pv 6) pa_nil)))))) pss_nil)))))) (pss_one (ps_ret pe_non))), ?_⟩
    refine ⟨_, rfl, _, _, rfl, rfl, 4, rfl, by decide, by decide, for_range (lo := 0) (n := 4) (fun i σ H' => ∃ v4 v5 v6 : Option V, σ = [some (.ref ma), some (.ref q), some (.str nm), some (.int 3), v4, v5, v6] ∧ Same H H') ⟨_, _, _, rfl, Same.refl _⟩ ?_ ?_⟩
    rotate_left
    · rintro σ H' ⟨v4, v5, v6, rfl, s'⟩
      exact k _ s'
    rintro i σ H1 hi ⟨v4, v5, v6, rfl, s1⟩
    have i4 : i ≤ 4 := by omega
    refine ⟨_, rfl, _, _, rfl, rfl, 1, _, rfl, ⟨by decide, by decide, by omega, by omega⟩, ?_⟩
    rw [show ((0 : Int) + (i : Int) + 2 - 1).toNat = i + 1 by omega]
    refine for_range (lo := 1) (n := i + 1) (fun i2 σ H' => ∃ v5 v6 : Option V, σ = [some (.ref ma), some (.ref q), some (.str nm), some (.int 3), some (.int (0 + (i : Int))), v5, v6] ∧ Same H H') ⟨_, _, rfl, s1⟩ ?_ ?_
    rotate_left
    · rintro σ H' ⟨v5, v6, rfl, s'⟩
      exact ⟨_, _, _, rfl, s'⟩
    rintro i2 σ H2 hi2 ⟨v5, v6, rfl, s2⟩
    have z1 : 1 ≤ i2 + 1 := by omega
    have ei : (0 : Int) + (i : Int) = (i : Nat) := by omega
    have ei2 : (1 : Int) + (i2 : Int) = ((i2 + 1 : Nat) : Int) := by omega
    have ht := tell_no E1 hE1
    refine ⟨_, rfl, _, rfl, _, rfl, _, rfl, _, rfl, ma, a, b0, q, B, E', A1, B1, E1, nm, i, i2 + 1, (fun left s => SS.Lv (ords B) (ords E') (mustU E1) (fun c => canU A1 B1 5 4 (c : Int)) nm (i2 + 1) left s), by rw [ei, ei2]; rfl, s2 _ _ hma, s2 _ _ ha, s2 _ _ hb0, rB, rE, aB, aE, s2 _ _ hq, hA, hE1, hn, i4, z1, by omega, SS.lv0 hn i, SS.shown_no0 z1 hn nf ht i, fun left s hl st r hr => ?_, fun H3 s3 => ?_⟩
    · have nx := SS.lv_step (opt := fun l => optM A1 B1 E1 l (i2 + 1)) z1 aB aE hn nf (opt_ok hA hB hE1 (i2 + 1) z1) hl hr
      exact ⟨fun rs => SS.shown_no z1 hn nf ht nx, nx.lv⟩
    · refine ⟨_, rfl, rfl, _, rfl, ?_⟩
      exact iteF ⟨_, _, rfl, Same.trans s2 s3⟩
end
end My

/-! instances of own classes: ==, != by an own __eq__; str, repr by own defs; bool -/
namespace Own
open PySem PySem.Spec PyProof.Rows L2
section
variable {M : Model} {prog : Program} {w : World} {A : Around} {E : Value → Shared → Prop} {s : Shared} {K : PySem.W.Frag} {x C f : Addr} {ox : Obj} {od : Option Obj} {b tb : Value}
theorem bound_ne {args : List Value} {Q : Option Value → Shared → Prop} (X : K.In s.heap) (I : PySem.W.InstAt s.heap x ox C od) (hn : PySem.W.findIn K (.ref C) "__ne__" = some (some (.builtin "object.__ne__")))
    (h : wpAny M A (call (.builtin "object.__ne__") (.ref x :: args)) (fun v => Q (some v)) E s) : wpAny M A (callSpecialIfBound? (.ref x) "__ne__" args) Q E s := by
  simp only [callSpecialIfBound?, bindSpecialIfBound?]
  refine wpAny_holding (wpAny_bind (wpAny_bind (wpAny_bind (I.type.here ((PySem.W.looks_findIn X hn).here (wpAny_bind (wpAny_askSetting (wpAny_ite ?_))))))))
  have last : wpAny M A (call (.builtin "object.__ne__") ([.ref x] ++ args) >>= fun v => pure (some v)) Q E s := wpAny_bind (wpAny_mono h (fun _ _ z => wpAny_pure z) fun _ _ z => z)
  split
  next => exact wpAny_bind (wpAny_of_eq (F.cmp_object.ne.bind _) (wpAny_pure (by exact last)))
  next => exact wpAny_tryCatch (wpAny_bind (wpAny_of_eq (F.cmp_object.ne.bind _) (wpAny_pure (by exact last))))
/-- object.__ne__ asks the own __eq__ and turns the answer round -/
theorem ne_body {Q : Fin → Shared → Prop} (hu : A.units < cLine) (X : K.In s.heap) (I : PySem.W.InstAt s.heap x ox C od) (hs : PySem.W.findIn K (.ref C) "__eq__" = some (some (.ref f))) (hf : PySem.W.isFn K (.ref f) = true)
    (h : wpAny (model prog w) A (call (.ref f) [.ref x, b]) (fun v s2 => ∃ z, v = .bool z ∧ Q (.done (.ret (.bool (!z)))) s2) E s) : wpAny (model prog w) A (Builtin.«object.__ne__» ⟨[.ref x, b], []⟩) Q E s := by
  unfold Builtin.«object.__ne__»
  refine wpAny_bind (wpAny_of_eq (a := ((Value.ref x : Value), [b])) (by first | rfl | (simp only [slotArgs]; rfl)) ?_)
  refine wpAny_bind (wpAny_cRoomFor hu ?_)
  refine wpAny_bind (m := callSpecialIfBound? (.ref x) (Str.ofString "__eq__") [b]) (PySem.W.ifBound_K X I hs hf (wpAny_mono h (fun r s2 hr => ?_) fun _ _ z => z))
  obtain ⟨z, rfl, hq⟩ := hr
  exact wpAny_bind (m := truthy (.bool z)) (wpAny_truthy_bool (wpAny_pure hq))
theorem ne_rich {Q : Value → Shared → Prop} (hu : A.units + 1 < cLine) (X : K.In s.heap) (I : PySem.W.InstAt s.heap x ox C od) (hm : PySem.W.mroIn K C (.type "object") = some true) (hn : PySem.W.findIn K (.ref C) "__ne__" = some (some (.builtin "object.__ne__")))
    (hs : PySem.W.findIn K (.ref C) "__eq__" = some (some (.ref f))) (hf : PySem.W.isFn K (.ref f) = true) (hb : PySem.W.Looks (model prog w) s.heap (typeOf b) tb) (nf : PySem.W.notFirst K C tb = true)
    (h : wpAny (model prog w) A.in1 (call (.ref f) [.ref x, b]) (fun v s2 => ∃ z, v = .bool z ∧ Q (.bool (!z)) s2) E s) : wpAny (model prog w) A (richCompare .NotEq (.ref x) b) Q E s := by
  have go : wpAny (model prog w) A (tryCompare (.ref x) "__ne__" b) (fun r s2 => ∃ v, r = some v ∧ Q v s2) E s := by
    unfold tryCompare
    refine wpAny_bind (bound_ne X I hn (wpAny_call (codeAny_call_builtin F.cmp_object.ne.plain F.cmpEntry_ne (PySem.W.check_slot F.cmpKind_ne F.cmpSplit_ne (I.type.andThen (PySem.W.looks_mroIn X hm)) (F.cmpArgs_ne _ _) ?_))))
    refine ne_body (by show A.units + 1 < cLine; exact hu) X I hs hf (wpAny_mono h (fun v s2 hv => ?_) fun _ _ z => z)
    obtain ⟨z, rfl, hq⟩ := hv
    exact ⟨z, rfl, wpAny_pure ⟨_, rfl, hq⟩⟩
  unfold richCompare
  simp only [oneThing_ref]
  refine wpAny_holding (wpAny_bind (wpAny_cRoomFor (by omega) (wpAny_bind (I.type.here (wpAny_bind (hb.here ?_))))))
  rw [cmpInfo_NotEq]
  dsimp only
  split
  next q =>
    have e : PySem.W.subIn K tb (.ref C) = some false := (Bool.or_eq_true_iff.mp nf).elim (fun z => by rw [beq_iff_eq.mp z] at q; simp at q) fun z => beq_iff_eq.mp z
    refine wpAny_bind ((PySem.W.looks_subIn X e).here ?_)
    simp only [Bool.false_eq_true, if_false]
    exact wpAny_bind (wpAny_mono go (fun r s2 ⟨v, e1, hq⟩ => by subst e1; exact wpAny_pure hq) fun _ _ z => z)
  next =>
    refine wpAny_bind (wpAny_pure ?_)
    simp only [Bool.false_eq_true, if_false]
    exact wpAny_bind (wpAny_mono go (fun r s2 ⟨v, e1, hq⟩ => by subst e1; exact wpAny_pure hq) fun _ _ z => z)
end
/-- the class at C has its own __eq__ at g, and no more of the kind -/
structure EqC (K : PySem.W.Frag) (C g : Addr) : Prop where
  eq : PySem.W.findIn K (.ref C) "__eq__" = some (some (.ref g))
  ne : PySem.W.findIn K (.ref C) "__ne__" = some (some (.builtin "object.__ne__"))
  fn : PySem.W.isFn K (.ref g) = true
  ob : PySem.W.mroIn K C (.type "object") = some true
section
variable {X : Cx} {C g : Addr} {n : Nat} {sp : Sp}
theorem inst_of {pins : List (Addr × Obj)} {σ : L2.St} {H : Hp} {s : Shared} {a dx : Addr} {fs : List (Str × V)} (I : Inv X pins σ H s) (e : H a = some (.ins C dx fs)) : ∃ (ox : Obj) (od : Option Obj), PySem.W.InstAt s.heap a ox C od := by
  obtain ⟨mA, O, _⟩ := ins_get I.hok e
  obtain ⟨od, J, _⟩ := O.look
  exact ⟨_, _, J⟩
/-- x == y: x an instance of C, y of a class that is not below C -/
def rEqO (K : PySem.W.Frag) (C : Addr) (sp : Sp) : R2 := fun x y H Q => ∃ (a dx : Addr) (fs : List (Str × V)) (t : Value), x = .ref a ∧ H a = some (.ins C dx fs) ∧ TyX K H y t ∧ PySem.W.notFirst K C t = true ∧ sp [x, y] H Q fun _ _ _ => False
def rNeO (K : PySem.W.Frag) (C : Addr) (sp : Sp) : R2 := fun x y H Q => ∃ (a dx : Addr) (fs : List (Str × V)) (t : Value), x = .ref a ∧ H a = some (.ins C dx fs) ∧ TyX K H y t ∧ PySem.W.notFirst K C t = true ∧ sp [x, y] H (fun v H2 => ∃ b, v = .bl b ∧ Q (.bl (!b)) H2) fun _ _ _ => False
theorem op_eqO (c : EqC X.K C g) (F : FnR X.prog X.w X.K X.mg X.base CX0 n g sp) (hr : Room n X.A) : OpR X (compareOp .Eq) (rEqO X.K C sp) := by
  intro pins s σ H x y v u Q I rx ry h
  obtain ⟨a, dx, fs, t, rfl, ha, ty, nf, q⟩ := h
  cases (show v = Value.ref a from rx)
  obtain ⟨ox, od, J⟩ := inst_of I ha
  obtain ⟨m, fr⟩ := I.fr
  obtain ⟨PP, Z, pz, _⟩ := kit_of I ry ty
  show wpAny (model X.prog X.w) X.A (richCompare .Eq (.ref a) u) _ _ s
  refine PySem.W.cmp_K (op := .Eq) hr.units0 fr I.ok.mod.kin J (Z.ty _ _ I.kIn pz) nf c.eq c.fn ?_
  refine wpAny_mono (wpAny_call (run_fnR (us := [.ref a, u]) (vs := [.ref a, y]) F hr pass0 I (.cons rfl (.cons ry .nil)) q)) (fun z s2 hz => ?_) fun _ _ e => e
  obtain ⟨z2, H2, I2, rz, qz⟩ := hz
  exact SlX.cmpback rz ⟨z2, H2, I2, rz, qz⟩
theorem op_neO (c : EqC X.K C g) (F : FnR X.prog X.w X.K X.mg X.base CX0 n g sp) (hr : Room (n + 1) X.A) : OpR X (compareOp .NotEq) (rNeO X.K C sp) := by
  intro pins s σ H x y v u Q I rx ry h
  obtain ⟨a, dx, fs, t, rfl, ha, ty, nf, q⟩ := h
  cases (show v = Value.ref a from rx)
  obtain ⟨ox, od, J⟩ := inst_of I ha
  obtain ⟨PP, Z, pz, _⟩ := kit_of I ry ty
  show wpAny (model X.prog X.w) X.A (richCompare .NotEq (.ref a) u) _ _ s
  refine ne_rich (by have := hr.un; omega) I.kIn J c.ob c.ne c.eq c.fn (Z.ty _ _ I.kIn pz) nf ?_
  refine wpAny_mono (wpAny_call (SlX.run_at (us := [.ref a, u]) (ws := [.ref a, y]) F hr.in1 I.env0.in1 pass0 I (.cons rfl (.cons ry .nil)) q)) (fun z s2 hz => ?_) fun _ _ e => e
  obtain ⟨z2, H2, I2, rz, bb, rfl, qz⟩ := hz
  cases (show z = Value.bool bb from rz)
  exact ⟨bb, rfl, .bl (!bb), H2, I2, rfl, qz⟩
/-- str(x), repr(x): the own def's text -/
def rTxtO (C : Addr) (sp : Sp) : List V → Hp → VK → Prop := fun xs H Q => ∃ (a dx : Addr) (fs : List (Str × V)), xs = [.ref a] ∧ H a = some (.ins C dx fs) ∧ sp [.ref a] H (fun v H2 => ∃ z, v = .str z ∧ Q (.str z) H2) fun _ _ _ => False
theorem call_strO (hs : PySem.W.findIn X.K (.ref C) "__str__" = some (some (.ref g))) (hf : PySem.W.isFn X.K (.ref g) = true) (F : FnR X.prog X.w X.K X.mg X.base CX0 n g sp) (hr : Room (n + 2) X.A) : CallR X (.type "str") (rTxtO C sp) := by
  intro pins s σ H xs us Q I r h
  obtain ⟨a, dx, fs, rfl, ha, q⟩ := h
  obtain ⟨u, rfl, ru⟩ := vals1 r
  cases (show u = Value.ref a from ru)
  obtain ⟨ox, od, J⟩ := inst_of I ha
  have hr1 : Room (n + 1) X.A.in1 := hr.in1
  refine PySem.W.kso_call (by have := hr.un; show X.A.units + 1 + 1 < cLine; omega) I.kIn J hs hf ?_
  refine wpAny_mono (wpAny_call (SlX.run_at (us := [.ref a]) (ws := [.ref a]) F hr1.in1 I.env0.in1.in1 pass0 I (.cons rfl .nil) q)) (fun z s2 hz => ?_) fun _ _ e => e
  obtain ⟨z2, H2, I2, rz, t, rfl, qz⟩ := hz
  obtain ⟨tk, rfl⟩ := (show ∃ tk, z = Value.str t tk from rz)
  exact ⟨.str t, H2, I2, ⟨_, rfl⟩, qz⟩
theorem call_reprO (hs : PySem.W.findIn X.K (.ref C) "__repr__" = some (some (.ref g))) (hf : PySem.W.isFn X.K (.ref g) = true) (F : FnR X.prog X.w X.K X.mg X.base CX0 n g sp) (hr : Room (n + 1) X.A) : CallR X (.builtin "repr") (rTxtO C sp) := by
  intro pins s σ H xs us Q I r h
  obtain ⟨a, dx, fs, rfl, ha, q⟩ := h
  obtain ⟨u, rfl, ru⟩ := vals1 r
  cases (show u = Value.ref a from ru)
  obtain ⟨ox, od, J⟩ := inst_of I ha
  obtain ⟨m, fr⟩ := I.fr
  refine PySem.W.repr_K (by have := hr.un; show X.A.units + 1 < cLine; omega) fr I.ok.mod.kin J hs hf ?_
  refine wpAny_mono (wpAny_call (SlX.run_at (us := [.ref a]) (ws := [.ref a]) F hr.in1 I.env0.in1 pass0 I (.cons rfl .nil) q)) (fun z s2 hz => ?_) fun _ _ e => e
  obtain ⟨z2, H2, I2, rz, t, rfl, qz⟩ := hz
  obtain ⟨tk, rfl⟩ := (show ∃ tk, z = Value.str t tk from rz)
  exact ⟨.str t, H2, I2, ⟨_, rfl⟩, qz⟩
/-- bool(x): no __bool__, no __len__ -/
def rBoolO (C : Addr) : List V → Hp → VK → Prop := fun xs H Q => ∃ (a dx : Addr) (fs : List (Str × V)), xs = [.ref a] ∧ H a = some (.ins C dx fs) ∧ Q (.bl true) H
theorem call_boolO (hb : PySem.W.findIn X.K (.ref C) "__bool__" = some none) (hl : PySem.W.findIn X.K (.ref C) "__len__" = some none) : CallR X (.type "bool") (rBoolO C) := by
  intro pins s σ H xs us Q I r h
  obtain ⟨a, dx, fs, rfl, ha, q⟩ := h
  obtain ⟨u, rfl, ru⟩ := vals1 r
  cases (show u = Value.ref a from ru)
  obtain ⟨ox, od, J⟩ := inst_of I ha
  obtain ⟨m, fr⟩ := I.fr
  have mt : Meets (Builtin.«bool.__new__» ⟨[.type "bool", .ref a], []⟩) (fun _ R st => (∃ m, Fr X.base X.env.locals st.heap m) ∧ PySem.W.InstAt st.heap a ox C od ∧ R (.ok (.ret (.bool true))) st) :=
    Meets.of_wp fun pr wo Ar R st hh => by
      obtain ⟨⟨m2, fr2⟩, J2, hR⟩ := hh
      obtain ⟨hp, gg, dd, tk, os⟩ := st
      have f1 := PySem.F.conv_sub_bool
      repeat (any_goals (first | assumption | (with_reducible refine PySem.W.truthy_K0 fr2 I.ok.mod.kin J2 hb hl ?_) | wp_step))
      all_goals first | exact ⟨_, rfl, hR⟩ | exact hR | skip
  exact call_bool_1 mt ⟨⟨m, fr⟩, J, rfl, .bl true, H, I, rfl, q⟩
end
end Own

/-! the class Loop: its other methods -/
namespace My
open PySem L2 Cm LM
abbrev sEP : Stmt := inClass (top 11) 0
abbrev sIIB : Stmt := top 20
abbrev sTO : Stmt := top 50
abbrev sLL : Stmt := inClass (top 57) 1
abbrev sLE : Stmt := inClass (top 57) 2
abbrev sLS : Stmt := inClass (top 57) 3
abbrev sLR : Stmt := inClass (top 57) 4
abbrev sLW : Stmt := inClass (top 57) 5
structure TxP (K : PySem.W.Frag) (mg : Str → Option Value) where
  C : Addr
  f : Addr
  fd : FuncData
  g : mg "InvalidPlace" = some (.ref C)
  o : OexC K C
  i : PySem.W.findIn K (.ref C) "__init__" = some (some (.ref f))
  t : PySem.W.typeIn K (.ref f) = some (.type "function")
  n : PySem.W.findIn K (.ref C) "value" = some none
  F : Fun K "__init__" "InvalidPlace.__init__" sEP f fd
  b : Binds K fd ["self", "value"] []
structure TxM (K : PySem.W.Frag) (mg : Str → Option Value) where
  T : TxC K mg
  ip : TxP K mg
  int : mg "int" = none
  bool : mg "bool" = none
  iib : Df K mg "is_integer_between" sIIB ["value", "low", "high"]
  to : Df K mg "text_of" sTO ["first_words", "last_words"]
  ll : Sm K T.C "__len__" "Loop.__len__" sLL ["self"]
  le : Sm K T.C "__eq__" "Loop.__eq__" sLE ["self", "other"]
  ls : Sm K T.C "__str__" "Loop.__str__" sLS ["self"]
  lr : Sm K T.C "__repr__" "Loop.__repr__" sLR ["self"]
  lw : Mt K T.C "without" "Loop.without" sLW ["self", "place"]
  nb : PySem.W.findIn K (.ref T.C) "__bool__" = some none
  ne : PySem.W.findIn K (.ref T.C) "__ne__" = some (some (.builtin "object.__ne__"))
  c1 : PySem.W.findIn K (.ref T.C) "__class__" = some (some (.builtin "object.__class__"))
  c2 : PySem.W.specialIn K (.builtin "object.__class__") "__get__" = some (some (.builtin "getset_descriptor.__get__"))
  c3 : PySem.W.takesIn K (.builtin "object.__class__") = some true
  c4 : PySem.W.mroIn K T.C (.type "object") = some true
  k1 : PySem.W.kitOne K (.ref T.C) (.ref T.C) = some true
section
variable {P : Program} {w : World} {K : PySem.W.Frag} {mg : Str → Option Value} {base : Heap}
theorem scEP : FnScope ["self", "value"] ["self", "value"] (defScope sEP) := ⟨rfl, rfl, rfl, by decide +kernel, rfl, by decide +kernel, by decide +kernel⟩
theorem ok_ep (T : TxP K mg) : FnOk P w K mg base CX0 1 T.f T.fd ["self", "value"] (spEI T.C) := by
  refine T.F.ok scEP (fun vs H Q E h => ?_) (fun cdv A outer s H vs Q E hr h => ?_)
  · obtain ⟨a, v, rfl, _⟩ := h
    rfl
  · obtain ⟨a, v, rfl, ha, k⟩ := h
    refine ⟨_, pss_one (ps_ost (pv 0) (pv 1)), ?_⟩
    exact ⟨_, rfl, _, rfl, a, T.C, rfl, T.o, T.n, .inl ⟨ha, fun dx n ne => k dx n ne⟩⟩
/-! ### is_integer_between -/
def isI : V → Bool
  | .int _ => true
  | _ => false
def isB : V → Bool
  | .bl _ => true
  | _ => false
/-- an integer within these bounds -/
def btw (lo hi : Int) : V → Bool
  | .int i => decide (lo ≤ i ∧ i ≤ hi)
  | _ => false
def TypedI (K : PySem.W.Frag) (H : Hp) (x : V) : Prop := ∃ t, TyX K H x t ∧ PySem.W.kitOne K t (.type "int") = some (isI x || isB x) ∧ PySem.W.kitOne K t (.type "bool") = some (isB x)
theorem typed_int {H : Hp} (i : Int) : TypedI K H (.int i) := ⟨_, .base (.int i), kit_ty (show kitB "int" "int" = some true by decide +kernel), kit_ty (show kitB "int" "bool" = some false by decide +kernel)⟩
def spIIB (K : PySem.W.Frag) : Sp := fun vs H Q _ => ∃ (v : V) (lo hi : Int), vs = [v, .int lo, .int hi] ∧ TypedI K H v ∧ Q (.bl (btw lo hi v)) H
theorem scIIB : FnScope ["value", "low", "high"] ["value", "low", "high"] (defScope sIIB) := ⟨rfl, rfl, rfl, by decide +kernel, rfl, by decide +kernel, by decide +kernel⟩
theorem ok_iib (M : TxM K mg) : FnOk P w K mg base CX0 1 M.iib.f M.iib.fd ["value", "low", "high"] (spIIB K) := by
  refine M.iib.F.ok scIIB (fun vs H Q E h => ?_) (fun cdv A outer s H vs Q E hr h => ?_)
  · obtain ⟨v, lo, hi, rfl, _⟩ := h
    rfl
  · obtain ⟨v, lo, hi, rfl, ⟨t, ty, k1, k2⟩, k⟩ := h
    refine ⟨_, pss_one (ps_ret (pe_and (pe_callB call_isi (by rfl) M.T.isi (by decide +kernel) (pa_cons (pv 0) (pa_cons (pe_bltn (v := .ty "int") (by rfl) M.int (by decide +kernel) rfl) pa_nil)))
      (pe_and (pe_not (pe_callB call_isi (by rfl) M.T.isi (by decide +kernel) (pa_cons (pv 0) (pa_cons (pe_bltn (v := .ty "bool") (by rfl) M.bool (by decide +kernel) rfl) pa_nil))))
        (pe_one (pe_chain op_le op_le (pv 1) (pv 0) (pv 2)))))), ?_⟩
    refine ⟨_, rfl, _, _, _, _, _, rfl, .ty "int", ty, k1, _, rfl, ?_⟩
    cases hv : (isI v || isB v) with
    | false =>
      refine iteF ?_
      have e : btw lo hi v = false := by
        cases v <;> first | rfl | cases hv
      rw [e] at k
      exact k
    | true =>
      refine iteT ?_
      refine ⟨_, rfl, _, _, _, _, _, rfl, .ty "bool", ty, k2, _, rfl, _, rfl, ?_⟩
      cases hb : isB v with
      | true =>
        have e : btw lo hi v = false := by
          cases v <;> first | rfl | cases hb
        rw [e] at k
        exact iteF k
      | false =>
        refine iteT ?_
        rw [hb, Bool.or_false] at hv
        obtain ⟨i, rfl⟩ : ∃ i, v = .int i := by
          cases v <;> first | exact ⟨_, rfl⟩ | cases hv
        refine ⟨_, rfl, _, rfl, _, _, rfl, rfl, _, rfl, ?_⟩
        have k : Q (.bl (decide (lo ≤ i ∧ i ≤ hi))) H := k
        refine ite2 (fun c => ?_) (fun c => ?_)
        · refine ⟨_, rfl, _, _, rfl, rfl, ?_⟩
          have c1 : lo ≤ i := of_decide_eq_true c
          have e : decide (lo ≤ i ∧ i ≤ hi) = decide (i ≤ hi) := decide_eq_decide.mpr ⟨fun z => z.2, fun z => ⟨c1, z⟩⟩
          rw [e] at k
          exact k
        · have c1 : ¬ lo ≤ i := fun z => c (decide_eq_true z)
          rw [show decide (lo ≤ i ∧ i ≤ hi) = false from decide_eq_false fun z => c1 z.1] at k
          exact k
/-! ### text_of -/
def spTO (K : PySem.W.Frag) : Sp := fun vs H Q _ => ∃ (a b : Addr) (B E : List Str), vs = [.ref a, .ref b] ∧ SqT K H a (svs B) ∧ SqT K H b (svs E) ∧ Sht 100 B ∧ Sht 100 E ∧ Q (.str (textOf B E)) H
theorem scTO : FnScope ["first_words", "last_words", "text"] ["first_words", "last_words"] (defScope sTO) := ⟨rfl, rfl, rfl, by decide +kernel, rfl, by decide +kernel, by decide +kernel⟩
theorem sp1 : (" " : Str).length = 1 := by decide +kernel
theorem bar3 : (" | " : Str).length = 3 := by decide +kernel
theorem ok_to (M : TxM K mg) : FnOk P w K mg base CX0 1 M.to.f M.to.fd ["first_words", "last_words"] (spTO K) := by
  obtain ⟨tb, hb⟩ := M.T.L.bar
  refine M.to.F.ok scTO (fun vs H Q E h => ?_) (fun cdv A outer s H vs Q E hr h => ?_)
  · obtain ⟨a, b, B, E, rfl, _⟩ := h
    rfl
  · obtain ⟨a, b, B, E, rfl, ha, hb', sB, sE, k⟩ := h
    refine ⟨_, pss_cons (ps_set (i := 2) scTO.nd rfl (.inl rfl) (pe_join pe_str (pv 0)))
      (pss_one (ps_ret (pe_ifExp (pt_truth (pv 1) (by intro _; rfl)) (pe_op op_add_str (pe_op op_add_str (pv 2) (pe_glob (v := .str " | ") rfl hb ⟨_, rfl⟩)) (pe_join pe_str (pv 1))) (pv 2)))), ?_⟩
    refine ⟨⟨_, rfl⟩, _, rfl, " ", a, B, rfl, rfl, .inr ha, ?_, ?_⟩
    · rw [sp1]
      have := sB.sum
      omega
    refine ⟨_, rfl, _, .inr (.inl ⟨_, hb', rfl⟩), ?_⟩
    unfold textOf at k
    cases E with
    | nil =>
      refine iteF ⟨_, rfl, ?_⟩
      exact k
    | cons e0 er =>
      rw [if_neg (by simp)] at k
      have l1 := sB.join
      have l2 := sE.join
      refine iteT ⟨_, rfl, _, _, rfl, rfl, Nat.le_of_lt (szM (n := (Txt.join " " B).length + (" | " : Str).length) (by rw [bar3]; omega)), ?_⟩
      refine ⟨⟨_, rfl⟩, _, rfl, " ", b, e0 :: er, rfl, rfl, .inr hb', ?_, _, _, rfl, rfl, ?_, k⟩
      · rw [sp1]
        have := sE.sum
        omega
      · refine Nat.le_of_lt (szM ?_)
        rw [strLen_append, bar3]
        omega
/-! ### len, ==, str, repr -/
theorem LoopAt.ty (M : TxM K mg) {H : Hp} {o : Addr} {t : Str} (h : LoopAt M.T.C H o t) : TyX K H (.ref o) (.ref M.T.C) := by
  obtain ⟨dx, pr, pe, po, pq, e, _⟩ := h
  exact .base (.ins e M.T.cl M.c1 M.c2 M.c3 M.c4)
/-- how many words -/
def nw (t : Str) : Nat := (wordsR t).length + (wordsE t).length
theorem good_nw {t : Str} (h : goodText t = true) : (wordsR t).length ≤ 12 ∧ (wordsE t).length ≤ 6 ∧ 1 ≤ (wordsR t).length := by
  have g := good_iff.mp h
  exact ⟨(round_sht g.1).2, (ending_sht g.2).2, List.length_pos_iff.mpr (round_ne g.1)⟩
theorem svs_len (ws : List Str) : (svs ws).length = ws.length := List.length_map ..
theorem svs_nil {ws : List Str} : svs ws = [] ↔ ws = [] := List.map_eq_nil_iff
def spLL (C : Addr) : Sp := fun vs H Q _ => ∃ (o : Addr) (t : Str), vs = [.ref o] ∧ LoopAt C H o t ∧ goodText t = true ∧ ∀ H', Same H H' → Q (.int (nw t)) H'
theorem scLL : FnScope ["self"] ["self"] (defScope sLL) := ⟨rfl, rfl, rfl, by decide +kernel, rfl, by decide +kernel, by decide +kernel⟩
theorem ok_ll (M : TxM K mg) : FnOk P w K mg base CX0 1 M.ll.f M.ll.fd ["self"] (spLL M.T.C) := by
  refine M.ll.F.ok scLL (fun vs H Q E h => ?_) (fun cdv A outer s H vs Q E hr h => ?_)
  · obtain ⟨o, t, rfl, _⟩ := h
    rfl
  · obtain ⟨o, t, rfl, ⟨dx, pr, pe, po, pq, e, h1, h2, _⟩, g, k⟩ := h
    refine ⟨_, pss_one (ps_ret (pe_callB call_len_seq (by rfl) M.T.L.len PySem.boot_len (pa_cons (pe_op op_catA (pe_fld (pv 0) rfl) (pe_fld (pv 0) rfl)) pa_nil))), ?_⟩
    have n := good_nw g
    refine ⟨_, rfl, o, M.T.C, dx, _, _, rfl, e, M.T.cl, M.T.nR, lf_round .., _, rfl, o, M.T.C, dx, _, _, rfl, e, M.T.cl, M.T.nE, lf_ending .., pr, pe, _, _, rfl, rfl, SqT.of h1, SqT.of h2, szl (by rw [svs_len, svs_len]; omega), fun z => ?_, fun _ z => ?_, fun _ _ p np => ?_⟩
    · exact absurd (svs_nil.mp z) (wordsR_ne t)
    · refine ⟨pr, _, rfl, .inr (SqT.of h1), ?_⟩
      have : nw t = (svs (wordsR t)).length := by unfold nw; rw [svs_nil.mp z, svs_len]; rfl
      rw [← this]
      exact k H (Same.refl _)
    · refine ⟨p, _, rfl, .inr (SqT.of upd_same), ?_⟩
      have : nw t = (svs (wordsR t) ++ svs (wordsE t)).length := by unfold nw; rw [List.length_append, svs_len, svs_len]
      rw [← this]
      exact k _ (same_new np)
def spLE (K : PySem.W.Frag) (C : Addr) : Sp := fun vs H Q _ => ∃ (o : Addr) (t : Str) (y : V), vs = [.ref o, y] ∧ LoopAt C H o t ∧
  ((∃ (o2 : Addr) (t2 : Str), y = .ref o2 ∧ LoopAt C H o2 t2 ∧ Q (.bl (decide (t = t2))) H) ∨ ∃ ty, TyX K H y ty ∧ PySem.W.kitOne K ty (.ref C) = some false ∧ Q (.bl false) H)
theorem scLE : FnScope ["self", "other"] ["self", "other"] (defScope sLE) := ⟨rfl, rfl, rfl, by decide +kernel, rfl, by decide +kernel, by decide +kernel⟩
theorem ok_le (M : TxM K mg) : FnOk P w K mg base CX0 1 M.le.f M.le.fd ["self", "other"] (spLE K M.T.C) := by
  refine M.le.F.ok scLE (fun vs H Q E h => ?_) (fun cdv A outer s H vs Q E hr h => ?_)
  · obtain ⟨o, t, y, rfl, _⟩ := h
    rfl
  · obtain ⟨o, t, y, rfl, hO, k⟩ := h
    refine ⟨_, pss_one (ps_ret (pe_and (pe_callB call_isi (by rfl) M.T.isi (by decide +kernel) (pa_cons (pv 1) (pa_cons (pe_glob (v := .ref M.T.C) rfl M.T.gC rfl) pa_nil)))
      (pe_one (pe_cmpR op_eq (pe_fld (pv 0) rfl) (pe_fld (pv 1) rfl) (nomark _))))), ?_⟩
    rcases k with ⟨o2, t2, rfl, hO2, k⟩ | ⟨ty, hty, kt, k⟩
    · have ty2 := hO2.ty M
      obtain ⟨dx, pr, pe, po, pq, e1, _⟩ := hO
      obtain ⟨dx2, pr2, pe2, po2, pq2, e2, _⟩ := hO2
      refine ⟨_, rfl, _, _, _, _, true, rfl, .own M.T.C, ty2, M.k1, true, rfl, iteT ?_⟩
      refine ⟨_, rfl, o, M.T.C, dx, _, _, rfl, e1, M.T.cl, M.T.nT, lf_text .., _, rfl, o2, M.T.C, dx2, _, _, rfl, e2, M.T.cl, M.T.nT, lf_text .., rfl, ?_⟩
      rw [dS]
      exact k
    · exact ⟨_, rfl, _, _, _, _, false, rfl, .own M.T.C, hty, kt, false, rfl, iteF k⟩
def spLS (C : Addr) : Sp := fun vs H Q _ => ∃ (o : Addr) (t : Str), vs = [.ref o] ∧ LoopAt C H o t ∧ Q (.str t) H
theorem scLS : FnScope ["self"] ["self"] (defScope sLS) := ⟨rfl, rfl, rfl, by decide +kernel, rfl, by decide +kernel, by decide +kernel⟩
theorem ok_ls (M : TxM K mg) : FnOk P w K mg base CX0 1 M.ls.f M.ls.fd ["self"] (spLS M.T.C) := by
  refine M.ls.F.ok scLS (fun vs H Q E h => ?_) (fun cdv A outer s H vs Q E hr h => ?_)
  · obtain ⟨o, t, rfl, _⟩ := h
    rfl
  · obtain ⟨o, t, rfl, ⟨dx, pr, pe, po, pq, e, _⟩, k⟩ := h
    refine ⟨_, pss_one (ps_ret (pe_callTy SkE.call_str_str (by rfl) M.T.str (by decide +kernel) (pa_cons (pe_fld (pv 0) rfl) pa_nil))), ?_⟩
    exact ⟨_, rfl, o, M.T.C, dx, _, _, rfl, e, M.T.cl, M.T.nT, lf_text .., t, rfl, k⟩
def spLR (C : Addr) : Sp := fun vs H Q _ => ∃ (o : Addr) (t : Str), vs = [.ref o] ∧ LoopAt C H o t ∧ Bd t ∧ Q (.str (("Loop(" : Str) ++ t ++ ")")) H
theorem scLR : FnScope ["self"] ["self"] (defScope sLR) := ⟨rfl, rfl, rfl, by decide +kernel, rfl, by decide +kernel, by decide +kernel⟩
theorem empty_app (x : Str) : Str.empty ++ x = x := TL.ext_tl (by rw [TL.tl_append]; rfl)
theorem ok_lr (M : TxM K mg) : FnOk P w K mg base CX0 1 M.lr.f M.lr.fd ["self"] (spLR M.T.C) := by
  refine M.lr.F.ok scLR (fun vs H Q E h => ?_) (fun cdv A outer s H vs Q E hr h => ?_)
  · obtain ⟨o, t, rfl, _⟩ := h
    rfl
  · obtain ⟨o, t, rfl, ⟨dx, pr, pe, po, pq, e, _⟩, bd, k⟩ := h
    refine ⟨_, pss_one (ps_ret (pe_joined (.cons pe_str (.cons (pe_fmt (pe_fld (pv 0) rfl)) (.cons pe_str .nil))))), ?_⟩
    have l0 : (Str.empty).length = 0 := rfl
    have l2 : ("Loop(" : Str).length = 5 := by decide +kernel
    have l3 : (")" : Str).length = 1 := by decide +kernel
    unfold Bd at bd
    refine ⟨_, rfl, szl (by rw [strLen_append]; omega), ?_⟩
    refine ⟨_, rfl, o, M.T.C, dx, _, _, rfl, e, M.T.cl, M.T.nT, lf_text .., .inl ⟨t, rfl, Nat.le_of_lt (szM (by omega)), t, rfl, Nat.le_of_lt (szM (by rw [strLen_append, strLen_append]; omega)), ?_⟩⟩
    refine ⟨_, rfl, Nat.le_of_lt (szM (by rw [strLen_append, strLen_append, strLen_append]; omega)), ?_⟩
    rw [empty_app]
    exact k
end
end My

/-! always, failing, needless, for loops and sources -/
namespace My
open PySem L2 Cm LM EM SR RpA
abbrev sCKL : Stmt := top 56
abbrev sCKU : Stmt := top 63
abbrev sCKN : Stmt := top 102
abbrev sAlw : Stmt := top 103
structure TxJd (w : World) (K : PySem.W.Frag) (mg : Str → Option Value) where
  S : TxSr w K mg
  M : TxM K mg
  eT : S.T = M.T
  isi : mg "isinstance" = none
  str : mg "str" = none
  d1 : PySem.W.findIn K (.ref S.U.M.U.C) "__class__" = some (some (.builtin "object.__class__"))
  d4 : PySem.W.mroIn K S.U.M.U.C (.type "object") = some true
  u1 : PySem.W.kitOne K (.ref S.U.M.U.C) (.ref S.U.M.U.C) = some true
  ckl : Df K mg "check_loop" sCKL ["loop"]
  cku : Df K mg "check_source" sCKU ["source"]
  ckn : Df K mg "check_name" sCKN ["name"]
  alw : Df K mg "always" sAlw ["loop", "source", "name"]
  pN : Addr
  gN : mg "NAMES" = some (.ref pN)
  lN : ∀ H, SqT K H pN [.str "whole", .str "filled", .str "even", .str "quiet", .str "ends"]
/-- what the answer hangs on -/
noncomputable def alwT (t A B E nm : Str) : Bool := alwM (ordsR t) (ordsE t) (mustU E) (canM A B) nm
noncomputable def failT (t A B E : Str) : List Str := names.filter fun nm => !alwT t A B E nm
theorem names_nm (nm : Nm) : inV (.str (nmS nm)) [.str "whole", .str "filled", .str "even", .str "quiet", .str "ends"] = true := by cases nm <;> decide +kernel
theorem nm_of {i : Nat} {x : Str} (h : names[i]? = some x) : ∃ nm, x = nmS nm := by
  match i, h with
  | 0, h => exact ⟨.w, (Option.some.inj h).symm⟩
  | 1, h => exact ⟨.f, (Option.some.inj h).symm⟩
  | 2, h => exact ⟨.e, (Option.some.inj h).symm⟩
  | 3, h => exact ⟨.q, (Option.some.inj h).symm⟩
  | 4, h => exact ⟨.n, (Option.some.inj h).symm⟩
  | n + 5, h => cases h
section
variable {P : Program} {w : World} {K : PySem.W.Frag} {mg : Str → Option Value} {base : Heap}
theorem loop_tyJ (J : TxJd w K mg) {H : Hp} {o : Addr} {t : Str} (h : LoopAt J.M.T.C H o t) : TyX K H (.ref o) (.ref J.M.T.C) := by
  obtain ⟨dx, pr, pe, po, pq, e, _⟩ := h
  exact .base (.ins e J.M.T.cl J.M.c1 J.M.c2 J.M.c3 J.M.c4)
theorem src_tyJ (J : TxJd w K mg) {H : Hp} {o : Addr} {A B E : Str} (h : SrcU J.S.U.M.U.C H o A B E) : TyX K H (.ref o) (.ref J.S.U.M.U.C) := by
  obtain ⟨dx, e⟩ := h
  exact .base (.ins e J.S.U.M.U.cl J.d1 J.M.c2 J.M.c3 J.d4)
def spCkl (C : Addr) : Sp := fun vs H Q _ => ∃ (o : Addr) (t : Str), vs = [.ref o] ∧ LoopAt C H o t ∧ Q .non H
theorem scCKL : FnScope ["loop"] ["loop"] (defScope sCKL) := ⟨rfl, rfl, rfl, by decide +kernel, rfl, by decide +kernel, by decide +kernel⟩
theorem ok_ckl (J : TxJd w K mg) : FnOk P w K mg base CX0 1 J.ckl.f J.ckl.fd ["loop"] (spCkl J.M.T.C) := by
  refine J.ckl.F.ok scCKL (fun vs H Q E h => ?_) (fun cdv A outer s H vs Q E hr h => ?_)
  · obtain ⟨o, t, rfl, _⟩ := h
    rfl
  · obtain ⟨o, t, rfl, hL, k⟩ := h
    exact ⟨_, (pss_one (ps_if (pt_not (pt_val (pe_callB call_isi (by rfl) J.isi (by decide +kernel) (pa_cons (pv 0) (pa_cons (pe_glob (v := .ref J.M.T.C) rfl J.M.T.gC rfl) pa_nil))))) (pss_one ps_never) pss_nil)), _, rfl, _, _, _, _, true, rfl, .own J.M.T.C, loop_tyJ J hL, J.M.k1, true, rfl, iteF k⟩
def spCku (C : Addr) : Sp := fun vs H Q _ => ∃ (o : Addr) (A B E : Str), vs = [.ref o] ∧ SrcU C H o A B E ∧ Q .non H
theorem scCKU : FnScope ["source"] ["source"] (defScope sCKU) := ⟨rfl, rfl, rfl, by decide +kernel, rfl, by decide +kernel, by decide +kernel⟩
theorem ok_cku (J : TxJd w K mg) : FnOk P w K mg base CX0 1 J.cku.f J.cku.fd ["source"] (spCku J.S.U.M.U.C) := by
  refine J.cku.F.ok scCKU (fun vs H Q E h => ?_) (fun cdv A outer s H vs Q E hr h => ?_)
  · obtain ⟨o, A, B, E, rfl, _⟩ := h
    rfl
  · obtain ⟨o, A1, B1, E1, rfl, hU, k⟩ := h
    exact ⟨_, (pss_one (ps_if (pt_not (pt_val (pe_callB call_isi (by rfl) J.isi (by decide +kernel) (pa_cons (pv 0) (pa_cons (pe_glob (v := .ref J.S.U.M.U.C) rfl J.S.U.M.U.gC rfl) pa_nil))))) (pss_one ps_never) pss_nil)), _, rfl, _, _, _, _, true, rfl, .own J.S.U.M.U.C, src_tyJ J hU, J.u1, true, rfl, iteF k⟩
def spCkn : Sp := fun vs H Q _ => ∃ nm : Nm, vs = [.str (nmS nm)] ∧ Q .non H
theorem scCKN : FnScope ["name"] ["name"] (defScope sCKN) := ⟨rfl, rfl, rfl, by decide +kernel, rfl, by decide +kernel, by decide +kernel⟩
theorem ok_ckn (J : TxJd w K mg) : FnOk P w K mg base CX0 1 J.ckn.f J.ckn.fd ["name"] spCkn := by
  refine J.ckn.F.ok scCKN (fun vs H Q E h => ?_) (fun cdv A outer s H vs Q E hr h => ?_)
  · obtain ⟨nm, rfl, _⟩ := h
    rfl
  · obtain ⟨nm, rfl, k⟩ := h
    refine ⟨_, (pss_one (ps_if (PW.pt (pw_or (pt_not (pt_val (pe_callB call_isi (by rfl) J.isi (by decide +kernel) (pa_cons (pv 0) (pa_cons (pe_bltn (v := .ty "str") (by rfl) J.str (by decide +kernel) rfl) pa_nil))))) (pw_or1 (pt_cmpR op_notIn_seq (pv 0) (pe_glob (v := .ref J.pN) rfl J.gN rfl) (by rfl))))) (pss_one ps_never) pss_nil)), ?_⟩
    refine ⟨_, rfl, _, _, _, _, true, rfl, .ty "str", .base (.str (nmS nm)), kit_ty (by decide +kernel), true, rfl, iteF ?_⟩
    refine ⟨_, rfl, J.pN, _, rfl, .inr (J.lN _), rfl, rfl, _, rfl, ?_⟩
    rw [names_nm]
    exact iteF k
/-! ### Search.__init__, always -/
def spSI (S : TxSr w K mg) : Sp := fun vs H Q _ => ∃ (x dx lo so : Addr) (nm : Str), vs = [.ref x, .ref lo, .ref so, .str nm] ∧ H x = some (.ins S.C dx []) ∧ ∀ H' : Hp, Off x H H' → H' x = some (.ins S.C dx (sfS lo so nm)) → Q .non H'
theorem scSI : FnScope ["self", "loop", "source", "name"] ["self", "loop", "source", "name"] (defScope sSI) := ⟨rfl, rfl, rfl, by decide +kernel, rfl, by decide +kernel, by decide +kernel⟩
theorem ok_si (S : TxSr w K mg) : FnOk P w K mg base CX0 1 S.fI S.fdI ["self", "loop", "source", "name"] (spSI S) := by
  refine S.FI.ok scSI (fun vs H Q E h => ?_) (fun cdv A outer s H vs Q E hr h => ?_)
  · obtain ⟨x, dx, lo, so, nm, rfl, _⟩ := h
    rfl
  · obtain ⟨x, dx, lo, so, nm, rfl, hx, k⟩ := h
    refine ⟨_, pss_cons (ps_fld (pv 0) (pv 1) rfl) (pss_cons (ps_fld (pv 0) (pv 2) rfl) (pss_one (ps_fld (pv 0) (pv 3) rfl))), ?_⟩
    refine ⟨_, rfl, _, rfl, x, S.C, dx, _, rfl, hx, S.cl, S.nL, (by show 0 < 1000; decide), ?_⟩
    refine ⟨_, rfl, _, rfl, x, S.C, dx, _, rfl, upd_same, S.cl, S.nS, (by show 1 < 1000; decide), ?_⟩
    refine ⟨_, rfl, _, rfl, x, S.C, dx, _, rfl, upd_same, S.cl, S.nN, ?_, ?_⟩
    · exact Nat.lt_of_le_of_lt (putF_len _ _ _) (Nat.lt_of_le_of_lt (Nat.add_le_add_right (putF_len _ _ _) 1) (by decide))
    · have e : putF "name" (.str nm) (putF "source" (.ref so) (putF "loop" (.ref lo) [])) = sfS lo so nm := by kernel_rfl
      refine k _ (fun b o nb e => ?_) (by rw [upd_same, e])
      rw [upd_ne nb, upd_ne nb, upd_ne nb]
      exact e
def spAl (J : TxJd w K mg) : Sp := fun vs H Q _ => ∃ (lo so : Addr) (t A B E : Str) (nm : Nm), vs = [.ref lo, .ref so, .str (nmS nm)] ∧ LoopAt J.M.T.C H lo t ∧ goodText t = true ∧ SrcU J.S.U.M.U.C H so A B E ∧ ∀ H', Same H H' → Q (.bl (alwT t A B E (nmS nm))) H'
theorem scAl : FnScope ["loop", "source", "name"] ["loop", "source", "name"] (defScope sAlw) := ⟨rfl, rfl, rfl, by decide +kernel, rfl, by decide +kernel, by decide +kernel⟩
theorem ok_al (J : TxJd w K mg) : FnOk P w K mg base CX0 9 J.alw.f J.alw.fd ["loop", "source", "name"] (spAl J) := by
  have G1 : FnOk P w K mg base CX0 1 J.ckl.f J.ckl.fd ["loop"] (spCkl J.M.T.C) := ok_ckl J
  have G2 : FnOk P w K mg base CX0 1 J.cku.f J.cku.fd ["source"] (spCku J.S.U.M.U.C) := ok_cku J
  have G3 : FnOk P w K mg base CX0 1 J.ckn.f J.ckn.fd ["name"] spCkn := ok_ckn J
  have GI : FnOk P w K mg base CX0 1 J.S.fI J.S.fdI ["self", "loop", "source", "name"] (spSI J.S) := ok_si J.S
  have GH : FnOk P w K mg base CX0 8 J.S.hf.f J.S.hf.fd ["self"] (spHf J.S) := ok_hf J.S
  refine J.alw.F.ok scAl (fun vs H Q E h => ?_) (fun cdv A outer s H vs Q E hr h => ?_)
  · obtain ⟨lo, so, t, A1, B1, E1, nm, rfl, _⟩ := h
    rfl
  · obtain ⟨lo, so, t, A1, B1, E1, nm, rfl, hL, gt, hU, k⟩ := h
    have hr1 : Room 1 _ := hr.mono (by decide)
    have hr2 : Room 2 _ := hr.mono (by decide)
    refine ⟨_, (pss_cons (ps_expr (pe_call G1 hr1 rfl J.ckl.g J.ckl.k J.ckl.b .nil pass0 (pa_cons (pv 0) pa_nil))) (pss_cons (ps_expr (pe_call G2 hr1 rfl J.cku.g J.cku.k J.cku.b .nil pass0 (pa_cons (pv 1) pa_nil))) (pss_cons (ps_expr (pe_call G3 hr1 rfl J.ckn.g J.ckn.k J.ckn.b .nil pass0 (pa_cons (pv 2) pa_nil))) (pss_one (ps_ret (pe_not (pe_meth0 (pe_make J.S.MI GI hr2 rfl J.S.gC J.S.bI .nil pass0 (pa_cons (pv 0) (pa_cons (pv 1) (pa_cons (pv 2) pa_nil)))) J.S.cl J.S.hf.m GH hr J.S.hf.b .nil pass0))))))), ?_⟩
    refine ⟨_, rfl, lo, t, rfl, hL, _, rfl, so, A1, B1, E1, rfl, hU, _, rfl, nm, rfl, ?_⟩
    refine ⟨_, rfl, _, rfl, _, rfl, ?_⟩
    intro x dx nx ndx nex
    refine ⟨x, dx, lo, so, nmS nm, rfl, upd_same, fun H4 o4 h4 => ⟨rfl, ?_⟩⟩
    have s4 := made_same nx ndx o4
    have hL4 := hL.same s4
    rw [← J.eT] at hL4
    refine ⟨x, dx, _, rfl, h4, (sf_no ..).2.2.2.2, x, dx, lo, so, t, A1, B1, E1, nm, rfl, ⟨h4, hL4, hU.same s4⟩, gt, fun hF H5 s5 => ?_, fun hF H5 s5 => ?_⟩
    · have := k H5 (Same.trans s4 s5)
      unfold alwT at this
      rw [alw_has hF] at this
      exact ⟨_, rfl, this⟩
    · have := k H5 (Same.trans s4 s5)
      unfold alwT at this
      rw [alw_no hF] at this
      exact ⟨_, rfl, this⟩
end
end My

/-! the checker's claims that a loop always has a property -/
namespace My
open PySem L2 Cm LM EM SR Gd RpA
abbrev sSo : Stmt := top 107
abbrev sITO : Stmt := top 106
abbrev sSA : Stmt := top 108
abbrev sFo : Stmt := top 115
abbrev sHo : Stmt := top 116
structure TxHk (w : World) (K : PySem.W.Frag) (mg : Str → Option Value) where
  J : TxJd w K mg
  tuple : mg "tuple" = none
  so : Df K mg "source_of" sSo ["text"]
  ito : Df K mg "is_tuple_of" sITO ["value", "many"]
  sa : Df K mg "shows_always" sSA ["claim", "paper"]
  dF : Addr
  gF : mg "LONG_FORMS" = some (.ref dF)
  dw : He.dicW K dF = some (He.keysIn w.params ["always", "fault", "unlike"])
  nk : PySem.W.nsIn K dF "always" = some (some (.ref sa.f))
  fo : Df K mg "form_of" sFo ["claim"]
  ho : Df K mg "holds" sHo ["claim", "paper"]
  CI : Addr
  gI : mg "InputError" = some (.ref CI)
/-! ### kinds as texts -/
def kindT (A B E : Str) : Str := Txt.join " " [A, B, E]
theorem kind_split {A B E : Str} (hA : isAm A) (hB : isPa B) (hE : isEn E) : Txt.split (kindT A B E) " " = [A, B, E] ∧ (kindT A B E).length ≤ 100 := by
  rcases hA with rfl | rfl <;> rcases hB with rfl | rfl <;> rcases hE with rfl | rfl | rfl <;> exact ⟨by decide +kernel, by decide +kernel⟩
theorem mk_src (U : TxU K mg) {H : Hp} {A B E' : Str} {E : XK} {R : Hp → Prop} {x dx : Addr} (hA : isAm A) (hB : isPa B) (hE : isEn E') (nx : H x = none) (ndx : H dx = none) (q : ∀ (H' : Hp), Same H H' → SrcU U.C H' x A B E' → R H') :
    spUI U.C [.ref x, .str A, .str B, .str E'] (upd (upd H dx (.own x)) x (.ins U.C dx [])) (fun v H2 => v = .non ∧ R H2) E :=
  ⟨x, dx, A, B, E', rfl, hA, hB, hE, upd_same, fun H' o h => ⟨rfl, q H' (made_same nx ndx o) ⟨dx, h⟩⟩⟩
/-- whether it is a tuple of so many things -/
def isTN : PyData → Nat → Bool
  | .tuple ds, n => decide (ds.length = n)
  | _, _ => false
def isTup : PyData → Bool
  | .tuple _ => true
  | _ => false
theorem kit_tup {K : PySem.W.Frag} : ∀ d : PyData, PySem.W.kitOne K (.type (tyN d)) (.type "tuple") = some (isTup d)
  | .none => kit_ty (show kitB "NoneType" "tuple" = some false by decide +kernel)
  | .bool _ => kit_ty (show kitB "bool" "tuple" = some false by decide +kernel)
  | .int _ => kit_ty (show kitB "int" "tuple" = some false by decide +kernel)
  | .str _ => kit_ty (show kitB "str" "tuple" = some false by decide +kernel)
  | .list _ => kit_ty (show kitB "list" "tuple" = some false by decide +kernel)
  | .tuple _ => kit_ty (show kitB "tuple" "tuple" = some true by decide +kernel)
  | .dict _ => kit_ty (show kitB "dict" "tuple" = some false by decide +kernel)
section
variable {P : Program} {w : World} {K : PySem.W.Frag} {mg : Str → Option Value} {base : Heap}
def spSo (C : Addr) : Sp := fun vs H Q _ => ∃ A B E : Str, vs = [.str (kindT A B E)] ∧ isAm A ∧ isPa B ∧ isEn E ∧ ∀ (H' : Hp) (so : Addr), Same H H' → SrcU C H' so A B E → Q (.ref so) H'
abbrev NSo : List Str := ["text", "words", "amount", "patience", "end"]
theorem scSo : FnScope NSo ["text"] (defScope sSo) := ⟨rfl, rfl, rfl, by decide +kernel, rfl, by decide +kernel, by decide +kernel⟩
theorem ok_so (T : TxHk w K mg) : FnOk P w K mg base CX0 4 T.so.f T.so.fd ["text"] (spSo T.J.S.U.M.U.C) := by
  have GU : FnOk P w K mg base CX0 2 T.J.S.U.M.U.fI T.J.S.U.M.U.fdI ["self", "amount", "patience", "end"] (spUI T.J.S.U.M.U.C) := ok_ui T.J.S.U.M.U
  refine T.so.F.ok scSo (fun vs H Q E h => ?_) (fun cdv A outer s H vs Q E hr h => ?_)
  · obtain ⟨A, B, E', rfl, _⟩ := h
    rfl
  · obtain ⟨A1, B1, E1, rfl, hA, hB, hE, k⟩ := h
    obtain ⟨es, ln⟩ := kind_split hA hB hE
    have hr3 : Room (2 + 1) _ := hr.mono (by decide)
    refine ⟨_, (pss_cons (ps_set (i := 1) scSo.nd rfl (.inl rfl) (pe_ifExp (pt_val (pe_callB call_isi (by rfl) T.J.isi (by decide +kernel) (pa_cons (pv 0) (pa_cons (pe_bltn (v := .ty "str") (by rfl) T.J.str (by decide +kernel) rfl) pa_nil)))) (pe_split (pv 0) pe_str) (pe_lst pa_nil))) (pss_cons (ps_if (pt_cmpR op_ne (pe_callB call_len_seq (by rfl) T.J.S.Mk.X.len PySem.boot_len (pa_cons (pv 1) pa_nil)) pe_int (nomark _)) (pss_one ps_never) pss_nil) (pss_cons (ps_asg (pv 1) (pg_lst rfl (pgs_cons (pg_name (i := 2) scSo.nd rfl (.inl rfl)) (pgs_cons (pg_name (i := 3) scSo.nd rfl (.inl rfl)) (pgs_cons (pg_name (i := 4) scSo.nd rfl (.inl rfl)) pgs_nil))))) (pss_one (ps_ret (pe_make T.J.S.U.M.U.MI GU hr3 rfl T.J.S.U.M.U.gC T.J.S.U.M.U.bI .nil pass0 (pa_cons (pv 2) (pa_cons (pv 3) (pa_cons (pv 4) pa_nil))))))))), ?_⟩
    generalize kindT A1 B1 E1 = kt at es ln
    refine ⟨_, rfl, _, _, _, _, true, rfl, .ty "str", .base (.str kt), kit_ty (by decide +kernel), _, rfl, iteT ?_⟩
    refine ⟨_, rfl, ⟨_, rfl⟩, kt, " ", rfl, rfl, by decide +kernel, Nat.le_trans (Nat.add_le_add_right ln 2) (by decide), fun q nq => ?_⟩
    rw [es]
    have s1 := same_new (o := .lst (svs [A1, B1, E1])) nq
    refine ⟨_, rfl, q, _, rfl, .inl (SqL.of upd_same), rfl, _, rfl, iteF ?_⟩
    refine ⟨_, rfl, q, _, rfl, SqL.of upd_same, rfl, _, _, rfl, _, _, rfl, _, _, rfl, rfl, ?_⟩
    refine ⟨_, rfl, _, rfl, _, rfl, ?_⟩
    exact fun x dx nx ndx nex => mk_src T.J.S.U.M.U hA hB hE nx ndx fun H2 s2 hx => k H2 x (Same.trans s1 s2) hx
def spITO : Sp := fun vs H Q _ => ∃ (v : V) (d : PyData) (n : Nat), vs = [v, .int (n : Nat)] ∧ Dq H v d ∧ Q (.bl (isTN d n)) H
theorem scITO : FnScope ["value", "many"] ["value", "many"] (defScope sITO) := ⟨rfl, rfl, rfl, by decide +kernel, rfl, by decide +kernel, by decide +kernel⟩
theorem ok_ito (T : TxHk w K mg) : FnOk P w K mg base CX0 1 T.ito.f T.ito.fd ["value", "many"] spITO := by
  refine T.ito.F.ok scITO (fun vs H Q E h => ?_) (fun cdv A outer s H vs Q E hr h => ?_)
  · obtain ⟨a, xs, n, rfl, _⟩ := h
    rfl
  · obtain ⟨v, d, n, rfl, hd, k⟩ := h
    refine ⟨_, (pss_one (ps_ret (pe_and (pe_callB call_isi (by rfl) T.J.isi (by decide +kernel) (pa_cons (pv 0) (pa_cons (pe_bltn (v := .ty "tuple") (by rfl) T.tuple (by decide +kernel) rfl) pa_nil))) (pe_one (pe_cmpR op_eq (pe_callB call_len_seq (by rfl) T.J.S.Mk.X.len PySem.boot_len (pa_cons (pv 0) pa_nil)) (pv 1) (nomark _)))))), ?_⟩
    refine ⟨_, rfl, _, _, _, _, isTup d, rfl, .ty "tuple", dq_ty hd, kit_tup d, _, rfl, ?_⟩
    cases hd with
    | tup ha hs =>
      refine iteT ⟨_, rfl, _, _, rfl, .inr (SqT.of ha), _, rfl, rfl, ?_⟩
      rw [dI, dqa_len hs]
      rename_i ds
      rw [show decide (((ds.length : Nat) : Int) = ((n : Nat) : Int)) = decide (ds.length = n) from decide_eq_decide.mpr (by omega)]
      exact k
    | non => exact iteF k
    | bl b => exact iteF k
    | int i => exact iteF k
    | str x => exact iteF k
    | lst ha hs => exact iteF k
    | dct ha => exact iteF k
/-! ### shows_always -/
/-- a claim -/
def Clm (H : Hp) (c : Addr) (t A B E : Str) (nm : Nm) : Prop := H c = some (.tup [.str "always", .str t, .str (kindT A B E), .str (nmS nm)]) ∧ goodText t = true ∧ Bd t ∧ isAm A ∧ isPa B ∧ isEn E
theorem Clm.same {H H' : Hp} {c : Addr} {t A B E : Str} {nm : Nm} (s : Same H H') (h : Clm H c t A B E nm) : Clm H' c t A B E nm := ⟨s _ _ h.1, h.2⟩
noncomputable def dueA (d : PyData) (t A B E : Str) (nm : Nm) : Bool := isTN d 0 && alwT t A B E (nmS nm)
def spSA : Sp := fun vs H Q _ => ∃ (c : Addr) (v : V) (d : PyData) (t A B E : Str) (nm : Nm), vs = [.ref c, v] ∧ Clm H c t A B E nm ∧ Dq H v d ∧ ∀ H', Same H H' → Q (.bl (dueA d t A B E nm)) H'
theorem scSA : FnScope ["claim", "paper"] ["claim", "paper"] (defScope sSA) := ⟨rfl, rfl, rfl, by decide +kernel, rfl, by decide +kernel, by decide +kernel⟩
theorem ok_sa (T : TxHk w K mg) : FnOk P w K mg base (L2.CX P w) 10 T.sa.f T.sa.fd ["claim", "paper"] spSA := by
  have GM : FnOk P w K mg base (L2.CX P w) 4 T.J.M.T.fI T.J.M.T.fdI ["self", "text"] (spLI K T.J.M.T.C T.J.M.T.E.C) := ok_li T.J.M.T
  have GS : FnOk P w K mg base CX0 4 T.so.f T.so.fd ["text"] (spSo T.J.S.U.M.U.C) := ok_so T
  have GT : FnOk P w K mg base CX0 1 T.ito.f T.ito.fd ["value", "many"] spITO := ok_ito T
  have GA : FnOk P w K mg base CX0 9 T.J.alw.f T.J.alw.fd ["loop", "source", "name"] (spAl T.J) := ok_al T.J
  refine T.sa.F.okX scSA (fun vs H Q E h => ?_) (fun cdv A outer s H vs Q E hr h => ?_)
  · obtain ⟨_, _, _, _, _, _, _, _, rfl, _⟩ := h
    rfl
  · obtain ⟨c, v, d, t, A1, B1, E1, nm, rfl, ⟨hc, gt, bt, hA, hB, hE⟩, hd, k⟩ := h
    have hr1 : Room 1 _ := hr.mono (by decide)
    have hr4 : Room 4 _ := hr.mono (by decide)
    have hr5 : Room (4 + 1) _ := hr.mono (by decide)
    refine ⟨_, (pss_one (ps_ret (pe_and (pe_call GT hr1 rfl T.ito.g T.ito.k T.ito.b .nil pass0 (pa_cons (pv 1) (pa_cons pe_int pa_nil))) (pe_one (pe_call GA hr rfl T.J.alw.g T.J.alw.k T.J.alw.b .nil pass0 (pa_cons (pe_make T.J.M.T.MI GM hr5 rfl T.J.M.T.gC T.J.M.T.bI .nil pass_none (pa_cons (pe_ix ix_tup (pv 0) pe_int (fun _ _ => rfl)) pa_nil)) (pa_cons (pe_call GS hr4 rfl T.so.g T.so.k T.so.b .nil pass0 (pa_cons (pe_ix ix_tup (pv 0) pe_int (fun _ _ => rfl)) pa_nil)) (pa_cons (pe_ix ix_tup (pv 0) pe_int (fun _ _ => rfl)) pa_nil)))))))), ?_⟩
    refine ⟨_, rfl, v, d, 0, rfl, hd, _, rfl, ?_⟩
    cases h0 : isTN d 0 with
    | false =>
      have := k H (Same.refl _)
      unfold dueA at this
      rw [h0, Bool.false_and] at this
      exact iteF this
    | true =>
      refine iteT ⟨_, rfl, c, _, 1, _, rfl, rfl, SqT.of hc, rfl, fun x dx nx ndx nex => ?_⟩
      refine ⟨x, dx, _, rfl, upd_same, typed_str _, bt, fun t0 et _ H1 o1 l1 => ⟨rfl, ?_⟩, fun z => absurd (gt.symm.trans z) (by decide)⟩
      cases et
      have s1 : Same H H1 := made_same nx ndx o1
      refine ⟨_, rfl, c, _, 2, _, rfl, rfl, SqT.of (s1 _ _ hc), rfl, A1, B1, E1, rfl, hA, hB, hE, fun H2 so s2 hso => ?_⟩
      have s02 := Same.trans s1 s2
      refine ⟨_, rfl, c, _, 3, _, rfl, rfl, SqT.of (s02 _ _ hc), rfl, x, so, t, A1, B1, E1, nm, rfl, l1.same s2, gt, hso, fun H3 s3 => ?_⟩
      have := k H3 (Same.trans s02 s3)
      unfold dueA at this
      rw [h0, Bool.true_and] at this
      exact this
/-! ### form_of -/
def spFo (T : TxHk w K mg) : Sp := fun vs H Q _ => ∃ (c : Addr) (t t' E : Str), vs = [.ref c] ∧ H c = some (.tup [.str "always", .str t, .str t', .str E]) ∧ Q (.ref T.sa.f) H
theorem scFo : FnScope ["claim"] ["claim"] (defScope sFo) := ⟨rfl, rfl, rfl, by decide +kernel, rfl, by decide +kernel, by decide +kernel⟩
theorem ok_fo (T : TxHk w K mg) : FnOk P w K mg base CX0 2 T.fo.f T.fo.fd ["claim"] (spFo T) := by
  have GT : FnOk P w K mg base CX0 1 T.ito.f T.ito.fd ["value", "many"] spITO := ok_ito T
  obtain ⟨es, nd, D⟩ := He.dicW_ok T.dw
  refine T.fo.F.ok scFo (fun vs H Q E h => ?_) (fun cdv A outer s H vs Q E hr h => ?_)
  · obtain ⟨c, t, t', E', rfl, _⟩ := h
    rfl
  · obtain ⟨c, t, t', E', rfl, hc, k⟩ := h
    refine ⟨_, (pss_cons (ps_if (PW.pt (pw_and (pt_val (pe_call GT hr rfl T.ito.g T.ito.k T.ito.b .nil pass0 (pa_cons (pv 0) (pa_cons pe_int pa_nil)))) (pw_and1 (pt_val (pe_callB call_isi (by rfl) T.J.isi (by decide +kernel) (pa_cons (pe_ix ix_tup (pv 0) pe_int (fun _ _ => rfl)) (pa_cons (pe_bltn (v := .ty "str") (by rfl) T.J.str (by decide +kernel) rfl) pa_nil))))))) (pss_one (ps_ret (RwR.pe_kget D (pe_glob (v := .ref T.dF) rfl T.gF rfl) (pe_ix ix_tup (pv 0) pe_int (fun _ _ => rfl)) ⟨rfl, rfl, rfl, rfl⟩))) pss_nil) (pss_cons (ps_if (PW.pt (pw_and (pt_val (pe_call GT hr rfl T.ito.g T.ito.k T.ito.b .nil pass0 (pa_cons (pv 0) (pa_cons pe_int pa_nil)))) (pw_and1 (pt_val (pe_callB call_isi (by rfl) T.J.isi (by decide +kernel) (pa_cons (pe_ix ix_tup (pv 0) pe_int (fun _ _ => rfl)) (pa_cons (pe_bltn (v := .ty "str") (by rfl) T.J.str (by decide +kernel) rfl) pa_nil))))))) (pss_one ps_never) pss_nil) (pss_one (ps_ret pe_non)))), ?_⟩
    refine ⟨_, rfl, .ref c, .tuple [.str "always", .str t, .str t', .str E'], 4, rfl, .tup hc (.cons (.str _) (.cons (.str _) (.cons (.str _) (.cons (.str _) .nil)))), _, rfl, iteT ?_⟩
    refine ⟨_, rfl, c, _, 0, _, rfl, rfl, SqT.of hc, rfl, _, _, _, _, true, rfl, .ty "str", .base (.str _), kit_ty (show kitB "str" "str" = some true by decide +kernel), _, rfl, iteT ?_⟩
    exact ⟨rfl, _, rfl, c, _, 0, _, rfl, rfl, SqT.of hc, rfl, "always", _, .ref T.sa.f, rfl, T.nk, rfl, k⟩
/-! ### holds -/
theorem scHo : FnScope ["claim", "paper", "form"] ["claim", "paper"] (defScope sHo) := ⟨rfl, rfl, rfl, by decide +kernel, rfl, by decide +kernel, by decide +kernel⟩
theorem ok_ho (T : TxHk w K mg) : FnOk P w K mg base CX0 11 T.ho.f T.ho.fd ["claim", "paper"] spSA := by
  have GF : FnOk P w K mg base CX0 2 T.fo.f T.fo.fd ["claim"] (spFo T) := ok_fo T
  have GS : FnOk P w K mg base (L2.CX P w) 10 T.sa.f T.sa.fd ["claim", "paper"] spSA := ok_sa T
  refine T.ho.F.ok scHo (fun vs H Q E h => ?_) (fun cdv A outer s H vs Q E hr h => ?_)
  · obtain ⟨_, _, _, _, _, _, _, _, rfl, _⟩ := h
    rfl
  · obtain ⟨c, v, d, t, A1, B1, E1, nm, rfl, hC, hd, k⟩ := h
    have hr2 : Room 2 _ := hr.mono (by decide)
    refine ⟨_, pss_cons (ps_set (i := 2) scHo.nd rfl (.inl rfl) (pe_call GF hr2 rfl T.fo.g T.fo.k T.fo.b .nil pass0 (pa_cons (pv 0) pa_nil))) (pss_cons (ps_if (pt_cmpR op_isN (pv 2) pe_non (nomark _)) (pss_one ps_never) pss_nil)
      (pss_one (ps_try_only (X := (cxOf CX0 P w K mg base ["claim", "paper", "form"] "holds" (defScope sHo) T.ho.f cdv A outer s H E).nox) (Wout := fun _ _ _ _ => False) (c := .ref T.CI)
        (tb := fun W D σ H => ∃ (c : Addr) (v : V), σ = [some (.ref c), some v, some (.ref T.sa.f)] ∧ spSA [.ref c, v] H D.rt fun _ _ _ => False)
        (ts := fun _ _ _ D σ H => D.rt (.bl false) H)
        rfl rfl ⟨rfl, by decide, .inl T.gI⟩ LamX.takes0
        (fun W pn xe tk _ => ⟨fun pins s2 σ H2 D I ⟨c, v, h0, h1⟩ => ?_⟩)
        (fun a oe cls d pn _ _ => CmH.ss_imp (pss_one (ps_ret pe_bl)) (fun D σ H h => h))))), ?_⟩
    · subst h0
      refine' PSs.run (?h : PSs _ _ _) pins s2 _ H2 D I ?r
      case h => exact (pss_one (ps_ret (pe_callL (E := fun _ _ _ => False) (i := 2) GS hr rfl (.inl rfl) T.sa.k T.sa.b .nil (passes_call tk fun _ _ _ _ h => h.elim) (pa_cons (pv 0) (pa_cons (pv 1) pa_nil)))))
      exact ⟨rfl, _, rfl, _, rfl, h1⟩
    refine ⟨_, rfl, c, t, _, _, rfl, hC.1, ?_⟩
    refine ⟨_, rfl, rfl, _, rfl, iteF ?_⟩
    exact ⟨c, v, rfl, c, v, d, t, A1, B1, E1, nm, rfl, hC, hd, k⟩
end
end My

/-! f(k = v, ..): a def called by keywords alone -/
namespace FKw
open PySem L2
def tCallK0 (sp : Sp) (gV : List V → List V → List V) (E : XK) (tk : TA) : TE := fun σ H Q => tk σ H fun zs H2 => sp (gV [] zs) H2 Q E
theorem pe_callK0 {X : Cx} {CX : CXT} {k : Nat} {f : Addr} {fd : FuncData} {ps ks : List Str} {sp : Sp} {E : XK} {x : Str} {p pos : Pos} {kws : List Keyword} {tk : TA} {g : List Value → List Value → List Value} {gV : List V → List V → List V}
    (F : FnOk X.prog X.w X.K X.mg X.base CX k f fd ps sp) (hr : Room k X.A) (hg : Gl X x) (hm : X.mg x = some (.ref f)) (hk : PySem.W.keepIn X.K (.ref f) = true) (hb : KBinds X.K fd ps ks g gV) (hx : Passes CX X E) (hkw : PK X kws tk)
    (hall : (backToKw pos (keywordEach kws X.env)).all (·.1.isSome) = true := by rfl) (hks : (backToKw pos (keywordEach kws X.env)).filterMap (·.1) = ks := by rfl) (hdb : (x == ("__debug__" : Str)) = false := by decide)
    (hpl : ((backTo pos (starEach [] X.env)).any (·.1) || (backToKw pos (keywordEach kws X.env)).any (·.1.isNone)) = false := by rfl) :
    PE X (.Call (.Name x p) [] kws pos) (tCallK0 sp gV E tk) := by
  refine ⟨fun pins s σ H Q I h => ?_⟩
  refine wpAny_Call_Name_kw (ld_glob I hg hm ?_ hdb)
  refine PySem.W.callWith_KW0 (first := []) (h₀ := X.base) I.ok.mod.kin hk hall ?_ hpl
  refine thn (hkw.run pos pins s σ H _ I h) fun ws s2 ⟨zs, H2, I2, rz, q2⟩ => ⟨I2.kIn, ?_⟩
  rw [hks]
  exact run_fnk (us := []) (vs := []) F hr hb hx I2 .nil rz q2
end FKw

/-! is, is not of two bools -/
namespace IsB
open PySem PySem.Spec PyProof.Rows L2
section
variable {X : Cx}
theorem op_isB : OpR X (compareOp .Is) (fun x y H Q => ∃ a b : Bool, x = .bl a ∧ y = .bl b ∧ Q (.bl (decide (a = b))) H) := by
  intro pins s σ H x y v u Q I rx ry h
  obtain ⟨a, b, rfl, rfl, q⟩ := h
  cases (show v = Value.bool a from rx)
  cases (show u = Value.bool b from ry)
  exact wpAny_is_plain (by cases a <;> cases b <;> rfl) (fin_bl I q (by cases a <;> cases b <;> rfl))
theorem op_isnotB : OpR X (compareOp .IsNot) (fun x y H Q => ∃ a b : Bool, x = .bl a ∧ y = .bl b ∧ Q (.bl (!decide (a = b))) H) := by
  intro pins s σ H x y v u Q I rx ry h
  obtain ⟨a, b, rfl, rfl, q⟩ := h
  cases (show v = Value.bool a from rx)
  cases (show u = Value.bool b from ry)
  exact wpAny_isNot_plain (by cases a <;> cases b <;> rfl) (fin_bl I q (by cases a <;> cases b <;> rfl))
end
end IsB

/-! the law's turn -/
namespace My
open PySem L2 Cm LM EM SR Gd RpA
abbrev sRight : Stmt := top 137
abbrev NR : List Str := ["_law_jar_here", "_law_turn", "_law_made", "_law_kind_here", "_law_line_here", "_law_tap", "_law_prop", "_law_claim_here", "_law_told_here", "_law_odd"]
def gK0 (us ws : List Value) : List Value := match us, ws with | [], [i, c] => [c, i] | _, _ => []
def gK0V (us ws : List V) : List V := match us, ws with | [], [i, c] => [c, i] | _, _ => []
theorem gK0_rel {vs zs : List V} {us ws : List Value} (h1 : Vals vs us) (h2 : Vals zs ws) : Vals (gK0V vs zs) (gK0 us ws) := by
  cases h1 with
  | cons _ _ => exact .nil
  | nil => cases h2 with
    | nil => exact .nil
    | cons a t => cases t with
      | nil => exact .nil
      | cons b t => cases t with
        | nil => exact .cons b (.cons a .nil)
        | cons _ _ => exact .nil
structure TxR (w : World) (K : PySem.W.Frag) (mg : Str → Option Value) where
  H : TxHk w K mg
  F : TxFi K mg
  repr : mg "repr" = none
  KH : KBinds K H.ho.fd ["claim", "paper"] ["paper", "claim"] gK0 gK0V
/-- repr of a bool -/
def rReprB : List V → Hp → VK → Prop := fun xs H Q => ∃ b : Bool, xs = [.bl b] ∧ Q (.str (if b then "True" else "False")) H
theorem call_reprB {X : Cx} : CallR X (.builtin "repr") rReprB := by
  intro pins s σ H xs us Q I r h
  obtain ⟨b, rfl, q⟩ := h
  obtain ⟨u, rfl, ru⟩ := vals1 r
  cases (show u = Value.bool b from ru)
  exact PySem.P.repr_of_bool ⟨.str _, H, I.tok _, ⟨_, rfl⟩, q⟩
theorem nm_names {nm : Nm} : FJ.Names (nmS nm) := by
  cases nm
  · exact .inl rfl
  · exact .inr (.inl rfl)
  · exact .inr (.inr (.inl rfl))
  · exact .inr (.inr (.inr (.inl rfl)))
  · exact .inr (.inr (.inr (.inr rfl)))
section
variable {P : Program} {w : World} {K : PySem.W.Frag} {mg : Str → Option Value} {base : Heap}
def spRight : Sp := fun vs H Q _ => ∃ j : Addr, vs = [.ref j] ∧ Jar H j ∧ ∀ H', Off j H H' → Q (.bl true) H'
theorem scRight : FnScope NR ["_law_jar_here"] (defScope sRight) := ⟨rfl, rfl, rfl, by decide +kernel, rfl, by decide +kernel, by decide +kernel⟩
theorem mk_loop (T : TxC K mg) {H : Hp} {t : Str} {E : XK} {R : Hp → Prop} {x dx : Addr} (g : goodText t = true) (bd : Bd t) (nx : H x = none) (ndx : H dx = none) (q : ∀ (H' : Hp), Same H H' → LoopAt T.C H' x t → R H') :
    spLI K T.C T.E.C [.ref x, .str t] (upd (upd H dx (.own x)) x (.ins T.C dx [])) (fun v H2 => v = .non ∧ R H2) E := by
  refine ⟨x, dx, _, rfl, upd_same, typed_str _, bd, fun t' et _ H5 o5 l5 => ⟨rfl, ?_⟩, fun z => absurd (g.symm.trans z) (by decide)⟩
  cases et
  exact q H5 (made_same nx ndx o5) l5
theorem ok_right {f : Addr} {fd : FuncData} (F : Fun K "_law_right" "_law_right" sRight f fd) (R : TxR w K mg) (sm : ∃ ob, base.get? sysModules = some ob) : Gd.FnG P w K mg base CX0 12 f fd ["_law_jar_here"] spRight := by
  have GF : FnOk P w K mg base CX0 2 R.F.E.Y.L.D.frm.f R.F.E.Y.L.D.frm.fd ["_law_jar_here", "_law_things"] (spFrom K) := gk_from R.F.E.Y.L.D
  have GK : FnOk P w K mg base CX0 3 R.F.E.Y.L.knd.f R.F.E.Y.L.knd.fd ["_law_jar_here"] spKind := ok_kind R.F.E.Y.L
  have GO : FnOk P w K mg base CX0 4 R.F.E.Y.L.D.lop.f R.F.E.Y.L.D.lop.fd ["_law_jar_here", "_law_most"] spLoop := ok_loop R.F.E.Y.L.D
  have GN : FnOk P w K mg base CX0 1 R.F.E.Y.L.D.lin.f R.F.E.Y.L.D.lin.fd ["_law_begun", "_law_ended"] spLine := ok_line R.F.E.Y.L.D
  have GM : FnOk P w K mg base (L2.CX P w) 4 R.H.J.M.T.fI R.H.J.M.T.fdI ["self", "text"] (spLI K R.H.J.M.T.C R.H.J.M.T.E.C) := ok_li R.H.J.M.T
  have GU : FnOk P w K mg base CX0 2 R.H.J.S.U.M.U.fI R.H.J.S.U.M.U.fdI ["self", "amount", "patience", "end"] (spUI R.H.J.S.U.M.U.C) := ok_ui R.H.J.S.U.M.U
  have GA : FnOk P w K mg base CX0 9 R.H.J.alw.f R.H.J.alw.fd ["loop", "source", "name"] (spAl R.H.J) := ok_al R.H.J
  have GH : FnOk P w K mg base CX0 11 R.H.ho.f R.H.ho.fd ["claim", "paper"] spSA := ok_ho R.H
  have GI : FnOk P w K mg base CX0 7 R.F.fir.f R.F.fir.fd PF4 spFi := ok_fi R.F
  refine Gd.okG F scRight (fun vs H Q E h => ?_) (fun cdv A outer s H vs Q E _ _ _ hgd hr h => ?_)
  · obtain ⟨j, rfl, _⟩ := h
    rfl
  · obtain ⟨j, rfl, hJ, k⟩ := h
    have hr1 : Room 1 _ := hr.mono (by decide)
    have hr2 : Room 2 _ := hr.mono (by decide)
    have hr3 : Room 3 _ := hr.mono (by decide)
    have hr4 : Room 4 _ := hr.mono (by decide)
    have hr5 : Room 5 _ := hr.mono (by decide)
    have hr7 : Room 7 _ := hr.mono (by decide)
    have hr9 : Room 9 _ := hr.mono (by decide)
    refine ⟨_, (pss_cons (ps_for PassesOwn.never rfl (pi_range1 rfl R.F.E.Y.L.D.range (pa_cons pe_int pa_nil)) (pg_name (i := 1) scRight.nd rfl (.inl rfl)) (C8.pss_cut (ps_par (i := 2) (j := 3) rfl scRight.nd rfl rfl (by decide) rfl rfl (pa_cons (pe_call GO hr4 rfl R.F.E.Y.L.D.lop.g R.F.E.Y.L.D.lop.k R.F.E.Y.L.D.lop.b .nil pass0 (pa_cons (pv 0) (pa_cons pe_int pa_nil))) (pa_cons (pe_call GK hr3 rfl R.F.E.Y.L.knd.g R.F.E.Y.L.knd.k R.F.E.Y.L.knd.b .nil pass0 (pa_cons (pv 0) pa_nil)) pa_nil)) (by rfl)) (pss_cons (ps_set (i := 4) scRight.nd rfl (.inl rfl) (pe_call GN hr1 rfl R.F.E.Y.L.D.lin.g R.F.E.Y.L.D.lin.k R.F.E.Y.L.D.lin.b .nil pass0 (pa_cons (pe_ix ix_tup (pv 2) pe_int (fun _ _ => rfl)) (pa_cons (pe_ix ix_tup (pv 2) pe_int (fun _ _ => rfl)) pa_nil)))) (C8.pss_cut (ps_set (i := 5) scRight.nd rfl (.inl rfl) (pe_make R.H.J.S.U.M.U.MI GU hr3 rfl R.H.J.S.U.M.U.gC R.H.J.S.U.M.U.bI .nil pass0 (pa_cons (pe_ix ix_list (pv 3) pe_int (fun _ _ => rfl)) (pa_cons (pe_ix ix_list (pv 3) pe_int (fun _ _ => rfl)) (pa_cons (pe_ix ix_list (pv 3) pe_int (fun _ _ => rfl)) pa_nil))))) (pss_one (ps_for PassesOwn.never rfl (pi_list (pe_lst (pa_cons pe_str (pa_cons pe_str (pa_cons pe_str (pa_cons pe_str (pa_cons pe_str pa_nil))))))) (pg_name (i := 6) scRight.nd rfl (.inl rfl)) (C8.pss_cut (ps_set (i := 7) scRight.nd rfl (.inl rfl) (pe_tup (pa_cons pe_str (pa_cons (pv 4) (pa_cons (pe_join pe_str (pv 3)) (pa_cons (pv 6) pa_nil)))))) (C8.pss_cut (ps_set (i := 8) scRight.nd rfl (.inl rfl) (pe_call GH hr rfl R.H.ho.g R.H.ho.k R.H.ho.b .nil pass0 (pa_cons (pv 7) (pa_cons (pe_tup pa_nil) pa_nil)))) (C8.pss_cut (ps_if (PW.pt (pw_or (pt_cmpR op_ne (pe_callB call_reprB (by rfl) R.repr (by decide +kernel) (pa_cons (pv 8) pa_nil)) (pe_callB call_reprB (by rfl) R.repr (by decide +kernel) (pa_cons (pe_call GA hr9 rfl R.H.J.alw.g R.H.J.alw.k R.H.J.alw.b .nil pass0 (pa_cons (pe_make R.H.J.M.T.MI GM hr5 rfl R.H.J.M.T.gC R.H.J.M.T.bI .nil pass_none (pa_cons (pv 4) pa_nil)) (pa_cons (pv 5) (pa_cons (pv 6) pa_nil)))) pa_nil)) (nomark _)) (pw_or1 (pt_cmpR op_ne (FKw.pe_callK0 GH hr rfl R.H.ho.g R.H.ho.k R.KH pass0 (pk_cons (pe_tup pa_nil) (pk_cons (pv 7) pk_nil))) (pv 8) (nomark _))))) (pss_one (ps_ret pe_bl)) pss_nil) (C8.pss_cut (ps_set (i := 9) scRight.nd rfl (.inl rfl) (pe_call GF hr2 rfl R.F.E.Y.L.D.frm.g R.F.E.Y.L.D.frm.k R.F.E.Y.L.D.frm.b .nil pass0 (pa_cons (pv 0) (pa_cons (pe_lst (pa_cons pe_non (pa_cons (pe_lst pa_nil) (pa_cons (pe_tup (pa_cons pe_int pa_nil)) (pa_cons (pe_tup (pa_cons pe_int (pa_cons pe_int (pa_cons (pe_tup pa_nil) pa_nil)))) (pa_cons pe_str (pa_cons pe_bl (pa_cons pe_dnewK (pa_cons (pe_tup (pa_cons (pe_tup pa_nil) pa_nil)) pa_nil))))))))) pa_nil)))) (pss_one (ps_if (PW.pt (pw_or (pt_cmpR IsB.op_isnotB (pe_call GH hr rfl R.H.ho.g R.H.ho.k R.H.ho.b .nil pass0 (pa_cons (pv 7) (pa_cons (pv 9) pa_nil))) pe_bl (nomark _)) (pw_or1 (PW.pt (pw_and (pt_val (pv 8)) (pw_and1 (pt_cmpR op_notN (pe_call GI hr7 rfl R.F.fir.g R.F.fir.k R.F.fir.b .nil pass0 (pa_cons (pv 2) (pa_cons (pv 3) (pa_cons (pv 6) (pa_cons pe_int pa_nil))))) pe_non (nomark _)))))))) (pss_one (ps_ret pe_bl)) pss_nil)))))))))))) (pss_one (ps_ret pe_bl))), ?_⟩
    refine ⟨4, rfl, by decide, by decide, for_range (lo := 0) (n := 4) (fun i σ H' => (∃ v1 v2 v3 v4 v5 v6 v7 v8 v9 : Option V, σ = [some (.ref j), v1, v2, v3, v4, v5, v6, v7, v8, v9]) ∧ Off j H H' ∧ Jar H' j)
      ⟨⟨none, none, none, none, none, none, none, none, none, rfl⟩, Off.refl, hJ⟩ ?_ ?_⟩
    rotate_left
    · rintro σ H' ⟨⟨v1, v2, v3, v4, v5, v6, v7, v8, v9, rfl⟩, o, J⟩
      exact k H' o
    rintro i σ H1 hi ⟨⟨v1, v2, v3, v4, v5, v6, v7, v8, v9, rfl⟩, o1, J1⟩
    -- made, kind
    refine ⟨fun σ H' => ∃ (p a b q : Addr) (B E : List Str) (A1 A2 A3 : Str), σ = [some (.ref j), some (.int (0 + (i : Int))), some (.ref p), some (.ref q), v4, v5, v6, v7, v8, v9] ∧ Off j H H' ∧ Jar H' j ∧ H' p = some (.tup [.ref a, .ref b]) ∧ H' a = some (.lst (svs B)) ∧ H' b = some (.lst (svs E)) ∧ isRound B = true ∧ isEnding E = true ∧ H' q = some (.lst [.str A1, .str A2, .str A3]) ∧ isAm A1 ∧ isPa A2 ∧ isEn A3 ∧ p ≠ j ∧ a ≠ j ∧ b ≠ j ∧ q ≠ j, ?_, ?_⟩
    · refine ⟨_, rfl, j, 7, rfl, J1, by decide, by decide, fun H2 p a b B E' W hp => ?_⟩
      refine ⟨_, rfl, j, rfl, W.J, fun H3 q A1 A2 A3 o3 J3 qj i1 i2 i3 hq => ⟨_, _, rfl, ?_⟩⟩
      have pj : p ≠ j := by
        obtain ⟨x1, x2, x3, hj⟩ := W.J
        exact ne_of hp hj (by intro z; cases z)
      have na := jar_ne J1 W.na
      have nb := jar_ne J1 W.nb
      exact ⟨p, a, b, q, B, E', A1, A2, A3, rfl, (o1.trans W.o).trans o3, J3, o3 _ _ pj hp, o3 _ _ na W.ha, o3 _ _ nb W.hb, W.rB, W.rE, hq, i1, i2, i3, pj, na, nb, qj⟩
    rintro _ H2 ⟨p, a, b, q, B, E', A1, A2, A3, rfl, o2, J2, hp, ha, hb, rB, rE, hq, i1, i2, i3, pj, aj, bj, qj⟩
    clear o1 J1
    have g := text_good rB rE
    have bd : Bd (textOf B E') := Nat.le_trans (text_len rB rE) (by decide)
    have tw := text_words rB rE
    -- the line
    refine ⟨_, rfl, p, _, 0, _, rfl, rfl, SqT.of hp, rfl, _, rfl, p, _, 1, _, rfl, rfl, SqT.of hp, rfl, a, b, B, E', rfl, ha, hb, (round_sht rB).mono (by decide), (ending_sht rE).mono (by decide), ending_asc rE, fun H6 s6 => ?_⟩
    rw [line_text (round_ne rB)]
    -- the tap
    refine ⟨fun σ H' => ∃ so : Addr, σ = [some (.ref j), some (.int (0 + (i : Int))), some (.ref p), some (.ref q), some (.str (textOf B E')), some (.ref so), v6, v7, v8, v9] ∧ Same H2 H' ∧ SrcU R.H.J.S.U.M.U.C H' so A1 A2 A3, ?_, ?_⟩
    · have hq7 := s6 _ _ hq
      refine ⟨_, rfl, q, _, 0, .str A1, rfl, rfl, SqL.of hq7, rfl, _, rfl, q, _, 1, .str A2, rfl, rfl, SqL.of hq7, rfl, _, rfl, q, _, 2, .str A3, rfl, rfl, SqL.of hq7, rfl, ?_⟩
      exact fun x2 dx2 nx2 ndx2 nex2 => mk_src R.H.J.S.U.M.U i1 i2 i3 nx2 ndx2 fun H8 s8 hx2 => ⟨x2, rfl, Same.trans s6 s8, hx2⟩
    rintro _ H3 ⟨so, rfl, s3, hU⟩
    clear s6 H6
    have o3 : Off j H H3 := o2.trans (Same.off s3)
    have J3 := J2.same s3
    have hp3 := s3 _ _ hp
    have ha3 := s3 _ _ ha
    have hb3 := s3 _ _ hb
    have hq3 := s3 _ _ hq
    clear o2 J2 hp ha hb hq s3
    have oR : ordsR (textOf B E') = ords B := by unfold ordsR; rw [tw.1]; rfl
    have oE : ordsE (textOf B E') = ords E' := by unfold ordsE; rw [tw.2]; rfl
    have g4 := good4 g
    -- the names
    refine ⟨(by show 5 ≤ sizeLine; decide), fun pl npl => ?_⟩
    have plj := jar_ne J3 npl
    have hpl0 : (upd H3 pl (.lst (svs names))) pl = some (.lst (svs names)) := upd_same
    have u0 := same_new (o := .lst (svs names)) npl
    show ∃ _, _
    have o4 := o3.trans (Same.off (j := j) u0)
    have J4 := J3.same u0
    have hp4 := u0 _ _ hp3
    have ha4 := u0 _ _ ha3
    have hb4 := u0 _ _ hb3
    have hq4 := u0 _ _ hq3
    have hU4 := hU.same u0
    generalize hH4 : upd H3 pl (.lst (svs names)) = H4 at hpl0 o4 J4 hp4 ha4 hb4 hq4 hU4
    have e4 : upd H3 pl (.lst [.str "whole", .str "filled", .str "even", .str "quiet", .str "ends"]) = H4 := hH4
    rw [e4]
    clear hH4 e4 u0 o3 J3 hp3 ha3 hb3 hq3 hU
    refine ⟨pl, rfl, ⟨_, SqL.of hpl0⟩, ?_⟩
    refine for_list (K := K) (a := pl) (xs := svs names) (fun i' σ H' => (∃ v6 v7 v8 v9 : Option V, σ = [some (.ref j), some (.int (0 + (i : Int))), some (.ref p), some (.ref q), some (.str (textOf B E')), some (.ref so), v6, v7, v8, v9]) ∧ Off j H4 H' ∧ Jar H' j)
      ⟨⟨v6, v7, v8, v9, rfl⟩, Off.refl, J4⟩ (fun i σ H' _ ⟨_, o', _⟩ => SqL.of (o' _ _ plj hpl0)) ?_ ?_
    rotate_left
    · rintro σ H5 ⟨⟨v6, v7, v8, v9, rfl⟩, o5, J5⟩
      exact ⟨⟨_, _, _, _, _, _, _, _, _, rfl⟩, o4.trans o5, J5⟩
    rintro i' y σ H5 hy ⟨⟨v6, v7, v8, v9, rfl⟩, o5, J5⟩
    obtain ⟨x, hx, rfl⟩ : ∃ x, names[i']? = some x ∧ y = .str x := by
      rw [show svs names = names.map V.str from rfl, List.getElem?_map] at hy
      cases h : names[i']? with
      | none => rw [h] at hy; cases hy
      | some x => rw [h] at hy; exact ⟨x, rfl, (Option.some.inj hy).symm⟩
    obtain ⟨nm, rfl⟩ := nm_of hx
    have hp5 := o5 _ _ pj hp4
    have ha5 := o5 _ _ aj ha4
    have hb5 := o5 _ _ bj hb4
    have hq5 := o5 _ _ qj hq4
    obtain ⟨dU, hdU⟩ := id hU4
    have hU5 : SrcU R.H.J.S.U.M.U.C H5 so A1 A2 A3 := ⟨dU, o5 _ _ (by
      obtain ⟨x1, x2, x3, hj⟩ := J4
      exact ne_of hdU hj (by intro z; cases z)) hdU⟩
    clear hdU
    have ea : alwT (textOf B E') A1 A2 A3 (nmS nm) = alwM (ords B) (ords E') (mustU A3) (fun c => canU A1 A2 5 4 (c : Int)) (nmS nm) := by unfold alwT; rw [oR, oE]; rfl
    -- the claim
    refine ⟨fun σ H' => ∃ c : Addr, σ = [some (.ref j), some (.int (0 + (i : Int))), some (.ref p), some (.ref q), some (.str (textOf B E')), some (.ref so), some (.str (nmS nm)), some (.ref c), v8, v9] ∧ Same H5 H' ∧ Clm H' c (textOf B E') A1 A2 A3 nm, ?_, ?_⟩
    · refine ⟨_, rfl, ⟨_, rfl⟩, _, rfl, " ", q, [A1, A2, A3], rfl, rfl, .inl (SqL.of hq5), ?_, _, rfl, (by show 4 ≤ sizeLine; decide), fun c nc => ?_⟩
      · rcases i1 with rfl | rfl <;> rcases i2 with rfl | rfl <;> rcases i3 with rfl | rfl | rfl <;> decide +kernel
      exact ⟨c, rfl, same_new nc, upd_same, g, bd, i1, i2, i3⟩
    rintro _ H6 ⟨c, rfl, s6, hC⟩
    -- told
    refine ⟨fun σ H' => σ = [some (.ref j), some (.int (0 + (i : Int))), some (.ref p), some (.ref q), some (.str (textOf B E')), some (.ref so), some (.str (nmS nm)), some (.ref c), some (.bl (alwT (textOf B E') A1 A2 A3 (nmS nm))), v9] ∧ Same H6 H', ?_, ?_⟩
    · refine ⟨_, rfl, (by show 0 ≤ sizeLine; decide), fun e ne => ?_⟩
      have u := same_new (o := .tup []) ne
      exact ⟨c, .ref e, .tuple [], _, A1, A2, A3, nm, rfl, hC.same u, .tup upd_same .nil, fun H7 s7 => ⟨rfl, Same.trans u s7⟩⟩
    rintro _ H7 ⟨rfl, s7⟩
    -- always
    refine ⟨fun σ H' => σ = [some (.ref j), some (.int (0 + (i : Int))), some (.ref p), some (.ref q), some (.str (textOf B E')), some (.ref so), some (.str (nmS nm)), some (.ref c), some (.bl (alwT (textOf B E') A1 A2 A3 (nmS nm))), v9] ∧ Same H7 H', ?_, ?_⟩
    · refine ⟨_, rfl, _, rfl, _, rfl, ?_⟩
      refine fun x dx nx ndx nex => mk_loop R.H.J.M.T g bd nx ndx fun H8 s8 hx => ?_
      refine ⟨_, rfl, _, rfl, x, so, _, A1, A2, A3, nm, rfl, hx, g, ((hU5.same s6).same s7).same s8, fun H9 s9 => ⟨_, rfl, rfl, _, rfl, ?_⟩⟩
      rw [decide_eq_true rfl]
      refine iteF ⟨(by show 0 ≤ sizeLine; decide), fun e ne => ?_⟩
      have u := same_new (o := .tup []) ne
      have s79 := Same.trans s8 (Same.trans s9 u)
      refine ⟨_, rfl, c, .ref e, .tuple [], _, A1, A2, A3, nm, rfl, (hC.same s7).same s79, .tup upd_same .nil, fun Ha sa => ?_⟩
      refine ⟨_, rfl, rfl, _, rfl, ?_⟩
      rw [show dueA (.tuple []) (textOf B E') A1 A2 A3 nm = alwT (textOf B E') A1 A2 A3 (nmS nm) from rfl, decide_eq_true rfl]
      exact iteF ⟨rfl, Same.trans s79 sa⟩
    rintro _ H8 ⟨rfl, s8⟩
    have s58 := Same.trans s6 (Same.trans s7 s8)
    have J8 := J5.same s58
    have hC8 := (hC.same s7).same s8
    clear hC s6 s7 s8
    -- the odd paper
    refine ⟨fun σ H' => ∃ (ov : V) (d : PyData), σ = [some (.ref j), some (.int (0 + (i : Int))), some (.ref p), some (.ref q), some (.str (textOf B E')), some (.ref so), some (.str (nmS nm)), some (.ref c), some (.bl (alwT (textOf B E') A1 A2 A3 (nmS nm))), some ov] ∧ Off j H8 H' ∧ Jar H' j ∧ Dq H' ov d ∧ isTN d 0 = false, ?_, ?_⟩
    · refine ⟨_, rfl, (by show 0 ≤ sizeLine; decide), fun l1 nl1 => ?_⟩
      have u1 := same_new (o := .lst []) nl1
      have h1 : (upd H8 l1 (.lst [])) l1 = some (.lst []) := upd_same
      have J9 := J8.same u1
      have n1 := jar_ne J8 nl1
      generalize upd H8 l1 (.lst []) = H9 at u1 h1 J9 ⊢
      refine ⟨(by show 1 ≤ sizeLine; decide), fun l2 nl2 => ?_⟩
      have u2 := same_new (o := .tup [.int 0]) nl2
      have h2 : (upd H9 l2 (.tup [.int 0])) l2 = some (.tup [.int 0]) := upd_same
      have Ja := J9.same u2
      have n2 := jar_ne J9 nl2
      generalize upd H9 l2 (.tup [.int 0]) = Ha at u2 h2 Ja ⊢
      refine ⟨(by show 0 ≤ sizeLine; decide), fun l3 nl3 => ?_⟩
      have u3 := same_new (o := .tup []) nl3
      have h3 : (upd Ha l3 (.tup [])) l3 = some (.tup []) := upd_same
      have Jb := Ja.same u3
      have n3 := jar_ne Ja nl3
      generalize upd Ha l3 (.tup []) = Hb at u3 h3 Jb ⊢
      refine ⟨(by show 3 ≤ sizeLine; decide), fun l4 nl4 => ?_⟩
      have u4 := same_new (o := .tup [.int 0, .int 1, .ref l3]) nl4
      have h4 : (upd Hb l4 (.tup [.int 0, .int 1, .ref l3])) l4 = some (.tup [.int 0, .int 1, .ref l3]) := upd_same
      have Jc := Jb.same u4
      have n4 := jar_ne Jb nl4
      generalize upd Hb l4 (.tup [.int 0, .int 1, .ref l3]) = Hc at u4 h4 Jc ⊢
      intro l5 nl5
      have u5 := same_new (o := .dK []) nl5
      have h5 : (upd Hc l5 (.dK [])) l5 = some (.dK []) := upd_same
      have Jd := Jc.same u5
      have n5 := jar_ne Jc nl5
      generalize upd Hc l5 (.dK []) = Hd at u5 h5 Jd ⊢
      refine ⟨(by show 0 ≤ sizeLine; decide), fun l6 nl6 => ?_⟩
      have u6 := same_new (o := .tup []) nl6
      have h6 : (upd Hd l6 (.tup [])) l6 = some (.tup []) := upd_same
      have Je := Jd.same u6
      have n6 := jar_ne Jd nl6
      generalize upd Hd l6 (.tup []) = He at u6 h6 Je ⊢
      refine ⟨(by show 1 ≤ sizeLine; decide), fun l7 nl7 => ?_⟩
      have u7 := same_new (o := .tup [.ref l6]) nl7
      have h7 : (upd He l7 (.tup [.ref l6])) l7 = some (.tup [.ref l6]) := upd_same
      have Jf := Je.same u7
      have n7 := jar_ne Je nl7
      generalize upd He l7 (.tup [.ref l6]) = Hf at u7 h7 Jf ⊢
      refine ⟨(by show 8 ≤ sizeLine; decide), fun l8 nl8 => ?_⟩
      have u8 := same_new (o := .lst [.non, .ref l1, .ref l2, .ref l4, .str "", .bl true, .ref l5, .ref l7]) nl8
      have h8 : (upd Hf l8 (.lst [.non, .ref l1, .ref l2, .ref l4, .str "", .bl true, .ref l5, .ref l7])) l8 = some (.lst [.non, .ref l1, .ref l2, .ref l4, .str "", .bl true, .ref l5, .ref l7]) := upd_same
      have Jg := Jf.same u8
      have n8 := jar_ne Jf nl8
      generalize upd Hf l8 (.lst [.non, .ref l1, .ref l2, .ref l4, .str "", .bl true, .ref l5, .ref l7]) = Hg at u8 h8 Jg ⊢
      refine ⟨j, l8, _, rfl, Jg, n8, SqL.of h8, (by show 0 < 8; decide), (by show 8 < 1073741824; decide), fun Hh i8 x hx oh Jh => ?_⟩
      have u6g := Same.trans u7 u8
      have u5g := Same.trans u6 u6g
      have u4g := Same.trans u5 u5g
      have u3g := Same.trans u4 u4g
      have u2g := Same.trans u3 u3g
      have u1g := Same.trans u2 u2g
      have u0g := Same.trans u1 u1g
      have o8 : Off j H8 Hh := (Same.off u0g).trans oh
      match i8, hx with
      | 0, hx => cases hx; exact ⟨_, .none, rfl, o8, Jh, .non, rfl⟩
      | 1, hx => cases hx; exact ⟨_, .list [], rfl, o8, Jh, .lst (oh _ _ n1 (u1g _ _ h1)) .nil, rfl⟩
      | 2, hx => cases hx; exact ⟨_, .tuple [.int 0], rfl, o8, Jh, .tup (oh _ _ n2 (u2g _ _ h2)) (.cons (.int _) .nil), rfl⟩
      | 3, hx => cases hx; exact ⟨_, .tuple [.int 0, .int 1, .tuple []], rfl, o8, Jh, .tup (oh _ _ n4 (u4g _ _ h4)) (.cons (.int _) (.cons (.int _) (.cons (.tup (oh _ _ n3 (u3g _ _ h3)) .nil) .nil))), rfl⟩
      | 4, hx => cases hx; exact ⟨_, .str "", rfl, o8, Jh, .str _, rfl⟩
      | 5, hx => cases hx; exact ⟨_, .bool true, rfl, o8, Jh, .bl _, rfl⟩
      | 6, hx => cases hx; exact ⟨_, .dict [], rfl, o8, Jh, .dct (oh _ _ n5 (u5g _ _ h5)), rfl⟩
      | 7, hx => cases hx; exact ⟨_, .tuple [.tuple []], rfl, o8, Jh, .tup (oh _ _ n7 (u8 _ _ h7)) (.cons (.tup (oh _ _ n6 (u6g _ _ h6)) .nil) .nil), rfl⟩
      | n + 8, hx => cases hx
    rintro _ H9 ⟨ov, d, rfl, o9, J9, hd, h0⟩
    have cj : c ≠ j := by
      obtain ⟨x1, x2, x3, hj⟩ := J8
      exact ne_of hC8.1 hj (by intro z; cases z)
    have hC9 : Clm H9 c (textOf B E') A1 A2 A3 nm := ⟨o9 _ _ cj hC8.1, hC8.2⟩
    have o59 : Off j H5 H9 := (Same.off s58).trans o9
    have ed : dueA d (textOf B E') A1 A2 A3 nm = false := by unfold dueA; rw [h0]; rfl
    refine ⟨_, rfl, _, rfl, c, ov, d, _, A1, A2, A3, nm, rfl, hC9, hd, fun Ha sa => ?_⟩
    rw [ed]
    refine ⟨_, _, rfl, rfl, _, rfl, iteF ?_⟩
    refine ⟨_, rfl, _, rfl, ?_⟩
    cases hb : alwT (textOf B E') A1 A2 A3 (nmS nm) with
    | false => exact iteF ⟨⟨_, _, _, _, rfl⟩, (o5.trans o59).trans (Same.off sa), J9.same sa⟩
    | true =>
      have nf : ¬ HasF (ords B) (ords E') (mustU A3) (fun c => canU A1 A2 5 4 (c : Int)) (nmS nm) := fun hF => by
        rw [ea, alw_has hF] at hb
        cases hb
      refine iteT ⟨_, rfl, _, rfl, _, rfl, p, a, b, q, B, E', A1, A2, A3, nmS nm, rfl, sa _ _ (o59 _ _ pj hp5), sa _ _ (o59 _ _ aj ha5), sa _ _ (o59 _ _ bj hb5), rB, rE, by rw [← oR]; exact g4.a1, by rw [← oE]; exact g4.a2, sa _ _ (o59 _ _ qj hq5), i1, i2, i3, nm_names, nf, fun Hb sb => ?_⟩
      refine ⟨rfl, _, rfl, ?_⟩
      exact iteF ⟨⟨_, _, _, _, rfl⟩, ((o5.trans o59).trans (Same.off sa)).trans (Same.off sb), (J9.same sa).same sb⟩
end
end My

namespace My
open PySem L2 Cm LM
abbrev sLaw : Stmt := top 138
def spLaw (K : PySem.W.Frag) : Sp := fun vs H Q _ => ∃ (a : Addr) (ns : List Int), vs = [.ref a] ∧ SqL K H a (ns.map V.int) ∧ ns.length ≤ 63 ∧ ∀ H', Q (.bl true) H'
theorem scLaw : FnScope ["_law_script", "_law_k"] ["_law_script"] (defScope sLaw) := ⟨rfl, rfl, rfl, by decide +kernel, rfl, by decide +kernel, by decide +kernel⟩
theorem all_true : ∀ n : Nat, (List.replicate n true).all id = true
  | 0 => rfl
  | n + 1 => all_true n
section
variable {P : Program} {w : World} {K : PySem.W.Frag} {mg : Str → Option Value} {base : Heap}
theorem ok_law {f fJ fR : Addr} {fd fdJ fdR : FuncData} (F : Fun K "law" "law" sLaw f fd) (TJ : TxtJ mg) (mrange : mg "range" = none) (mall : mg "all" = none) (kR9 : Nat) (GR : Gd.FnG P w K mg base CX0 kR9 fR fdR ["_law_jar_here"] spRight)
    (FJ : Fun K "_law_jar" "_law_jar" sJar fJ fdJ) (bJ : Binds K fdJ ["_law_script", "_law_k"] []) (gJ : mg "_law_jar" = some (.ref fJ)) (kJ : PySem.W.keepIn K (.ref fJ) = true) (k1 : 1 ≤ kR9)
    (bR : Binds K fdR ["_law_jar_here"] []) (gR : mg "_law_right" = some (.ref fR)) (kR : PySem.W.keepIn K (.ref fR) = true) (mmax : mg "max" = none) (mmin : mg "min" = none) :
    Gd.FnG P w K mg base CX0 (kR9 + 1) f fd ["_law_script"] (spLaw K) := by
  have GJ : FnOk P w K mg base CX0 1 fJ fdJ ["_law_script", "_law_k"] (spJar K) := ok_jar FJ TJ
  refine Gd.okG F scLaw (fun vs H Q E h => ?_) (fun cdv A outer s H vs Q E _ _ _ hgd hr h => ?_)
  · obtain ⟨a, ns, rfl, _⟩ := h
    rfl
  · obtain ⟨a, ns, rfl, hS, hl, k⟩ := h
    have hr1 : Room 1 _ := hr.mono k1
    refine ⟨_, pss_one (ps_ret (pe_callB (cr_all rfl) (by rfl) mall (by decide +kernel) (pa_cons (pe_lc (own := [("_law_k", 1)]) (g := gName 1) (tt := tYes) rfl scLaw.nd
      (pi_range1 rfl mrange (pa_cons (pe_callB (call_max2 rfl) (by rfl) mmax (by decide +kernel) (pa_cons pe_int (pa_cons (pe_callB (call_min2 rfl) (by rfl) mmin (by decide +kernel) (pa_cons (pe_callB call_len_seq (by rfl) TJ.len PySem.boot_len (pa_cons (pv 0) pa_nil)) (pa_cons pe_int pa_nil))) pa_nil))) pa_nil))
      (blkOk_by (own := [("_law_k", 1)]) (N := ["_law_script", "_law_k"]) (sc := defScope sLaw) (by decide +kernel)) (fun _ _ _ _ _ => pg_name (i := 1) scLaw.nd rfl (Or.inl rfl)) (fun _ _ _ _ _ => pts_nil)
      (fun _ _ _ _ _ => Gd.pe_callG GR hgd hr rfl gR kR bR .nil pass0 (pa_cons (pe_call GJ hr1 rfl gJ kJ bJ .nil pass0 (pa_cons (pv 0) (pa_cons (pv 1) pa_nil))) pa_nil))) pa_nil))), ?_⟩
    refine ⟨_, rfl, a, _, rfl, .inl hS, _, _, rfl, _, _, rfl, ?_⟩
    rw [List.length_map]
    have hm : ∃ n : Nat, (if (if (4 : Int) < (ns.length : Int) then 4 else (ns.length : Int)) > 2 then (if (4 : Int) < (ns.length : Int) then 4 else (ns.length : Int)) else 2) = (n : Int) ∧ n ≤ 4 := by
      by_cases h5 : (4 : Int) < (ns.length : Int)
      · rw [if_pos h5]
        exact ⟨4, rfl, Nat.le_refl _⟩
      · rw [if_neg h5]
        by_cases h2 : (ns.length : Int) > 2
        · rw [if_pos h2]
          exact ⟨ns.length, rfl, by omega⟩
        · rw [if_neg h2]
          exact ⟨2, rfl, by omega⟩
    obtain ⟨n, en, hn⟩ := hm
    refine ⟨_, rfl, by rw [en]; omega, by rw [en]; omega, fun D nD => ?_⟩
    rw [en]
    refine lc_range (lo := 0) (n := ((n : Int)).toNat) (fun i H' => Same H H' ∧ H' D = some (.lst ((List.replicate i true).map V.bl))) ⟨same_upd nD, upd_same⟩ ?_ ?_
    · rintro i H1 hi ⟨s1, hD⟩
      refine ⟨rfl, _, rfl, _, rfl, a, ns, i, by rw [Int.zero_add]; rfl, s1.seq hS, hl, fun H2 j s2 nj J2 => ?_⟩
      refine ⟨j, rfl, J2, fun H3 o3 => ?_⟩
      have s3 : Same H1 H3 := fun b o q => o3 b o (fun z => by rw [z, nj] at q; cases q) (s2 b o q)
      refine ⟨_, s3 _ _ hD, small1000 (by rw [List.length_map, List.length_replicate]; omega), fun b o q => ?_, ?_⟩
      · rw [upd_ne (ne_of_none q nD)]
        exact s3 _ _ (s1 _ _ q)
      · rw [upd_same, List.replicate_succ', List.map_append]
        rfl
    · rintro H1 ⟨s1, hD⟩
      refine ⟨D, List.replicate _ true, rfl, SqL.of hD, ?_⟩
      rw [all_true]
      exact k H1
end
theorem all_mk {l : PySem.W.OpenLaw} {w : World} {K : PySem.W.Frag} {h : Heap} {mg : Str → Option Value} {fa pT pR pE fwo foo fiw faw fir fie CIT fIT CL fli CIP fIP fiib fto fll fle fls flr flw CX fxi fxa fxq fxp fxr fxc pUA pUP pUE fckw CU fui fur fmkw fmkf fmke fmkq fmkn fumu fuca flx fxno CS fsi fmrs fsmv fssb fsif fsnv fshf dK fckl fcku fckn falw pNM fsip ffrm fwds flop flin fpas fsli fdon ffed fbox fknd fopt ffev fflt fshw fkey flea ffir fso fito fsa dF ffo fho CIn fjar frt flaw : Addr} (X : K.In h) (G : h.Ns mainGlobals mg) (hfa : mg "law" = some (.ref fa))
    {odT odR odE odwo anwo odoo anoo odiw aniw odaw anaw odir anir odie anie odIT anIT odli anli odIP anIP odiib aniib odto anto odll anll odle anle odls anls odlr anlr odlw anlw odxi anxi odxa anxa odxq anxq odxp anxp odxr anxr odxc anxc odUA odUP odUE odckw anckw odui anui odur anur odmkw anmkw odmkf anmkf odmke anmke odmkq anmkq odmkn anmkn odumu anumu oduca anuca odlx anlx odxno anxno odsi ansi odmrs anmrs odsmv ansmv odssb anssb odsif ansif odsnv ansnv odshf anshf odckl anckl odcku ancku odckn anckn odalw analw odNM odsip ansip odfrm anfrm odwds anwds odlop anlop odlin anlin odpas anpas odsli ansli oddon andon odfed anfed odbox anbox odknd anknd odopt anopt odfev anfev odflt anflt odshw anshw odkey ankey odlea anlea odfir anfir odso anso odito anito odsa ansa odfo anfo odho anho odjar anjar odrt anrt odlaw anlaw : Option Addr}
    {slT slR slE slwo sloo sliw slaw slir slie slIT slli slIP sliib slto slll slle slls sllr sllw slxi slxa slxq slxp slxr slxc slUA slUP slUE slckw slui slur slmkw slmkf slmke slmkq slmkn slumu sluca sllx slxno slsi slmrs slsmv slssb slsif slsnv slshf slckl slcku slckn slalw slNM slsip slfrm slwds sllop sllin slpas slsli sldon slfed slbox slknd slopt slfev slflt slshw slkey sllea slfir slso slito slsa slfo slho sljar slrt sllaw : Array (Option Value)}
    {ocwo kVwo dcwo pmwo cdwo ctwo ocoo kVoo dcoo pmoo cdoo ctoo ociw kViw dciw pmiw cdiw ctiw ocaw kVaw dcaw pmaw cdaw ctaw ocir kVir dcir pmir cdir ctir ocie kVie dcie pmie cdie ctie ocIT kVIT dcIT pmIT cdIT ctIT ocli kVli dcli pmli cdli ctli ocIP kVIP dcIP pmIP cdIP ctIP ociib kViib dciib pmiib cdiib ctiib octo kVto dcto pmto cdto ctto ocll kVll dcll pmll cdll ctll ocle kVle dcle pmle cdle ctle ocls kVls dcls pmls cdls ctls oclr kVlr dclr pmlr cdlr ctlr oclw kVlw dclw pmlw cdlw ctlw ocxi kVxi dcxi pmxi cdxi ctxi ocxa kVxa dcxa pmxa cdxa ctxa ocxq kVxq dcxq pmxq cdxq ctxq ocxp kVxp dcxp pmxp cdxp ctxp ocxr kVxr dcxr pmxr cdxr ctxr ocxc kVxc dcxc pmxc cdxc ctxc occkw kVckw dcckw pmckw cdckw ctckw ocui kVui dcui pmui cdui ctui ocur kVur dcur pmur cdur ctur ocmkw kVmkw dcmkw pmmkw cdmkw ctmkw ocmkf kVmkf dcmkf pmmkf cdmkf ctmkf ocmke kVmke dcmke pmmke cdmke ctmke ocmkq kVmkq dcmkq pmmkq cdmkq ctmkq ocmkn kVmkn dcmkn pmmkn cdmkn ctmkn ocumu kVumu dcumu pmumu cdumu ctumu ocuca kVuca dcuca pmuca cduca ctuca oclx kVlx dclx pmlx cdlx ctlx ocxno kVxno dcxno pmxno cdxno ctxno ocsi kVsi dcsi pmsi cdsi ctsi ocmrs kVmrs dcmrs pmmrs cdmrs ctmrs ocsmv kVsmv dcsmv pmsmv cdsmv ctsmv ocssb kVssb dcssb pmssb cdssb ctssb ocsif kVsif dcsif pmsif cdsif ctsif ocsnv kVsnv dcsnv pmsnv cdsnv ctsnv ocshf kVshf dcshf pmshf cdshf ctshf occkl kVckl dcckl pmckl cdckl ctckl occku kVcku dccku pmcku cdcku ctcku occkn kVckn dcckn pmckn cdckn ctckn ocalw kValw dcalw pmalw cdalw ctalw ocsip kVsip dcsip pmsip cdsip ctsip ocfrm kVfrm dcfrm pmfrm cdfrm ctfrm ocwds kVwds dcwds pmwds cdwds ctwds oclop kVlop dclop pmlop cdlop ctlop oclin kVlin dclin pmlin cdlin ctlin ocpas kVpas dcpas pmpas cdpas ctpas ocsli kVsli dcsli pmsli cdsli ctsli ocdon kVdon dcdon pmdon cddon ctdon ocfed kVfed dcfed pmfed cdfed ctfed ocbox kVbox dcbox pmbox cdbox ctbox ocknd kVknd dcknd pmknd cdknd ctknd ocopt kVopt dcopt pmopt cdopt ctopt ocfev kVfev dcfev pmfev cdfev ctfev ocflt kVflt dcflt pmflt cdflt ctflt ocshw kVshw dcshw pmshw cdshw ctshw ockey kVkey dckey pmkey cdkey ctkey oclea kVlea dclea pmlea cdlea ctlea ocfir kVfir dcfir pmfir cdfir ctfir ocso kVso dcso pmso cdso ctso ocito kVito dcito pmito cdito ctito ocsa kVsa dcsa pmsa cdsa ctsa ocfo kVfo dcfo pmfo cdfo ctfo ocho kVho dcho pmho cdho ctho ocjar kVjar dcjar pmjar cdjar ctjar ocrt kVrt dcrt pmrt cdrt ctrt oclaw kVlaw dclaw pmlaw cdlaw ctlaw : Value}
    {tkT0 tkT1 tkT2 tkT3 tkT4 tkT5 tkT6 tkT7 tkR0 tkR1 tkR2 tkR3 tkR4 tkR5 tkE0 tkE1 tkE2 tkB tkMR tkME tkUA0 tkUA1 tkUP0 tkUP1 tkUE0 tkUE1 tkUE2 tkMkF tkMkS tkMkT tkMkL tkMkX tkMdZ tkMdP tkMdF tkMdO tkMdM tkMdS tkNM0 tkNM1 tkNM2 tkNM3 tkNM4 : Tok}
    {nT nR nE nUA nUP nUE nNM : Nat}
    {nmIT qIT : Str} {NIT : Addr} {bsIT bmIT : List Value} {snIT : List Str} {subIT : List Value} {abIT : Bool} {colIT : Option Bool} {ddIT : Option Addr} {m0IT m1IT m2IT m3IT m5IT : Option Value}
    {nmIP qIP : Str} {NIP : Addr} {bsIP bmIP : List Value} {snIP : List Str} {subIP : List Value} {abIP : Bool} {colIP : Option Bool} {ddIP : Option Addr} {m0IP m1IP m2IP m3IP m5IP : Option Value}
    (gT : PySem.W.nsIn K mainGlobals "TESTS" = some (some (.ref pT)))
    (tT : K.lookup pT = some ⟨.type "tuple", odT, .seq #[.str "empty" tkT0, .str "some" tkT1, .str "short" tkT2, .str "full" tkT3, .str "told" tkT4, .str "open" tkT5, .str "rest" tkT6, .str "bare" tkT7] nT, slT⟩)
    (gR : PySem.W.nsIn K mainGlobals "ROUND_STEPS" = some (some (.ref pR)))
    (tR : K.lookup pR = some ⟨.type "tuple", odR, .seq #[.str "add" tkR0, .str "hand" tkR1, .str "cut" tkR2, .str "flush" tkR3, .str "stop" tkR4, .str "again" tkR5] nR, slR⟩)
    (gE : PySem.W.nsIn K mainGlobals "ENDING_STEPS" = some (some (.ref pE)))
    (tE : K.lookup pE = some ⟨.type "tuple", odE, .seq #[.str "hand" tkE0, .str "cut" tkE1, .str "flush" tkE2] nE, slE⟩)
    (mB : PySem.W.nsIn K mainGlobals "BAR" = some (some (.str " | " tkB)))
    (mMR : PySem.W.nsIn K mainGlobals "MOST_ROUND" = some (some (.int 12 tkMR)))
    (mME : PySem.W.nsIn K mainGlobals "MOST_ENDING" = some (some (.int 6 tkME)))
    (awo : PySem.W.nsIn K mainGlobals "words_of" = some (some (.ref fwo)))
    (lwo : K.lookup fwo = some ⟨ocwo, odwo, .func (PySem.W.fnOf "words_of" "words_of" (defArgs sWO) (defBody sWO) (defScope sWO) .none kVwo dcwo pmwo anwo cdwo ctwo), slwo⟩)
    (cwo : PySem.W.codeIn K cdwo "words_of" = true)
    (kwo : PySem.W.keepIn K (.ref fwo) = true)
    (aoo : PySem.W.nsIn K mainGlobals "order_of" = some (some (.ref foo)))
    (loo : K.lookup foo = some ⟨ocoo, odoo, .func (PySem.W.fnOf "order_of" "order_of" (defArgs sOO) (defBody sOO) (defScope sOO) .none kVoo dcoo pmoo anoo cdoo ctoo), sloo⟩)
    (coo : PySem.W.codeIn K cdoo "order_of" = true)
    (koo : PySem.W.keepIn K (.ref foo) = true)
    (aiw : PySem.W.nsIn K mainGlobals "is_word" = some (some (.ref fiw)))
    (liw : K.lookup fiw = some ⟨ociw, odiw, .func (PySem.W.fnOf "is_word" "is_word" (defArgs sIW) (defBody sIW) (defScope sIW) .none kViw dciw pmiw aniw cdiw ctiw), sliw⟩)
    (ciw : PySem.W.codeIn K cdiw "is_word" = true)
    (kiw : PySem.W.keepIn K (.ref fiw) = true)
    (aaw : PySem.W.nsIn K mainGlobals "are_words" = some (some (.ref faw)))
    (law : K.lookup faw = some ⟨ocaw, odaw, .func (PySem.W.fnOf "are_words" "are_words" (defArgs sAW) (defBody sAW) (defScope sAW) .none kVaw dcaw pmaw anaw cdaw ctaw), slaw⟩)
    (caw : PySem.W.codeIn K cdaw "are_words" = true)
    (kaw : PySem.W.keepIn K (.ref faw) = true)
    (air : PySem.W.nsIn K mainGlobals "is_round" = some (some (.ref fir)))
    (lir : K.lookup fir = some ⟨ocir, odir, .func (PySem.W.fnOf "is_round" "is_round" (defArgs sIR) (defBody sIR) (defScope sIR) .none kVir dcir pmir anir cdir ctir), slir⟩)
    (cir : PySem.W.codeIn K cdir "is_round" = true)
    (kir : PySem.W.keepIn K (.ref fir) = true)
    (aie : PySem.W.nsIn K mainGlobals "is_ending" = some (some (.ref fie)))
    (lie : K.lookup fie = some ⟨ocie, odie, .func (PySem.W.fnOf "is_ending" "is_ending" (defArgs sIE) (defBody sIE) (defScope sIE) .none kVie dcie pmie anie cdie ctie), slie⟩)
    (cie : PySem.W.codeIn K cdie "is_ending" = true)
    (kie : PySem.W.keepIn K (.ref fie) = true)
    (aCIT : PySem.W.nsIn K mainGlobals "InvalidText" = some (some (.ref CIT)))
    (aIT : PySem.W.findIn K (.ref CIT) "__init__" = some (some (.ref fIT)))
    (iIT : PySem.W.isFn K (.ref fIT) = true)
    (lIT : K.lookup fIT = some ⟨ocIT, odIT, .func (PySem.W.fnOf "__init__" "InvalidText.__init__" (defArgs sEI) (defBody sEI) (defScope sEI) .none kVIT dcIT pmIT anIT cdIT ctIT), slIT⟩)
    (cIT : PySem.W.codeIn K cdIT "InvalidText.__init__" = true)
    (kIT : PySem.W.keepIn K (.ref fIT) = true)
    (xIT : K.lookup CIT = some (excClassObj nmIT qIT CIT NIT bsIT bmIT true snIT subIT abIT colIT ddIT m0IT m1IT m2IT m3IT m5IT "ValueError.__new__"))
    (xrIT : PySem.HandSPX.refsVE bmIT = true)
    (e1IT : PySem.W.findIn K (.ref CIT) "__setattr__" = some (some (.builtin "object.__setattr__")))
    (e2IT : PySem.W.subIn K (.ref CIT) (.type "BaseException") = some true)
    (e3IT : PySem.W.typeIn K (.ref CIT) = some (.type "type"))
    (e4IT : PySem.W.keepIn K (.ref CIT) = true)
    (e5IT : PySem.W.typeIn K (.ref fIT) = some (.type "function"))
    (e6IT : PySem.W.findIn K (.ref CIT) "value" = some none)
    (aCL : PySem.W.nsIn K mainGlobals "Loop" = some (some (.ref CL)))
    (pgL : PySem.W.plainGet K CL Str.empty = true)
    (hdL : PySem.W.hasDictIn K CL = true)
    (poL : PySem.W.plainOver K CL = true)
    (saL : PySem.W.findIn K (.ref CL) "__setattr__" = some (some (.builtin "object.__setattr__")))
    (mkL : PySem.W.makesIn K CL = true)
    (kcL : PySem.W.keepIn K (.ref CL) = true)
    (nL0 : PySem.W.findIn K (.ref CL) "text" = some none)
    (nL1 : PySem.W.findIn K (.ref CL) "round" = some none)
    (nL2 : PySem.W.findIn K (.ref CL) "ending" = some none)
    (nL3 : PySem.W.findIn K (.ref CL) "round_orders" = some none)
    (nL4 : PySem.W.findIn K (.ref CL) "ending_orders" = some none)
    (ali : PySem.W.findIn K (.ref CL) "__init__" = some (some (.ref fli)))
    (ili : PySem.W.isFn K (.ref fli) = true)
    (lli : K.lookup fli = some ⟨ocli, odli, .func (PySem.W.fnOf "__init__" "Loop.__init__" (defArgs sLI) (defBody sLI) (defScope sLI) .none kVli dcli pmli anli cdli ctli), slli⟩)
    (cli : PySem.W.codeIn K cdli "Loop.__init__" = true)
    (kli : PySem.W.keepIn K (.ref fli) = true)
    (aCIP : PySem.W.nsIn K mainGlobals "InvalidPlace" = some (some (.ref CIP)))
    (aIP : PySem.W.findIn K (.ref CIP) "__init__" = some (some (.ref fIP)))
    (iIP : PySem.W.isFn K (.ref fIP) = true)
    (lIP : K.lookup fIP = some ⟨ocIP, odIP, .func (PySem.W.fnOf "__init__" "InvalidPlace.__init__" (defArgs sEP) (defBody sEP) (defScope sEP) .none kVIP dcIP pmIP anIP cdIP ctIP), slIP⟩)
    (cIP : PySem.W.codeIn K cdIP "InvalidPlace.__init__" = true)
    (kIP : PySem.W.keepIn K (.ref fIP) = true)
    (xIP : K.lookup CIP = some (excClassObj nmIP qIP CIP NIP bsIP bmIP true snIP subIP abIP colIP ddIP m0IP m1IP m2IP m3IP m5IP "ValueError.__new__"))
    (xrIP : PySem.HandSPX.refsVE bmIP = true)
    (e1IP : PySem.W.findIn K (.ref CIP) "__setattr__" = some (some (.builtin "object.__setattr__")))
    (e2IP : PySem.W.subIn K (.ref CIP) (.type "BaseException") = some true)
    (e3IP : PySem.W.typeIn K (.ref CIP) = some (.type "type"))
    (e4IP : PySem.W.keepIn K (.ref CIP) = true)
    (e5IP : PySem.W.typeIn K (.ref fIP) = some (.type "function"))
    (e6IP : PySem.W.findIn K (.ref CIP) "value" = some none)
    (aiib : PySem.W.nsIn K mainGlobals "is_integer_between" = some (some (.ref fiib)))
    (liib : K.lookup fiib = some ⟨ociib, odiib, .func (PySem.W.fnOf "is_integer_between" "is_integer_between" (defArgs sIIB) (defBody sIIB) (defScope sIIB) .none kViib dciib pmiib aniib cdiib ctiib), sliib⟩)
    (ciib : PySem.W.codeIn K cdiib "is_integer_between" = true)
    (kiib : PySem.W.keepIn K (.ref fiib) = true)
    (ato : PySem.W.nsIn K mainGlobals "text_of" = some (some (.ref fto)))
    (lto : K.lookup fto = some ⟨octo, odto, .func (PySem.W.fnOf "text_of" "text_of" (defArgs sTO) (defBody sTO) (defScope sTO) .none kVto dcto pmto anto cdto ctto), slto⟩)
    (cto : PySem.W.codeIn K cdto "text_of" = true)
    (kto : PySem.W.keepIn K (.ref fto) = true)
    (all : PySem.W.findIn K (.ref CL) "__len__" = some (some (.ref fll)))
    (ill : PySem.W.isFn K (.ref fll) = true)
    (lll : K.lookup fll = some ⟨ocll, odll, .func (PySem.W.fnOf "__len__" "Loop.__len__" (defArgs sLL) (defBody sLL) (defScope sLL) .none kVll dcll pmll anll cdll ctll), slll⟩)
    (cll : PySem.W.codeIn K cdll "Loop.__len__" = true)
    (kll : PySem.W.keepIn K (.ref fll) = true)
    (ale : PySem.W.findIn K (.ref CL) "__eq__" = some (some (.ref fle)))
    (ile : PySem.W.isFn K (.ref fle) = true)
    (lle : K.lookup fle = some ⟨ocle, odle, .func (PySem.W.fnOf "__eq__" "Loop.__eq__" (defArgs sLE) (defBody sLE) (defScope sLE) .none kVle dcle pmle anle cdle ctle), slle⟩)
    (cle : PySem.W.codeIn K cdle "Loop.__eq__" = true)
    (kle : PySem.W.keepIn K (.ref fle) = true)
    (als : PySem.W.findIn K (.ref CL) "__str__" = some (some (.ref fls)))
    (ils : PySem.W.isFn K (.ref fls) = true)
    (lls : K.lookup fls = some ⟨ocls, odls, .func (PySem.W.fnOf "__str__" "Loop.__str__" (defArgs sLS) (defBody sLS) (defScope sLS) .none kVls dcls pmls anls cdls ctls), slls⟩)
    (cls : PySem.W.codeIn K cdls "Loop.__str__" = true)
    (kls : PySem.W.keepIn K (.ref fls) = true)
    (alr : PySem.W.findIn K (.ref CL) "__repr__" = some (some (.ref flr)))
    (ilr : PySem.W.isFn K (.ref flr) = true)
    (llr : K.lookup flr = some ⟨oclr, odlr, .func (PySem.W.fnOf "__repr__" "Loop.__repr__" (defArgs sLR) (defBody sLR) (defScope sLR) .none kVlr dclr pmlr anlr cdlr ctlr), sllr⟩)
    (clr : PySem.W.codeIn K cdlr "Loop.__repr__" = true)
    (klr : PySem.W.keepIn K (.ref flr) = true)
    (alw : PySem.W.findIn K (.ref CL) "without" = some (some (.ref flw)))
    (ilw : PySem.W.isFn K (.ref flw) = true)
    (llw : K.lookup flw = some ⟨oclw, odlw, .func (PySem.W.fnOf "without" "Loop.without" (defArgs sLW) (defBody sLW) (defScope sLW) .none kVlw dclw pmlw anlw cdlw ctlw), sllw⟩)
    (clw : PySem.W.codeIn K cdlw "Loop.without" = true)
    (klw : PySem.W.keepIn K (.ref flw) = true)
    (nb : PySem.W.findIn K (.ref CL) "__bool__" = some none)
    (nne : PySem.W.findIn K (.ref CL) "__ne__" = some (some (.builtin "object.__ne__")))
    (w1 : PySem.W.findIn K (.ref CL) "__class__" = some (some (.builtin "object.__class__")))
    (w2 : PySem.W.specialIn K (.builtin "object.__class__") "__get__" = some (some (.builtin "getset_descriptor.__get__")))
    (w3 : PySem.W.takesIn K (.builtin "object.__class__") = some true)
    (w4 : PySem.W.mroIn K CL (.type "object") = some true)
    (w5 : PySem.W.kitOne K (.ref CL) (.ref CL) = some true)
    (aCX : PySem.W.nsIn K mainGlobals "Execution" = some (some (.ref CX)))
    (pgX : PySem.W.plainGet K CX Str.empty = true)
    (hdX : PySem.W.hasDictIn K CX = true)
    (poX : PySem.W.plainOver K CX = true)
    (saX : PySem.W.findIn K (.ref CX) "__setattr__" = some (some (.builtin "object.__setattr__")))
    (mkX : PySem.W.makesIn K CX = true)
    (kcX : PySem.W.keepIn K (.ref CX) = true)
    (nX0 : PySem.W.findIn K (.ref CX) "round_orders" = some none)
    (nX1 : PySem.W.findIn K (.ref CX) "ending_orders" = some none)
    (nX2 : PySem.W.findIn K (.ref CX) "size" = some none)
    (nX3 : PySem.W.findIn K (.ref CX) "held" = some none)
    (nX4 : PySem.W.findIn K (.ref CX) "told" = some none)
    (nX5 : PySem.W.findIn K (.ref CX) "kept" = some none)
    (nX6 : PySem.W.findIn K (.ref CX) "handed" = some none)
    (nX7 : PySem.W.findIn K (.ref CX) "asked" = some none)
    (nX8 : PySem.W.findIn K (.ref CX) "over" = some none)
    (axi : PySem.W.findIn K (.ref CX) "__init__" = some (some (.ref fxi)))
    (ixi : PySem.W.isFn K (.ref fxi) = true)
    (lxi : K.lookup fxi = some ⟨ocxi, odxi, .func (PySem.W.fnOf "__init__" "Execution.__init__" (defArgs sXI) (defBody sXI) (defScope sXI) .none kVxi dcxi pmxi anxi cdxi ctxi), slxi⟩)
    (cxi : PySem.W.codeIn K cdxi "Execution.__init__" = true)
    (kxi : PySem.W.keepIn K (.ref fxi) = true)
    (axa : PySem.W.findIn K (.ref CX) "answer" = some (some (.ref fxa)))
    (ixa : PySem.W.isFn K (.ref fxa) = true)
    (lxa : K.lookup fxa = some ⟨ocxa, odxa, .func (PySem.W.fnOf "answer" "Execution.answer" (defArgs sXA) (defBody sXA) (defScope sXA) .none kVxa dcxa pmxa anxa cdxa ctxa), slxa⟩)
    (cxa : PySem.W.codeIn K cdxa "Execution.answer" = true)
    (kxa : PySem.W.keepIn K (.ref fxa) = true)
    (axq : PySem.W.findIn K (.ref CX) "finish" = some (some (.ref fxq)))
    (ixq : PySem.W.isFn K (.ref fxq) = true)
    (lxq : K.lookup fxq = some ⟨ocxq, odxq, .func (PySem.W.fnOf "finish" "Execution.finish" (defArgs sXF) (defBody sXF) (defScope sXF) .none kVxq dcxq pmxq anxq cdxq ctxq), slxq⟩)
    (cxq : PySem.W.codeIn K cdxq "Execution.finish" = true)
    (kxq : PySem.W.keepIn K (.ref fxq) = true)
    (axp : PySem.W.findIn K (.ref CX) "passes" = some (some (.ref fxp)))
    (ixp : PySem.W.isFn K (.ref fxp) = true)
    (lxp : K.lookup fxp = some ⟨ocxp, odxp, .func (PySem.W.fnOf "passes" "Execution.passes" (defArgs sXP) (defBody sXP) (defScope sXP) .none kVxp dcxp pmxp anxp cdxp ctxp), slxp⟩)
    (cxp : PySem.W.codeIn K cdxp "Execution.passes" = true)
    (kxp : PySem.W.keepIn K (.ref fxp) = true)
    (axr : PySem.W.findIn K (.ref CX) "perform" = some (some (.ref fxr)))
    (ixr : PySem.W.isFn K (.ref fxr) = true)
    (lxr : K.lookup fxr = some ⟨ocxr, odxr, .func (PySem.W.fnOf "perform" "Execution.perform" (defArgs sXR) (defBody sXR) (defScope sXR) .none kVxr dcxr pmxr anxr cdxr ctxr), slxr⟩)
    (cxr : PySem.W.codeIn K cdxr "Execution.perform" = true)
    (kxr : PySem.W.keepIn K (.ref fxr) = true)
    (axc : PySem.W.findIn K (.ref CX) "cut_off" = some (some (.ref fxc)))
    (ixc : PySem.W.isFn K (.ref fxc) = true)
    (lxc : K.lookup fxc = some ⟨ocxc, odxc, .func (PySem.W.fnOf "cut_off" "Execution.cut_off" (defArgs sXC) (defBody sXC) (defScope sXC) .none kVxc dcxc pmxc anxc cdxc ctxc), slxc⟩)
    (cxc : PySem.W.codeIn K cdxc "Execution.cut_off" = true)
    (kxc : PySem.W.keepIn K (.ref fxc) = true)
    (gUA : PySem.W.nsIn K mainGlobals "AMOUNTS" = some (some (.ref pUA)))
    (tUA : K.lookup pUA = some ⟨.type "tuple", odUA, .seq #[.str "exact" tkUA0, .str "short" tkUA1] nUA, slUA⟩)
    (gUP : PySem.W.nsIn K mainGlobals "PATIENCES" = some (some (.ref pUP)))
    (tUP : K.lookup pUP = some ⟨.type "tuple", odUP, .seq #[.str "prompt" tkUP0, .str "waiting" tkUP1] nUP, slUP⟩)
    (gUE : PySem.W.nsIn K mainGlobals "ENDS" = some (some (.ref pUE)))
    (tUE : K.lookup pUE = some ⟨.type "tuple", odUE, .seq #[.str "empty" tkUE0, .str "with" tkUE1, .str "behind" tkUE2] nUE, slUE⟩)
    (ackw : PySem.W.nsIn K mainGlobals "check_word" = some (some (.ref fckw)))
    (lckw : K.lookup fckw = some ⟨occkw, odckw, .func (PySem.W.fnOf "check_word" "check_word" (defArgs sQW) (defBody sQW) (defScope sQW) .none kVckw dcckw pmckw anckw cdckw ctckw), slckw⟩)
    (cckw : PySem.W.codeIn K cdckw "check_word" = true)
    (kckw : PySem.W.keepIn K (.ref fckw) = true)
    (aCU : PySem.W.nsIn K mainGlobals "Source" = some (some (.ref CU)))
    (pgU : PySem.W.plainGet K CU Str.empty = true)
    (hdU : PySem.W.hasDictIn K CU = true)
    (poU : PySem.W.plainOver K CU = true)
    (saU : PySem.W.findIn K (.ref CU) "__setattr__" = some (some (.builtin "object.__setattr__")))
    (mkU : PySem.W.makesIn K CU = true)
    (kcU : PySem.W.keepIn K (.ref CU) = true)
    (nU0 : PySem.W.findIn K (.ref CU) "amount" = some none)
    (nU1 : PySem.W.findIn K (.ref CU) "patience" = some none)
    (nU2 : PySem.W.findIn K (.ref CU) "end" = some none)
    (aui : PySem.W.findIn K (.ref CU) "__init__" = some (some (.ref fui)))
    (iui : PySem.W.isFn K (.ref fui) = true)
    (lui : K.lookup fui = some ⟨ocui, odui, .func (PySem.W.fnOf "__init__" "Source.__init__" (defArgs sUI) (defBody sUI) (defScope sUI) .none kVui dcui pmui anui cdui ctui), slui⟩)
    (cui : PySem.W.codeIn K cdui "Source.__init__" = true)
    (kui : PySem.W.keepIn K (.ref fui) = true)
    (aur : PySem.W.findIn K (.ref CU) "__repr__" = some (some (.ref fur)))
    (iur : PySem.W.isFn K (.ref fur) = true)
    (lur : K.lookup fur = some ⟨ocur, odur, .func (PySem.W.fnOf "__repr__" "Source.__repr__" (defArgs sUR) (defBody sUR) (defScope sUR) .none kVur dcur pmur anur cdur ctur), slur⟩)
    (cur : PySem.W.codeIn K cdur "Source.__repr__" = true)
    (kur : PySem.W.keepIn K (.ref fur) = true)
    (y1U : PySem.W.findIn K (.ref CU) "__class__" = some (some (.builtin "object.__class__")))
    (y2U : PySem.W.specialIn K (.builtin "object.__class__") "__get__" = some (some (.builtin "getset_descriptor.__get__")))
    (y3U : PySem.W.takesIn K (.builtin "object.__class__") = some true)
    (y4U : PySem.W.mroIn K CU (.type "object") = some true)
    (y5U : PySem.W.kitOne K (.ref CU) (.ref CU) = some true)
    (mMkF : PySem.W.nsIn K mainGlobals "FINE" = some (some (.str "fine" tkMkF)))
    (mMkS : PySem.W.nsIn K mainGlobals "SHORT" = some (some (.str "short" tkMkS)))
    (mMkT : PySem.W.nsIn K mainGlobals "TWICE" = some (some (.str "twice" tkMkT)))
    (mMkL : PySem.W.nsIn K mainGlobals "LOST" = some (some (.str "lost" tkMkL)))
    (mMkX : PySem.W.nsIn K mainGlobals "FAULT" = some (some (.str "fault" tkMkX)))
    (amkw : PySem.W.nsIn K mainGlobals "mark_whole" = some (some (.ref fmkw)))
    (lmkw : K.lookup fmkw = some ⟨ocmkw, odmkw, .func (PySem.W.fnOf "mark_whole" "mark_whole" (defArgs sMw) (defBody sMw) (defScope sMw) .none kVmkw dcmkw pmmkw anmkw cdmkw ctmkw), slmkw⟩)
    (cmkw : PySem.W.codeIn K cdmkw "mark_whole" = true)
    (kmkw : PySem.W.keepIn K (.ref fmkw) = true)
    (amkf : PySem.W.nsIn K mainGlobals "mark_filled" = some (some (.ref fmkf)))
    (lmkf : K.lookup fmkf = some ⟨ocmkf, odmkf, .func (PySem.W.fnOf "mark_filled" "mark_filled" (defArgs sMf) (defBody sMf) (defScope sMf) .none kVmkf dcmkf pmmkf anmkf cdmkf ctmkf), slmkf⟩)
    (cmkf : PySem.W.codeIn K cdmkf "mark_filled" = true)
    (kmkf : PySem.W.keepIn K (.ref fmkf) = true)
    (amke : PySem.W.nsIn K mainGlobals "mark_even" = some (some (.ref fmke)))
    (lmke : K.lookup fmke = some ⟨ocmke, odmke, .func (PySem.W.fnOf "mark_even" "mark_even" (defArgs sMe) (defBody sMe) (defScope sMe) .none kVmke dcmke pmmke anmke cdmke ctmke), slmke⟩)
    (cmke : PySem.W.codeIn K cdmke "mark_even" = true)
    (kmke : PySem.W.keepIn K (.ref fmke) = true)
    (amkq : PySem.W.nsIn K mainGlobals "mark_quiet" = some (some (.ref fmkq)))
    (lmkq : K.lookup fmkq = some ⟨ocmkq, odmkq, .func (PySem.W.fnOf "mark_quiet" "mark_quiet" (defArgs sMq) (defBody sMq) (defScope sMq) .none kVmkq dcmkq pmmkq anmkq cdmkq ctmkq), slmkq⟩)
    (cmkq : PySem.W.codeIn K cdmkq "mark_quiet" = true)
    (kmkq : PySem.W.keepIn K (.ref fmkq) = true)
    (amkn : PySem.W.nsIn K mainGlobals "mark_ends" = some (some (.ref fmkn)))
    (lmkn : K.lookup fmkn = some ⟨ocmkn, odmkn, .func (PySem.W.fnOf "mark_ends" "mark_ends" (defArgs sMn) (defBody sMn) (defScope sMn) .none kVmkn dcmkn pmmkn anmkn cdmkn ctmkn), slmkn⟩)
    (cmkn : PySem.W.codeIn K cdmkn "mark_ends" = true)
    (kmkn : PySem.W.keepIn K (.ref fmkn) = true)
    (aumu : PySem.W.findIn K (.ref CU) "must_tell" = some (some (.ref fumu)))
    (iumu : PySem.W.isFn K (.ref fumu) = true)
    (lumu : K.lookup fumu = some ⟨ocumu, odumu, .func (PySem.W.fnOf "must_tell" "Source.must_tell" (defArgs sUM) (defBody sUM) (defScope sUM) .none kVumu dcumu pmumu anumu cdumu ctumu), slumu⟩)
    (cumu : PySem.W.codeIn K cdumu "Source.must_tell" = true)
    (kumu : PySem.W.keepIn K (.ref fumu) = true)
    (auca : PySem.W.findIn K (.ref CU) "can_hand_out" = some (some (.ref fuca)))
    (iuca : PySem.W.isFn K (.ref fuca) = true)
    (luca : K.lookup fuca = some ⟨ocuca, oduca, .func (PySem.W.fnOf "can_hand_out" "Source.can_hand_out" (defArgs sUC) (defBody sUC) (defScope sUC) .none kVuca dcuca pmuca anuca cduca ctuca), sluca⟩)
    (cuca : PySem.W.codeIn K cduca "Source.can_hand_out" = true)
    (kuca : PySem.W.keepIn K (.ref fuca) = true)
    (alx : PySem.W.findIn K (.ref CL) "execution" = some (some (.ref flx)))
    (ilx : PySem.W.isFn K (.ref flx) = true)
    (llx : K.lookup flx = some ⟨oclx, odlx, .func (PySem.W.fnOf "execution" "Loop.execution" (defArgs sLX) (defBody sLX) (defScope sLX) .none kVlx dclx pmlx anlx cdlx ctlx), sllx⟩)
    (clx : PySem.W.codeIn K cdlx "Loop.execution" = true)
    (klx : PySem.W.keepIn K (.ref flx) = true)
    (axno : PySem.W.findIn K (.ref CX) "answer_nothing" = some (some (.ref fxno)))
    (ixno : PySem.W.isFn K (.ref fxno) = true)
    (lxno : K.lookup fxno = some ⟨ocxno, odxno, .func (PySem.W.fnOf "answer_nothing" "Execution.answer_nothing" (defArgs sXN) (defBody sXN) (defScope sXN) .none kVxno dcxno pmxno anxno cdxno ctxno), slxno⟩)
    (cxno : PySem.W.codeIn K cdxno "Execution.answer_nothing" = true)
    (kxno : PySem.W.keepIn K (.ref fxno) = true)
    (mMdZ : PySem.W.nsIn K mainGlobals "MODEL_SIZE" = some (some (.int 4 tkMdZ)))
    (mMdP : PySem.W.nsIn K mainGlobals "MODEL_PART" = some (some (.int 2 tkMdP)))
    (mMdF : PySem.W.nsIn K mainGlobals "MODEL_FULL" = some (some (.int 4 tkMdF)))
    (mMdO : PySem.W.nsIn K mainGlobals "MODEL_MORE" = some (some (.int 6 tkMdO)))
    (mMdM : PySem.W.nsIn K mainGlobals "MODEL_MULTIPLE" = some (some (.int 8 tkMdM)))
    (mMdS : PySem.W.nsIn K mainGlobals "SOME_LEFT" = some (some (.int 1 tkMdS)))
    (aCS : PySem.W.nsIn K mainGlobals "Search" = some (some (.ref CS)))
    (pgS : PySem.W.plainGet K CS Str.empty = true)
    (hdS : PySem.W.hasDictIn K CS = true)
    (poS : PySem.W.plainOver K CS = true)
    (saS : PySem.W.findIn K (.ref CS) "__setattr__" = some (some (.builtin "object.__setattr__")))
    (mkS : PySem.W.makesIn K CS = true)
    (kcS : PySem.W.keepIn K (.ref CS) = true)
    (nS0 : PySem.W.findIn K (.ref CS) "loop" = some none)
    (nS1 : PySem.W.findIn K (.ref CS) "source" = some none)
    (nS2 : PySem.W.findIn K (.ref CS) "name" = some none)
    (asi : PySem.W.findIn K (.ref CS) "__init__" = some (some (.ref fsi)))
    (isi : PySem.W.isFn K (.ref fsi) = true)
    (lsi : K.lookup fsi = some ⟨ocsi, odsi, .func (PySem.W.fnOf "__init__" "Search.__init__" (defArgs sSI) (defBody sSI) (defScope sSI) .none kVsi dcsi pmsi ansi cdsi ctsi), slsi⟩)
    (csi : PySem.W.codeIn K cdsi "Search.__init__" = true)
    (ksi : PySem.W.keepIn K (.ref fsi) = true)
    (amrs : PySem.W.nsIn K mainGlobals "model_rest" = some (some (.ref fmrs)))
    (lmrs : K.lookup fmrs = some ⟨ocmrs, odmrs, .func (PySem.W.fnOf "model_rest" "model_rest" (defArgs sMr) (defBody sMr) (defScope sMr) .none kVmrs dcmrs pmmrs anmrs cdmrs ctmrs), slmrs⟩)
    (cmrs : PySem.W.codeIn K cdmrs "model_rest" = true)
    (kmrs : PySem.W.keepIn K (.ref fmrs) = true)
    (asmv : PySem.W.findIn K (.ref CS) "model_moves" = some (some (.ref fsmv)))
    (ismv : PySem.W.isFn K (.ref fsmv) = true)
    (lsmv : K.lookup fsmv = some ⟨ocsmv, odsmv, .func (PySem.W.fnOf "model_moves" "Search.model_moves" (defArgs sMm) (defBody sMm) (defScope sMm) .none kVsmv dcsmv pmsmv ansmv cdsmv ctsmv), slsmv⟩)
    (csmv : PySem.W.codeIn K cdsmv "Search.model_moves" = true)
    (ksmv : PySem.W.keepIn K (.ref fsmv) = true)
    (assb : PySem.W.findIn K (.ref CS) "state_behind" = some (some (.ref fssb)))
    (issb : PySem.W.isFn K (.ref fssb) = true)
    (lssb : K.lookup fssb = some ⟨ocssb, odssb, .func (PySem.W.fnOf "state_behind" "Search.state_behind" (defArgs sSb) (defBody sSb) (defScope sSb) .none kVssb dcssb pmssb anssb cdssb ctssb), slssb⟩)
    (cssb : PySem.W.codeIn K cdssb "Search.state_behind" = true)
    (kssb : PySem.W.keepIn K (.ref fssb) = true)
    (asif : PySem.W.findIn K (.ref CS) "is_fault" = some (some (.ref fsif)))
    (isif : PySem.W.isFn K (.ref fsif) = true)
    (lsif : K.lookup fsif = some ⟨ocsif, odsif, .func (PySem.W.fnOf "is_fault" "Search.is_fault" (defArgs sIf) (defBody sIf) (defScope sIf) .none kVsif dcsif pmsif ansif cdsif ctsif), slsif⟩)
    (csif : PySem.W.codeIn K cdsif "Search.is_fault" = true)
    (ksif : PySem.W.keepIn K (.ref fsif) = true)
    (asnv : PySem.W.findIn K (.ref CS) "never_stops" = some (some (.ref fsnv)))
    (isnv : PySem.W.isFn K (.ref fsnv) = true)
    (lsnv : K.lookup fsnv = some ⟨ocsnv, odsnv, .func (PySem.W.fnOf "never_stops" "Search.never_stops" (defArgs sNv) (defBody sNv) (defScope sNv) .none kVsnv dcsnv pmsnv ansnv cdsnv ctsnv), slsnv⟩)
    (csnv : PySem.W.codeIn K cdsnv "Search.never_stops" = true)
    (ksnv : PySem.W.keepIn K (.ref fsnv) = true)
    (ashf : PySem.W.findIn K (.ref CS) "has_fault" = some (some (.ref fshf)))
    (ishf : PySem.W.isFn K (.ref fshf) = true)
    (lshf : K.lookup fshf = some ⟨ocshf, odshf, .func (PySem.W.fnOf "has_fault" "Search.has_fault" (defArgs sHf) (defBody sHf) (defScope sHf) .none kVshf dcshf pmshf anshf cdshf ctshf), slshf⟩)
    (cshf : PySem.W.codeIn K cdshf "Search.has_fault" = true)
    (kshf : PySem.W.keepIn K (.ref fshf) = true)
    (gdK : PySem.W.nsIn K mainGlobals "MARKERS" = some (some (.ref dK)))
    (dwK : He.dicW K dK = some (He.keysIn w.params SR.names))
    (nkwhole : PySem.W.nsIn K dK "whole" = some (some (.ref fmkw)))
    (nkfilled : PySem.W.nsIn K dK "filled" = some (some (.ref fmkf)))
    (nkeven : PySem.W.nsIn K dK "even" = some (some (.ref fmke)))
    (nkquiet : PySem.W.nsIn K dK "quiet" = some (some (.ref fmkq)))
    (nkends : PySem.W.nsIn K dK "ends" = some (some (.ref fmkn)))
    (ackl : PySem.W.nsIn K mainGlobals "check_loop" = some (some (.ref fckl)))
    (lckl : K.lookup fckl = some ⟨occkl, odckl, .func (PySem.W.fnOf "check_loop" "check_loop" (defArgs sCKL) (defBody sCKL) (defScope sCKL) .none kVckl dcckl pmckl anckl cdckl ctckl), slckl⟩)
    (cckl : PySem.W.codeIn K cdckl "check_loop" = true)
    (kckl : PySem.W.keepIn K (.ref fckl) = true)
    (acku : PySem.W.nsIn K mainGlobals "check_source" = some (some (.ref fcku)))
    (lcku : K.lookup fcku = some ⟨occku, odcku, .func (PySem.W.fnOf "check_source" "check_source" (defArgs sCKU) (defBody sCKU) (defScope sCKU) .none kVcku dccku pmcku ancku cdcku ctcku), slcku⟩)
    (ccku : PySem.W.codeIn K cdcku "check_source" = true)
    (kcku : PySem.W.keepIn K (.ref fcku) = true)
    (ackn : PySem.W.nsIn K mainGlobals "check_name" = some (some (.ref fckn)))
    (lckn : K.lookup fckn = some ⟨occkn, odckn, .func (PySem.W.fnOf "check_name" "check_name" (defArgs sCKN) (defBody sCKN) (defScope sCKN) .none kVckn dcckn pmckn anckn cdckn ctckn), slckn⟩)
    (cckn : PySem.W.codeIn K cdckn "check_name" = true)
    (kckn : PySem.W.keepIn K (.ref fckn) = true)
    (aalw : PySem.W.nsIn K mainGlobals "always" = some (some (.ref falw)))
    (lalw : K.lookup falw = some ⟨ocalw, odalw, .func (PySem.W.fnOf "always" "always" (defArgs sAlw) (defBody sAlw) (defScope sAlw) .none kValw dcalw pmalw analw cdalw ctalw), slalw⟩)
    (calw : PySem.W.codeIn K cdalw "always" = true)
    (kalw : PySem.W.keepIn K (.ref falw) = true)
    (gNM : PySem.W.nsIn K mainGlobals "NAMES" = some (some (.ref pNM)))
    (tNM : K.lookup pNM = some ⟨.type "tuple", odNM, .seq #[.str "whole" tkNM0, .str "filled" tkNM1, .str "even" tkNM2, .str "quiet" tkNM3, .str "ends" tkNM4] nNM, slNM⟩)
    (asip : PySem.W.nsIn K mainGlobals "_law_sip" = some (some (.ref fsip)))
    (lsip : K.lookup fsip = some ⟨ocsip, odsip, .func (PySem.W.fnOf "_law_sip" "_law_sip" (defArgs sSip) (defBody sSip) (defScope sSip) .none kVsip dcsip pmsip ansip cdsip ctsip), slsip⟩)
    (csip : PySem.W.codeIn K cdsip "_law_sip" = true)
    (ksip : PySem.W.keepIn K (.ref fsip) = true)
    (afrm : PySem.W.nsIn K mainGlobals "_law_from" = some (some (.ref ffrm)))
    (lfrm : K.lookup ffrm = some ⟨ocfrm, odfrm, .func (PySem.W.fnOf "_law_from" "_law_from" (defArgs sFrom) (defBody sFrom) (defScope sFrom) .none kVfrm dcfrm pmfrm anfrm cdfrm ctfrm), slfrm⟩)
    (cfrm : PySem.W.codeIn K cdfrm "_law_from" = true)
    (kfrm : PySem.W.keepIn K (.ref ffrm) = true)
    (awds : PySem.W.nsIn K mainGlobals "_law_words" = some (some (.ref fwds)))
    (lwds : K.lookup fwds = some ⟨ocwds, odwds, .func (PySem.W.fnOf "_law_words" "_law_words" (defArgs sWords) (defBody sWords) (defScope sWords) .none kVwds dcwds pmwds anwds cdwds ctwds), slwds⟩)
    (cwds : PySem.W.codeIn K cdwds "_law_words" = true)
    (kwds : PySem.W.keepIn K (.ref fwds) = true)
    (alop : PySem.W.nsIn K mainGlobals "_law_loop" = some (some (.ref flop)))
    (llop : K.lookup flop = some ⟨oclop, odlop, .func (PySem.W.fnOf "_law_loop" "_law_loop" (defArgs sLoop) (defBody sLoop) (defScope sLoop) .none kVlop dclop pmlop anlop cdlop ctlop), sllop⟩)
    (clop : PySem.W.codeIn K cdlop "_law_loop" = true)
    (klop : PySem.W.keepIn K (.ref flop) = true)
    (alin : PySem.W.nsIn K mainGlobals "_law_line" = some (some (.ref flin)))
    (llin : K.lookup flin = some ⟨oclin, odlin, .func (PySem.W.fnOf "_law_line" "_law_line" (defArgs sLine) (defBody sLine) (defScope sLine) .none kVlin dclin pmlin anlin cdlin ctlin), sllin⟩)
    (clin : PySem.W.codeIn K cdlin "_law_line" = true)
    (klin : PySem.W.keepIn K (.ref flin) = true)
    (apas : PySem.W.nsIn K mainGlobals "_law_passed" = some (some (.ref fpas)))
    (lpas : K.lookup fpas = some ⟨ocpas, odpas, .func (PySem.W.fnOf "_law_passed" "_law_passed" (defArgs sPassed) (defBody sPassed) (defScope sPassed) .none kVpas dcpas pmpas anpas cdpas ctpas), slpas⟩)
    (cpas : PySem.W.codeIn K cdpas "_law_passed" = true)
    (kpas : PySem.W.keepIn K (.ref fpas) = true)
    (asli : PySem.W.nsIn K mainGlobals "_law_sliced" = some (some (.ref fsli)))
    (lsli : K.lookup fsli = some ⟨ocsli, odsli, .func (PySem.W.fnOf "_law_sliced" "_law_sliced" (defArgs sSliced) (defBody sSliced) (defScope sSliced) .none kVsli dcsli pmsli ansli cdsli ctsli), slsli⟩)
    (csli : PySem.W.codeIn K cdsli "_law_sliced" = true)
    (ksli : PySem.W.keepIn K (.ref fsli) = true)
    (adon : PySem.W.nsIn K mainGlobals "_law_done" = some (some (.ref fdon)))
    (ldon : K.lookup fdon = some ⟨ocdon, oddon, .func (PySem.W.fnOf "_law_done" "_law_done" (defArgs sDone) (defBody sDone) (defScope sDone) .none kVdon dcdon pmdon andon cddon ctdon), sldon⟩)
    (cdon : PySem.W.codeIn K cddon "_law_done" = true)
    (kdon : PySem.W.keepIn K (.ref fdon) = true)
    (afed : PySem.W.nsIn K mainGlobals "_law_fed" = some (some (.ref ffed)))
    (lfed : K.lookup ffed = some ⟨ocfed, odfed, .func (PySem.W.fnOf "_law_fed" "_law_fed" (defArgs sFed) (defBody sFed) (defScope sFed) .none kVfed dcfed pmfed anfed cdfed ctfed), slfed⟩)
    (cfed : PySem.W.codeIn K cdfed "_law_fed" = true)
    (kfed : PySem.W.keepIn K (.ref ffed) = true)
    (abox : PySem.W.nsIn K mainGlobals "_law_box" = some (some (.ref fbox)))
    (lbox : K.lookup fbox = some ⟨ocbox, odbox, .func (PySem.W.fnOf "_law_box" "_law_box" (defArgs sBox) (defBody sBox) (defScope sBox) .none kVbox dcbox pmbox anbox cdbox ctbox), slbox⟩)
    (cbox : PySem.W.codeIn K cdbox "_law_box" = true)
    (kbox : PySem.W.keepIn K (.ref fbox) = true)
    (aknd : PySem.W.nsIn K mainGlobals "_law_kind" = some (some (.ref fknd)))
    (lknd : K.lookup fknd = some ⟨ocknd, odknd, .func (PySem.W.fnOf "_law_kind" "_law_kind" (defArgs sKind) (defBody sKind) (defScope sKind) .none kVknd dcknd pmknd anknd cdknd ctknd), slknd⟩)
    (cknd : PySem.W.codeIn K cdknd "_law_kind" = true)
    (kknd : PySem.W.keepIn K (.ref fknd) = true)
    (aopt : PySem.W.nsIn K mainGlobals "_law_options" = some (some (.ref fopt)))
    (lopt : K.lookup fopt = some ⟨ocopt, odopt, .func (PySem.W.fnOf "_law_options" "_law_options" (defArgs sOpt) (defBody sOpt) (defScope sOpt) .none kVopt dcopt pmopt anopt cdopt ctopt), slopt⟩)
    (copt : PySem.W.codeIn K cdopt "_law_options" = true)
    (kopt : PySem.W.keepIn K (.ref fopt) = true)
    (afev : PySem.W.nsIn K mainGlobals "_law_for_ever" = some (some (.ref ffev)))
    (lfev : K.lookup ffev = some ⟨ocfev, odfev, .func (PySem.W.fnOf "_law_for_ever" "_law_for_ever" (defArgs sFev) (defBody sFev) (defScope sFev) .none kVfev dcfev pmfev anfev cdfev ctfev), slfev⟩)
    (cfev : PySem.W.codeIn K cdfev "_law_for_ever" = true)
    (kfev : PySem.W.keepIn K (.ref ffev) = true)
    (aflt : PySem.W.nsIn K mainGlobals "_law_flat" = some (some (.ref fflt)))
    (lflt : K.lookup fflt = some ⟨ocflt, odflt, .func (PySem.W.fnOf "_law_flat" "_law_flat" (defArgs sFlat) (defBody sFlat) (defScope sFlat) .none kVflt dcflt pmflt anflt cdflt ctflt), slflt⟩)
    (cflt : PySem.W.codeIn K cdflt "_law_flat" = true)
    (kflt : PySem.W.keepIn K (.ref fflt) = true)
    (ashw : PySem.W.nsIn K mainGlobals "_law_shown" = some (some (.ref fshw)))
    (lshw : K.lookup fshw = some ⟨ocshw, odshw, .func (PySem.W.fnOf "_law_shown" "_law_shown" (defArgs sShw) (defBody sShw) (defScope sShw) .none kVshw dcshw pmshw anshw cdshw ctshw), slshw⟩)
    (cshw : PySem.W.codeIn K cdshw "_law_shown" = true)
    (kshw : PySem.W.keepIn K (.ref fshw) = true)
    (akey : PySem.W.nsIn K mainGlobals "_law_key" = some (some (.ref fkey)))
    (lkey : K.lookup fkey = some ⟨ockey, odkey, .func (PySem.W.fnOf "_law_key" "_law_key" (defArgs sKy) (defBody sKy) (defScope sKy) .none kVkey dckey pmkey ankey cdkey ctkey), slkey⟩)
    (ckey : PySem.W.codeIn K cdkey "_law_key" = true)
    (kkey : PySem.W.keepIn K (.ref fkey) = true)
    (alea : PySem.W.nsIn K mainGlobals "_law_least" = some (some (.ref flea)))
    (llea : K.lookup flea = some ⟨oclea, odlea, .func (PySem.W.fnOf "_law_least" "_law_least" (defArgs sLst) (defBody sLst) (defScope sLst) .none kVlea dclea pmlea anlea cdlea ctlea), sllea⟩)
    (clea : PySem.W.codeIn K cdlea "_law_least" = true)
    (klea : PySem.W.keepIn K (.ref flea) = true)
    (afir : PySem.W.nsIn K mainGlobals "_law_first" = some (some (.ref ffir)))
    (lfir : K.lookup ffir = some ⟨ocfir, odfir, .func (PySem.W.fnOf "_law_first" "_law_first" (defArgs sFi) (defBody sFi) (defScope sFi) .none kVfir dcfir pmfir anfir cdfir ctfir), slfir⟩)
    (cfir : PySem.W.codeIn K cdfir "_law_first" = true)
    (kfir : PySem.W.keepIn K (.ref ffir) = true)
    (aso : PySem.W.nsIn K mainGlobals "source_of" = some (some (.ref fso)))
    (lso : K.lookup fso = some ⟨ocso, odso, .func (PySem.W.fnOf "source_of" "source_of" (defArgs sSo) (defBody sSo) (defScope sSo) .none kVso dcso pmso anso cdso ctso), slso⟩)
    (cso : PySem.W.codeIn K cdso "source_of" = true)
    (kso : PySem.W.keepIn K (.ref fso) = true)
    (aito : PySem.W.nsIn K mainGlobals "is_tuple_of" = some (some (.ref fito)))
    (lito : K.lookup fito = some ⟨ocito, odito, .func (PySem.W.fnOf "is_tuple_of" "is_tuple_of" (defArgs sITO) (defBody sITO) (defScope sITO) .none kVito dcito pmito anito cdito ctito), slito⟩)
    (cito : PySem.W.codeIn K cdito "is_tuple_of" = true)
    (kito : PySem.W.keepIn K (.ref fito) = true)
    (asa : PySem.W.nsIn K mainGlobals "shows_always" = some (some (.ref fsa)))
    (lsa : K.lookup fsa = some ⟨ocsa, odsa, .func (PySem.W.fnOf "shows_always" "shows_always" (defArgs sSA) (defBody sSA) (defScope sSA) .none kVsa dcsa pmsa ansa cdsa ctsa), slsa⟩)
    (csa : PySem.W.codeIn K cdsa "shows_always" = true)
    (ksa : PySem.W.keepIn K (.ref fsa) = true)
    (gdF : PySem.W.nsIn K mainGlobals "LONG_FORMS" = some (some (.ref dF)))
    (dwF : He.dicW K dF = some (He.keysIn w.params ["always", "fault", "unlike"]))
    (nkF : PySem.W.nsIn K dF "always" = some (some (.ref fsa)))
    (afo : PySem.W.nsIn K mainGlobals "form_of" = some (some (.ref ffo)))
    (lfo : K.lookup ffo = some ⟨ocfo, odfo, .func (PySem.W.fnOf "form_of" "form_of" (defArgs sFo) (defBody sFo) (defScope sFo) .none kVfo dcfo pmfo anfo cdfo ctfo), slfo⟩)
    (cfo : PySem.W.codeIn K cdfo "form_of" = true)
    (kfo : PySem.W.keepIn K (.ref ffo) = true)
    (aho : PySem.W.nsIn K mainGlobals "holds" = some (some (.ref fho)))
    (lho : K.lookup fho = some ⟨ocho, odho, .func (PySem.W.fnOf "holds" "holds" (defArgs sHo) (defBody sHo) (defScope sHo) .none kVho dcho pmho anho cdho ctho), slho⟩)
    (cho : PySem.W.codeIn K cdho "holds" = true)
    (kho : PySem.W.keepIn K (.ref fho) = true)
    (aCIn : PySem.W.nsIn K mainGlobals "InputError" = some (some (.ref CIn)))
    (ajar : PySem.W.nsIn K mainGlobals "_law_jar" = some (some (.ref fjar)))
    (ljar : K.lookup fjar = some ⟨ocjar, odjar, .func (PySem.W.fnOf "_law_jar" "_law_jar" (defArgs sJar) (defBody sJar) (defScope sJar) .none kVjar dcjar pmjar anjar cdjar ctjar), sljar⟩)
    (cjar : PySem.W.codeIn K cdjar "_law_jar" = true)
    (kjar : PySem.W.keepIn K (.ref fjar) = true)
    (art : PySem.W.nsIn K mainGlobals "_law_right" = some (some (.ref frt)))
    (lrt : K.lookup frt = some ⟨ocrt, odrt, .func (PySem.W.fnOf "_law_right" "_law_right" (defArgs sRight) (defBody sRight) (defScope sRight) .none kVrt dcrt pmrt anrt cdrt ctrt), slrt⟩)
    (crt : PySem.W.codeIn K cdrt "_law_right" = true)
    (krt : PySem.W.keepIn K (.ref frt) = true)
    (alaw : PySem.W.nsIn K mainGlobals "law" = some (some (.ref flaw)))
    (llaw : K.lookup flaw = some ⟨oclaw, odlaw, .func (PySem.W.fnOf "law" "law" (defArgs sLaw) (defBody sLaw) (defScope sLaw) .none kVlaw dclaw pmlaw anlaw cdlaw ctlaw), sllaw⟩)
    (claw : PySem.W.codeIn K cdlaw "law" = true)
    (klaw : PySem.W.keepIn K (.ref flaw) = true)
    (z_tuple : PySem.W.nsIn K mainGlobals "tuple" = some none)
    (z_len : PySem.W.nsIn K mainGlobals "len" = some none)
    (z_all : PySem.W.nsIn K mainGlobals "all" = some none)
    (z_isinstance : PySem.W.nsIn K mainGlobals "isinstance" = some none)
    (z_str : PySem.W.nsIn K mainGlobals "str" = some none)
    (z_int : PySem.W.nsIn K mainGlobals "int" = some none)
    (z_bool : PySem.W.nsIn K mainGlobals "bool" = some none)
    (z_range : PySem.W.nsIn K mainGlobals "range" = some none)
    (z_list : PySem.W.nsIn K mainGlobals "list" = some none)
    (z_min : PySem.W.nsIn K mainGlobals "min" = some none)
    (z_abs : PySem.W.nsIn K mainGlobals "abs" = some none)
    (z_divmod : PySem.W.nsIn K mainGlobals "divmod" = some none)
    (z_any : PySem.W.nsIn K mainGlobals "any" = some none)
    (z_repr : PySem.W.nsIn K mainGlobals "repr" = some none)
    (z_max : PySem.W.nsIn K mainGlobals "max" = some none) :
    Gd.LawG l w K 13 63 "_law_script" mg fa h := by
  have e := hfa.symm.trans (PySem.W.mg_of X G alaw)
  cases e
  have Fwo := fun_mk (st := sWO) lwo cwo kwo
  have bwo := Fwo.binds (ps := ["text"]) fun _ _ _ _ _ _ => Ln.len1 fun _  => rfl
  have Foo := fun_mk (st := sOO) loo coo koo
  have boo := Foo.binds (ps := ["word"]) fun _ _ _ _ _ _ => Ln.len1 fun _  => rfl
  have Fiw := fun_mk (st := sIW) liw ciw kiw
  have biw := Fiw.binds (ps := ["word", "steps"]) fun _ _ _ _ _ _ => Ln.len2 fun _ _  => rfl
  have Faw := fun_mk (st := sAW) law caw kaw
  have baw := Faw.binds (ps := ["words", "steps"]) fun _ _ _ _ _ _ => Ln.len2 fun _ _  => rfl
  have Fir := fun_mk (st := sIR) lir cir kir
  have bir := Fir.binds (ps := ["words"]) fun _ _ _ _ _ _ => Ln.len1 fun _  => rfl
  have Fie := fun_mk (st := sIE) lie cie kie
  have bie := Fie.binds (ps := ["words"]) fun _ _ _ _ _ _ => Ln.len1 fun _  => rfl
  let TL : TxL K mg := ⟨PySem.W.mg_none_of X G z_tuple, PySem.W.mg_none_of X G z_len, PySem.W.mg_none_of X G z_all, ⟨_, PySem.W.mg_of X G mB⟩, ⟨_, PySem.W.mg_of X G mMR⟩, ⟨_, PySem.W.mg_of X G mME⟩, pT, pR, pE, PySem.W.mg_of X G gT, PySem.W.mg_of X G gR, PySem.W.mg_of X G gE, fun H => .inr ⟨_, _, _, tT, rfl, rfl, (by show 8 ≤ sizeLine; decide), .cons ⟨_, rfl⟩ (.cons ⟨_, rfl⟩ (.cons ⟨_, rfl⟩ (.cons ⟨_, rfl⟩ (.cons ⟨_, rfl⟩ (.cons ⟨_, rfl⟩ (.cons ⟨_, rfl⟩ (.cons ⟨_, rfl⟩ (.nil))))))))⟩, fun H => .inr ⟨_, _, _, tR, rfl, rfl, (by show 6 ≤ sizeLine; decide), .cons ⟨_, rfl⟩ (.cons ⟨_, rfl⟩ (.cons ⟨_, rfl⟩ (.cons ⟨_, rfl⟩ (.cons ⟨_, rfl⟩ (.cons ⟨_, rfl⟩ (.nil))))))⟩, fun H => .inr ⟨_, _, _, tE, rfl, rfl, (by show 3 ≤ sizeLine; decide), .cons ⟨_, rfl⟩ (.cons ⟨_, rfl⟩ (.cons ⟨_, rfl⟩ (.nil)))⟩, ⟨fwo, _, Fwo, bwo, PySem.W.mg_of X G awo, kwo⟩, ⟨foo, _, Foo, boo, PySem.W.mg_of X G aoo, koo⟩, ⟨fiw, _, Fiw, biw, PySem.W.mg_of X G aiw, kiw⟩, ⟨faw, _, Faw, baw, PySem.W.mg_of X G aaw, kaw⟩, ⟨fir, _, Fir, bir, PySem.W.mg_of X G air, kir⟩, ⟨fie, _, Fie, bie, PySem.W.mg_of X G aie, kie⟩⟩
  have FIT := fun_mk (st := sEI) lIT cIT kIT
  have bIT := FIT.binds (ps := ["self", "value"]) fun _ _ _ _ _ _ => Ln.len2 fun _ _  => rfl
  have Fli := fun_mk (st := sLI) lli cli kli
  have bli := Fli.binds (ps := ["self", "text"]) fun _ _ _ _ _ _ => Ln.len2 fun _ _  => rfl
  let TC : TxC K mg := ⟨TL, ⟨CIT, fIT, _, PySem.W.mg_of X G aCIT, ⟨⟨nmIT, qIT, NIT, bsIT, bmIT, snIT, subIT, abIT, colIT, ddIT, m0IT, m1IT, m2IT, m3IT, m5IT, xIT, xrIT⟩, e1IT, e2IT, e3IT, e4IT⟩, aIT, e5IT, e6IT, FIT, bIT⟩, PySem.W.mg_none_of X G z_isinstance, PySem.W.mg_none_of X G z_str, CL, PySem.W.mg_of X G aCL, ⟨pgL, hdL, poL, saL⟩, nL0, nL1, nL2, nL3, nL4, fli, _, Fli, bli, ⟨mkL, ali, ili, kcL⟩⟩
  have FIP := fun_mk (st := sEP) lIP cIP kIP
  have bIP := FIP.binds (ps := ["self", "value"]) fun _ _ _ _ _ _ => Ln.len2 fun _ _  => rfl
  have Fiib := fun_mk (st := sIIB) liib ciib kiib
  have biib := Fiib.binds (ps := ["value", "low", "high"]) fun _ _ _ _ _ _ => Ln.len3 fun _ _ _  => rfl
  have Fto := fun_mk (st := sTO) lto cto kto
  have bto := Fto.binds (ps := ["first_words", "last_words"]) fun _ _ _ _ _ _ => Ln.len2 fun _ _  => rfl
  have Fll := fun_mk (st := sLL) lll cll kll
  have bll := Fll.binds (ps := ["self"]) fun _ _ _ _ _ _ => Ln.len1 fun _  => rfl
  have Fle := fun_mk (st := sLE) lle cle kle
  have ble := Fle.binds (ps := ["self", "other"]) fun _ _ _ _ _ _ => Ln.len2 fun _ _  => rfl
  have Fls := fun_mk (st := sLS) lls cls kls
  have bls := Fls.binds (ps := ["self"]) fun _ _ _ _ _ _ => Ln.len1 fun _  => rfl
  have Flr := fun_mk (st := sLR) llr clr klr
  have blr := Flr.binds (ps := ["self"]) fun _ _ _ _ _ _ => Ln.len1 fun _  => rfl
  have Flw := fun_mk (st := sLW) llw clw klw
  have blw := Flw.binds (ps := ["self", "place"]) fun _ _ _ _ _ _ => Ln.len2 fun _ _  => rfl
  let TM : TxM K mg := ⟨TC, ⟨CIP, fIP, _, PySem.W.mg_of X G aCIP, ⟨⟨nmIP, qIP, NIP, bsIP, bmIP, snIP, subIP, abIP, colIP, ddIP, m0IP, m1IP, m2IP, m3IP, m5IP, xIP, xrIP⟩, e1IP, e2IP, e3IP, e4IP⟩, aIP, e5IP, e6IP, FIP, bIP⟩, PySem.W.mg_none_of X G z_int, PySem.W.mg_none_of X G z_bool, ⟨fiib, _, Fiib, biib, PySem.W.mg_of X G aiib, kiib⟩, ⟨fto, _, Fto, bto, PySem.W.mg_of X G ato, kto⟩, ⟨fll, _, Fll, bll, all, ill⟩, ⟨fle, _, Fle, ble, ale, ile⟩, ⟨fls, _, Fls, bls, als, ils⟩, ⟨flr, _, Flr, blr, alr, ilr⟩, ⟨flw, _, Flw, blw, ⟨alw, ilw, klw⟩⟩, nb, nne, w1, w2, w3, w4, w5⟩
  have Fxi := fun_mk (st := sXI) lxi cxi kxi
  have bxi := Fxi.binds (ps := ["self", "round_orders", "ending_orders", "size", "kept"]) fun _ _ _ _ _ _ => Ln.len5 fun _ _ _ _ _  => rfl
  have Fxa := fun_mk (st := sXA) lxa cxa kxa
  have bxa := Fxa.binds (ps := ["self", "held", "told"]) fun _ _ _ _ _ _ => Ln.len3 fun _ _ _  => rfl
  have Fxq := fun_mk (st := sXF) lxq cxq kxq
  have bxq := Fxq.binds (ps := ["self"]) fun _ _ _ _ _ _ => Ln.len1 fun _  => rfl
  have Fxp := fun_mk (st := sXP) lxp cxp kxp
  have bxp := Fxp.binds (ps := ["self", "test"]) fun _ _ _ _ _ _ => Ln.len2 fun _ _  => rfl
  have Fxr := fun_mk (st := sXR) lxr cxr kxr
  have bxr := Fxr.binds (ps := ["self", "step"]) fun _ _ _ _ _ _ => Ln.len2 fun _ _  => rfl
  have Fxc := fun_mk (st := sXC) lxc cxc kxc
  have bxc := Fxc.binds (ps := ["self"]) fun _ _ _ _ _ _ => Ln.len1 fun _  => rfl
  let TX : TxX K mg := ⟨PySem.W.mg_none_of X G z_len, PySem.W.mg_none_of X G z_range, CX, PySem.W.mg_of X G aCX, ⟨pgX, hdX, poX, saX⟩, nX0, nX1, nX2, nX3, nX4, nX5, nX6, nX7, nX8, fxi, _, Fxi, bxi, ⟨mkX, axi, ixi, kcX⟩, ⟨fxa, _, Fxa, bxa, ⟨axa, ixa, kxa⟩⟩, ⟨fxq, _, Fxq, bxq, ⟨axq, ixq, kxq⟩⟩, ⟨fxp, _, Fxp, bxp, ⟨axp, ixp, kxp⟩⟩, ⟨fxr, _, Fxr, bxr, ⟨axr, ixr, kxr⟩⟩, ⟨fxc, _, Fxc, bxc, ⟨axc, ixc, kxc⟩⟩⟩
  have Fckw := fun_mk (st := sQW) lckw cckw kckw
  have bckw := Fckw.binds (ps := ["word", "words"]) fun _ _ _ _ _ _ => Ln.len2 fun _ _  => rfl
  have Fui := fun_mk (st := sUI) lui cui kui
  have bui := Fui.binds (ps := ["self", "amount", "patience", "end"]) fun _ _ _ _ _ _ => Ln.len4 fun _ _ _ _  => rfl
  have Fur := fun_mk (st := sUR) lur cur kur
  have bur := Fur.binds (ps := ["self"]) fun _ _ _ _ _ _ => Ln.len1 fun _  => rfl
  let TU : TxU K mg := ⟨PySem.W.mg_none_of X G z_isinstance, PySem.W.mg_none_of X G z_str, pUA, pUP, pUE, PySem.W.mg_of X G gUA, PySem.W.mg_of X G gUP, PySem.W.mg_of X G gUE, fun H => .inr ⟨_, _, _, tUA, rfl, rfl, (by show 2 ≤ sizeLine; decide), .cons ⟨_, rfl⟩ (.cons ⟨_, rfl⟩ (.nil))⟩, fun H => .inr ⟨_, _, _, tUP, rfl, rfl, (by show 2 ≤ sizeLine; decide), .cons ⟨_, rfl⟩ (.cons ⟨_, rfl⟩ (.nil))⟩, fun H => .inr ⟨_, _, _, tUE, rfl, rfl, (by show 3 ≤ sizeLine; decide), .cons ⟨_, rfl⟩ (.cons ⟨_, rfl⟩ (.cons ⟨_, rfl⟩ (.nil)))⟩, ⟨fckw, _, Fckw, bckw, PySem.W.mg_of X G ackw, kckw⟩, CU, PySem.W.mg_of X G aCU, ⟨pgU, hdU, poU, saU⟩, nU0, nU1, nU2, fui, _, Fui, bui, ⟨mkU, aui, iui, kcU⟩, ⟨fur, _, Fur, bur, aur, iur⟩, y1U, y2U, y3U, y4U, y5U⟩
  have Fmkw := fun_mk (st := sMw) lmkw cmkw kmkw
  have bmkw := Fmkw.binds (ps := ["mark", "work", "behind", "left"]) fun _ _ _ _ _ _ => Ln.len4 fun _ _ _ _  => rfl
  have Fmkf := fun_mk (st := sMf) lmkf cmkf kmkf
  have bmkf := Fmkf.binds (ps := ["mark", "work", "behind", "left"]) fun _ _ _ _ _ _ => Ln.len4 fun _ _ _ _  => rfl
  have Fmke := fun_mk (st := sMe) lmke cmke kmke
  have bmke := Fmke.binds (ps := ["mark", "work", "behind", "left"]) fun _ _ _ _ _ _ => Ln.len4 fun _ _ _ _  => rfl
  have Fmkq := fun_mk (st := sMq) lmkq cmkq kmkq
  have bmkq := Fmkq.binds (ps := ["mark", "work", "behind", "left"]) fun _ _ _ _ _ _ => Ln.len4 fun _ _ _ _  => rfl
  have Fmkn := fun_mk (st := sMn) lmkn cmkn kmkn
  have bmkn := Fmkn.binds (ps := ["mark", "work", "behind", "left"]) fun _ _ _ _ _ _ => Ln.len4 fun _ _ _ _  => rfl
  let TMk : TxMk K mg := ⟨TX, PySem.W.mg_none_of X G z_list, PySem.W.mg_none_of X G z_tuple, ⟨_, PySem.W.mg_of X G mMkF⟩, ⟨_, PySem.W.mg_of X G mMkS⟩, ⟨_, PySem.W.mg_of X G mMkT⟩, ⟨_, PySem.W.mg_of X G mMkL⟩, ⟨_, PySem.W.mg_of X G mMkX⟩, ⟨fmkw, _, Fmkw, bmkw, PySem.W.mg_of X G amkw, kmkw⟩, ⟨fmkf, _, Fmkf, bmkf, PySem.W.mg_of X G amkf, kmkf⟩, ⟨fmke, _, Fmke, bmke, PySem.W.mg_of X G amke, kmke⟩, ⟨fmkq, _, Fmkq, bmkq, PySem.W.mg_of X G amkq, kmkq⟩, ⟨fmkn, _, Fmkn, bmkn, PySem.W.mg_of X G amkn, kmkn⟩⟩
  have Fumu := fun_mk (st := sUM) lumu cumu kumu
  have bumu := Fumu.binds (ps := ["self", "before", "after"]) fun _ _ _ _ _ _ => Ln.len3 fun _ _ _  => rfl
  let TUm : TxUm K mg := ⟨TU, ⟨fumu, _, Fumu, bumu, ⟨aumu, iumu, kumu⟩⟩⟩
  have Fuca := fun_mk (st := sUC) luca cuca kuca
  have buca := Fuca.binds (ps := ["self", "left", "size", "count"]) fun _ _ _ _ _ _ => Ln.len4 fun _ _ _ _  => rfl
  let TUc : TxUc K mg := ⟨TUm, PySem.W.mg_none_of X G z_min, ⟨fuca, _, Fuca, buca, ⟨auca, iuca, kuca⟩⟩⟩
  have Flx := fun_mk (st := sLX) llx clx klx
  have blx := Flx.binds (ps := ["self", "size", "kept"]) fun _ _ _ _ _ _ => Ln.len3 fun _ _ _  => rfl
  have Fxno := fun_mk (st := sXN) lxno cxno kxno
  have bxno := Fxno.binds (ps := ["self", "told"]) fun _ _ _ _ _ _ => Ln.len2 fun _ _  => rfl
  have Fsi := fun_mk (st := sSI) lsi csi ksi
  have bsi := Fsi.binds (ps := ["self", "loop", "source", "name"]) fun _ _ _ _ _ _ => Ln.len4 fun _ _ _ _  => rfl
  have Fmrs := fun_mk (st := sMr) lmrs cmrs kmrs
  have bmrs := Fmrs.binds (ps := ["rest"]) fun _ _ _ _ _ _ => Ln.len1 fun _  => rfl
  have Fsmv := fun_mk (st := sMm) lsmv csmv ksmv
  have bsmv := Fsmv.binds (ps := ["self", "left"]) fun _ _ _ _ _ _ => Ln.len2 fun _ _  => rfl
  have Fssb := fun_mk (st := sSb) lssb cssb kssb
  have bssb := Fssb.binds (ps := ["self", "state", "size", "count", "left"]) fun _ _ _ _ _ _ => Ln.len5 fun _ _ _ _ _  => rfl
  have Fsif := fun_mk (st := sIf) lsif csif ksif
  have bsif := Fsif.binds (ps := ["self", "state", "size"]) fun _ _ _ _ _ _ => Ln.len3 fun _ _ _  => rfl
  have Fsnv := fun_mk (st := sNv) lsnv csnv ksnv
  have bsnv := Fsnv.binds (ps := ["self", "rest", "size"]) fun _ _ _ _ _ _ => Ln.len3 fun _ _ _  => rfl
  have Fshf := fun_mk (st := sHf) lshf cshf kshf
  have bshf := Fshf.binds (ps := ["self"]) fun _ _ _ _ _ _ => Ln.len1 fun _  => rfl
  let TSr : TxSr w K mg := ⟨TC, TMk, ⟨flx, _, Flx, blx, ⟨alx, ilx, klx⟩⟩, ⟨fxno, _, Fxno, bxno, ⟨axno, ixno, kxno⟩⟩, TUc, ⟨_, PySem.W.mg_of X G mMdZ⟩, ⟨_, PySem.W.mg_of X G mMdP⟩, ⟨_, PySem.W.mg_of X G mMdF⟩, ⟨_, PySem.W.mg_of X G mMdO⟩, ⟨_, PySem.W.mg_of X G mMdM⟩, ⟨_, PySem.W.mg_of X G mMdS⟩, CS, PySem.W.mg_of X G aCS, ⟨pgS, hdS, poS, saS⟩, nS0, nS1, nS2, fsi, _, Fsi, bsi, ⟨mkS, asi, isi, kcS⟩, ⟨fmrs, _, Fmrs, bmrs, PySem.W.mg_of X G amrs, kmrs⟩, ⟨fsmv, _, Fsmv, bsmv, ⟨asmv, ismv, ksmv⟩⟩, ⟨fssb, _, Fssb, bssb, ⟨assb, issb, kssb⟩⟩, ⟨fsif, _, Fsif, bsif, ⟨asif, isif, ksif⟩⟩, ⟨fsnv, _, Fsnv, bsnv, ⟨asnv, isnv, ksnv⟩⟩, ⟨fshf, _, Fshf, bshf, ⟨ashf, ishf, kshf⟩⟩, dK, PySem.W.mg_of X G gdK, dwK, ⟨nkwhole, nkfilled, nkeven, nkquiet, nkends⟩⟩
  have Fckl := fun_mk (st := sCKL) lckl cckl kckl
  have bckl := Fckl.binds (ps := ["loop"]) fun _ _ _ _ _ _ => Ln.len1 fun _  => rfl
  have Fcku := fun_mk (st := sCKU) lcku ccku kcku
  have bcku := Fcku.binds (ps := ["source"]) fun _ _ _ _ _ _ => Ln.len1 fun _  => rfl
  have Fckn := fun_mk (st := sCKN) lckn cckn kckn
  have bckn := Fckn.binds (ps := ["name"]) fun _ _ _ _ _ _ => Ln.len1 fun _  => rfl
  have Falw := fun_mk (st := sAlw) lalw calw kalw
  have balw := Falw.binds (ps := ["loop", "source", "name"]) fun _ _ _ _ _ _ => Ln.len3 fun _ _ _  => rfl
  let TJd : TxJd w K mg := ⟨TSr, TM, rfl, PySem.W.mg_none_of X G z_isinstance, PySem.W.mg_none_of X G z_str, TU.y1, TU.y4, TU.y5, ⟨fckl, _, Fckl, bckl, PySem.W.mg_of X G ackl, kckl⟩, ⟨fcku, _, Fcku, bcku, PySem.W.mg_of X G acku, kcku⟩, ⟨fckn, _, Fckn, bckn, PySem.W.mg_of X G ackn, kckn⟩, ⟨falw, _, Falw, balw, PySem.W.mg_of X G aalw, kalw⟩, pNM, PySem.W.mg_of X G gNM, fun H => .inr ⟨_, _, _, tNM, rfl, rfl, (by show 5 ≤ sizeLine; decide), .cons ⟨_, rfl⟩ (.cons ⟨_, rfl⟩ (.cons ⟨_, rfl⟩ (.cons ⟨_, rfl⟩ (.cons ⟨_, rfl⟩ (.nil)))))⟩⟩
  have Fsip := fun_mk (st := sSip) lsip csip ksip
  have bsip := Fsip.binds (ps := ["_law_jar_here", "_law_many"]) fun _ _ _ _ _ _ => Ln.len2 fun _ _  => rfl
  have Ffrm := fun_mk (st := sFrom) lfrm cfrm kfrm
  have bfrm := Ffrm.binds (ps := ["_law_jar_here", "_law_things"]) fun _ _ _ _ _ _ => Ln.len2 fun _ _  => rfl
  have Fwds := fun_mk (st := sWords) lwds cwds kwds
  have bwds := Fwds.binds (ps := ["_law_jar_here", "_law_steps", "_law_many"]) fun _ _ _ _ _ _ => Ln.len3 fun _ _ _  => rfl
  have Flop := fun_mk (st := sLoop) llop clop klop
  have blop := Flop.binds (ps := ["_law_jar_here", "_law_most"]) fun _ _ _ _ _ _ => Ln.len2 fun _ _  => rfl
  have Flin := fun_mk (st := sLine) llin clin klin
  have blin := Flin.binds (ps := ["_law_begun", "_law_ended"]) fun _ _ _ _ _ _ => Ln.len2 fun _ _  => rfl
  let TD : TxD K mg := ⟨⟨PySem.W.mg_none_of X G z_len, PySem.W.mg_none_of X G z_int, PySem.W.mg_none_of X G z_abs, PySem.W.mg_none_of X G z_divmod⟩, PySem.W.mg_none_of X G z_range, ⟨fsip, _, Fsip, bsip, PySem.W.mg_of X G asip, ksip⟩, ⟨ffrm, _, Ffrm, bfrm, PySem.W.mg_of X G afrm, kfrm⟩, ⟨fwds, _, Fwds, bwds, PySem.W.mg_of X G awds, kwds⟩, ⟨flop, _, Flop, blop, PySem.W.mg_of X G alop, klop⟩, ⟨flin, _, Flin, blin, PySem.W.mg_of X G alin, klin⟩⟩
  have Fpas := fun_mk (st := sPassed) lpas cpas kpas
  have bpas := Fpas.binds (ps := ["_law_test", "_law_got", "_law_box_here", "_law_said", "_law_wide"]) fun _ _ _ _ _ _ => Ln.len5 fun _ _ _ _ _  => rfl
  have Fsli := fun_mk (st := sSliced) lsli csli ksli
  have bsli := Fsli.binds (ps := ["_law_row_here", "_law_wide", "_law_many"]) fun _ _ _ _ _ _ => Ln.len3 fun _ _ _  => rfl
  have Fdon := fun_mk (st := sDone) ldon cdon kdon
  have bdon := Fdon.binds (ps := ["_law_words_here", "_law_got", "_law_box_here", "_law_said", "_law_wide"]) fun _ _ _ _ _ _ => Ln.len5 fun _ _ _ _ _  => rfl
  have Ffed := fun_mk (st := sFed) lfed cfed kfed
  have bfed := Ffed.binds (ps := ["_law_made", "_law_box_here", "_law_many", "_law_said", "_law_wide"]) fun _ _ _ _ _ _ => Ln.len5 fun _ _ _ _ _  => rfl
  have Fbox := fun_mk (st := sBox) lbox cbox kbox
  have bbox := Fbox.binds (ps := []) fun _ _ _ _ _ _ => Ln.len0 fun (_ : Unit) => rfl
  let TB : TxB K mg := ⟨⟨PySem.W.mg_none_of X G z_len, PySem.W.mg_none_of X G z_int, PySem.W.mg_none_of X G z_abs, PySem.W.mg_none_of X G z_divmod⟩, PySem.W.mg_none_of X G z_range, PySem.W.mg_none_of X G z_tuple, PySem.W.mg_none_of X G z_list, ⟨fpas, _, Fpas, bpas, PySem.W.mg_of X G apas, kpas⟩, ⟨fsli, _, Fsli, bsli, PySem.W.mg_of X G asli, ksli⟩, ⟨fdon, _, Fdon, bdon, PySem.W.mg_of X G adon, kdon⟩, ⟨ffed, _, Ffed, bfed, PySem.W.mg_of X G afed, kfed⟩, ⟨fbox, _, Fbox, bbox, PySem.W.mg_of X G abox, kbox⟩⟩
  have Fknd := fun_mk (st := sKind) lknd cknd kknd
  have bknd := Fknd.binds (ps := ["_law_jar_here"]) fun _ _ _ _ _ _ => Ln.len1 fun _  => rfl
  have Fopt := fun_mk (st := sOpt) lopt copt kopt
  have bopt := Fopt.binds (ps := ["_law_kind_here", "_law_left", "_law_wide"]) fun _ _ _ _ _ _ => Ln.len3 fun _ _ _  => rfl
  have Ffev := fun_mk (st := sFev) lfev cfev kfev
  have bfev := Ffev.binds (ps := ["_law_made", "_law_kind_here", "_law_box_here", "_law_wide"]) fun _ _ _ _ _ _ => Ln.len4 fun _ _ _ _  => rfl
  have Fflt := fun_mk (st := sFlat) lflt cflt kflt
  have bflt := Fflt.binds (ps := ["_law_out"]) fun _ _ _ _ _ _ => Ln.len1 fun _  => rfl
  have Fshw := fun_mk (st := sShw) lshw cshw kshw
  have bshw := Fshw.binds (ps := ["_law_made", "_law_kind_here", "_law_tale", "_law_prop", "_law_left", "_law_box_here", "_law_wide"]) fun _ _ _ _ _ _ => Ln.len7 fun _ _ _ _ _ _ _  => rfl
  let TLw : TxLw K mg := ⟨TB, TD, PySem.W.mg_none_of X G z_min, PySem.W.mg_none_of X G z_any, ⟨fknd, _, Fknd, bknd, PySem.W.mg_of X G aknd, kknd⟩, ⟨fopt, _, Fopt, bopt, PySem.W.mg_of X G aopt, kopt⟩, ⟨ffev, _, Ffev, bfev, PySem.W.mg_of X G afev, kfev⟩, ⟨fflt, _, Fflt, bflt, PySem.W.mg_of X G aflt, kflt⟩, ⟨fshw, _, Fshw, bshw, PySem.W.mg_of X G ashw, kshw⟩⟩
  have Fkey := fun_mk (st := sKy) lkey ckey kkey
  have bkey := Fkey.binds (ps := ["_law_left", "_law_box_here", "_law_wide"]) fun _ _ _ _ _ _ => Ln.len3 fun _ _ _  => rfl
  let TKy : TxKy K mg := ⟨TLw, ⟨fkey, _, Fkey, bkey, PySem.W.mg_of X G akey, kkey⟩⟩
  have Flea := fun_mk (st := sLst) llea clea klea
  have blea := Flea.binds (ps := ["_law_made", "_law_kind_here", "_law_prop", "_law_many", "_law_wide"]) fun _ _ _ _ _ _ => Ln.len5 fun _ _ _ _ _  => rfl
  let TLe : TxLe K mg := ⟨TKy, ⟨flea, _, Flea, blea, PySem.W.mg_of X G alea, klea⟩⟩
  have Ffir := fun_mk (st := sFi) lfir cfir kfir
  have bfir := Ffir.binds (ps := ["_law_made", "_law_kind_here", "_law_prop", "_law_most"]) fun _ _ _ _ _ _ => Ln.len4 fun _ _ _ _  => rfl
  let TFi : TxFi K mg := ⟨TLe, ⟨ffir, _, Ffir, bfir, PySem.W.mg_of X G afir, kfir⟩⟩
  have Fso := fun_mk (st := sSo) lso cso kso
  have bso := Fso.binds (ps := ["text"]) fun _ _ _ _ _ _ => Ln.len1 fun _  => rfl
  have Fito := fun_mk (st := sITO) lito cito kito
  have bito := Fito.binds (ps := ["value", "many"]) fun _ _ _ _ _ _ => Ln.len2 fun _ _  => rfl
  have Fsa := fun_mk (st := sSA) lsa csa ksa
  have bsa := Fsa.binds (ps := ["claim", "paper"]) fun _ _ _ _ _ _ => Ln.len2 fun _ _  => rfl
  have Ffo := fun_mk (st := sFo) lfo cfo kfo
  have bfo := Ffo.binds (ps := ["claim"]) fun _ _ _ _ _ _ => Ln.len1 fun _  => rfl
  have Fho := fun_mk (st := sHo) lho cho kho
  have bho := Fho.binds (ps := ["claim", "paper"]) fun _ _ _ _ _ _ => Ln.len2 fun _ _  => rfl
  let THk : TxHk w K mg := ⟨TJd, PySem.W.mg_none_of X G z_tuple, ⟨fso, _, Fso, bso, PySem.W.mg_of X G aso, kso⟩, ⟨fito, _, Fito, bito, PySem.W.mg_of X G aito, kito⟩, ⟨fsa, _, Fsa, bsa, PySem.W.mg_of X G asa, ksa⟩, dF, PySem.W.mg_of X G gdF, dwF, nkF, ⟨ffo, _, Ffo, bfo, PySem.W.mg_of X G afo, kfo⟩, ⟨fho, _, Fho, bho, PySem.W.mg_of X G aho, kho⟩, CIn, PySem.W.mg_of X G aCIn⟩
  have KH : KBinds K (PySem.W.fnOf "holds" "holds" (defArgs sHo) (defBody sHo) (defScope sHo) .none kVho dcho pmho anho cdho ctho) ["claim", "paper"] ["paper", "claim"] gK0 gK0V := ⟨fun s us ws _ hl => by
      match us, ws, hl with
      | [], [_, _], _ => exact .of_eq rfl, fun h1 h2 => gK0_rel h1 h2⟩
  have Fjar := fun_mk (st := sJar) ljar cjar kjar
  have bjar := Fjar.binds (ps := ["_law_script", "_law_k"]) fun _ _ _ _ _ _ => Ln.len2 fun _ _  => rfl
  have Frt := fun_mk (st := sRight) lrt crt krt
  have brt := Frt.binds (ps := ["_law_jar_here"]) fun _ _ _ _ _ _ => Ln.len1 fun _  => rfl
  have Flaw := fun_mk (st := sLaw) llaw claw klaw
  let R : TxR w K mg := ⟨THk, TFi, PySem.W.mg_none_of X G z_repr, KH⟩
  exact ⟨_, [], spLaw K, fun p hp => (nomatch hp), fun p hp => (nomatch hp), fun p hp => (nomatch hp), fun s v => .of_eq rfl, fun H a ns hl _ hS => ⟨a, ns, rfl, hS, hl, fun _ => rfl⟩, fun base _ _ sm _ => ok_law Flaw TD.J TD.range (PySem.W.mg_none_of X G z_all) 12 (ok_right Frt R sm) Fjar bjar (PySem.W.mg_of X G ajar) kjar (by decide) brt (PySem.W.mg_of X G art) krt (PySem.W.mg_none_of X G z_max) (PySem.W.mg_none_of X G z_min)⟩
end My
open PySem PySem.W PyProof.Rows in
set_option maxRecDepth 100000 in
set_option maxHeartbeats 0 in
theorem PySem.Challenge.cw_lastshort_k70_whole_confirmed_properties_holds : PySem.Challenge.rw_lastshort_k70_whole_confirmed_properties.Holds := by
  refine Hd70 ?_
  k_fill
  refine Gd.walk_ofG (l := PySem.Challenge.rw_lastshort_k70_whole_confirmed_properties) (n := 63) (k := 13) (x := "_law_script") rfl (by decide) rfl (by decide +kernel) ⟨rfl, by decide, by decide⟩ (fun w h Y => PySem.W.kIn_of Y) ?F
  case F =>
    intro w mg fa h Y KX G hmg
    refine' My.all_mk KX G hmg ?gT ?tT ?gR ?tR ?gE ?tE ?mB ?mMR ?mME ?awo ?lwo ?cwo ?kwo ?aoo ?loo ?coo ?koo ?aiw ?liw ?ciw ?kiw ?aaw ?law ?caw ?kaw ?air ?lir ?cir ?kir ?aie ?lie ?cie ?kie ?aCIT ?aIT ?iIT ?lIT ?cIT ?kIT ?xIT ?xrIT ?e1IT ?e2IT ?e3IT ?e4IT ?e5IT ?e6IT ?aCL ?pgL ?hdL ?poL ?saL ?mkL ?kcL ?nL0 ?nL1 ?nL2 ?nL3 ?nL4 ?ali ?ili ?lli ?cli ?kli ?aCIP ?aIP ?iIP ?lIP ?cIP ?kIP ?xIP ?xrIP ?e1IP ?e2IP ?e3IP ?e4IP ?e5IP ?e6IP ?aiib ?liib ?ciib ?kiib ?ato ?lto ?cto ?kto ?all ?ill ?lll ?cll ?kll ?ale ?ile ?lle ?cle ?kle ?als ?ils ?lls ?cls ?kls ?alr ?ilr ?llr ?clr ?klr ?alw ?ilw ?llw ?clw ?klw ?nb ?nne ?w1 ?w2 ?w3 ?w4 ?w5 ?aCX ?pgX ?hdX ?poX ?saX ?mkX ?kcX ?nX0 ?nX1 ?nX2 ?nX3 ?nX4 ?nX5 ?nX6 ?nX7 ?nX8 ?axi ?ixi ?lxi ?cxi ?kxi ?axa ?ixa ?lxa ?cxa ?kxa ?axq ?ixq ?lxq ?cxq ?kxq ?axp ?ixp ?lxp ?cxp ?kxp ?axr ?ixr ?lxr ?cxr ?kxr ?axc ?ixc ?lxc ?cxc ?kxc ?gUA ?tUA ?gUP ?tUP ?gUE ?tUE ?ackw ?lckw ?cckw ?kckw ?aCU ?pgU ?hdU ?poU ?saU ?mkU ?kcU ?nU0 ?nU1 ?nU2 ?aui ?iui ?lui ?cui ?kui ?aur ?iur ?lur ?cur ?kur ?y1U ?y2U ?y3U ?y4U ?y5U ?mMkF ?mMkS ?mMkT ?mMkL ?mMkX ?amkw ?lmkw ?cmkw ?kmkw ?amkf ?lmkf ?cmkf ?kmkf ?amke ?lmke ?cmke ?kmke ?amkq ?lmkq ?cmkq ?kmkq ?amkn ?lmkn ?cmkn ?kmkn ?aumu ?iumu ?lumu ?cumu ?kumu ?auca ?iuca ?luca ?cuca ?kuca ?alx ?ilx ?llx ?clx ?klx ?axno ?ixno ?lxno ?cxno ?kxno ?mMdZ ?mMdP ?mMdF ?mMdO ?mMdM ?mMdS ?aCS ?pgS ?hdS ?poS ?saS ?mkS ?kcS ?nS0 ?nS1 ?nS2 ?asi ?isi ?lsi ?csi ?ksi ?amrs ?lmrs ?cmrs ?kmrs ?asmv ?ismv ?lsmv ?csmv ?ksmv ?assb ?issb ?lssb ?cssb ?kssb ?asif ?isif ?lsif ?csif ?ksif ?asnv ?isnv ?lsnv ?csnv ?ksnv ?ashf ?ishf ?lshf ?cshf ?kshf ?gdK ?dwK ?nkwhole ?nkfilled ?nkeven ?nkquiet ?nkends ?ackl ?lckl ?cckl ?kckl ?acku ?lcku ?ccku ?kcku ?ackn ?lckn ?cckn ?kckn ?aalw ?lalw ?calw ?kalw ?gNM ?tNM ?asip ?lsip ?csip ?ksip ?afrm ?lfrm ?cfrm ?kfrm ?awds ?lwds ?cwds ?kwds ?alop ?llop ?clop ?klop ?alin ?llin ?clin ?klin ?apas ?lpas ?cpas ?kpas ?asli ?lsli ?csli ?ksli ?adon ?ldon ?cdon ?kdon ?afed ?lfed ?cfed ?kfed ?abox ?lbox ?cbox ?kbox ?aknd ?lknd ?cknd ?kknd ?aopt ?lopt ?copt ?kopt ?afev ?lfev ?cfev ?kfev ?aflt ?lflt ?cflt ?kflt ?ashw ?lshw ?cshw ?kshw ?akey ?lkey ?ckey ?kkey ?alea ?llea ?clea ?klea ?afir ?lfir ?cfir ?kfir ?aso ?lso ?cso ?kso ?aito ?lito ?cito ?kito ?asa ?lsa ?csa ?ksa ?gdF ?dwF ?nkF ?afo ?lfo ?cfo ?kfo ?aho ?lho ?cho ?kho ?aCIn ?ajar ?ljar ?cjar ?kjar ?art ?lrt ?crt ?krt ?alaw ?llaw ?claw ?klaw ?z_tuple ?z_len ?z_all ?z_isinstance ?z_str ?z_int ?z_bool ?z_range ?z_list ?z_min ?z_abs ?z_divmod ?z_any ?z_repr ?z_max
    (case gT => k_is)
    (case tT => k_is)
    (case gR => k_is)
    (case tR => k_is)
    (case gE => k_is)
    (case tE => k_is)
    (case mB => k_is)
    (case mMR => k_is)
    (case mME => k_is)
    (case awo => k_is)
    (case lwo => k_is)
    (case cwo => k_is)
    (case kwo => k_is)
    (case aoo => k_is)
    (case loo => k_is)
    (case coo => k_is)
    (case koo => k_is)
    (case aiw => k_is)
    (case liw => k_is)
    (case ciw => k_is)
    (case kiw => k_is)
    (case aaw => k_is)
    (case law => k_is)
    (case caw => k_is)
    (case kaw => k_is)
    (case air => k_is)
    (case lir => k_is)
    (case cir => k_is)
    (case kir => k_is)
    (case aie => k_is)
    (case lie => k_is)
    (case cie => k_is)
    (case kie => k_is)
    (case aCIT => k_is)
    (case aIT => k_is)
    (case iIT => k_is)
    (case lIT => k_is)
    (case cIT => k_is)
    (case kIT => k_is)
    (case xIT => k_is)
    (case xrIT => decide +kernel)
    (case e1IT => k_is)
    (case e2IT => k_is)
    (case e3IT => k_is)
    (case e4IT => k_is)
    (case e5IT => k_is)
    (case e6IT => k_is)
    (case aCL => k_is)
    (case pgL => k_is)
    (case hdL => k_is)
    (case poL => k_is)
    (case saL => k_is)
    (case mkL => k_is)
    (case kcL => k_is)
    (case nL0 => k_is)
    (case nL1 => k_is)
    (case nL2 => k_is)
    (case nL3 => k_is)
    (case nL4 => k_is)
    (case ali => k_is)
    (case ili => k_is)
    (case lli => k_is)
    (case cli => k_is)
    (case kli => k_is)
    (case aCIP => k_is)
    (case aIP => k_is)
    (case iIP => k_is)
    (case lIP => k_is)
    (case cIP => k_is)
    (case kIP => k_is)
    (case xIP => k_is)
    (case xrIP => decide +kernel)
    (case e1IP => k_is)
    (case e2IP => k_is)
    (case e3IP => k_is)
    (case e4IP => k_is)
    (case e5IP => k_is)
    (case e6IP => k_is)
    (case aiib => k_is)
    (case liib => k_is)
    (case ciib => k_is)
    (case kiib => k_is)
    (case ato => k_is)
    (case lto => k_is)
    (case cto => k_is)
    (case kto => k_is)
    (case all => k_is)
    (case ill => k_is)
    (case lll => k_is)
    (case cll => k_is)
    (case kll => k_is)
    (case ale => k_is)
    (case ile => k_is)
    (case lle => k_is)
    (case cle => k_is)
    (case kle => k_is)
    (case als => k_is)
    (case ils => k_is)
    (case lls => k_is)
    (case cls => k_is)
    (case kls => k_is)
    (case alr => k_is)
    (case ilr => k_is)
    (case llr => k_is)
    (case clr => k_is)
    (case klr => k_is)
    (case alw => k_is)
    (case ilw => k_is)
    (case llw => k_is)
    (case clw => k_is)
    (case klw => k_is)
    (case nb => k_is)
    (case nne => k_is)
    (case w1 => k_is)
    (case w2 => k_is)
    (case w3 => k_is)
    (case w4 => k_is)
    (case w5 => kernel_rfl)
    (case aCX => k_is)
    (case pgX => k_is)
    (case hdX => k_is)
    (case poX => k_is)
    (case saX => k_is)
    (case mkX => k_is)
    (case kcX => k_is)
    (case nX0 => k_is)
    (case nX1 => k_is)
    (case nX2 => k_is)
    (case nX3 => k_is)
    (case nX4 => k_is)
    (case nX5 => k_is)
    (case nX6 => k_is)
    (case nX7 => k_is)
    (case nX8 => k_is)
    (case axi => k_is)
    (case ixi => k_is)
    (case lxi => k_is)
    (case cxi => k_is)
    (case kxi => k_is)
    (case axa => k_is)
    (case ixa => k_is)
    (case lxa => k_is)
    (case cxa => k_is)
    (case kxa => k_is)
    (case axq => k_is)
    (case ixq => k_is)
    (case lxq => k_is)
    (case cxq => k_is)
    (case kxq => k_is)
    (case axp => k_is)
    (case ixp => k_is)
    (case lxp => k_is)
    (case cxp => k_is)
    (case kxp => k_is)
    (case axr => k_is)
    (case ixr => k_is)
    (case lxr => k_is)
    (case cxr => k_is)
    (case kxr => k_is)
    (case axc => k_is)
    (case ixc => k_is)
    (case lxc => k_is)
    (case cxc => k_is)
    (case kxc => k_is)
    (case gUA => k_is)
    (case tUA => k_is)
    (case gUP => k_is)
    (case tUP => k_is)
    (case gUE => k_is)
    (case tUE => k_is)
    (case ackw => k_is)
    (case lckw => k_is)
    (case cckw => k_is)
    (case kckw => k_is)
    (case aCU => k_is)
    (case pgU => k_is)
    (case hdU => k_is)
    (case poU => k_is)
    (case saU => k_is)
    (case mkU => k_is)
    (case kcU => k_is)
    (case nU0 => k_is)
    (case nU1 => k_is)
    (case nU2 => k_is)
    (case aui => k_is)
    (case iui => k_is)
    (case lui => k_is)
    (case cui => k_is)
    (case kui => k_is)
    (case aur => k_is)
    (case iur => k_is)
    (case lur => k_is)
    (case cur => k_is)
    (case kur => k_is)
    (case y1U => k_is)
    (case y2U => k_is)
    (case y3U => k_is)
    (case y4U => k_is)
    (case y5U => kernel_rfl)
    (case mMkF => k_is)
    (case mMkS => k_is)
    (case mMkT => k_is)
    (case mMkL => k_is)
    (case mMkX => k_is)
    (case amkw => k_is)
    (case lmkw => k_is)
    (case cmkw => k_is)
    (case kmkw => k_is)
    (case amkf => k_is)
    (case lmkf => k_is)
    (case cmkf => k_is)
    (case kmkf => k_is)
    (case amke => k_is)
    (case lmke => k_is)
    (case cmke => k_is)
    (case kmke => k_is)
    (case amkq => k_is)
    (case lmkq => k_is)
    (case cmkq => k_is)
    (case kmkq => k_is)
    (case amkn => k_is)
    (case lmkn => k_is)
    (case cmkn => k_is)
    (case kmkn => k_is)
    (case aumu => k_is)
    (case iumu => k_is)
    (case lumu => k_is)
    (case cumu => k_is)
    (case kumu => k_is)
    (case auca => k_is)
    (case iuca => k_is)
    (case luca => k_is)
    (case cuca => k_is)
    (case kuca => k_is)
    (case alx => k_is)
    (case ilx => k_is)
    (case llx => k_is)
    (case clx => k_is)
    (case klx => k_is)
    (case axno => k_is)
    (case ixno => k_is)
    (case lxno => k_is)
    (case cxno => k_is)
    (case kxno => k_is)
    (case mMdZ => k_is)
    (case mMdP => k_is)
    (case mMdF => k_is)
    (case mMdO => k_is)
    (case mMdM => k_is)
    (case mMdS => k_is)
    (case aCS => k_is)
    (case pgS => k_is)
    (case hdS => k_is)
    (case poS => k_is)
    (case saS => k_is)
    (case mkS => k_is)
    (case kcS => k_is)
    (case nS0 => k_is)
    (case nS1 => k_is)
    (case nS2 => k_is)
    (case asi => k_is)
    (case isi => k_is)
    (case lsi => k_is)
    (case csi => k_is)
    (case ksi => k_is)
    (case amrs => k_is)
    (case lmrs => k_is)
    (case cmrs => k_is)
    (case kmrs => k_is)
    (case asmv => k_is)
    (case ismv => k_is)
    (case lsmv => k_is)
    (case csmv => k_is)
    (case ksmv => k_is)
    (case assb => k_is)
    (case issb => k_is)
    (case lssb => k_is)
    (case cssb => k_is)
    (case kssb => k_is)
    (case asif => k_is)
    (case isif => k_is)
    (case lsif => k_is)
    (case csif => k_is)
    (case ksif => k_is)
    (case asnv => k_is)
    (case isnv => k_is)
    (case lsnv => k_is)
    (case csnv => k_is)
    (case ksnv => k_is)
    (case ashf => k_is)
    (case ishf => k_is)
    (case lshf => k_is)
    (case cshf => k_is)
    (case kshf => k_is)
    (case gdK => k_is)
    (case dwK => kernel_rfl)
    (case nkwhole => k_is)
    (case nkfilled => k_is)
    (case nkeven => k_is)
    (case nkquiet => k_is)
    (case nkends => k_is)
    (case ackl => k_is)
    (case lckl => k_is)
    (case cckl => k_is)
    (case kckl => k_is)
    (case acku => k_is)
    (case lcku => k_is)
    (case ccku => k_is)
    (case kcku => k_is)
    (case ackn => k_is)
    (case lckn => k_is)
    (case cckn => k_is)
    (case kckn => k_is)
    (case aalw => k_is)
    (case lalw => k_is)
    (case calw => k_is)
    (case kalw => k_is)
    (case gNM => k_is)
    (case tNM => k_is)
    (case asip => k_is)
    (case lsip => k_is)
    (case csip => k_is)
    (case ksip => k_is)
    (case afrm => k_is)
    (case lfrm => k_is)
    (case cfrm => k_is)
    (case kfrm => k_is)
    (case awds => k_is)
    (case lwds => k_is)
    (case cwds => k_is)
    (case kwds => k_is)
    (case alop => k_is)
    (case llop => k_is)
    (case clop => k_is)
    (case klop => k_is)
    (case alin => k_is)
    (case llin => k_is)
    (case clin => k_is)
    (case klin => k_is)
    (case apas => k_is)
    (case lpas => k_is)
    (case cpas => k_is)
    (case kpas => k_is)
    (case asli => k_is)
    (case lsli => k_is)
    (case csli => k_is)
    (case ksli => k_is)
    (case adon => k_is)
    (case ldon => k_is)
    (case cdon => k_is)
    (case kdon => k_is)
    (case afed => k_is)
    (case lfed => k_is)
    (case cfed => k_is)
    (case kfed => k_is)
    (case abox => k_is)
    (case lbox => k_is)
    (case cbox => k_is)
    (case kbox => k_is)
    (case aknd => k_is)
    (case lknd => k_is)
    (case cknd => k_is)
    (case kknd => k_is)
    (case aopt => k_is)
    (case lopt => k_is)
    (case copt => k_is)
    (case kopt => k_is)
    (case afev => k_is)
    (case lfev => k_is)
    (case cfev => k_is)
    (case kfev => k_is)
    (case aflt => k_is)
    (case lflt => k_is)
    (case cflt => k_is)
    (case kflt => k_is)
    (case ashw => k_is)
    (case lshw => k_is)
    (case cshw => k_is)
    (case kshw => k_is)
    (case akey => k_is)
    (case lkey => k_is)
    (case ckey => k_is)
    (case kkey => k_is)
    (case alea => k_is)
    (case llea => k_is)
    (case clea => k_is)
    (case klea => k_is)
    (case afir => k_is)
    (case lfir => k_is)
    (case cfir => k_is)
    (case kfir => k_is)
    (case aso => k_is)
    (case lso => k_is)
    (case cso => k_is)
    (case kso => k_is)
    (case aito => k_is)
    (case lito => k_is)
    (case cito => k_is)
    (case kito => k_is)
    (case asa => k_is)
    (case lsa => k_is)
    (case csa => k_is)
    (case ksa => k_is)
    (case gdF => k_is)
    (case dwF => kernel_rfl)
    (case nkF => k_is)
    (case afo => k_is)
    (case lfo => k_is)
    (case cfo => k_is)
    (case kfo => k_is)
    (case aho => k_is)
    (case lho => k_is)
    (case cho => k_is)
    (case kho => k_is)
    (case aCIn => k_is)
    (case ajar => k_is)
    (case ljar => k_is)
    (case cjar => k_is)
    (case kjar => k_is)
    (case art => k_is)
    (case lrt => k_is)
    (case crt => k_is)
    (case krt => k_is)
    (case alaw => k_is)
    (case llaw => k_is)
    (case claw => k_is)
    (case klaw => k_is)
    (case z_tuple => k_is)
    (case z_len => k_is)
    (case z_all => k_is)
    (case z_isinstance => k_is)
    (case z_str => k_is)
    (case z_int => k_is)
    (case z_bool => k_is)
    (case z_range => k_is)
    (case z_list => k_is)
    (case z_min => k_is)
    (case z_abs => k_is)
    (case z_divmod => k_is)
    (case z_any => k_is)
    (case z_repr => k_is)
    (case z_max => k_is)
