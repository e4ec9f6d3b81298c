import PyProof.Rows.All
import Wide.All
import OpenK.AllK
import Wide.FinOn
import HandS.ForMost
import HandS.Codes
import HandS.IsInst
import HandS.TupAny
import HandS.SlotsOwn
import HandS.ExcInit
import HandS.ExcField
import HandS.WordsExc
import KE.KCallOwn
import OpenK.KOps
import HandS.FStr
import HandS.RaiseMore
import PyProof.Rows.ChunkEnd
import HandS.Conv
import HandS.Small
import PyProof.ReprReads
import HandS.Style
import HandS.Dict
import PyProof.ReprRoads
import HandS.Lambda
import PySem.Challenge.RW_lastshort_k47_loops_written_otherwise
set_option Elab.async false
set_option linter.all false
set_option maxRecDepth 100000
set_option maxHeartbeats 8000000
/-! lists of a known length: smaller than a match in the place -/
namespace Ln
theorem len0 {α : Type} {p : List α → Prop} (h : Unit → p []) : ∀ us : List α, us.length = 0 → p us
  | [], _ => h ()
theorem len1 {α : Type} {p : List α → Prop} (h : ∀ a0, p [a0]) : ∀ us : List α, us.length = 1 → p us
  | [a0], _ => h a0
theorem len2 {α : Type} {p : List α → Prop} (h : ∀ a0 a1, p [a0, a1]) : ∀ us : List α, us.length = 2 → p us
  | [a0, a1], _ => h a0 a1
theorem len3 {α : Type} {p : List α → Prop} (h : ∀ a0 a1 a2, p [a0, a1, a2]) : ∀ us : List α, us.length = 3 → p us
  | [a0, a1, a2], _ => h a0 a1 a2
theorem len4 {α : Type} {p : List α → Prop} (h : ∀ a0 a1 a2 a3, p [a0, a1, a2, a3]) : ∀ us : List α, us.length = 4 → p us
  | [a0, a1, a2, a3], _ => h a0 a1 a2 a3
theorem len5 {α : Type} {p : List α → Prop} (h : ∀ a0 a1 a2 a3 a4, p [a0, a1, a2, a3, a4]) : ∀ us : List α, us.length = 5 → p us
  | [a0, a1, a2, a3, a4], _ => h a0 a1 a2 a3 a4
theorem len6 {α : Type} {p : List α → Prop} (h : ∀ a0 a1 a2 a3 a4 a5, p [a0, a1, a2, a3, a4, a5]) : ∀ us : List α, us.length = 6 → p us
  | [a0, a1, a2, a3, a4, a5], _ => h a0 a1 a2 a3 a4 a5
theorem len7 {α : Type} {p : List α → Prop} (h : ∀ a0 a1 a2 a3 a4 a5 a6, p [a0, a1, a2, a3, a4, a5, a6]) : ∀ us : List α, us.length = 7 → p us
  | [a0, a1, a2, a3, a4, a5, a6], _ => h a0 a1 a2 a3 a4 a5 a6
theorem len8 {α : Type} {p : List α → Prop} (h : ∀ a0 a1 a2 a3 a4 a5 a6 a7, p [a0, a1, a2, a3, a4, a5, a6, a7]) : ∀ us : List α, us.length = 8 → p us
  | [a0, a1, a2, a3, a4, a5, a6, a7], _ => h a0 a1 a2 a3 a4 a5 a6 a7
theorem len9 {α : Type} {p : List α → Prop} (h : ∀ a0 a1 a2 a3 a4 a5 a6 a7 a8, p [a0, a1, a2, a3, a4, a5, a6, a7, a8]) : ∀ us : List α, us.length = 9 → p us
  | [a0, a1, a2, a3, a4, a5, a6, a7, a8], _ => h a0 a1 a2 a3 a4 a5 a6 a7 a8
end Ln

/-! the draws of the law: jar, sip, from -/
namespace My
open PySem L2
def top (i : Nat) : Stmt := PySem.Challenge.pw_lastshort_k47_loops_written_otherwise.main.body.getD i (.Pass ⟨0, 0, 0, 0⟩)
abbrev sJar : Stmt := top 43
abbrev sSip : Stmt := top 44
abbrev sFrom : Stmt := top 45
/-! ### heaps -/
/-- all but what stands at j is as it was -/
def Off (j : Addr) (H H' : Hp) : Prop := ∀ b o, b ≠ j → H b = some o → H' b = some o
theorem Off.refl {j : Addr} {H : Hp} : Off j H H := fun _ _ _ e => e
theorem Off.trans {j : Addr} {H H1 H2 : Hp} (a : Off j H H1) (b : Off j H1 H2) : Off j H H2 := fun c o n e => b c o n (a c o n e)
theorem Off.new {j p : Addr} {H H1 : Hp} {o : HO} (a : Off j H H1) (n : H1 p = none) : Off j H (upd H1 p o) := fun b u nb e => by
  rw [upd_ne (ne_of_none (a b u nb e) n)]
  exact a b u nb e
theorem Off.put {j : Addr} {H H1 : Hp} {o : HO} (a : Off j H H1) : Off j H (upd H1 j o) := fun b u nb e => by
  rw [upd_ne nb]
  exact a b u nb e
theorem Off.seq {K : PySem.W.Frag} {j a : Addr} {H H' : Hp} {xs : List V} (e : Off j H H') (n : a ≠ j) (h : SqL K H a xs) : SqL K H' a xs := by
  rcases h with (h | ⟨o, h⟩) | h
  · exact .inl (.inl (e _ _ n h))
  · exact .inl (.inr ⟨o, e _ _ n h⟩)
  · exact .inr h
theorem Off.set {K : PySem.W.Frag} {j a : Addr} {H H' : Hp} {xs : List V} (e : Off j H H') (n : a ≠ j) (h : SqT K H a xs) : SqT K H' a xs := by
  rcases h with (h | ⟨o, h⟩) | h
  · exact .inl (.inl (e _ _ n h))
  · exact .inl (.inr ⟨o, e _ _ n h⟩)
  · exact .inr h
theorem Off.same {j : Addr} {H0 H H' : Hp} (e : Off j H H') (s : Same H0 H) (n : H0 j = none) : Same H0 H' := fun b o q => e b o (fun z => by rw [z, n] at q; cases q) (s b o q)
theorem same_upd {H : Hp} {p : Addr} {o : HO} (h : H p = none) : Same H (upd H p o) := fun b x e => by
  rw [upd_ne (ne_of_none e h)]
  exact e
theorem Same.off {j : Addr} {H H' : Hp} (s : Same H H') : Off j H H' := fun b o _ e => s b o e
/-- a jar: three whole numbers -/
def Jar (H : Hp) (j : Addr) : Prop := ∃ a b c : Int, H j = some (.lst [.int a, .int b, .int c])
theorem Jar.new {H : Hp} {j p : Addr} {o : HO} (a : Jar H j) (n : H p = none) : Jar (upd H p o) j := by
  obtain ⟨x, y, z, h⟩ := a
  exact ⟨x, y, z, by rw [upd_ne (ne_of_none h n)]; exact h⟩
theorem Jar.same {H H' : Hp} {j : Addr} (a : Jar H j) (s : Same H H') : Jar H' j := by
  obtain ⟨x, y, z, h⟩ := a
  exact ⟨x, y, z, s _ _ h⟩
/-! ### promises -/
def spSip : Sp := fun vs H Q _ => ∃ (j : Addr) (m : Int), vs = [.ref j, .int m] ∧ Jar H j ∧ 0 < m ∧ m < 1073741824 ∧
  ∀ (H' : Hp) (d : Int), 0 ≤ d → d < m → Off j H H' → Jar H' j → Q (.int d) H'
def spFrom (K : PySem.W.Frag) : Sp := fun vs H Q _ => ∃ (j p : Addr) (xs : List V), vs = [.ref j, .ref p] ∧ Jar H j ∧ p ≠ j ∧ SqL K H p xs ∧ 0 < xs.length ∧ xs.length < 1073741824 ∧
  ∀ (H' : Hp) (i : Nat) (x : V), xs[i]? = some x → Off j H H' → Jar H' j → Q x H'
def spJar (K : PySem.W.Frag) : Sp := fun vs H Q _ => ∃ (a : Addr) (ns : List Int) (k : Nat), vs = [.ref a, .int k] ∧ SqL K H a (ns.map V.int) ∧ ns.length ≤ 63 ∧
  ∀ (H' : Hp) (j : Addr), Same H H' → H j = none → Jar H' j → Q (.ref j) H'
/-- the built-ins of the draws are still the built-ins -/
structure TxtJ (mg : Str → Option Value) : Prop where
  len : mg "len" = none
  int : mg "int" = none
  abs : mg "abs" = none
  divmod : mg "divmod" = none
section
variable {P : Program} {w : World} {K : PySem.W.Frag} {mg : Str → Option Value} {base : Heap}
theorem scSip : FnScope ["_law_jar_here", "_law_many", "_law_digit"] ["_law_jar_here", "_law_many"] (defScope sSip) := ⟨rfl, rfl, rfl, by decide +kernel, rfl, by decide +kernel, by decide +kernel⟩
theorem ok_sip {f : Addr} {fd : FuncData} (F : Fun K "_law_sip" "_law_sip" sSip f fd) (T : TxtJ mg) : FnOk P w K mg base CX0 1 f fd ["_law_jar_here", "_law_many"] spSip := by
  refine F.ok scSip (fun vs H Q E h => ?_) (fun cdv A outer s H vs Q E hr h => ?_)
  · obtain ⟨j, m, rfl, _⟩ := h
    rfl
  · obtain ⟨j, m, rfl, ⟨a, b, c, hj⟩, m0, m1, k⟩ := h
    refine ⟨_, pss_cons (ps_asg (pe_op op_add (pe_ix ix_list (pv 0) pe_int (fun _ _ => rfl)) pe_int) (pg_sub (pv 0) pe_int set_list))
      (pss_cons (ps_if (pt_cmpR op_gt (pe_ix ix_list (pv 0) pe_int (fun _ _ => rfl)) pe_int (nomark _))
        (pss_cons (ps_asg (pe_callB call_divmod (by rfl) T.divmod (by decide +kernel) (pa_cons (pe_callTy call_int1 (by rfl) T.int (by decide +kernel) (pa_cons (pe_ix ix_list (pv 0) pe_int (fun _ _ => rfl)) pa_nil)) (pa_cons (pv 1) pa_nil)))
            (pg_tup (by rfl) (pgs_cons (pg_sub (pv 0) pe_int set_list) (pgs_cons (pg_name (i := 2) scSip.nd rfl (.inl rfl)) pgs_nil))))
          (pss_one (ps_ret (pv 2)))) pss_nil)
      (pss_cons (ps_asg (pe_op op_mod (pe_callTy call_int1 (by rfl) T.int (by decide +kernel) (pa_cons (pe_op op_add (pe_op op_add (pe_op op_mul (pe_ix ix_list (pv 0) pe_int (fun _ _ => rfl)) pe_int) (pe_op op_mul (pe_ix ix_list (pv 0) pe_int (fun _ _ => rfl)) pe_int))
            (pe_op op_mul (pe_op op_fdiv (pe_ix ix_list (pv 0) pe_int (fun _ _ => rfl)) pe_int) pe_int)) pa_nil)) pe_int) (pg_sub (pv 0) pe_int set_list))
      (pss_one (ps_ret (pe_op op_mod (pe_callTy call_int1 (by rfl) T.int (by decide +kernel) (pa_cons (pe_op op_fdiv (pe_ix ix_list (pv 0) pe_int (fun _ _ => rfl)) pe_int) pa_nil)) (pv 1)))))), ?_⟩
    -- jar[2] = jar[2] + 1
    refine ⟨_, rfl, j, _, 2, _, rfl, rfl, SqL.of hj, rfl, _, _, rfl, rfl, _, rfl, j, _, 2, 2, rfl, rfl, hj, rfl, ?_⟩
    -- if jar[0] > 0
    refine ⟨_, rfl, j, _, 0, _, rfl, rfl, SqL.of upd_same, rfl, _, _, rfl, rfl, _, rfl, ?_⟩
    have o1 : Off j H (upd H j (.lst [.int a, .int b, .int (c + 1)])) := Off.put Off.refl
    refine ite2 (fun _ => ?_) (fun _ => ?_)
    · refine ⟨_, rfl, j, _, 0, _, rfl, rfl, SqL.of upd_same, rfl, .inl ⟨_, rfl, _, rfl, a, m, rfl, ⟨m0, m1⟩, fun p np => ?_⟩⟩
      have npj : p ≠ j := fun e => by
        rw [e, upd_same] at np
        cases np
      refine ⟨p, _, rfl, SqT.of upd_same, rfl, _, _, rfl, _, rfl, j, _, 0, 0, rfl, rfl, (by rw [upd_ne npj.symm]; exact upd_same), rfl, _, _, rfl, rfl, ?_⟩
      refine ⟨_, rfl, ?_⟩
      exact k _ _ (Int.emod_nonneg _ (by omega)) (Int.emod_lt_of_pos _ m0) (Off.put (Off.new o1 np)) ⟨_, _, _, upd_same⟩
    · refine ⟨_, rfl, j, _, 1, _, rfl, rfl, SqL.of upd_same, rfl, _, _, rfl, rfl, .inr (by decide), ?_⟩
      refine ⟨_, rfl, j, _, 2, _, rfl, rfl, SqL.of upd_same, rfl, _, _, rfl, rfl, .inr (by decide), _, _, rfl, rfl, ?_⟩
      refine ⟨_, rfl, j, _, 1, _, rfl, rfl, SqL.of upd_same, rfl, _, _, rfl, rfl, ⟨by decide, by decide⟩, _, _, rfl, rfl, .inr (by decide), _, _, rfl, rfl, .inl ⟨_, rfl, _, _, rfl, rfl, (by show (0 : Int) < 1999999927; decide), ?_⟩⟩
      refine ⟨_, rfl, j, _, 1, 1, rfl, rfl, upd_same, rfl, ?_⟩
      refine ⟨_, rfl, j, _, 1, _, rfl, rfl, SqL.of upd_same, rfl, _, _, rfl, rfl, ⟨by decide, by decide⟩, .inl ⟨_, rfl, _, rfl, _, _, rfl, rfl, m0, ?_⟩⟩
      exact k _ _ (Int.emod_nonneg _ (by omega)) (Int.emod_lt_of_pos _ m0) (Off.put o1) ⟨_, _, _, upd_same⟩

/-! ### from -/
structure TxtS (K : PySem.W.Frag) (mg : Str → Option Value) (fS : Addr) : Prop where
  g : mg "_law_sip" = some (.ref fS)
  k : PySem.W.keepIn K (.ref fS) = true
theorem scFrom : FnScope ["_law_jar_here", "_law_things"] ["_law_jar_here", "_law_things"] (defScope sFrom) := ⟨rfl, rfl, rfl, by decide +kernel, rfl, by decide +kernel, by decide +kernel⟩
theorem ok_from {f fS : Addr} {fd fdS : FuncData} (F : Fun K "_law_from" "_law_from" sFrom f fd) (T : TxtJ mg) (S : TxtS K mg fS) (FS : Fun K "_law_sip" "_law_sip" sSip fS fdS) (bS : Binds K fdS ["_law_jar_here", "_law_many"] []) :
    FnOk P w K mg base CX0 2 f fd ["_law_jar_here", "_law_things"] (spFrom K) := by
  have GS : FnOk P w K mg base CX0 1 fS fdS ["_law_jar_here", "_law_many"] spSip := ok_sip FS T
  refine F.ok scFrom (fun vs H Q E h => ?_) (fun cdv A outer s H vs Q E hr h => ?_)
  · obtain ⟨j, p, xs, rfl, _⟩ := h
    rfl
  · obtain ⟨j, p, xs, rfl, hJ, npj, hS, l0, l1, k⟩ := h
    refine ⟨_, pss_one (ps_ret (pe_ix ix_list (pv 1) (pe_call GS hr rfl S.g S.k bS .nil pass0 (pa_cons (pv 0) (pa_cons (pe_callB call_len_seq (by rfl) T.len PySem.boot_len (pa_cons (pv 1) pa_nil)) pa_nil))) (fun _ _ => rfl))), ?_⟩
    refine ⟨_, rfl, _, rfl, _, rfl, p, xs, rfl, .inl hS, j, _, rfl, hJ, by omega, by omega, fun H' d d0 d1 o J => ?_⟩
    obtain ⟨n, rfl⟩ := Int.eq_ofNat_of_zero_le d0
    have hn : n < xs.length := by omega
    exact ⟨p, xs, _, xs[n], rfl, rfl, o.seq npj hS, atI_nat (List.getElem?_eq_getElem hn), k H' n _ (List.getElem?_eq_getElem hn) o J⟩
/-! ### jar -/
theorem scJar : FnScope ["_law_script", "_law_k", "_law_own", "_law_mixed", "_law_entry"] ["_law_script", "_law_k"] (defScope sJar) := ⟨rfl, rfl, rfl, by decide +kernel, rfl, by decide +kernel, by decide +kernel⟩
theorem int_of_map {ns : List Int} {i : Nat} {y : V} (h : (ns.map V.int)[i]? = some y) : ∃ u, y = V.int u := by
  rw [List.getElem?_map] at h
  cases e : ns[i]? with
  | none =>
    rw [e] at h
    cases h
  | some u =>
    rw [e] at h
    exact ⟨u, (Option.some.inj h).symm⟩
theorem cut_map (ns : List Int) (lo hi : Option Int) : ∃ ms : List Int, cutV (ns.map V.int) lo hi = ms.map V.int :=
  ⟨(ns.drop (HT.sIx (ns.map V.int).length 0 lo)).take (HT.sIx (ns.map V.int).length (ns.map V.int).length hi - HT.sIx (ns.map V.int).length 0 lo), by
    unfold cutV
    rw [List.map_take, List.map_drop]⟩
theorem ok_jar {f : Addr} {fd : FuncData} (F : Fun K "_law_jar" "_law_jar" sJar f fd) (T : TxtJ mg) : FnOk P w K mg base CX0 1 f fd ["_law_script", "_law_k"] (spJar K) := by
  refine F.ok scJar (fun vs H Q E h => ?_) (fun cdv A outer s H vs Q E hr h => ?_)
  · obtain ⟨a, ns, k, rfl, _⟩ := h
    rfl
  · obtain ⟨a, ns, k, rfl, hS, hl, q⟩ := h
    refine ⟨_, C8.pss_cut (ps_set (i := 2) scJar.nd rfl (.inl rfl) (pe_ifExp (pt_cmpR op_lt (pv 1) (pe_callB call_len_seq (by rfl) T.len PySem.boot_len (pa_cons (pv 0) pa_nil)) (nomark _))
          (pe_callTy call_int1 (by rfl) T.int (by decide +kernel) (pa_cons (pe_ix ix_list (pv 0) (pv 1) (fun _ _ => rfl)) pa_nil)) (pe_op op_add (pe_op op_mul pe_int (pv 1)) pe_int)))
      (pss_cons (ps_set (i := 3) scJar.nd rfl (.inl rfl) (pe_op op_add pe_int (pe_op op_mul pe_int (pv 1))))
      (pss_cons (ps_for PassesOwn.never rfl (pi_list (pe_slice sl_list (pv 0) po_none (po_some pe_int))) (pg_name (i := 4) scJar.nd rfl (.inl rfl))
        (pss_one (ps_set (i := 3) scJar.nd rfl (.inl rfl) (pe_op op_mod (pe_callTy call_int1 (by rfl) T.int (by decide +kernel) (pa_cons (pe_op op_add (pe_op op_mul (pv 3) pe_int) (pe_op op_mod (pe_callTy call_int1 (by rfl) T.int (by decide +kernel) (pa_cons (pv 4) pa_nil)) pe_int)) pa_nil)) pe_int))))
      (pss_one (ps_ret (pe_lst (pa_cons (pe_ifExp (PW.pt (pw_or (pt_cmpR op_lt (pv 2) pe_int (nomark _)) (pw_or1 (pt_cmpR op_ge (pv 2) (pe_op op_pow pe_int pe_int) (nomark _))))) (pe_callB call_abs (by rfl) T.abs (by decide +kernel) (pa_cons (pv 2) pa_nil)) pe_int)
        (pa_cons (pe_op op_mod (pe_callTy call_int1 (by rfl) T.int (by decide +kernel) (pa_cons (pe_op op_add (pe_op op_mul (pv 3) pe_int) (pe_op op_mod (pv 2) pe_int)) pa_nil)) pe_int) (pa_cons pe_int pa_nil)))))))), ?_⟩
    refine ⟨fun σ H' => H = H' ∧ ∃ own : Int, σ = [some (.ref a), some (.int k), some (.int own), none, none], ?_, ?_⟩
    · refine ⟨_, rfl, _, rfl, a, _, rfl, .inl hS, _, _, rfl, rfl, _, rfl, ?_⟩
      refine ite2 (fun c => ?_) (fun c => ?_)
      · have hk : k < ns.length := by
          have c' := of_decide_eq_true c
          rw [List.length_map] at c'
          omega
        exact ⟨_, rfl, _, rfl, a, _, _, .int ns[k], rfl, rfl, hS, atI_nat (by rw [List.getElem?_map, List.getElem?_eq_getElem hk]; rfl), .inl ⟨_, rfl, rfl, _, rfl⟩⟩
      · exact ⟨_, rfl, _, _, rfl, rfl, .inl (by decide), _, _, rfl, rfl, rfl, _, rfl⟩
    · rintro _ _ ⟨rfl, own, rfl⟩
      refine ⟨_, rfl, _, _, rfl, rfl, .inl (by decide), _, _, rfl, rfl, ?_⟩
      refine ⟨_, rfl, 13, rfl, a, _, rfl, hS, fun p np => ?_⟩
      obtain ⟨ms, ems⟩ := cut_map ns none (some 13)
      rw [ems]
      refine ⟨p, rfl, ⟨_, SqL.of upd_same⟩, for_list (K := K) (a := p) (xs := ms.map V.int) (fun i σ H' => ∃ (mx : Int) (v : Option V), σ = [some (.ref a), some (.int k), some (.int own), some (.int mx), v] ∧ H' = upd H p (.lst (ms.map V.int)))
        ⟨_, none, rfl, rfl⟩ (fun i σ H' _ ⟨_, _, _, e⟩ => by rw [e]; exact SqL.of upd_same) ?_ ?_⟩
      · rintro i y σ H' hi ⟨mx, v, rfl, rfl⟩
        obtain ⟨u, rfl⟩ := int_of_map hi
        refine ⟨_, rfl, _, _, rfl, rfl, .inr (by decide), ?_⟩
        refine ⟨_, rfl, .inl ⟨_, rfl, _, _, rfl, rfl, (by show (0 : Int) < 1999999927; decide), _, _, rfl, rfl, .inl ⟨_, rfl, _, _, rfl, rfl, (by show (0 : Int) < 1999999927; decide), ?_⟩⟩⟩
        exact ⟨_, _, rfl, rfl⟩
      · rintro σ H' ⟨mx, v, rfl, rfl⟩
        have fin : ∀ (x : Int), tCons (tOp (rI (fun x j => 0 < j) fun i j => V.int (i % j)) (tCB (fun xs H Q => (∃ i, xs = [V.int i] ∧ Q (V.int i) H) ∨ ∃ k, xs = [V.bl k] ∧ Q (V.int (if k = true then 1 else 0)) H)
            (tCons (tOp (rI0 fun i j => V.int (i + j)) (tOp (rI CMul fun i j => V.int (i * j)) (tVar 3) (tC (V.int 5))) (tOp (rI (fun x j => 0 < j) fun i j => V.int (i % j)) (tVar 2) (tC (V.int 1999999927)))) tNil)) (tC (V.int 1999999927)))
          (tCons (tC (V.int 0)) tNil) [some (.ref a), some (.int k), some (.int own), some (.int mx), v] (upd H p (.lst (ms.map V.int))) (fun xs H1 => (V.int x :: xs).length ≤ sizeLine ∧ ∀ p, H1 p = none → Q (.ref p) (upd H1 p (.lst (V.int x :: xs)))) := by
          intro x
          refine ⟨_, rfl, _, _, rfl, rfl, .inr (by decide), _, rfl, _, _, rfl, rfl, (by show (0 : Int) < 1999999927; decide), _, _, rfl, rfl, .inl ⟨_, rfl, _, _, rfl, rfl, (by show (0 : Int) < 1999999927; decide), ?_⟩⟩
          refine ⟨(by show 3 ≤ sizeLine; decide), fun jj nj => ?_⟩
          exact q _ jj (Same.trans (same_upd np) (same_upd nj)) ((same_upd np).free nj) ⟨_, _, _, upd_same⟩
        refine ⟨_, rfl, _, _, rfl, rfl, _, rfl, ?_⟩
        refine ite2 (fun _ => ?_) (fun _ => ?_)
        · refine iteT ?_
          exact ⟨_, rfl, _, rfl, fin _⟩
        · refine ⟨_, rfl, _, _, rfl, rfl, ⟨by decide, by decide, by decide⟩, _, _, rfl, rfl, _, rfl, ?_⟩
          refine ite2 (fun _ => ?_) (fun _ => ?_)
          · exact ⟨_, rfl, _, rfl, fin _⟩
          · exact fin _
end
end My

/-! what every proof about a program of several defs wants -/
namespace Cm
open PySem PySem.Spec PyProof.Rows L2
/-- a def of the module -/
structure Df (K : PySem.W.Frag) (mg : Str → Option Value) (x : Str) (st : Stmt) (ps : List Str) where
  f : Addr
  fd : FuncData
  F : Fun K x x st f fd
  b : Binds K fd ps []
  g : mg x = some (.ref f)
  k : PySem.W.keepIn K (.ref f) = true
/-- a method of the class at C -/
structure Mt (K : PySem.W.Frag) (C : Addr) (x q : Str) (st : Stmt) (ps : List Str) where
  f : Addr
  fd : FuncData
  F : Fun K x q st f fd
  b : Binds K fd ps []
  m : Meth K C x f
theorem dI (a b : Int) : decide (V.int a = V.int b) = decide (a = b) := decide_eq_decide.mpr ⟨fun z => by cases z; rfl, fun z => by rw [z]⟩
theorem dS (a b : Str) : decide (V.str a = V.str b) = decide (a = b) := decide_eq_decide.mpr ⟨fun z => by cases z; rfl, fun z => by rw [z]⟩
theorem dB (a b : Bool) : decide (V.bl a = V.bl b) = decide (a = b) := decide_eq_decide.mpr ⟨fun z => by cases z; rfl, fun z => by rw [z]⟩
theorem putF_len (f : Str) (v : V) : ∀ fs : List (Str × V), (putF f v fs).length ≤ fs.length + 1
  | [] => Nat.le_refl _
  | (g, x) :: r => by
    unfold putF
    by_cases h : g = f
    · rw [if_pos h]
      exact Nat.le_succ _
    · rw [if_neg h]
      exact Nat.succ_le_succ (putF_len f v r)
theorem szl {n : Nat} (h : n ≤ 1000) : n ≤ sizeLine := Nat.le_of_lt (small1000 h)
theorem szM {n : Nat} (h : n ≤ 1000000) : n < sizeLine := Nat.lt_of_le_of_lt h (by decide)
theorem Same.set {K : PySem.W.Frag} {H H' : Hp} {a : Addr} {xs : List V} (e : Same H H') (h : SqT K H a xs) : SqT K H' a xs := by
  rcases h with (h | ⟨o, h⟩) | h
  · exact .inl (.inl (e _ _ h))
  · exact .inl (.inr ⟨o, e _ _ h⟩)
  · exact .inr h
theorem same_new {H : Hp} {p : Addr} {o : HO} (h : H p = none) : Same H (upd H p o) := fun b x e => by
  rw [upd_ne (ne_of_none e h)]
  exact e
theorem pass_none {P : Program} {w : World} {X : Cx} : Passes (L2.CX P w) X (fun _ _ _ => False) := fun pins σ H s e s2 I h => by
  obtain ⟨_, _, _, _, _, _, _, _, _, _, _, _, h⟩ := h
  exact h.elim
/-! ### len and truth of an instance with an own __len__ -/
section
variable {X : Cx} {C g : Addr} {n : Nat} {sp : Sp}
theorem inst_of {pins : List (Addr × Obj)} {σ : L2.St} {H : Hp} {s : Shared} {a dx : Addr} {fs : List (Str × V)} (I : Inv X pins σ H s) (e : H a = some (.ins C dx fs)) : ∃ (ox : Obj) (od : Option Obj), PySem.W.InstAt s.heap a ox C od := by
  obtain ⟨mA, O, _⟩ := ins_get I.hok e
  obtain ⟨od, J, _⟩ := O.look
  exact ⟨_, _, J⟩
def rLenO (C : Addr) (sp : Sp) : List V → Hp → VK → Prop := fun xs H Q => ∃ (a dx : Addr) (fs : List (Str × V)), xs = [.ref a] ∧ H a = some (.ins C dx fs) ∧ sp [.ref a] H (fun v H2 => ∃ k : Nat, v = .int k ∧ k ≤ 1000000 ∧ Q (.int k) H2) fun _ _ _ => False
theorem call_lenO (hs : PySem.W.findIn X.K (.ref C) "__len__" = some (some (.ref g))) (hf : PySem.W.isFn X.K (.ref g) = true) (F : FnR X.prog X.w X.K X.mg X.base CX0 n g sp) (hr : Room (n + 1) X.A) : CallR X (.builtin "len") (rLenO C sp) := by
  intro pins s σ H xs us Q I r h
  obtain ⟨a, dx, fs, rfl, ha, q⟩ := h
  obtain ⟨u, rfl, ru⟩ := vals1 r
  cases (show u = Value.ref a from ru)
  obtain ⟨ox, od, J⟩ := inst_of I ha
  obtain ⟨m, fr⟩ := I.fr
  refine PySem.W.len_K fr I.ok.mod.kin J hs hf ?_
  refine wpAny_mono (wpAny_call (SlX.run_at (us := [.ref a]) (ws := [.ref a]) F hr.in1 I.env0.in1 pass0 I (.cons rfl .nil) q)) (fun z s2 hz => ?_) fun _ _ e => e
  obtain ⟨z2, H2, I2, rz, k, rfl, hk, qz⟩ := hz
  obtain ⟨tk, rfl⟩ := (show ∃ tk, z = Value.int k tk from rz)
  exact ⟨⟨by omega, by omega⟩, .int k, H2, I2.tok _, ⟨_, rfl⟩, qz⟩
end
/-! ### bool of an instance with an own __len__ -/
section
variable {prog : Program} {w : World} {A : Around} {E : Value → Shared → Prop} {s : Shared} {K : PySem.W.Frag} {x C f : Addr} {ox : Obj} {od : Option Obj}
theorem len_bodyK {Q : Value → Shared → Prop} (X : K.In s.heap) (I : PySem.W.InstAt s.heap x ox C od) (hs : PySem.W.findIn K (.ref C) "__len__" = some (some (.ref f))) (hf : PySem.W.isFn K (.ref f) = true)
    (h : wpAny (model prog w) A (call (.ref f) [.ref x]) (PySem.W.LenBack Q) E s) : wpAny (model prog w) A (Builtin.«len» ⟨[.ref x], []⟩) (fun fin s' => ∃ r, fin = .done (.ret r) ∧ Q r s') E s := by
  unfold Builtin.«len»
  refine wpAny_bind (m := oneArg "len" _) (wpAny_pure ?_)
  refine wpAny_bind (m := callSpecial? (.ref x) (Str.ofString "__len__")) (PySem.W.special_fn X I hs (beq_iff_eq.mp hf) (wpAny_mono h (fun r s' hr => ?_) fun _ _ y => y))
  cases r <;> first | exact hr.elim | skip
  rename_i n u
  obtain ⟨⟨h0, h1⟩, hq⟩ := hr
  refine wpAny_bind (wpAny_holding (wpAny_pure ?_))
  refine wpAny_bind (wpAny_letGo ?_)
  show wpAny _ _ (if n < 0 then _ else _) _ _ _
  rw [if_neg (by omega)]
  show wpAny _ _ (if n ≥ 2 ^ 63 then _ else _) _ _ _
  rw [if_neg (by omega)]
  exact wpAny_bind (wpAny_mkInt (wpAny_pure ⟨_, rfl, hq⟩))
theorem truthy_KL {Q : Bool → Shared → Prop} (X : K.In s.heap) (I : PySem.W.InstAt s.heap x ox C od) (hb : PySem.W.findIn K (.ref C) "__bool__" = some none) (hl : PySem.W.findIn K (.ref C) "__len__" = some (some (.ref f))) (hf : PySem.W.isFn K (.ref f) = true)
    (h : wpAny (model prog w) A.in1 (call (.ref f) [.ref x]) (PySem.W.LenBack fun v s' => ∃ n t, v = .int n t ∧ Q (n != 0) s') E s) : wpAny (model prog w) A (truthy (.ref x)) Q E s := by
  have key : wpAny (model prog w) A (runValue (.builtin "len" ⟨[.ref x], []⟩)) (fun r s' => ∃ n t, r = .int n t ∧ Q (n != 0) s') E s := by
    refine wpAny_runValue (codeAny_builtin entry_len ?_)
    rw [Around.under_plainId plain_len _]
    exact wpAny_mono (len_bodyK X I hl hf h) (fun fin s' h' => by obtain ⟨r, rfl, hq⟩ := h'; exact hq) fun _ _ e => e
  unfold truthy
  refine wpAny_bind (m := callSpecial? (.ref x) (Str.ofString "__bool__")) (wpAny_bind (wpAny_bind (I.type.here ((PySem.W.looks_findIn X hb).here (wpAny_pure ?_)))))
  refine wpAny_bind (wpAny_bind (I.type.here ((PySem.W.looks_findIn X hl).here ?_)))
  exact wpAny_bind (wpAny_mono key (fun r s' h' => by obtain ⟨n, t, rfl, hq⟩ := h'; exact wpAny_pure hq) fun _ _ e => e)
theorem bool_KL {Q : Value → Shared → Prop} (X : K.In s.heap) (I : PySem.W.InstAt s.heap x ox C od) (hb : PySem.W.findIn K (.ref C) "__bool__" = some none) (hl : PySem.W.findIn K (.ref C) "__len__" = some (some (.ref f))) (hf : PySem.W.isFn K (.ref f) = true)
    (h : wpAny (model prog w) A.in1.in1.in1 (call (.ref f) [.ref x]) (PySem.W.LenBack fun v s' => ∃ n t, v = .int n t ∧ Q (.bool (n != 0)) s') E s) : wpAny (model prog w) A (call (.type "bool") [.ref x]) Q E s := by
  refine callType_codes (T := "bool") (Bi := Builtin.«object.__init__») (Q₁ := fun r s₁ => ∃ b, r = .bool b ∧ Q r s₁) PySem.F.called_bool (PySem.F.typeCall_bool_1 _) PySem.F.entry_object_init ?_ ?_
  · refine codeAny_of_tree ?_
    show wpAny _ A.in1.in1 (do checkBuiltinCall "bool.__new__" ⟨[.type "bool", .ref x], []⟩; again (.builtin "bool.__new__" ⟨[.type "bool", .ref x], []⟩)) _ _ s
    refine wpAny_bind (wpAny_of_eq (PySem.F.newCall_bool_1 _) (wpAny_pure ⟨plainId_quiet (by decide +kernel) _, codeAny_builtin PySem.F.entry_bool_new ?_⟩))
    rw [Around.under_plainId (by decide +kernel) _]
    have f1 := PySem.F.conv_sub_bool
    have key : wpAny (model prog w) A.in1.in1 (truthy (.ref x)) (fun b s1 => Q (.bool b) s1) E s := truthy_KL X I hb hl hf (wpAny_mono h (fun v s1 hv => by
      cases v <;> first | exact hv.elim | skip
      obtain ⟨h01, n, t, e, hq⟩ := hv
      cases e
      exact ⟨h01, _, _, rfl, hq⟩) fun _ _ z => z)
    unfold Builtin.«bool.__new__»
    show wpAny _ _ (isType (.type "bool") >>= _) _ _ s
    refine wpAny_bind (wpAny_pure ?_)
    refine wpAny_bind (wpAny_of_eq f1 ?_)
    refine wpAny_bind (wpAny_pure ?_)
    exact wpAny_bind (wpAny_mono key (fun b s1 hb1 => wpAny_pure ⟨_, rfl, hb1⟩) fun _ _ z => z)
  · rintro obj s₁ ⟨b, rfl, hq⟩
    exact ⟨rfl, PySem.F.args_object_init_2 _ _, object_init_meets PySem.F.called_bool.init.lookup PySem.F.called_bool.made (by decide) prog w A.in1 _ s₁ ⟨rfl, rfl, hq⟩⟩
end
section
variable {X : Cx} {C g : Addr} {n : Nat} {sp : Sp}
def rBoolL (C : Addr) (sp : Sp) : List V → Hp → VK → Prop := fun xs H Q => ∃ (a dx : Addr) (fs : List (Str × V)), xs = [.ref a] ∧ H a = some (.ins C dx fs) ∧ sp [.ref a] H (fun v H2 => ∃ k : Nat, v = .int k ∧ k ≤ 1000000 ∧ Q (.bl ((k : Int) != 0)) H2) fun _ _ _ => False
theorem call_boolLO (hb : PySem.W.findIn X.K (.ref C) "__bool__" = some none) (hs : PySem.W.findIn X.K (.ref C) "__len__" = some (some (.ref g))) (hf : PySem.W.isFn X.K (.ref g) = true) (F : FnR X.prog X.w X.K X.mg X.base CX0 n g sp) (hr : Room (n + 3) X.A) : CallR X (.type "bool") (rBoolL C sp) := by
  intro pins s σ H xs us Q I r h
  obtain ⟨a, dx, fs, rfl, ha, q⟩ := h
  obtain ⟨u, rfl, ru⟩ := vals1 r
  cases (show u = Value.ref a from ru)
  obtain ⟨ox, od, J⟩ := inst_of I ha
  have hr2 : Room (n + 2) X.A.in1 := hr.in1
  have hr1 : Room (n + 1) X.A.in1.in1 := hr2.in1
  refine bool_KL I.kIn J hb hs hf ?_
  refine wpAny_mono (wpAny_call (SlX.run_at (us := [.ref a]) (ws := [.ref a]) F hr1.in1 I.env0.in1.in1.in1 pass0 I (.cons rfl .nil) q)) (fun z s2 hz => ?_) fun _ _ e => e
  obtain ⟨z2, H2, I2, rz, k, rfl, hk, qz⟩ := hz
  obtain ⟨tk, rfl⟩ := (show ∃ tk, z = Value.int k tk from rz)
  exact ⟨⟨by omega, by omega⟩, _, _, rfl, .bl _, H2, I2.tok _, rfl, qz⟩
end
/-! ### tuples cut and put together -/
theorem cut_to (xs : List V) (k : Nat) (h : k ≤ xs.length) : cutV xs none (some (k : Int)) = xs.take k := by
  unfold cutV
  rw [HT.sIx_none, HT.sIx_nat, Nat.min_eq_left h]
  rfl
theorem cut_from (xs : List V) (k : Nat) : cutV xs (some (k : Int)) none = xs.drop k := by
  unfold cutV
  rw [HT.sIx_none, HT.sIx_nat]
  by_cases h : k ≤ xs.length
  · rw [Nat.min_eq_left h]
    exact List.take_of_length_le (by rw [List.length_drop]; omega)
  · rw [Nat.min_eq_right (by omega), List.drop_length, List.drop_eq_nil_of_le (by omega)]
    simp
section
variable {X : Cx}
def rSlS (K : PySem.W.Frag) : V → Option Int → Option Int → Hp → VK → Prop := fun x lo hi H Q => ∃ a xs, x = .ref a ∧ SqT K H a xs ∧ ∀ (H' : Hp) (q : Addr), Same H H' → SqT K H' q (cutV xs lo hi) → Q (.ref q) H'
theorem sl_tupS : SlR X (rSlS X.K) := by
  intro pins s σ H x v vl vu lo hi sl Q I rx hs pl pu h
  obtain ⟨a, xs, rfl, hx, q⟩ := h
  refine sl_tupA pins s σ H _ v vl vu lo hi sl Q I rx hs pl pu ⟨a, xs, rfl, hx, fun z => ?_, fun _ p np => q _ p (same_new np) (SqT.of upd_same)⟩
  refine q H a (Same.refl _) ?_
  have e : cutV xs lo hi = xs := by
    unfold cutV
    rw [z.1, z.2]
    simp
  rw [e]
  exact hx
def rCatS (K : PySem.W.Frag) : R2 := fun x y H Q => ∃ a b xs ys, x = .ref a ∧ y = .ref b ∧ SqT K H a xs ∧ SqT K H b ys ∧ xs.length + ys.length ≤ sizeLine ∧ ∀ (H' : Hp) (q : Addr), Same H H' → SqT K H' q (xs ++ ys) → Q (.ref q) H'
theorem op_catS : OpR X (binaryOp .Add) (rCatS X.K) := by
  intro pins s σ H x y v u Q I rx ry h
  obtain ⟨a, b, xs, ys, rfl, rfl, ha, hb, hz, q⟩ := h
  refine op_catA pins s σ H _ _ v u Q I rx ry ⟨a, b, xs, ys, rfl, rfl, ha, hb, hz, fun z => ?_, fun _ z => ?_, fun _ _ p np => q _ p (same_new np) (SqT.of upd_same)⟩
  · refine q H b (Same.refl _) ?_
    rw [z]
    exact hb
  · refine q H a (Same.refl _) ?_
    rw [z, List.append_nil]
    exact ha
end
/-! ### a reading may be asked for more -/
section
variable {X : Cx} {e : Expr} {es : List Expr} {st : Stmt} {sts : List Stmt}
theorem pe_imp {t t' : TE} (h : PE X e t) (k : ∀ σ H Q, t' σ H Q → t σ H Q) : PE X e t' := ⟨fun pins s σ H Q I q => h.run pins s σ H Q I (k σ H Q q)⟩
theorem pa_imp {t t' : TA} (h : PA X es t) (k : ∀ σ H Q, t' σ H Q → t σ H Q) : PA X es t' := ⟨fun pos pins s σ H Q I q => h.run pos pins s σ H Q I (k σ H Q q)⟩
theorem pt_imp {t t' : TT} (h : PT X e t) (k : ∀ σ H Q, t' σ H Q → t σ H Q) : PT X e t' := ⟨fun pins s σ H Q I q => h.run pins s σ H Q I (k σ H Q q)⟩
theorem ps_imp {t t' : TS} (h : PS X st t) (k : ∀ D σ H, t' D σ H → t D σ H) : PS X st t' := ⟨fun pins s σ H D I q => h.run pins s σ H D I (k D σ H q)⟩
theorem pss_imp {t t' : TS} (h : PSs X sts t) (k : ∀ D σ H, t' D σ H → t D σ H) : PSs X sts t' := ⟨fun pins s σ H D I q => h.run pins s σ H D I (k D σ H q)⟩
end
theorem hu64 {A : Around} {k : Nat} (hr : Room k A) : A.units + 64 < cLine := by
  have := hr.un
  omega
/-! ### the same, for tuples that are tracked -/
section
variable {X : Cx}
def rSlH : V → Option Int → Option Int → Hp → VK → Prop := fun x lo hi H Q => ∃ a xs, x = .ref a ∧ H a = some (.tup xs) ∧ ∀ (H' : Hp) (q : Addr), Same H H' → H' q = some (.tup (cutV xs lo hi)) → Q (.ref q) H'
theorem sl_tupH : SlR X rSlH := by
  intro pins s σ H x v vl vu lo hi sl Q I rx hs pl pu h
  obtain ⟨a, xs, rfl, hx, q⟩ := h
  refine sl_tupA pins s σ H _ v vl vu lo hi sl Q I rx hs pl pu ⟨a, xs, rfl, SqT.of hx, fun z => ?_, fun _ p np => q _ p (same_new np) upd_same⟩
  refine q H a (Same.refl _) ?_
  have e : cutV xs lo hi = xs := by
    unfold cutV
    rw [z.1, z.2]
    simp
  rw [e]
  exact hx
def rCatH : R2 := fun x y H Q => ∃ a b xs ys, x = .ref a ∧ y = .ref b ∧ H a = some (.tup xs) ∧ H b = some (.tup ys) ∧ xs.length + ys.length ≤ sizeLine ∧ ∀ (H' : Hp) (q : Addr), Same H H' → H' q = some (.tup (xs ++ ys)) → Q (.ref q) H'
theorem op_catH : OpR X (binaryOp .Add) rCatH := by
  intro pins s σ H x y v u Q I rx ry h
  obtain ⟨a, b, xs, ys, rfl, rfl, ha, hb, hz, q⟩ := h
  refine op_catA pins s σ H _ _ v u Q I rx ry ⟨a, b, xs, ys, rfl, rfl, SqT.of ha, SqT.of hb, hz, fun z => ?_, fun _ z => ?_, fun _ _ p np => q _ p (same_new np) upd_same⟩
  · refine q H b (Same.refl _) ?_
    rw [z]
    exact hb
  · refine q H a (Same.refl _) ?_
    rw [z, List.append_nil]
    exact ha
end
theorem cut_mid (xs : List V) (a b : Nat) (h1 : a ≤ b) (h2 : b ≤ xs.length) : cutV xs (some (a : Int)) (some (b : Int)) = (xs.drop a).take (b - a) := by
  unfold cutV
  rw [HT.sIx_nat, HT.sIx_nat, Nat.min_eq_left h2, Nat.min_eq_left (by omega)]
end Cm

/-! texts of loops: what their words are, and when they are right -/
namespace LM
open PySem L2 TL
def tests : List Str := ["empty", "some", "short", "full", "told", "open", "rest", "bare"]
def rsteps : List Str := ["add", "hand", "cut", "flush", "stop", "again"]
def esteps : List Str := ["hand", "cut", "flush"]
def wordsR (t : Str) : List Str := Txt.split (Txt.partition t " | ").1 " "
def wordsE (t : Str) : List Str := if (Txt.partition t " | ").2.1.length != 0 then Txt.split (Txt.partition t " | ").2.2 " " else []
def orderOf (w : Str) : Str × Str := if (Txt.partition w ":").2.1.length != 0 then ((Txt.partition w ":").1, (Txt.partition w ":").2.2) else ("", w)
def isWord (w : Str) (ss : List Str) : Bool := if (Txt.partition w ":").2.1.length != 0 then decide ((Txt.partition w ":").1 ∈ tests) && decide ((Txt.partition w ":").2.2 ∈ ss) else decide (w ∈ ss)
def areWords (ws ss : List Str) : Bool := ws.all fun w => isWord w ss
def isAdd (w : Str) : Bool := decide ((orderOf w).2 = "add")
def isRound (ws : List Str) : Bool := decide (ws.head? = some "ask") && (decide (ws.length ≤ 12) && (decide ((ws.filter isAdd).length ≤ 1) && areWords ws.tail rsteps))
def isEnding (ws : List Str) : Bool := decide (ws.length ≤ 6) && areWords ws esteps
def goodText (t : Str) : Bool := isRound (wordsR t) && isEnding (wordsE t)
def svs (ws : List Str) : List V := ws.map V.str
theorem svs_flat : ∀ ws : List Str, (svs ws).all flatV = true
  | [] => rfl
  | _ :: r => svs_flat r
theorem inV_svs (w : Str) : ∀ ws : List Str, inV (.str w) (svs ws) = decide (w ∈ ws)
  | [] => by simp [inV, svs]
  | x :: r => by
    have ih := inV_svs w r
    show (eqV (.str x) (.str w) || inV (.str w) (svs r)) = _
    rw [ih]
    show ((x == w) || decide (w ∈ r)) = _
    by_cases h : x = w
    · subst h
      simp
    · have h2 : (x == w) = false := by
        cases hh : (x == w) with
        | false => rfl
        | true => exact absurd (eq_of_beq hh) h
      rw [h2, Bool.false_or]
      refine decide_eq_decide.mpr ⟨fun z => List.mem_cons_of_mem _ z, fun z => ?_⟩
      rcases List.mem_cons.mp z with z | z
      · exact absurd z.symm h
      · exact z
theorem split_ne (x y : Str) : Txt.split x y ≠ [] := by
  unfold Txt.split
  split
  · simp
  · split
    · simp
    · rw [PySem.StrLaws.partsBetween_eq]
      cases Builtin.Str.occurrences x y 0 x.length (x.length + 1) <;> simp [PySem.StrLaws.partsFrom]
/-! ### drawn words -/
/-- a step of these, or a test before it -/
def Wd (ss : List Str) (w : Str) : Prop := ∃ s ∈ ss, w = s ∨ ∃ t ∈ tests, w = t ++ (":" : Str) ++ s
def allWd (ss : List Str) : List Str := ss ++ (tests.map fun t : Str => ss.map fun s : Str => t ++ (":" : Str) ++ s).flatten
theorem Wd.mem {ss : List Str} {w : Str} (h : Wd ss w) : w ∈ allWd ss := by
  obtain ⟨s, hs, rfl | ⟨t, ht, rfl⟩⟩ := h
  · exact List.mem_append.mpr (.inl hs)
  · exact List.mem_append.mpr (.inr (List.mem_flatten.mpr ⟨_, List.mem_map.mpr ⟨t, ht, rfl⟩, List.mem_map.mpr ⟨s, hs, rfl⟩⟩))
theorem Wd.mono {ss zs : List Str} {w : Str} (f : ∀ s ∈ ss, s ∈ zs) (h : Wd ss w) : Wd zs w := let ⟨s, hs, q⟩ := h; ⟨s, f s hs, q⟩
/-- what is known of a word -/
def wdOk (w : Str) : Bool := isWord w rsteps && (decide (32 ∉ tl w) && (decide (124 ∉ tl w) && decide (w.length ≤ 11)))
theorem wd_ok : ∀ w ∈ allWd rsteps, wdOk w = true := by decide +kernel
theorem wd_end : ∀ w ∈ allWd esteps, isWord w esteps = true := by decide +kernel
theorem wd_noadd : ∀ w ∈ allWd ["hand", "cut", "flush", "stop", "again"], isAdd w = false := by decide +kernel
/-! ### lines -/
def line (B E : List Str) : Str := if E = [] then Txt.join " " B else Txt.join " " (B ++ [("|" : Str)] ++ E)
def textOf (B E : List Str) : Str := if E = [] then Txt.join " " B else Txt.join " " B ++ " | " ++ Txt.join " " E
/-- no space and no bar is in it -/
def Fre (w : Str) : Prop := 32 ∉ tl w ∧ 124 ∉ tl w
theorem tlSp : tl (" " : Str) = [32] := by decide +kernel
theorem tlBar : tl (" | " : Str) = [32, 124, 32] := by decide +kernel
theorem tlB1 : tl ("|" : Str) = [124] := by decide +kernel
theorem joinL_app (S : List Nat) : ∀ (a b : List (List Nat)), a ≠ [] → b ≠ [] → joinL S (a ++ b) = joinL S a ++ (S ++ joinL S b)
  | [], _, h, _ => absurd rfl h
  | [p], b, _, hb => by
    cases b with
    | nil => exact absurd rfl hb
    | cons q r => rfl
  | p :: q :: r, b, _, hb => by
    show p ++ (S ++ joinL S (q :: r ++ b)) = p ++ (S ++ joinL S (q :: r)) ++ (S ++ joinL S b)
    rw [joinL_app S (q :: r) b (by simp) hb]
    simp [List.append_assoc]
theorem joinL_mem {S : List Nat} {c : Nat} : ∀ {a : List (List Nat)}, c ∈ joinL S a → c ∈ S ∨ ∃ p ∈ a, c ∈ p
  | [], h => nomatch h
  | [p], h => .inr ⟨p, List.mem_singleton.mpr rfl, h⟩
  | p :: q :: r, h => by
    rcases List.mem_append.mp (show c ∈ p ++ (S ++ joinL S (q :: r)) from h) with h | h
    · exact .inr ⟨p, List.mem_cons_self .., h⟩
    · rcases List.mem_append.mp h with h | h
      · exact .inl h
      · rcases joinL_mem h with h | ⟨z, hz, hc⟩
        · exact .inl h
        · exact .inr ⟨z, List.mem_cons_of_mem _ hz, hc⟩
theorem tl_joinSp (B : List Str) : tl (Txt.join " " B) = joinL [32] (B.map tl) := by rw [join_eq, tl_join, tlSp]
theorem nobar {B : List Str} (h : ∀ w ∈ B, Fre w) : 124 ∉ tl (Txt.join " " B) := by
  rw [tl_joinSp]
  intro hm
  rcases joinL_mem hm with hm | ⟨p, hp, hc⟩
  · exact absurd hm (by decide)
  · obtain ⟨w, hw, rfl⟩ := List.mem_map.mp hp
    exact (h w hw).2 hc
theorem line_text {B E : List Str} (hB : B ≠ []) : line B E = textOf B E := by
  unfold line textOf
  by_cases hE : E = []
  · rw [if_pos hE, if_pos hE]
  · rw [if_neg hE, if_neg hE]
    refine ext_tl ?_
    rw [tl_append, tl_append, tl_joinSp, tl_joinSp, tl_joinSp, tlBar, List.map_append, List.map_append, joinL_app _ _ _ (by simp) (by simpa using hE), joinL_app _ _ _ (by simpa using hB) (by simp)]
    simp [joinL, tlB1]
theorem pre_bar {l : List Nat} (h : pre [32, 124, 32] l = true) : ∃ r, l = 32 :: 124 :: 32 :: r := by
  have e : l.take 3 = [32, 124, 32] := eq_of_beq h
  match l, e with
  | a :: b :: c :: r, e =>
    simp at e
    obtain ⟨rfl, rfl, rfl⟩ := e
    exact ⟨r, rfl⟩
theorem no_bar {p q : List Nat} (h : 124 ∉ p) (hq : q = [] ∨ ∃ r, q = 32 :: r) : ∀ i, i < p.length → pre [32, 124, 32] ((p ++ q).drop i) = false := by
  intro i hi
  cases hp : pre [32, 124, 32] ((p ++ q).drop i) with
  | false => rfl
  | true =>
    obtain ⟨r, e⟩ := pre_bar hp
    have e1 : (p ++ q)[i + 1]? = some 124 := by
      have : ((p ++ q).drop i)[1]? = some 124 := by rw [e]; rfl
      rw [List.getElem?_drop] at this
      exact this
    by_cases h1 : i + 1 < p.length
    · rw [List.getElem?_append_left h1] at e1
      exact absurd (List.mem_of_getElem? e1) h
    · rw [List.getElem?_append_right (by omega)] at e1
      rcases hq with rfl | ⟨r, rfl⟩
      · simp at e1
      · have : i + 1 - p.length = 0 := by omega
        rw [this] at e1
        simp at e1
theorem part_no {x : Str} (h : 124 ∉ tl x) : Txt.partition x " | " = (x, Str.empty, Str.empty) := by
  rw [partition_par _ _ (by rw [tlBar]; simp), tlBar, par_none]
  intro i hi
  have := no_bar (q := []) h (.inl rfl) i hi
  rwa [List.append_nil] at this
theorem part_yes {x y : Str} (h : 124 ∉ tl x) : Txt.partition (x ++ " | " ++ y) " | " = (x, (" | " : Str), y) := by
  rw [partition_par _ _ (by rw [tlBar]; simp), tl_append, tl_append, List.append_assoc, tlBar, par_part (by simp) (no_bar h (.inr ⟨_, rfl⟩))]
  show ((⟨([] ++ tl x).toArray⟩ : Str), _, (⟨(tl y).toArray⟩ : Str)) = _
  rw [List.nil_append, mk_tl, mk_tl]
theorem split_words {B : List Str} (hB : B ≠ []) (h : ∀ w ∈ B, Fre w) : Txt.split (Txt.join " " B) " " = B :=
  split_join (s := 32) (S := []) tlSp (by decide +kernel) hB fun p hp => (h p hp).1
theorem words_text {B E : List Str} (hB : B ≠ []) (h1 : ∀ w ∈ B, Fre w) (h2 : ∀ w ∈ E, Fre w) : wordsR (textOf B E) = B ∧ wordsE (textOf B E) = E := by
  unfold wordsR wordsE textOf
  by_cases hE : E = []
  · rw [if_pos hE, part_no (nobar h1)]
    refine ⟨split_words hB h1, ?_⟩
    rw [hE]
    rfl
  · rw [if_neg hE, part_yes (nobar h1)]
    refine ⟨split_words hB h1, ?_⟩
    exact (if_pos (show ((" | " : Str).length != 0) = true by decide +kernel)).trans (split_words hE h2)
theorem words_line {B E : List Str} (hB : B ≠ []) (h1 : ∀ w ∈ B, Fre w) (h2 : ∀ w ∈ E, Fre w) : wordsR (line B E) = B ∧ wordsE (line B E) = E := by
  rw [line_text hB]
  exact words_text hB h1 h2
/-! ### lengths -/
theorem sum_le {n : Nat} : ∀ {B : List Str}, (∀ w ∈ B, w.length ≤ n) → (B.map (·.length)).sum ≤ n * B.length
  | [], _ => Nat.zero_le _
  | w :: r, h => by
    have a := h w (List.mem_cons_self ..)
    have b := sum_le (B := r) fun z hz => h z (List.mem_cons_of_mem _ hz)
    rw [List.map_cons, List.sum_cons, List.length_cons, Nat.mul_succ]
    omega
theorem join_len : ∀ B : List Str, (Txt.join " " B).length ≤ (B.map (·.length)).sum + B.length := by
  intro B
  rw [len_tl, tl_joinSp]
  induction B with
  | nil => simp [joinL]
  | cons w r ih =>
    cases r with
    | nil =>
      show (tl w).length ≤ _
      rw [← len_tl]
      simp
    | cons x r =>
      show (tl w ++ ([32] ++ joinL [32] ((x :: r).map tl))).length ≤ _
      rw [List.length_append, List.length_append, ← len_tl]
      simp only [List.map_cons, List.sum_cons, List.length_cons, List.length_nil] at ih ⊢
      omega
/-- short words, not many -/
def Sht (n : Nat) (B : List Str) : Prop := (∀ w ∈ B, w.length ≤ 11) ∧ B.length ≤ n
theorem Sht.sum {n : Nat} {B : List Str} (h : Sht n B) : (B.map (·.length)).sum + B.length * 1 ≤ 12 * n := by
  have := sum_le h.1
  have := h.2
  omega
theorem Sht.join {n : Nat} {B : List Str} (h : Sht n B) : (Txt.join " " B).length ≤ 12 * n := by
  have := h.sum
  have := join_len B
  omega
/-! ### bounds of what is cut -/
theorem spl_len (S : List Nat) : ∀ (k : Nat) (acc l : List Nat), (spl S k acc l).length ≤ l.length + 1
  | k, acc, [] => by rw [spl_nil]; simp
  | 0, acc, c :: r => by
    cases h : pre S (c :: r) with
    | true =>
      rw [spl_hit h, List.length_cons, List.length_cons]
      have := spl_len S (S.length - 1) [] r
      omega
    | false =>
      rw [spl_miss h, List.length_cons]
      have := spl_len S 0 (acc ++ [c]) r
      omega
  | k + 1, acc, _ :: r => by
    show (spl S k acc r).length ≤ _
    have := spl_len S k acc r
    rw [List.length_cons]
    omega
theorem spl_word (S : List Nat) : ∀ (k : Nat) (acc l : List Nat), ∀ p ∈ spl S k acc l, p.length ≤ acc.length + l.length
  | k, acc, [], p, hp => by
    rw [spl_nil] at hp
    rw [List.mem_singleton.mp hp]
    omega
  | 0, acc, c :: r, p, hp => by
    cases h : pre S (c :: r) with
    | true =>
      rw [spl_hit h] at hp
      rcases List.mem_cons.mp hp with rfl | hp
      · omega
      · have := spl_word S (S.length - 1) [] r p hp
        simp at this ⊢
        omega
    | false =>
      rw [spl_miss h] at hp
      have := spl_word S 0 (acc ++ [c]) r p hp
      simp at this ⊢
      omega
  | k + 1, acc, _ :: r, p, hp => by
    have := spl_word S k acc r p hp
    simp at this ⊢
    omega
theorem split_sp (x : Str) : (Txt.split x " ").map tl = spl [32] 0 [] (tl x) := by
  have := split_spl x " " (by rw [tlSp]; simp) (kind_ok (by decide +kernel))
  rwa [tlSp] at this
theorem split_len (x : Str) : (Txt.split x " ").length ≤ x.length + 1 := by
  have := spl_len [32] 0 [] (tl x)
  rw [← split_sp, List.length_map, ← len_tl] at this
  exact this
theorem split_word {x w : Str} (h : w ∈ Txt.split x " ") : w.length ≤ x.length := by
  have := spl_word [32] 0 [] (tl x) (tl w) (by rw [← split_sp]; exact List.mem_map.mpr ⟨w, h, rfl⟩)
  rw [← len_tl, ← len_tl] at this
  simpa using this
theorem part_len (x y : Str) : (Txt.partition x y).1.length ≤ x.length ∧ (Txt.partition x y).2.1.length ≤ y.length ∧ (Txt.partition x y).2.2.length ≤ x.length := by
  rcases PyProof.Rows.partition_whole x y with ⟨e, _⟩ | ⟨i, e, _, _⟩
  · rw [e]
    exact ⟨Nat.le_refl _, Nat.zero_le _, Nat.zero_le _⟩
  · rw [e]
    refine ⟨?_, Nat.le_refl _, ?_⟩
    · rw [len_tl, tl_strSub, List.length_take, List.length_drop, ← len_tl]
      omega
    · rw [len_tl, tl_strSub_end, List.length_drop, ← len_tl]
      omega
/-- the words of a text of at most n signs -/
theorem wordsR_len (t : Str) : (wordsR t).length ≤ t.length + 1 := by
  have := split_len (Txt.partition t " | ").1
  have := (part_len t " | ").1
  unfold wordsR
  omega
theorem wordsE_len (t : Str) : (wordsE t).length ≤ t.length + 1 := by
  unfold wordsE
  split
  · have := split_len (Txt.partition t " | ").2.2
    have := (part_len t " | ").2.2
    omega
  · simp
theorem wordsR_word {t w : Str} (h : w ∈ wordsR t) : w.length ≤ t.length := Nat.le_trans (split_word h) (part_len t " | ").1
theorem wordsE_word {t w : Str} (h : w ∈ wordsE t) : w.length ≤ t.length := by
  unfold wordsE at h
  split at h
  · exact Nat.le_trans (split_word h) (part_len t " | ").2.2
  · exact nomatch h
theorem wordsR_ne (t : Str) : wordsR t ≠ [] := split_ne _ _
end LM

/-! what many parts want: the error about texts, small lemmas -/
namespace My
open PySem L2 Cm LM
abbrev sEI : Stmt := inClass (top 4) 0
theorem nz (n : Nat) : ((n : Int) != 0) = (n != 0) := by
  cases n with
  | zero => rfl
  | succ k => simp; omega
/-- no text is longer -/
def Bd (t : Str) : Prop := t.length ≤ 100000
theorem Bd.part {t : Str} (y : Str) (h : Bd t) : Bd (Txt.partition t y).1 ∧ Bd (Txt.partition t y).2.2 := ⟨Nat.le_trans (part_len t y).1 h, Nat.le_trans (part_len t y).2.2 h⟩
theorem Bd.line {t : Str} (h : Bd t) : t.length ≤ sizeLine := Nat.le_of_lt (szM (Nat.le_trans h (by decide)))
theorem Bd.line2 {t : Str} (h : Bd t) : t.length + 2 ≤ sizeLine := Nat.le_of_lt (szM (by unfold Bd at h; omega))
theorem svs_get {ws : List Str} {i : Nat} {x : V} (h : (svs ws)[i]? = some x) : ∃ z, ws[i]? = some z ∧ x = .str z := by
  unfold svs at h
  rw [List.getElem?_map] at h
  cases e : ws[i]? with
  | none => rw [e] at h; cases h
  | some z =>
    rw [e] at h
    exact ⟨z, rfl, (Option.some.inj h).symm⟩
theorem take_snoc {α : Type} {xs : List α} {i : Nat} {x : α} (h : xs[i]? = some x) : xs.take (i + 1) = xs.take i ++ [x] := by
  rw [List.take_succ, h]
  rfl
theorem lt_of_get {α : Type} {xs : List α} {i : Nat} {x : α} (h : xs[i]? = some x) : i < xs.length := (List.getElem?_eq_some_iff.mp h).1
/-- not many words, none too long -/
def BdW (ws : List Str) : Prop := (∀ z ∈ ws, Bd z) ∧ ws.length ≤ 100001
theorem made_same {H H' : Hp} {x dx C : Addr} (nx : H x = none) (ndx : H dx = none) (o : Off x (upd (upd H dx (.own x)) x (.ins C dx [])) H') : Same H H' := fun b u e => o b u (ne_of_none e nx) (by rw [upd_ne (ne_of_none e nx), upd_ne (ne_of_none e ndx)]; exact e)
/-- a special method of the class at C -/
structure Sm (K : PySem.W.Frag) (C : Addr) (x q : Str) (st : Stmt) (ps : List Str) where
  f : Addr
  fd : FuncData
  F : Fun K x q st f fd
  b : Binds K fd ps []
  i : PySem.W.findIn K (.ref C) x = some (some (.ref f))
  fn : PySem.W.isFn K (.ref f) = true
theorem TyX_same {K : PySem.W.Frag} {H H' : Hp} (s : Same H H') {x : V} {t : Value} (h : TyX K H x t) : TyX K H' x t := by
  cases h with
  | base b =>
    refine .base ?_
    cases b with
    | non => exact .non
    | bl x => exact .bl x
    | int i => exact .int i
    | str x => exact .str x
    | flt x => exact .flt x
    | lst e => exact .lst (s _ _ e)
    | frz e => exact .frz (s _ _ e)
    | tup e => exact .tup (s _ _ e)
    | dK e => exact .dK (s _ _ e)
    | dT e => exact .dT (s _ _ e)
    | ins e a b c d f => exact .ins (s _ _ e) a b c d f
  | byt b => exact .byt b
  | set e => exact .set (s _ _ e)
  | kList e c => exact .kList e c
  | kTuple e c => exact .kTuple e c
  | kDict e c => exact .kDict e c
  | fTuple e => exact .fTuple (s _ _ e)
  | fDict e => exact .fDict (s _ _ e)
theorem jar_ne {H : Hp} {j p : Addr} (a : Jar H j) (n : H p = none) : p ≠ j := fun z => by
  obtain ⟨_, _, _, q⟩ := a
  rw [z, q] at n
  cases n
theorem Jar.put {H : Hp} {j p : Addr} {o : HO} (a : Jar H j) (n : p ≠ j) : Jar (upd H p o) j := by
  obtain ⟨x, y, z, q⟩ := a
  exact ⟨x, y, z, by rw [upd_ne n.symm]; exact q⟩
/-- a store to what was not there at first -/
theorem Off.put2 {j q : Addr} {H H1 : Hp} {o : HO} (a : Off j H H1) (n : H q = none) : Off j H (upd H1 q o) := fun b u nb e => by
  rw [upd_ne (ne_of_none e n)]
  exact a b u nb e
/-- tuples that stand stay, if what is written is no tuple -/
theorem tup_stays {H : Hp} {x : Addr} {o o' : HO} (hx : H x = some o) (n : ∀ xs, o ≠ .tup xs) : ∀ (p : Addr) (xs : List V), H p = some (.tup xs) → (upd H x o') p = some (.tup xs) := fun p xs e => by
  rw [upd_ne]
  · exact e
  · intro z
    rw [z, hx] at e
    exact n xs (Option.some.inj e)
def isS : V → Bool
  | .str _ => true
  | _ => false
/-- its type is told -/
def Typed (K : PySem.W.Frag) (H : Hp) (x : V) : Prop := ∃ t, TyX K H x t ∧ PySem.W.kitOne K t (.type "str") = some (isS x)
theorem typed_str {K : PySem.W.Frag} {H : Hp} (x : Str) : Typed K H (.str x) := ⟨_, .base (.str x), kit_ty (show kitB "str" "str" = some true by decide +kernel)⟩
/-! ### the error -/
structure TxE (K : PySem.W.Frag) (mg : Str → Option Value) where
  C : Addr
  f : Addr
  fd : FuncData
  g : mg "InvalidText" = some (.ref C)
  o : OexC K C
  i : PySem.W.findIn K (.ref C) "__init__" = some (some (.ref f))
  t : PySem.W.typeIn K (.ref f) = some (.type "function")
  n : PySem.W.findIn K (.ref C) "value" = some none
  F : Fun K "__init__" "InvalidText.__init__" sEI f fd
  b : Binds K fd ["self", "value"] []
section
variable {P : Program} {w : World} {K : PySem.W.Frag} {mg : Str → Option Value} {base : Heap}
def spEI (CE : Addr) : Sp := fun vs H Q _ => ∃ (a : Addr) (v : V), vs = [.ref a, v] ∧ H a = some (exo a CE none) ∧ ∀ dx, H dx = none → dx ≠ a → Q .non (upd (upd H dx (exd dx [("value", v)])) a (exo a CE (some dx)))
theorem scEI : FnScope ["self", "value"] ["self", "value"] (defScope sEI) := ⟨rfl, rfl, rfl, by decide +kernel, rfl, by decide +kernel, by decide +kernel⟩
theorem ok_ei (T : TxE K mg) : FnOk P w K mg base CX0 1 T.f T.fd ["self", "value"] (spEI T.C) := by
  refine T.F.ok scEI (fun vs H Q E h => ?_) (fun cdv A outer s H vs Q E hr h => ?_)
  · obtain ⟨a, v, rfl, _⟩ := h
    rfl
  · obtain ⟨a, v, rfl, ha, k⟩ := h
    refine ⟨_, pss_one (ps_ost (pv 0) (pv 1)), ?_⟩
    exact ⟨_, rfl, _, rfl, a, T.C, rfl, T.o, T.n, .inl ⟨ha, fun dx n ne => k dx n ne⟩⟩
/-- raise X(x), as its making is read -/
theorem mk_err {CE : Addr} {ta : TA} {σ : St} {H : Hp} {Q : XK} {x : V} (h : ta σ H fun vs H1 => vs = [x] ∧ H1 = H) (mono : ∀ {R R' : List V → Hp → Prop}, ta σ H R → (∀ v H1, R v H1 → R' v H1) → ta σ H R')
    (q : ∀ d, H d = none → Q (.ref CE) (some d) (upd H d (.xd [("value", x)]))) : tMkO CE (spEI CE) [] ta σ H Q := by
  refine mono h fun vs H1 hh => ?_
  obtain ⟨rfl, rfl⟩ := hh
  refine ⟨by show 1 ≤ 1000; decide, fun a na => ⟨a, x, rfl, upd_same, fun dx ndx nda => ⟨rfl, dx, [("value", x)], upd_same, ?_, ?_, ?_⟩⟩⟩
  · rw [upd_ne nda, upd_same]
  · rw [upd_ne nda] at ndx
    exact ndx
  · have e : upd (del (upd (upd (upd H1 a (exo a CE none)) dx (exd dx [("value", x)])) a (exo a CE (some dx))) a) dx (.xd [("value", x)]) = upd H1 dx (.xd [("value", x)]) := by
      funext b
      by_cases h1 : b = dx
      · rw [h1, upd_same, upd_same]
      · rw [upd_ne h1, upd_ne h1]
        by_cases h2 : b = a
        · rw [h2, del_same, na]
        · rw [del_ne h2, upd_ne h2, upd_ne h1, upd_ne h2]
    rw [e]
    rw [upd_ne nda] at ndx
    exact q dx ndx
end
end My

/-! the defs about texts of loops -/
namespace My
open PySem L2 Cm LM
abbrev sWO : Stmt := top 18
abbrev sOO : Stmt := top 20
abbrev sIW : Stmt := top 21
abbrev sAW : Stmt := top 22
abbrev sIR : Stmt := top 23
abbrev sIE : Stmt := top 24
/-- what the module's top has for these defs -/
structure TxL (K : PySem.W.Frag) (mg : Str → Option Value) where
  tuple : mg "tuple" = none
  len : mg "len" = none
  all : mg "all" = none
  bar : ∃ t, mg "BAR" = some (.str " | " t)
  mr : ∃ t, mg "MOST_ROUND" = some (.int 12 t)
  me : ∃ t, mg "MOST_ENDING" = some (.int 6 t)
  pT : Addr
  pR : Addr
  pE : Addr
  gT : mg "TESTS" = some (.ref pT)
  gR : mg "ROUND_STEPS" = some (.ref pR)
  gE : mg "ENDING_STEPS" = some (.ref pE)
  lT : ∀ H, SqT K H pT (svs tests)
  lR : ∀ H, SqT K H pR (svs rsteps)
  lE : ∀ H, SqT K H pE (svs esteps)
  wo : Df K mg "words_of" sWO ["text"]
  oo : Df K mg "order_of" sOO ["word"]
  iw : Df K mg "is_word" sIW ["word", "steps"]
  aw : Df K mg "are_words" sAW ["words", "steps"]
  ir : Df K mg "is_round" sIR ["words"]
  ie : Df K mg "is_ending" sIE ["words"]
section
variable {P : Program} {w : World} {K : PySem.W.Frag} {mg : Str → Option Value} {base : Heap}
/-! ### words_of -/
def spWO : Sp := fun vs H Q _ => ∃ t : Str, vs = [.str t] ∧ Bd t ∧ ∀ (H' : Hp) (p a b : Addr), Same H H' → H' p = some (.tup [.ref a, .ref b]) → H' a = some (.tup (svs (wordsR t))) → H' b = some (.tup (svs (wordsE t))) → Q (.ref p) H'
theorem scWO : FnScope ["text", "head", "bar", "tail"] ["text"] (defScope sWO) := ⟨rfl, rfl, rfl, by decide +kernel, rfl, by decide +kernel, by decide +kernel⟩
theorem ok_wo (T : TxL K mg) : FnOk P w K mg base CX0 1 T.wo.f T.wo.fd ["text"] spWO := by
  obtain ⟨tb, hb⟩ := T.bar
  refine T.wo.F.ok scWO (fun vs H Q E h => ?_) (fun cdv A outer s H vs Q E hr h => ?_)
  · obtain ⟨t, rfl, _⟩ := h
    rfl
  · obtain ⟨t, rfl, bd, k⟩ := h
    refine ⟨_, pss_cons (ps_asg (pe_partition (pv 0) (pe_glob (v := .str " | ") rfl hb ⟨_, rfl⟩)) (pg_tup rfl (pgs_cons (pg_name (i := 1) scWO.nd rfl (.inl rfl)) (pgs_cons (pg_name (i := 2) scWO.nd rfl (.inl rfl)) (pgs_cons (pg_name (i := 3) scWO.nd rfl (.inl rfl)) pgs_nil)))))
      (pss_one (ps_ret (pe_tup (pa_cons (pe_callTy call_tuple_of (by rfl) T.tuple (by decide +kernel) (pa_cons (pe_split (pv 1) pe_str) pa_nil))
        (pa_cons (pe_ifExp (pt_truth (pv 2) (by intro _; rfl)) (pe_callTy call_tuple_of (by rfl) T.tuple (by decide +kernel) (pa_cons (pe_split (pv 3) pe_str) pa_nil)) (pe_tup pa_nil)) pa_nil))))), ?_⟩
    have bp := Bd.part " | " bd
    refine ⟨_, rfl, ⟨_, rfl⟩, t, " | ", rfl, rfl, by decide +kernel, bd.line, fun q nq => ?_⟩
    refine ⟨q, _, rfl, SqT.of upd_same, rfl, _, _, rfl, _, _, rfl, _, _, rfl, rfl, ?_⟩
    have s1 : Same H (upd H q (.tup [.str (Txt.partition t " | ").1, .str (Txt.partition t " | ").2.1, .str (Txt.partition t " | ").2.2])) := same_new nq
    generalize upd H q (.tup [.str (Txt.partition t " | ").1, .str (Txt.partition t " | ").2.1, .str (Txt.partition t " | ").2.2]) = H1 at s1 ⊢
    refine ⟨_, rfl, ⟨_, rfl⟩, _, " ", rfl, rfl, by decide +kernel, bp.1.line2, fun l nl => ?_⟩
    refine ⟨l, _, rfl, .inl ⟨SqL.of upd_same, fun a na => ?_⟩⟩
    have s2 : Same H1 (upd (upd H1 l (.lst (svs (wordsR t)))) a (.tup (svs (wordsR t)))) := Same.trans (same_new nl) (same_new na)
    have ha : (upd (upd H1 l (.lst (svs (wordsR t)))) a (.tup (svs (wordsR t)))) a = some (.tup (svs (wordsR t))) := upd_same
    show tCons _ _ _ (upd (upd H1 l (.lst (svs (wordsR t)))) a (.tup (svs (wordsR t)))) _
    generalize upd (upd H1 l (.lst (svs (wordsR t)))) a (.tup (svs (wordsR t))) = H2 at s2 ha ⊢
    refine ⟨_, rfl, _, ⟨Nat.le_trans (part_len t " | ").2.1 (by decide +kernel), rfl⟩, ?_⟩
    rw [nz]
    cases hc : ((Txt.partition t " | ").2.1.length != 0) with
    | true =>
      have e : wordsE t = Txt.split (Txt.partition t " | ").2.2 " " := by unfold wordsE; rw [if_pos hc]
      refine iteT ?_
      refine ⟨_, rfl, ⟨_, rfl⟩, _, " ", rfl, rfl, by decide +kernel, bp.2.line2, fun l2 nl2 => ?_⟩
      rw [← e]
      refine ⟨l2, _, rfl, .inl ⟨SqL.of upd_same, fun b nb => ?_⟩⟩
      refine ⟨(by show 2 ≤ sizeLine; decide), fun p np => ?_⟩
      exact k _ p a b (Same.trans s1 (Same.trans s2 (Same.trans (same_new nl2) (Same.trans (same_new nb) (same_new np))))) upd_same (same_new np _ _ (same_new nb _ _ (same_new nl2 _ _ ha))) (same_new np _ _ upd_same)
    | false =>
      have e : wordsE t = [] := by unfold wordsE; rw [if_neg (by rw [hc]; exact Bool.false_ne_true)]
      refine iteF ?_
      refine ⟨Nat.zero_le _, fun b nb => ?_⟩
      refine ⟨(by show 2 ≤ sizeLine; decide), fun p np => ?_⟩
      refine k _ p a b (Same.trans s1 (Same.trans s2 (Same.trans (same_new nb) (same_new np)))) upd_same (same_new np _ _ (same_new nb _ _ ha)) ?_
      rw [e]
      exact same_new np _ _ upd_same
/-! ### order_of -/
def spOO : Sp := fun vs H Q _ => ∃ t : Str, vs = [.str t] ∧ Bd t ∧ ∀ (H' : Hp) (p : Addr), Same H H' → H p = none → H' p = some (.tup [.str (orderOf t).1, .str (orderOf t).2]) → Q (.ref p) H'
theorem scOO : FnScope ["word", "test", "colon", "step"] ["word"] (defScope sOO) := ⟨rfl, rfl, rfl, by decide +kernel, rfl, by decide +kernel, by decide +kernel⟩
theorem ok_oo (T : TxL K mg) : FnOk P w K mg base CX0 1 T.oo.f T.oo.fd ["word"] spOO := by
  refine T.oo.F.ok scOO (fun vs H Q E h => ?_) (fun cdv A outer s H vs Q E hr h => ?_)
  · obtain ⟨t, rfl, _⟩ := h
    rfl
  · obtain ⟨t, rfl, bd, k⟩ := h
    refine ⟨_, pss_cons (ps_asg (pe_partition (pv 0) pe_str) (pg_tup rfl (pgs_cons (pg_name (i := 1) scOO.nd rfl (.inl rfl)) (pgs_cons (pg_name (i := 2) scOO.nd rfl (.inl rfl)) (pgs_cons (pg_name (i := 3) scOO.nd rfl (.inl rfl)) pgs_nil)))))
      (pss_one (ps_ret (pe_ifExp (pt_truth (pv 2) (by intro _; rfl)) (pe_tup (pa_cons (pv 1) (pa_cons (pv 3) pa_nil))) (pe_tup (pa_cons pe_str (pa_cons (pv 0) pa_nil)))))), ?_⟩
    refine ⟨_, rfl, ⟨_, rfl⟩, t, ":", rfl, rfl, by decide +kernel, bd.line, fun q nq => ?_⟩
    refine ⟨q, _, rfl, SqT.of upd_same, rfl, _, _, rfl, _, _, rfl, _, _, rfl, rfl, ?_⟩
    have s1 : Same H (upd H q (.tup [.str (Txt.partition t ":").1, .str (Txt.partition t ":").2.1, .str (Txt.partition t ":").2.2])) := same_new nq
    generalize upd H q (.tup [.str (Txt.partition t ":").1, .str (Txt.partition t ":").2.1, .str (Txt.partition t ":").2.2]) = H1 at s1 ⊢
    refine ⟨_, rfl, _, ⟨Nat.le_trans (part_len t ":").2.1 (by decide +kernel), rfl⟩, ?_⟩
    rw [nz]
    unfold orderOf at k
    cases hc : ((Txt.partition t ":").2.1.length != 0) with
    | true =>
      rw [if_pos hc] at k
      refine iteT ?_
      refine ⟨_, rfl, _, rfl, (by show 2 ≤ sizeLine; decide), fun p np => ?_⟩
      exact k _ p (Same.trans s1 (same_new np)) (s1.free np) upd_same
    | false =>
      rw [if_neg (by rw [hc]; exact Bool.false_ne_true)] at k
      refine iteF ?_
      refine ⟨_, rfl, (by show 2 ≤ sizeLine; decide), fun p np => ?_⟩
      exact k _ p (Same.trans s1 (same_new np)) (s1.free np) upd_same
/-! ### is_word -/
def spIW (K : PySem.W.Frag) : Sp := fun vs H Q _ => ∃ (t : Str) (p : Addr) (ss : List Str), vs = [.str t, .ref p] ∧ Bd t ∧ SqT K H p (svs ss) ∧ ∀ H' : Hp, Same H H' → Q (.bl (isWord t ss)) H'
theorem scIW : FnScope ["word", "steps", "test", "colon", "step"] ["word", "steps"] (defScope sIW) := ⟨rfl, rfl, rfl, by decide +kernel, rfl, by decide +kernel, by decide +kernel⟩
theorem ok_iw (T : TxL K mg) : FnOk P w K mg base CX0 1 T.iw.f T.iw.fd ["word", "steps"] (spIW K) := by
  refine T.iw.F.ok scIW (fun vs H Q E h => ?_) (fun cdv A outer s H vs Q E hr h => ?_)
  · obtain ⟨t, p, ss, rfl, _⟩ := h
    rfl
  · obtain ⟨t, p, ss, rfl, bd, hp, k⟩ := h
    refine ⟨_, pss_cons (ps_asg (pe_partition (pv 0) pe_str) (pg_tup rfl (pgs_cons (pg_name (i := 2) scIW.nd rfl (.inl rfl)) (pgs_cons (pg_name (i := 3) scIW.nd rfl (.inl rfl)) (pgs_cons (pg_name (i := 4) scIW.nd rfl (.inl rfl)) pgs_nil)))))
      (pss_one (ps_ret (pe_ifExp (pt_truth (pv 3) (by intro _; rfl)) (pe_and (pe_cmpR op_in_seq (pv 2) (pe_glob (v := .ref T.pT) rfl T.gT rfl) (by rfl)) (pe_one (pe_cmpR op_in_seq (pv 4) (pv 1) (by rfl)))) (pe_cmpR op_in_seq (pv 0) (pv 1) (by rfl))))), ?_⟩
    refine ⟨_, rfl, ⟨_, rfl⟩, t, ":", rfl, rfl, by decide +kernel, bd.line, fun q nq => ?_⟩
    refine ⟨q, _, rfl, SqT.of upd_same, rfl, _, _, rfl, _, _, rfl, _, _, rfl, rfl, ?_⟩
    have s1 : Same H (upd H q (.tup [.str (Txt.partition t ":").1, .str (Txt.partition t ":").2.1, .str (Txt.partition t ":").2.2])) := same_new nq
    generalize upd H q (.tup [.str (Txt.partition t ":").1, .str (Txt.partition t ":").2.1, .str (Txt.partition t ":").2.2]) = H1 at s1 ⊢
    refine ⟨_, rfl, _, ⟨Nat.le_trans (part_len t ":").2.1 (by decide +kernel), rfl⟩, ?_⟩
    rw [nz]
    have k1 := k H1 s1
    unfold isWord at k1
    cases hc : ((Txt.partition t ":").2.1.length != 0) with
    | true =>
      rw [if_pos hc] at k1
      refine iteT ?_
      refine ⟨_, rfl, T.pT, _, rfl, .inr (T.lT _), rfl, svs_flat _, _, rfl, ?_⟩
      show if (inV _ (svs tests)) = true then _ else _
      rw [inV_svs]
      by_cases h1 : (Txt.partition t ":").1 ∈ tests
      · rw [decide_eq_true h1] at k1 ⊢
        refine iteT ⟨_, rfl, _, rfl, p, _, rfl, .inr (Cm.Same.set s1 hp), rfl, svs_flat _, ?_⟩
        show _
        rw [Bool.true_and] at k1
        have := inV_svs (Txt.partition t ":").2.2 ss
        rw [← this] at k1
        exact k1
      · rw [decide_eq_false h1] at k1 ⊢
        exact iteF k1
    | false =>
      rw [if_neg (by rw [hc]; exact Bool.false_ne_true)] at k1
      refine iteF ?_
      refine ⟨_, rfl, _, rfl, p, _, rfl, .inr (Cm.Same.set s1 hp), rfl, svs_flat _, ?_⟩
      rw [← inV_svs] at k1
      exact k1
end
end My

namespace My
open PySem L2 Cm LM
section
variable {P : Program} {w : World} {K : PySem.W.Frag} {mg : Str → Option Value} {base : Heap}
/-! ### are_words -/
def spAW (K : PySem.W.Frag) : Sp := fun vs H Q _ => ∃ (a p : Addr) (ws ss : List Str), vs = [.ref a, .ref p] ∧ BdW ws ∧ SqT K H a (svs ws) ∧ SqT K H p (svs ss) ∧ ∀ H' : Hp, Same H H' → Q (.bl (areWords ws ss)) H'
theorem scAW : FnScope ["words", "steps", "word"] ["words", "steps"] (defScope sAW) := ⟨rfl, rfl, rfl, by decide +kernel, rfl, by decide +kernel, by decide +kernel⟩
theorem ok_aw (T : TxL K mg) : FnOk P w K mg base CX0 2 T.aw.f T.aw.fd ["words", "steps"] (spAW K) := by
  have G1 : FnOk P w K mg base CX0 1 T.iw.f T.iw.fd ["word", "steps"] (spIW K) := ok_iw T
  refine T.aw.F.ok scAW (fun vs H Q E h => ?_) (fun cdv A outer s H vs Q E hr h => ?_)
  · obtain ⟨a, p, ws, ss, rfl, _⟩ := h
    rfl
  · obtain ⟨a, p, ws, ss, rfl, bd, ha, hp, k⟩ := h
    refine ⟨_, pss_one (ps_ret (pe_callB (cr_all rfl) (by rfl) T.all (by decide +kernel) (pa_cons (pe_lc (own := [("word", 2)]) (g := gName 2) (tt := tYes) (te := tCall (spIW K) [] E0 (tCons (tVar 2) (tCons (tVar 1) tNil))) rfl scAW.nd (pi_tup (pv 0))
      (blkOk_by (own := [("word", 2)]) (N := ["words", "steps", "word"]) (sc := defScope sAW) (by decide +kernel)) (fun _ _ _ _ _ => pg_name (i := 2) scAW.nd rfl (Or.inl rfl)) (fun _ _ _ _ _ => pts_nil)
      (fun _ _ _ _ _ => by exact pe_call G1 hr rfl T.iw.g T.iw.k T.iw.b .nil pass0 (pa_cons (pv 2) (pa_cons (pv 1) pa_nil)))) pa_nil))), ?_⟩
    refine ⟨_, rfl, a, rfl, ⟨_, ha⟩, fun D nD => lc_tup (K := K) (a := a) (xs := svs ws) (fun i H' => Same H H' ∧ H' D = some (.lst (((ws.take i).map fun z => isWord z ss).map V.bl))) ⟨same_new nD, upd_same⟩ (fun i H' _ ⟨s', _⟩ => Cm.Same.set s' ha) ?_ ?_⟩
    · rintro i x H' hx ⟨s', hD⟩
      obtain ⟨z, hz, rfl⟩ := svs_get hx
      refine ⟨rfl, _, rfl, _, rfl, z, p, ss, rfl, bd.1 z (List.mem_of_getElem? hz), Cm.Same.set s' hp, fun H2 s2 => ?_⟩
      refine ⟨_, s2 _ _ hD, szM ?_, fun b o q => ?_, ?_⟩
      · rw [List.length_map, List.length_map, List.length_take]
        have := bd.2
        omega
      · rw [upd_ne (ne_of_none q nD)]
        exact s2 _ _ (s' _ _ q)
      · rw [upd_same, take_snoc hz]
        simp
    · rintro H' ⟨s', hD⟩
      have e : (svs ws).length = ws.length := List.length_map ..
      rw [e, List.take_length] at hD
      refine ⟨D, ws.map fun z => isWord z ss, rfl, SqL.of hD, ?_⟩
      have k1 := k H' s'
      unfold areWords at k1
      rw [List.all_map]
      exact k1
/-! ### is_round -/
def spIR (K : PySem.W.Frag) : Sp := fun vs H Q _ => ∃ (a : Addr) (ws : List Str), vs = [.ref a] ∧ ws ≠ [] ∧ BdW ws ∧ SqT K H a (svs ws) ∧ ∀ H' : Hp, Same H H' → Q (.bl (isRound ws)) H'
theorem scIR : FnScope ["words", "adding", "word"] ["words"] (defScope sIR) := ⟨rfl, rfl, rfl, by decide +kernel, rfl, by decide +kernel, by decide +kernel⟩
def ttAdd (K : PySem.W.Frag) : TT := tTest (tOp rEq (tOp (rIxT K) (tCall spOO [] E0 (tCons (tVar 2) tNil)) (tC (.int 1))) (tC (.str "add")))
theorem ok_ir (T : TxL K mg) : FnOk P w K mg base CX0 3 T.ir.f T.ir.fd ["words"] (spIR K) := by
  have GO : FnOk P w K mg base CX0 1 T.oo.f T.oo.fd ["word"] spOO := ok_oo T
  have GA : FnOk P w K mg base CX0 2 T.aw.f T.aw.fd ["words", "steps"] (spAW K) := ok_aw T
  obtain ⟨tm, mr⟩ := T.mr
  refine T.ir.F.ok scIR (fun vs H Q E h => ?_) (fun cdv A outer s H vs Q E hr h => ?_)
  · obtain ⟨a, ws, rfl, _⟩ := h
    rfl
  · obtain ⟨a, ws, rfl, ne, bd, ha, k⟩ := h
    have hr1 : Room 1 _ := hr.mono (by decide)
    refine ⟨_, pss_cons (ps_if (PW.pt (pw_or (pt_cmpR op_ne (pe_ix ix_tup (pv 0) pe_int (fun _ _ => rfl)) pe_str (nomark _)) (pw_or1 (pt_cmpR op_gt (pe_callB call_len_seq (by rfl) T.len PySem.boot_len (pa_cons (pv 0) pa_nil)) (pe_glob (v := .int 12) rfl mr ⟨_, rfl⟩) (nomark _))))) (pss_one (ps_ret pe_bl)) pss_nil)
      (pss_cons (ps_setLc (i := 1) (own := [("word", 2)]) (g := gName 2) (tt := ttAdd K) (te := tVar 2) rfl scIR.nd rfl rfl (sw_true rfl rfl rfl (by decide +kernel)) (pi_tup (pv 0)) (blkOk_by (own := [("word", 2)]) (N := ["words", "adding", "word"]) (sc := defScope sIR) (by decide +kernel)) (fun _ _ _ _ _ => pg_name (i := 2) scIR.nd rfl (Or.inl rfl))
          (fun _ _ _ _ _ => by exact pts_one (pt_cmpR op_eq (pe_ix ix_tup (pe_call (E := E0) GO hr1 rfl T.oo.g T.oo.k T.oo.b .nil pass0 (pa_cons (pv 2) pa_nil)) pe_int (fun _ _ => rfl)) pe_str (nomark _))) (fun _ _ _ _ _ => pv 2))
      (pss_one (ps_ret (pe_and (pe_cmpR op_le (pe_callB call_len_seq (by rfl) T.len PySem.boot_len (pa_cons (pv 1) pa_nil)) pe_int (nomark _)) (pe_one (pe_call GA hr rfl T.aw.g T.aw.k T.aw.b .nil pass0 (pa_cons (pe_slice sl_tupA (pv 0) (po_some pe_int) po_none) (pa_cons (pe_glob (v := .ref T.pR) rfl T.gR rfl) pa_nil))))))))
      , ?_⟩
    obtain ⟨w0, r, rfl⟩ : ∃ w0 r, ws = w0 :: r := by
      cases ws with
      | nil => exact absurd rfl ne
      | cons w0 r => exact ⟨w0, r, rfl⟩
    refine ⟨_, rfl, a, _, 0, .str w0, rfl, rfl, ha, (show atI (svs (w0 :: r)) ((0 : Nat) : Int) = some (V.str w0) from atI_nat rfl), rfl, _, rfl, ?_⟩
    unfold isRound at k
    rw [dS]
    by_cases h0 : w0 = "ask"
    · subst h0
      rw [show decide ((("ask" : Str) :: r).head? = some "ask") = true from decide_eq_true rfl, Bool.true_and] at k
      rw [decide_eq_true rfl]
      refine iteF ?_
      refine ⟨_, rfl, a, _, rfl, .inr ha, _, _, rfl, rfl, _, rfl, ?_⟩
      have el : (svs ((("ask" : Str)) :: r)).length = ((("ask" : Str)) :: r).length := List.length_map ..
      rw [el]
      by_cases h12 : ((("ask" : Str)) :: r).length ≤ 12
      · rw [decide_eq_false (show ¬ ((12 : Int) < ((("ask" : Str) :: r).length : Int)) by omega)]
        rw [decide_eq_true h12, Bool.true_and] at k
        refine iteF ?_
        refine ⟨_, rfl, a, rfl, ⟨_, ha⟩, fun D nD => lc_tup (K := K) (a := a) (xs := svs (("ask" : Str) :: r)) (fun i H' => Same H H' ∧ H' D = some (.lst (svs (((("ask" : Str) :: r).take i).filter isAdd)))) ⟨same_new nD, upd_same⟩ (fun i H' _ ⟨s', _⟩ => Cm.Same.set s' ha) ?_ ?_⟩
        · rintro i x H' hx ⟨s', hD⟩
          obtain ⟨z, hz, rfl⟩ := svs_get hx
          refine ⟨rfl, _, rfl, z, rfl, bd.1 z (List.mem_of_getElem? hz), fun H2 p s2 np hp => ?_⟩
          refine ⟨p, _, 1, _, rfl, rfl, SqT.of hp, rfl, rfl, _, rfl, ?_⟩
          rw [dS]
          have ed : decide ((orderOf z).2 = "add") = isAdd z := rfl
          rw [ed]
          rw [take_snoc hz, List.filter_append]
          cases hc : isAdd z with
          | true =>
            refine iteT ?_
            refine ⟨_, rfl, _, s2 _ _ hD, szM ?_, fun b o q => ?_, ?_⟩
            · rw [show (svs (List.filter isAdd (List.take i (("ask" : Str) :: r)))).length = _ from List.length_map ..]
              have := List.length_filter_le isAdd (List.take i (("ask" : Str) :: r))
              rw [List.length_take] at this
              have := bd.2
              omega
            · rw [upd_ne (ne_of_none q nD)]
              exact s2 _ _ (s' _ _ q)
            · rw [upd_same]
              simp [svs, hc]
          | false =>
            refine iteF ?_
            refine ⟨Same.trans s' s2, ?_⟩
            rw [s2 _ _ hD]
            simp [hc]
        · rintro H' ⟨s', hD⟩
          rw [el, List.take_length] at hD
          refine ⟨_, rfl, D, _, rfl, .inl (SqL.of hD), _, _, rfl, rfl, _, rfl, ?_⟩
          have ef : (svs (List.filter isAdd (("ask" : Str) :: r))).length = (List.filter isAdd (("ask" : Str) :: r)).length := List.length_map ..
          rw [ef]
          by_cases h1 : (List.filter isAdd (("ask" : Str) :: r)).length ≤ 1
          · rw [decide_eq_true (show (((List.filter isAdd (("ask" : Str) :: r)).length : Int) ≤ 1) by omega)]
            rw [decide_eq_true h1, Bool.true_and] at k
            refine iteT ?_
            have cut : cutV (svs (("ask" : Str) :: r)) (some 1) none = svs r := by
              unfold cutV
              rw [HT.sIx_none, show (some (1 : Int)) = some ((1 : Nat) : Int) from rfl, HT.sIx_nat, el]
              simp [svs]
              exact List.take_of_length_le (by simp)
            refine ⟨_, rfl, 1, rfl, a, _, rfl, Cm.Same.set s' ha, fun z => ?_, fun _ p np => ?_⟩
            · exfalso
              have := z.1
              rw [show (some (1 : Int)) = some ((1 : Nat) : Int) from rfl, HT.sIx_nat, el] at this
              simp at this
            · rw [cut]
              refine ⟨p, T.pR, r, rsteps, rfl, ⟨fun z hz => bd.1 z (List.mem_cons_of_mem _ hz), ?_⟩, SqT.of upd_same, T.lR _, fun H2 s2 => ?_⟩
              · have := bd.2
                rw [List.length_cons] at this
                omega
              · exact k _ (Same.trans s' (Same.trans (same_new np) s2))
          · rw [decide_eq_false (show ¬ (((List.filter isAdd (("ask" : Str) :: r)).length : Int) ≤ 1) by omega)]
            rw [decide_eq_false h1, Bool.false_and] at k
            exact iteF (k H' s')
      · rw [decide_eq_true (show ((12 : Int) < ((("ask" : Str) :: r).length : Int)) by omega)]
        rw [decide_eq_false h12, Bool.false_and] at k
        exact iteT (k H (Same.refl _))
    · rw [decide_eq_false h0]
      rw [show decide ((w0 :: r).head? = some "ask") = false from decide_eq_false (fun z => h0 (Option.some.inj z)), Bool.false_and] at k
      exact iteT (iteT (k H (Same.refl _)))
/-! ### is_ending -/
def spIE (K : PySem.W.Frag) : Sp := fun vs H Q _ => ∃ (a : Addr) (ws : List Str), vs = [.ref a] ∧ BdW ws ∧ SqT K H a (svs ws) ∧ ∀ H' : Hp, Same H H' → Q (.bl (isEnding ws)) H'
theorem scIE : FnScope ["words"] ["words"] (defScope sIE) := ⟨rfl, rfl, rfl, by decide +kernel, rfl, by decide +kernel, by decide +kernel⟩
theorem ok_ie (T : TxL K mg) : FnOk P w K mg base CX0 3 T.ie.f T.ie.fd ["words"] (spIE K) := by
  have GA : FnOk P w K mg base CX0 2 T.aw.f T.aw.fd ["words", "steps"] (spAW K) := ok_aw T
  obtain ⟨tm, me⟩ := T.me
  refine T.ie.F.ok scIE (fun vs H Q E h => ?_) (fun cdv A outer s H vs Q E hr h => ?_)
  · obtain ⟨a, ws, rfl, _⟩ := h
    rfl
  · obtain ⟨a, ws, rfl, bd, ha, k⟩ := h
    refine ⟨_, pss_one (ps_ret (pe_and (pe_cmpR op_le (pe_callB call_len_seq (by rfl) T.len PySem.boot_len (pa_cons (pv 0) pa_nil)) (pe_glob (v := .int 6) rfl me ⟨_, rfl⟩) (nomark _)) (pe_one (pe_call GA hr rfl T.aw.g T.aw.k T.aw.b .nil pass0 (pa_cons (pv 0) (pa_cons (pe_glob (v := .ref T.pE) rfl T.gE rfl) pa_nil)))))), ?_⟩
    refine ⟨_, rfl, a, _, rfl, .inr ha, _, _, rfl, rfl, _, rfl, ?_⟩
    have el : (svs ws).length = ws.length := List.length_map ..
    rw [el]
    unfold isEnding at k
    by_cases h6 : ws.length ≤ 6
    · rw [decide_eq_true (show ((ws.length : Int) ≤ 6) by omega)]
      rw [decide_eq_true h6, Bool.true_and] at k
      exact iteT ⟨_, rfl, a, T.pE, ws, esteps, rfl, bd, ha, T.lE _, k⟩
    · rw [decide_eq_false (show ¬ ((ws.length : Int) ≤ 6) by omega)]
      rw [decide_eq_false h6, Bool.false_and] at k
      exact iteF (k H (Same.refl _))
end
end My

/-! the class Loop: its making -/
namespace My
open PySem L2 Cm LM
abbrev sLI : Stmt := inClass (top 26) 0
section
variable {P : Program} {w : World} {K : PySem.W.Frag} {mg : Str → Option Value} {base : Heap}
/-! ### loops as objects -/
def lf (t : Str) (pr pe po pq : Addr) : List (Str × V) := putF "ending_orders" (.ref pq) (putF "round_orders" (.ref po) (putF "ending" (.ref pe) (putF "round" (.ref pr) (putF "text" (.str t) []))))
theorem lf_text (t : Str) (pr pe po pq : Addr) : (lf t pr pe po pq).lookup ("text" : Str) = some (.str t) := by
  unfold lf
  rw [lookup_putF, if_neg (by decide +kernel), lookup_putF, if_neg (by decide +kernel), lookup_putF, if_neg (by decide +kernel), lookup_putF, if_neg (by decide +kernel), lookup_putF, if_pos rfl]
theorem lf_round (t : Str) (pr pe po pq : Addr) : (lf t pr pe po pq).lookup ("round" : Str) = some (.ref pr) := by
  unfold lf
  rw [lookup_putF, if_neg (by decide +kernel), lookup_putF, if_neg (by decide +kernel), lookup_putF, if_neg (by decide +kernel), lookup_putF, if_pos rfl]
theorem lf_ending (t : Str) (pr pe po pq : Addr) : (lf t pr pe po pq).lookup ("ending" : Str) = some (.ref pe) := by
  unfold lf
  rw [lookup_putF, if_neg (by decide +kernel), lookup_putF, if_neg (by decide +kernel), lookup_putF, if_pos rfl]
theorem lf_ro (t : Str) (pr pe po pq : Addr) : (lf t pr pe po pq).lookup ("round_orders" : Str) = some (.ref po) := by
  unfold lf
  rw [lookup_putF, if_neg (by decide +kernel), lookup_putF, if_pos rfl]
theorem lf_eo (t : Str) (pr pe po pq : Addr) : (lf t pr pe po pq).lookup ("ending_orders" : Str) = some (.ref pq) := by
  unfold lf
  rw [lookup_putF, if_pos rfl]
theorem lf_no (t : Str) (pr pe po pq : Addr) {m : Str} (h1 : ¬ m = "ending_orders") (h2 : ¬ m = "round_orders") (h3 : ¬ m = "ending") (h4 : ¬ m = "round") (h5 : ¬ m = "text") : (lf t pr pe po pq).lookup m = none := by
  unfold lf
  rw [lookup_putF, if_neg h1, lookup_putF, if_neg h2, lookup_putF, if_neg h3, lookup_putF, if_neg h4, lookup_putF, if_neg h5]
  rfl
/-- rows of pairs of texts -/
inductive Prs (H : Hp) : List V → List (Str × Str) → Prop
  | nil : Prs H [] []
  | cons {p : Addr} {o : Str × Str} {xs : List V} {os : List (Str × Str)} (h : H p = some (.tup [.str o.1, .str o.2])) (t : Prs H xs os) : Prs H (.ref p :: xs) (o :: os)
theorem Prs.mono {H H' : Hp} (f : ∀ (p : Addr) (xs : List V), H p = some (.tup xs) → H' p = some (.tup xs)) : ∀ {xs os}, Prs H xs os → Prs H' xs os
  | _, _, .nil => .nil
  | _, _, .cons h t => .cons (f _ _ h) (t.mono f)
theorem Prs.same {H H' : Hp} (s : Same H H') {xs os} (h : Prs H xs os) : Prs H' xs os := h.mono fun _ _ q => s _ _ q
theorem Prs.snoc {H : Hp} {p : Addr} {o : Str × Str} (h : H p = some (.tup [.str o.1, .str o.2])) : ∀ {xs os}, Prs H xs os → Prs H (xs ++ [.ref p]) (os ++ [o])
  | _, _, .nil => .cons h .nil
  | _, _, .cons a t => .cons a (t.snoc h)
theorem Prs.len {H : Hp} : ∀ {xs os}, Prs H xs os → xs.length = os.length
  | _, _, .nil => rfl
  | _, _, .cons _ t => congrArg (· + 1) t.len
def Ords (H : Hp) (p : Addr) (ws : List Str) : Prop := ∃ xs, H p = some (.tup xs) ∧ Prs H xs (ws.map orderOf)
/-- a loop of this text stands at o -/
def LoopAt (C : Addr) (H : Hp) (o : Addr) (t : Str) : Prop := ∃ dx pr pe po pq, H o = some (.ins C dx (lf t pr pe po pq)) ∧ H pr = some (.tup (svs (wordsR t))) ∧ H pe = some (.tup (svs (wordsE t))) ∧ Ords H po (wordsR t) ∧ Ords H pq (wordsE t)
theorem Ords.mono {H H' : Hp} (f : ∀ (p : Addr) (xs : List V), H p = some (.tup xs) → H' p = some (.tup xs)) {p : Addr} {ws : List Str} (h : Ords H p ws) : Ords H' p ws := let ⟨xs, e, q⟩ := h; ⟨xs, f _ _ e, q.mono f⟩
theorem LoopAt.same {C : Addr} {H H' : Hp} {o : Addr} {t : Str} (s : Same H H') (h : LoopAt C H o t) : LoopAt C H' o t := let ⟨dx, pr, pe, po, pq, a, b, c, d, e⟩ := h; ⟨dx, pr, pe, po, pq, s _ _ a, s _ _ b, s _ _ c, d.mono fun _ _ z => s _ _ z, e.mono fun _ _ z => s _ _ z⟩
theorem LoopAt.off {C j : Addr} {H H' : Hp} {o : Addr} {t : Str} (s : Off j H H') (hj : Jar H j) (h : LoopAt C H o t) : LoopAt C H' o t := by
  obtain ⟨x, y, z, hj⟩ := hj
  have f : ∀ (p : Addr) (xs : List V), H p = some (.tup xs) → H' p = some (.tup xs) := fun p xs e => s _ _ (ne_of e hj (by intro z; cases z)) e
  obtain ⟨dx, pr, pe, po, pq, a, b, c, d, e⟩ := h
  exact ⟨dx, pr, pe, po, pq, s _ _ (ne_of a hj (by intro z; cases z)) a, f _ _ b, f _ _ c, d.mono f, e.mono f⟩
/-! ### the text of the class -/
structure TxC (K : PySem.W.Frag) (mg : Str → Option Value) where
  L : TxL K mg
  E : TxE K mg
  isi : mg "isinstance" = none
  str : mg "str" = none
  C : Addr
  gC : mg "Loop" = some (.ref C)
  cl : Cls K C
  nT : NoAttr K C "text"
  nR : NoAttr K C "round"
  nE : NoAttr K C "ending"
  nO : NoAttr K C "round_orders"
  nQ : NoAttr K C "ending_orders"
  fI : Addr
  fdI : FuncData
  FI : Fun K "__init__" "Loop.__init__" sLI fI fdI
  bI : Binds K fdI ["self", "text"] []
  MI : Mk K C fI
/-- v makes a loop -/
def good : V → Bool
  | .str t => goodText t
  | _ => false
def BdV : V → Prop
  | .str t => Bd t
  | _ => True
def spLI (K : PySem.W.Frag) (C CE : Addr) : Sp := fun vs H Q E => ∃ (x dx : Addr) (v : V), vs = [.ref x, v] ∧ H x = some (.ins C dx []) ∧ Typed K H v ∧ BdV v ∧
  (∀ t, v = .str t → goodText t = true → ∀ H' : Hp, Off x H H' → LoopAt C H' x t → Q .non H') ∧
  (good v = false → ∀ (H' : Hp) (d : Addr), Same H H' → H' d = none → E (.ref CE) (some d) (upd H' d (.xd [("value", v)])))
theorem scLI : FnScope ["self", "text", "first_words", "last_words", "word"] ["self", "text"] (defScope sLI) := ⟨rfl, rfl, rfl, by decide +kernel, rfl, by decide +kernel, by decide +kernel⟩
/-- [order_of(word) for word in words] -/
theorem ords_lc {K : PySem.W.Frag} {σ : St} {H1 : Hp} {D a : Addr} {ws : List Str} {Qd : Hp → Prop} (h4 : ∀ v, ((wipe σ [4]).set 4 (some v))[4]? = some (some v) ∧ wipe ((wipe σ [4]).set 4 (some v)) [4] = wipe σ [4])
    (ha : H1 a = some (.tup (svs ws))) (bd : BdW ws) (nD : H1 D = none) (hd : ∀ (H' : Hp) (xs : List V), Same H1 H' → H' D = some (.lst xs) → Prs H' xs (ws.map orderOf) → Qd H') :
    ∃ W : Nat → Nat → Hp → Prop, (∃ m, W 0 m (upd H1 D (.lst []))) ∧ ∀ (i m : Nat) (H : Hp), W i m H →
      ((Itt K a).stop i H ∧ Qd H) ∨ ((Itt K a).go i H ∧ ∃ Nx : Hp → Prop, (∀ H', Nx H' → ∃ m', m' < m ∧ W (i + 1) m' H') ∧ ∀ (x : V) (H' : Hp), (Itt K a).yld i H x H' → gName 4 x (wipe σ [4]) H' fun σ2 H2 => wipe σ2 [4] = wipe σ [4] ∧ tYes σ2 H2 fun b H3 =>
        if b = true then tCall spOO [] E0 (tCons (tVar 4) tNil) σ2 H3 fun y H4 => ∃ acc, H4 D = some (.lst acc) ∧ acc.length < sizeLine ∧ Nx (upd H4 D (.lst (acc ++ [y]))) else Nx H3) := by
  refine lc_tup (K := K) (a := a) (xs := svs ws) (fun i H' => Same H1 H' ∧ ∃ acc, H' D = some (.lst acc) ∧ Prs H' acc ((ws.take i).map orderOf)) ⟨same_new nD, [], upd_same, .nil⟩ (fun i H' _ ⟨s, _⟩ => SqT.of (s _ _ ha)) ?_ ?_
  · rintro i x H' hx ⟨s, acc, hD, hP⟩
    obtain ⟨z, hz, rfl⟩ := svs_get hx
    obtain ⟨z4, zw⟩ := h4 (.str z)
    refine ⟨zw, _, z4, z, rfl, bd.1 z (List.mem_of_getElem? hz), fun H2 p s2 np hp => ?_⟩
    have hD2 := s2 _ _ hD
    have st := tup_stays (o' := .lst (acc ++ [.ref p])) hD2 (by intro xs z; cases z)
    have la := hP.len
    rw [List.length_map, List.length_take] at la
    have := bd.2
    refine ⟨acc, hD2, szM (by omega), fun b o q => ?_, _, upd_same, ?_⟩
    · rw [upd_ne (ne_of_none q nD)]
      exact s2 _ _ (s _ _ q)
    · rw [take_snoc hz, List.map_append]
      exact Prs.snoc (st _ _ hp) ((hP.same s2).mono st)
  · rintro H' ⟨s, acc, hD, hP⟩
    have e : (svs ws).length = ws.length := List.length_map ..
    rw [e, List.take_length] at hP
    exact hd H' acc s hD hP
theorem ok_li (T : TxC K mg) : FnOk P w K mg base (L2.CX P w) 4 T.fI T.fdI ["self", "text"] (spLI K T.C T.E.C) := by
  have GW : FnOk P w K mg base CX0 1 T.L.wo.f T.L.wo.fd ["text"] spWO := ok_wo T.L
  have GO : FnOk P w K mg base CX0 1 T.L.oo.f T.L.oo.fd ["word"] spOO := ok_oo T.L
  have GR : FnOk P w K mg base CX0 3 T.L.ir.f T.L.ir.fd ["words"] (spIR K) := ok_ir T.L
  have GN : FnOk P w K mg base CX0 3 T.L.ie.f T.L.ie.fd ["words"] (spIE K) := ok_ie T.L
  have GE : FnOk P w K mg base CX0 1 T.E.f T.E.fd ["self", "value"] (spEI T.E.C) := ok_ei T.E
  refine T.FI.okX scLI (fun vs H Q E h => ?_) (fun cdv A outer s H vs Q E hr h => ?_)
  · obtain ⟨x, dx, v, rfl, _⟩ := h
    rfl
  · obtain ⟨x, dx, v, rfl, hx, ⟨t, ty, kt⟩, bd, kg, kb⟩ := h
    have hr1 : Room 1 _ := hr.mono (by decide)
    have hr2 : Room 2 _ := hr.mono (by decide)
    have ps : Bool := true
    refine ⟨_, pss_cons (ps_if (pt_not (pt_val (pe_callB call_isi (by rfl) T.isi (by decide +kernel) (pa_cons (pv 1) (pa_cons (pe_bltn (v := .ty "str") (by rfl) T.str (by decide +kernel) rfl) pa_nil))))) (pss_one (ps_raise rfl (takes_of rfl rfl rfl rfl) (pmk_oex T.E.o T.E.i T.E.t GE hr2 T.E.b .nil pass0 rfl T.E.g (pa_cons (pv 1) pa_nil)))) pss_nil)
      (pss_cons (ps_asg (pe_call GW hr1 rfl T.L.wo.g T.L.wo.k T.L.wo.b .nil pass0 (pa_cons (pv 1) pa_nil)) (pg_tup rfl (pgs_cons (pg_name (i := 2) scLI.nd rfl (.inl rfl)) (pgs_cons (pg_name (i := 3) scLI.nd rfl (.inl rfl)) pgs_nil))))
      (pss_cons (ps_if (PW.pt (pw_or (pt_not (pt_val (pe_call GR hr rfl T.L.ir.g T.L.ir.k T.L.ir.b .nil pass0 (pa_cons (pv 2) pa_nil)))) (pw_or1 (pt_not (pt_val (pe_call GN hr rfl T.L.ie.g T.L.ie.k T.L.ie.b .nil pass0 (pa_cons (pv 3) pa_nil)))))))
          (pss_one (ps_raise rfl (takes_of rfl rfl rfl rfl) (pmk_oex T.E.o T.E.i T.E.t GE hr2 T.E.b .nil pass0 rfl T.E.g (pa_cons (pv 1) pa_nil)))) pss_nil)
      (pss_cons (ps_fld (pv 0) (pv 1) rfl) (pss_cons (ps_fld (pv 0) (pv 2) rfl) (pss_cons (ps_fld (pv 0) (pv 3) rfl)
      (pss_cons (ps_fld (pv 0) (pe_callTy call_tuple_of (by rfl) T.L.tuple (by decide +kernel) (pa_cons (pe_lc (own := [("word", 4)]) (g := gName 4) (tt := tYes) (te := tCall spOO [] E0 (tCons (tVar 4) tNil)) rfl scLI.nd (pi_tup (pv 2)) (blkOk_by (own := [("word", 4)]) (N := ["self", "text", "first_words", "last_words", "word"]) (sc := defScope sLI) (by decide +kernel))
          (fun _ _ _ _ _ => pg_name (i := 4) scLI.nd rfl (Or.inl rfl)) (fun _ _ _ _ _ => pts_nil) (fun _ _ _ _ _ => by exact pe_call GO hr1 rfl T.L.oo.g T.L.oo.k T.L.oo.b .nil pass0 (pa_cons (pv 4) pa_nil))) pa_nil)) rfl)
      (pss_one (ps_fld (pv 0) (pe_callTy call_tuple_of (by rfl) T.L.tuple (by decide +kernel) (pa_cons (pe_lc (own := [("word", 4)]) (g := gName 4) (tt := tYes) (te := tCall spOO [] E0 (tCons (tVar 4) tNil)) rfl scLI.nd (pi_tup (pv 3)) (blkOk_by (own := [("word", 4)]) (N := ["self", "text", "first_words", "last_words", "word"]) (sc := defScope sLI) (by decide +kernel))
          (fun _ _ _ _ _ => pg_name (i := 4) scLI.nd rfl (Or.inl rfl)) (fun _ _ _ _ _ => pts_nil) (fun _ _ _ _ _ => by exact pe_call GO hr1 rfl T.L.oo.g T.L.oo.k T.L.oo.b .nil pass0 (pa_cons (pv 4) pa_nil))) pa_nil)) rfl)))))))), ?_⟩
    refine ⟨_, rfl, _, _, _, _, isS v, rfl, .ty "str", ty, kt, _, rfl, ?_⟩
    cases hs : isS v with
    | false =>
      refine iteT ?_
      have gv : good v = false := by
        cases v <;> first | rfl | cases hs
      exact mk_err (x := v) ⟨v, rfl, rfl, rfl⟩ (fun {R R'} ⟨v, e1, q⟩ f => ⟨v, e1, f _ _ q⟩) (kb gv H · (Same.refl _))
    | true =>
      obtain ⟨t, rfl⟩ : ∃ t, v = .str t := by
        cases v <;> first | exact ⟨_, rfl⟩ | cases hs
      have bd : Bd t := bd
      have kg := kg t rfl
      refine iteF ?_
      refine ⟨_, rfl, t, rfl, bd, fun H1 p a b s1 hp ha hb => ?_⟩
      refine ⟨p, _, rfl, SqT.of hp, rfl, _, _, rfl, _, _, rfl, rfl, ?_⟩
      have bR : BdW (wordsR t) := ⟨fun z hz => Nat.le_trans (wordsR_word hz) bd, Nat.le_trans (wordsR_len t) (by unfold Bd at bd; omega)⟩
      have bE : BdW (wordsE t) := ⟨fun z hz => Nat.le_trans (wordsE_word hz) bd, Nat.le_trans (wordsE_len t) (by unfold Bd at bd; omega)⟩
      refine ⟨_, rfl, a, wordsR t, rfl, wordsR_ne t, bR, SqT.of ha, fun H2 s2 => ?_⟩
      have gt : goodText t = (isRound (wordsR t) && isEnding (wordsE t)) := rfl
      have gv : good (.str t) = goodText t := rfl
      rw [gv] at kb
      refine ⟨_, rfl, ?_⟩
      cases h1 : isRound (wordsR t) with
      | false =>
        rw [gt, h1] at kb
        refine iteT (iteT ?_)
        exact mk_err (x := .str t) ⟨.str t, rfl, rfl, rfl⟩ (fun {R R'} ⟨v, e1, q⟩ f => ⟨v, e1, f _ _ q⟩) (kb rfl H2 · (Same.trans s1 s2))
      | true =>
        refine iteF ?_
        refine ⟨_, rfl, b, wordsE t, rfl, bE, SqT.of (s2 _ _ hb), fun H3 s3 => ?_⟩
        refine ⟨_, rfl, ?_⟩
        have s13 := Same.trans s1 (Same.trans s2 s3)
        cases h2 : isEnding (wordsE t) with
        | false =>
          rw [gt, h1, h2] at kb
          refine iteT ?_
          exact mk_err (x := .str t) ⟨.str t, rfl, rfl, rfl⟩ (fun {R R'} ⟨v, e1, q⟩ f => ⟨v, e1, f _ _ q⟩) (kb rfl H3 · s13)
        | true =>
          have kg := kg (by rw [gt, h1, h2]; rfl)
          refine iteF ?_
          have hx3 := s13 _ _ hx
          have ha3 := s3 _ _ (s2 _ _ ha)
          have hb3 := s3 _ _ (s2 _ _ hb)
          have o3 : Off x H H3 := Same.off s13
          clear s1 s2 s3 hp ha hb hx kb s13
          -- text
          refine ⟨_, rfl, _, rfl, x, T.C, dx, _, rfl, hx3, T.cl, T.nT, (by show 0 < 1000; decide), ?_⟩
          have st := tup_stays (o' := .ins T.C dx (putF "text" (.str t) [])) hx3 (by intro xs z; cases z)
          have hx4 : (upd H3 x (.ins T.C dx (putF "text" (.str t) []))) x = some (.ins T.C dx (putF "text" (.str t) [])) := upd_same
          have ha4 := st _ _ ha3
          have hb4 := st _ _ hb3
          have o4 : Off x H (upd H3 x (.ins T.C dx (putF "text" (.str t) []))) := o3.put
          generalize upd H3 x (.ins T.C dx (putF "text" (.str t) [])) = H4 at hx4 ha4 hb4 o4 ⊢
          clear st ha3 hb3 o3 hx3
          -- round
          refine ⟨_, rfl, _, rfl, x, T.C, dx, _, rfl, hx4, T.cl, T.nR, (by show 1 < 1000; decide), ?_⟩
          have st := tup_stays (o' := .ins T.C dx (putF "round" (.ref a) (putF "text" (.str t) []))) hx4 (by intro xs z; cases z)
          have hx5 : (upd H4 x (.ins T.C dx (putF "round" (.ref a) (putF "text" (.str t) [])))) x = some (.ins T.C dx (putF "round" (.ref a) (putF "text" (.str t) []))) := upd_same
          have ha5 := st _ _ ha4
          have hb5 := st _ _ hb4
          have o5 : Off x H (upd H4 x (.ins T.C dx (putF "round" (.ref a) (putF "text" (.str t) [])))) := o4.put
          generalize upd H4 x (.ins T.C dx (putF "round" (.ref a) (putF "text" (.str t) []))) = H5 at hx5 ha5 hb5 o5 ⊢
          clear st ha4 hb4 o4 hx4
          -- ending
          refine ⟨_, rfl, _, rfl, x, T.C, dx, _, rfl, hx5, T.cl, T.nE, Nat.lt_of_le_of_lt (putF_len _ _ _) (Nat.lt_of_le_of_lt (Nat.add_le_add_right (putF_len _ _ _) 1) (by decide)), ?_⟩
          have st := tup_stays (o' := .ins T.C dx (putF "ending" (.ref b) (putF "round" (.ref a) (putF "text" (.str t) [])))) hx5 (by intro xs z; cases z)
          have hx6 : (upd H5 x (.ins T.C dx (putF "ending" (.ref b) (putF "round" (.ref a) (putF "text" (.str t) []))))) x = some (.ins T.C dx (putF "ending" (.ref b) (putF "round" (.ref a) (putF "text" (.str t) [])))) := upd_same
          have ha6 := st _ _ ha5
          have hb6 := st _ _ hb5
          have o6 : Off x H (upd H5 x (.ins T.C dx (putF "ending" (.ref b) (putF "round" (.ref a) (putF "text" (.str t) []))))) := o5.put
          generalize upd H5 x (.ins T.C dx (putF "ending" (.ref b) (putF "round" (.ref a) (putF "text" (.str t) [])))) = H6 at hx6 ha6 hb6 o6 ⊢
          clear st ha5 hb5 o5 hx5
          -- round_orders
          refine ⟨_, rfl, a, rfl, ⟨_, SqT.of ha6⟩, fun D nD => ords_lc (K := K) (a := a) (ws := wordsR t) (fun v => ⟨rfl, rfl⟩) ha6 bR nD fun H7 os s7 hD hP => ?_⟩
          refine ⟨D, os, rfl, .inl ⟨SqL.of hD, fun po npo => ?_⟩⟩
          have s8 : Same H6 (upd H7 po (.tup os)) := Same.trans s7 (same_new npo)
          have hpo : (upd H7 po (.tup os)) po = some (.tup os) := upd_same
          have hP8 := hP.same (same_new (o := .tup os) npo)
          refine ⟨_, rfl, x, T.C, dx, _, rfl, s8 _ _ hx6, T.cl, T.nO, Nat.lt_of_le_of_lt (putF_len _ _ _) (Nat.lt_of_le_of_lt (Nat.add_le_add_right (putF_len _ _ _) 1) (Nat.lt_of_le_of_lt (Nat.add_le_add_right (Nat.add_le_add_right (putF_len _ _ _) 1) 1) (by decide))), ?_⟩
          generalize upd H7 po (.tup os) = H8 at s8 hpo hP8 ⊢
          have hx8 := s8 _ _ hx6
          have o8 : Off x H H8 := o6.trans (Same.off s8)
          have ha8 := s8 _ _ ha6
          have hb8 := s8 _ _ hb6
          clear ha6 hb6 o6 hx6 s8 hD hP npo s7 nD
          have st := tup_stays (o' := .ins T.C dx (putF "round_orders" (.ref po) (putF "ending" (.ref b) (putF "round" (.ref a) (putF "text" (.str t) []))))) hx8 (by intro xs z; cases z)
          have hx9 : (upd H8 x (.ins T.C dx (putF "round_orders" (.ref po) (putF "ending" (.ref b) (putF "round" (.ref a) (putF "text" (.str t) [])))))) x = some (.ins T.C dx (putF "round_orders" (.ref po) (putF "ending" (.ref b) (putF "round" (.ref a) (putF "text" (.str t) []))))) := upd_same
          have ha9 := st _ _ ha8
          have hb9 := st _ _ hb8
          have hpo9 : Ords _ po (wordsR t) := ⟨os, st _ _ hpo, hP8.mono st⟩
          have o9 : Off x H (upd H8 x (.ins T.C dx (putF "round_orders" (.ref po) (putF "ending" (.ref b) (putF "round" (.ref a) (putF "text" (.str t) [])))))) := o8.put
          generalize upd H8 x (.ins T.C dx (putF "round_orders" (.ref po) (putF "ending" (.ref b) (putF "round" (.ref a) (putF "text" (.str t) []))))) = H9 at hx9 ha9 hb9 o9 hpo9 ⊢
          clear st ha8 hb8 o8 hx8 hpo hP8
          -- ending_orders
          refine ⟨_, rfl, b, rfl, ⟨_, SqT.of hb9⟩, fun D nD => ords_lc (K := K) (a := b) (ws := wordsE t) (fun v => ⟨rfl, rfl⟩) hb9 bE nD fun H10 os2 s10 hD hP => ?_⟩
          refine ⟨D, os2, rfl, .inl ⟨SqL.of hD, fun pq npq => ?_⟩⟩
          have s11 : Same H9 (upd H10 pq (.tup os2)) := Same.trans s10 (same_new npq)
          have hpq : (upd H10 pq (.tup os2)) pq = some (.tup os2) := upd_same
          have hP11 := hP.same (same_new (o := .tup os2) npq)
          refine ⟨_, rfl, x, T.C, dx, _, rfl, s11 _ _ hx9, T.cl, T.nQ, Nat.lt_of_le_of_lt (putF_len _ _ _) (Nat.lt_of_le_of_lt (Nat.add_le_add_right (putF_len _ _ _) 1) (Nat.lt_of_le_of_lt (Nat.add_le_add_right (Nat.add_le_add_right (putF_len _ _ _) 1) 1) (Nat.lt_of_le_of_lt (Nat.add_le_add_right (Nat.add_le_add_right (Nat.add_le_add_right (putF_len _ _ _) 1) 1) 1) (by decide)))), ?_⟩
          generalize upd H10 pq (.tup os2) = H11 at s11 hpq hP11 ⊢
          have hx11 := s11 _ _ hx9
          have st := tup_stays (o' := .ins T.C dx (lf t a b po pq)) hx11 (by intro xs z; cases z)
          refine kg _ (Off.put (o9.trans (Same.off s11))) ⟨dx, a, b, po, pq, upd_same, st _ _ (s11 _ _ ha9), st _ _ (s11 _ _ hb9), (hpo9.mono fun _ _ z => s11 _ _ z).mono st, os2, st _ _ hpq, hP11.mono st⟩
end
end My

/-! what a loop does with a reply -/
namespace EM
open PySem L2
def ivs (xs : List Int) : List V := xs.map V.int
theorem ivs_len (xs : List Int) : (ivs xs).length = xs.length := List.length_map ..
/-- what the words of a round change -/
structure RP where
  rest : List Int
  pieces : List (List Int)
def passM (size : Nat) (held : List Int) (told : Bool) (t : Str) (rest : List Int) : Bool :=
  if t = "" then true
  else if t = "told" ∨ t = "open" then told == decide (t = "told")
  else if t = "rest" ∨ t = "bare" then decide (0 < rest.length) == decide (t = "rest")
  else if t = "empty" ∨ t = "some" then decide (0 < held.length) == decide (t = "some")
  else decide (held.length < size) == decide (t = "short")
def cutN (size : Nat) (rest : List Int) (n : Nat) : List (List Int) := (List.range n).map fun k => (rest.drop (k * size)).take size
def perfM (size : Nat) (held : List Int) (s : Str) (x : RP) : RP :=
  if s = "add" then ⟨x.rest ++ held, x.pieces⟩
  else if s = "hand" then ⟨x.rest, x.pieces ++ [held]⟩
  else if s = "cut" then ⟨x.rest.drop (x.rest.length / size * size), x.pieces ++ cutN size x.rest (x.rest.length / size)⟩
  else if s = "flush" then ⟨[], x.pieces ++ [x.rest]⟩
  else x
def runW (size : Nat) (held : List Int) (told : Bool) : List (Str × Str) → RP → RP × Bool
  | [], x => (x, false)
  | (t, s) :: r, x => if passM size held told t x.rest = true then (if s = "again" then (x, false) else if s = "stop" then (x, true) else runW size held told r (perfM size held s x)) else runW size held told r x
def endW (size : Nat) (held : List Int) (told : Bool) : List (Str × Str) → RP → RP
  | [], x => x
  | (t, s) :: r, x => endW size held told r (if passM size held told t x.rest = true then perfM size held s x else x)
def ansM (size : Nat) (ro eo : List (Str × Str)) (held : List Int) (told : Bool) (x : RP) : RP × Bool :=
  if (runW size held told ro x).2 = true then (endW size held told eo (runW size held told ro x).1, true) else ((runW size held told ro x).1, false)
/-! ### bounds -/
/-- the rest has at most k sizes of items, and there are at most c pieces -/
def Few (size k c : Nat) (x : RP) : Prop := x.rest.length ≤ k * size ∧ x.pieces.length ≤ c
theorem Few.mono {size k c k' c' : Nat} {x : RP} (h : Few size k c x) (hk : k ≤ k') (hc : c ≤ c') : Few size k' c' x := ⟨Nat.le_trans h.1 (Nat.mul_le_mul_right _ hk), Nat.le_trans h.2 hc⟩
theorem few_perf {size k c : Nat} {held : List Int} {s : Str} {x : RP} (hs : 1 ≤ size) (hh : held.length ≤ size) (h : Few size k c x) : Few size (k + 1) (c + (k + 1)) (perfM size held s x) := by
  have e : (k + 1) * size = k * size + size := Nat.succ_mul k size
  have q : x.rest.length / size ≤ k := by
    have := Nat.div_le_div_right (c := size) h.1
    rwa [Nat.mul_div_cancel _ (by omega)] at this
  obtain ⟨h1, h2⟩ := h
  unfold perfM Few
  split
  · refine ⟨?_, by show x.pieces.length ≤ _; omega⟩
    show (x.rest ++ held).length ≤ _
    rw [List.length_append]
    omega
  · split
    · refine ⟨by show x.rest.length ≤ _; omega, ?_⟩
      show (x.pieces ++ [held]).length ≤ _
      rw [List.length_append]
      show x.pieces.length + 1 ≤ _
      omega
    · split
      · refine ⟨?_, ?_⟩
        · show (x.rest.drop _).length ≤ _
          rw [List.length_drop]
          omega
        · show (x.pieces ++ cutN size x.rest (x.rest.length / size)).length ≤ _
          rw [List.length_append, cutN, List.length_map, List.length_range]
          omega
      · split
        · refine ⟨Nat.zero_le _, ?_⟩
          show (x.pieces ++ [x.rest]).length ≤ _
          rw [List.length_append]
          show x.pieces.length + 1 ≤ _
          omega
        · exact ⟨by omega, by omega⟩
theorem few_run {size : Nat} {held : List Int} {told : Bool} (hs : 1 ≤ size) (hh : held.length ≤ size) : ∀ (ro : List (Str × Str)) (k c : Nat) (x : RP), Few size k c x → Few size (k + ro.length) (c + ro.length * (k + ro.length)) (runW size held told ro x).1
  | [], k, c, x, h => by simpa [runW] using h
  | (t, s) :: r, k, c, x, h => by
    have m : Few size (k + (r.length + 1)) (c + (r.length + 1) * (k + (r.length + 1))) x := h.mono (by omega) (by omega)
    unfold runW
    rw [List.length_cons]
    split
    · split
      · exact m
      · split
        · exact m
        · have ih := few_run (told := told) hs hh r (k + 1) (c + (k + 1)) _ (few_perf (s := s) hs hh h)
          refine ih.mono (by omega) ?_
          rw [Nat.succ_mul]
          have e1 : k + 1 + r.length = k + (r.length + 1) := by omega
          rw [e1]
          omega
    · have ih := few_run (told := told) hs hh r k c x h
      refine ih.mono (by omega) ?_
      have : r.length * (k + r.length) ≤ (r.length + 1) * (k + (r.length + 1)) := Nat.mul_le_mul (by omega) (by omega)
      omega
theorem few_end {size : Nat} {held : List Int} {told : Bool} (hs : 1 ≤ size) (hh : held.length ≤ size) : ∀ (eo : List (Str × Str)) (k c : Nat) (x : RP), Few size k c x → Few size (k + eo.length) (c + eo.length * (k + eo.length)) (endW size held told eo x)
  | [], k, c, x, h => by simpa [endW] using h
  | (t, s) :: r, k, c, x, h => by
    unfold endW
    rw [List.length_cons]
    have h2 : Few size (k + 1) (c + (k + 1)) (if passM size held told t x.rest = true then perfM size held s x else x) := by
      split
      · exact few_perf hs hh h
      · exact h.mono (by omega) (by omega)
    have ih := few_end (told := told) hs hh r (k + 1) (c + (k + 1)) _ h2
    refine ih.mono (by omega) ?_
    rw [Nat.succ_mul]
    have e1 : k + 1 + r.length = k + (r.length + 1) := by omega
    rw [e1]
    omega
/-- after one reply -/
theorem few_ans {size : Nat} {ro eo : List (Str × Str)} {held : List Int} {told : Bool} {k c : Nat} {x : RP} (hs : 1 ≤ size) (hh : held.length ≤ size) (l1 : ro.length ≤ 12) (l2 : eo.length ≤ 6) (h : Few size k c x) :
    Few size (k + 18) (c + 18 * (k + 18)) (ansM size ro eo held told x).1 := by
  have a := few_run (told := told) hs hh ro k c x h
  have a1 : Few size (k + 12) (c + 12 * (k + 12)) (runW size held told ro x).1 := a.mono (by omega) (Nat.add_le_add_left (Nat.mul_le_mul l1 (by omega)) _)
  unfold ansM
  split
  · have b := few_end (told := told) hs hh eo _ _ _ a1
    refine b.mono (by omega) ?_
    have : eo.length * (k + 12 + eo.length) ≤ 6 * (k + 18) := Nat.mul_le_mul l2 (by omega)
    omega
  · exact a1.mono (by omega) (by omega)
end EM

/-! the class Execution -/
namespace My
open PySem L2 Cm LM EM
abbrev sXI : Stmt := inClass (top 12) 0
abbrev sXA : Stmt := inClass (top 12) 1
abbrev sXF : Stmt := inClass (top 12) 3
abbrev sXP : Stmt := inClass (top 12) 4
abbrev sXR : Stmt := inClass (top 12) 5
abbrev sXC : Stmt := inClass (top 12) 6
/-! ### the data -/
def xf (ro eo : Addr) (ak sz : Nat) (h : Addr) (t : Bool) (r p : Addr) (st : Bool) : List (Str × V) := [("round_orders", .ref ro), ("ending_orders", .ref eo), ("size", .int sz), ("held", .ref h), ("told", .bl t), ("kept", .ref r), ("handed", .ref p), ("asked", .int ak), ("over", .bl st)]
section
variable (ro eo h r p h' : Addr) (ak ak' sz : Nat) (t st b : Bool)
theorem xf_ro : (xf ro eo ak sz h t r p st).lookup ("round_orders" : Str) = some (.ref ro) := by kernel_rfl
theorem xf_eo : (xf ro eo ak sz h t r p st).lookup ("ending_orders" : Str) = some (.ref eo) := by kernel_rfl
theorem xf_sz : (xf ro eo ak sz h t r p st).lookup ("size" : Str) = some (.int sz) := by kernel_rfl
theorem xf_h : (xf ro eo ak sz h t r p st).lookup ("held" : Str) = some (.ref h) := by kernel_rfl
theorem xf_t : (xf ro eo ak sz h t r p st).lookup ("told" : Str) = some (.bl t) := by kernel_rfl
theorem xf_r : (xf ro eo ak sz h t r p st).lookup ("kept" : Str) = some (.ref r) := by kernel_rfl
theorem xf_p : (xf ro eo ak sz h t r p st).lookup ("handed" : Str) = some (.ref p) := by kernel_rfl
theorem xf_st : (xf ro eo ak sz h t r p st).lookup ("over" : Str) = some (.bl st) := by kernel_rfl
theorem put_h : putF "held" (.ref h') (xf ro eo ak sz h t r p st) = xf ro eo ak sz h' t r p st := by kernel_rfl
theorem put_t : putF "told" (.bl b) (xf ro eo ak sz h t r p st) = xf ro eo ak sz h b r p st := by kernel_rfl
theorem put_r : putF "kept" (.ref h') (xf ro eo ak sz h t r p st) = xf ro eo ak sz h t h' p st := by kernel_rfl
theorem xf_ak : (xf ro eo ak sz h t r p st).lookup ("asked" : Str) = some (.int ak) := by kernel_rfl
theorem put_ak : putF "asked" (.int ak') (xf ro eo ak sz h t r p st) = xf ro eo ak' sz h t r p st := by kernel_rfl
theorem put_st : putF "over" (.bl b) (xf ro eo ak sz h t r p st) = xf ro eo ak sz h t r p b := by kernel_rfl
theorem xf_mk : putF "over" (.bl st) (putF "asked" (.int ak) (putF "handed" (.ref p) (putF "kept" (.ref r) (putF "told" (.bl t) (putF "held" (.ref h) (putF "size" (.int sz) (putF "ending_orders" (.ref eo) (putF "round_orders" (.ref ro) [])))))))) = xf ro eo ak sz h t r p st := by kernel_rfl
theorem xf_len : (xf ro eo ak sz h t r p st).length = 9 := rfl
theorem xf_noA : (xf ro eo ak sz h t r p st).lookup ("answer" : Str) = none ∧ (xf ro eo ak sz h t r p st).lookup ("finish" : Str) = none ∧ (xf ro eo ak sz h t r p st).lookup ("passes" : Str) = none ∧ (xf ro eo ak sz h t r p st).lookup ("perform" : Str) = none ∧ (xf ro eo ak sz h t r p st).lookup ("cut_off" : Str) = none ∧ (xf ro eo ak sz h t r p st).lookup ("answer_nothing" : Str) = none := ⟨by kernel_rfl, by kernel_rfl, by kernel_rfl, by kernel_rfl, by kernel_rfl, by kernel_rfl⟩
end
/-- rows of pieces -/
inductive Pcs (H : Hp) : List V → List (List Int) → Prop
  | nil : Pcs H [] []
  | cons {q : Addr} {x : List Int} {vs : List V} {xs : List (List Int)} (h : H q = some (.tup (ivs x))) (t : Pcs H vs xs) : Pcs H (.ref q :: vs) (x :: xs)
theorem Pcs.mono {H H' : Hp} (f : ∀ (p : Addr) (xs : List V), H p = some (.tup xs) → H' p = some (.tup xs)) : ∀ {vs xs}, Pcs H vs xs → Pcs H' vs xs
  | _, _, .nil => .nil
  | _, _, .cons h t => .cons (f _ _ h) (t.mono f)
theorem Pcs.snoc {H : Hp} {q : Addr} {x : List Int} (h : H q = some (.tup (ivs x))) : ∀ {vs xs}, Pcs H vs xs → Pcs H (vs ++ [.ref q]) (xs ++ [x])
  | _, _, .nil => .cons h .nil
  | _, _, .cons a t => .cons a (t.snoc h)
theorem Pcs.len {H : Hp} : ∀ {vs xs}, Pcs H vs xs → vs.length = xs.length
  | _, _, .nil => rfl
  | _, _, .cons _ t => congrArg (· + 1) t.len
/-- tuples stay -/
def TS (H H' : Hp) : Prop := ∀ (p : Addr) (xs : List V), H p = some (.tup xs) → H' p = some (.tup xs)
theorem TS.refl {H : Hp} : TS H H := fun _ _ e => e
theorem TS.trans {H H1 H2 : Hp} (a : TS H H1) (b : TS H1 H2) : TS H H2 := fun p xs e => b p xs (a p xs e)
theorem Same.ts {H H' : Hp} (s : Same H H') : TS H H' := fun _ _ e => s _ _ e
/-- an execution stands at o, its pieces at p -/
structure ExAt (C : Addr) (H : Hp) (o dx ro eo p : Addr) (ak sz : Nat) (held : List Int) (told : Bool) (x : RP) (st : Bool) : Prop where
  ex : ∃ h r vs, H o = some (.ins C dx (xf ro eo ak sz h told r p st)) ∧ H h = some (.tup (ivs held)) ∧ H r = some (.tup (ivs x.rest)) ∧ H p = some (.lst vs) ∧ Pcs H vs x.pieces
theorem ExAt.same {C : Addr} {H H' : Hp} {o dx ro eo p : Addr} {ak sz : Nat} {held : List Int} {told : Bool} {x : RP} {st : Bool} (s : Same H H') (h : ExAt C H o dx ro eo p ak sz held told x st) : ExAt C H' o dx ro eo p ak sz held told x st := by
  obtain ⟨h', r, vs, a, b, c, d, e⟩ := h.ex
  exact ⟨h', r, vs, s _ _ a, s _ _ b, s _ _ c, s _ _ d, e.mono fun _ _ q => s _ _ q⟩
/-- all but what stands at o and at p is as it was -/
def Off2 (o p : Addr) (H H' : Hp) : Prop := ∀ b u, b ≠ o → b ≠ p → H b = some u → H' b = some u
theorem Off2.refl {o p : Addr} {H : Hp} : Off2 o p H H := fun _ _ _ _ e => e
theorem Off2.trans {o p : Addr} {H H1 H2 : Hp} (a : Off2 o p H H1) (b : Off2 o p H1 H2) : Off2 o p H H2 := fun c u n m e => b c u n m (a c u n m e)
theorem Off2.same {o p : Addr} {H H1 H2 : Hp} (a : Off2 o p H H1) (s : Same H1 H2) : Off2 o p H H2 := fun c u n m e => s _ _ (a c u n m e)
theorem Off2.putO {o p : Addr} {H H1 : Hp} {u : HO} (a : Off2 o p H H1) : Off2 o p H (upd H1 o u) := fun c u n m e => by
  rw [upd_ne n]
  exact a c u n m e
theorem Off2.putP {o p : Addr} {H H1 : Hp} {u : HO} (a : Off2 o p H H1) : Off2 o p H (upd H1 p u) := fun c u n m e => by
  rw [upd_ne m]
  exact a c u n m e
structure TxX (K : PySem.W.Frag) (mg : Str → Option Value) where
  len : mg "len" = none
  range : mg "range" = none
  C : Addr
  gC : mg "Execution" = some (.ref C)
  cl : Cls K C
  nRo : NoAttr K C "round_orders"
  nEo : NoAttr K C "ending_orders"
  nSz : NoAttr K C "size"
  nH : NoAttr K C "held"
  nT : NoAttr K C "told"
  nR : NoAttr K C "kept"
  nP : NoAttr K C "handed"
  nA : NoAttr K C "asked"
  nSt : NoAttr K C "over"
  fI : Addr
  fdI : FuncData
  FI : Fun K "__init__" "Execution.__init__" sXI fI fdI
  bI : Binds K fdI ["self", "round_orders", "ending_orders", "size", "kept"] []
  MI : Mk K C fI
  an : Mt K C "answer" "Execution.answer" sXA ["self", "held", "told"]
  fi : Mt K C "finish" "Execution.finish" sXF ["self"]
  ps : Mt K C "passes" "Execution.passes" sXP ["self", "test"]
  pf : Mt K C "perform" "Execution.perform" sXR ["self", "step"]
  co : Mt K C "cut_off" "Execution.cut_off" sXC ["self"]
section
variable {P : Program} {w : World} {K : PySem.W.Frag} {mg : Str → Option Value} {base : Heap}
/-! ### __init__ -/
def spXI (C : Addr) : Sp := fun vs H Q _ => ∃ (o dx ro eo r : Addr) (sz : Nat) (rest : List Int), vs = [.ref o, .ref ro, .ref eo, .int sz, .ref r] ∧ H o = some (.ins C dx []) ∧ H r = some (.tup (ivs rest)) ∧
  ∀ (H' : Hp) (p : Addr), Off o H H' → H p = none → ExAt C H' o dx ro eo p 0 sz [] false ⟨rest, []⟩ false → Q .non H'
theorem scXI : FnScope ["self", "round_orders", "ending_orders", "size", "kept"] ["self", "round_orders", "ending_orders", "size", "kept"] (defScope sXI) := ⟨rfl, rfl, rfl, by decide +kernel, rfl, by decide +kernel, by decide +kernel⟩
theorem small8 {fs : List (Str × V)} (h : fs.length ≤ 8) : fs.length < 1000 := by omega
theorem putF8 {f : Str} {v : V} {fs : List (Str × V)} {n : Nat} (h : fs.length ≤ n) : (putF f v fs).length ≤ n + 1 := Nat.le_trans (putF_len f v fs) (by omega)
theorem ok_xi (T : TxX K mg) : FnOk P w K mg base CX0 1 T.fI T.fdI ["self", "round_orders", "ending_orders", "size", "kept"] (spXI T.C) := by
  refine T.FI.ok scXI (fun vs H Q E h => ?_) (fun cdv A outer s H vs Q E hr h => ?_)
  · obtain ⟨o, dx, ro, eo, r, sz, rest, rfl, _⟩ := h
    rfl
  · obtain ⟨o, dx, ro, eo, r, sz, rest, rfl, ho, hr', k⟩ := h
    refine ⟨_, pss_cons (ps_fld (pv 0) (pv 1) rfl) (pss_cons (ps_fld (pv 0) (pv 2) rfl) (pss_cons (ps_fld (pv 0) (pv 3) rfl) (pss_cons (ps_fld (pv 0) (pe_tup pa_nil) rfl) (pss_cons (ps_fld (pv 0) pe_bl rfl) (pss_cons (ps_fld (pv 0) (pv 4) rfl)
      (pss_cons (ps_fld (pv 0) (pe_lst pa_nil) rfl) (pss_cons (ps_fld (pv 0) pe_int rfl) (pss_one (ps_fld (pv 0) pe_bl rfl))))))))), ?_⟩
    have l0 : ([] : List (Str × V)).length ≤ 0 := Nat.le_refl _
    refine ⟨_, rfl, _, rfl, o, T.C, dx, _, rfl, ho, T.cl, T.nRo, by decide, ?_⟩
    refine ⟨_, rfl, _, rfl, o, T.C, dx, _, rfl, upd_same, T.cl, T.nEo, Nat.lt_of_le_of_lt (putF8 l0) (by decide), ?_⟩
    refine ⟨_, rfl, _, rfl, o, T.C, dx, _, rfl, upd_same, T.cl, T.nSz, Nat.lt_of_le_of_lt (putF8 (putF8 l0)) (by decide), ?_⟩
    refine ⟨Nat.zero_le _, fun h nh => ?_⟩
    have no : h ≠ o := fun z => by rw [z, upd_same] at nh; cases nh
    refine ⟨_, rfl, o, T.C, dx, _, rfl, (by rw [upd_ne no.symm]; exact upd_same), T.cl, T.nH, Nat.lt_of_le_of_lt (putF8 (putF8 (putF8 l0))) (by decide), ?_⟩
    refine ⟨_, rfl, o, T.C, dx, _, rfl, upd_same, T.cl, T.nT, Nat.lt_of_le_of_lt (putF8 (putF8 (putF8 (putF8 l0)))) (by decide), ?_⟩
    refine ⟨_, rfl, _, rfl, o, T.C, dx, _, rfl, upd_same, T.cl, T.nR, Nat.lt_of_le_of_lt (putF8 (putF8 (putF8 (putF8 (putF8 l0))))) (by decide), ?_⟩
    refine ⟨Nat.zero_le _, fun p np => ?_⟩
    have po : p ≠ o := fun z => by rw [z, upd_same] at np; cases np
    refine ⟨_, rfl, o, T.C, dx, _, rfl, (by rw [upd_ne po.symm]; exact upd_same), T.cl, T.nP, Nat.lt_of_le_of_lt (putF8 (putF8 (putF8 (putF8 (putF8 (putF8 l0)))))) (by decide), ?_⟩
    refine ⟨_, rfl, o, T.C, dx, _, rfl, upd_same, T.cl, T.nA, Nat.lt_of_le_of_lt (putF8 (putF8 (putF8 (putF8 (putF8 (putF8 (putF8 l0))))))) (by decide), ?_⟩
    refine ⟨_, rfl, o, T.C, dx, _, rfl, upd_same, T.cl, T.nSt, Nat.lt_of_le_of_lt (putF8 (putF8 (putF8 (putF8 (putF8 (putF8 (putF8 (putF8 l0)))))))) (by decide), ?_⟩
    rw [show V.int 0 = V.int ((0 : Nat) : Int) from rfl, xf_mk]
    rw [upd_ne po, upd_ne po, upd_ne po] at np
    have ph : p ≠ h := fun z => by rw [z, upd_same] at np; cases np
    rw [upd_ne ph, upd_ne po, upd_ne po, upd_ne po] at np
    rw [upd_ne no, upd_ne no, upd_ne no] at nh
    have r1 : r ≠ o := ne_of hr' ho (by intro z; cases z)
    have r2 : r ≠ h := ne_of_none hr' nh
    have r3 : r ≠ p := ne_of_none hr' np
    refine k _ p (fun b u nb e => ?_) np ⟨h, r, [], upd_same, ?_, ?_, ?_, .nil⟩
    · have b2 : b ≠ h := ne_of_none e nh
      have b3 : b ≠ p := ne_of_none e np
      rw [upd_ne nb, upd_ne nb, upd_ne nb, upd_ne b3, upd_ne nb, upd_ne nb, upd_ne nb, upd_ne b2, upd_ne nb, upd_ne nb, upd_ne nb]
      exact e
    · rw [upd_ne no, upd_ne no, upd_ne no, upd_ne ph.symm, upd_ne no, upd_ne no, upd_ne no, upd_same]
      rfl
    · rw [upd_ne r1, upd_ne r1, upd_ne r1, upd_ne r3, upd_ne r1, upd_ne r1, upd_ne r1, upd_ne r2, upd_ne r1, upd_ne r1, upd_ne r1]
      exact hr'
    · rw [upd_ne po, upd_ne po, upd_ne po, upd_same]
end
end My

namespace My
open PySem L2 Cm LM EM
theorem in2 (t a b : Str) : inV (.str t) [.str a, .str b] = decide (t = a ∨ t = b) := by
  have e : inV (.str t) [.str a, .str b] = decide (t ∈ [a, b]) := inV_svs t [a, b]
  rw [e]
  exact decide_eq_decide.mpr (by simp)
theorem rgC_up {q s : Nat} (hs : 1 ≤ s) (h1 : s ≤ 1000) (h2 : q * s ≤ 4000000) : RgC 0 ((q * s : Nat) : Int) (s : Int) q := by
  have sz : Builtin.Range.rangeSize 0 ((q * s : Nat) : Int) (s : Int) = (q : Int) := by
    rw [PyProof.Rows.rangeSize_pos (by omega) (by omega)]
    have e : ((q * s : Nat) : Int) + (s : Int) - 1 = ((s : Int) - 1) + (q : Int) * (s : Int) := by
      rw [Int.natCast_mul]
      omega
    rw [e, Int.add_mul_ediv_right _ _ (by omega), Int.ediv_eq_zero_of_lt (by omega) (by omega)]
    omega
  refine ⟨by omega, by omega, ?_, sz⟩
  have hq : q ≤ 4000000 := Nat.le_trans (Nat.le_mul_of_pos_right q hs) h2
  unfold Builtin.Range.small
  rw [sz]
  generalize q * s = m at h2 ⊢
  simp only [Builtin.Range.rangeFitsLong, Bool.and_eq_true, Bool.or_eq_true, decide_eq_true_eq, beq_iff_eq, show (s : Int) > 0 by omega, if_true]
  omega
section
variable {P : Program} {w : World} {K : PySem.W.Frag} {mg : Str → Option Value} {base : Heap}
/-! ### passes -/
def spXP (C : Addr) : Sp := fun vs H Q _ => ∃ (o dx ro eo p : Addr) (ak sz : Nat) (held : List Int) (told : Bool) (x : RP) (st : Bool) (t : Str), vs = [.ref o, .str t] ∧ ExAt C H o dx ro eo p ak sz held told x st ∧ ∀ H', Same H H' → Q (.bl (passM sz held told t x.rest)) H'
theorem scXP : FnScope ["self", "test"] ["self", "test"] (defScope sXP) := ⟨rfl, rfl, rfl, by decide +kernel, rfl, by decide +kernel, by decide +kernel⟩
theorem pos_dec (n : Nat) : decide ((n : Int) > 0) = decide (0 < n) := decide_eq_decide.mpr ⟨fun z => by omega, fun z => by omega⟩
theorem lt_dec (n m : Nat) : decide ((n : Int) < (m : Int)) = decide (n < m) := decide_eq_decide.mpr ⟨fun z => by omega, fun z => by omega⟩
theorem ok_xp (T : TxX K mg) : FnOk P w K mg base CX0 1 T.ps.f T.ps.fd ["self", "test"] (spXP T.C) := by
  refine T.ps.F.ok scXP (fun vs H Q E h => ?_) (fun cdv A outer s H vs Q E hr h => ?_)
  · obtain ⟨o, dx, ro, eo, p, ak, sz, held, told, x, st, t, rfl, _⟩ := h
    rfl
  · obtain ⟨o, dx, ro, eo, p, ak, sz, held, told, x, st, t, rfl, hX, k⟩ := h
    refine ⟨_, pss_cons (ps_if (pt_cmpR op_eq (pv 1) pe_str (nomark _)) (pss_one (ps_ret pe_bl)) pss_nil)
      (pss_cons (ps_if (pt_cmpR op_in_seq (pv 1) (pe_tup (pa_cons pe_str (pa_cons pe_str pa_nil))) (by rfl)) (pss_one (ps_ret (pe_cmpR op_eq (pe_fld (pv 0) rfl) (pe_cmpR op_eq (pv 1) pe_str (nomark _)) (nomark _)))) pss_nil)
      (pss_cons (ps_if (pt_cmpR op_in_seq (pv 1) (pe_tup (pa_cons pe_str (pa_cons pe_str pa_nil))) (by rfl)) (pss_one (ps_ret (pe_cmpR op_eq (pe_cmpR op_gt (pe_callB call_len_seq (by rfl) T.len PySem.boot_len (pa_cons (pe_fld (pv 0) rfl) pa_nil)) pe_int (nomark _)) (pe_cmpR op_eq (pv 1) pe_str (nomark _)) (nomark _)))) pss_nil)
      (pss_cons (ps_if (pt_cmpR op_in_seq (pv 1) (pe_tup (pa_cons pe_str (pa_cons pe_str pa_nil))) (by rfl)) (pss_one (ps_ret (pe_cmpR op_eq (pe_cmpR op_gt (pe_callB call_len_seq (by rfl) T.len PySem.boot_len (pa_cons (pe_fld (pv 0) rfl) pa_nil)) pe_int (nomark _)) (pe_cmpR op_eq (pv 1) pe_str (nomark _)) (nomark _)))) pss_nil)
      (pss_one (ps_ret (pe_cmpR op_eq (pe_cmpR op_lt (pe_callB call_len_seq (by rfl) T.len PySem.boot_len (pa_cons (pe_fld (pv 0) rfl) pa_nil)) (pe_fld (pv 0) rfl) (nomark _)) (pe_cmpR op_eq (pv 1) pe_str (nomark _)) (nomark _))))))), ?_⟩
    unfold passM at k
    refine ⟨_, rfl, rfl, _, rfl, ?_⟩
    rw [dS]
    by_cases h0 : t = ""
    · rw [decide_eq_true h0]
      rw [if_pos h0] at k
      exact iteT (k H (Same.refl _))
    rw [decide_eq_false h0]
    rw [if_neg h0] at k
    refine iteF ?_
    refine ⟨_, rfl, (by show 2 ≤ sizeLine; decide), fun t1 n1 => ⟨t1, _, rfl, .inr (SqT.of upd_same), rfl, rfl, _, rfl, ?_⟩⟩
    have s1 : Same H (upd H t1 (.tup [.str "told", .str "open"])) := same_new n1
    generalize upd H t1 (.tup [.str "told", .str "open"]) = H1 at s1 ⊢
    have X1 := hX.same s1
    obtain ⟨h, r, vs, eo1, hh1, hr1, hp1, _⟩ := id X1.ex
    rw [show (if false = true then !inV (V.str t) [V.str "told", V.str "open"] else inV (V.str t) [V.str "told", V.str "open"]) = decide (t = "told" ∨ t = "open") from in2 ..]
    by_cases h1 : t = "told" ∨ t = "open"
    · rw [decide_eq_true h1]
      rw [if_pos h1] at k
      refine iteT ⟨_, rfl, o, T.C, dx, _, _, rfl, eo1, T.cl, T.nT, xf_t .., _, rfl, rfl, rfl, ?_⟩
      rw [dS, dB]
      exact k H1 s1
    rw [decide_eq_false h1]
    rw [if_neg h1] at k
    refine iteF ?_
    refine ⟨_, rfl, (by show 2 ≤ sizeLine; decide), fun t2 n2 => ⟨t2, _, rfl, .inr (SqT.of upd_same), rfl, rfl, _, rfl, ?_⟩⟩
    have s2 : Same H (upd H1 t2 (.tup [.str "rest", .str "bare"])) := Same.trans s1 (same_new n2)
    generalize upd H1 t2 (.tup [.str "rest", .str "bare"]) = H2 at s2 ⊢
    have X2 := hX.same s2
    clear eo1 hh1 hr1 hp1 X1
    obtain ⟨h, r, vs, eo1, hh1, hr1, hp1, _⟩ := id X2.ex
    rw [show (if false = true then !inV (V.str t) [V.str "rest", V.str "bare"] else inV (V.str t) [V.str "rest", V.str "bare"]) = decide (t = "rest" ∨ t = "bare") from in2 ..]
    by_cases h2 : t = "rest" ∨ t = "bare"
    · rw [decide_eq_true h2]
      rw [if_pos h2] at k
      refine iteT ⟨_, rfl, o, T.C, dx, _, _, rfl, eo1, T.cl, T.nR, xf_r .., r, _, rfl, .inr (SqT.of hr1), _, _, rfl, rfl, _, rfl, rfl, rfl, ?_⟩
      rw [dS, dB, ivs_len, pos_dec]
      exact k H2 s2
    rw [decide_eq_false h2]
    rw [if_neg h2] at k
    refine iteF ?_
    refine ⟨_, rfl, (by show 2 ≤ sizeLine; decide), fun t3 n3 => ⟨t3, _, rfl, .inr (SqT.of upd_same), rfl, rfl, _, rfl, ?_⟩⟩
    have s3 : Same H (upd H2 t3 (.tup [.str "empty", .str "some"])) := Same.trans s2 (same_new n3)
    generalize upd H2 t3 (.tup [.str "empty", .str "some"]) = H3 at s3 ⊢
    have X3 := hX.same s3
    clear eo1 hh1 hr1 hp1 X2
    obtain ⟨h, r, vs, eo1, hh1, hr1, hp1, _⟩ := id X3.ex
    rw [show (if false = true then !inV (V.str t) [V.str "empty", V.str "some"] else inV (V.str t) [V.str "empty", V.str "some"]) = decide (t = "empty" ∨ t = "some") from in2 ..]
    by_cases h3 : t = "empty" ∨ t = "some"
    · rw [decide_eq_true h3]
      rw [if_pos h3] at k
      refine iteT ⟨_, rfl, o, T.C, dx, _, _, rfl, eo1, T.cl, T.nH, xf_h .., h, _, rfl, .inr (SqT.of hh1), _, _, rfl, rfl, _, rfl, rfl, rfl, ?_⟩
      rw [dS, dB, ivs_len, pos_dec]
      exact k H3 s3
    rw [decide_eq_false h3]
    rw [if_neg h3] at k
    refine iteF ?_
    refine ⟨_, rfl, o, T.C, dx, _, _, rfl, eo1, T.cl, T.nH, xf_h .., h, _, rfl, .inr (SqT.of hh1), _, rfl, o, T.C, dx, _, _, rfl, eo1, T.cl, T.nSz, xf_sz .., _, _, rfl, rfl, _, rfl, rfl, rfl, ?_⟩
    rw [dS, dB, ivs_len, lt_dec]
    exact k H3 s3
/-! ### cut_off -/
/-- not too much -/
structure Fit (sz : Nat) (held : List Int) (x : RP) : Prop where
  s1 : 1 ≤ sz
  s2 : sz ≤ 1000
  h : held.length ≤ sz
  r : x.rest.length ≤ 3000000
  p : x.pieces.length ≤ 8000000
def spXC (C : Addr) : Sp := fun vs H Q _ => ∃ (o dx ro eo p : Addr) (ak sz : Nat) (held : List Int) (told : Bool) (x : RP) (st : Bool), vs = [.ref o] ∧ ExAt C H o dx ro eo p ak sz held told x st ∧ Fit sz held x ∧
  ∀ H', Off2 o p H H' → ExAt C H' o dx ro eo p ak sz held told (perfM sz held "cut" x) st → Q .non H'
theorem scXC : FnScope ["self", "end", "start"] ["self"] (defScope sXC) := ⟨rfl, rfl, rfl, by decide +kernel, rfl, by decide +kernel, by decide +kernel⟩
theorem cutN_succ (sz : Nat) (xs : List Int) (i : Nat) : cutN sz xs (i + 1) = cutN sz xs i ++ [(xs.drop (i * sz)).take sz] := by
  unfold cutN
  rw [List.range_succ, List.map_append]
  rfl
theorem ok_xc (T : TxX K mg) : FnOk P w K mg base CX0 1 T.co.f T.co.fd ["self"] (spXC T.C) := by
  refine T.co.F.ok scXC (fun vs H Q E h => ?_) (fun cdv A outer s H vs Q E hr h => ?_)
  · obtain ⟨o, dx, ro, eo, p, ak, sz, held, told, x, st, rfl, _⟩ := h
    rfl
  · obtain ⟨o, dx, ro, eo, p, ak, sz, held, told, x, st, rfl, hX, hF, k⟩ := h
    refine ⟨_, pss_cons (ps_set (i := 1) scXC.nd rfl (.inl rfl) (pe_op op_mul (pe_op op_fdiv (pe_callB call_len_seq (by rfl) T.len PySem.boot_len (pa_cons (pe_fld (pv 0) rfl) pa_nil)) (pe_fld (pv 0) rfl)) (pe_fld (pv 0) rfl)))
      (pss_cons (ps_for PassesOwn.never rfl (pi_range3 rfl T.range (pa_cons pe_int (pa_cons (pv 1) (pa_cons (pe_fld (pv 0) rfl) pa_nil)))) (pg_name (i := 2) scXC.nd rfl (Or.inl rfl))
        (pss_one (ps_expr (pe_bm PySem.F.plainAttrs_list PySem.F.slot_list_append PySem.F.type_list_append mt_append (pe_fld (pv 0) rfl) (pa_cons (pe_slice sl_tupH (pe_fld (pv 0) rfl) (po_some (pv 2)) (po_some (pe_op op_add (pv 2) (pe_fld (pv 0) rfl)))) pa_nil)))))
      (pss_one (ps_fld (pv 0) (pe_slice sl_tupH (pe_fld (pv 0) rfl) (po_some (pv 1)) po_none) rfl))), ?_⟩
    obtain ⟨h0, r0, vs0, e0, hh0, hr0, hp0, hP0⟩ := id hX.ex
    have s1 := hF.s1
    have s2 := hF.s2
    have s3 := hF.r
    have s4 := hF.p
    refine ⟨_, rfl, o, T.C, dx, _, _, rfl, e0, T.cl, T.nR, xf_r .., r0, _, rfl, .inr (SqT.of hr0), _, rfl, o, T.C, dx, _, _, rfl, e0, T.cl, T.nSz, xf_sz .., _, _, rfl, rfl, ⟨by omega, by omega⟩, _, rfl, o, T.C, dx, _, _, rfl, e0, T.cl, T.nSz, xf_sz .., _, _, rfl, rfl, .inr ⟨by omega, by omega⟩, ?_⟩
    have eq : ((ivs x.rest).length : Int) / (sz : Int) * (sz : Int) = ((x.rest.length / sz * sz : Nat) : Int) := by
      rw [ivs_len, Int.natCast_mul, Int.natCast_ediv]
    simp only [eq]
    have le : x.rest.length / sz * sz ≤ x.rest.length := Nat.div_mul_le_self _ _
    generalize hq : x.rest.length / sz = q at le ⊢
    refine ⟨_, rfl, _, rfl, o, T.C, dx, _, _, rfl, e0, T.cl, T.nSz, xf_sz .., _, _, _, q, rfl, rgC_up s1 s2 (by omega), ?_⟩
    refine for_rangeC (lo := 0) (c := (sz : Int)) (n := q) (fun i σ H' => ∃ v2, σ = [some (.ref o), some (.int ((q * sz : Nat) : Int)), v2] ∧ Off2 o p H H' ∧ ExAt T.C H' o dx ro eo p ak sz held told ⟨x.rest, x.pieces ++ cutN sz x.rest i⟩ st) ⟨none, rfl, Off2.refl, ?_⟩ ?_ ?_
    · refine ⟨h0, r0, vs0, e0, hh0, hr0, hp0, ?_⟩
      rw [show x.pieces ++ cutN sz x.rest 0 = x.pieces from List.append_nil _]
      exact hP0
    · rintro i σ H' hi ⟨v2, rfl, o1, X1⟩
      obtain ⟨h1, r1, vs1, e1, hh1, hr1, hp1, hP1⟩ := id X1.ex
      have m1 : (i + 1) * sz ≤ x.rest.length := Nat.le_trans (Nat.mul_le_mul_right _ hi) le
      have m2 : (i + 1) * sz = i * sz + sz := Nat.succ_mul i sz
      refine ⟨_, rfl, o, T.C, dx, _, _, rfl, e1, T.cl, T.nP, xf_p .., .inl ⟨rfl, _, SqL.of hp1⟩, ?_⟩
      refine ⟨_, rfl, o, T.C, dx, _, _, rfl, e1, T.cl, T.nR, xf_r .., _, rfl, ((i * sz : Nat) : Int), by rw [Int.zero_add, Int.natCast_mul], _, rfl, _, rfl, o, T.C, dx, _, _, rfl, e1, T.cl, T.nSz, xf_sz .., _, _, rfl, rfl, ((i * sz + sz : Nat) : Int), by rw [Int.zero_add, Int.natCast_add, Int.natCast_mul], r1, _, rfl, hr1, fun H2 qq s2' hq2 => ?_⟩
      rw [cut_mid _ _ _ (by omega) (by rw [ivs_len]; show i * sz + sz ≤ x.rest.length; omega), show i * sz + sz - i * sz = sz by omega] at hq2
      have hp2 := s2' _ _ hp1
      have lp := hP1.len
      refine ⟨p, vs1, _, rfl, rfl, hp2, ?_, ?_⟩
      · rw [lp]
        show (x.pieces ++ cutN sz x.rest i).length < sizeLine
        rw [List.length_append, cutN, List.length_map, List.length_range]
        have : q ≤ x.rest.length := Nat.le_trans (Nat.le_mul_of_pos_right q s1) le
        exact Nat.lt_of_le_of_lt (show x.pieces.length + i ≤ 11000000 by omega) (by decide)
      have st := tup_stays (o' := .lst (vs1 ++ [.ref qq])) hp2 (by intro xs z; cases z)
      have po : o ≠ p := ne_of (s2' _ _ e1) hp2 (by intro z; cases z)
      refine ⟨_, rfl, (o1.same s2').putP, h1, r1, _, by rw [upd_ne po]; exact s2' _ _ e1, st _ _ (s2' _ _ hh1), st _ _ (s2' _ _ hr1), upd_same, ?_⟩
      rw [cutN_succ, ← List.append_assoc]
      refine Pcs.snoc ?_ ((hP1.mono fun _ _ z => s2' _ _ z).mono st)
      rw [st _ _ hq2]
      simp [ivs, List.map_take, List.map_drop]
    · rintro σ H' ⟨v2, rfl, o1, X1⟩
      obtain ⟨h1, r1, vs1, e1, hh1, hr1, hp1, hP1⟩ := id X1.ex
      refine ⟨_, rfl, o, T.C, dx, _, _, rfl, e1, T.cl, T.nR, xf_r .., _, rfl, ((q * sz : Nat) : Int), rfl, r1, _, rfl, hr1, fun H2 r2 s2' hq2 => ?_⟩
      rw [cut_from] at hq2
      refine ⟨_, rfl, o, T.C, dx, _, rfl, s2' _ _ e1, T.cl, T.nR, by rw [xf_len]; decide, ?_⟩
      rw [put_r]
      have st := tup_stays (o' := .ins T.C dx (xf ro eo ak sz h1 told r2 p st)) (s2' _ _ e1) (by intro xs z; cases z)
      have po : p ≠ o := ne_of hp1 e1 (by intro z; cases z)
      refine k _ (o1.same s2').putO ⟨h1, r2, vs1, upd_same, st _ _ (s2' _ _ hh1), ?_, by rw [upd_ne po]; exact s2' _ _ hp1, ?_⟩
      · rw [st _ _ hq2]
        unfold perfM
        rw [if_neg (by decide +kernel), if_neg (by decide +kernel), if_pos rfl, hq]
        simp [ivs, List.map_drop]
      · unfold perfM
        rw [if_neg (by decide +kernel), if_neg (by decide +kernel), if_pos rfl, hq]
        exact (hP1.mono fun _ _ z => s2' _ _ z).mono st
end
end My

namespace My
open PySem L2 Cm LM EM
section
variable {P : Program} {w : World} {K : PySem.W.Frag} {mg : Str → Option Value} {base : Heap}
/-! ### perform -/
def spXR (C : Addr) : Sp := fun vs H Q _ => ∃ (o dx ro eo p : Addr) (ak sz : Nat) (held : List Int) (told : Bool) (x : RP) (st : Bool) (s : Str), vs = [.ref o, .str s] ∧ ExAt C H o dx ro eo p ak sz held told x st ∧ Fit sz held x ∧
  ∀ H', Off2 o p H H' → ExAt C H' o dx ro eo p ak sz held told (perfM sz held s x) st → Q .non H'
theorem scXR : FnScope ["self", "step"] ["self", "step"] (defScope sXR) := ⟨rfl, rfl, rfl, by decide +kernel, rfl, by decide +kernel, by decide +kernel⟩
theorem ok_xr (T : TxX K mg) : FnOk P w K mg base CX0 2 T.pf.f T.pf.fd ["self", "step"] (spXR T.C) := by
  have GC : FnOk P w K mg base CX0 1 T.co.f T.co.fd ["self"] (spXC T.C) := ok_xc T
  refine T.pf.F.ok scXR (fun vs H Q E h => ?_) (fun cdv A outer s H vs Q E hr h => ?_)
  · obtain ⟨o, dx, ro, eo, p, ak, sz, held, told, x, st, s, rfl, _⟩ := h
    rfl
  · obtain ⟨o, dx, ro, eo, p, ak, sz, held, told, x, st, s, rfl, hX, hF, k⟩ := h
    refine ⟨_, pss_one (ps_if (pt_cmpR op_eq (pv 1) pe_str (nomark _)) (pss_one (ps_fld (pv 0) (pe_op op_catH (pe_fld (pv 0) rfl) (pe_fld (pv 0) rfl)) rfl))
      (pss_one (ps_if (pt_cmpR op_eq (pv 1) pe_str (nomark _)) (pss_one (ps_expr (pe_bm PySem.F.plainAttrs_list PySem.F.slot_list_append PySem.F.type_list_append mt_append (pe_fld (pv 0) rfl) (pa_cons (pe_fld (pv 0) rfl) pa_nil))))
      (pss_one (ps_if (pt_cmpR op_eq (pv 1) pe_str (nomark _)) (pss_one (ps_expr (pe_meth0 (pv 0) T.cl T.co.m GC hr T.co.b .nil pass0)))
      (pss_one (ps_if (pt_cmpR op_eq (pv 1) pe_str (nomark _)) (pss_cons (ps_expr (pe_bm PySem.F.plainAttrs_list PySem.F.slot_list_append PySem.F.type_list_append mt_append (pe_fld (pv 0) rfl) (pa_cons (pe_fld (pv 0) rfl) pa_nil))) (pss_one (ps_fld (pv 0) (pe_tup pa_nil) rfl))) pss_nil))))))), ?_⟩
    obtain ⟨h0, r0, vs0, e0, hh0, hr0, hp0, hP0⟩ := id hX.ex
    have s1 := hF.s1
    have s2 := hF.s2
    have s3 := hF.r
    have s4 := hF.p
    have s5 := hF.h
    have po : p ≠ o := ne_of hp0 e0 (by intro z; cases z)
    have lp := hP0.len
    refine ⟨_, rfl, rfl, _, rfl, ?_⟩
    rw [dS]
    by_cases h1 : s = "add"
    · rw [decide_eq_true h1]
      refine iteT ?_
      unfold perfM at k
      rw [if_pos h1] at k
      refine ⟨_, rfl, o, T.C, dx, _, _, rfl, e0, T.cl, T.nR, xf_r .., _, rfl, o, T.C, dx, _, _, rfl, e0, T.cl, T.nH, xf_h .., r0, h0, _, _, rfl, rfl, hr0, hh0, ?_, fun H2 q s2' hq => ?_⟩
      · rw [ivs_len, ivs_len]
        exact Nat.le_trans (show x.rest.length + held.length ≤ 4000000 by omega) (by decide)
      refine ⟨_, rfl, o, T.C, dx, _, rfl, s2' _ _ e0, T.cl, T.nR, by rw [xf_len]; decide, ?_⟩
      rw [put_r]
      have st' := tup_stays (o' := .ins T.C dx (xf ro eo ak sz h0 told q p st)) (s2' _ _ e0) (by intro xs z; cases z)
      refine k _ ((Off2.refl).same s2').putO ⟨h0, q, vs0, upd_same, st' _ _ (s2' _ _ hh0), ?_, by rw [upd_ne po]; exact s2' _ _ hp0, (hP0.mono fun _ _ z => s2' _ _ z).mono st'⟩
      rw [st' _ _ hq]
      simp [ivs]
    rw [decide_eq_false h1]
    refine iteF ⟨_, rfl, rfl, _, rfl, ?_⟩
    rw [dS]
    by_cases h2 : s = "hand"
    · rw [decide_eq_true h2]
      refine iteT ?_
      unfold perfM at k
      rw [if_neg h1, if_pos h2] at k
      refine ⟨_, rfl, o, T.C, dx, _, _, rfl, e0, T.cl, T.nP, xf_p .., .inl ⟨rfl, _, SqL.of hp0⟩, _, rfl, o, T.C, dx, _, _, rfl, e0, T.cl, T.nH, xf_h .., p, vs0, _, rfl, rfl, hp0, ?_, ?_⟩
      · rw [lp]
        exact Nat.lt_of_le_of_lt s4 (by decide)
      have st' := tup_stays (o' := .lst (vs0 ++ [.ref h0])) hp0 (by intro xs z; cases z)
      exact k _ Off2.refl.putP ⟨h0, r0, _, by rw [upd_ne po.symm]; exact e0, st' _ _ hh0, st' _ _ hr0, upd_same, Pcs.snoc (st' _ _ hh0) (hP0.mono st')⟩
    rw [decide_eq_false h2]
    refine iteF ⟨_, rfl, rfl, _, rfl, ?_⟩
    rw [dS]
    by_cases h3 : s = "cut"
    · rw [decide_eq_true h3]
      refine iteT ?_
      rw [h3] at k
      exact ⟨_, rfl, o, dx, _, rfl, e0, (xf_noA ..).2.2.2.2.1, o, dx, ro, eo, p, ak, sz, held, told, x, st, rfl, hX, hF, k⟩
    rw [decide_eq_false h3]
    refine iteF ⟨_, rfl, rfl, _, rfl, ?_⟩
    rw [dS]
    by_cases h4 : s = "flush"
    · rw [decide_eq_true h4]
      refine iteT ?_
      unfold perfM at k
      rw [if_neg h1, if_neg h2, if_neg h3, if_pos h4] at k
      refine ⟨_, rfl, o, T.C, dx, _, _, rfl, e0, T.cl, T.nP, xf_p .., .inl ⟨rfl, _, SqL.of hp0⟩, _, rfl, o, T.C, dx, _, _, rfl, e0, T.cl, T.nR, xf_r .., p, vs0, _, rfl, rfl, hp0, ?_, ?_⟩
      · rw [lp]
        exact Nat.lt_of_le_of_lt s4 (by decide)
      have st1 := tup_stays (o' := .lst (vs0 ++ [.ref r0])) hp0 (by intro xs z; cases z)
      refine ⟨Nat.zero_le _, fun q nq => ?_⟩
      have e1 : (upd (upd H p (.lst (vs0 ++ [.ref r0]))) q (.tup [])) o = some (.ins T.C dx (xf ro eo ak sz h0 told r0 p st)) := same_new nq _ _ (by rw [upd_ne po.symm]; exact e0)
      refine ⟨_, rfl, o, T.C, dx, _, rfl, e1, T.cl, T.nR, by rw [xf_len]; decide, ?_⟩
      rw [put_r]
      have st2 := tup_stays (o' := .ins T.C dx (xf ro eo ak sz h0 told q p st)) e1 (by intro xs z; cases z)
      have f : ∀ (a : Addr) (xs : List V), H a = some (.tup xs) → (upd (upd (upd H p (.lst (vs0 ++ [.ref r0]))) q (.tup [])) o (.ins T.C dx (xf ro eo ak sz h0 told q p st))) a = some (.tup xs) := fun a xs z => st2 _ _ (same_new nq _ _ (st1 _ _ z))
      refine k _ ((Off2.refl.putP).same (same_new nq)).putO ⟨h0, q, _, upd_same, f _ _ hh0, st2 _ _ upd_same, ?_, Pcs.snoc (f _ _ hr0) (hP0.mono f)⟩
      rw [upd_ne po]
      exact same_new nq _ _ upd_same
    rw [decide_eq_false h4]
    unfold perfM at k
    rw [if_neg h1, if_neg h2, if_neg h3, if_neg h4] at k
    exact iteF (k H Off2.refl hX)
/-! ### finish -/
theorem Off2.ts {C : Addr} {H H' : Hp} {o dx ro eo p : Addr} {ak sz : Nat} {held : List Int} {told : Bool} {x : RP} {st : Bool} (a : Off2 o p H H') (h : ExAt C H o dx ro eo p ak sz held told x st) : TS H H' := fun q xs e => by
  obtain ⟨h0, r0, vs0, e0, _, _, hp0, _⟩ := h.ex
  exact a _ _ (ne_of e e0 (by intro z; cases z)) (ne_of e hp0 (by intro z; cases z)) e
/-- a row of orders stands -/
def OrdT (H : Hp) (p : Addr) (os : List (Str × Str)) : Prop := ∃ xs, H p = some (.tup xs) ∧ Prs H xs os
theorem OrdT.ts {H H' : Hp} {p : Addr} {os : List (Str × Str)} (s : TS H H') (h : OrdT H p os) : OrdT H' p os := let ⟨xs, e, q⟩ := h; ⟨xs, s _ _ e, q.mono s⟩
theorem Prs.get {H : Hp} : ∀ {xs os} {i : Nat} {y : V}, Prs H xs os → xs[i]? = some y → ∃ (q : Addr) (o : Str × Str), os[i]? = some o ∧ y = .ref q ∧ H q = some (.tup [.str o.1, .str o.2])
  | _, _, i, y, .nil, h => by simp at h
  | _, _, 0, y, .cons h _, e => ⟨_, _, rfl, (Option.some.inj e).symm, h⟩
  | _, _, i + 1, y, .cons _ t, e => t.get (i := i) e
theorem endW_app (sz : Nat) (held : List Int) (told : Bool) : ∀ (a b : List (Str × Str)) (x : RP), endW sz held told (a ++ b) x = endW sz held told b (endW sz held told a x)
  | [], _, _ => rfl
  | (t, s) :: r, b, x => endW_app sz held told r b _
/-- enough room for a round and an ending -/
structure FitK (sz : Nat) (held : List Int) (k c : Nat) (x : RP) : Prop where
  s1 : 1 ≤ sz
  s2 : sz ≤ 1000
  h : held.length ≤ sz
  hk : k ≤ 2500
  hc : c ≤ 7900000
  f : Few sz k c x
theorem FitK.fit {sz : Nat} {held : List Int} {k c : Nat} {x : RP} (h : FitK sz held k c x) : Fit sz held x := by
  refine ⟨h.s1, h.s2, h.h, Nat.le_trans h.f.1 ?_, Nat.le_trans h.f.2 (Nat.le_trans h.hc (by decide))⟩
  exact Nat.le_trans (Nat.mul_le_mul h.hk h.s2) (by decide)
def spXF (C : Addr) : Sp := fun vs H Q _ => ∃ (o dx ro eo p : Addr) (ak sz : Nat) (held : List Int) (told : Bool) (x : RP) (st : Bool) (os : List (Str × Str)) (k c : Nat), vs = [.ref o] ∧ ExAt C H o dx ro eo p ak sz held told x st ∧ OrdT H eo os ∧ os.length ≤ 6 ∧ FitK sz held k c x ∧ k ≤ 2400 ∧ c ≤ 7800000 ∧
  ∀ H', Off2 o p H H' → ExAt C H' o dx ro eo p ak sz held told (endW sz held told os x) true → Q .non H'
theorem scXF : FnScope ["self", "test", "step"] ["self"] (defScope sXF) := ⟨rfl, rfl, rfl, by decide +kernel, rfl, by decide +kernel, by decide +kernel⟩
theorem ok_xfin (T : TxX K mg) : FnOk P w K mg base CX0 3 T.fi.f T.fi.fd ["self"] (spXF T.C) := by
  have GP : FnOk P w K mg base CX0 1 T.ps.f T.ps.fd ["self", "test"] (spXP T.C) := ok_xp T
  have GR : FnOk P w K mg base CX0 2 T.pf.f T.pf.fd ["self", "step"] (spXR T.C) := ok_xr T
  refine T.fi.F.ok scXF (fun vs H Q E h => ?_) (fun cdv A outer s H vs Q E hr h => ?_)
  · obtain ⟨o, dx, ro, eo, p, ak, sz, held, told, x, st, os, k, c, rfl, _⟩ := h
    rfl
  · obtain ⟨o, dx, ro, eo, p, ak, sz, held, told, x, st, os, kk, cc, rfl, hX, hO, hl, hF, hk, hc, k⟩ := h
    have hr1 : Room 1 _ := hr.mono (by decide)
    refine ⟨_, pss_cons (ps_for PassesOwn.never rfl (pi_tup (pe_fld (pv 0) rfl)) (pg_tup rfl (pgs_cons (pg_name (i := 1) scXF.nd rfl (.inl rfl)) (pgs_cons (pg_name (i := 2) scXF.nd rfl (.inl rfl)) pgs_nil)))
        (pss_one (ps_if (pt_val (pe_meth (pv 0) T.cl T.ps.m GP hr1 T.ps.b .nil pass0 (pa_cons (pv 1) pa_nil))) (pss_one (ps_expr (pe_meth (pv 0) T.cl T.pf.m GR hr T.pf.b .nil pass0 (pa_cons (pv 2) pa_nil)))) pss_nil)))
      (pss_one (ps_fld (pv 0) pe_bl rfl)), ?_⟩
    obtain ⟨h0, r0, vs0, e0, _⟩ := id hX.ex
    obtain ⟨xs, hxs, hPr⟩ := id hO
    have lx := hPr.len
    refine ⟨_, rfl, o, T.C, dx, _, _, rfl, e0, T.cl, T.nEo, xf_eo .., eo, rfl, ⟨_, SqT.of hxs⟩, ?_⟩
    refine for_tup (K := K) (a := eo) (xs := xs) (fun i σ H' => ∃ v1 v2, σ = [some (.ref o), v1, v2] ∧ Off2 o p H H' ∧ ExAt T.C H' o dx ro eo p ak sz held told (endW sz held told (os.take i) x) st) ⟨none, none, rfl, Off2.refl, hX⟩ (fun i σ H' _ ⟨_, _, _, o1, _⟩ => SqT.of (o1.ts hX _ _ hxs)) ?_ ?_
    · rintro i y σ H' hy ⟨v1, v2, rfl, o1, X1⟩
      obtain ⟨q, od, hod, rfl, hq⟩ := hPr.get hy
      have hq1 := o1.ts hX _ _ hq
      have li : i < os.length := lt_of_get hod
      refine ⟨q, _, rfl, SqT.of hq1, rfl, _, _, rfl, _, _, rfl, rfl, ?_⟩
      obtain ⟨h1, r1, vs1, e1, _⟩ := id X1.ex
      refine ⟨_, rfl, o, dx, _, rfl, e1, (xf_noA ..).2.2.1, _, rfl, o, dx, ro, eo, p, ak, sz, held, told, _, st, od.1, rfl, X1, fun H2 s2 => ⟨_, rfl, ?_⟩⟩
      have X2 := X1.same s2
      have tk : os.take (i + 1) = os.take i ++ [od] := take_snoc hod
      have ef : endW sz held told (os.take (i + 1)) x = (if passM sz held told od.1 (endW sz held told (os.take i) x).rest = true then perfM sz held od.2 (endW sz held told (os.take i) x) else endW sz held told (os.take i) x) := by
        rw [tk, endW_app]
        rfl
      have fe := few_end (told := told) hF.s1 hF.h (os.take i) kk cc x hF.f
      have lt : (os.take i).length ≤ 6 := by rw [List.length_take]; omega
      have fk : FitK sz held (kk + 6) (cc + 6 * (kk + 6)) (endW sz held told (os.take i) x) := ⟨hF.s1, hF.s2, hF.h, by omega, by omega, fe.mono (by omega) (Nat.add_le_add_left (Nat.mul_le_mul lt (by omega)) _)⟩
      obtain ⟨h2, r2, vs2, e2, _⟩ := id X2.ex
      refine ite2 (fun c => ?_) (fun c => ?_)
      · rw [if_pos c] at ef
        refine ⟨_, rfl, o, dx, _, rfl, e2, (xf_noA ..).2.2.2.1, _, rfl, o, dx, ro, eo, p, ak, sz, held, told, _, st, od.2, rfl, X2, fk.fit, fun H3 o3 X3 => ?_⟩
        exact ⟨_, _, rfl, (o1.same s2).trans o3, by rw [ef]; exact X3⟩
      · rw [if_neg c] at ef
        exact ⟨_, _, rfl, o1.same s2, by rw [ef]; exact X2⟩
    · rintro σ H' ⟨v1, v2, rfl, o1, X1⟩
      rw [lx, List.take_length] at X1
      obtain ⟨h1, r1, vs1, e1, hh1, hr1', hp1, hP1⟩ := id X1.ex
      refine ⟨_, rfl, o, T.C, dx, _, rfl, e1, T.cl, T.nSt, by rw [xf_len]; decide, ?_⟩
      rw [put_st]
      have st' := tup_stays (o' := .ins T.C dx (xf ro eo ak sz h1 told r1 p true)) e1 (by intro xs z; cases z)
      have po : p ≠ o := ne_of hp1 e1 (by intro z; cases z)
      exact k _ o1.putO ⟨h1, r1, vs1, upd_same, st' _ _ hh1, st' _ _ hr1', by rw [upd_ne po]; exact hp1, hP1.mono st'⟩
/-! ### answer -/
/-- not stopped and not left so far -/
def goes (sz : Nat) (held : List Int) (told : Bool) : List (Str × Str) → RP → Bool
  | [], _ => true
  | (t, s) :: r, x => if passM sz held told t x.rest = true then (if s = "again" then false else if s = "stop" then false else goes sz held told r (perfM sz held s x)) else goes sz held told r x
theorem runW_cons (sz : Nat) (held : List Int) (told : Bool) (t s : Str) (r : List (Str × Str)) (x : RP) : runW sz held told ((t, s) :: r) x = if passM sz held told t x.rest = true then (if s = "again" then (x, false) else if s = "stop" then (x, true) else runW sz held told r (perfM sz held s x)) else runW sz held told r x := rfl
theorem goes_cons (sz : Nat) (held : List Int) (told : Bool) (t s : Str) (r : List (Str × Str)) (x : RP) : goes sz held told ((t, s) :: r) x = if passM sz held told t x.rest = true then (if s = "again" then false else if s = "stop" then false else goes sz held told r (perfM sz held s x)) else goes sz held told r x := rfl
theorem run_goes (sz : Nat) (held : List Int) (told : Bool) : ∀ (a b : List (Str × Str)) (x : RP), goes sz held told a x = true →
    runW sz held told (a ++ b) x = runW sz held told b (runW sz held told a x).1 ∧ goes sz held told (a ++ b) x = goes sz held told b (runW sz held told a x).1 ∧ (runW sz held told a x).2 = false
  | [], _, _, _ => ⟨rfl, rfl, rfl⟩
  | (t, s) :: r, b, x, h => by
    rw [goes_cons] at h
    rw [List.cons_append, runW_cons, runW_cons, goes_cons]
    by_cases c : passM sz held told t x.rest = true
    · rw [if_pos c] at h
      rw [if_pos c, if_pos c, if_pos c]
      by_cases c1 : s = "again"
      · rw [if_pos c1] at h
        cases h
      rw [if_neg c1] at h
      rw [if_neg c1, if_neg c1, if_neg c1]
      by_cases c2 : s = "stop"
      · rw [if_pos c2] at h
        cases h
      rw [if_neg c2] at h
      rw [if_neg c2, if_neg c2, if_neg c2]
      exact run_goes sz held told r b _ h
    · rw [if_neg c] at h
      rw [if_neg c, if_neg c, if_neg c]
      exact run_goes sz held told r b _ h
def spXA (C : Addr) : Sp := fun vs H Q _ => ∃ (o dx ro eo p h : Addr) (ak sz : Nat) (held0 held : List Int) (told0 told : Bool) (x : RP) (rs es : List (Str × Str)) (k c : Nat), vs = [.ref o, .ref h, .bl told] ∧ ExAt C H o dx ro eo p ak sz held0 told0 x false ∧ H h = some (.tup (ivs held)) ∧ OrdT H ro rs ∧ OrdT H eo es ∧ rs.length ≤ 12 ∧ es.length ≤ 6 ∧ FitK sz held k c x ∧ k ≤ 2300 ∧ c ≤ 7700000 ∧
  ∀ H', Off2 o p H H' → ExAt C H' o dx ro eo p (ak + 1) sz held told (ansM sz rs es held told x).1 (ansM sz rs es held told x).2 → Q .non H'
theorem scXA : FnScope ["self", "held", "told", "test", "step"] ["self", "held", "told"] (defScope sXA) := ⟨rfl, rfl, rfl, by decide +kernel, rfl, by decide +kernel, by decide +kernel⟩
theorem ok_xa (T : TxX K mg) : FnOk P w K mg base CX0 4 T.an.f T.an.fd ["self", "held", "told"] (spXA T.C) := by
  have GP : FnOk P w K mg base CX0 1 T.ps.f T.ps.fd ["self", "test"] (spXP T.C) := ok_xp T
  have GR : FnOk P w K mg base CX0 2 T.pf.f T.pf.fd ["self", "step"] (spXR T.C) := ok_xr T
  have GF : FnOk P w K mg base CX0 3 T.fi.f T.fi.fd ["self"] (spXF T.C) := ok_xfin T
  refine T.an.F.ok scXA (fun vs H Q E h => ?_) (fun cdv A outer s H vs Q E hr h => ?_)
  · obtain ⟨o, dx, ro, eo, p, h, ak, sz, held0, held, told0, told, x, rs, es, k, c, rfl, _⟩ := h
    rfl
  · obtain ⟨o, dx, ro, eo, p, h, ak, sz, held0, held, told0, told, x, rs, es, kk, cc, rfl, hX, hh, hO, hE, l1, l2, hF, hk, hc, k⟩ := h
    have hr1 : Room 1 _ := hr.mono (by decide)
    have hr2 : Room 2 _ := hr.mono (by decide)
    refine ⟨_, pss_cons (ps_fld (pv 0) (pv 1) rfl) (pss_cons (ps_fld (pv 0) (pv 2) rfl) (pss_cons (ps_fldaug (pv 0) pe_int in_add)
      (pss_one (ps_for PassesOwn.never rfl (pi_tup (pe_fld (pv 0) rfl)) (pg_tup rfl (pgs_cons (pg_name (i := 3) scXA.nd rfl (.inl rfl)) (pgs_cons (pg_name (i := 4) scXA.nd rfl (.inl rfl)) pgs_nil)))
        (pss_one (ps_if (pt_val (pe_meth (pv 0) T.cl T.ps.m GP hr1 T.ps.b .nil pass0 (pa_cons (pv 3) pa_nil)))
          (pss_cons (ps_if (pt_cmpR op_eq (pv 4) pe_str (nomark _)) (pss_one ps_retN) pss_nil)
          (pss_cons (ps_if (pt_cmpR op_eq (pv 4) pe_str (nomark _)) (pss_cons (ps_expr (pe_meth0 (pv 0) T.cl T.fi.m GF hr T.fi.b .nil pass0)) (pss_one ps_retN)) pss_nil)
          (pss_one (ps_expr (pe_meth (pv 0) T.cl T.pf.m GR hr2 T.pf.b .nil pass0 (pa_cons (pv 4) pa_nil)))))) pss_nil)))))), ?_⟩
    obtain ⟨h0, r0, vs0, e0, hh0, hr0, hp0, hP0⟩ := id hX.ex
    refine ⟨_, rfl, _, rfl, o, T.C, dx, _, rfl, e0, T.cl, T.nH, by rw [xf_len]; decide, ?_⟩
    rw [put_h]
    refine ⟨_, rfl, _, rfl, o, T.C, dx, _, rfl, upd_same, T.cl, T.nT, by rw [xf_len]; decide, ?_⟩
    rw [put_t]
    refine ⟨_, rfl, o, T.C, dx, _, _, rfl, upd_same, T.cl, T.nA, xf_ak .., _, _, rfl, rfl, dx, _, upd_same, by rw [xf_len]; decide, ?_⟩
    rw [show V.int ((ak : Int) + 1) = V.int ((ak + 1 : Nat) : Int) from rfl, put_ak]
    have po : p ≠ o := ne_of hp0 e0 (by intro z; cases z)
    have ts0 : TS H (upd (upd (upd H o (.ins T.C dx (xf ro eo ak sz h told0 r0 p false))) o (.ins T.C dx (xf ro eo ak sz h told r0 p false))) o (.ins T.C dx (xf ro eo (ak + 1) sz h told r0 p false))) := fun q xs e => tup_stays (o := .ins T.C dx (xf ro eo ak sz h told r0 p false)) upd_same (by intro xs z; cases z) _ _ (tup_stays (o := .ins T.C dx (xf ro eo ak sz h told0 r0 p false)) upd_same (by intro xs z; cases z) _ _ (tup_stays e0 (by intro xs z; cases z) _ _ e))
    have X0 : ExAt T.C (upd (upd (upd H o (.ins T.C dx (xf ro eo ak sz h told0 r0 p false))) o (.ins T.C dx (xf ro eo ak sz h told r0 p false))) o (.ins T.C dx (xf ro eo (ak + 1) sz h told r0 p false))) o dx ro eo p (ak + 1) sz held told x false := ⟨h, r0, vs0, upd_same, ts0 _ _ hh, ts0 _ _ hr0, by rw [upd_ne po, upd_ne po, upd_ne po]; exact hp0, hP0.mono ts0⟩
    have o0 : Off2 o p H (upd (upd (upd H o (.ins T.C dx (xf ro eo ak sz h told0 r0 p false))) o (.ins T.C dx (xf ro eo ak sz h told r0 p false))) o (.ins T.C dx (xf ro eo (ak + 1) sz h told r0 p false))) := Off2.refl.putO.putO.putO
    have hO1 := hO.ts ts0
    have hE1 := hE.ts ts0
    generalize upd (upd (upd H o (.ins T.C dx (xf ro eo ak sz h told0 r0 p false))) o (.ins T.C dx (xf ro eo ak sz h told r0 p false))) o (.ins T.C dx (xf ro eo (ak + 1) sz h told r0 p false)) = H1 at X0 o0 hO1 hE1 ⊢
    clear ts0 hO hE
    obtain ⟨xs, hxs, hPr⟩ := id hO1
    have lx := hPr.len
    obtain ⟨h1, r1, vs1, e1, _⟩ := id X0.ex
    refine ⟨_, rfl, o, T.C, dx, _, _, rfl, e1, T.cl, T.nRo, xf_ro .., ro, rfl, ⟨_, SqT.of hxs⟩, ?_⟩
    refine for_tup (K := K) (a := ro) (xs := xs) (fun i σ H' => ∃ v1 v2, σ = [some (.ref o), some (.ref h), some (.bl told), v1, v2] ∧ Off2 o p H1 H' ∧ ExAt T.C H' o dx ro eo p (ak + 1) sz held told (runW sz held told (rs.take i) x).1 false ∧ goes sz held told (rs.take i) x = true) ⟨none, none, rfl, Off2.refl, X0, rfl⟩ (fun i σ H' _ ⟨_, _, _, o1, _⟩ => SqT.of (o1.ts X0 _ _ hxs)) ?_ ?_
    · rintro i y σ H' hy ⟨v1, v2, rfl, o1, X1, g1⟩
      obtain ⟨q, od, hod, rfl, hq⟩ := hPr.get hy
      have hq1 := o1.ts X0 _ _ hq
      have li : i < rs.length := lt_of_get hod
      refine ⟨q, _, rfl, SqT.of hq1, rfl, _, _, rfl, _, _, rfl, rfl, ?_⟩
      obtain ⟨h1, r1, vs1, e1, _⟩ := id X1.ex
      refine ⟨_, rfl, o, dx, _, rfl, e1, (xf_noA ..).2.2.1, _, rfl, o, dx, ro, eo, p, ak + 1, sz, held, told, _, false, od.1, rfl, X1, fun H2 s2 => ⟨_, rfl, ?_⟩⟩
      have X2 := X1.same s2
      have tk : rs.take (i + 1) = rs.take i ++ [od] := take_snoc hod
      have rg := run_goes sz held told (rs.take i) [od] x g1
      rw [← tk] at rg
      have rw1 : rs = rs.take i ++ (od :: rs.drop (i + 1)) := by
        have e := List.take_append_drop i rs
        rw [List.drop_eq_getElem_cons li] at e
        have : rs[i] = od := (List.getElem?_eq_some_iff.mp hod).2
        rw [this] at e
        exact e.symm
      have rgs := (run_goes sz held told (rs.take i) (od :: rs.drop (i + 1)) x g1).1
      rw [← rw1] at rgs
      have fe := few_run (told := told) hF.s1 hF.h (rs.take i) kk cc x hF.f
      have lt : (rs.take i).length ≤ 12 := by rw [List.length_take]; omega
      have fk : FitK sz held (kk + 12) (cc + 12 * (kk + 12)) (runW sz held told (rs.take i) x).1 := ⟨hF.s1, hF.s2, hF.h, by omega, by omega, fe.mono (by omega) (Nat.add_le_add_left (Nat.mul_le_mul lt (by omega)) _)⟩
      obtain ⟨h2, r2, vs2, e2, _⟩ := id X2.ex
      generalize hy0 : (runW sz held told (rs.take i) x).1 = y at rg rgs fk X1 X2 ⊢
      obtain ⟨t1, s1⟩ := od
      rw [runW_cons] at rgs
      have r1e := rg.1
      have r2e := rg.2.1
      rw [runW_cons] at r1e
      rw [goes_cons] at r2e
      refine ite2 (fun c => ?_) (fun c => ?_)
      · rw [if_pos c] at rgs r1e r2e
        refine ⟨_, rfl, rfl, _, rfl, ?_⟩
        rw [dS]
        by_cases c1 : s1 = "again"
        · rw [decide_eq_true c1]
          refine iteT ?_
          rw [if_pos c1] at rgs
          refine k _ (o0.trans (o1.same s2)) ?_
          unfold ansM
          rw [rgs]
          exact X2
        rw [decide_eq_false c1]
        rw [if_neg c1] at rgs r1e r2e
        refine iteF ⟨_, rfl, rfl, _, rfl, ?_⟩
        rw [dS]
        by_cases c2 : s1 = "stop"
        · rw [decide_eq_true c2]
          refine iteT ?_
          rw [if_pos c2] at rgs
          refine ⟨_, rfl, o, dx, _, rfl, e2, (xf_noA ..).2.1, o, dx, ro, eo, p, ak + 1, sz, held, told, y, false, es, _, _, rfl, X2, hE1.ts ((o1.same s2).ts X0), l2, fk, by omega, by omega, fun H3 o3 X3 => ?_⟩
          refine k _ ((o0.trans (o1.same s2)).trans o3) ?_
          unfold ansM
          rw [rgs]
          exact X3
        rw [decide_eq_false c2]
        rw [if_neg c2] at rgs r1e r2e
        refine iteF ?_
        refine ⟨_, rfl, o, dx, _, rfl, e2, (xf_noA ..).2.2.2.1, _, rfl, o, dx, ro, eo, p, ak + 1, sz, held, told, y, false, s1, rfl, X2, fk.fit, fun H3 o3 X3 => ?_⟩
        exact ⟨_, _, rfl, (o1.same s2).trans o3, by rw [r1e]; exact X3, r2e⟩
      · rw [if_neg c] at rgs r1e r2e
        exact ⟨_, _, rfl, o1.same s2, by rw [r1e]; exact X2, r2e⟩
    · rintro σ H' ⟨v1, v2, rfl, o1, X1, g1⟩
      rw [lx, List.take_length] at X1 g1
      refine k _ (o0.trans o1) ?_
      unfold ansM
      rw [(run_goes sz held told rs [] x g1).2.2]
      exact X1
end
end My

/-! right loops: their words, and loops without a word -/
namespace LM
open PySem L2 TL
theorem part_back {x y : Str} (h : ((Txt.partition x y).2.1.length != 0) = true) : x = (Txt.partition x y).1 ++ y ++ (Txt.partition x y).2.2 := by
  rcases PyProof.Rows.partition_whole x y with ⟨e, _⟩ | ⟨i, e, hi, _⟩
  · rw [e] at h
    exact absurd (show ((Str.empty).length != 0) = true from h) (by decide)
  · rw [e]
    refine ext_tl ?_
    rw [tl_append, tl_append, tl_strSub, tl_strSub_end, List.drop_zero, Nat.sub_zero]
    by_cases hy : tl y = []
    · have : y.length = 0 := by rw [len_tl, hy]; rfl
      rw [hy, this, List.append_nil, Nat.add_zero, List.take_append_drop]
    · have hp := (at_iff hy i).mp hi
      have e2 : ((tl x).drop i).take (tl y).length = tl y := eq_of_beq hp
      have e3 : tl y ++ (tl x).drop (i + y.length) = (tl x).drop i := by
        rw [len_tl y, ← drop_two]
        have := List.take_append_drop (tl y).length ((tl x).drop i)
        rw [e2] at this
        exact this
      rw [List.append_assoc, e3, List.take_append_drop]
theorem word_wd {w : Str} {ss : List Str} (h : isWord w ss = true) : Wd ss w := by
  unfold isWord at h
  cases hc : ((Txt.partition w ":").2.1.length != 0) with
  | true =>
    rw [if_pos hc] at h
    have h2 := Bool.and_eq_true_iff.mp h
    exact ⟨_, of_decide_eq_true h2.2, .inr ⟨_, of_decide_eq_true h2.1, part_back hc⟩⟩
  | false =>
    rw [if_neg (by rw [hc]; exact Bool.false_ne_true)] at h
    exact ⟨w, of_decide_eq_true h, .inl rfl⟩
/-- free and short -/
def FS (w : Str) : Prop := Fre w ∧ w.length ≤ 11
theorem wd_fs {w : Str} (h : Wd rsteps w) : FS w := by
  have := wd_ok w h.mem
  unfold wdOk at this
  simp only [Bool.and_eq_true, decide_eq_true_eq] at this
  exact ⟨⟨this.2.1, this.2.2.1⟩, this.2.2.2⟩
theorem e_r : ∀ s ∈ esteps, s ∈ rsteps := by decide +kernel
theorem ask_fs : FS "ask" := ⟨⟨by decide +kernel, by decide +kernel⟩, by decide +kernel⟩
theorem areWords_iff {ws ss : List Str} : areWords ws ss = true ↔ ∀ w ∈ ws, isWord w ss = true := List.all_eq_true
theorem isRound_iff {B : List Str} : isRound B = true ↔ ∃ r, B = ("ask" : Str) :: r ∧ B.length ≤ 12 ∧ (B.filter isAdd).length ≤ 1 ∧ ∀ w ∈ r, isWord w rsteps = true := by
  unfold isRound
  simp only [Bool.and_eq_true, decide_eq_true_eq, areWords_iff]
  constructor
  · rintro ⟨h1, h2, h3, h4⟩
    cases B with
    | nil => cases h1
    | cons x r =>
      have : x = "ask" := Option.some.inj h1
      subst this
      exact ⟨r, rfl, h2, h3, h4⟩
  · rintro ⟨r, rfl, h2, h3, h4⟩
    exact ⟨rfl, h2, h3, h4⟩
theorem isEnding_iff {E : List Str} : isEnding E = true ↔ E.length ≤ 6 ∧ ∀ w ∈ E, isWord w esteps = true := by
  unfold isEnding
  simp only [Bool.and_eq_true, decide_eq_true_eq, areWords_iff]
theorem round_fs {B : List Str} (h : isRound B = true) : ∀ w ∈ B, FS w := by
  obtain ⟨r, rfl, _, _, h4⟩ := isRound_iff.mp h
  intro w hw
  rcases List.mem_cons.mp hw with rfl | hw
  · exact ask_fs
  · exact wd_fs (word_wd (h4 w hw))
theorem ending_fs {E : List Str} (h : isEnding E = true) : ∀ w ∈ E, FS w := fun w hw => wd_fs ((word_wd ((isEnding_iff.mp h).2 w hw)).mono e_r)
theorem round_ne {B : List Str} (h : isRound B = true) : B ≠ [] := by
  obtain ⟨r, rfl, _⟩ := isRound_iff.mp h
  simp
theorem round_sht {B : List Str} (h : isRound B = true) : Sht 12 B := ⟨fun w hw => (round_fs h w hw).2, let ⟨_, _, h2, _⟩ := isRound_iff.mp h; h2⟩
theorem ending_sht {E : List Str} (h : isEnding E = true) : Sht 6 E := ⟨fun w hw => (ending_fs h w hw).2, (isEnding_iff.mp h).1⟩
theorem Sht.mono {n m : Nat} {B : List Str} (h : Sht n B) (l : n ≤ m) : Sht m B := ⟨h.1, Nat.le_trans h.2 l⟩
theorem text_words {B E : List Str} (hB : isRound B = true) (hE : isEnding E = true) : wordsR (textOf B E) = B ∧ wordsE (textOf B E) = E := words_text (round_ne hB) (fun w hw => (round_fs hB w hw).1) (fun w hw => (ending_fs hE w hw).1)
theorem text_good {B E : List Str} (hB : isRound B = true) (hE : isEnding E = true) : goodText (textOf B E) = true := by
  have := text_words hB hE
  unfold goodText
  rw [this.1, this.2, hB, hE]
  rfl
theorem text_len {B E : List Str} (hB : isRound B = true) (hE : isEnding E = true) : (textOf B E).length ≤ 300 := by
  have h1 := (round_sht hB).join
  have h2 := (ending_sht hE).join
  unfold textOf
  split
  · omega
  · rw [strLen_append, strLen_append]
    have : (" | " : Str).length = 3 := by decide +kernel
    omega
/-- without the word at i -/
theorem round_erase {B : List Str} {i : Nat} (hB : isRound B = true) (hi : 1 ≤ i) : isRound (B.eraseIdx i) = true := by
  obtain ⟨r, rfl, h2, h3, h4⟩ := isRound_iff.mp hB
  obtain ⟨k, rfl⟩ : ∃ k, i = k + 1 := ⟨i - 1, by omega⟩
  have sub : (("ask" : Str) :: r.eraseIdx k).Sublist (("ask" : Str) :: r) := (List.eraseIdx_sublist r k).cons_cons _
  refine isRound_iff.mpr ⟨r.eraseIdx k, rfl, Nat.le_trans sub.length_le h2, Nat.le_trans (sub.filter isAdd).length_le h3, fun w hw => h4 w ((List.eraseIdx_sublist r k).subset hw)⟩
theorem ending_erase {E : List Str} {i : Nat} (hE : isEnding E = true) : isEnding (E.eraseIdx i) = true := by
  have h := isEnding_iff.mp hE
  exact isEnding_iff.mpr ⟨Nat.le_trans (List.eraseIdx_sublist E i).length_le h.1, fun w hw => h.2 w ((List.eraseIdx_sublist E i).subset hw)⟩
theorem good_iff {t : Str} : goodText t = true ↔ isRound (wordsR t) = true ∧ isEnding (wordsE t) = true := Bool.and_eq_true_iff
end LM

/-! loops that are drawn -/
namespace LM
open PySem L2 TL
def sBar : Str := " | "
def sSp : Str := " "
def samples : List Str := ["ask empty:stop hand", "ask hand short:stop", "ask add cut told:stop | rest:flush", "ask told:stop hand", "ask add empty:stop | rest:flush", "ask add cut empty:stop | flush", "ask some:hand told:stop", "ask empty:stop add cut | rest:flush", "ask empty:again hand told:stop", "ask add full:flush told:stop"]
def sampP (s : Str) : List Str := Txt.split s " | "
def sampB (s : Str) : List Str := Txt.split ((sampP s).getD 0 Str.empty) " "
def sampE (s : Str) : List Str := if (sampP s).length > 1 then Txt.split ((sampP s).getD 1 Str.empty) " " else []
def sampOk (s : Str) : Bool := isRound (sampB s) && (isEnding (sampE s) && (decide ((sampB s).length ≤ 4) && (decide ((sampE s).length ≤ 1) && (decide (1 ≤ (sampP s).length) && (decide (s.length ≤ 100) && (sampP s).all fun p => decide (p.length ≤ 100))))))
theorem samp_ok : ∀ s ∈ samples, sampOk s = true := by decide +kernel
structure Samp (s : Str) : Prop where
  r : isRound (sampB s) = true
  e : isEnding (sampE s) = true
  lb : (sampB s).length ≤ 4
  le : (sampE s).length ≤ 1
  l1 : 1 ≤ (sampP s).length
  ls : s.length ≤ 100
  lp : ∀ p ∈ sampP s, p.length ≤ 100
theorem samp_of {s : Str} (h : s ∈ samples) : Samp s := by
  have := samp_ok s h
  unfold sampOk at this
  simp only [Bool.and_eq_true, decide_eq_true_eq, List.all_eq_true] at this
  exact ⟨this.1, this.2.1, this.2.2.1, this.2.2.2.1, this.2.2.2.2.1, this.2.2.2.2.2.1, this.2.2.2.2.2.2⟩
/-! ### a word more -/
def plain5 : List Str := ["hand", "cut", "flush", "stop", "again"]
theorem wd_round {w : Str} (h : Wd rsteps w) : isWord w rsteps = true := by
  have := wd_ok w h.mem
  unfold wdOk at this
  exact (Bool.and_eq_true_iff.mp this).1
theorem wd_ending {w : Str} (h : Wd esteps w) : isWord w esteps = true := wd_end w h.mem
theorem wd_plain {w : Str} (h : Wd plain5 w) : isAdd w = false := wd_noadd w h.mem
theorem ask_noadd : isAdd "ask" = false := by decide +kernel
theorem ins_round {B xs : List Str} {i : Nat} (hB : isRound B = true) (hi : 1 ≤ i) (hx : ∀ x ∈ xs, isWord x rsteps = true) (hl : B.length + xs.length ≤ 12) (ha : (B.filter isAdd).length + (xs.filter isAdd).length ≤ 1) :
    isRound (B.take i ++ xs ++ B.drop i) = true := by
  obtain ⟨r, rfl, h2, h3, h4⟩ := isRound_iff.mp hB
  obtain ⟨k, rfl⟩ : ∃ k, i = k + 1 := ⟨i - 1, by omega⟩
  refine isRound_iff.mpr ⟨r.take k ++ xs ++ r.drop k, rfl, ?_, ?_, fun w hw => ?_⟩
  · rw [List.length_append, List.length_append, List.length_take, List.length_drop]
    omega
  · rw [List.filter_append, List.filter_append, List.length_append, List.length_append]
    have e : (((("ask" : Str) :: r).take (k + 1)).filter isAdd).length + (((("ask" : Str) :: r).drop (k + 1)).filter isAdd).length = ((("ask" : Str) :: r).filter isAdd).length := by
      rw [← List.length_append, ← List.filter_append, List.take_append_drop]
    omega
  · rcases List.mem_append.mp hw with hw | hw
    · rcases List.mem_append.mp hw with hw | hw
      · exact h4 w (List.mem_of_mem_take hw)
      · exact hx w hw
    · exact h4 w (List.mem_of_mem_drop hw)
theorem ask_round {ws : List Str} (h : ∀ w ∈ ws, Wd plain5 w) (hl : ws.length ≤ 11) : isRound (("ask" : Str) :: ws) = true ∧ ((("ask" : Str) :: ws).filter isAdd).length = 0 := by
  have e : ((("ask" : Str) :: ws).filter isAdd) = [] := by
    refine List.filter_eq_nil_iff.mpr fun w hw => ?_
    rcases List.mem_cons.mp hw with rfl | hw
    · rw [ask_noadd]; exact Bool.false_ne_true
    · rw [wd_plain (h w hw)]; exact Bool.false_ne_true
  refine ⟨isRound_iff.mpr ⟨ws, rfl, by rw [List.length_cons]; omega, by rw [e]; exact Nat.zero_le _, fun w hw => wd_round ((h w hw).mono (by decide +kernel))⟩, by rw [e]; rfl⟩
theorem one_filter {xs : List Str} (h : xs.length = 1) : (xs.filter isAdd).length ≤ 1 := Nat.le_trans (List.length_filter_le ..) (by omega)
theorem none_filter {xs : List Str} (h : ∀ w ∈ xs, Wd plain5 w) : (xs.filter isAdd).length = 0 := by
  rw [show xs.filter isAdd = [] from List.filter_eq_nil_iff.mpr fun w hw => by rw [wd_plain (h w hw)]; exact Bool.false_ne_true]
  rfl
theorem round_adds {B : List Str} (h : isRound B = true) : (B.filter isAdd).length ≤ 1 := let ⟨_, _, _, h3, _⟩ := isRound_iff.mp h; h3
theorem words_ending {E : List Str} (h : ∀ w ∈ E, Wd esteps w) (hl : E.length ≤ 6) : isEnding E = true := isEnding_iff.mpr ⟨hl, fun w hw => wd_ending (h w hw)⟩
/-! ### signs that are signs -/
def Asc (w : Str) : Prop := PyData.strOk w = true
theorem asc_iff {w : Str} : Asc w ↔ ∀ c ∈ tl w, c < 1114112 := by
  unfold Asc PyData.strOk
  rw [← Array.all_toList, List.all_eq_true]
  simp
theorem Asc.app {a b : Str} (ha : Asc a) (hb : Asc b) : Asc (a ++ b) := by
  rw [asc_iff] at ha hb ⊢
  rw [tl_append]
  intro c hc
  exact (List.mem_append.mp hc).elim (ha c) (hb c)
theorem asc_join {B : List Str} (h : ∀ w ∈ B, Asc w) : Asc (Txt.join " " B) := by
  rw [asc_iff, tl_joinSp]
  intro c hc
  rcases joinL_mem hc with hc | ⟨p, hp, hc⟩
  · rw [List.mem_singleton.mp hc]
    decide
  · obtain ⟨w, hw, rfl⟩ := List.mem_map.mp hp
    exact asc_iff.mp (h w hw) c hc
theorem asc_bar : Asc " | " := by unfold Asc; decide +kernel
theorem asc_text {B E : List Str} (h1 : ∀ w ∈ B, Asc w) (h2 : ∀ w ∈ E, Asc w) : Asc (textOf B E) := by
  unfold textOf
  split
  · exact asc_join h1
  · exact ((asc_join h1).app asc_bar).app (asc_join h2)
theorem wd_asc' : ∀ w ∈ allWd rsteps, PyData.strOk w = true := by decide +kernel
theorem wd_asc {w : Str} (h : Wd rsteps w) : Asc w := wd_asc' w h.mem
theorem ask_asc : Asc "ask" := by unfold Asc; decide +kernel
theorem round_asc {B : List Str} (h : isRound B = true) : ∀ w ∈ B, Asc w := by
  obtain ⟨r, rfl, _, _, h4⟩ := isRound_iff.mp h
  intro w hw
  rcases List.mem_cons.mp hw with rfl | hw
  · exact ask_asc
  · exact wd_asc (word_wd (h4 w hw))
theorem ending_asc {E : List Str} (h : isEnding E = true) : ∀ w ∈ E, Asc w := fun w hw => wd_asc ((word_wd ((isEnding_iff.mp h).2 w hw)).mono e_r)
end LM

/-! the loops that the law draws -/
namespace My
open PySem L2 Cm LM
abbrev sWords : Stmt := top 46
abbrev sLoop : Stmt := top 47
abbrev sLine : Stmt := top 48
structure TxD (K : PySem.W.Frag) (mg : Str → Option Value) where
  J : TxtJ mg
  range : mg "range" = none
  sip : Df K mg "_law_sip" sSip ["_law_jar_here", "_law_many"]
  frm : Df K mg "_law_from" sFrom ["_law_jar_here", "_law_things"]
  wds : Df K mg "_law_words" sWords ["_law_jar_here", "_law_steps", "_law_many"]
  lop : Df K mg "_law_loop" sLoop ["_law_jar_here", "_law_most"]
  lin : Df K mg "_law_line" sLine ["_law_begun", "_law_ended"]
section
variable {P : Program} {w : World} {K : PySem.W.Frag} {mg : Str → Option Value} {base : Heap}
theorem gk_sip (D : TxD K mg) : FnOk P w K mg base CX0 1 D.sip.f D.sip.fd ["_law_jar_here", "_law_many"] spSip := ok_sip D.sip.F D.J
theorem gk_from (D : TxD K mg) : FnOk P w K mg base CX0 2 D.frm.f D.frm.fd ["_law_jar_here", "_law_things"] (spFrom K) := ok_from D.frm.F D.J ⟨D.sip.g, D.sip.k⟩ D.sip.F D.sip.b
/-! ### _law_words -/
def spWords (K : PySem.W.Frag) : Sp := fun vs H Q _ => ∃ (j p : Addr) (ss : List Str) (m : Nat), vs = [.ref j, .ref p, .int m] ∧ Jar H j ∧ p ≠ j ∧ SqL K H p (svs ss) ∧ 0 < ss.length ∧ ss.length ≤ 1000 ∧ (∀ s ∈ ss, s.length ≤ 100) ∧ m ≤ 100 ∧
  ∀ (H' : Hp) (q : Addr) (ws : List Str), Off j H H' → Jar H' j → H q = none → H' q = some (.lst (svs ws)) → ws.length = m → (∀ w ∈ ws, Wd ss w) → Q (.ref q) H'
theorem scWords : FnScope ["_law_jar_here", "_law_steps", "_law_many", "_law_tests", "_law_found", "_law_turn", "_law_word_here"] ["_law_jar_here", "_law_steps", "_law_many"] (defScope sWords) := ⟨rfl, rfl, rfl, by decide +kernel, rfl, by decide +kernel, by decide +kernel⟩
/-- any answer, after some draws -/
def tAny (i : Nat) : TT := fun σ H Q => ∃ (j : Addr) (x : Str), σ[0]? = some (some (.ref j)) ∧ σ[i]? = some (some (.str x)) ∧ Jar H j ∧ ∀ (b : Bool) (H' : Hp), Off j H H' → Jar H' j → Q b H'
theorem ok_words (D : TxD K mg) : FnOk P w K mg base CX0 3 D.wds.f D.wds.fd ["_law_jar_here", "_law_steps", "_law_many"] (spWords K) := by
  have GS : FnOk P w K mg base CX0 1 D.sip.f D.sip.fd ["_law_jar_here", "_law_many"] spSip := gk_sip D
  have GF : FnOk P w K mg base CX0 2 D.frm.f D.frm.fd ["_law_jar_here", "_law_things"] (spFrom K) := gk_from D
  refine D.wds.F.ok scWords (fun vs H Q E h => ?_) (fun cdv A outer s H vs Q E hr h => ?_)
  · obtain ⟨j, p, ss, m, rfl, _⟩ := h
    rfl
  · obtain ⟨j, p, ss, m, rfl, hJ, npj, hp, l0, l1, lw, hm, k⟩ := h
    have hr1 : Room 1 _ := hr.mono (by decide)
    refine ⟨_, pss_cons (ps_set (i := 3) scWords.nd rfl (.inl rfl) (pe_lst (pa_cons pe_str (pa_cons pe_str (pa_cons pe_str (pa_cons pe_str (pa_cons pe_str (pa_cons pe_str (pa_cons pe_str (pa_cons pe_str pa_nil))))))))))
      (pss_cons (ps_set (i := 4) scWords.nd rfl (.inl rfl) (pe_lst pa_nil))
      (pss_cons (ps_for PassesOwn.never rfl (pi_range1 rfl D.range (pa_cons (pv 2) pa_nil)) (pg_name (i := 5) scWords.nd rfl (Or.inl rfl))
        (pss_cons (ps_set (i := 6) scWords.nd rfl (.inl rfl) (pe_call GF hr rfl D.frm.g D.frm.k D.frm.b .nil pass0 (pa_cons (pv 0) (pa_cons (pv 1) pa_nil))))
        (C8.pss_cut (ps_if (pt_imp (t' := tAny 6) (PW.pt (pw_or (PW.pt (pw_and (pt_cmpR op_in_seq (pv 6) (pe_lst (pa_cons pe_str (pa_cons pe_str pa_nil))) (by rfl)) (pw_and1 (pt_cmpR op_gt (pe_call GS hr1 rfl D.sip.g D.sip.k D.sip.b .nil pass0 (pa_cons (pv 0) (pa_cons pe_int pa_nil))) pe_int (nomark _)))))
            (pw_or1 (pt_cmpR op_eq (pe_call GS hr1 rfl D.sip.g D.sip.k D.sip.b .nil pass0 (pa_cons (pv 0) (pa_cons pe_int pa_nil))) pe_int (nomark _))))) ?imp)
          (pss_one (ps_set (i := 6) scWords.nd rfl (.inl rfl) (pe_op op_add_str (pe_op op_add_str (pe_call GF hr rfl D.frm.g D.frm.k D.frm.b .nil pass0 (pa_cons (pv 0) (pa_cons (pv 3) pa_nil))) pe_str) (pv 6)))) pss_nil)
        (pss_one (ps_expr (pe_bm PySem.F.plainAttrs_list PySem.F.slot_list_append PySem.F.type_list_append mt_append (pv 4) (pa_cons (pv 6) pa_nil)))))))
      (pss_one (ps_ret (pv 4))))), ?_⟩
    case imp =>
      rintro σ H1 Q1 ⟨j1, x, h0, h6, J1, q⟩
      refine ⟨_, h6, (by show 2 ≤ sizeLine; decide), fun l nl => ?_⟩
      have third : ∀ H2, Off j1 H1 H2 → Jar H2 j1 → tTest (tOp rEq (tCall spSip [] E (tCons (tVar 0) (tCons (tC (.int 3)) tNil))) (tC (.int 0))) σ H2 Q1 := fun H2 o2 J2 =>
        ⟨_, h0, j1, 3, rfl, J2, by decide, by decide, fun H3 d _ _ o3 J3 => ⟨rfl, _, rfl, q _ _ (o2.trans o3) J3⟩⟩
      refine ⟨l, [.str "stop", .str "again"], rfl, .inl (SqL.of upd_same), rfl, rfl, _, rfl, ?_⟩
      have oN : Off j1 H1 (upd H1 l (.lst [.str "stop", .str "again"])) := Off.new Off.refl nl
      have JN := J1.new (o := .lst [.str "stop", .str "again"]) nl
      refine ite2 (fun _ => ?_) (fun _ => ?_)
      · refine ⟨_, h0, j1, 5, rfl, JN, by decide, by decide, fun H3 d _ _ o3 J3 => ⟨_, _, rfl, rfl, _, rfl, ?_⟩⟩
        refine ite2 (fun _ => ?_) (fun _ => ?_)
        · exact q _ _ (oN.trans o3) J3
        · exact third _ (oN.trans o3) J3
      · exact iteF (third _ oN JN)
    refine ⟨(by show 8 ≤ sizeLine; decide), fun t nt => ?_⟩
    refine ⟨Nat.zero_le _, fun q nq => ?_⟩
    have s0 : Same H (upd (upd H t (.lst (svs tests))) q (.lst [])) := Same.trans (same_new nt) (same_new nq)
    have ht : (upd (upd H t (.lst (svs tests))) q (.lst [])) t = some (.lst (svs tests)) := same_new nq _ _ upd_same
    have hq : (upd (upd H t (.lst (svs tests))) q (.lst [])) q = some (.lst (svs [])) := upd_same
    have nq0 : H q = none := (same_new nt).free nq
    have tq : t ≠ q := fun z => by rw [z, upd_same] at nq; cases nq
    have tj := jar_ne hJ nt
    have qj := jar_ne hJ nq0
    show tSeq _ _ _ _ (upd (upd H t (.lst (svs tests))) q (.lst []))
    generalize upd (upd H t (.lst (svs tests))) q (.lst []) = H1 at s0 ht hq ⊢
    refine ⟨_, rfl, m, rfl, by omega, by omega, for_range (lo := 0) (n := ((m : Int)).toNat) (fun i σ H' => ∃ (v5 v6 : Option V) (ws : List Str), σ = [some (.ref j), some (.ref p), some (.int m), some (.ref t), some (.ref q), v5, v6] ∧ Off j H H' ∧ Jar H' j ∧ H' t = some (.lst (svs tests)) ∧ H' q = some (.lst (svs ws)) ∧ ws.length = i ∧ ∀ w ∈ ws, Wd ss w)
      ⟨none, none, [], rfl, Same.off s0, hJ.same s0, ht, hq, rfl, fun w hw => nomatch hw⟩ ?_ ?_⟩
    · rintro i σ H' hi ⟨v5, v6, ws, rfl, o, J, ht', hq', lws, hws⟩
      refine ⟨_, rfl, _, rfl, j, p, svs ss, rfl, J, npj, o.seq npj hp, by rw [svs, List.length_map]; exact l0, by rw [svs, List.length_map]; omega, fun H2 n x hx o2 J2 => ?_⟩
      obtain ⟨z, hz, rfl⟩ := svs_get hx
      have zm : z ∈ ss := List.mem_of_getElem? hz
      refine ⟨fun σ H' => ∃ w, σ = [some (.ref j), some (.ref p), some (.int m), some (.ref t), some (.ref q), some (.int (0 + (i : Int))), some (.str w)] ∧ Off j H H' ∧ Jar H' j ∧ H' t = some (.lst (svs tests)) ∧ H' q = some (.lst (svs ws)) ∧ Wd ss w, ?_, ?_⟩
      · refine ⟨j, z, rfl, rfl, J2, fun b H3 o3 J3 => ?_⟩
        have o13 := (o.trans o2).trans o3
        have ht3 := o3 _ _ tj (o2 _ _ tj ht')
        have hq3 := o3 _ _ qj (o2 _ _ qj hq')
        cases b with
        | false => exact iteF ⟨z, rfl, o13, J3, ht3, hq3, z, zm, .inl rfl⟩
        | true =>
          refine iteT ?_
          refine ⟨_, rfl, _, rfl, j, t, svs tests, rfl, J3, tj, SqL.of ht3, by decide, by decide, fun H4 n4 x4 hx4 o4 J4 => ?_⟩
          obtain ⟨y, hy, rfl⟩ := svs_get hx4
          have ym : y ∈ tests := List.mem_of_getElem? hy
          have yl : y.length ≤ 5 := (show ∀ y ∈ tests, y.length ≤ 5 by decide +kernel) y ym
          have zl := lw z zm
          have c1 : (":" : Str).length = 1 := by decide +kernel
          refine ⟨_, _, rfl, rfl, szl (n := y.length + (":" : Str).length) (by omega), _, rfl, _, _, rfl, rfl, szl (n := (y ++ ":").length + z.length) (by rw [strLen_append]; omega), ?_⟩
          exact ⟨y ++ ":" ++ z, rfl, o13.trans o4, J4, o4 _ _ tj ht3, o4 _ _ qj hq3, z, zm, .inr ⟨y, ym, rfl⟩⟩
      rintro _ H3 ⟨wd, rfl, o3, J3, ht3, hq3, hwd⟩
      refine ⟨_, rfl, .inl ⟨rfl, _, SqL.of hq3⟩, _, rfl, q, _, _, rfl, rfl, hq3, small1000 (by rw [svs, List.length_map]; omega), ?_⟩
      refine ⟨_, _, ws ++ [wd], rfl, o3.put2 nq0, J3.put qj, ?_, ?_, ?_, fun w hw => ?_⟩
      · rw [upd_ne tq]
        exact ht3
      · rw [upd_same]
        simp [svs]
      · rw [List.length_append, lws]
        rfl
      · rcases List.mem_append.mp hw with hw | hw
        · exact hws w hw
        · rw [List.mem_singleton.mp hw]
          exact hwd
    · rintro σ H' ⟨v5, v6, ws, rfl, o, J, ht', hq', lws, hws⟩
      refine ⟨_, rfl, ?_⟩
      exact k H' q ws o J nq0 hq' (by simpa using lws) hws
end
end My

namespace My
open PySem L2 Cm LM
theorem Off.free {j p : Addr} {H H' : Hp} (o : Off j H H') (J : Jar H' j) (n : H' p = none) : H p = none := by
  cases e : H p with
  | none => rfl
  | some u =>
    have := o p u (jar_ne J n) e
    rw [n] at this
    cases this
theorem svs_len' (ws : List Str) : (svs ws).length = ws.length := List.length_map ..
theorem svs_app (a b : List Str) : svs a ++ svs b = svs (a ++ b) := by simp [svs]
theorem svs_take (a : List Str) (n : Nat) : (svs a).take n = svs (a.take n) := by simp [svs, List.map_take]
theorem svs_drop (a : List Str) (n : Nat) : (svs a).drop n = svs (a.drop n) := by simp [svs, List.map_drop]
section
variable {P : Program} {w : World} {K : PySem.W.Frag} {mg : Str → Option Value} {base : Heap}
/-- two lists that make a loop -/
structure Two (j : Addr) (H H' : Hp) (a b : Addr) (B E : List Str) (m : Nat) : Prop where
  o : Off j H H'
  J : Jar H' j
  na : H a = none
  nb : H b = none
  ha : H' a = some (.lst (svs B))
  hb : H' b = some (.lst (svs E))
  rB : isRound B = true
  rE : isEnding E = true
  lB : B.length ≤ m
  lE : E.length ≤ 2
def spLoop : Sp := fun vs H Q _ => ∃ (j : Addr) (m : Nat), vs = [.ref j, .int m] ∧ Jar H j ∧ 4 ≤ m ∧ m ≤ 11 ∧
  ∀ (H' : Hp) (p a b : Addr) (B E : List Str), Two j H H' a b B E (m + 1) → H' p = some (.tup [.ref a, .ref b]) → Q (.ref p) H'
theorem scLoop : FnScope ["_law_jar_here", "_law_most", "_law_some", "_law_parts", "_law_begun", "_law_ended", "_law_at"] ["_law_jar_here", "_law_most"] (defScope sLoop) := ⟨rfl, rfl, rfl, by decide +kernel, rfl, by decide +kernel, by decide +kernel⟩
theorem len_samples : (svs samples).length = 10 := by decide +kernel
theorem ok_loop (D : TxD K mg) : FnOk P w K mg base CX0 4 D.lop.f D.lop.fd ["_law_jar_here", "_law_most"] spLoop := by
  have GS : FnOk P w K mg base CX0 1 D.sip.f D.sip.fd ["_law_jar_here", "_law_many"] spSip := gk_sip D
  have GF : FnOk P w K mg base CX0 2 D.frm.f D.frm.fd ["_law_jar_here", "_law_things"] (spFrom K) := gk_from D
  have GW : FnOk P w K mg base CX0 3 D.wds.f D.wds.fd ["_law_jar_here", "_law_steps", "_law_many"] (spWords K) := ok_words D
  refine D.lop.F.ok scLoop (fun vs H Q E h => ?_) (fun cdv A outer s H vs Q E hr h => ?_)
  · obtain ⟨j, m, rfl, _⟩ := h
    rfl
  · obtain ⟨j, m, rfl, hJ, m0, m1, k⟩ := h
    have hr1 : Room 1 _ := hr.mono (by decide)
    have hr2 : Room 2 _ := hr.mono (by decide)
    refine ⟨_, pss_cons (ps_set (i := 2) scLoop.nd rfl (.inl rfl) (pe_lst (pa_cons pe_str (pa_cons pe_str (pa_cons pe_str (pa_cons pe_str pa_nil))))))
      (pss_cons (ps_set (i := 2) scLoop.nd rfl (.inl rfl) (pe_op op_cat (pv 2) (pe_lst (pa_cons pe_str (pa_cons pe_str (pa_cons pe_str pa_nil))))))
      (pss_cons (ps_set (i := 2) scLoop.nd rfl (.inl rfl) (pe_op op_cat (pv 2) (pe_lst (pa_cons pe_str (pa_cons pe_str pa_nil)))))
      (C8.pss_cut (ps_expr (pe_bm PySem.F.plainAttrs_list PySem.F.slot_list_append PySem.F.type_list_append mt_append (pv 2) (pa_cons pe_str pa_nil)))
      (pss_cons (ps_if (pt_cmpR op_eq (pe_call GS hr1 rfl D.sip.g D.sip.k D.sip.b .nil pass0 (pa_cons (pv 0) (pa_cons pe_int pa_nil))) pe_int (nomark _))
        (pss_cons (ps_set (i := 3) scLoop.nd rfl (.inl rfl) (pe_split (pe_call GF hr2 rfl D.frm.g D.frm.k D.frm.b .nil pass0 (pa_cons (pv 0) (pa_cons (pv 2) pa_nil))) pe_str))
        (pss_cons (ps_par (i := 4) (j := 5) rfl scLoop.nd rfl rfl (by decide) rfl rfl (pa_cons (pe_split (pe_ix ix_list (pv 3) pe_int (fun _ _ => rfl)) pe_str) (pa_cons (pe_lst pa_nil) pa_nil)) (by rfl))
        (C8.pss_cut (ps_if (pt_cmpR op_gt (pe_callB call_len_seq (by rfl) D.J.len PySem.boot_len (pa_cons (pv 3) pa_nil)) pe_int (nomark _)) (pss_one (ps_set (i := 5) scLoop.nd rfl (.inl rfl) (pe_split (pe_ix ix_list (pv 3) pe_int (fun _ _ => rfl)) pe_str))) pss_nil)
        (C8.pss_cut (ps_if (pt_cmpR op_eq (pe_call GS hr1 rfl D.sip.g D.sip.k D.sip.b .nil pass0 (pa_cons (pv 0) (pa_cons pe_int pa_nil))) pe_int (nomark _))
          (pss_cons (ps_set (i := 6) scLoop.nd rfl (.inl rfl) (pe_op op_add pe_int (pe_call GS hr1 rfl D.sip.g D.sip.k D.sip.b .nil pass0 (pa_cons (pv 0) (pa_cons (pe_callB call_len_seq (by rfl) D.J.len PySem.boot_len (pa_cons (pv 4) pa_nil)) pa_nil)))))
          (pss_one (ps_set (i := 4) scLoop.nd rfl (.inl rfl) (pe_op op_cat (pe_op op_cat (pe_slice sl_list (pv 4) po_none (po_some (pv 6))) (pe_call GW hr rfl D.wds.g D.wds.k D.wds.b .nil pass0 (pa_cons (pv 0) (pa_cons (pe_lst (pa_cons pe_str (pa_cons pe_str (pa_cons pe_str (pa_cons pe_str (pa_cons pe_str pa_nil)))))) (pa_cons pe_int pa_nil)))))
            (pe_slice sl_list (pv 4) (po_some (pv 6)) po_none))))) pss_nil)
        (pss_one (ps_ret (pe_tup (pa_cons (pv 4) (pa_cons (pv 5) pa_nil))))))))) pss_nil)
      (pss_cons (ps_set (i := 4) scLoop.nd rfl (.inl rfl) (pe_op op_cat (pe_lst (pa_cons pe_str pa_nil)) (pe_call GW hr rfl D.wds.g D.wds.k D.wds.b .nil pass0 (pa_cons (pv 0) (pa_cons (pe_lst (pa_cons pe_str (pa_cons pe_str (pa_cons pe_str (pa_cons pe_str (pa_cons pe_str (pa_cons pe_str pa_nil))))))) (pa_cons (pe_call GS hr1 rfl D.sip.g D.sip.k D.sip.b .nil pass0 (pa_cons (pv 0) (pa_cons (pv 1) pa_nil))) pa_nil))))))
      (C8.pss_cut (ps_if (pt_cmpR op_eq (pe_call GS hr1 rfl D.sip.g D.sip.k D.sip.b .nil pass0 (pa_cons (pv 0) (pa_cons pe_int pa_nil))) pe_int (nomark _))
          (pss_cons (ps_set (i := 6) scLoop.nd rfl (.inl rfl) (pe_op op_add pe_int (pe_call GS hr1 rfl D.sip.g D.sip.k D.sip.b .nil pass0 (pa_cons (pv 0) (pa_cons (pe_callB call_len_seq (by rfl) D.J.len PySem.boot_len (pa_cons (pv 4) pa_nil)) pa_nil)))))
          (pss_one (ps_set (i := 4) scLoop.nd rfl (.inl rfl) (pe_op op_cat (pe_op op_cat (pe_slice sl_list (pv 4) po_none (po_some (pv 6))) (pe_call GW hr rfl D.wds.g D.wds.k D.wds.b .nil pass0 (pa_cons (pv 0) (pa_cons (pe_lst (pa_cons pe_str pa_nil)) (pa_cons pe_int pa_nil)))))
            (pe_slice sl_list (pv 4) (po_some (pv 6)) po_none))))) pss_nil)
      (pss_one (ps_ret (pe_tup (pa_cons (pv 4) (pa_cons (pe_call GW hr rfl D.wds.g D.wds.k D.wds.b .nil pass0 (pa_cons (pv 0) (pa_cons (pe_lst (pa_cons pe_str (pa_cons pe_str (pa_cons pe_str pa_nil)))) (pa_cons (pe_call GS hr1 rfl D.sip.g D.sip.k D.sip.b .nil pass0 (pa_cons (pv 0) (pa_cons pe_int pa_nil))) pa_nil)))) pa_nil))))))))))), ?_⟩
    -- the samples
    refine ⟨(by show 4 ≤ sizeLine; decide), fun x1 n1 => ?_⟩
    refine ⟨_, rfl, (by show 3 ≤ sizeLine; decide), fun x2 n2 => ⟨x1, x2, _, _, rfl, rfl, same_new n2 _ _ upd_same, upd_same, (by show 7 ≤ sizeLine; decide), fun x3 n3 => ?_⟩⟩
    refine ⟨_, rfl, (by show 2 ≤ sizeLine; decide), fun x4 n4 => ⟨x3, x4, _, _, rfl, rfl, same_new n4 _ _ upd_same, upd_same, (by show 9 ≤ sizeLine; decide), fun x5 n5 => ?_⟩⟩
    refine ⟨fun σ H' => ∃ p, σ = [some (.ref j), some (.int m), some (.ref p), none, none, none, none] ∧ Off j H H' ∧ Jar H' j ∧ p ≠ j ∧ H' p = some (.lst (svs samples)), ?_, ?_⟩
    · refine ⟨_, rfl, .inl ⟨rfl, _, SqL.of upd_same⟩, x5, _, _, rfl, rfl, upd_same, small1000 (by show 9 ≤ 1000; decide), ?_⟩
      have n50 : H x5 = none := Same.free (Same.trans (same_new n1) (Same.trans (same_new n2) (Same.trans (same_new n3) (same_new n4)))) n5
      exact ⟨x5, rfl, (Same.off (j := j) (Same.trans (same_new n1) (Same.trans (same_new n2) (Same.trans (same_new n3) (Same.trans (same_new n4) (same_new n5)))))).put2 n50, (hJ.same (Same.trans (same_new n1) (Same.trans (same_new n2) (Same.trans (same_new n3) (Same.trans (same_new n4) (same_new n5)))))).put (jar_ne hJ n50), jar_ne hJ n50, upd_same⟩
    rintro _ H1 ⟨p, rfl, o1, J1, pj, hp⟩
    clear n1 n2 n3 n4 n5
    refine ⟨_, rfl, j, 3, rfl, J1, by decide, by decide, fun H2 d _ _ o2 J2 => ⟨rfl, _, rfl, ?_⟩⟩
    have o12 := o1.trans o2
    have hp2 := o2 _ _ pj hp
    clear o1 o2 J1 hp
    refine ite2 (fun _ => ?_) (fun _ => ?_)
    · -- a sample
      refine ⟨_, rfl, _, rfl, j, p, _, rfl, J2, pj, SqL.of hp2, by rw [len_samples]; decide, by rw [len_samples]; decide, fun H3 i x hx o3 J3 => ?_⟩
      obtain ⟨t, ht, rfl⟩ := svs_get hx
      have S := samp_of (List.mem_of_getElem? ht)
      have o13 := o12.trans o3
      refine ⟨⟨_, rfl⟩, t, " | ", rfl, rfl, by decide +kernel, Nat.le_trans (Nat.add_le_add_right S.ls 2) (by decide), fun q nq => ?_⟩
      have nq0 := o13.free J3 nq
      have qj := jar_ne hJ nq0
      have hq4 : (upd H3 q (.lst (svs (sampP t)))) q = some (.lst (svs (sampP t))) := upd_same
      have o14 : Off j H (upd H3 q (.lst (svs (sampP t)))) := o13.new nq
      have J4 := J3.new (o := .lst (svs (sampP t))) nq
      show tSeq _ _ _ _ (upd H3 q (.lst (svs (sampP t))))
      generalize upd H3 q (.lst (svs (sampP t))) = H4 at hq4 o14 J4 ⊢
      have g0 : (sampP t)[0]? = some ((sampP t).getD 0 Str.empty) := by
        rw [List.getD_eq_getElem?_getD, List.getElem?_eq_getElem S.l1]
        rfl
      have l0 : ((sampP t).getD 0 Str.empty).length ≤ 100 := S.lp _ (List.mem_of_getElem? g0)
      refine ⟨_, rfl, q, _, 0, .str ((sampP t).getD 0 Str.empty), rfl, rfl, SqL.of hq4, (show atI _ ((0 : Nat) : Int) = _ from atI_nat (by rw [svs, List.getElem?_map, g0]; rfl)), ⟨_, rfl⟩, _, " ", rfl, rfl, by decide +kernel, Nat.le_trans (Nat.add_le_add_right l0 2) (by decide), fun a na => ?_⟩
      refine ⟨Nat.zero_le _, fun b nb => ?_⟩
      refine ⟨_, _, rfl, ?_⟩
      have na0 := o14.free J4 na
      have o15 : Off j H (upd H4 a (.lst (svs (sampB t)))) := o14.new na
      have J5 := J4.new (o := .lst (svs (sampB t))) na
      have nb0 := o15.free J5 nb
      have ha6 : (upd (upd H4 a (.lst (svs (sampB t)))) b (.lst [])) a = some (.lst (svs (sampB t))) := same_new nb _ _ upd_same
      have hb6 : (upd (upd H4 a (.lst (svs (sampB t)))) b (.lst [])) b = some (.lst (svs [])) := upd_same
      have hq6 : (upd (upd H4 a (.lst (svs (sampB t)))) b (.lst [])) q = some (.lst (svs (sampP t))) := same_new nb _ _ (same_new na _ _ hq4)
      have o16 : Off j H (upd (upd H4 a (.lst (svs (sampB t)))) b (.lst [])) := o15.new nb
      have J6 := J5.new (o := .lst []) nb
      show C8.tCut _ _ _ _ (upd (upd H4 a (.lst (svs (sampB t)))) b (.lst []))
      generalize upd (upd H4 a (.lst (svs (sampB t)))) b (.lst []) = H6 at ha6 hb6 hq6 o16 J6 ⊢
      clear nb na o15 J5
      refine ⟨fun σ H' => ∃ b, σ = [some (.ref j), some (.int m), some (.ref p), some (.ref q), some (.ref a), some (.ref b), none] ∧ Two j H H' a b (sampB t) (sampE t) 4, ?_, ?_⟩
      · refine ⟨_, rfl, q, _, rfl, .inl (SqL.of hq6), _, _, rfl, rfl, _, rfl, ?_⟩
        rw [svs_len']
        refine ite2 (fun c => ?_) (fun c => ?_)
        · have c1 : 1 < (sampP t).length := by have := of_decide_eq_true c; omega
          have g1 : (sampP t)[1]? = some ((sampP t).getD 1 Str.empty) := by
            rw [List.getD_eq_getElem?_getD, List.getElem?_eq_getElem c1]
            rfl
          have l1 : ((sampP t).getD 1 Str.empty).length ≤ 100 := S.lp _ (List.mem_of_getElem? g1)
          refine ⟨_, rfl, q, _, 1, .str ((sampP t).getD 1 Str.empty), rfl, rfl, SqL.of hq6, (show atI _ ((1 : Nat) : Int) = _ from atI_nat (by rw [svs, List.getElem?_map, g1]; rfl)), ⟨_, rfl⟩, _, " ", rfl, rfl, by decide +kernel, Nat.le_trans (Nat.add_le_add_right l1 2) (by decide), fun b2 nb2 => ?_⟩
          have e : sampE t = Txt.split ((sampP t).getD 1 Str.empty) " " := by unfold sampE; rw [if_pos c1]
          exact ⟨b2, rfl, o16.new nb2, J6.new nb2, na0, o16.free J6 nb2, same_new nb2 _ _ ha6, by rw [e]; exact upd_same, S.r, S.e, S.lb, Nat.le_trans S.le (by decide)⟩
        · have c1 : ¬ (sampP t).length > 1 := fun z => c (decide_eq_true (by omega))
          have e : sampE t = [] := by unfold sampE; rw [if_neg c1]
          exact ⟨b, rfl, o16, J6, na0, nb0, ha6, by rw [e]; exact hb6, S.r, S.e, S.lb, Nat.le_trans S.le (by decide)⟩
      rintro _ H7 ⟨b, rfl, W⟩
      clear ha6 hb6 hq6 o16 J6 hq4 o14 J4 nb0 g0
      refine ⟨fun σ H' => ∃ (a : Addr) (B : List Str) (v6 : Option V), σ = [some (.ref j), some (.int m), some (.ref p), some (.ref q), some (.ref a), some (.ref b), v6] ∧ Two j H H' a b B (sampE t) 5, ?_, ?_⟩
      · refine ⟨_, rfl, j, 2, rfl, W.J, by decide, by decide, fun H8 d _ _ o8 J8 => ⟨rfl, _, rfl, ?_⟩⟩
        have aj := jar_ne hJ W.na
        have bj := jar_ne hJ W.nb
        have ha8 := o8 _ _ aj W.ha
        have hb8 := o8 _ _ bj W.hb
        have o18 := W.o.trans o8
        refine ite2 (fun _ => ?_) (fun _ => ?_)
        · have lb1 : 1 ≤ (sampB t).length := List.length_pos_iff.mpr (round_ne W.rB)
          refine ⟨_, rfl, _, rfl, a, _, rfl, .inl (SqL.of ha8), j, _, rfl, J8, by rw [svs_len']; omega, by rw [svs_len']; have := W.lB; omega, fun H9 d2 d20 d21 o9 J9 => ⟨_, _, rfl, rfl, ?_⟩⟩
          rw [svs_len'] at d21
          obtain ⟨n, rfl⟩ := Int.eq_ofNat_of_zero_le d20
          have ha9 := o9 _ _ aj ha8
          have o19 := o18.trans o9
          refine ⟨_, rfl, _, rfl, ((1 + n : Nat) : Int), by simp, a, _, rfl, SqL.of ha9, fun x1 nx1 => ?_⟩
          rw [cut_to _ _ (by rw [svs_len']; omega), svs_take]
          refine ⟨_, rfl, (by show 5 ≤ sizeLine; decide), fun x2 nx2 => ?_⟩
          have o20 := (o19.new (o := .lst (svs ((sampB t).take (1 + n)))) nx1).new (o := .lst (svs plain5)) nx2
          have J20 := (J9.new (o := .lst (svs ((sampB t).take (1 + n)))) nx1).new (o := .lst (svs plain5)) nx2
          refine ⟨j, x2, plain5, 1, rfl, J20, jar_ne (J9.new nx1) nx2, SqL.of upd_same, by decide, by decide, by decide +kernel, by decide, fun H10 x3 ws o10 J10 nx3 hx3 lw hw => ?_⟩
          have x1j := jar_ne J9 nx1
          refine ⟨x1, x3, _, _, rfl, rfl, o10 _ _ x1j (same_new nx2 _ _ upd_same), hx3, ?_, fun x4 nx4 => ?_⟩
          · rw [svs_len', svs_len', List.length_take]
            have := W.lB
            exact szl (by omega)
          rw [svs_app]
          have ha10 := o10 _ _ aj (same_new nx2 _ _ (same_new nx1 _ _ ha9))
          refine ⟨_, rfl, _, rfl, ((1 + n : Nat) : Int), by simp, a, _, rfl, SqL.of (same_new nx4 _ _ ha10), fun x5 nx5 => ?_⟩
          rw [cut_from, svs_drop]
          refine ⟨x4, x5, _, _, rfl, rfl, same_new nx5 _ _ upd_same, upd_same, ?_, fun x6 nx6 => ?_⟩
          · rw [svs_len', svs_len', List.length_append, List.length_take, List.length_drop]
            have := W.lB
            exact szl (by omega)
          rw [svs_app]
          have o21 := o20.trans o10
          have na6 := (((o21.new (o := .lst (svs ((sampB t).take (1 + n) ++ ws))) nx4).new (o := .lst (svs ((sampB t).drop (1 + n)))) nx5)).free ((J10.new nx4).new nx5) nx6
          refine ⟨x6, _, _, rfl, ((o21.new nx4).new nx5).new nx6, ((J10.new nx4).new nx5).new nx6, na6, W.nb, upd_same, same_new nx6 _ _ (same_new nx5 _ _ (same_new nx4 _ _ (o10 _ _ bj (same_new nx2 _ _ (same_new nx1 _ _ (o9 _ _ bj hb8)))))), ?_, W.rE, ?_, W.lE⟩
          · refine ins_round W.rB (by omega) (fun x hx => wd_round ((hw x hx).mono (by decide +kernel))) (by have := W.lB; omega) ?_
            rw [none_filter hw]
            exact round_adds W.rB
          · rw [List.length_append, List.length_append, List.length_take, List.length_drop]
            have := W.lB
            omega
        · exact ⟨a, sampB t, none, rfl, o18, J8, W.na, W.nb, ha8, hb8, W.rB, W.rE, Nat.le_trans W.lB (by decide), W.lE⟩
      rintro _ H8 ⟨a, B, v6, rfl, W⟩
      refine ⟨_, rfl, _, rfl, (by show 2 ≤ sizeLine; decide), fun r nr => ?_⟩
      exact k _ r a b B (sampE t) ⟨W.o.new nr, W.J.new nr, W.na, W.nb, same_new nr _ _ W.ha, same_new nr _ _ W.hb, W.rB, W.rE, Nat.le_trans W.lB (by omega), W.lE⟩ upd_same
    · -- drawn words
      refine ⟨(by show 1 ≤ sizeLine; decide), fun x1 nx1 => ?_⟩
      refine ⟨_, rfl, (by show 6 ≤ sizeLine; decide), fun x2 nx2 => ?_⟩
      have o14 := (o12.new (o := .lst (svs ["ask"])) nx1).new (o := .lst (svs ["hand", "cut", "flush", "stop", "again", "stop"])) nx2
      have J4 := (J2.new (o := .lst (svs ["ask"])) nx1).new (o := .lst (svs ["hand", "cut", "flush", "stop", "again", "stop"])) nx2
      have x1j := jar_ne J2 nx1
      have x2j := jar_ne (J2.new (o := .lst (svs ["ask"])) nx1) nx2
      have h14 : (upd (upd H2 x1 (.lst (svs ["ask"]))) x2 (.lst (svs ["hand", "cut", "flush", "stop", "again", "stop"]))) x1 = some (.lst (svs ["ask"])) := same_new nx2 _ _ upd_same
      have h24 : (upd (upd H2 x1 (.lst (svs ["ask"]))) x2 (.lst (svs ["hand", "cut", "flush", "stop", "again", "stop"]))) x2 = some (.lst (svs ["hand", "cut", "flush", "stop", "again", "stop"])) := upd_same
      show tCall spSip [] E0 _ _ (upd (upd H2 x1 (.lst (svs ["ask"]))) x2 (.lst (svs ["hand", "cut", "flush", "stop", "again", "stop"]))) _
      generalize upd (upd H2 x1 (.lst (svs ["ask"]))) x2 (.lst (svs ["hand", "cut", "flush", "stop", "again", "stop"])) = H4 at o14 J4 h14 h24 ⊢
      refine ⟨_, rfl, _, rfl, j, m, rfl, J4, by omega, by omega, fun H5 d d0 d1 o5 J5 => ?_⟩
      obtain ⟨n, rfl⟩ := Int.eq_ofNat_of_zero_le d0
      refine ⟨j, x2, ["hand", "cut", "flush", "stop", "again", "stop"], n, rfl, J5, x2j, SqL.of (o5 _ _ x2j h24), by decide, by decide, by decide +kernel, by omega, fun H6 x3 ws o6 J6 nx3 hx3 lw hw => ?_⟩
      refine ⟨x1, x3, _, _, rfl, rfl, o6 _ _ x1j (o5 _ _ x1j h14), hx3, ?_, fun a na => ?_⟩
      · rw [svs_len', svs_len']
        exact szl (by show 1 + ws.length ≤ 1000; omega)
      rw [svs_app]
      have o16 := (o14.trans o5).trans o6
      have na0 := o16.free J6 na
      have aj := jar_ne hJ na0
      have hw5 : ∀ w ∈ ws, Wd plain5 w := fun w h => (hw w h).mono (by decide +kernel)
      have R := ask_round hw5 (by omega)
      have ha7 : (upd H6 a (.lst (svs ([("ask" : Str)] ++ ws)))) a = some (.lst (svs (("ask" : Str) :: ws))) := upd_same
      have o17 : Off j H (upd H6 a (.lst (svs ([("ask" : Str)] ++ ws)))) := o16.new na
      have J7 := J6.new (o := .lst (svs ([("ask" : Str)] ++ ws))) na
      show C8.tCut _ _ _ _ (upd H6 a (.lst (svs ([("ask" : Str)] ++ ws))))
      generalize upd H6 a (.lst (svs ([("ask" : Str)] ++ ws))) = H7 at ha7 o17 J7 ⊢
      clear h14 h24 o14 J4 o5 J5 o6 J6 hx3 o16 na x1j x2j
      refine ⟨fun σ H' => ∃ (a : Addr) (B : List Str) (v6 : Option V), σ = [some (.ref j), some (.int m), some (.ref p), none, some (.ref a), none, v6] ∧ Off j H H' ∧ Jar H' j ∧ H a = none ∧ H' a = some (.lst (svs B)) ∧ isRound B = true ∧ B.length ≤ m + 1, ?_, ?_⟩
      · refine ⟨_, rfl, j, 2, rfl, J7, by decide, by decide, fun H8 d _ _ o8 J8 => ⟨rfl, _, rfl, ?_⟩⟩
        have ha8 := o8 _ _ aj ha7
        have o18 := o17.trans o8
        refine ite2 (fun _ => ?_) (fun _ => ?_)
        · refine ⟨_, rfl, _, rfl, a, _, rfl, .inl (SqL.of ha8), j, _, rfl, J8, by rw [svs_len', List.length_cons]; omega, by rw [svs_len', List.length_cons]; omega, fun H9 d2 d20 d21 o9 J9 => ⟨_, _, rfl, rfl, ?_⟩⟩
          rw [svs_len', List.length_cons] at d21
          obtain ⟨n2, rfl⟩ := Int.eq_ofNat_of_zero_le d20
          have ha9 := o9 _ _ aj ha8
          have o19 := o18.trans o9
          refine ⟨_, rfl, _, rfl, ((1 + n2 : Nat) : Int), by simp, a, _, rfl, SqL.of ha9, fun x1 nx1 => ?_⟩
          rw [cut_to _ _ (by rw [svs_len', List.length_cons]; omega), svs_take]
          refine ⟨_, rfl, (by show 1 ≤ sizeLine; decide), fun x2 nx2 => ?_⟩
          have o20 := (o19.new (o := .lst (svs ((("ask" : Str) :: ws).take (1 + n2)))) nx1).new (o := .lst (svs ["add"])) nx2
          have J20 := (J9.new (o := .lst (svs ((("ask" : Str) :: ws).take (1 + n2)))) nx1).new (o := .lst (svs ["add"])) nx2
          refine ⟨j, x2, ["add"], 1, rfl, J20, jar_ne (J9.new nx1) nx2, SqL.of upd_same, by decide, by decide, by decide +kernel, by decide, fun H10 x3 xs o10 J10 nx3 hx3 lx hxs => ?_⟩
          have x1j := jar_ne J9 nx1
          refine ⟨x1, x3, _, _, rfl, rfl, o10 _ _ x1j (same_new nx2 _ _ upd_same), hx3, ?_, fun x4 nx4 => ?_⟩
          · rw [svs_len', svs_len', List.length_take]
            exact szl (by omega)
          rw [svs_app]
          have ha10 := o10 _ _ aj (same_new nx2 _ _ (same_new nx1 _ _ ha9))
          refine ⟨_, rfl, _, rfl, ((1 + n2 : Nat) : Int), by simp, a, _, rfl, SqL.of (same_new nx4 _ _ ha10), fun x5 nx5 => ?_⟩
          rw [cut_from, svs_drop]
          refine ⟨x4, x5, _, _, rfl, rfl, same_new nx5 _ _ upd_same, upd_same, ?_, fun x6 nx6 => ?_⟩
          · rw [svs_len', svs_len', List.length_append, List.length_take, List.length_drop, List.length_cons]
            exact szl (by omega)
          rw [svs_app]
          have o21 := o20.trans o10
          have na6 := (((o21.new (o := .lst (svs ((("ask" : Str) :: ws).take (1 + n2) ++ xs))) nx4).new (o := .lst (svs ((("ask" : Str) :: ws).drop (1 + n2)))) nx5)).free ((J10.new nx4).new nx5) nx6
          refine ⟨x6, _, _, rfl, ((o21.new nx4).new nx5).new nx6, ((J10.new nx4).new nx5).new nx6, na6, upd_same, ?_, ?_⟩
          · refine ins_round R.1 (by omega) (fun x hx => wd_round ((hxs x hx).mono (by decide +kernel))) (by rw [List.length_cons]; omega) ?_
            rw [R.2]
            have := one_filter lx
            omega
          · rw [List.length_append, List.length_append, List.length_take, List.length_drop, List.length_cons]
            omega
        · exact ⟨a, _, none, rfl, o18, J8, na0, ha8, R.1, by rw [List.length_cons]; omega⟩
      rintro _ H8 ⟨a, B, v6, rfl, o8, J8, na, ha8, rB, lB⟩
      have aj := jar_ne hJ na
      refine ⟨_, rfl, _, rfl, (by show 3 ≤ sizeLine; decide), fun x2 nx2 => ?_⟩
      have x2j := jar_ne J8 nx2
      refine ⟨_, rfl, j, 3, rfl, J8.new nx2, by decide, by decide, fun H9 d d0 d1 o9 J9 => ?_⟩
      obtain ⟨n3, rfl⟩ := Int.eq_ofNat_of_zero_le d0
      have o19 := (o8.new nx2).trans o9
      refine ⟨j, x2, esteps, n3, rfl, J9, x2j, SqL.of (o9 _ _ x2j upd_same), by decide, by decide, by decide +kernel, by omega, fun H10 b E' o10 J10 nb hb lE hE => ?_⟩
      have nb0 := o19.free J9 nb
      refine ⟨(by show 2 ≤ sizeLine; decide), fun r nr => ?_⟩
      have ha10 := o10 _ _ aj (o9 _ _ aj (same_new nx2 _ _ ha8))
      exact k _ r a b B E' ⟨(o19.trans o10).new nr, J10.new nr, na, nb0, same_new nr _ _ ha10, same_new nr _ _ hb, rB, words_ending hE (by omega), lB, by omega⟩ upd_same
end
end My

namespace My
open PySem L2 Cm LM
/-! ### rows of texts as data -/
def strD (ws : List Str) : List PyData := ws.map PyData.str
theorem dpS {K : PySem.W.Frag} {H : Hp} : ∀ ws : List Str, DpAll K H (svs ws) (strD ws)
  | [] => .nil
  | x :: r => .cons (.str x) (dpS r)
theorem strD_lay : ∀ {ws : List Str}, (∀ w ∈ ws, Asc w) → PyData.canLayAll0 (strD ws) = true
  | [], _ => by simp [strD, PyData.canLayAll0]
  | x :: r, h => by
    have h1 := strD_lay (ws := r) fun w hw => h w (List.mem_cons_of_mem _ hw)
    have h2 : PyData.strOk x = true := h x (List.mem_cons_self ..)
    simp only [strD, List.map_cons, PyData.canLayAll0, PyData.canLay0, h2, Bool.true_and] at h1 ⊢
    exact h1
theorem strD_depth : ∀ ws : List Str, PyData.depthAll (strD ws) ≤ 1
  | [] => by simp [strD, PyData.depthAll]
  | x :: r => by
    have := strD_depth r
    simp only [strD, List.map_cons, PyData.depthAll, PyData.depth] at this ⊢
    omega
theorem strD_shaped {ws : List Str} (h : ∀ w ∈ ws, Asc w) : SeqAt.shaped (.list (strD ws)) = true := by
  have := strD_depth ws
  refine Bool.and_eq_true_iff.mpr ⟨by simp only [PyData.canLay0]; exact strD_lay h, decide_eq_true ?_⟩
  simp only [PyData.depth]
  omega
theorem eqv_nil (ws : List Str) : PyData.eqv (.list (strD ws)) (.list []) = decide (ws = []) := by
  cases ws with
  | nil => simp [strD, PyData.eqv, PyData.eqvAll]
  | cons x r => simp [strD, PyData.eqv, PyData.eqvAll]
section
variable {P : Program} {w : World} {K : PySem.W.Frag} {mg : Str → Option Value} {base : Heap}
/-! ### _law_line -/
def spLine : Sp := fun vs H Q _ => ∃ (a b : Addr) (B E : List Str), vs = [.ref a, .ref b] ∧ H a = some (.lst (svs B)) ∧ H b = some (.lst (svs E)) ∧ Sht 100 B ∧ Sht 100 E ∧ (∀ w ∈ E, Asc w) ∧ ∀ H', Same H H' → Q (.str (line B E)) H'
theorem scLine : FnScope ["_law_begun", "_law_ended"] ["_law_begun", "_law_ended"] (defScope sLine) := ⟨rfl, rfl, rfl, by decide +kernel, rfl, by decide +kernel, by decide +kernel⟩
theorem ok_line (D : TxD K mg) : FnOk P w K mg base CX0 1 D.lin.f D.lin.fd ["_law_begun", "_law_ended"] spLine := by
  refine D.lin.F.ok scLine (fun vs H Q E h => ?_) (fun cdv A outer s H vs Q E hr h => ?_)
  · obtain ⟨a, b, B, E, rfl, _⟩ := h
    rfl
  · obtain ⟨a, b, B, E, rfl, ha, hb, sB, sE, aE, k⟩ := h
    refine ⟨_, pss_one (ps_ret (pe_ifExp (pt_cmpR (op_neD (hu64 hr)) (pv 1) (pe_lst pa_nil) (nomark _)) (pe_join pe_str (pe_op op_cat (pe_op op_cat (pv 0) (pe_lst (pa_cons pe_str pa_nil))) (pv 1))) (pe_join pe_str (pv 0)))), ?_⟩
    refine ⟨_, rfl, Nat.zero_le _, fun e ne => ?_⟩
    refine ⟨.list (strD E), .list [], .lst (SqL.of (same_new ne _ _ hb)) (dpS E), .lst (SqL.of upd_same) .nil, strD_shaped aE, by decide, _, rfl, ?_⟩
    rw [eqv_nil]
    have s1 : Same H (upd H e (.lst [])) := same_new ne
    generalize upd H e (.lst []) = H1 at s1 ⊢
    have l1 : (" " : Str).length = 1 := by decide +kernel
    unfold line at k
    by_cases hE : E = []
    · rw [decide_eq_true hE]
      rw [if_pos hE] at k
      refine iteF ⟨⟨_, rfl⟩, _, rfl, " ", a, B, rfl, rfl, .inl (SqL.of (s1 _ _ ha)), ?_, k _ s1⟩
      rw [l1]
      have := sB.sum
      omega
    · rw [decide_eq_false hE]
      rw [if_neg hE] at k
      refine iteT ⟨⟨_, rfl⟩, _, rfl, (by show 1 ≤ sizeLine; decide), fun x nx => ?_⟩
      refine ⟨a, x, _, _, rfl, rfl, same_new nx _ _ (s1 _ _ ha), upd_same, ?_, fun y ny => ?_⟩
      · rw [svs_len']
        have := sB.2
        exact szl (by show B.length + 1 ≤ 1000; omega)
      refine ⟨_, rfl, y, b, _, _, rfl, rfl, upd_same, same_new ny _ _ (same_new nx _ _ (s1 _ _ hb)), ?_, fun z nz => ?_⟩
      · rw [List.length_append, svs_len', svs_len']
        have := sB.2
        have := sE.2
        exact szl (by show B.length + 1 + E.length ≤ 1000; omega)
      refine ⟨" ", z, B ++ [("|" : Str)] ++ E, rfl, rfl, .inl (SqL.of (by rw [upd_same]; simp [svs])), ?_, ?_⟩
      · have sh : Sht 201 (B ++ [("|" : Str)] ++ E) := by
          refine ⟨fun w hw => ?_, ?_⟩
          · rcases List.mem_append.mp hw with hw | hw
            · rcases List.mem_append.mp hw with hw | hw
              · exact sB.1 w hw
              · rw [List.mem_singleton.mp hw]
                decide +kernel
            · exact sE.1 w hw
          · rw [List.length_append, List.length_append]
            have := sB.2
            have := sE.2
            simp
            omega
        rw [l1]
        have := sh.sum
        omega
      · exact k _ (Same.trans s1 (Same.trans (same_new nx) (Same.trans (same_new ny) (same_new nz))))
end
end My

/-! loops filled up; rows without one word -/
namespace LM
open PySem L2 TL
theorem again_ok : isWord "again" rsteps = true ∧ isAdd "again" = false := by decide +kernel
theorem cut_ok : isWord "cut" esteps = true := by decide +kernel
theorem pad_round {B : List Str} (h : isRound B = true) (n : Nat) (hl : B.length + n ≤ 12) : isRound (B ++ List.replicate n ("again" : Str)) = true := by
  obtain ⟨r, rfl, h2, h3, h4⟩ := isRound_iff.mp h
  refine isRound_iff.mpr ⟨r ++ List.replicate n ("again" : Str), rfl, by rw [List.length_append, List.length_replicate]; exact hl, ?_, fun w hw => ?_⟩
  · rw [List.filter_append]
    have e : (List.replicate n ("again" : Str)).filter isAdd = [] := List.filter_eq_nil_iff.mpr fun w hw => by
      rw [List.eq_of_mem_replicate hw, again_ok.2]
      exact Bool.false_ne_true
    rw [e, List.append_nil]
    exact h3
  · rcases List.mem_append.mp hw with hw | hw
    · exact h4 w hw
    · rw [List.eq_of_mem_replicate hw]
      exact again_ok.1
theorem pad_ending {E : List Str} (h : isEnding E = true) (n : Nat) (hl : E.length + n ≤ 6) : isEnding (E ++ List.replicate n ("cut" : Str)) = true := by
  have q := isEnding_iff.mp h
  refine isEnding_iff.mpr ⟨by rw [List.length_append, List.length_replicate]; exact hl, fun w hw => ?_⟩
  rcases List.mem_append.mp hw with hw | hw
  · exact q.2 w hw
  · rw [List.eq_of_mem_replicate hw]
    exact cut_ok
/-- the two rows of a loop without the word at n -/
def outB (B : List Str) (n : Nat) : List Str := if n < B.length then B.eraseIdx n else B
def outE (B E : List Str) (n : Nat) : List Str := if n < B.length then E else E.eraseIdx (n - B.length)
theorem out_row (B E : List Str) (n m : Nat) (hm : m = B.length - (if n < B.length then 1 else 0)) : ((B ++ E).take n ++ (B ++ E).drop (n + 1)).take m = outB B n ∧ ((B ++ E).take n ++ (B ++ E).drop (n + 1)).drop m = outE B E n := by
  rw [← List.eraseIdx_eq_take_drop_succ]
  unfold outB outE
  by_cases h : n < B.length
  · rw [if_pos h] at hm ⊢
    rw [if_pos h, List.eraseIdx_append_of_lt_length h]
    have e : m = (B.eraseIdx n).length := by rw [List.length_eraseIdx, if_pos h]; exact hm
    rw [e, List.take_left, List.drop_left]
    exact ⟨rfl, rfl⟩
  · rw [if_neg h] at hm ⊢
    rw [if_neg h, List.eraseIdx_append_of_length_le (by omega)]
    have e : m = B.length := by omega
    rw [e, List.take_left, List.drop_left]
    exact ⟨rfl, rfl⟩
theorem outB_round {B : List Str} {n : Nat} (h : isRound B = true) (hn : 1 ≤ n) : isRound (outB B n) = true := by
  unfold outB
  split
  · exact round_erase h hn
  · exact h
theorem outE_ending {B E : List Str} {n : Nat} (h : isEnding E = true) : isEnding (outE B E n) = true := by
  unfold outE
  split
  · exact h
  · exact ending_erase h
theorem out_len {B E : List Str} {n : Nat} (h : n < B.length + E.length) : (outB B n).length + (outE B E n).length + 1 = B.length + E.length := by
  unfold outB outE
  by_cases hn : n < B.length
  · rw [if_pos hn, if_pos hn, List.length_eraseIdx, if_pos hn]
    omega
  · rw [if_neg hn, if_neg hn, List.length_eraseIdx, if_pos (by omega)]
    omega
end LM

/-! words taken apart by split -/
namespace LM
open PySem L2 TL
def partsOk (w : Str) : Bool := decide ((orderOf w).2 ∈ rsteps) && (if (orderOf w).1 = Str.empty then decide (Txt.split w ":" = [(orderOf w).2]) else decide (Txt.split w ":" = [(orderOf w).1, (orderOf w).2]) && decide ((orderOf w).1 ∈ tests))
theorem parts_ok : ∀ w ∈ allWd rsteps, partsOk w = true := by decide +kernel
structure Parts (w : Str) : Prop where
  s : (orderOf w).2 ∈ rsteps
  p : ((orderOf w).1 = Str.empty ∧ Txt.split w ":" = [(orderOf w).2]) ∨ ((orderOf w).1 ≠ Str.empty ∧ Txt.split w ":" = [(orderOf w).1, (orderOf w).2] ∧ (orderOf w).1 ∈ tests)
theorem parts_of {w : Str} (h : Wd rsteps w) : Parts w := by
  have q := parts_ok w h.mem
  unfold partsOk at q
  have q2 := Bool.and_eq_true_iff.mp q
  refine ⟨of_decide_eq_true q2.1, ?_⟩
  have q3 := q2.2
  split at q3
  next e => exact .inl ⟨e, of_decide_eq_true q3⟩
  next e =>
    have q4 := Bool.and_eq_true_iff.mp q3
    exact .inr ⟨e, of_decide_eq_true q4.1, of_decide_eq_true q4.2⟩
theorem emp : Str.empty = ("" : Str) := by decide +kernel
theorem esteps_flow : ∀ w ∈ allWd esteps, (orderOf w).2 ≠ "again" ∧ (orderOf w).2 ≠ "stop" := by decide +kernel
theorem ending_flow {E : List Str} (h : isEnding E = true) : ∀ o ∈ E.map orderOf, o.2 ≠ "again" ∧ o.2 ≠ "stop" := by
  intro o ho
  obtain ⟨w, hw, rfl⟩ := List.mem_map.mp ho
  exact esteps_flow w (word_wd ((isEnding_iff.mp h).2 w hw)).mem
theorem ask_order : orderOf "ask" = (("" : Str), ("ask" : Str)) := by decide +kernel
theorem round_tail_wd {B : List Str} (h : isRound B = true) : ∃ r, B = ("ask" : Str) :: r ∧ (∀ w ∈ r, Wd rsteps w) ∧ r.length ≤ 11 := by
  obtain ⟨r, rfl, h2, _, h4⟩ := isRound_iff.mp h
  rw [List.length_cons] at h2
  exact ⟨r, rfl, fun w hw => word_wd (h4 w hw), by omega⟩
theorem ending_wd {E : List Str} (h : isEnding E = true) : (∀ w ∈ E, Wd rsteps w) ∧ E.length ≤ 6 := ⟨fun w hw => (word_wd ((isEnding_iff.mp h).2 w hw)).mono e_r, (isEnding_iff.mp h).1⟩
end LM

/-! the law's own execution -/
namespace My
open PySem L2 Cm LM EM
abbrev sPassed : Stmt := top 53
abbrev sSliced : Stmt := top 52
abbrev sDone : Stmt := top 54
abbrev sFed : Stmt := top 55
abbrev sBox : Stmt := top 56
/-! ### boxes -/
def bx (r u : Addr) (g : Nat) (ov : Bool) : List (Key × V) := [(.inr "rest", .ref r), (.inr "out", .ref u), (.inr "got", .int g), (.inr "over", .bl ov)]
section
variable (r u r' : Addr) (g : Nat) (ov b : Bool)
theorem bx_r : valV (bx r u g ov) (.inr "rest") = some (.ref r) := by kernel_rfl
theorem bx_u : valV (bx r u g ov) (.inr "out") = some (.ref u) := by kernel_rfl
theorem bx_g : valV (bx r u g ov) (.inr "got") = some (.int g) := by kernel_rfl
theorem bx_o : valV (bx r u g ov) (.inr "over") = some (.bl ov) := by kernel_rfl
theorem bx_pr : putK (bx r u g ov) (.inr "rest") (.ref r') = bx r' u g ov := by kernel_rfl
theorem bx_pu : putK (bx r u g ov) (.inr "out") (.ref r') = bx r r' g ov := by kernel_rfl
theorem bx_po : putK (bx r u g ov) (.inr "over") (.bl b) = bx r u g b := by kernel_rfl
theorem bx_mk : mergeK [] (bx r u g ov) = bx r u g ov := by kernel_rfl
theorem bx_len : (bx r u g ov).length = 4 := rfl
end
section
variable {H : Hp} {b0 r u : Addr} {g : Nat} {ov : Bool}
theorem get_r (h : H b0 = some (.dK (bx r u g ov))) : DGet H b0 (.str "rest") (some (.ref r)) := by
  have := DGet.k (k := Sum.inr "rest") h
  rw [bx_r] at this
  exact this
theorem get_u (h : H b0 = some (.dK (bx r u g ov))) : DGet H b0 (.str "out") (some (.ref u)) := by
  have := DGet.k (k := Sum.inr "out") h
  rw [bx_u] at this
  exact this
theorem get_g (h : H b0 = some (.dK (bx r u g ov))) : DGet H b0 (.str "got") (some (.int g)) := by
  have := DGet.k (k := Sum.inr "got") h
  rw [bx_g] at this
  exact this
theorem get_o (h : H b0 = some (.dK (bx r u g ov))) : DGet H b0 (.str "over") (some (.bl ov)) := by
  have := DGet.k (k := Sum.inr "over") h
  rw [bx_o] at this
  exact this
theorem dput_r (r' : Addr) (h : H b0 = some (.dK (bx r u g ov))) : DPut H b0 (.str "rest") (.ref r') (upd H b0 (.dK (bx r' u g ov))) := by
  have := DPut.k (k := Sum.inr "rest") (v := .ref r') h (by rw [bx_len]; decide)
  rw [bx_pr] at this
  exact this
theorem dput_u (r' : Addr) (h : H b0 = some (.dK (bx r u g ov))) : DPut H b0 (.str "out") (.ref r') (upd H b0 (.dK (bx r r' g ov))) := by
  have := DPut.k (k := Sum.inr "out") (v := .ref r') h (by rw [bx_len]; decide)
  rw [bx_pu] at this
  exact this
theorem dput_o (o' : Bool) (h : H b0 = some (.dK (bx r u g ov))) : DPut H b0 (.str "over") (.bl o') (upd H b0 (.dK (bx r u g o'))) := by
  have := DPut.k (k := Sum.inr "over") (v := .bl o') h (by rw [bx_len]; decide)
  rw [bx_po] at this
  exact this
end
theorem Pcs.app {H : Hp} : ∀ {vs xs ws ys}, Pcs H vs xs → Pcs H ws ys → Pcs H (vs ++ ws) (xs ++ ys)
  | _, _, _, _, .nil, h => h
  | _, _, _, _, .cons a t, h => .cons a (t.app h)
theorem Pcs.same {H H' : Hp} (s : Same H H') {vs xs} (h : Pcs H vs xs) : Pcs H' vs xs := h.mono fun _ _ e => s _ _ e
structure BoxAt (H : Hp) (b : Addr) (x : RP) (g : Nat) (ov : Bool) : Prop where
  ex : ∃ r u vs, H b = some (.dK (bx r u g ov)) ∧ H r = some (.lst (ivs x.rest)) ∧ H u = some (.lst vs) ∧ Pcs H vs x.pieces
theorem BoxAt.same {H H' : Hp} {b : Addr} {x : RP} {g : Nat} {ov : Bool} (s : Same H H') (h : BoxAt H b x g ov) : BoxAt H' b x g ov := let ⟨r, u, vs, a, b, c, d⟩ := h.ex; ⟨r, u, vs, s _ _ a, s _ _ b, s _ _ c, d.same s⟩
theorem BoxAt.off {j : Addr} {H H' : Hp} {b : Addr} {x : RP} {g : Nat} {ov : Bool} (s : Off j H H') (n : ∀ u, H j = some u → (∀ kvs, u ≠ .dK kvs) ∧ (∀ xs, u ≠ .tup xs) ∧ ∃ a b c : Int, u = .lst [.int a, .int b, .int c]) (jb : ∀ r u vs, H b = some (.dK (bx r u g ov)) → H r = some (.lst (ivs x.rest)) → H u = some (.lst vs) → r ≠ j ∧ u ≠ j ∧ b ≠ j) (tp : ∀ q xs, H q = some (.tup xs) → q ≠ j) (h : BoxAt H b x g ov) : BoxAt H' b x g ov := by
  obtain ⟨r, u, vs, h1, h2, h3, h4⟩ := h.ex
  obtain ⟨n1, n2, n3⟩ := jb r u vs h1 h2 h3
  exact ⟨r, u, vs, s _ _ n3 h1, s _ _ n1 h2, s _ _ n2 h3, h4.mono fun q xs e => s _ _ (tp q xs e) e⟩
/-! ### numbers as data -/
def intD (xs : List Int) : List PyData := xs.map PyData.int
theorem dpI {K : PySem.W.Frag} {H : Hp} : ∀ xs : List Int, DpAll K H (ivs xs) (intD xs)
  | [] => .nil
  | x :: r => .cons (.int x) (dpI r)
theorem intD_lay : ∀ xs : List Int, PyData.canLayAll0 (intD xs) = true
  | [] => by simp [intD, PyData.canLayAll0]
  | x :: r => by
    have := intD_lay r
    simp only [intD, List.map_cons, PyData.canLayAll0, PyData.canLay0, Bool.true_and] at this ⊢
    exact this
theorem intD_depth : ∀ xs : List Int, PyData.depthAll (intD xs) ≤ 1
  | [] => by simp [intD, PyData.depthAll]
  | x :: r => by
    have := intD_depth r
    simp only [intD, List.map_cons, PyData.depthAll, PyData.depth] at this ⊢
    omega
theorem intD_shaped (xs : List Int) : SeqAt.shaped (.list (intD xs)) = true := by
  have := intD_depth xs
  refine Bool.and_eq_true_iff.mpr ⟨by simp only [PyData.canLay0]; exact intD_lay xs, decide_eq_true ?_⟩
  simp only [PyData.depth]
  omega
theorem eqv_inil (xs : List Int) : PyData.eqv (.list (intD xs)) (.list []) = decide (xs = []) := by
  cases xs with
  | nil => simp [intD, PyData.eqv, PyData.eqvAll]
  | cons x r => simp [intD, PyData.eqv, PyData.eqvAll]
theorem pos_nil (xs : List Int) : decide (0 < xs.length) = !decide (xs = []) := by cases xs <;> simp
structure TxB (K : PySem.W.Frag) (mg : Str → Option Value) where
  J : TxtJ mg
  range : mg "range" = none
  tuple : mg "tuple" = none
  list : mg "list" = none
  pas : Df K mg "_law_passed" sPassed ["_law_test", "_law_got", "_law_box_here", "_law_said", "_law_wide"]
  sli : Df K mg "_law_sliced" sSliced ["_law_row_here", "_law_wide", "_law_many"]
  don : Df K mg "_law_done" sDone ["_law_words_here", "_law_got", "_law_box_here", "_law_said", "_law_wide"]
  fed : Df K mg "_law_fed" sFed ["_law_made", "_law_box_here", "_law_many", "_law_said", "_law_wide"]
  box : Df K mg "_law_box" sBox []
section
variable {P : Program} {w : World} {K : PySem.W.Frag} {mg : Str → Option Value} {base : Heap}
/-! ### _law_passed -/
def spPd : Sp := fun vs H Q _ => ∃ (ga b : Addr) (t : Str) (got : List Int) (x : RP) (g : Nat) (ov said : Bool) (wide : Nat), vs = [.str t, .ref ga, .ref b, .bl said, .int wide] ∧ t ∈ tests ∧ H ga = some (.lst (ivs got)) ∧ BoxAt H b x g ov ∧ ∀ H', Same H H' → Q (.bl (passM wide got said t x.rest)) H'
theorem scPd : FnScope ["_law_test", "_law_got", "_law_box_here", "_law_said", "_law_wide"] ["_law_test", "_law_got", "_law_box_here", "_law_said", "_law_wide"] (defScope sPassed) := ⟨rfl, rfl, rfl, by decide +kernel, rfl, by decide +kernel, by decide +kernel⟩
theorem pass_1 {wide : Nat} {got rest : List Int} {said : Bool} {t : Str} (h : t = "empty" ∨ t = "some") : passM wide got said t rest = decide (decide (got = []) = decide (t = "empty")) := by
  have e := pos_nil got
  rcases h with rfl | rfl
  · unfold passM
    rw [if_neg (by decide +kernel), if_neg (by decide +kernel), if_neg (by decide +kernel), if_pos (by decide +kernel), e, show decide (("empty" : Str) = "some") = false by decide +kernel, show decide (("empty" : Str) = "empty") = true by decide +kernel]
    cases decide (got = []) <;> rfl
  · unfold passM
    rw [if_neg (by decide +kernel), if_neg (by decide +kernel), if_neg (by decide +kernel), if_pos (by decide +kernel), e, show decide (("some" : Str) = "some") = true by decide +kernel, show decide (("some" : Str) = "empty") = false by decide +kernel]
    cases decide (got = []) <;> rfl
theorem pass_2 {wide : Nat} {got rest : List Int} {said : Bool} {t : Str} (h : t = "short" ∨ t = "full") : passM wide got said t rest = decide (decide (got.length < wide) = decide (t = "short")) := by
  rcases h with rfl | rfl
  · unfold passM
    rw [if_neg (by decide +kernel), if_neg (by decide +kernel), if_neg (by decide +kernel), if_neg (by decide +kernel)]
    rfl
  · unfold passM
    rw [if_neg (by decide +kernel), if_neg (by decide +kernel), if_neg (by decide +kernel), if_neg (by decide +kernel)]
    rfl
theorem pass_3 {wide : Nat} {got rest : List Int} {said : Bool} {t : Str} (h : t = "told" ∨ t = "open") : passM wide got said t rest = decide (said = decide (t = "told")) := by
  have h0 : ¬ t = "" := by rcases h with rfl | rfl <;> decide +kernel
  unfold passM
  rw [if_neg h0, if_pos h]
  rfl
theorem pass_4 {wide : Nat} {got rest : List Int} {said : Bool} {t : Str} (ht : t ∈ tests) (h1 : ¬ (t = "empty" ∨ t = "some")) (h2 : ¬ (t = "short" ∨ t = "full")) (h3 : ¬ (t = "told" ∨ t = "open")) : passM wide got said t rest = decide ((!decide (rest = [])) = decide (t = "rest")) := by
  have h4 : t = "rest" ∨ t = "bare" := by
    have h5 : t = "empty" ∨ t = "some" ∨ t = "short" ∨ t = "full" ∨ t = "told" ∨ t = "open" ∨ t = "rest" ∨ t = "bare" := by simpa [tests] using ht
    rcases h5 with h | h | h | h | h | h | h | h
    · exact absurd (.inl h) h1
    · exact absurd (.inr h) h1
    · exact absurd (.inl h) h2
    · exact absurd (.inr h) h2
    · exact absurd (.inl h) h3
    · exact absurd (.inr h) h3
    · exact .inl h
    · exact .inr h
  have h0 : ¬ t = "" := by rcases h4 with rfl | rfl <;> decide +kernel
  unfold passM
  rw [if_neg h0, if_neg h3, if_pos h4, pos_nil]
  rfl
theorem ok_pd (B : TxB K mg) : FnOk P w K mg base CX0 1 B.pas.f B.pas.fd ["_law_test", "_law_got", "_law_box_here", "_law_said", "_law_wide"] spPd := by
  refine B.pas.F.ok scPd (fun vs H Q E h => ?_) (fun cdv A outer s H vs Q E hr h => ?_)
  · obtain ⟨ga, b, t, got, x, g, ov, said, wide, rfl, _⟩ := h
    rfl
  · obtain ⟨ga, b, t, got, x, g, ov, said, wide, rfl, ht, hg, hB, k⟩ := h
    have hu := hu_of hr
    refine ⟨_, pss_cons (ps_if (pt_cmpR op_in_seq (pv 0) (pe_lst (pa_cons pe_str (pa_cons pe_str pa_nil))) (by rfl)) (pss_one (ps_ret (pe_cmpR op_eq (pe_cmpR (op_eqD (hu64 hr)) (pv 1) (pe_lst pa_nil) (nomark _)) (pe_cmpR op_eq (pv 0) pe_str (nomark _)) (nomark _)))) pss_nil)
      (pss_cons (ps_if (pt_cmpR op_in_seq (pv 0) (pe_lst (pa_cons pe_str (pa_cons pe_str pa_nil))) (by rfl)) (pss_one (ps_ret (pe_cmpR op_eq (pe_cmpR op_lt (pe_callB call_len_seq (by rfl) B.J.len PySem.boot_len (pa_cons (pv 1) pa_nil)) (pv 4) (nomark _)) (pe_cmpR op_eq (pv 0) pe_str (nomark _)) (nomark _)))) pss_nil)
      (pss_cons (ps_if (pt_cmpR op_in_seq (pv 0) (pe_lst (pa_cons pe_str (pa_cons pe_str pa_nil))) (by rfl)) (pss_one (ps_ret (pe_cmpR op_eq (pv 3) (pe_cmpR op_eq (pv 0) pe_str (nomark _)) (nomark _)))) pss_nil)
      (pss_one (ps_ret (pe_cmpR op_eq (pe_cmpR (op_neD (hu64 hr)) (pe_dget hu (pv 2) pe_str (fun _ _ => rfl)) (pe_lst pa_nil) (nomark _)) (pe_cmpR op_eq (pv 0) pe_str (nomark _)) (nomark _)))))), ?_⟩
    refine ⟨_, rfl, (by show 2 ≤ sizeLine; decide), fun t1 n1 => ⟨t1, _, rfl, .inl (SqL.of upd_same), rfl, rfl, _, rfl, ?_⟩⟩
    have s1 : Same H (upd H t1 (.lst [.str "empty", .str "some"])) := same_new n1
    generalize upd H t1 (.lst [.str "empty", .str "some"]) = H1 at s1 ⊢
    rw [show (if false = true then !inV (V.str t) [V.str "empty", V.str "some"] else inV (V.str t) [V.str "empty", V.str "some"]) = decide (t = "empty" ∨ t = "some") from in2 ..]
    by_cases h1 : t = "empty" ∨ t = "some"
    · rw [decide_eq_true h1]
      refine iteT ⟨_, rfl, Nat.zero_le _, fun e ne => ?_⟩
      refine ⟨.list (intD got), .list [], .lst (SqL.of (same_new ne _ _ (s1 _ _ hg))) (dpI got), .lst (SqL.of upd_same) .nil, intD_shaped _, by decide, _, rfl, rfl, rfl, ?_⟩
      rw [eqv_inil, dS, dB]
      have := k _ (Same.trans s1 (same_new (o := .lst []) ne))
      rw [pass_1 h1] at this
      exact this
    rw [decide_eq_false h1]
    refine iteF ?_
    refine ⟨_, rfl, (by show 2 ≤ sizeLine; decide), fun t2 n2 => ⟨t2, _, rfl, .inl (SqL.of upd_same), rfl, rfl, _, rfl, ?_⟩⟩
    have s2 : Same H (upd H1 t2 (.lst [.str "short", .str "full"])) := Same.trans s1 (same_new n2)
    generalize upd H1 t2 (.lst [.str "short", .str "full"]) = H2 at s2 ⊢
    rw [show (if false = true then !inV (V.str t) [V.str "short", V.str "full"] else inV (V.str t) [V.str "short", V.str "full"]) = decide (t = "short" ∨ t = "full") from in2 ..]
    by_cases h2 : t = "short" ∨ t = "full"
    · rw [decide_eq_true h2]
      refine iteT ⟨_, rfl, ga, _, rfl, .inl (SqL.of (s2 _ _ hg)), _, rfl, _, _, rfl, rfl, _, rfl, rfl, rfl, ?_⟩
      rw [dS, dB, ivs_len, lt_dec]
      have := k _ s2
      rw [pass_2 h2] at this
      exact this
    rw [decide_eq_false h2]
    refine iteF ?_
    refine ⟨_, rfl, (by show 2 ≤ sizeLine; decide), fun t3 n3 => ⟨t3, _, rfl, .inl (SqL.of upd_same), rfl, rfl, _, rfl, ?_⟩⟩
    have s3 : Same H (upd H2 t3 (.lst [.str "told", .str "open"])) := Same.trans s2 (same_new n3)
    generalize upd H2 t3 (.lst [.str "told", .str "open"]) = H3 at s3 ⊢
    rw [show (if false = true then !inV (V.str t) [V.str "told", V.str "open"] else inV (V.str t) [V.str "told", V.str "open"]) = decide (t = "told" ∨ t = "open") from in2 ..]
    by_cases h3 : t = "told" ∨ t = "open"
    · rw [decide_eq_true h3]
      refine iteT ⟨_, rfl, _, rfl, rfl, rfl, ?_⟩
      rw [dS, dB]
      have := k _ s3
      rw [pass_3 h3] at this
      exact this
    rw [decide_eq_false h3]
    refine iteF ?_
    obtain ⟨r, u, vs, hb, hr1, hu1, hP⟩ := (hB.same s3).ex
    refine ⟨_, rfl, b, _, rfl, get_r hb, Nat.zero_le _, fun e ne => ?_⟩
    refine ⟨.list (intD x.rest), .list [], .lst (SqL.of (same_new ne _ _ hr1)) (dpI _), .lst (SqL.of upd_same) .nil, intD_shaped _, by decide, _, rfl, rfl, rfl, ?_⟩
    rw [eqv_inil, dS, dB]
    have := k _ (Same.trans s3 (same_new (o := .lst []) ne))
    rw [pass_4 ht h1 h2 h3] at this
    exact this
/-! ### _law_sliced -/
def spSl : Sp := fun vs H Q _ => ∃ (ra : Addr) (row : List Int) (wide many : Nat), vs = [.ref ra, .int wide, .int many] ∧ H ra = some (.lst (ivs row)) ∧ wide ≤ 1000 ∧ many * wide ≤ row.length ∧ row.length ≤ 4000000 ∧ many ≤ 4000000 ∧ ∀ (H' : Hp) (q : Addr) (vs : List V), Same H H' → H' q = some (.lst vs) → Pcs H' vs (cutN wide row many) → Q (.ref q) H'
theorem scSl : FnScope ["_law_row_here", "_law_wide", "_law_many", "_law_k"] ["_law_row_here", "_law_wide", "_law_many"] (defScope sSliced) := ⟨rfl, rfl, rfl, by decide +kernel, rfl, by decide +kernel, by decide +kernel⟩
/-- tuple(row[k * wide:k * wide + wide]) -/
def teSl : TE := fun σ H Q => ∃ (ra : Addr) (row : List Int) (wide k : Nat), σ[0]? = some (some (.ref ra)) ∧ σ[1]? = some (some (.int wide)) ∧ σ[3]? = some (some (.int k)) ∧ H ra = some (.lst (ivs row)) ∧ wide ≤ 1000 ∧ k * wide + wide ≤ row.length ∧
  ∀ (H' : Hp) (q : Addr), Same H H' → H' q = some (.tup (ivs ((row.drop (k * wide)).take wide))) → Q (.ref q) H'
theorem ok_sl (B : TxB K mg) : FnOk P w K mg base CX0 1 B.sli.f B.sli.fd ["_law_row_here", "_law_wide", "_law_many"] spSl := by
  refine B.sli.F.ok scSl (fun vs H Q E h => ?_) (fun cdv A outer s H vs Q E hr h => ?_)
  · obtain ⟨ra, row, wide, many, rfl, _⟩ := h
    rfl
  · obtain ⟨ra, row, wide, many, rfl, hra, w1, l1, l2, l3, k⟩ := h
    refine ⟨_, pss_one (ps_ret (pe_lc (own := [("_law_k", 3)]) (g := gName 3) (tt := tYes) (te := teSl) rfl scSl.nd (pi_range1 rfl B.range (pa_cons (pv 2) pa_nil)) (blkOk_by (own := [("_law_k", 3)]) (N := ["_law_row_here", "_law_wide", "_law_many", "_law_k"]) (sc := defScope sSliced) (by decide +kernel))
      (fun _ _ _ _ _ => pg_name (i := 3) scSl.nd rfl (Or.inl rfl)) (fun _ _ _ _ _ => pts_nil)
      (fun _ _ _ _ _ => pe_imp (pe_callTy call_tuple_of (by rfl) B.tuple (by decide +kernel) (pa_cons (pe_slice sl_list (pv 0) (po_some (pe_op op_mul (pv 3) (pv 1))) (po_some (pe_op op_add (pe_op op_mul (pv 3) (pv 1)) (pv 1)))) pa_nil)) (by
        rintro σ H Q ⟨ra, row, wide, k, h0, h1, h3, hra, w1, l1, q⟩
        refine ⟨_, h0, _, h3, _, h1, _, _, rfl, rfl, .inr ⟨by omega, by omega⟩, ((k * wide : Nat) : Int), by rw [Int.natCast_mul], _, h3, _, h1, _, _, rfl, rfl, .inr ⟨by omega, by omega⟩, _, h1, _, _, rfl, rfl, ((k * wide + wide : Nat) : Int), by rw [Int.natCast_add, Int.natCast_mul], ra, _, rfl, SqL.of hra, fun p np => ?_⟩
        refine ⟨p, _, rfl, .inl ⟨SqL.of upd_same, fun l nl => ?_⟩⟩
        refine q _ l (Same.trans (same_new np) (same_new nl)) ?_
        rw [upd_same, cut_mid _ _ _ (by omega) (by rw [ivs_len]; exact l1), show k * wide + wide - k * wide = wide by omega]
        simp [ivs, List.map_take, List.map_drop])))), ?_⟩
    refine ⟨_, rfl, many, rfl, by omega, by omega, fun D nD => ?_⟩
    refine lc_range (lo := 0) (n := ((many : Int)).toNat) (fun i H' => Same H H' ∧ ∃ vs, H' D = some (.lst vs) ∧ Pcs H' vs (cutN wide row i)) ⟨same_new nD, [], upd_same, .nil⟩ ?_ ?_
    · rintro i H1 hi ⟨s1, vs, hD, hP⟩
      have hi : i < many := by simpa using hi
      have m1 : (i + 1) * wide ≤ row.length := Nat.le_trans (Nat.mul_le_mul_right _ hi) l1
      have m2 : (i + 1) * wide = i * wide + wide := Nat.succ_mul i wide
      refine ⟨rfl, ra, row, wide, i, rfl, rfl, by rw [Int.zero_add]; rfl, s1 _ _ hra, w1, by omega, fun H2 q s2 hq => ?_⟩
      have hD2 := s2 _ _ hD
      have st := tup_stays (o' := .lst (vs ++ [.ref q])) hD2 (by intro xs z; cases z)
      have lp := hP.len
      refine ⟨vs, hD2, ?_, fun b o e => ?_, _, upd_same, ?_⟩
      · rw [lp, cutN, List.length_map, List.length_range]
        exact Nat.lt_of_le_of_lt (show i ≤ 4000000 by omega) (by decide)
      · rw [upd_ne (ne_of_none e nD)]
        exact s2 _ _ (s1 _ _ e)
      · rw [cutN_succ]
        exact Pcs.snoc (st _ _ hq) ((hP.same s2).mono st)
    · rintro H1 ⟨s1, vs, hD, hP⟩
      exact k H1 D vs s1 hD (by simpa using hP)
end
end My

namespace My
open PySem L2 Cm LM EM
section
variable {P : Program} {w : World} {K : PySem.W.Frag} {mg : Str → Option Value} {base : Heap}
/-- a box whose lists are not the jar -/
structure BoxJ (j : Addr) (H : Hp) (b : Addr) (x : RP) (g : Nat) (ov : Bool) : Prop where
  ex : ∃ r u vs, H b = some (.dK (bx r u g ov)) ∧ H r = some (.lst (ivs x.rest)) ∧ H u = some (.lst vs) ∧ Pcs H vs x.pieces ∧ r ≠ j ∧ u ≠ j
theorem BoxJ.at {j : Addr} {H : Hp} {b : Addr} {x : RP} {g : Nat} {ov : Bool} (h : BoxJ j H b x g ov) : BoxAt H b x g ov := let ⟨r, u, vs, a, b, c, d, _⟩ := h.ex; ⟨r, u, vs, a, b, c, d⟩
theorem BoxJ.same {j : Addr} {H H' : Hp} {b : Addr} {x : RP} {g : Nat} {ov : Bool} (s : Same H H') (h : BoxJ j H b x g ov) : BoxJ j H' b x g ov := let ⟨r, u, vs, a, b, c, d, e⟩ := h.ex; ⟨r, u, vs, s _ _ a, s _ _ b, s _ _ c, d.same s, e⟩
theorem BoxJ.off {j : Addr} {H H' : Hp} {b : Addr} {x : RP} {g : Nat} {ov : Bool} (s : Off j H H') (hj : Jar H j) (h : BoxJ j H b x g ov) : BoxJ j H' b x g ov := by
  obtain ⟨r, u, vs, a, b, c, d, e, f⟩ := h.ex
  obtain ⟨x, y, z, q⟩ := hj
  exact ⟨r, u, vs, s _ _ (ne_of a q (by intro z; cases z)) a, s _ _ e b, s _ _ f c, d.mono (fun p xs k => s _ _ (ne_of k q (by intro z; cases z)) k), e, f⟩
/-! ### _law_done -/
def ords (ws : List Str) : List (Str × Str) := ws.map orderOf
def spDn (j : Addr) : Sp := fun vs H Q _ => ∃ (wa ga b : Addr) (ws : List Str) (got : List Int) (x : RP) (g : Nat) (ov said : Bool) (wide k c : Nat), vs = [.ref wa, .ref ga, .ref b, .bl said, .int wide] ∧ H wa = some (.lst (svs ws)) ∧ (∀ z ∈ ws, Wd rsteps z) ∧ ws.length ≤ 12 ∧ H ga = some (.lst (ivs got)) ∧ BoxJ j H b x g ov ∧ Jar H j ∧ FitK wide got k c x ∧ k ≤ 2400 ∧ c ≤ 7800000 ∧
  ∀ (H' : Hp) (z : Str), Off b H H' → BoxJ j H' b (runW wide got said (ords ws) x).1 g ov → decide (z = "stop") = (runW wide got said (ords ws) x).2 → Q (.str z) H'
theorem scDn : FnScope ["_law_words_here", "_law_got", "_law_box_here", "_law_said", "_law_wide", "_law_word_here", "_law_parts", "_law_many"] ["_law_words_here", "_law_got", "_law_box_here", "_law_said", "_law_wide"] (defScope sDone) := ⟨rfl, rfl, rfl, by decide +kernel, rfl, by decide +kernel, by decide +kernel⟩
/-- its test is not passed -/
def tSkip : TT := fun σ H Q => ∃ (q ga b : Addr) (wd : Str) (got : List Int) (x : RP) (g : Nat) (ov said : Bool) (wide : Nat), σ[6]? = some (some (.ref q)) ∧ σ[1]? = some (some (.ref ga)) ∧ σ[2]? = some (some (.ref b)) ∧ σ[3]? = some (some (.bl said)) ∧ σ[4]? = some (some (.int wide)) ∧ Parts wd ∧ H q = some (.lst (svs (Txt.split wd ":"))) ∧ H ga = some (.lst (ivs got)) ∧ BoxAt H b x g ov ∧
  ∀ H', Same H H' → Q (!(passM wide got said (orderOf wd).1 x.rest)) H'
theorem pass_0 {wide : Nat} {got rest : List Int} {said : Bool} : passM wide got said "" rest = true := by
  unfold passM
  rw [if_pos rfl]
theorem parts_last {wd : Str} (h : Parts wd) : ∃ pre, svs (Txt.split wd ":") = pre ++ [.str (orderOf wd).2] := by
  rcases h.p with ⟨_, e⟩ | ⟨_, e, _⟩
  · exact ⟨[], by rw [e]; rfl⟩
  · exact ⟨[.str (orderOf wd).1], by rw [e]; rfl⟩
theorem box_put {j : Addr} {H H1 : Hp} {b r u r' u' : Addr} {g : Nat} {ov : Bool} {x x' : RP} {vs' : List V} (hb : H b = some (.dK (bx r u g ov))) (h1 : H r' = some (.lst (ivs x'.rest))) (h2 : H u' = some (.lst vs')) (h3 : Pcs H vs' x'.pieces) (n3 : r' ≠ j) (n4 : u' ≠ j) : BoxJ j (upd H b (.dK (bx r' u' g ov))) b x' g ov := by
  have n1 : r' ≠ b := ne_of h1 hb (by intro z; cases z)
  have n2 : u' ≠ b := ne_of h2 hb (by intro z; cases z)
  exact ⟨r', u', vs', upd_same, by rw [upd_ne n1]; exact h1, by rw [upd_ne n2]; exact h2, h3.mono (tup_stays hb (by intro xs z; cases z)), n3, n4⟩
theorem ok_dn (B : TxB K mg) (j : Addr) : FnOk P w K mg base CX0 2 B.don.f B.don.fd ["_law_words_here", "_law_got", "_law_box_here", "_law_said", "_law_wide"] (spDn j) := by
  have GP : FnOk P w K mg base CX0 1 B.pas.f B.pas.fd ["_law_test", "_law_got", "_law_box_here", "_law_said", "_law_wide"] spPd := ok_pd B
  have GS : FnOk P w K mg base CX0 1 B.sli.f B.sli.fd ["_law_row_here", "_law_wide", "_law_many"] spSl := ok_sl B
  refine B.don.F.ok scDn (fun vs H Q E h => ?_) (fun cdv A outer s H vs Q E hr h => ?_)
  · obtain ⟨wa, ga, b, ws, got, x, g, ov, said, wide, k, c, rfl, _⟩ := h
    rfl
  · obtain ⟨wa, ga, b, ws, got, x, g, ov, said, wide, kk, cc, rfl, hwa, hwd, lws, hga, hB, hJ, hF, hk, hc, k⟩ := h
    have hu := hu_of hr
    refine ⟨_, (pss_cons (ps_for PassesOwn.never rfl (pi_list (pv 0)) (pg_name (i := 5) scDn.nd rfl (.inl rfl)) (pss_cons (ps_set (i := 6) scDn.nd rfl (.inl rfl) (pe_split (pv 5) pe_str)) (pss_cons (ps_if (pt_imp (t' := tSkip) (PW.pt (pw_and (pt_cmpR op_eq (pe_callB call_len_seq (by rfl) B.J.len PySem.boot_len (pa_cons (pv 6) pa_nil)) pe_int (nomark _)) (pw_and1 (pt_not (pt_val (pe_call GP hr rfl B.pas.g B.pas.k B.pas.b .nil pass0 (pa_cons (pe_ix ix_list (pv 6) pe_int (fun _ _ => rfl)) (pa_cons (pv 1) (pa_cons (pv 2) (pa_cons (pv 3) (pa_cons (pv 4) pa_nil))))))))))) ?imp) (pss_one ps_continue) pss_nil) (pss_cons (ps_if (pt_cmpR op_in_seq (pe_ix ix_list (pv 6) (pe_un un_neg pe_int) (fun _ _ => rfl)) (pe_lst (pa_cons pe_str (pa_cons pe_str pa_nil))) (by rfl)) (pss_one (ps_ret (pe_ix ix_list (pv 6) (pe_un un_neg pe_int) (fun _ _ => rfl)))) pss_nil) (pss_one (ps_if (pt_cmpR op_eq (pe_ix ix_list (pv 6) (pe_un un_neg pe_int) (fun _ _ => rfl)) pe_str (nomark _)) (pss_one (ps_dput hu (pv 2) pe_str (pe_op op_cat (pe_dget hu (pv 2) pe_str (fun _ _ => rfl)) (pv 1)) rfl)) (pss_one (ps_if (pt_cmpR op_eq (pe_ix ix_list (pv 6) (pe_un un_neg pe_int) (fun _ _ => rfl)) pe_str (nomark _)) (pss_one (ps_dput hu (pv 2) pe_str (pe_op op_cat (pe_dget hu (pv 2) pe_str (fun _ _ => rfl)) (pe_lst (pa_cons (pe_callTy call_tuple_of (by rfl) B.tuple (by decide +kernel) (pa_cons (pv 1) pa_nil)) pa_nil))) rfl)) (pss_one (ps_if (pt_cmpR op_eq (pe_ix ix_list (pv 6) (pe_un un_neg pe_int) (fun _ _ => rfl)) pe_str (nomark _)) (pss_one (ps_asg (pe_tup (pa_cons (pe_op op_cat (pe_dget hu (pv 2) pe_str (fun _ _ => rfl)) (pe_lst (pa_cons (pe_callTy call_tuple_of (by rfl) B.tuple (by decide +kernel) (pa_cons (pe_dget hu (pv 2) pe_str (fun _ _ => rfl)) pa_nil)) pa_nil))) (pa_cons (pe_lst pa_nil) pa_nil))) (pg_tup rfl (pgs_cons (pg_sub (pv 2) pe_str (set_dict hu)) (pgs_cons (pg_sub (pv 2) pe_str (set_dict hu)) pgs_nil))))) (pss_cons (ps_set (i := 7) scDn.nd rfl (.inl rfl) (pe_op op_fdiv (pe_callB call_len_seq (by rfl) B.J.len PySem.boot_len (pa_cons (pe_dget hu (pv 2) pe_str (fun _ _ => rfl)) pa_nil)) (pv 4))) (pss_cons (ps_dput hu (pv 2) pe_str (pe_op op_cat (pe_dget hu (pv 2) pe_str (fun _ _ => rfl)) (pe_call GS hr rfl B.sli.g B.sli.k B.sli.b .nil pass0 (pa_cons (pe_dget hu (pv 2) pe_str (fun _ _ => rfl)) (pa_cons (pv 4) (pa_cons (pv 7) pa_nil))))) rfl) (pss_one (ps_dput hu (pv 2) pe_str (pe_slice sl_list (pe_dget hu (pv 2) pe_str (fun _ _ => rfl)) (po_some (pe_op op_mul (pv 7) (pv 4))) po_none) rfl)))))))))))))) (pss_one (ps_ret pe_str))), ?_⟩
    case imp =>
      rintro σ H1 Q1 ⟨q, ga, b, wd, got, x, g, ov, said, wide, h6, h1, h2, h3, h4, hp, hq, hga, hB, k⟩
      refine ⟨_, h6, q, _, rfl, .inl (SqL.of hq), rfl, _, rfl, ?_⟩
      rw [dI]
      rcases hp.p with ⟨e1, e2⟩ | ⟨e1, e2, e3⟩
      · rw [e2, decide_eq_false (by show ¬ ((1 : Int)) = 2; decide)]
        have k1 := k H1 (Same.refl _)
        rw [e1, emp, pass_0] at k1
        exact iteF k1
      · rw [e2, decide_eq_true (by show ((2 : Int)) = 2; rfl)]
        rw [e2] at hq
        refine iteT ⟨_, h6, q, _, 0, _, rfl, rfl, SqL.of hq, rfl, _, h1, _, h2, _, h3, _, h4, ga, b, _, got, x, g, ov, said, wide, rfl, e3, hga, hB, fun H2 s2 => ⟨_, rfl, k H2 s2⟩⟩
    have lw : (svs ws).length = ws.length := svs_len' ws
    refine ⟨_, rfl, wa, rfl, ⟨_, SqL.of hwa⟩, ?_⟩
    obtain ⟨r0, u0, vs0, hb0, _⟩ := id hB.ex
    have nj : ∀ {Hx : Hp} {q : Addr}, Off b H Hx → Hx q = none → q ≠ j := fun {Hx q} o n z => by
      obtain ⟨a1, a2, a3, hj⟩ := hJ
      have e := o j _ (ne_of hj hb0 (by intro z; cases z)) hj
      rw [z, e] at n
      cases n
    have wb : wa ≠ b := ne_of hwa hb0 (by intro z; cases z)
    have gb : ga ≠ b := ne_of hga hb0 (by intro z; cases z)
    refine for_list (K := K) (a := wa) (xs := svs ws) (fun i σ H' => ∃ v5 v6 v7, σ = [some (.ref wa), some (.ref ga), some (.ref b), some (.bl said), some (.int wide), v5, v6, v7] ∧ Off b H H' ∧ BoxJ j H' b (runW wide got said ((ords ws).take i) x).1 g ov ∧ goes wide got said ((ords ws).take i) x = true) ⟨none, none, none, rfl, Off.refl, hB, rfl⟩ (fun i σ H' _ ⟨_, _, _, _, o1, _⟩ => SqL.of (o1 _ _ wb hwa)) ?_ ?_
    · rintro i y σ H1 hy ⟨v5, v6, v7, rfl, o1, B1, g1⟩
      obtain ⟨wd, hwi, rfl⟩ := svs_get hy
      have hod : (ords ws)[i]? = some (orderOf wd) := by rw [ords, List.getElem?_map, hwi]; rfl
      have lo : (ords ws).length = ws.length := List.length_map ..
      have li : i < (ords ws).length := lt_of_get hod
      have Wz := hwd wd (List.mem_of_getElem? hwi)
      have hP := parts_of Wz
      have hL : wd.length ≤ 11 := (wd_fs Wz).2
      refine ⟨_, rfl, ⟨_, rfl⟩, wd, ":", rfl, rfl, by decide +kernel, Nat.le_trans (Nat.add_le_add_right hL 2) (by decide), fun q nq => ?_⟩
      have s2 : Same H1 (upd H1 q (.lst (svs (Txt.split wd ":")))) := same_new nq
      have hq2 : (upd H1 q (.lst (svs (Txt.split wd ":")))) q = some (.lst (svs (Txt.split wd ":"))) := upd_same
      show tSeq _ _ _ _ (upd H1 q (.lst (svs (Txt.split wd ":"))))
      generalize upd H1 q (.lst (svs (Txt.split wd ":"))) = H2 at s2 hq2 ⊢
      have B2 := B1.same s2
      have o2 : Off b H H2 := o1.trans (Same.off s2)
      -- the mathematics of this word
      have tk : (ords ws).take (i + 1) = (ords ws).take i ++ [orderOf wd] := take_snoc hod
      have rg := run_goes wide got said ((ords ws).take i) [orderOf wd] x g1
      rw [← tk] at rg
      have rw1 : ords ws = (ords ws).take i ++ (orderOf wd :: (ords ws).drop (i + 1)) := by
        have e := List.take_append_drop i (ords ws)
        rw [List.drop_eq_getElem_cons li] at e
        have : (ords ws)[i] = orderOf wd := (List.getElem?_eq_some_iff.mp hod).2
        rw [this] at e
        exact e.symm
      have rgs := (run_goes wide got said ((ords ws).take i) (orderOf wd :: (ords ws).drop (i + 1)) x g1).1
      rw [← rw1] at rgs
      have fe := few_run (told := said) hF.s1 hF.h ((ords ws).take i) kk cc x hF.f
      have lt : ((ords ws).take i).length ≤ 12 := by rw [List.length_take]; omega
      have fk : FitK wide got (kk + 12) (cc + 12 * (kk + 12)) (runW wide got said ((ords ws).take i) x).1 := ⟨hF.s1, hF.s2, hF.h, by omega, by omega, fe.mono (by omega) (Nat.add_le_add_left (Nat.mul_le_mul lt (by omega)) _)⟩
      generalize hy0 : (runW wide got said ((ords ws).take i) x).1 = y at rg rgs fk B1 B2
      have r1e := rg.1
      have r2e := rg.2.1
      obtain ⟨pre, hpre⟩ := parts_last hP
      have sR := hP.s
      have hqd : orderOf wd = ((orderOf wd).1, (orderOf wd).2) := rfl
      rw [hqd, runW_cons] at rgs
      rw [hqd, runW_cons] at r1e
      rw [hqd, goes_cons] at r2e
      have hga2 := o2 _ _ gb hga
      refine ⟨q, ga, b, wd, got, y, g, ov, said, wide, rfl, rfl, rfl, rfl, rfl, hP, hq2, hga2, B2.at, fun H3 s3 => ?_⟩
      have B3 := B2.same s3
      have o3 : Off b H H3 := o2.trans (Same.off s3)
      have hq3 := s3 _ _ hq2
      have hga3 := s3 _ _ hga2
      rw [hpre] at hq3
      generalize (orderOf wd).1 = t1 at rgs r1e r2e ⊢
      generalize (orderOf wd).2 = s1 at rgs r1e r2e sR hq3 ⊢
      clear hq2 hga2 B2 o2 s2 s3 hP hpre rg rw1 hqd hod
      by_cases cp : passM wide got said t1 y.rest = true
      rotate_left
      · rw [Bool.eq_false_iff.mpr cp]
        rw [if_neg cp] at r1e r2e
        exact iteT ⟨_, _, _, rfl, o3, by rw [r1e]; exact B3, r2e⟩
      rw [cp]
      rw [if_pos cp] at rgs r1e r2e
      refine iteF ?_
      -- stop, again
      refine ⟨_, rfl, _, rfl, q, _, -1, _, rfl, rfl, SqL.of hq3, atI_last _ _, (by show 2 ≤ sizeLine; decide), fun l nl => ⟨l, _, rfl, .inl (SqL.of upd_same), rfl, rfl, _, rfl, ?_⟩⟩
      have s4 : Same H3 (upd H3 l (.lst [.str "stop", .str "again"])) := same_new nl
      generalize upd H3 l (.lst [.str "stop", .str "again"]) = H4 at s4 ⊢
      have B4 := B3.same s4
      have o4 : Off b H H4 := o3.trans (Same.off s4)
      have hq4 := s4 _ _ hq3
      have hga4 := s4 _ _ hga3
      clear B3 o3 hq3 hga3 s4
      rw [show (if false = true then !inV (V.str s1) [V.str "stop", V.str "again"] else inV (V.str s1) [V.str "stop", V.str "again"]) = decide (s1 = "stop" ∨ s1 = "again") from in2 ..]
      by_cases cs : s1 = "stop" ∨ s1 = "again"
      · rw [decide_eq_true cs]
        refine iteT ⟨_, rfl, _, rfl, q, _, -1, _, rfl, rfl, SqL.of hq4, atI_last _ _, ?_⟩
        refine k _ _ o4 ?_ ?_
        · rw [rgs]
          split
          · exact B4
          · rcases cs with c | c
            · rw [if_pos c]; exact B4
            · exact absurd c ‹_›
        · rw [rgs]
          rcases cs with c | c
          · rw [c, if_neg (by decide +kernel), if_pos rfl]
            rfl
          · rw [c, if_pos rfl]
            show decide (("again" : Str) = "stop") = false
            decide +kernel
      rw [decide_eq_false cs]
      refine iteF ?_
      have c1 : ¬ s1 = "again" := fun z => cs (.inr z)
      have c2 : ¬ s1 = "stop" := fun z => cs (.inl z)
      rw [if_neg c1, if_neg c2] at r1e r2e
      obtain ⟨r4, u4, vs4, hb4, hr4, hu4, hP4, nr4, nu4⟩ := id B4.ex
      have fit := fk.fit
      have f1 := fit.r
      have f2 := fit.p
      have f3 := fit.h
      have f4 := fit.s1
      have f5 := fit.s2
      have lp4 := hP4.len
      have done : ∀ H5 v5 v6 v7, Off b H H5 → BoxJ j H5 b (perfM wide got s1 y) g ov → ∃ w5 w6 w7 : Option V, ([some (.ref wa), some (.ref ga), some (.ref b), some (.bl said), some (.int wide), v5, v6, v7] : St) = [some (.ref wa), some (.ref ga), some (.ref b), some (.bl said), some (.int wide), w5, w6, w7] ∧ Off b H H5 ∧ BoxJ j H5 b (runW wide got said ((ords ws).take (i + 1)) x).1 g ov ∧ goes wide got said ((ords ws).take (i + 1)) x = true := fun H5 v5 v6 v7 o5 B5 => ⟨_, _, _, rfl, o5, by rw [r1e]; exact B5, r2e⟩
      refine ⟨_, rfl, _, rfl, q, _, -1, _, rfl, rfl, SqL.of hq4, atI_last _ _, rfl, _, rfl, ?_⟩
      rw [dS]
      by_cases ca : s1 = "add"
      · rw [decide_eq_true ca]
        refine iteT ⟨_, rfl, b, _, rfl, get_r hb4, _, rfl, r4, ga, _, _, rfl, rfl, hr4, hga4, ?_, fun p np => ?_⟩
        · rw [ivs_len, ivs_len]
          exact Nat.le_trans (show y.rest.length + got.length ≤ 4000000 by omega) (by decide)
        have hb5 := same_new (o := .lst (ivs y.rest ++ ivs got)) np _ _ hb4
        refine ⟨_, rfl, b, _, rfl, dput_r p hb5, ?_⟩
        refine done _ _ _ _ (o4.new np).put ?_
        have e : perfM wide got s1 y = ⟨y.rest ++ got, y.pieces⟩ := by unfold perfM; rw [if_pos ca]
        rw [e]
        exact box_put (x := y) (H1 := H4) hb5 (by rw [upd_same]; simp [ivs]) (same_new np _ _ hu4) (hP4.same (same_new np)) (nj o4 np) nu4
      rw [decide_eq_false ca]
      refine iteF ⟨_, rfl, _, rfl, q, _, -1, _, rfl, rfl, SqL.of hq4, atI_last _ _, rfl, _, rfl, ?_⟩
      rw [dS]
      by_cases ch : s1 = "hand"
      · rw [decide_eq_true ch]
        refine iteT ⟨_, rfl, b, _, rfl, get_u hb4, _, rfl, ga, _, rfl, .inl ⟨SqL.of hga4, fun tq ntq => ?_⟩⟩
        refine ⟨(by show 1 ≤ sizeLine; decide), fun lq nlq => ?_⟩
        refine ⟨u4, lq, _, _, rfl, rfl, same_new nlq _ _ (same_new ntq _ _ hu4), upd_same, ?_, fun p np => ?_⟩
        · rw [lp4]
          exact Nat.le_trans (show y.pieces.length + 1 ≤ 9000000 by omega) (by decide)
        have s5 : Same H4 (upd (upd (upd H4 tq (.tup (ivs got))) lq (.lst [.ref tq])) p (.lst (vs4 ++ [.ref tq]))) := Same.trans (same_new ntq) (Same.trans (same_new nlq) (same_new np))
        have hb5 := s5 _ _ hb4
        refine ⟨_, rfl, b, _, rfl, dput_u p hb5, ?_⟩
        refine done _ _ _ _ (o4.trans (Same.off s5)).put ?_
        have e : perfM wide got s1 y = ⟨y.rest, y.pieces ++ [got]⟩ := by unfold perfM; rw [if_neg ca, if_pos ch]
        rw [e]
        exact box_put (x := y) (H1 := H4) hb5 (s5 _ _ hr4) upd_same (Pcs.snoc (same_new np _ _ (same_new nlq _ _ upd_same)) (hP4.same s5)) nr4 (nj (o4.trans (Same.off (Same.trans (same_new ntq) (same_new nlq)))) np)
      rw [decide_eq_false ch]
      refine iteF ⟨_, rfl, _, rfl, q, _, -1, _, rfl, rfl, SqL.of hq4, atI_last _ _, rfl, _, rfl, ?_⟩
      rw [dS]
      by_cases cf : s1 = "flush"
      · rw [decide_eq_true cf]
        have cc' : ¬ s1 = "cut" := by rw [cf]; decide +kernel
        refine iteT ⟨_, rfl, b, _, rfl, get_u hb4, _, rfl, b, _, rfl, get_r hb4, r4, _, rfl, .inl ⟨SqL.of hr4, fun tq ntq => ?_⟩⟩
        refine ⟨(by show 1 ≤ sizeLine; decide), fun lq nlq => ?_⟩
        refine ⟨u4, lq, _, _, rfl, rfl, same_new nlq _ _ (same_new ntq _ _ hu4), upd_same, ?_, fun p np => ?_⟩
        · rw [lp4]
          exact Nat.le_trans (show y.pieces.length + 1 ≤ 9000000 by omega) (by decide)
        have s5 : Same H4 (upd (upd (upd H4 tq (.tup (ivs y.rest))) lq (.lst [.ref tq])) p (.lst (vs4 ++ [.ref tq]))) := Same.trans (same_new ntq) (Same.trans (same_new nlq) (same_new np))
        have hp5 : (upd (upd (upd H4 tq (.tup (ivs y.rest))) lq (.lst [.ref tq])) p (.lst (vs4 ++ [.ref tq]))) p = some (.lst (vs4 ++ [.ref tq])) := upd_same
        have ht5 : (upd (upd (upd H4 tq (.tup (ivs y.rest))) lq (.lst [.ref tq])) p (.lst (vs4 ++ [.ref tq]))) tq = some (.tup (ivs y.rest)) := same_new np _ _ (same_new nlq _ _ upd_same)
        generalize upd (upd (upd H4 tq (.tup (ivs y.rest))) lq (.lst [.ref tq])) p (.lst (vs4 ++ [.ref tq])) = H5 at s5 hp5 ht5 ⊢
        refine ⟨Nat.zero_le _, fun e5 ne5 => ?_⟩
        refine ⟨(by show 2 ≤ sizeLine; decide), fun tt ntt => ?_⟩
        have s6 : Same H4 (upd (upd H5 e5 (.lst [])) tt (.tup [.ref p, .ref e5])) := Same.trans s5 (Same.trans (same_new ne5) (same_new ntt))
        refine ⟨tt, _, rfl, SqT.of upd_same, rfl, _, _, rfl, ?_⟩
        have hb6 := s6 _ _ hb4
        refine ⟨_, rfl, b, _, rfl, dput_u p hb6, ?_⟩
        refine ⟨_, _, rfl, ?_⟩
        have he6 : (upd (upd H5 e5 (.lst [])) tt (.tup [.ref p, .ref e5])) e5 = some (.lst (ivs [])) := same_new ntt _ _ upd_same
        have hp6 := same_new (o := .tup [.ref p, .ref e5]) ntt _ _ (same_new (o := .lst []) ne5 _ _ hp5)
        have ht6 := same_new (o := .tup [.ref p, .ref e5]) ntt _ _ (same_new (o := .lst []) ne5 _ _ ht5)
        have o6 := o4.trans (Same.off s6)
        have hP6 := hP4.same s6
        generalize upd (upd H5 e5 (.lst [])) tt (.tup [.ref p, .ref e5]) = H6 at s6 hb6 he6 hp6 ht6 o6 hP6 ⊢
        have pb6 : p ≠ b := ne_of hp6 hb6 (by intro z; cases z)
        have e5b : e5 ≠ b := ne_of he6 hb6 (by intro z; cases z)
        refine ⟨_, rfl, b, _, rfl, dput_r e5 upd_same, rfl, ?_⟩
        refine done _ _ _ _ o6.put.put ?_
        have e : perfM wide got s1 y = ⟨[], y.pieces ++ [y.rest]⟩ := by unfold perfM; rw [if_neg ca, if_neg ch, if_neg cc', if_pos cf]
        rw [e]
        exact box_put (x := y) (H1 := H4) upd_same (by rw [upd_ne e5b]; exact he6) (by rw [upd_ne pb6]; exact hp6) ((Pcs.snoc ht6 hP6).mono (tup_stays hb6 (by intro xs z; cases z))) (nj (o4.trans (Same.off s5)) ne5) (nj (o4.trans (Same.off (Same.trans (same_new ntq) (same_new nlq)))) np)
      rw [decide_eq_false cf]
      refine iteF ?_
      have ccut : s1 = "cut" := by
        have h5 : s1 = "add" ∨ s1 = "hand" ∨ s1 = "cut" ∨ s1 = "flush" ∨ s1 = "stop" ∨ s1 = "again" := by simpa [rsteps] using sR
        rcases h5 with h | h | h | h | h | h
        · exact absurd h ca
        · exact absurd h ch
        · exact h
        · exact absurd h cf
        · exact absurd h c2
        · exact absurd h c1
      have le : y.rest.length / wide * wide ≤ y.rest.length := Nat.div_mul_le_self _ _
      refine ⟨_, rfl, b, _, rfl, get_r hb4, r4, _, rfl, .inl (SqL.of hr4), _, rfl, _, _, rfl, rfl, ⟨by omega, by omega⟩, ?_⟩
      have eq1 : ((ivs y.rest).length : Int) / (wide : Int) = ((y.rest.length / wide : Nat) : Int) := by rw [ivs_len, Int.natCast_ediv]
      simp only [eq1]
      have eperf : perfM wide got s1 y = ⟨y.rest.drop (y.rest.length / wide * wide), y.pieces ++ cutN wide y.rest (y.rest.length / wide)⟩ := by unfold perfM; rw [if_neg ca, if_neg ch, if_pos ccut]
      have qle : y.rest.length / wide ≤ y.rest.length := Nat.div_le_self _ _
      generalize y.rest.length / wide = qn at le eperf qle ⊢
      refine ⟨_, rfl, b, _, rfl, get_u hb4, _, rfl, b, _, rfl, get_r hb4, _, rfl, _, rfl, r4, y.rest, wide, qn, rfl, hr4, f5, le, by omega, by omega, fun H5 lq vq s5 hlq hPq => ?_⟩
      have lpq := hPq.len
      refine ⟨u4, lq, _, _, rfl, rfl, s5 _ _ hu4, hlq, ?_, fun p np => ?_⟩
      · rw [lp4, lpq, cutN, List.length_map, List.length_range]
        exact Nat.le_trans (show y.pieces.length + qn ≤ 12000000 by omega) (by decide)
      have s6 : Same H4 (upd H5 p (.lst (vs4 ++ vq))) := Same.trans s5 (same_new np)
      have hb6 := s6 _ _ hb4
      refine ⟨_, rfl, b, _, rfl, dput_u p hb6, ?_⟩
      have hp6 : (upd H5 p (.lst (vs4 ++ vq))) p = some (.lst (vs4 ++ vq)) := upd_same
      have hP6 : Pcs (upd H5 p (.lst (vs4 ++ vq))) (vs4 ++ vq) (y.pieces ++ cutN wide y.rest qn) := (hP4.same s6).app (hPq.same (same_new np))
      have o6 := o4.trans (Same.off s6)
      have hr6 := s6 _ _ hr4
      generalize upd H5 p (.lst (vs4 ++ vq)) = H6 at s6 hb6 hp6 hP6 o6 hr6 ⊢
      have r4b : r4 ≠ b := ne_of hr6 hb6 (by intro z; cases z)
      have pb : p ≠ b := ne_of hp6 hb6 (by intro z; cases z)
      refine ⟨_, rfl, b, _, rfl, get_r upd_same, _, rfl, _, rfl, _, _, rfl, rfl, .inr ⟨by omega, by omega⟩, ((qn * wide : Nat) : Int), by rw [Int.natCast_mul], r4, _, rfl, SqL.of (by rw [upd_ne r4b]; exact hr6), fun p2 np2 => ?_⟩
      rw [cut_from]
      have hb7 : (upd (upd H6 b (.dK (bx r4 p g ov))) p2 (.lst ((ivs y.rest).drop (qn * wide)))) b = some (.dK (bx r4 p g ov)) := same_new np2 _ _ upd_same
      refine ⟨_, rfl, b, _, rfl, dput_r p2 hb7, ?_⟩
      refine done _ _ _ _ (o6.put.new np2).put ?_
      rw [eperf]
      exact box_put (x := y) (H1 := H4) hb7 (by rw [upd_same]; simp [ivs, List.map_drop]) (same_new np2 _ _ (by rw [upd_ne pb]; exact hp6)) ((hP6.mono (tup_stays hb6 (by intro xs z; cases z))).same (same_new np2)) (nj o6.put np2) (nj (o4.trans (Same.off s5)) np)
    · rintro σ H1 ⟨v5, v6, v7, rfl, o1, B1, g1⟩
      have lo : (ords ws).length = ws.length := List.length_map ..
      rw [lw, ← lo, List.take_length] at B1 g1
      refine k _ _ o1 B1 ?_
      rw [(run_goes wide got said (ords ws) [] x g1).2.2]
      decide +kernel
end
end My

namespace My
open PySem L2 Cm LM EM
/-! ### the same, as the program's -/
def itemsL (f c : Nat) : List Int := (List.range c).map fun i => (f : Int) + (i : Nat)
theorem rgV_itemsL (f c : Nat) : rgV (f : Int) ((f : Int) + (c : Int)) = ivs (itemsL f c) := by
  unfold rgV itemsL ivs
  rw [show ((f : Int) + (c : Int) - (f : Int)).toNat = c by omega, List.map_map]
  rfl
theorem itemsL_len (f c : Nat) : (itemsL f c).length = c := by rw [itemsL, List.length_map, List.length_range]
theorem run_ask {wide : Nat} {got : List Int} {said : Bool} {r : List Str} {x : RP} : runW wide got said (ords (("ask" : Str) :: r)) x = runW wide got said (ords r) x := by
  show runW wide got said (orderOf "ask" :: ords r) x = _
  rw [ask_order, runW_cons, pass_0, if_pos rfl, if_neg (by decide +kernel), if_neg (by decide +kernel)]
  have e : perfM wide got "ask" x = x := by
    unfold perfM
    rw [if_neg (by decide +kernel), if_neg (by decide +kernel), if_neg (by decide +kernel), if_neg (by decide +kernel)]
  rw [e]
theorem run_end {wide : Nat} {got : List Int} {said : Bool} : ∀ {os : List (Str × Str)} {x : RP}, (∀ o ∈ os, o.2 ≠ "again" ∧ o.2 ≠ "stop") → runW wide got said os x = (endW wide got said os x, false)
  | [], _, _ => rfl
  | (t, s) :: r, x, h => by
    have h1 := h (t, s) (List.mem_cons_self ..)
    have ih := fun x => run_end (wide := wide) (got := got) (said := said) (os := r) (x := x) fun o ho => h o (List.mem_cons_of_mem _ ho)
    rw [runW_cons]
    show _ = (endW wide got said r (if passM wide got said t x.rest = true then perfM wide got s x else x), false)
    by_cases c : passM wide got said t x.rest = true
    · rw [if_pos c, if_pos c, if_neg h1.1, if_neg h1.2]
      exact ih _
    · rw [if_neg c, if_neg c]
      exact ih _
theorem jar_n {H : Hp} {j p : Addr} (a : Jar H j) (n : H p = none) : p ≠ j := fun z => by
  obtain ⟨x, y, w, h⟩ := a
  rw [z, h] at n
  cases n
section
variable {P : Program} {w : World} {K : PySem.W.Frag} {mg : Str → Option Value} {base : Heap}
/-! ### _law_fed -/
def spFd (j : Addr) : Sp := fun vs H Q _ => ∃ (ma a b0 b : Addr) (B E : List Str) (x : RP) (g : Nat) (ov said : Bool) (many wide k c : Nat), vs = [.ref ma, .ref b, .int many, .bl said, .int wide] ∧ H ma = some (.tup [.ref a, .ref b0]) ∧ H a = some (.lst (svs B)) ∧ H b0 = some (.lst (svs E)) ∧ isRound B = true ∧ isEnding E = true ∧ BoxJ j H b x g ov ∧ Jar H j ∧ 1 ≤ wide ∧ wide ≤ 1000 ∧ many ≤ wide ∧ g ≤ 1000000 ∧ Few wide k c x ∧ k ≤ 2300 ∧ c ≤ 7700000 ∧
  ∀ (H' : Hp) (d : Addr), Same H H' → H d = none → BoxJ j H' d (ansM wide (ords B) (ords E) (itemsL g many) said x).1 (g + many) (ansM wide (ords B) (ords E) (itemsL g many) said x).2 → Q (.ref d) H'
theorem scFd : FnScope ["_law_made", "_law_box_here", "_law_many", "_law_said", "_law_wide", "_law_begun", "_law_ended", "_law_after", "_law_got"] ["_law_made", "_law_box_here", "_law_many", "_law_said", "_law_wide"] (defScope sFed) := ⟨rfl, rfl, rfl, by decide +kernel, rfl, by decide +kernel, by decide +kernel⟩
theorem ok_fd (B : TxB K mg) (j : Addr) : FnOk P w K mg base CX0 3 B.fed.f B.fed.fd ["_law_made", "_law_box_here", "_law_many", "_law_said", "_law_wide"] (spFd j) := by
  have GD : FnOk P w K mg base CX0 2 B.don.f B.don.fd ["_law_words_here", "_law_got", "_law_box_here", "_law_said", "_law_wide"] (spDn j) := ok_dn B j
  refine B.fed.F.ok scFd (fun vs H Q E h => ?_) (fun cdv A outer s H vs Q E hr h => ?_)
  · obtain ⟨ma, a, b0, b, Bg, En, x, g, ov, said, many, wide, k, c, rfl, _⟩ := h
    rfl
  · obtain ⟨ma, a, b0, b, Bg, En, x, g, ov, said, many, wide, kk, cc, rfl, hma, ha, hb0, rB, rE, hB, hJ, w1, w2, m1, g1, hF, hk, hc, k⟩ := h
    have hu := hu_of hr
    refine ⟨_, (pss_cons (ps_asg (pv 0) (pg_tup rfl (pgs_cons (pg_name (i := 5) scFd.nd rfl (.inl rfl)) (pgs_cons (pg_name (i := 6) scFd.nd rfl (.inl rfl)) pgs_nil)))) (pss_cons (ps_set (i := 7) scFd.nd rfl (.inl rfl) (pe_disp (pps_cons pe_str (pe_callTy call_list_of (by rfl) B.list (by decide +kernel) (pa_cons (pe_dget hu (pv 1) pe_str (fun _ _ => rfl)) pa_nil)) (pps_cons pe_str (pe_callTy call_list_of (by rfl) B.list (by decide +kernel) (pa_cons (pe_dget hu (pv 1) pe_str (fun _ _ => rfl)) pa_nil)) (pps_cons pe_str (pe_op op_add (pe_dget hu (pv 1) pe_str (fun _ _ => rfl)) (pv 2)) (pps_cons pe_str pe_bl pps_nil)))) (by rfl) (by rfl) (fun z => by cases z) (by decide))) (pss_cons (ps_set (i := 8) scFd.nd rfl (.inl rfl) (pe_listRg rfl rfl B.list (prg_2 rfl B.range (pe_dget hu (pv 1) pe_str (fun _ _ => rfl)) (pe_op op_add (pe_dget hu (pv 1) pe_str (fun _ _ => rfl)) (pv 2))))) (pss_cons (ps_if (pt_cmpR op_eq (pe_call GD hr rfl B.don.g B.don.k B.don.b .nil pass0 (pa_cons (pe_slice sl_list (pv 5) (po_some pe_int) po_none) (pa_cons (pv 8) (pa_cons (pv 7) (pa_cons (pv 3) (pa_cons (pv 4) pa_nil)))))) pe_str (nomark _)) (pss_cons (ps_expr (pe_call GD hr rfl B.don.g B.don.k B.don.b .nil pass0 (pa_cons (pv 6) (pa_cons (pv 8) (pa_cons (pv 7) (pa_cons (pv 3) (pa_cons (pv 4) pa_nil))))))) (pss_one (ps_dput hu (pv 7) pe_str pe_bl rfl))) pss_nil) (pss_one (ps_ret (pv 7))))))), ?_⟩
    refine ⟨_, rfl, ma, _, rfl, SqT.of hma, rfl, _, _, rfl, _, _, rfl, rfl, ?_⟩
    obtain ⟨r, u, vs, hb, hr1, hu1, hP, nr0, nu0⟩ := id hB.ex
    -- the new box
    intro d nd
    have nda : ∀ {q : Addr} {o : HO}, H q = some o → q ≠ d := fun h => ne_of_none h nd
    have s0 : Same H (upd H d (.dK [])) := same_new nd
    refine ⟨_, rfl, b, _, rfl, get_r (s0 _ _ hb), r, _, rfl, .inl (SqL.of (s0 _ _ hr1)), fun r2 nr2 => ?_⟩
    refine ⟨_, rfl, b, _, rfl, get_u (same_new nr2 _ _ (s0 _ _ hb)), u, _, rfl, .inl (SqL.of (same_new nr2 _ _ (s0 _ _ hu1))), fun u2 nu2 => ?_⟩
    refine ⟨_, rfl, b, _, rfl, get_g (same_new nu2 _ _ (same_new nr2 _ _ (s0 _ _ hb))), _, rfl, _, _, rfl, rfl, ?_⟩
    refine ⟨same_new nu2 _ _ (same_new nr2 _ _ upd_same), bx r2 u2 (g + many) false, ?_, (by rw [bx_len]; decide), ?_⟩
    · simp [bx, kV]
    rw [bx_mk]
    have r2d : r2 ≠ d := fun z => by rw [z, upd_same] at nr2; cases nr2
    have u2r : u2 ≠ r2 := fun z => by rw [z, upd_same] at nu2; cases nu2
    have u2d : u2 ≠ d := fun z => by rw [z, upd_ne r2d.symm, upd_same] at nu2; cases nu2
    have s1 : Same H (upd (upd (upd (upd H d (.dK [])) r2 (.lst (ivs x.rest))) u2 (.lst vs)) d (.dK (bx r2 u2 (g + many) false))) := fun q o e => by
      rw [upd_ne (nda e)]
      exact same_new nu2 _ _ (same_new nr2 _ _ (s0 _ _ e))
    have X1 : BoxJ j (upd (upd (upd (upd H d (.dK [])) r2 (.lst (ivs x.rest))) u2 (.lst vs)) d (.dK (bx r2 u2 (g + many) false))) d x (g + many) false := by
      refine ⟨r2, u2, vs, upd_same, ?_, ?_, hP.same s1, jar_n (hJ.same s0) nr2, jar_n ((hJ.same s0).same (same_new nr2)) nu2⟩
      · rw [upd_ne r2d, upd_ne u2r.symm, upd_same]
      · rw [upd_ne u2d, upd_same]
    generalize upd (upd (upd (upd H d (.dK [])) r2 (.lst (ivs x.rest))) u2 (.lst vs)) d (.dK (bx r2 u2 (g + many) false)) = H1 at s1 X1 ⊢
    -- the items
    have hb1 := s1 _ _ hb
    refine ⟨_, rfl, b, _, rfl, get_g hb1, _, rfl, b, _, rfl, get_g hb1, _, rfl, _, _, rfl, rfl, _, _, rfl, rfl, RgOk.of_le (by omega) (by omega) (by omega) (by omega), fun ga nga => ?_⟩
    rw [rgV_itemsL]
    have s2 : Same H1 (upd H1 ga (.lst (ivs (itemsL g many)))) := same_new nga
    have hga : (upd H1 ga (.lst (ivs (itemsL g many)))) ga = some (.lst (ivs (itemsL g many))) := upd_same
    show tSeq _ _ _ _ (upd H1 ga (.lst (ivs (itemsL g many))))
    generalize upd H1 ga (.lst (ivs (itemsL g many))) = H2 at s2 hga ⊢
    have X2 := X1.same s2
    have s12 := Same.trans s1 s2
    obtain ⟨rw0, eB, hwd, lrw⟩ := round_tail_wd rB
    subst eB
    -- the round
    refine ⟨_, rfl, 1, rfl, a, _, rfl, SqL.of (s12 _ _ ha), fun p np => ?_⟩
    rw [show (1 : Int) = ((1 : Nat) : Int) from rfl, cut_from]
    have ecut : (svs (("ask" : Str) :: rw0)).drop 1 = svs rw0 := rfl
    rw [ecut]
    have s3 : Same H2 (upd H2 p (.lst (svs rw0))) := same_new np
    have FK : FitK wide (itemsL g many) kk cc x := ⟨w1, w2, by rw [itemsL_len]; exact m1, by omega, by omega, hF⟩
    refine ⟨_, rfl, _, rfl, _, rfl, _, rfl, p, ga, d, rw0, itemsL g many, x, g + many, false, said, wide, kk, cc, rfl, upd_same, hwd, by omega, s3 _ _ hga, X2.same s3, hJ.same (Same.trans s12 s3), FK, by omega, by omega, fun H3 z o3 X3 hz => ?_⟩
    have nd1 : ∀ {q : Addr} {o : HO}, H q = some o → H3 q = some o := fun e => o3 _ _ (nda e) (s3 _ _ (s12 _ _ e))
    have dga : ga ≠ d := by
      obtain ⟨_, _, _, hd1, _⟩ := X1.ex
      exact fun e => by rw [e, hd1] at nga; cases nga
    have hga3 := o3 _ _ dga (s3 _ _ hga)
    refine ⟨rfl, _, rfl, ?_⟩
    rw [dS, hz]
    have ra : runW wide (itemsL g many) said (ords (("ask" : Str) :: rw0)) x = runW wide (itemsL g many) said (ords rw0) x := run_ask
    unfold ansM at k
    rw [ra] at k
    have sN : Same H H3 := fun q o e => nd1 e
    cases hst : (runW wide (itemsL g many) said (ords rw0) x).2 with
    | false =>
      rw [hst, if_neg Bool.false_ne_true] at k
      refine iteF ⟨_, rfl, ?_⟩
      exact k H3 d sN nd X3
    | true =>
      rw [hst, if_pos rfl] at k
      refine iteT ?_
      have fe := few_run (told := said) w1 FK.h (ords rw0) kk cc x hF
      have lo : (ords rw0).length = rw0.length := List.length_map ..
      have l11 : (ords rw0).length ≤ 12 := by omega
      have FK3 : FitK wide (itemsL g many) (kk + 12) (cc + 12 * (kk + 12)) (runW wide (itemsL g many) said (ords rw0) x).1 := ⟨w1, w2, FK.h, by omega, by omega, fe.mono (by omega) (Nat.add_le_add_left (Nat.mul_le_mul l11 (by omega)) _)⟩
      have eW := ending_wd rE
      refine ⟨_, rfl, _, rfl, _, rfl, _, rfl, _, rfl, b0, ga, d, En, itemsL g many, _, g + many, false, said, wide, kk + 12, cc + 12 * (kk + 12), rfl, nd1 hb0, eW.1, by omega, hga3, X3, hJ.same sN, FK3, by omega, by omega, fun H4 z4 o4 X4 _ => ?_⟩
      rw [run_end (os := ords En) (ending_flow rE)] at X4
      obtain ⟨r4, u4, vs4, hd4, hr4, hu4, hP4, nr4, nu4⟩ := X4.ex
      refine ⟨_, rfl, d, _, rfl, dput_o true hd4, ?_⟩
      refine ⟨_, rfl, ?_⟩
      refine k _ d (fun q o e => ?_) nd ?_
      · rw [upd_ne (nda e)]
        exact o4 _ _ (nda e) (nd1 e)
      · have n1 : r4 ≠ d := ne_of hr4 hd4 (by intro z; cases z)
        have n2 : u4 ≠ d := ne_of hu4 hd4 (by intro z; cases z)
        exact ⟨r4, u4, vs4, upd_same, by rw [upd_ne n1]; exact hr4, by rw [upd_ne n2]; exact hu4, hP4.mono (tup_stays hd4 (by intro xs z; cases z)), nr4, nu4⟩
/-! ### _law_box -/
def spBx (j : Addr) : Sp := fun vs H Q _ => vs = [] ∧ Jar H j ∧ ∀ (H' : Hp) (d : Addr), Same H H' → H d = none → BoxJ j H' d ⟨[], []⟩ 0 false → Q (.ref d) H'
theorem scBx : FnScope [] [] (defScope sBox) := ⟨rfl, rfl, rfl, by decide +kernel, rfl, by decide +kernel, by decide +kernel⟩
theorem ok_bx (B : TxB K mg) (j : Addr) : FnOk P w K mg base CX0 1 B.box.f B.box.fd [] (spBx j) := by
  refine B.box.F.ok scBx (fun vs H Q E h => ?_) (fun cdv A outer s H vs Q E hr h => ?_)
  · obtain ⟨rfl, _⟩ := h
    rfl
  · obtain ⟨rfl, hJ, k⟩ := h
    refine ⟨_, (pss_one (ps_ret (pe_disp (pps_cons pe_str (pe_lst pa_nil) (pps_cons pe_str (pe_lst pa_nil) (pps_cons pe_str pe_int (pps_cons pe_str pe_bl pps_nil)))) (by rfl) (by rfl) (fun z => by cases z) (by decide)))), ?_⟩
    intro d nd
    refine ⟨Nat.zero_le _, fun r2 nr2 => ?_⟩
    refine ⟨Nat.zero_le _, fun u2 nu2 => ?_⟩
    refine ⟨same_new nu2 _ _ (same_new nr2 _ _ upd_same), bx r2 u2 0 false, ?_, (by rw [bx_len]; decide), ?_⟩
    · simp [bx, kV]
    rw [bx_mk]
    have r2d : r2 ≠ d := fun z => by rw [z, upd_same] at nr2; cases nr2
    have u2r : u2 ≠ r2 := fun z => by rw [z, upd_same] at nu2; cases nu2
    have u2d : u2 ≠ d := fun z => by rw [z, upd_ne r2d.symm, upd_same] at nu2; cases nu2
    refine k _ d (fun q o e => ?_) nd ⟨r2, u2, [], upd_same, ?_, ?_, .nil, jar_n (hJ.same (same_new nd)) nr2, jar_n ((hJ.same (same_new nd)).same (same_new nr2)) nu2⟩
    · rw [upd_ne (ne_of_none e nd)]
      exact same_new nu2 _ _ (same_new nr2 _ _ (same_new nd _ _ e))
    · rw [upd_ne r2d, upd_ne u2r.symm, upd_same]
      rfl
    · rw [upd_ne u2d, upd_same]
end
end My

/-! Loop.execution, Loop.run -/
namespace My
open PySem L2 Cm LM EM
abbrev sLX : Stmt := inClass (top 26) 8
/-! ### the mirror -/
def itemsF (f c : Nat) : List Int := (List.range c).map fun i => (f : Int) + (i : Nat)
theorem itemsF_len (f c : Nat) : (itemsF f c).length = c := by rw [itemsF, List.length_map, List.length_range]
theorem rgV_items (f c : Nat) : rgV (f : Int) ((f : Int) + (c : Int)) = ivs (itemsF f c) := by
  unfold rgV itemsF ivs
  rw [show ((f : Int) + (c : Int) - (f : Int)).toNat = c by omega, List.map_map]
  rfl
/-- what a run has done: the row, the first item that comes next, the replies used, whether it has stopped -/
structure RS where
  x : RP
  f : Nat
  u : Nat
  st : Bool
def stepM (sz : Nat) (ro eo : List (Str × Str)) (s : RS) (r : Nat × Bool) : RS := if s.st = true then s else ⟨(ansM sz ro eo (itemsF s.f r.1) r.2 s.x).1, s.f + r.1, s.u + 1, (ansM sz ro eo (itemsF s.f r.1) r.2 s.x).2⟩
def runM (sz : Nat) (ro eo : List (Str × Str)) (rs : List (Nat × Bool)) : RS := rs.foldl (stepM sz ro eo) ⟨⟨[], []⟩, 0, 0, false⟩
theorem runM_stop {sz : Nat} {ro eo : List (Str × Str)} : ∀ {rs : List (Nat × Bool)} {s : RS}, s.st = true → rs.foldl (stepM sz ro eo) s = s
  | [], _, _ => rfl
  | r :: rs, s, h => by
    rw [List.foldl_cons, show stepM sz ro eo s r = s by unfold stepM; rw [if_pos h]]
    exact runM_stop h
theorem fold_bound {sz : Nat} {ro eo : List (Str × Str)} (hs : 1 ≤ sz) (l1 : ro.length ≤ 12) (l2 : eo.length ≤ 6) : ∀ (rs : List (Nat × Bool)) (k : Nat) (s : RS), k + rs.length ≤ 100 → (∀ r ∈ rs, r.1 ≤ sz) → Few sz (18 * k) (k * 32724) s.x → s.f ≤ k * sz → s.u ≤ k →
    Few sz (18 * (k + rs.length)) ((k + rs.length) * 32724) (rs.foldl (stepM sz ro eo) s).x ∧ (rs.foldl (stepM sz ro eo) s).f ≤ (k + rs.length) * sz ∧ (rs.foldl (stepM sz ro eo) s).u ≤ k + rs.length
  | [], k, s, _, _, f1, f2, f3 => ⟨f1, f2, f3⟩
  | r :: rs, k, s, hn, hr, f1, f2, f3 => by
    rw [List.length_cons] at hn
    have em : (k + 1) * sz = k * sz + sz := Nat.succ_mul _ _
    have hr1 : r.1 ≤ sz := hr r (List.mem_cons_self ..)
    have st : Few sz (18 * (k + 1)) ((k + 1) * 32724) (stepM sz ro eo s r).x ∧ (stepM sz ro eo s r).f ≤ (k + 1) * sz ∧ (stepM sz ro eo s r).u ≤ k + 1 := by
      unfold stepM
      split
      · exact ⟨f1.mono (by omega) (by omega), by omega, by omega⟩
      · refine ⟨?_, by show s.f + r.1 ≤ _; omega, by show s.u + 1 ≤ _; omega⟩
        have := few_ans (ro := ro) (eo := eo) (held := itemsF s.f r.1) (told := r.2) hs (by rw [itemsF_len]; exact hr1) l1 l2 f1
        exact this.mono (by omega) (by omega)
    have ih := fold_bound hs l1 l2 rs (k + 1) (stepM sz ro eo s r) (by omega) (fun q hq => hr q (List.mem_cons_of_mem _ hq)) st.1 st.2.1 st.2.2
    rw [List.foldl_cons, List.length_cons, show k + (rs.length + 1) = k + 1 + rs.length by omega]
    exact ih
theorem runM_bound {sz : Nat} {ro eo : List (Str × Str)} (hs : 1 ≤ sz) (l1 : ro.length ≤ 12) (l2 : eo.length ≤ 6) (rs : List (Nat × Bool)) (hn : rs.length ≤ 100) (hr : ∀ r ∈ rs, r.1 ≤ sz) :
    Few sz (18 * rs.length) (rs.length * 32724) (runM sz ro eo rs).x ∧ (runM sz ro eo rs).f ≤ rs.length * sz ∧ (runM sz ro eo rs).u ≤ rs.length := by
  have := fold_bound (ro := ro) (eo := eo) hs l1 l2 rs 0 ⟨⟨[], []⟩, 0, 0, false⟩ (by omega) hr ⟨Nat.zero_le _, Nat.zero_le _⟩ (Nat.zero_le _) (Nat.zero_le _)
  rw [Nat.zero_add] at this
  exact this
/-- rows of replies -/
inductive Rps (H : Hp) : List V → List (Nat × Bool) → Prop
  | nil : Rps H [] []
  | cons {q : Addr} {r : Nat × Bool} {vs : List V} {rs : List (Nat × Bool)} (h : H q = some (.tup [.int r.1, .bl r.2])) (t : Rps H vs rs) : Rps H (.ref q :: vs) (r :: rs)
theorem Rps.mono {H H' : Hp} (f : ∀ (p : Addr) (xs : List V), H p = some (.tup xs) → H' p = some (.tup xs)) : ∀ {vs rs}, Rps H vs rs → Rps H' vs rs
  | _, _, .nil => .nil
  | _, _, .cons h t => .cons (f _ _ h) (t.mono f)
theorem Rps.same {H H' : Hp} (s : Same H H') {vs rs} (h : Rps H vs rs) : Rps H' vs rs := h.mono fun _ _ e => s _ _ e
theorem Rps.len {H : Hp} : ∀ {vs rs}, Rps H vs rs → vs.length = rs.length
  | _, _, .nil => rfl
  | _, _, .cons _ t => congrArg (· + 1) t.len
theorem Rps.get {H : Hp} : ∀ {vs rs} {i : Nat} {y : V}, Rps H vs rs → vs[i]? = some y → ∃ (q : Addr) (r : Nat × Bool), rs[i]? = some r ∧ y = .ref q ∧ H q = some (.tup [.int r.1, .bl r.2])
  | _, _, i, y, .nil, h => by simp at h
  | _, _, 0, y, .cons h _, e => ⟨_, _, rfl, (Option.some.inj e).symm, h⟩
  | _, _, i + 1, y, .cons _ t, e => t.get (i := i) e
structure TxN (K : PySem.W.Frag) (mg : Str → Option Value) where
  T : TxC K mg
  X : TxX K mg
  lx : Mt K T.C "execution" "Loop.execution" sLX ["self", "size", "kept"]
def ordsR (t : Str) : List (Str × Str) := (wordsR t).map orderOf
def ordsE (t : Str) : List (Str × Str) := (wordsE t).map orderOf
section
variable {P : Program} {w : World} {K : PySem.W.Frag} {mg : Str → Option Value} {base : Heap}
def spLX (CL CX : Addr) : Sp := fun vs H Q _ => ∃ (o r : Addr) (t : Str) (sz : Nat) (rest : List Int), vs = [.ref o, .int sz, .ref r] ∧ LoopAt CL H o t ∧ H r = some (.tup (ivs rest)) ∧
  ∀ (H' : Hp) (x dx ro eo p : Addr), Same H H' → H x = none → H p = none → ExAt CX H' x dx ro eo p 0 sz [] false ⟨rest, []⟩ false → OrdT H' ro (ordsR t) → OrdT H' eo (ordsE t) → Q (.ref x) H'
theorem scLX : FnScope ["self", "size", "kept"] ["self", "size", "kept"] (defScope sLX) := ⟨rfl, rfl, rfl, by decide +kernel, rfl, by decide +kernel, by decide +kernel⟩
theorem ok_lx (N : TxN K mg) : FnOk P w K mg base CX0 3 N.lx.f N.lx.fd ["self", "size", "kept"] (spLX N.T.C N.X.C) := by
  have GI : FnOk P w K mg base CX0 1 N.X.fI N.X.fdI ["self", "round_orders", "ending_orders", "size", "kept"] (spXI N.X.C) := ok_xi N.X
  refine N.lx.F.ok scLX (fun vs H Q E h => ?_) (fun cdv A outer s H vs Q E hr h => ?_)
  · obtain ⟨o, r, t, sz, rest, rfl, _⟩ := h
    rfl
  · obtain ⟨o, r, t, sz, rest, rfl, ⟨dx, pr, pe, po, pq, e, _, _, h1, h2⟩, hr', k⟩ := h
    refine ⟨_, pss_one (ps_ret (pe_make N.X.MI GI hr rfl N.X.gC N.X.bI .nil pass0 (pa_cons (pe_fld (pv 0) rfl) (pa_cons (pe_fld (pv 0) rfl) (pa_cons (pv 1) (pa_cons (pv 2) pa_nil)))))), ?_⟩
    refine ⟨_, rfl, o, N.T.C, dx, _, _, rfl, e, N.T.cl, N.T.nO, lf_ro .., _, rfl, o, N.T.C, dx, _, _, rfl, e, N.T.cl, N.T.nQ, lf_eo .., _, rfl, _, rfl, ?_⟩
    intro x dx' nx ndx nex
    refine ⟨x, dx', po, pq, r, sz, rest, rfl, upd_same, ?_, fun H2 p o2 np X2 => ⟨rfl, ?_⟩⟩
    · rw [upd_ne (ne_of_none hr' nx), upd_ne (ne_of_none hr' ndx)]
      exact hr'
    · have s2 := made_same nx ndx o2
      have np0 : H p = none := by
        by_cases e1 : p = x
        · rw [e1]; exact nx
        · rw [upd_ne e1] at np
          by_cases e2 : p = dx'
          · rw [e2]; exact ndx
          · rw [upd_ne e2] at np
            exact np
      exact k H2 x dx' po pq p s2 nx np0 X2 (h1.mono fun _ _ z => s2 _ _ z) (h2.mono fun _ _ z => s2 _ _ z)
end
end My

/-! kinds of sources: check_word, Source.__init__, Source.__repr__ -/
namespace My
open PySem L2 Cm LM
abbrev sQW : Stmt := top 31
abbrev sUI : Stmt := inClass (top 32) 0
abbrev sUR : Stmt := inClass (top 32) 3
def sfU (A B E : Str) : List (Str × V) := [("amount", .str A), ("patience", .str B), ("end", .str E)]
/-- a kind of sources stands at o -/
def SrcU (C : Addr) (H : Hp) (o : Addr) (A B E : Str) : Prop := ∃ dx, H o = some (.ins C dx (sfU A B E))
theorem SrcU.same {C : Addr} {H H' : Hp} {o : Addr} {A B E : Str} (s : Same H H') (h : SrcU C H o A B E) : SrcU C H' o A B E := let ⟨dx, e⟩ := h; ⟨dx, s _ _ e⟩
structure TxU (K : PySem.W.Frag) (mg : Str → Option Value) where
  isi : mg "isinstance" = none
  str : mg "str" = none
  pA : Addr
  pP : Addr
  pE : Addr
  gA : mg "AMOUNTS" = some (.ref pA)
  gP : mg "PATIENCES" = some (.ref pP)
  gE : mg "ENDS" = some (.ref pE)
  lA : ∀ H, SqT K H pA [.str "exact", .str "short"]
  lP : ∀ H, SqT K H pP [.str "prompt", .str "waiting"]
  lE : ∀ H, SqT K H pE [.str "empty", .str "with", .str "behind"]
  ckw : Df K mg "check_word" sQW ["word", "words"]
  C : Addr
  gC : mg "Source" = some (.ref C)
  cl : Cls K C
  nA : NoAttr K C "amount"
  nP : NoAttr K C "patience"
  nE : NoAttr K C "end"
  fI : Addr
  fdI : FuncData
  FI : Fun K "__init__" "Source.__init__" sUI fI fdI
  bI : Binds K fdI ["self", "amount", "patience", "end"] []
  MI : Mk K C fI
  ur : Sm K C "__repr__" "Source.__repr__" sUR ["self"]
  y1 : PySem.W.findIn K (.ref C) "__class__" = some (some (.builtin "object.__class__"))
  y2 : PySem.W.specialIn K (.builtin "object.__class__") "__get__" = some (some (.builtin "getset_descriptor.__get__"))
  y3 : PySem.W.takesIn K (.builtin "object.__class__") = some true
  y4 : PySem.W.mroIn K C (.type "object") = some true
  y5 : PySem.W.kitOne K (.ref C) (.ref C) = some true
section
variable {P : Program} {w : World} {K : PySem.W.Frag} {mg : Str → Option Value} {base : Heap}
theorem SrcU.ty (M : TxU K mg) {H : Hp} {o : Addr} {A B E : Str} (h : SrcU M.C H o A B E) : TyX K H (.ref o) (.ref M.C) := by
  obtain ⟨dx, e⟩ := h
  exact .base (.ins e M.cl M.y1 M.y2 M.y3 M.y4)
/-! ### check_word, __init__ of the right words -/
def spCKW (K : PySem.W.Frag) : Sp := fun vs H Q _ => ∃ (x : Str) (p : Addr) (xs : List V), vs = [.str x, .ref p] ∧ SqT K H p xs ∧ xs.all flatV = true ∧ inV (.str x) xs = true ∧ Q .non H
theorem scQW : FnScope ["word", "words"] ["word", "words"] (defScope sQW) := ⟨rfl, rfl, rfl, by decide +kernel, rfl, by decide +kernel, by decide +kernel⟩
theorem ok_ckw (M : TxU K mg) : FnOk P w K mg base CX0 1 M.ckw.f M.ckw.fd ["word", "words"] (spCKW K) := by
  refine M.ckw.F.ok scQW (fun vs H Q E h => ?_) (fun cdv A outer s H vs Q E hr h => ?_)
  · obtain ⟨x, p, xs, rfl, _⟩ := h
    rfl
  · obtain ⟨x, p, xs, rfl, hp, hf, hi, k⟩ := h
    refine ⟨_, pss_one (ps_if (PW.pt (pw_or (pt_not (pt_val (pe_callB call_isi (by rfl) M.isi (by decide +kernel) (pa_cons (pv 0) (pa_cons (pe_bltn (v := .ty "str") (by rfl) M.str (by decide +kernel) rfl) pa_nil)))))
          (pw_or1 (pt_cmpR op_notIn_seq (pv 0) (pv 1) (by rfl))))) (pss_one ps_never) pss_nil), ?_⟩
    refine ⟨_, rfl, _, _, _, _, true, rfl, .ty "str", .base (.str x), kit_ty (by decide +kernel), true, rfl, iteF ?_⟩
    refine ⟨_, rfl, _, rfl, p, xs, rfl, .inr hp, rfl, hf, _, rfl, ?_⟩
    rw [hi]
    exact iteF k
def isAm (A : Str) : Prop := A = "exact" ∨ A = "short"
def isPa (B : Str) : Prop := B = "prompt" ∨ B = "waiting"
def isEn (E : Str) : Prop := E = "empty" ∨ E = "with" ∨ E = "behind"
def spUI (C : Addr) : Sp := fun vs H Q _ => ∃ (x dx : Addr) (A B E : Str), vs = [.ref x, .str A, .str B, .str E] ∧ isAm A ∧ isPa B ∧ isEn E ∧ H x = some (.ins C dx []) ∧
  ∀ H' : Hp, (∀ b o, b ≠ x → H b = some o → H' b = some o) → H' x = some (.ins C dx (sfU A B E)) → Q .non H'
theorem scUI : FnScope ["self", "amount", "patience", "end"] ["self", "amount", "patience", "end"] (defScope sUI) := ⟨rfl, rfl, rfl, by decide +kernel, rfl, by decide +kernel, by decide +kernel⟩
theorem ok_ui (M : TxU K mg) : FnOk P w K mg base CX0 2 M.fI M.fdI ["self", "amount", "patience", "end"] (spUI M.C) := by
  have G1 : FnOk P w K mg base CX0 1 M.ckw.f M.ckw.fd ["word", "words"] (spCKW K) := ok_ckw M
  refine M.FI.ok scUI (fun vs H Q E h => ?_) (fun cdv A outer s H vs Q E hr h => ?_)
  · obtain ⟨x, dx, A, B, E, rfl, _⟩ := h
    rfl
  · obtain ⟨x, dx, A, B, E, rfl, hA, hB, hE, hx, k⟩ := h
    refine ⟨_, pss_cons (ps_expr (pe_call G1 hr rfl M.ckw.g M.ckw.k M.ckw.b .nil pass0 (pa_cons (pv 1) (pa_cons (pe_glob (v := .ref M.pA) rfl M.gA rfl) pa_nil))))
      (pss_cons (ps_expr (pe_call G1 hr rfl M.ckw.g M.ckw.k M.ckw.b .nil pass0 (pa_cons (pv 2) (pa_cons (pe_glob (v := .ref M.pP) rfl M.gP rfl) pa_nil))))
      (pss_cons (ps_expr (pe_call G1 hr rfl M.ckw.g M.ckw.k M.ckw.b .nil pass0 (pa_cons (pv 3) (pa_cons (pe_glob (v := .ref M.pE) rfl M.gE rfl) pa_nil))))
      (pss_cons (ps_fld (pv 0) (pv 1) rfl) (pss_cons (ps_fld (pv 0) (pv 2) rfl) (pss_one (ps_fld (pv 0) (pv 3) rfl)))))), ?_⟩
    refine ⟨_, rfl, A, M.pA, _, rfl, M.lA _, rfl, ?_, ?_⟩
    · rcases hA with rfl | rfl <;> decide +kernel
    refine ⟨_, rfl, B, M.pP, _, rfl, M.lP _, rfl, ?_, ?_⟩
    · rcases hB with rfl | rfl <;> decide +kernel
    refine ⟨_, rfl, E, M.pE, _, rfl, M.lE _, rfl, ?_, ?_⟩
    · rcases hE with rfl | rfl | rfl <;> decide +kernel
    refine ⟨_, rfl, _, rfl, x, M.C, dx, _, rfl, hx, M.cl, M.nA, (by show 0 < 1000; decide), ?_⟩
    refine ⟨_, rfl, _, rfl, x, M.C, dx, _, rfl, upd_same, M.cl, M.nP, (by show 1 < 1000; decide), ?_⟩
    refine ⟨_, rfl, _, rfl, x, M.C, dx, _, rfl, upd_same, M.cl, M.nE, ?_, ?_⟩
    · exact Nat.lt_of_le_of_lt (putF_len _ _ _) (Nat.lt_of_le_of_lt (Nat.add_le_add_right (putF_len _ _ _) 1) (by decide))
    · refine k _ (fun b o nb e => ?_) upd_same
      rw [upd_ne nb, upd_ne nb, upd_ne nb]
      exact e
theorem uf_am (A B E : Str) : (sfU A B E).lookup ("amount" : Str) = some (.str A) := rfl
theorem uf_pa (A B E : Str) : (sfU A B E).lookup ("patience" : Str) = some (.str B) := rfl
theorem uf_en (A B E : Str) : (sfU A B E).lookup ("end" : Str) = some (.str E) := rfl
/-! ### __repr__ -/
def srS : Str := ("Source(" : Str) ++ "short" ++ " " ++ "prompt" ++ " " ++ "empty" ++ ")"
def spUR (C : Addr) : Sp := fun vs H Q _ => ∃ o : Addr, vs = [.ref o] ∧ SrcU C H o "short" "prompt" "empty" ∧ Q (.str srS) H
theorem scUR : FnScope ["self"] ["self"] (defScope sUR) := ⟨rfl, rfl, rfl, by decide +kernel, rfl, by decide +kernel, by decide +kernel⟩
theorem ok_ur (M : TxU K mg) : FnOk P w K mg base CX0 1 M.ur.f M.ur.fd ["self"] (spUR M.C) := by
  refine M.ur.F.ok scUR (fun vs H Q E h => ?_) (fun cdv A outer s H vs Q E hr h => ?_)
  · obtain ⟨o, rfl, _⟩ := h
    rfl
  · obtain ⟨o, rfl, ⟨dx, e⟩, k⟩ := h
    refine ⟨_, pss_one (ps_ret (pe_joined (.cons pe_str (.cons (pe_fmt (pe_fld (pv 0) rfl)) (.cons pe_str (.cons (pe_fmt (pe_fld (pv 0) rfl)) (.cons pe_str (.cons (pe_fmt (pe_fld (pv 0) rfl)) (.cons pe_str .nil))))))))), ?_⟩
    refine ⟨_, rfl, szl (by decide +kernel), ?_⟩
    refine ⟨_, rfl, o, M.C, dx, _, _, rfl, e, M.cl, M.nA, uf_am .., .inl ⟨"short", rfl, szl (by decide +kernel), _, rfl, szl (by decide +kernel), ?_⟩⟩
    refine ⟨_, rfl, szl (by decide +kernel), ?_⟩
    refine ⟨_, rfl, o, M.C, dx, _, _, rfl, e, M.cl, M.nP, uf_pa .., .inl ⟨"prompt", rfl, szl (by decide +kernel), _, rfl, szl (by decide +kernel), ?_⟩⟩
    refine ⟨_, rfl, szl (by decide +kernel), ?_⟩
    refine ⟨_, rfl, o, M.C, dx, _, _, rfl, e, M.cl, M.nE, uf_en .., .inl ⟨"empty", rfl, szl (by decide +kernel), _, rfl, szl (by decide +kernel), ?_⟩⟩
    refine ⟨_, rfl, szl (by decide +kernel), ?_⟩
    rw [show Str.empty ++ ("Source(" : Str) ++ "short" ++ " " ++ "prompt" ++ " " ++ "empty" ++ ")" = srS by decide +kernel]
    exact k
end
end My

/-! how much a run hands on, and how long it is when it is shown -/
namespace EM
open PySem L2
def wt (ps : List (List Int)) : Nat := (ps.map fun p => p.length + 1).sum
theorem wt_app (a b : List (List Int)) : wt (a ++ b) = wt a + wt b := by simp [wt, List.map_append, List.sum_append]
theorem cutN_succ' (sz : Nat) (xs : List Int) (i : Nat) : cutN sz xs (i + 1) = cutN sz xs i ++ [(xs.drop (i * sz)).take sz] := by
  unfold cutN
  rw [List.range_succ, List.map_append]
  rfl
theorem wt_cut (sz : Nat) (xs : List Int) : ∀ n, wt (cutN sz xs n) ≤ n * sz + n
  | 0 => by simp [wt, cutN]
  | n + 1 => by
    have ih := wt_cut sz xs n
    rw [cutN_succ', wt_app, Nat.succ_mul]
    have : wt [(xs.drop (n * sz)).take sz] ≤ sz + 1 := by
      simp only [wt, List.map_cons, List.map_nil, List.sum_cons, List.sum_nil, List.length_take]
      omega
    omega
/-- the rest has at most r items, the pieces weigh at most w -/
def Lt (r w : Nat) (x : RP) : Prop := x.rest.length ≤ r ∧ wt x.pieces ≤ w
theorem Lt.mono {r w r' w' : Nat} {x : RP} (h : Lt r w x) (h1 : r ≤ r') (h2 : w ≤ w') : Lt r' w' x := ⟨Nat.le_trans h.1 h1, Nat.le_trans h.2 h2⟩
def isA (s : Str) : Nat := if s = "add" then 1 else 0
theorem lt_perf {size r w h : Nat} {held : List Int} {s : Str} {x : RP} (hh : held.length ≤ h) (hx : Lt r w x) : Lt (r + isA s * h) (w + (2 * r + h + 1)) (perfM size held s x) := by
  obtain ⟨h1, h2⟩ := hx
  have w1 : ∀ p : List Int, wt [p] = p.length + 1 := fun p => by simp [wt]
  unfold perfM isA Lt
  split
  · refine ⟨?_, by show wt x.pieces ≤ _; omega⟩
    show (x.rest ++ held).length ≤ _
    rw [List.length_append]
    omega
  · split
    · refine ⟨by show x.rest.length ≤ _; omega, ?_⟩
      show wt (x.pieces ++ [held]) ≤ _
      rw [wt_app, w1]
      omega
    · split
      · refine ⟨?_, ?_⟩
        · show (x.rest.drop _).length ≤ _
          rw [List.length_drop]
          omega
        · show wt (x.pieces ++ cutN size x.rest (x.rest.length / size)) ≤ _
          rw [wt_app]
          have a := wt_cut size x.rest (x.rest.length / size)
          have b := Nat.div_mul_le_self x.rest.length size
          have c := Nat.div_le_self x.rest.length size
          omega
      · split
        · refine ⟨Nat.zero_le _, ?_⟩
          show wt (x.pieces ++ [x.rest]) ≤ _
          rw [wt_app, w1]
          omega
        · exact ⟨by show x.rest.length ≤ _; omega, by show wt x.pieces ≤ _; omega⟩
def adds : List (Str × Str) → Nat
  | [] => 0
  | (_, s) :: r => isA s + adds r
theorem lt_run {size h : Nat} {held : List Int} {told : Bool} (hh : held.length ≤ h) : ∀ (os : List (Str × Str)) (r w : Nat) (x : RP), Lt r w x → Lt (r + adds os * h) (w + os.length * (2 * (r + adds os * h) + h + 1)) (runW size held told os x).1
  | [], r, w, x, hx => by simpa [runW, adds] using hx
  | (t, s) :: os, r, w, x, hx => by
    have e1 : (isA s + adds os) * h = isA s * h + adds os * h := Nat.add_mul _ _ _
    have m : Lt (r + adds ((t, s) :: os) * h) (w + (os.length + 1) * (2 * (r + adds ((t, s) :: os) * h) + h + 1)) x := hx.mono (Nat.le_add_right _ _) (Nat.le_add_right _ _)
    unfold runW
    rw [List.length_cons]
    split
    · split
      · exact m
      · split
        · exact m
        · have ih := lt_run (size := size) (told := told) hh os _ _ _ (lt_perf (size := size) (s := s) hh hx)
          have e2 : r + isA s * h + adds os * h = r + adds ((t, s) :: os) * h := by show _ = r + (isA s + adds os) * h; omega
          rw [e2] at ih
          refine ih.mono (Nat.le_refl _) ?_
          have : 2 * r + h + 1 ≤ 2 * (r + adds ((t, s) :: os) * h) + h + 1 := by omega
          generalize 2 * (r + adds ((t, s) :: os) * h) + h + 1 = M at this ⊢
          have e3 : (os.length + 1) * M = os.length * M + M := Nat.succ_mul _ _
          omega
    · have ih := lt_run (size := size) (told := told) hh os r w x hx
      refine ih.mono ?_ ?_
      · show _ ≤ r + (isA s + adds os) * h
        omega
      · have a : os.length * (2 * (r + adds os * h) + h + 1) ≤ (os.length + 1) * (2 * (r + adds ((t, s) :: os) * h) + h + 1) := Nat.mul_le_mul (by omega) (by show _ ≤ 2 * (r + (isA s + adds os) * h) + h + 1; omega)
        omega
theorem lt_end {size h : Nat} {held : List Int} {told : Bool} (hh : held.length ≤ h) : ∀ (os : List (Str × Str)) (r w : Nat) (x : RP), Lt r w x → Lt (r + adds os * h) (w + os.length * (2 * (r + adds os * h) + h + 1)) (endW size held told os x)
  | [], r, w, x, hx => by simpa [endW, adds] using hx
  | (t, s) :: os, r, w, x, hx => by
    have e1 : (isA s + adds os) * h = isA s * h + adds os * h := Nat.add_mul _ _ _
    unfold endW
    rw [List.length_cons]
    have h2 : Lt (r + isA s * h) (w + (2 * r + h + 1)) (if passM size held told t x.rest = true then perfM size held s x else x) := by
      split
      · exact lt_perf hh hx
      · exact hx.mono (by omega) (by omega)
    have ih := lt_end (size := size) (told := told) hh os _ _ _ h2
    have e2 : r + isA s * h + adds os * h = r + adds ((t, s) :: os) * h := by show _ = r + (isA s + adds os) * h; omega
    rw [e2] at ih
    refine ih.mono (Nat.le_refl _) ?_
    have : 2 * r + h + 1 ≤ 2 * (r + adds ((t, s) :: os) * h) + h + 1 := by omega
    generalize 2 * (r + adds ((t, s) :: os) * h) + h + 1 = M at this ⊢
    have e3 : (os.length + 1) * M = os.length * M + M := Nat.succ_mul _ _
    omega
theorem lt_ans {size h r w : Nat} {ro eo : List (Str × Str)} {held : List Int} {told : Bool} {x : RP} (hh : held.length ≤ h) (l1 : ro.length ≤ 12) (l2 : eo.length ≤ 6) (a1 : adds ro ≤ 1) (a2 : adds eo = 0) (hx : Lt r w x) : Lt (r + h) (w + 18 * (2 * (r + h) + h + 1)) (ansM size ro eo held told x).1 := by
  have a := lt_run (size := size) (told := told) hh ro r w x hx
  have e1 : adds ro * h ≤ h := by
    have := Nat.mul_le_mul_right h a1
    omega
  have b : Lt (r + h) (w + 12 * (2 * (r + h) + h + 1)) (runW size held told ro x).1 := a.mono (by omega) (Nat.add_le_add_left (Nat.mul_le_mul l1 (by omega)) _)
  unfold ansM
  split
  · have c := lt_end (size := size) (told := told) hh eo _ _ _ b
    rw [a2, Nat.zero_mul, Nat.add_zero] at c
    refine c.mono (Nat.le_refl _) ?_
    have : eo.length * (2 * (r + h) + h + 1) ≤ 6 * (2 * (r + h) + h + 1) := Nat.mul_le_mul_right _ l2
    show w + 12 * (2 * (r + h) + h + 1) + eo.length * (2 * (r + h) + h + 1) ≤ w + 18 * (2 * (r + h) + h + 1)
    omega
  · exact b.mono (Nat.le_refl _) (by omega)
/-! ### the numbers of items -/
def AllB (N : Nat) (xs : List Int) : Prop := ∀ i ∈ xs, 0 ≤ i ∧ i < (N : Int)
def AB (N : Nat) (x : RP) : Prop := AllB N x.rest ∧ ∀ p ∈ x.pieces, AllB N p
theorem AllB.app {N : Nat} {a b : List Int} (ha : AllB N a) (hb : AllB N b) : AllB N (a ++ b) := fun i hi => (List.mem_append.mp hi).elim (ha i) (hb i)
theorem ab_perf {N size : Nat} {held : List Int} {s : Str} {x : RP} (hh : AllB N held) (hx : AB N x) : AB N (perfM size held s x) := by
  obtain ⟨h1, h2⟩ := hx
  unfold perfM
  split
  · exact ⟨h1.app hh, h2⟩
  · split
    · refine ⟨h1, fun p hp => ?_⟩
      rcases List.mem_append.mp hp with hp | hp
      · exact h2 p hp
      · rw [List.mem_singleton.mp hp]
        exact hh
    · split
      · refine ⟨fun i hi => h1 i (List.mem_of_mem_drop hi), fun p hp => ?_⟩
        rcases List.mem_append.mp hp with hp | hp
        · exact h2 p hp
        · obtain ⟨k, _, rfl⟩ := List.mem_map.mp hp
          exact fun i hi => h1 i (List.mem_of_mem_drop (List.mem_of_mem_take hi))
      · split
        · refine ⟨fun i hi => (nomatch hi), fun p hp => ?_⟩
          rcases List.mem_append.mp hp with hp | hp
          · exact h2 p hp
          · rw [List.mem_singleton.mp hp]
            exact h1
        · exact ⟨h1, h2⟩
theorem ab_run {N size : Nat} {held : List Int} {told : Bool} (hh : AllB N held) : ∀ (os : List (Str × Str)) (x : RP), AB N x → AB N (runW size held told os x).1
  | [], x, hx => hx
  | (t, s) :: os, x, hx => by
    unfold runW
    split
    · split
      · exact hx
      · split
        · exact hx
        · exact ab_run hh os _ (ab_perf hh hx)
    · exact ab_run hh os _ hx
theorem ab_end {N size : Nat} {held : List Int} {told : Bool} (hh : AllB N held) : ∀ (os : List (Str × Str)) (x : RP), AB N x → AB N (endW size held told os x)
  | [], x, hx => hx
  | (t, s) :: os, x, hx => by
    unfold endW
    refine ab_end hh os _ ?_
    split
    · exact ab_perf hh hx
    · exact hx
theorem ab_ans {N size : Nat} {ro eo : List (Str × Str)} {held : List Int} {told : Bool} {x : RP} (hh : AllB N held) (hx : AB N x) : AB N (ansM size ro eo held told x).1 := by
  unfold ansM
  split
  · exact ab_end hh eo _ (ab_run hh ro x hx)
  · exact ab_run hh ro x hx
/-! ### shown -/
def pieceD (p : List Int) : PyData := .tuple (p.map PyData.int)
def runD (ps : List (List Int)) (u : Nat) (st : Bool) : PyData := .tuple [.tuple (ps.map pieceD), .int u, .bool st]
theorem join_le : ∀ ts : List Str, (Str.join ", " ts).length ≤ (ts.map fun t => t.length + 2).sum
  | [] => Nat.le_refl _
  | [x] => by
    show x.length ≤ _
    simp
  | x :: y :: r => by
    show (x ++ ", " ++ Str.join ", " (y :: r)).length ≤ _
    rw [strLen_append, strLen_append, show (", " : Str).length = 2 by decide +kernel]
    have := join_le (y :: r)
    rw [List.map_cons, List.sum_cons]
    omega
theorem tup_le (ts : List Str) : (tupleText ts).length ≤ (ts.map fun t => t.length + 2).sum + 3 := by
  unfold tupleText
  rw [strLen_append, strLen_append, show ("(" : Str).length = 1 by decide +kernel]
  have := join_le ts
  have : (Str.ofString (if ts.length == 1 then ",)" else ")" : String)).length ≤ 2 := by
    split
    · decide +kernel
    · decide +kernel
  omega
theorem int_le {i : Int} (h0 : 0 ≤ i) (h1 : i < 1000000) : (PyData.shown (.int i)).length ≤ 6 := by
  obtain ⟨n, rfl⟩ := Int.eq_ofNat_of_zero_le h0
  show (Str.ofString (toString ((n : Nat) : Int))).length ≤ 6
  rw [TL.len_tl, TL.tl_num]
  exact TL.numL_len (by decide) (by omega)
theorem sum_ints {N : Nat} (hN : N ≤ 1000000) : ∀ {p : List Int}, AllB N p → ((PyData.shownAll (p.map PyData.int)).map fun t => t.length + 2).sum ≤ 8 * p.length
  | [], _ => by simp [PyData.shownAll]
  | i :: r, h => by
    have a := h i (List.mem_cons_self ..)
    have b := int_le (i := i) a.1 (by omega)
    have c := sum_ints hN (p := r) fun z hz => h z (List.mem_cons_of_mem _ hz)
    rw [List.map_cons, PyData.shownAll, List.map_cons, List.sum_cons, List.length_cons]
    omega
theorem piece_le {N : Nat} (hN : N ≤ 1000000) {p : List Int} (h : AllB N p) : (PyData.shown (pieceD p)).length ≤ 8 * p.length + 3 := by
  unfold pieceD
  rw [PyData.shown]
  have := tup_le (PyData.shownAll (p.map PyData.int))
  have := sum_ints hN h
  omega
theorem sum_pieces {N : Nat} (hN : N ≤ 1000000) : ∀ {ps : List (List Int)}, (∀ p ∈ ps, AllB N p) → ((PyData.shownAll (ps.map pieceD)).map fun t => t.length + 2).sum ≤ 8 * wt ps
  | [], _ => by simp [PyData.shownAll, wt]
  | p :: r, h => by
    have b := piece_le hN (h p (List.mem_cons_self ..))
    have c := sum_pieces hN (ps := r) fun z hz => h z (List.mem_cons_of_mem _ hz)
    rw [List.map_cons, PyData.shownAll, List.map_cons, List.sum_cons]
    have e : wt (p :: r) = p.length + 1 + wt r := by simp [wt]
    omega
theorem run_le {N : Nat} (hN : N ≤ 1000000) {ps : List (List Int)} {u : Nat} {st : Bool} (h : ∀ p ∈ ps, AllB N p) (hu : u < 1000000) : (PyData.shown (runD ps u st)).length ≤ 8 * wt ps + 40 := by
  unfold runD
  rw [PyData.shown]
  have a := tup_le (PyData.shownAll [.tuple (ps.map pieceD), .int (u : Int), .bool st])
  have b : (PyData.shown (.tuple (ps.map pieceD))).length ≤ 8 * wt ps + 3 := by
    rw [PyData.shown]
    have := tup_le (PyData.shownAll (ps.map pieceD))
    have := sum_pieces hN h
    omega
  have c := int_le (i := (u : Int)) (by omega) (by omega)
  have d : (PyData.shown (.bool st)).length ≤ 5 := by cases st <;> decide +kernel
  simp only [PyData.shownAll, List.map_cons, List.map_nil, List.sum_cons, List.sum_nil] at a ⊢
  omega
/-- two of them in a list -/
theorem from_le : ∀ (ts : List Str) (k : Nat) (acc : Str), (textFrom k acc ts).length ≤ acc.length + (ts.map fun t => t.length + 2).sum
  | [], _, _ => by simp [textFrom]
  | t :: r, k, acc => by
    rw [textFrom]
    have ih := from_le r (k + 1) (acc ++ (if k > 0 then ", " else "" : String) ++ t)
    rw [strLen_append, strLen_append] at ih
    have : (Str.ofString (if k > 0 then ", " else "" : String)).length ≤ 2 := by
      split
      · decide +kernel
      · decide +kernel
    rw [List.map_cons, List.sum_cons]
    omega
theorem list_le (ts : List Str) : (listText ts).length ≤ (ts.map fun t => t.length + 2).sum + 2 := by
  unfold listText
  rw [strLen_append, show ("]" : Str).length = 1 by decide +kernel]
  have := from_le ts 0 "["
  rw [show ("[" : Str).length = 1 by decide +kernel] at this
  omega
def twoD (ps : List (List Int)) (u : Nat) (st : Bool) : PyData := .list [runD ps u st, runD ps u st]
theorem two_le {N : Nat} (hN : N ≤ 1000000) {ps : List (List Int)} {u : Nat} {st : Bool} (h : ∀ p ∈ ps, AllB N p) (hu : u < 1000000) : (PyData.shown (twoD ps u st)).length ≤ 16 * wt ps + 90 := by
  unfold twoD
  rw [PyData.shown]
  have a := list_le (PyData.shownAll [runD ps u st, runD ps u st])
  have b := run_le hN (u := u) (st := st) h hu
  simp only [PyData.shownAll, List.map_cons, List.map_nil, List.sum_cons, List.sum_nil] at a ⊢
  omega
theorem ints_showable : ∀ p : List Int, AllB 1000000 p → PyData.showableAll (p.map PyData.int) = true
  | [], _ => by simp [PyData.showableAll]
  | i :: r, h => by
    have a := h i (List.mem_cons_self ..)
    have b := ints_showable r fun z hz => h z (List.mem_cons_of_mem _ hz)
    rw [List.map_cons, PyData.showableAll, PyData.showable, b, Bool.and_true]
    refine decide_eq_true ?_
    obtain ⟨n, rfl⟩ := Int.eq_ofNat_of_zero_le a.1
    show (n : Nat).log2 < 1920
    have hn : n < 1000000 := by omega
    by_cases h0 : n = 0
    · rw [h0]; decide
    · exact Nat.lt_of_lt_of_le ((Nat.log2_lt h0).mpr (Nat.lt_of_lt_of_le hn (show 1000000 ≤ 2 ^ 20 by decide))) (by decide)
theorem pieces_showable : ∀ ps : List (List Int), (∀ p ∈ ps, AllB 1000000 p) → PyData.showableAll (ps.map pieceD) = true
  | [], _ => by simp [PyData.showableAll]
  | p :: r, h => by
    have a := ints_showable p (h p (List.mem_cons_self ..))
    have b := pieces_showable r fun z hz => h z (List.mem_cons_of_mem _ hz)
    rw [List.map_cons, PyData.showableAll, b, Bool.and_true]
    unfold pieceD
    rw [PyData.showable]
    exact a
theorem two_showable {ps : List (List Int)} {u : Nat} {st : Bool} (h : ∀ p ∈ ps, AllB 1000000 p) (hu : u < 1000000) : PyData.showable (twoD ps u st) = true := by
  have a := pieces_showable ps h
  have b := ints_showable [(u : Int)] fun i hi => by rw [List.mem_singleton.mp hi]; exact ⟨by omega, by omega⟩
  simp only [List.map_cons, List.map_nil, PyData.showableAll, Bool.and_true] at b
  simp only [twoD, runD, PyData.showable, PyData.showableAll, a, Bool.true_and, Bool.and_true]
  simp only [PyData.showable] at b
  rw [b]
  rfl
theorem ints_depth : ∀ p : List Int, PyData.depthAll (p.map PyData.int) ≤ 1
  | [] => by simp [PyData.depthAll]
  | x :: r => by
    have := ints_depth r
    simp only [List.map_cons, PyData.depthAll, PyData.depth] at this ⊢
    omega
theorem pieces_depth : ∀ ps : List (List Int), PyData.depthAll (ps.map pieceD) ≤ 2
  | [] => by simp [PyData.depthAll]
  | p :: r => by
    have := pieces_depth r
    have := ints_depth p
    simp only [List.map_cons, PyData.depthAll, PyData.depth, pieceD] at *
    omega
theorem two_depth (ps : List (List Int)) (u : Nat) (st : Bool) : PyData.depth (twoD ps u st) ≤ 64 := by
  have := pieces_depth ps
  simp only [twoD, runD, PyData.depth, PyData.depthAll]
  omega
end EM

/-! comparing loops: what a loop does with an exact and prompt source hangs on kinds of pieces and rests alone -/
namespace CoM
open PySem EM
/-! ### lengths -/
def passL (sz h : Nat) (told : Bool) (t : Str) (n : Nat) : Bool :=
  if t = "" then true
  else if t = "told" ∨ t = "open" then told == decide (t = "told")
  else if t = "rest" ∨ t = "bare" then decide (0 < n) == decide (t = "rest")
  else if t = "empty" ∨ t = "some" then decide (0 < h) == decide (t = "some")
  else decide (h < sz) == decide (t = "short")
theorem pass_len (sz : Nat) (held : List Int) (told : Bool) (t : Str) (rest : List Int) : passM sz held told t rest = passL sz held.length told t rest.length := rfl
def perfL (sz h : Nat) (s : Str) (n : Nat) : Nat := if s = "add" then n + h else if s = "hand" then n else if s = "cut" then n % sz else if s = "flush" then 0 else n
theorem perf_len (sz : Nat) (held : List Int) (s : Str) (x : RP) : (perfM sz held s x).rest.length = perfL sz held.length s x.rest.length := by
  unfold perfM perfL
  split
  · exact List.length_append
  split
  · rfl
  split
  · show (x.rest.drop _).length = _
    rw [List.length_drop, Nat.mod_def, Nat.mul_comm]
  split
  · rfl
  · rfl
def runL (sz h : Nat) (told : Bool) : List (Str × Str) → Nat → Nat × Bool
  | [], n => (n, false)
  | (t, s) :: r, n => if passL sz h told t n = true then (if s = "again" then (n, false) else if s = "stop" then (n, true) else runL sz h told r (perfL sz h s n)) else runL sz h told r n
theorem run_len (sz : Nat) (held : List Int) (told : Bool) : ∀ (ws : List (Str × Str)) (x : RP), (runW sz held told ws x).1.rest.length = (runL sz held.length told ws x.rest.length).1 ∧ (runW sz held told ws x).2 = (runL sz held.length told ws x.rest.length).2
  | [], x => ⟨rfl, rfl⟩
  | (t, s) :: r, x => by
    rw [show runW sz held told ((t, s) :: r) x = if passM sz held told t x.rest = true then (if s = "again" then (x, false) else if s = "stop" then (x, true) else runW sz held told r (perfM sz held s x)) else runW sz held told r x from rfl,
      show runL sz held.length told ((t, s) :: r) x.rest.length = if passL sz held.length told t x.rest.length = true then (if s = "again" then (x.rest.length, false) else if s = "stop" then (x.rest.length, true) else runL sz held.length told r (perfL sz held.length s x.rest.length)) else runL sz held.length told r x.rest.length from rfl, pass_len]
    split
    · split
      · exact ⟨rfl, rfl⟩
      split
      · exact ⟨rfl, rfl⟩
      · rw [← perf_len]
        exact run_len sz held told r _
    · exact run_len sz held told r x
theorem ans_len (sz : Nat) (ro eo : List (Str × Str)) (held : List Int) (told : Bool) (x : RP) : (ansM sz ro eo held told x).2 = (runL sz held.length told ro x.rest.length).2 ∧ ((ansM sz ro eo held told x).2 = false → (ansM sz ro eo held told x).1.rest.length = (runL sz held.length told ro x.rest.length).1) := by
  obtain ⟨a, b⟩ := run_len sz held told ro x
  unfold ansM
  split
  next h => exact ⟨by rw [← b, h], fun z => by cases z⟩
  next h => exact ⟨by rw [← b]; simpa using h, fun _ => a⟩
/-! ### kinds -/
inductive A | e | f | p
  deriving DecidableEq
inductive Hk | no | part | full
  deriving DecidableEq
def al (sz n : Nat) : A := if n = 0 then .e else if n % sz = 0 then .f else .p
def kd (sz h : Nat) : Hk := if h = 0 then .no else if h < sz then .part else .full
def passA (k : Hk) (told : Bool) (t : Str) (a : A) : Bool :=
  if t = "" then true
  else if t = "told" ∨ t = "open" then told == decide (t = "told")
  else if t = "rest" ∨ t = "bare" then decide (a ≠ .e) == decide (t = "rest")
  else if t = "empty" ∨ t = "some" then decide (k ≠ .no) == decide (t = "some")
  else decide (k ≠ .full) == decide (t = "short")
def addA : Hk → A → A
  | .no, a => a
  | .full, .e => .f
  | .full, a => a
  | .part, _ => .p
def cutA : A → A
  | .p => .p
  | _ => .e
def perfA (k : Hk) (s : Str) (a : A) : A := if s = "add" then addA k a else if s = "hand" then a else if s = "cut" then cutA a else if s = "flush" then .e else a
def runA (k : Hk) (told : Bool) : List (Str × Str) → A → A × Bool
  | [], a => (a, false)
  | (t, s) :: r, a => if passA k told t a = true then (if s = "again" then (a, false) else if s = "stop" then (a, true) else runA k told r (perfA k s a)) else runA k told r a
theorem runA_cons (k : Hk) (told : Bool) (t s : Str) (r : List (Str × Str)) (a : A) : runA k told ((t, s) :: r) a = if passA k told t a = true then (if s = "again" then (a, false) else if s = "stop" then (a, true) else runA k told r (perfA k s a)) else runA k told r a := rfl
theorem runL_cons (sz h : Nat) (told : Bool) (t s : Str) (r : List (Str × Str)) (n : Nat) : runL sz h told ((t, s) :: r) n = if passL sz h told t n = true then (if s = "again" then (n, false) else if s = "stop" then (n, true) else runL sz h told r (perfL sz h s n)) else runL sz h told r n := rfl
section
variable {sz h : Nat} (z : 1 ≤ sz) (hh : h ≤ sz)
include z hh
theorem al_e {n : Nat} : (al sz n ≠ .e) ↔ 0 < n := by
  unfold al
  constructor
  · intro q
    by_cases c : n = 0
    · rw [if_pos c] at q
      exact absurd rfl q
    · omega
  · intro q
    rw [if_neg (by omega)]
    split <;> simp
theorem kd_no : (kd sz h ≠ .no) ↔ 0 < h := by
  unfold kd
  constructor
  · intro q
    by_cases c : h = 0
    · rw [if_pos c] at q
      exact absurd rfl q
    · omega
  · intro q
    rw [if_neg (by omega)]
    split <;> simp
theorem kd_full : (kd sz h ≠ .full) ↔ h < sz := by
  unfold kd
  by_cases c : h = 0
  · rw [if_pos c]
    constructor
    · intro; omega
    · intro; simp
  · rw [if_neg c]
    by_cases d : h < sz
    · rw [if_pos d]
      exact ⟨fun _ => d, fun _ => by simp⟩
    · rw [if_neg d]
      exact ⟨fun q => absurd rfl q, fun q => absurd q d⟩
theorem pass_al (told : Bool) (t : Str) (n : Nat) : passL sz h told t n = passA (kd sz h) told t (al sz n) := by
  unfold passL passA
  rw [decide_eq_decide.mpr (al_e z hh (n := n)), decide_eq_decide.mpr (kd_no z hh), decide_eq_decide.mpr (kd_full z hh)]
theorem perf_al (s : Str) (n : Nat) (c : s = "add" → kd sz h = .part → al sz n ≠ .p) : al sz (perfL sz h s n) = perfA (kd sz h) s (al sz n) := by
  unfold perfL perfA
  by_cases h1 : s = "add"
  · rw [if_pos h1, if_pos h1]
    have c := c h1
    unfold kd at c ⊢
    by_cases h0 : h = 0
    · rw [if_pos h0, h0]
      rfl
    rw [if_neg h0] at c ⊢
    by_cases hs : h < sz
    · rw [if_pos hs] at c ⊢
      have c := c rfl
      show al sz (n + h) = .p
      unfold al at c ⊢
      rw [if_neg (by omega)]
      by_cases n0 : n = 0
      · rw [n0, Nat.zero_add, Nat.mod_eq_of_lt hs, if_neg h0]
      · rw [if_neg n0] at c
        by_cases nm : n % sz = 0
        · have : (n + h) % sz = h := by rw [Nat.add_mod, nm, Nat.zero_add, Nat.mod_mod, Nat.mod_eq_of_lt hs]
          rw [this, if_neg h0]
        · rw [if_neg nm] at c
          exact absurd rfl c
    · rw [if_neg hs]
      have e : h = sz := by omega
      subst e
      unfold al
      rw [if_neg (by omega), Nat.add_mod_right]
      by_cases n0 : n = 0
      · rw [n0, Nat.zero_mod, if_pos rfl, if_pos rfl]
        rfl
      · rw [if_neg n0]
        by_cases nm : n % h = 0
        · rw [if_pos nm]
          rfl
        · rw [if_neg nm]
          rfl
  rw [if_neg h1, if_neg h1]
  by_cases h2 : s = "hand"
  · rw [if_pos h2, if_pos h2]
  rw [if_neg h2, if_neg h2]
  by_cases h3 : s = "cut"
  · rw [if_pos h3, if_pos h3]
    unfold al
    by_cases n0 : n = 0
    · rw [n0, Nat.zero_mod, if_pos rfl]
      rfl
    · rw [if_neg n0]
      by_cases nm : n % sz = 0
      · rw [if_pos nm, if_pos nm]
        rfl
      · rw [if_neg nm, if_neg nm, Nat.mod_mod, if_neg nm]
        rfl
  rw [if_neg h3, if_neg h3]
  by_cases h4 : s = "flush"
  · rw [if_pos h4, if_pos h4]
    rfl
  · rw [if_neg h4, if_neg h4]
theorem run_al (told : Bool) : ∀ (ws : List (Str × Str)) (n : Nat), (kd sz h = .part → adds ws ≤ 1 ∧ (adds ws = 0 ∨ al sz n ≠ .p)) → runA (kd sz h) told ws (al sz n) = (al sz (runL sz h told ws n).1, (runL sz h told ws n).2)
  | [], n, _ => rfl
  | (t, s) :: r, n, c => by
    have ea : adds ((t, s) :: r) = isA s + adds r := rfl
    rw [runA_cons, runL_cons, ← pass_al z hh]
    have cr : kd sz h = .part → adds r ≤ 1 ∧ (adds r = 0 ∨ al sz n ≠ .p) := fun q => by
      obtain ⟨c1, c2⟩ := c q
      rw [ea] at c1 c2
      refine ⟨by omega, ?_⟩
      rcases c2 with c2 | c2
      · exact .inl (by omega)
      · exact .inr c2
    split
    · split
      · rfl
      split
      · rfl
      · have ps := perf_al z hh s n (fun h1 q => by
          obtain ⟨c1, c2⟩ := c q
          rw [ea, h1, show isA "add" = 1 from rfl] at c2
          rcases c2 with c2 | c2
          · omega
          · exact c2)
        rw [← ps]
        refine run_al told r _ fun q => ?_
        obtain ⟨c1, c2⟩ := c q
        rw [ea] at c1
        by_cases h1 : s = "add"
        · rw [h1, show isA "add" = 1 from rfl] at c1
          exact ⟨by omega, .inl (by omega)⟩
        · refine ⟨by omega, ?_⟩
          rcases (cr q).2 with d | d
          · exact .inl d
          · refine .inr ?_
            rw [ps]
            unfold perfA
            rw [if_neg h1]
            split
            · exact d
            split
            · intro y
              cases e : al sz n with
              | e => rw [e] at y; cases y
              | f => rw [e] at y; cases y
              | p => exact d e
            split
            · intro y; cases y
            · exact d
    · exact run_al told r n cr
end
/-! ### full pieces -/
/-- a round from an empty rest that leaves full pieces leaves them from full pieces too, or stops -/
theorem two_runs (k : Hk) (hk : k = .full) (told : Bool) : ∀ (ws : List (Str × Str)), runA k told ws .e = (.f, false) → runA k told ws .f = (.f, false) ∨ (runA k told ws .f).2 = true
  | [], h => by cases h
  | (t, s) :: r, h => by
    rw [runA_cons] at h ⊢
    subst hk
    by_cases h1 : s = "again"
    · subst h1
      rw [if_pos rfl] at h ⊢
      split at h
      · cases h
      · split
        · exact .inl rfl
        · exact two_runs .full rfl told r h
    rw [if_neg h1] at h ⊢
    by_cases h2 : s = "stop"
    · subst h2
      rw [if_pos rfl] at h ⊢
      split at h
      · cases h
      · split
        · exact .inr rfl
        · exact two_runs .full rfl told r h
    rw [if_neg h2] at h ⊢
    have pe : perfA .full s .e = .e ∨ (s = "add" ∧ perfA .full s .e = .f) := by
      unfold perfA
      by_cases a : s = "add"
      · rw [if_pos a]
        exact .inr ⟨a, rfl⟩
      · rw [if_neg a]
        split
        · exact .inl rfl
        split
        · exact .inl rfl
        split
        · exact .inl rfl
        · exact .inl rfl
    have pf : (perfA .full s .f = .f ∨ perfA .full s .f = .e) ∧ (s = "add" → perfA .full s .f = .f) := by
      unfold perfA
      by_cases a : s = "add"
      · rw [if_pos a]
        exact ⟨.inl rfl, fun _ => rfl⟩
      · rw [if_neg a]
        refine ⟨?_, fun z => absurd z a⟩
        split
        · exact .inl rfl
        split
        · exact .inr rfl
        split
        · exact .inr rfl
        · exact .inl rfl
    split at h
    · rcases pe with e | ⟨a, e⟩
      · rw [e] at h
        split
        · rcases pf.1 with g | g
          · rw [g]; exact two_runs .full rfl told r h
          · rw [g]; exact .inl h
        · exact two_runs .full rfl told r h
      · rw [e] at h
        split
        · rw [pf.2 a]; exact .inl h
        · exact .inl h
    · split
      · rcases pf.1 with g | g
        · rw [g]; exact two_runs .full rfl told r h
        · rw [g]; exact .inl h
      · exact two_runs .full rfl told r h
/-- with full pieces no part comes into the rest -/
theorem full_np (told : Bool) : ∀ (ws : List (Str × Str)) (a : A), a ≠ .p → (runA .full told ws a).1 ≠ .p
  | [], a, h => h
  | (t, s) :: r, a, h => by
    rw [runA_cons]
    have pp : perfA .full s a ≠ .p := by
      unfold perfA
      split
      · cases a with
        | e => exact fun z => by cases z
        | f => exact fun z => by cases z
        | p => exact absurd rfl h
      split
      · exact h
      split
      · cases a with
        | e => exact fun z => by cases z
        | f => exact fun z => by cases z
        | p => exact absurd rfl h
      split
      · exact fun z => by cases z
      · exact h
    split
    · split
      · exact h
      split
      · exact h
      · exact full_np told r _ pp
    · exact full_np told r a h
end CoM

/-! how often a loop asks: by kinds, and by lengths -/
namespace CoM
open PySem EM
def wl (E : Str) : Bool := decide (E = "with")
def tl (E : Str) : Bool := decide (E ≠ "empty")
/-- rounds without items until the stop -/
def nothA (told : Bool) (ro : List (Str × Str)) : Nat → A → Option Nat
  | 0, _ => none
  | k + 1, a => if (runA .no told ro a).2 = true then some 1 else if (runA .no told ro a).1 = a then none else (nothA told ro k (runA .no told ro a).1).map (· + 1)
/-- how often is asked with q full pieces, and a part perhaps, from this kind of rest -/
def askA (ro : List (Str × Str)) (E : Str) (part : Bool) : Nat → A → Option Nat
  | 0, a => if part = true then (if (runA .part (wl E) ro a).2 = true then some 1 else (nothA (tl E) ro 3 (runA .part (wl E) ro a).1).map (· + 1)) else nothA (tl E) ro 3 a
  | q + 1, a => if (runA .full (wl E && decide (q = 0) && !part) ro a).2 = true then some 1 else (askA ro E part q (runA .full (wl E && decide (q = 0) && !part) ro a).1).map (· + 1)
theorem ask_far (ro : List (Str × Str)) (E : Str) (part : Bool) (q : Nat) (a : A) : askA ro E part (q + 2) a = if (runA .full false ro a).2 = true then some 1 else (askA ro E part (q + 1) (runA .full false ro a).1).map (· + 1) := by
  have e : (wl E && decide (q + 1 = 0) && !part) = false := by
    rw [decide_eq_false (by omega)]
    simp
  show (if (runA .full (wl E && decide (q + 1 = 0) && !part) ro a).2 = true then _ else _) = _
  rw [e]
theorem ask_per (ro : List (Str × Str)) (E : Str) (part : Bool) : (∃ c, ∀ q, 3 ≤ q → askA ro E part q .e = some c) ∨ (∀ q, 3 ≤ q → askA ro E part (q + 1) .e = (askA ro E part q .e).map (· + 1)) := by
  have far : ∀ q a, 2 ≤ q → askA ro E part q a = if (runA .full false ro a).2 = true then some 1 else (askA ro E part (q - 1) (runA .full false ro a).1).map (· + 1) := fun q a h => by
    obtain ⟨r, rfl⟩ : ∃ r, q = r + 2 := ⟨q - 2, by omega⟩
    exact ask_far ro E part r a
  cases s : (runA .full false ro .e).2 with
  | true =>
    refine .inl ⟨1, fun q h => ?_⟩
    rw [far q _ (by omega), if_pos s]
  | false =>
    have np := full_np false ro .e (by intro z; cases z)
    cases g : (runA .full false ro .e).1 with
    | p => exact absurd g np
    | e =>
      refine .inr fun q h => ?_
      rw [far (q + 1) _ (by omega), if_neg (by rw [s]; decide), g]
      rfl
    | f =>
      have ge : runA .full false ro .e = (.f, false) := Prod.ext g s
      rcases two_runs .full rfl false ro ge with w | w
      · refine .inr fun q h => ?_
        rw [far (q + 1) _ (by omega), if_neg (by rw [s]; decide), g, show q + 1 - 1 = q by omega, far q .f (by omega), w, if_neg (by decide), far q .e (by omega), if_neg (by rw [s]; decide), g]
      · refine .inl ⟨2, fun q h => ?_⟩
        rw [far q _ (by omega), if_neg (by rw [s]; decide), g, far (q - 1) _ (by omega), if_pos w]
        rfl
/-- from four full pieces on the numbers go on evenly -/
theorem ask_form (ro : List (Str × Str)) (E : Str) (part : Bool) : (askA ro E part 4 .e = none ∧ ∀ q, 4 ≤ q → askA ro E part q .e = none) ∨ ∃ n d : Nat, d ≤ 1 ∧ ∀ q, 4 ≤ q → askA ro E part q .e = some (n + d * (q - 4)) := by
  rcases ask_per ro E part with ⟨c, h⟩ | h
  · refine .inr ⟨c, 0, by decide, fun q hq => ?_⟩
    rw [h q (by omega), Nat.zero_mul]
    rfl
  · cases e : askA ro E part 4 .e with
    | none =>
      refine .inl ⟨rfl, fun q hq => ?_⟩
      obtain ⟨k, rfl⟩ : ∃ k, q = 4 + k := ⟨q - 4, by omega⟩
      clear hq
      induction k with
      | zero => exact e
      | succ k ih =>
        rw [show 4 + (k + 1) = (4 + k) + 1 by omega, h (4 + k) (by omega), ih]
        rfl
    | some n =>
      refine .inr ⟨n, 1, by decide, fun q hq => ?_⟩
      obtain ⟨k, rfl⟩ : ∃ k, q = 4 + k := ⟨q - 4, by omega⟩
      clear hq
      induction k with
      | zero => exact e
      | succ k ih =>
        rw [show 4 + (k + 1) = (4 + k) + 1 by omega, h (4 + k) (by omega), ih]
        simp only [Option.map_some, Option.some.injEq]
        omega
/-! ### by lengths -/
theorem no_len (sz : Nat) (told : Bool) : ∀ (ws : List (Str × Str)) (n : Nat), (runL sz 0 told ws n).1 = n ∨ (runL sz 0 told ws n).1 = n % sz ∨ (runL sz 0 told ws n).1 = 0
  | [], n => .inl rfl
  | (t, s) :: r, n => by
    rw [runL_cons]
    have ps : perfL sz 0 s n = n ∨ perfL sz 0 s n = n % sz ∨ perfL sz 0 s n = 0 := by
      unfold perfL
      split
      · exact .inl rfl
      split
      · exact .inl rfl
      split
      · exact .inr (.inl rfl)
      split
      · exact .inr (.inr rfl)
      · exact .inl rfl
    split
    · split
      · exact .inl rfl
      split
      · exact .inl rfl
      · rcases ps with e | e | e
        · rw [e]; exact no_len sz told r n
        · rw [e]
          rcases no_len sz told r (n % sz) with y | y | y
          · exact .inr (.inl y)
          · rw [Nat.mod_mod] at y; exact .inr (.inl y)
          · exact .inr (.inr y)
        · rw [e]
          rcases no_len sz told r 0 with y | y | y
          · exact .inr (.inr y)
          · rw [Nat.zero_mod] at y; exact .inr (.inr y)
          · exact .inr (.inr y)
    · exact no_len sz told r n
def nothL (sz : Nat) (told : Bool) (ro : List (Str × Str)) : Nat → Nat → Option Nat
  | 0, _ => none
  | k + 1, n => if (runL sz 0 told ro n).2 = true then some 1 else if (runL sz 0 told ro n).1 = n then none else (nothL sz told ro k (runL sz 0 told ro n).1).map (· + 1)
section
variable {sz : Nat} (z : 1 ≤ sz) (told : Bool) (ro : List (Str × Str))
include z
theorem no_al (n : Nat) : runA .no told ro (al sz n) = (al sz (runL sz 0 told ro n).1, (runL sz 0 told ro n).2) := by
  have := run_al (h := 0) z (Nat.zero_le _) told ro n (fun q => by unfold kd at q; rw [if_pos rfl] at q; cases q)
  unfold kd at this
  rw [if_pos rfl] at this
  exact this
theorem no_e : runA .no told ro .e = (.e, (runL sz 0 told ro 0).2) ∧ (runL sz 0 told ro 0).1 = 0 := by
  have e := no_al z told ro 0
  have l0 : (runL sz 0 told ro 0).1 = 0 := by
    rcases no_len sz told ro 0 with y | y | y
    · exact y
    · rw [Nat.zero_mod] at y; exact y
    · exact y
  rw [l0] at e
  exact ⟨e, l0⟩
theorem noth_0 (k : Nat) : nothL sz told ro (k + 1) 0 = nothA told ro 1 .e := by
  obtain ⟨e, l0⟩ := no_e z told ro
  unfold nothL nothA
  rw [e, l0]
  cases (runL sz 0 told ro 0).2 <;> rfl
theorem nothA_e (k : Nat) : nothA told ro (k + 1) .e = nothA told ro 1 .e := by
  obtain ⟨e, l0⟩ := no_e z told ro
  unfold nothA
  rw [e]
  cases (runL sz 0 told ro 0).2 <;> rfl
theorem noth_al (k n : Nat) : nothL sz told ro (k + 3) n = nothA told ro 3 (al sz n) := by
  have e := no_al z told ro n
  show (if (runL sz 0 told ro n).2 = true then some 1 else if (runL sz 0 told ro n).1 = n then none else (nothL sz told ro (k + 2) (runL sz 0 told ro n).1).map (· + 1)) = if (runA .no told ro (al sz n)).2 = true then some 1 else if (runA .no told ro (al sz n)).1 = al sz n then none else (nothA told ro 2 (runA .no told ro (al sz n)).1).map (· + 1)
  rw [e]
  show _ = if (runL sz 0 told ro n).2 = true then some 1 else if al sz (runL sz 0 told ro n).1 = al sz n then none else (nothA told ro 2 (al sz (runL sz 0 told ro n).1)).map (· + 1)
  cases s : (runL sz 0 told ro n).2 with
  | true => rw [if_pos rfl, if_pos rfl]
  | false =>
    simp only [Bool.false_eq_true, if_false]
    by_cases c : (runL sz 0 told ro n).1 = n
    · rw [if_pos c, c, if_pos rfl]
    · rw [if_neg c]
      rcases no_len sz told ro n with y | y | y
      · exact absurd y c
      · by_cases m : n % sz = 0
        · rw [y, m]
          have n0 : n ≠ 0 := fun q => c (by rw [y, q, Nat.zero_mod])
          have : al sz n = .f := by unfold al; rw [if_neg n0, if_pos m]
          rw [this, show al sz 0 = .e from rfl, if_neg (by intro z; cases z), noth_0 z, nothA_e z told ro 1]
        · have n0 : n ≠ 0 := fun q => m (by rw [q, Nat.zero_mod])
          have a1 : al sz n = .p := by unfold al; rw [if_neg n0, if_neg m]
          have a2 : al sz (n % sz) = .p := by unfold al; rw [if_neg m, Nat.mod_mod, if_neg m]
          rw [y, a1, a2, if_pos rfl]
          have e2 := no_al z told ro (n % sz)
          rw [a2, ← a1, e, y, a2] at e2
          have q1 := (Prod.ext_iff.mp e2).1
          have q2 := (Prod.ext_iff.mp e2).2
          simp only at q1 q2
          have l2 : (runL sz 0 told ro (n % sz)).1 = n % sz := by
            rcases no_len sz told ro (n % sz) with w | w | w
            · exact w
            · rw [Nat.mod_mod] at w; exact w
            · rw [w] at q1; cases q1
          show Option.map _ (if (runL sz 0 told ro (n % sz)).2 = true then some 1 else if (runL sz 0 told ro (n % sz)).1 = n % sz then none else _) = none
          rw [← q2, s, if_neg (by decide), if_pos l2]
          rfl
      · have n0 : n ≠ 0 := fun q => c (by rw [y, q])
        have : al sz n ≠ .e := (al_e (h := 0) z (Nat.zero_le _)).mpr (by omega)
        rw [y, show al sz 0 = .e from rfl, if_neg this.symm, noth_0 z, nothA_e z told ro 1]
end
def askL (sz p : Nat) (ro : List (Str × Str)) (E : Str) : Nat → Nat → Option Nat
  | 0, n => if p = 0 then nothL sz (tl E) ro 4 n else if (runL sz p (wl E) ro n).2 = true then some 1 else (nothL sz (tl E) ro 4 (runL sz p (wl E) ro n).1).map (· + 1)
  | q + 1, n => if (runL sz sz (wl E && decide (q = 0) && decide (p = 0)) ro n).2 = true then some 1 else (askL sz p ro E q (runL sz sz (wl E && decide (q = 0) && decide (p = 0)) ro n).1).map (· + 1)
theorem ask_al {sz p : Nat} (z : 1 ≤ sz) (hp : p < sz) {ro : List (Str × Str)} (ha : adds ro ≤ 1) (E : Str) : ∀ (q n : Nat), al sz n ≠ .p → askL sz p ro E q n = askA ro E (decide (p ≠ 0)) q (al sz n)
  | 0, n, hn => by
    show (if p = 0 then nothL sz (tl E) ro 4 n else if (runL sz p (wl E) ro n).2 = true then some 1 else (nothL sz (tl E) ro 4 (runL sz p (wl E) ro n).1).map (· + 1)) = if decide (p ≠ 0) = true then (if (runA .part (wl E) ro (al sz n)).2 = true then some 1 else (nothA (tl E) ro 3 (runA .part (wl E) ro (al sz n)).1).map (· + 1)) else nothA (tl E) ro 3 (al sz n)
    by_cases p0 : p = 0
    · rw [if_pos p0, if_neg (by simp [p0])]
      exact noth_al z (tl E) ro 1 n
    · have k : kd sz p = .part := by unfold kd; rw [if_neg p0, if_pos hp]
      have e := run_al (h := p) z (Nat.le_of_lt hp) (wl E) ro n (fun _ => ⟨ha, .inr hn⟩)
      rw [k] at e
      rw [if_neg p0, decide_eq_true p0, if_pos (rfl : true = true), e, noth_al z (tl E) ro 1]
  | q + 1, n, hn => by
    have k : kd sz sz = .full := by unfold kd; rw [if_neg (by omega), if_neg (by omega)]
    have eb : decide (p = 0) = !decide (p ≠ 0) := by by_cases p0 : p = 0 <;> simp [p0]
    have e := run_al (h := sz) z (Nat.le_refl _) (wl E && decide (q = 0) && decide (p = 0)) ro n (fun y => by rw [k] at y; cases y)
    rw [k] at e
    have np := full_np (wl E && decide (q = 0) && decide (p = 0)) ro (al sz n) hn
    rw [e] at np
    show (if (runL sz sz (wl E && decide (q = 0) && decide (p = 0)) ro n).2 = true then some 1 else (askL sz p ro E q (runL sz sz (wl E && decide (q = 0) && decide (p = 0)) ro n).1).map (· + 1)) = if (runA .full (wl E && decide (q = 0) && !decide (p ≠ 0)) ro (al sz n)).2 = true then some 1 else (askA ro E (decide (p ≠ 0)) q (runA .full (wl E && decide (q = 0) && !decide (p ≠ 0)) ro (al sz n)).1).map (· + 1)
    rw [← eb, e, ask_al z hp ha E q _ np]
end CoM

/-! rounds without items, as the program does them -/
namespace CoM
open PySem EM
/-- a loop at work: the row, how often it has asked, whether it has stopped -/
structure WS where
  x : RP
  ak : Nat
  st : Bool
def ansS (sz : Nat) (ro eo : List (Str × Str)) (held : List Int) (told : Bool) (s : WS) : WS := ⟨(ansM sz ro eo held told s.x).1, s.ak + 1, (ansM sz ro eo held told s.x).2⟩
/-- m: the length of the rest before the last round -/
def noS (sz : Nat) (ro eo : List (Str × Str)) (told : Bool) : Nat → Option Nat → WS → WS
  | 0, _, s => s
  | k + 1, m, s => if s.st = true then s else if some s.x.rest.length = m then s else noS sz ro eo told k (some s.x.rest.length) (ansS sz ro eo [] told s)
def rk (sz n : Nat) : Nat := if n = 0 then 0 else if n < sz then 1 else 2
theorem rk_le (sz n : Nat) : rk sz n ≤ 2 := by
  unfold rk
  split
  · omega
  split <;> omega
theorem no_rest {sz : Nat} {ro eo : List (Str × Str)} {told : Bool} {x : RP} (h : (ansM sz ro eo [] told x).2 = false) : (ansM sz ro eo [] told x).1.rest.length = x.rest.length ∨ (ansM sz ro eo [] told x).1.rest.length = x.rest.length % sz ∨ (ansM sz ro eo [] told x).1.rest.length = 0 := by
  rw [(ans_len sz ro eo [] told x).2 h]
  exact no_len sz told ro x.rest.length
/-- the rest becomes of a lower rank, or it stays -/
theorem rk_down {sz : Nat} (z : 1 ≤ sz) {n m : Nat} (h : m = n ∨ m = n % sz ∨ m = 0) : m = n ∨ rk sz m < rk sz n := by
  by_cases e : m = n
  · exact .inl e
  refine .inr ?_
  unfold rk
  rcases h with h | h | h
  · exact absurd h e
  · have lt : n % sz < sz := Nat.mod_lt _ z
    have ns : ¬ n < sz := fun c => e (by rw [h, Nat.mod_eq_of_lt c])
    rw [if_neg (show ¬ n = 0 by omega), if_neg ns, h]
    split
    · omega
    · first
        | (rw [if_pos lt]; omega)
        | omega
  · have n0 : n ≠ 0 := fun c => e (by rw [h, c])
    rw [if_pos h, if_neg n0]
    split <;> omega
theorem no_stop (sz : Nat) (ro eo : List (Str × Str)) (told : Bool) (k : Nat) (m : Option Nat) (s : WS) (h : s.st = true) : noS sz ro eo told k m s = s := by
  cases k with
  | zero => rfl
  | succ k =>
    show (if s.st = true then s else _) = s
    rw [if_pos h]
/-- whether and when it stops: by lengths -/
theorem no_asked {sz : Nat} (ro eo : List (Str × Str)) (told : Bool) : ∀ (k : Nat) (s : WS), s.st = false → (match nothL sz told ro k s.x.rest.length with | some r => (noS sz ro eo told k none s).st = true ∧ (noS sz ro eo told k none s).ak = s.ak + r | none => (noS sz ro eo told k none s).st = false) ∧
    ∀ l, l ≠ s.x.rest.length → noS sz ro eo told k (some l) s = noS sz ro eo told k none s
  | 0, s, h => ⟨h, fun _ _ => rfl⟩
  | k + 1, s, h => by
    have eq : ∀ m, some s.x.rest.length ≠ m → noS sz ro eo told (k + 1) m s = noS sz ro eo told k (some s.x.rest.length) (ansS sz ro eo [] told s) := fun m hm => by
      show (if s.st = true then s else if some s.x.rest.length = m then s else _) = _
      rw [if_neg (by rw [h]; decide), if_neg hm]
    refine ⟨?_, fun l hl => by rw [eq _ (by intro z; exact hl (Option.some.inj z).symm), eq none (by intro z; cases z)]⟩
    rw [eq none (by intro z; cases z)]
    obtain ⟨a1, a2⟩ := ans_len sz ro eo [] told s.x
    show (match (if (runL sz 0 told ro s.x.rest.length).2 = true then some 1 else if (runL sz 0 told ro s.x.rest.length).1 = s.x.rest.length then none else (nothL sz told ro k (runL sz 0 told ro s.x.rest.length).1).map (· + 1)) with | some r => _ | none => _)
    by_cases c : (ansM sz ro eo [] told s.x).2 = true
    · have c' : (runL sz 0 told ro s.x.rest.length).2 = true := a1 ▸ c
      rw [if_pos c', no_stop _ _ _ _ _ _ _ (show (ansS sz ro eo [] told s).st = true from c)]
      exact ⟨c, rfl⟩
    · have cf : (ansM sz ro eo [] told s.x).2 = false := by simpa using c
      have c' : ¬ (runL sz 0 told ro s.x.rest.length).2 = true := fun q => c (a1.trans q)
      have ln : (ansS sz ro eo [] told s).x.rest.length = (runL sz 0 told ro s.x.rest.length).1 := a2 cf
      rw [if_neg c']
      by_cases d : (runL sz 0 told ro s.x.rest.length).1 = s.x.rest.length
      · rw [if_pos d]
        show (noS sz ro eo told k (some s.x.rest.length) (ansS sz ro eo [] told s)).st = false
        cases k with
        | zero => exact cf
        | succ k =>
          show (if (ansS sz ro eo [] told s).st = true then (ansS sz ro eo [] told s) else if some (ansS sz ro eo [] told s).x.rest.length = some s.x.rest.length then (ansS sz ro eo [] told s) else _).st = false
          rw [if_neg (by show ¬ (ansM sz ro eo [] told s.x).2 = true; exact c), if_pos (by rw [ln, d])]
          exact cf
      · rw [if_neg d]
        obtain ⟨i1, i2⟩ := no_asked ro eo told k (ansS sz ro eo [] told s) cf
        rw [i2 s.x.rest.length (by rw [ln]; exact fun q => d q.symm)]
        rw [ln] at i1
        cases e : nothL sz told ro k (runL sz 0 told ro s.x.rest.length).1 with
        | none => rw [e] at i1; exact i1
        | some r =>
          rw [e] at i1
          refine ⟨i1.1, ?_⟩
          rw [i1.2]
          show s.ak + 1 + r = s.ak + (r + 1)
          omega
end CoM

/-! a run with an exact and prompt source: how often it asks -/
namespace CoM
open PySem EM
def itF (f c : Nat) : List Int := (List.range c).map fun i => (f : Int) + (i : Nat)
theorem itF_len (f c : Nat) : (itF f c).length = c := by rw [itF, List.length_map, List.length_range]
/-- what such a source tells -/
def tell (E : Str) (before after : Nat) : Bool := if E = "empty" then false else if E = "behind" then decide (before = 0) else decide (after = 0)
def isE (E : Str) : Prop := E = "empty" ∨ E = "with" ∨ E = "behind"
theorem tell_no {E : Str} (h : isE E) : tell E 0 0 = tl E := by
  rcases h with rfl | rfl | rfl <;> decide +kernel
theorem tell_some {E : Str} (h : isE E) (b a : Nat) (hb : b ≠ 0) : tell E b a = (wl E && decide (a = 0)) := by
  unfold tell wl
  rcases h with rfl | rfl | rfl
  · rw [if_pos rfl]
    rfl
  · rw [if_neg (by decide +kernel), if_neg (by decide +kernel), decide_eq_true (rfl : ("with" : Str) = "with"), Bool.true_and]
  · rw [if_neg (by decide +kernel), if_pos rfl, decide_eq_false hb, decide_eq_false (by decide +kernel : ¬ ("behind" : Str) = "with")]
    rfl
/-- the rounds with items -/
def exS (sz : Nat) (ro eo : List (Str × Str)) (E : Str) (N : Nat) : Nat → Nat → WS → WS
  | 0, _, s => s
  | k + 1, first, s => if first < N ∧ s.st = false then exS sz ro eo E N k (min (first + sz) N) (ansS sz ro eo (itF first (min (first + sz) N - first)) (tell E (N - first) (N - min (first + sz) N)) s) else s
/-- the whole run -/
def wkS (sz : Nat) (ro eo : List (Str × Str)) (E : Str) (N : Nat) : WS := noS sz ro eo (tl E) 4 none (exS sz ro eo E N (N + 1) 0 ⟨⟨[], []⟩, 0, false⟩)
def asked (s : WS) : Option Nat := if s.st = true then some s.ak else none
theorem ex_stop (sz : Nat) (ro eo : List (Str × Str)) (E : Str) (N k first : Nat) (s : WS) (h : s.st = true) : exS sz ro eo E N k first s = s := by
  cases k with
  | zero => rfl
  | succ k =>
    show (if first < N ∧ s.st = false then _ else s) = s
    rw [if_neg (by rw [h]; intro z; cases z.2)]
theorem ex_end (sz : Nat) (ro eo : List (Str × Str)) (E : Str) (N k : Nat) (s : WS) : exS sz ro eo E N k N s = s := by
  cases k with
  | zero => rfl
  | succ k =>
    show (if N < N ∧ s.st = false then _ else s) = s
    rw [if_neg (fun z => Nat.lt_irrefl _ z.1)]
theorem ex_asked {sz p : Nat} (z : 1 ≤ sz) (hp : p < sz) (ro eo : List (Str × Str)) {E : Str} (hE : isE E) (N : Nat) : ∀ (q k first : Nat) (s : WS), s.st = false → first + (q * sz + p) = N → q + 2 ≤ k →
    (noS sz ro eo (tl E) 4 none (exS sz ro eo E N k first s)).st = (askL sz p ro E q s.x.rest.length).isSome ∧ ∀ r, askL sz p ro E q s.x.rest.length = some r → (noS sz ro eo (tl E) 4 none (exS sz ro eo E N k first s)).ak = s.ak + r
  | 0, k, first, s, h, e, hk => by
    have nothing : ∀ s : WS, s.st = false → (noS sz ro eo (tl E) 4 none s).st = (nothL sz (tl E) ro 4 s.x.rest.length).isSome ∧ ∀ r, nothL sz (tl E) ro 4 s.x.rest.length = some r → (noS sz ro eo (tl E) 4 none s).ak = s.ak + r := fun s h => by
      have a := (no_asked (sz := sz) ro eo (tl E) 4 s h).1
      cases c : nothL sz (tl E) ro 4 s.x.rest.length with
      | none => rw [c] at a; exact ⟨a, fun r y => by cases y⟩
      | some r =>
        rw [c] at a
        exact ⟨a.1, fun r' y => by cases y; exact a.2⟩
    have al : askL sz p ro E 0 s.x.rest.length = if p = 0 then nothL sz (tl E) ro 4 s.x.rest.length else if (runL sz p (wl E) ro s.x.rest.length).2 = true then some 1 else (nothL sz (tl E) ro 4 (runL sz p (wl E) ro s.x.rest.length).1).map (· + 1) := rfl
    rw [al]
    by_cases p0 : p = 0
    · have : first = N := by rw [p0] at e; omega
      rw [if_pos p0, this, ex_end]
      exact nothing s h
    · rw [if_neg p0]
      obtain ⟨k, rfl⟩ : ∃ j, k = j + 1 := ⟨k - 1, by omega⟩
      have eN : min (first + sz) N = N := by omega
      have ex : exS sz ro eo E N (k + 1) first s = ansS sz ro eo (itF first p) (wl E) s := by
        show (if first < N ∧ s.st = false then exS sz ro eo E N k (min (first + sz) N) (ansS sz ro eo (itF first (min (first + sz) N - first)) (tell E (N - first) (N - min (first + sz) N)) s) else s) = _
        rw [if_pos ⟨by omega, h⟩, eN, ex_end, show N - first = p by omega, show N - N = 0 by omega, tell_some hE p 0 p0, decide_eq_true rfl, Bool.and_true]
      rw [ex]
      obtain ⟨a1, a2⟩ := ans_len sz ro eo (itF first p) (wl E) s.x
      rw [itF_len] at a1 a2
      by_cases c : (ansM sz ro eo (itF first p) (wl E) s.x).2 = true
      · rw [if_pos (a1 ▸ c), no_stop _ _ _ _ _ _ _ (show (ansS sz ro eo (itF first p) (wl E) s).st = true from c)]
        exact ⟨c, fun r y => by cases y; rfl⟩
      · have cf : (ansM sz ro eo (itF first p) (wl E) s.x).2 = false := by simpa using c
        rw [if_neg (fun q => c (a1.trans q))]
        obtain ⟨n1, n2⟩ := nothing (ansS sz ro eo (itF first p) (wl E) s) cf
        have ln : (ansS sz ro eo (itF first p) (wl E) s).x.rest.length = (runL sz p (wl E) ro s.x.rest.length).1 := a2 cf
        rw [ln] at n1 n2
        refine ⟨by rw [n1, Option.isSome_map], fun r y => ?_⟩
        cases d : nothL sz (tl E) ro 4 (runL sz p (wl E) ro s.x.rest.length).1 with
        | none => rw [d] at y; cases y
        | some r' =>
          rw [d] at y
          cases y
          rw [n2 r' d]
          show s.ak + 1 + r' = s.ak + (r' + 1)
          omega
  | q + 1, k, first, s, h, e, hk => by
    obtain ⟨k, rfl⟩ : ∃ j, k = j + 1 := ⟨k - 1, by omega⟩
    have em : (q + 1) * sz = q * sz + sz := Nat.succ_mul q sz
    have eN : min (first + sz) N = first + sz := by omega
    have et : tell E (N - first) (N - (first + sz)) = (wl E && decide (q = 0) && decide (p = 0)) := by
      rw [tell_some hE _ _ (by omega), show N - (first + sz) = q * sz + p by omega, Bool.and_assoc, ← Bool.decide_and]
      refine congrArg (wl E && ·) (decide_eq_decide.mpr ⟨fun y => ?_, fun y => ?_⟩)
      · have m0 : q * sz = 0 := by omega
        rcases Nat.mul_eq_zero.mp m0 with a | a
        · exact ⟨a, by omega⟩
        · omega
      · rw [y.1, y.2, Nat.zero_mul]
    have ex : exS sz ro eo E N (k + 1) first s = exS sz ro eo E N k (first + sz) (ansS sz ro eo (itF first sz) (wl E && decide (q = 0) && decide (p = 0)) s) := by
      show (if first < N ∧ s.st = false then exS sz ro eo E N k (min (first + sz) N) (ansS sz ro eo (itF first (min (first + sz) N - first)) (tell E (N - first) (N - min (first + sz) N)) s) else s) = _
      rw [if_pos ⟨by omega, h⟩, eN, et, show first + sz - first = sz by omega]
    rw [ex]
    have al : askL sz p ro E (q + 1) s.x.rest.length = if (runL sz sz (wl E && decide (q = 0) && decide (p = 0)) ro s.x.rest.length).2 = true then some 1 else (askL sz p ro E q (runL sz sz (wl E && decide (q = 0) && decide (p = 0)) ro s.x.rest.length).1).map (· + 1) := rfl
    rw [al]
    generalize (wl E && decide (q = 0) && decide (p = 0)) = td
    obtain ⟨a1, a2⟩ := ans_len sz ro eo (itF first sz) td s.x
    rw [itF_len] at a1 a2
    by_cases c : (ansM sz ro eo (itF first sz) td s.x).2 = true
    · rw [if_pos (a1 ▸ c), ex_stop _ _ _ _ _ _ _ _ (show (ansS sz ro eo (itF first sz) td s).st = true from c), no_stop _ _ _ _ _ _ _ (show (ansS sz ro eo (itF first sz) td s).st = true from c)]
      exact ⟨c, fun r y => by cases y; rfl⟩
    · have cf : (ansM sz ro eo (itF first sz) td s.x).2 = false := by simpa using c
      rw [if_neg (fun q => c (a1.trans q))]
      have ln : (ansS sz ro eo (itF first sz) td s).x.rest.length = (runL sz sz td ro s.x.rest.length).1 := a2 cf
      obtain ⟨n1, n2⟩ := ex_asked z hp ro eo hE N q k (first + sz) (ansS sz ro eo (itF first sz) td s) cf (by omega) (by omega)
      rw [ln] at n1 n2
      refine ⟨by rw [n1, Option.isSome_map], fun r y => ?_⟩
      cases d : askL sz p ro E q (runL sz sz td ro s.x.rest.length).1 with
      | none => rw [d] at y; cases y
      | some r' =>
        rw [d] at y
        cases y
        rw [n2 r' d]
        show s.ak + 1 + r' = s.ak + (r' + 1)
        omega
/-- how often a run asks hangs on the number of full pieces and on whether there is a part -/
theorem wk_asked {sz : Nat} (z : 1 ≤ sz) {ro eo : List (Str × Str)} (ha : adds ro ≤ 1) {E : Str} (hE : isE E) (N : Nat) : asked (wkS sz ro eo E N) = askA ro E (decide (N % sz ≠ 0)) (N / sz) .e := by
  have hd : N / sz * sz + N % sz = N := by rw [Nat.mul_comm]; exact Nat.div_add_mod N sz
  have hq : N / sz ≤ N := Nat.div_le_self _ _
  have key := ex_asked z (Nat.mod_lt N z) ro eo hE N (N / sz) (N + 1 + 1) 0 ⟨⟨[], []⟩, 0, false⟩ rfl (by omega) (by omega)
  have more : exS sz ro eo E N (N + 1 + 1) 0 ⟨⟨[], []⟩, 0, false⟩ = exS sz ro eo E N (N + 1) 0 ⟨⟨[], []⟩, 0, false⟩ := by
    have gen : ∀ (k first : Nat) (s : WS), N < first + k → exS sz ro eo E N (k + 1) first s = exS sz ro eo E N k first s := by
      intro k
      induction k with
      | zero =>
        intro first s h
        show (if first < N ∧ s.st = false then _ else s) = s
        rw [if_neg (by omega)]
      | succ k ih =>
        intro first s h
        show (if first < N ∧ s.st = false then exS sz ro eo E N (k + 1) (min (first + sz) N) _ else s) = (if first < N ∧ s.st = false then exS sz ro eo E N k (min (first + sz) N) _ else s)
        split
        next c => exact ih _ _ (by omega)
        next c => rfl
    exact gen (N + 1) 0 _ (by omega)
  rw [more] at key
  have e : askL sz (N % sz) ro E (N / sz) 0 = askA ro E (decide (N % sz ≠ 0)) (N / sz) .e := ask_al z (Nat.mod_lt N z) ha E (N / sz) 0 (by intro y; cases y)
  rw [← e]
  obtain ⟨k1, k2⟩ := key
  have k1 : (wkS sz ro eo E N).st = (askL sz (N % sz) ro E (N / sz) 0).isSome := k1
  have k2 : ∀ r, askL sz (N % sz) ro E (N / sz) 0 = some r → (wkS sz ro eo E N).ak = 0 + r := k2
  unfold asked
  cases d : askL sz (N % sz) ro E (N / sz) 0 with
  | none =>
    rw [d] at k1
    rw [if_neg (by rw [k1]; decide)]
  | some r =>
    rw [d] at k1
    rw [if_pos (show (wkS sz ro eo E N).st = true from k1), k2 r d, Nat.zero_add]
end CoM

/-! the same run, as a law walks it: rest by rest -/
namespace CoM
open PySem EM
def said (E : Str) (left c : Nat) : Bool := if left = 0 then decide (E ≠ "empty") else (decide (E = "with") && decide (c = left))
def out (s : WS) : Option (Nat × List (List Int)) := if s.st = true then some (s.ak, s.x.pieces) else none
def lwA (sz : Nat) (ro eo : List (Str × Str)) (E : Str) (N first : Nat) (s : WS) : WS := ansS sz ro eo (itF first (min (N - first) sz)) (said E (N - first) (min (N - first) sz)) s
def lwS (sz : Nat) (ro eo : List (Str × Str)) (E : Str) (N : Nat) : Nat → Nat → WS → Option (Nat × List (List Int))
  | 0, _, _ => none
  | k + 1, first, s => if (lwA sz ro eo E N first s).st = true then some ((lwA sz ro eo E N first s).ak, (lwA sz ro eo E N first s).x.pieces) else if min (N - first) sz = 0 ∧ (lwA sz ro eo E N first s).x.rest = s.x.rest then none else lwS sz ro eo E N k (first + min (N - first) sz) (lwA sz ro eo E N first s)
theorem lwS_succ (sz : Nat) (ro eo : List (Str × Str)) (E : Str) (N k first : Nat) (s : WS) : lwS sz ro eo E N (k + 1) first s = if (lwA sz ro eo E N first s).st = true then some ((lwA sz ro eo E N first s).ak, (lwA sz ro eo E N first s).x.pieces) else if min (N - first) sz = 0 ∧ (lwA sz ro eo E N first s).x.rest = s.x.rest then none else lwS sz ro eo E N k (first + min (N - first) sz) (lwA sz ro eo E N first s) := rfl
theorem run_suffix (sz : Nat) (told : Bool) : ∀ (ws : List (Str × Str)) (x : RP), ∃ d, (runW sz [] told ws x).1.rest = x.rest.drop d
  | [], x => ⟨0, rfl⟩
  | (t, s) :: r, x => by
    rw [show runW sz [] told ((t, s) :: r) x = if passM sz [] told t x.rest = true then (if s = "again" then (x, false) else if s = "stop" then (x, true) else runW sz [] told r (perfM sz [] s x)) else runW sz [] told r x from rfl]
    split
    · split
      · exact ⟨0, rfl⟩
      split
      · exact ⟨0, rfl⟩
      · obtain ⟨d, e⟩ := run_suffix sz told r (perfM sz [] s x)
        have : ∃ d, (perfM sz [] s x).rest = x.rest.drop d := by
          unfold perfM
          split
          · exact ⟨0, List.append_nil _⟩
          split
          · exact ⟨0, rfl⟩
          split
          · exact ⟨_, rfl⟩
          split
          · exact ⟨x.rest.length, List.drop_length.symm⟩
          · exact ⟨0, rfl⟩
        obtain ⟨d2, e2⟩ := this
        exact ⟨d2 + d, by rw [e, e2, List.drop_drop]⟩
    · exact run_suffix sz told r x
theorem rest_eq {sz : Nat} {ro eo : List (Str × Str)} {told : Bool} {x : RP} (h : (ansM sz ro eo [] told x).2 = false) : (ansM sz ro eo [] told x).1.rest.length = x.rest.length ↔ (ansM sz ro eo [] told x).1.rest = x.rest := by
  refine ⟨fun e => ?_, fun e => by rw [e]⟩
  have e0 : (ansM sz ro eo [] told x).1 = (runW sz [] told ro x).1 := by
    unfold ansM at h ⊢
    split at h
    · cases h
    · rename_i c
      rw [if_neg c]
  rw [e0] at e ⊢
  obtain ⟨d, ed⟩ := run_suffix sz told ro x
  rw [ed] at e ⊢
  rw [List.length_drop] at e
  by_cases c : d = 0
  · rw [c]; rfl
  · have : x.rest = [] := List.length_eq_zero_iff.mp (by omega)
    rw [this, List.drop_nil]
theorem itF0 (f : Nat) : itF f 0 = [] := rfl
theorem lwA_no {sz : Nat} {ro eo : List (Str × Str)} {E : Str} (N : Nat) (s : WS) : lwA sz ro eo E N N s = ansS sz ro eo [] (tl E) s := by
  unfold lwA
  rw [Nat.sub_self, Nat.zero_min]
  rfl
theorem lw_no {sz : Nat} (z : 1 ≤ sz) (ro eo : List (Str × Str)) (E : Str) (N : Nat) : ∀ (k k' : Nat) (m : Option Nat) (s : WS), s.st = false → some s.x.rest.length ≠ m → rk sz s.x.rest.length + 2 ≤ k → rk sz s.x.rest.length + 2 ≤ k' → lwS sz ro eo E N k' N s = out (noS sz ro eo (tl E) k m s)
  | 0, k', m, s, _, _, h, _ => by omega
  | k + 1, k', m, s, hs, hm, h1, h2 => by
    obtain ⟨k', rfl⟩ : ∃ j, k' = j + 1 := ⟨k' - 1, by omega⟩
    have eN : noS sz ro eo (tl E) (k + 1) m s = noS sz ro eo (tl E) k (some s.x.rest.length) (ansS sz ro eo [] (tl E) s) := by
      show (if s.st = true then s else if some s.x.rest.length = m then s else _) = _
      rw [if_neg (by rw [hs]; decide), if_neg hm]
    rw [lwS_succ, lwA_no, eN, Nat.sub_self, Nat.zero_min]
    by_cases c : (ansS sz ro eo [] (tl E) s).st = true
    · rw [if_pos c, no_stop _ _ _ _ _ _ _ c]
      unfold out
      rw [if_pos c]
    · have cf : (ansM sz ro eo [] (tl E) s.x).2 = false := by
        have : ¬ (ansM sz ro eo [] (tl E) s.x).2 = true := c
        simpa using this
      rw [if_neg c]
      by_cases d : (ansS sz ro eo [] (tl E) s).x.rest = s.x.rest
      · rw [if_pos ⟨rfl, d⟩]
        have e : noS sz ro eo (tl E) k (some s.x.rest.length) (ansS sz ro eo [] (tl E) s) = ansS sz ro eo [] (tl E) s := by
          cases k with
          | zero => rfl
          | succ k =>
            show (if _ = true then _ else if some (ansS sz ro eo [] (tl E) s).x.rest.length = some s.x.rest.length then _ else _) = _
            rw [if_neg c, if_pos (by rw [d])]
        rw [e]
        unfold out
        rw [if_neg c]
      · rw [if_neg (fun y => d y.2)]
        have nl : (ansS sz ro eo [] (tl E) s).x.rest.length ≠ s.x.rest.length := fun y => d ((rest_eq cf).mp y)
        have dn : rk sz (ansS sz ro eo [] (tl E) s).x.rest.length < rk sz s.x.rest.length := (rk_down z (no_rest cf)).resolve_left nl
        exact lw_no z ro eo E N k k' (some s.x.rest.length) _ cf (fun y => nl (Option.some.inj y)) (by omega) (by omega)
theorem said_tell {E : Str} (hE : isE E) (left c after : Nat) (h0 : left ≠ 0) (h : c + after = left) : said E left c = tell E left after := by
  rw [tell_some hE _ _ h0]
  unfold said
  rw [if_neg h0]
  unfold wl
  exact congrArg (_ && ·) (decide_eq_decide.mpr (by omega))
theorem lw_ex {sz : Nat} (z : 1 ≤ sz) (ro eo : List (Str × Str)) {E : Str} (hE : isE E) (N : Nat) : ∀ (k k' first : Nat) (s : WS), s.st = false → first ≤ N → N < first + k → N - first + 4 ≤ k' → lwS sz ro eo E N k' first s = out (noS sz ro eo (tl E) 4 none (exS sz ro eo E N k first s))
  | 0, k', first, s, _, h1, h2, _ => by omega
  | k + 1, k', first, s, hs, h1, h2, h3 => by
    by_cases e : first = N
    · subst e
      rw [ex_end]
      have := rk_le sz s.x.rest.length
      exact lw_no z ro eo E first 4 k' none s hs (by intro y; cases y) (by omega) (by omega)
    · obtain ⟨k', rfl⟩ : ∃ j, k' = j + 1 := ⟨k' - 1, by omega⟩
      have em : min (first + sz) N - first = min (N - first) sz := by omega
      have eA : lwA sz ro eo E N first s = ansS sz ro eo (itF first (min (first + sz) N - first)) (tell E (N - first) (N - min (first + sz) N)) s := by
        unfold lwA
        rw [said_tell hE (N - first) (min (N - first) sz) (N - min (first + sz) N) (by omega) (by omega), em]
      have eX : exS sz ro eo E N (k + 1) first s = exS sz ro eo E N k (min (first + sz) N) (lwA sz ro eo E N first s) := by
        rw [eA]
        show (if first < N ∧ s.st = false then _ else s) = _
        rw [if_pos ⟨by omega, hs⟩]
      rw [eX, lwS_succ]
      by_cases c : (lwA sz ro eo E N first s).st = true
      · rw [if_pos c, ex_stop _ _ _ _ _ _ _ _ c, no_stop _ _ _ _ _ _ _ c]
        unfold out
        rw [if_pos c]
      · rw [if_neg c, if_neg (by omega), show first + min (N - first) sz = min (first + sz) N by omega]
        exact lw_ex z ro eo hE N k k' (min (first + sz) N) _ (by simpa using c) (by omega) (by omega) (by omega)
theorem lw_wk {sz : Nat} (z : 1 ≤ sz) (ro eo : List (Str × Str)) {E : Str} (hE : isE E) (N : Nat) : lwS sz ro eo E N (N + 9) 0 ⟨⟨[], []⟩, 0, false⟩ = out (wkS sz ro eo E N) :=
  lw_ex z ro eo hE N (N + 1) (N + 9) 0 _ rfl (Nat.zero_le _) (by omega) (by omega)
theorem out_asked (s : WS) : (out s).map (·.1) = asked s := by
  unfold out asked
  split <;> rfl
/-- the numbers of a form, and its step -/
theorem noth_le (told : Bool) (ro : List (Str × Str)) : ∀ (k : Nat) (a : A) (r : Nat), nothA told ro k a = some r → r ≤ k
  | 0, a, r, h => by cases h
  | k + 1, a, r, h => by
    have h : (if (runA .no told ro a).2 = true then some 1 else if (runA .no told ro a).1 = a then none else (nothA told ro k (runA .no told ro a).1).map (· + 1)) = some r := h
    split at h
    · cases h; omega
    split at h
    · cases h
    · cases e : nothA told ro k (runA .no told ro a).1 with
      | none => rw [e] at h; cases h
      | some r' =>
        rw [e] at h
        cases h
        have := noth_le told ro k _ _ e
        show r' + 1 ≤ _
        omega
theorem ask_le (ro : List (Str × Str)) (E : Str) (part : Bool) : ∀ (q : Nat) (a : A) (r : Nat), askA ro E part q a = some r → r ≤ q + 4
  | 0, a, r, h => by
    have h : (if part = true then (if (runA .part (wl E) ro a).2 = true then some 1 else (nothA (tl E) ro 3 (runA .part (wl E) ro a).1).map (· + 1)) else nothA (tl E) ro 3 a) = some r := h
    split at h
    · split at h
      · cases h; omega
      · cases e : nothA (tl E) ro 3 (runA .part (wl E) ro a).1 with
        | none => rw [e] at h; cases h
        | some r' =>
          rw [e] at h
          cases h
          have := noth_le _ _ _ _ _ e
          show r' + 1 ≤ _
          omega
    · have := noth_le _ _ _ _ _ h
      omega
  | q + 1, a, r, h => by
    have h : (if (runA .full (wl E && decide (q = 0) && !part) ro a).2 = true then some 1 else (askA ro E part q (runA .full (wl E && decide (q = 0) && !part) ro a).1).map (· + 1)) = some r := h
    split at h
    · cases h; omega
    · generalize (runA .full (wl E && decide (q = 0) && !part) ro a).1 = b at h
      cases e : askA ro E part q b with
      | none => rw [e] at h; cases h
      | some r' =>
        rw [e] at h
        cases h
        have := ask_le ro E part q b r' e
        show r' + 1 ≤ _
        omega
def numA (ro : List (Str × Str)) (E : Str) (part : Bool) (q : Nat) : Option Nat := askA ro E part q .e
def stepA (ro : List (Str × Str)) (E : Str) (part : Bool) : Nat := match numA ro E part 4, numA ro E part 5 with | some l, some m => m - l | _, _ => 0
/-- from the fifth number on -/
theorem num_far (ro : List (Str × Str)) (E : Str) (part : Bool) : stepA ro E part ≤ 1 ∧ (numA ro E part 4 = none → ∀ q, 4 ≤ q → numA ro E part q = none) ∧ ∀ l, numA ro E part 4 = some l → ∀ q, 4 ≤ q → numA ro E part q = some (l + stepA ro E part * (q - 4)) := by
  unfold numA stepA
  rcases ask_per ro E part with ⟨c, h⟩ | h
  · have h4 := h 4 (by omega)
    have h5 := h 5 (by omega)
    unfold numA
    rw [h4, h5]
    refine ⟨(by show c - c ≤ 1; omega), (fun z => by cases z), fun l el q hq => ?_⟩
    cases el
    rw [h q (by omega)]
    show some c = some (c + (c - c) * (q - 4))
    rw [Nat.sub_self, Nat.zero_mul, Nat.add_zero]
  · unfold numA
    have h5 := h 4 (by omega)
    rw [h5]
    cases e : askA ro E part 4 .e with
    | none =>
      refine ⟨(by show 0 ≤ 1; omega), fun _ q hq => ?_, fun l el => by cases el⟩
      obtain ⟨d, rfl⟩ : ∃ d, q = 4 + d := ⟨q - 4, by omega⟩
      clear hq
      induction d with
      | zero => exact e
      | succ d ih => rw [show 4 + (d + 1) = 4 + d + 1 by omega, h _ (by omega), ih]; rfl
    | some l =>
      refine ⟨(by show l + 1 - l ≤ 1; omega), (fun z => by cases z), fun l' el q hq => ?_⟩
      cases el
      obtain ⟨d, rfl⟩ : ∃ d, q = 4 + d := ⟨q - 4, by omega⟩
      clear hq
      show askA ro E part (4 + d) .e = some (l + (l + 1 - l) * (4 + d - 4))
      rw [show l + 1 - l = 1 by omega, Nat.one_mul, show 4 + d - 4 = d by omega]
      induction d with
      | zero => exact e
      | succ d ih => rw [show 4 + (d + 1) = 4 + d + 1 by omega, h _ (by omega), ih]; show some (l + d + 1) = _; rw [Nat.add_assoc]
end CoM

/-! the law's loop, its end, its own run -/
namespace My
open PySem L2 Cm LM EM CoM
abbrev sMine : Stmt := top 49
abbrev sLast : Stmt := top 50
abbrev sRun : Stmt := top 57
theorem ord_rounds {B E : List Str} (rB : isRound B = true) (rE : isEnding E = true) : ordsR (textOf B E) = ords B ∧ ordsE (textOf B E) = ords E := by
  have tw := text_words rB rE
  unfold ordsR ordsE
  rw [tw.1, tw.2]
  exact ⟨rfl, rfl⟩
theorem eqv_ints : ∀ xs ys : List Int, PyData.eqvAll (intD xs) (intD ys) = decide (xs = ys)
  | [], [] => by simp [intD, PyData.eqvAll]
  | [], y :: r => by simp [intD, PyData.eqvAll]
  | x :: r, [] => by simp [intD, PyData.eqvAll]
  | x :: r, y :: z => by
    have e1 : intD (x :: r) = PyData.int x :: intD r := rfl
    have e2 : intD (y :: z) = PyData.int y :: intD z := rfl
    rw [e1, e2, PyData.eqvAll, eqv_ints r z, PyData.eqv]
    by_cases h : x = y
    · subst h
      simp
    · simp [h]
theorem eqv_intL (xs ys : List Int) : PyData.eqv (.list (intD xs)) (.list (intD ys)) = decide (xs = ys) := by rw [PyData.eqv, eqv_ints]
structure TxBr (K : PySem.W.Frag) (mg : Str → Option Value) where
  B : TxB K mg
  D : TxD K mg
  T : TxC K mg
  min : mg "min" = none
  mine : Df K mg "_law_mine" sMine ["_law_made"]
  last : Df K mg "_law_last" sLast ["_law_jar_here"]
  run : Df K mg "_law_run_out" sRun ["_law_made", "_law_last_here", "_law_many", "_law_wide"]
/-- the words of a loop stand at ma -/
structure Wds (H : Hp) (ma : Addr) (B E : List Str) : Prop where
  ex : ∃ a b, H ma = some (.tup [.ref a, .ref b]) ∧ H a = some (.lst (svs B)) ∧ H b = some (.lst (svs E))
theorem Wds.same {H H' : Hp} {ma : Addr} {B E : List Str} (s : Same H H') (h : Wds H ma B E) : Wds H' ma B E := let ⟨a, b, h1, h2, h3⟩ := h.ex; ⟨a, b, s _ _ h1, s _ _ h2, s _ _ h3⟩
/-- the same, away from the jar -/
structure WdJ (j : Addr) (H : Hp) (ma : Addr) (B E : List Str) : Prop where
  ex : ∃ a b, ma ≠ j ∧ a ≠ j ∧ b ≠ j ∧ H ma = some (.tup [.ref a, .ref b]) ∧ H a = some (.lst (svs B)) ∧ H b = some (.lst (svs E))
theorem WdJ.same {j : Addr} {H H' : Hp} {ma : Addr} {B E : List Str} (s : Same H H') (h : WdJ j H ma B E) : WdJ j H' ma B E := let ⟨a, b, n1, n2, n3, h1, h2, h3⟩ := h.ex; ⟨a, b, n1, n2, n3, s _ _ h1, s _ _ h2, s _ _ h3⟩
theorem WdJ.off {j : Addr} {H H' : Hp} {ma : Addr} {B E : List Str} (s : Off j H H') (h : WdJ j H ma B E) : WdJ j H' ma B E := let ⟨a, b, n1, n2, n3, h1, h2, h3⟩ := h.ex; ⟨a, b, n1, n2, n3, s _ _ n1 h1, s _ _ n2 h2, s _ _ n3 h3⟩
theorem WdJ.wds {j : Addr} {H : Hp} {ma : Addr} {B E : List Str} (h : WdJ j H ma B E) : Wds H ma B E := let ⟨a, b, _, _, _, h1, h2, h3⟩ := h.ex; ⟨a, b, h1, h2, h3⟩
section
variable {P : Program} {w : World} {K : PySem.W.Frag} {mg : Str → Option Value} {base : Heap}
/-! ### _law_mine -/
def spMine (C : Addr) : Sp := fun vs H Q _ => ∃ (ma : Addr) (B E : List Str), vs = [.ref ma] ∧ Wds H ma B E ∧ isRound B = true ∧ isEnding E = true ∧ ∀ (H' : Hp) (o : Addr), Same H H' → H o = none → LoopAt C H' o (textOf B E) → Q (.ref o) H'
theorem scMine : FnScope ["_law_made"] ["_law_made"] (defScope sMine) := ⟨rfl, rfl, rfl, by decide +kernel, rfl, by decide +kernel, by decide +kernel⟩
theorem ok_mine (R : TxBr K mg) : FnOk P w K mg base CX0 6 R.mine.f R.mine.fd ["_law_made"] (spMine R.T.C) := by
  have GN : FnOk P w K mg base CX0 1 R.D.lin.f R.D.lin.fd ["_law_begun", "_law_ended"] spLine := ok_line R.D
  have GM : FnOk P w K mg base (L2.CX P w) 4 R.T.fI R.T.fdI ["self", "text"] (spLI K R.T.C R.T.E.C) := ok_li R.T
  refine R.mine.F.ok scMine (fun vs H Q E h => ?_) (fun cdv A outer s H vs Q E hr h => ?_)
  · obtain ⟨ma, B, E', rfl, _⟩ := h
    rfl
  · obtain ⟨ma, B, E', rfl, hW, rB, rE, k⟩ := h
    obtain ⟨a, b, hm, ha, hb⟩ := hW.ex
    have hr1 : Room 1 _ := hr.mono (by decide)
    have gt := text_good rB rE
    have bd : Bd (textOf B E') := Nat.le_trans (text_len rB rE) (by decide)
    have nB : B ≠ [] := round_ne rB
    have shB := (round_sht rB).mono (m := 100) (by decide)
    have shE := (ending_sht rE).mono (m := 100) (by decide)
    refine ⟨_, (pss_one (ps_ret (pe_make R.T.MI GM hr rfl R.T.gC R.T.bI .nil pass_none (pa_cons (pe_call GN hr1 rfl R.D.lin.g R.D.lin.k R.D.lin.b .nil pass0 (pa_cons (pe_ix ix_tup (pv 0) pe_int (fun _ _ => rfl)) (pa_cons (pe_ix ix_tup (pv 0) pe_int (fun _ _ => rfl)) pa_nil))) pa_nil)))), ?_⟩
    refine ⟨_, rfl, ma, _, 0, _, rfl, rfl, SqT.of hm, rfl, _, rfl, ma, _, 1, _, rfl, rfl, SqT.of hm, rfl, a, b, B, E', rfl, ha, hb, shB, shE, ending_asc rE, fun H3 s3 => ?_⟩
    rw [line_text nB]
    intro x dx nx ndx nex
    refine ⟨x, dx, _, rfl, upd_same, typed_str _, bd, fun t' et _ H4 o4 l4 => ⟨rfl, ?_⟩, fun z => absurd (gt.symm.trans z) (by decide)⟩
    cases et
    exact k _ x (Same.trans s3 (made_same nx ndx o4)) (s3.free nx) l4
/-! ### _law_last -/
def spLast : Sp := fun vs H Q _ => ∃ j : Addr, vs = [.ref j] ∧ Jar H j ∧ ∀ (H' : Hp) (E : Str), Off j H H' → Jar H' j → isEn E → Q (.str E) H'
theorem scLast : FnScope ["_law_jar_here"] ["_law_jar_here"] (defScope sLast) := ⟨rfl, rfl, rfl, by decide +kernel, rfl, by decide +kernel, by decide +kernel⟩
theorem ok_last (R : TxBr K mg) : FnOk P w K mg base CX0 3 R.last.f R.last.fd ["_law_jar_here"] spLast := by
  have GF : FnOk P w K mg base CX0 2 R.D.frm.f R.D.frm.fd ["_law_jar_here", "_law_things"] (spFrom K) := gk_from R.D
  refine R.last.F.ok scLast (fun vs H Q E h => ?_) (fun cdv A outer s H vs Q E hr h => ?_)
  · obtain ⟨j, rfl, _⟩ := h
    rfl
  · obtain ⟨j, rfl, hJ, k⟩ := h
    refine ⟨_, (pss_one (ps_ret (pe_call GF hr rfl R.D.frm.g R.D.frm.k R.D.frm.b .nil pass0 (pa_cons (pv 0) (pa_cons (pe_lst (pa_cons pe_str (pa_cons pe_str (pa_cons pe_str pa_nil)))) pa_nil))))), ?_⟩
    refine ⟨_, rfl, (by show 3 ≤ sizeLine; decide), fun l nl => ?_⟩
    refine ⟨j, l, _, rfl, hJ.new nl, jar_ne hJ nl, SqL.of upd_same, (by show 0 < 3; decide), (by show 3 < 1073741824; decide), fun H7 n7 y hy o7 J7 => ?_⟩
    have o : Off j H H7 := (Off.new Off.refl nl).trans o7
    match n7, hy with
    | 0, hy => cases hy; exact k H7 _ o J7 (.inl rfl)
    | 1, hy => cases hy; exact k H7 _ o J7 (.inr (.inl rfl))
    | 2, hy => cases hy; exact k H7 _ o J7 (.inr (.inr rfl))
/-! ### _law_run_out -/
def RunQ (H : Hp) (r : Option (Nat × List (List Int))) (Q : VK) : Prop := (r = none → ∀ H', Same H H' → Q .non H') ∧ ∀ ak ps, r = some (ak, ps) → ∀ (H' : Hp) (q u : Addr) (vs : List V), Same H H' → H' q = some (.lst [.int (ak : Nat), .ref u]) → H' u = some (.lst vs) → Pcs H' vs ps → Q (.ref q) H'
def spRun (j : Addr) : Sp := fun vs H Q _ => ∃ (ma : Addr) (B E : List Str) (L : Str) (N sz : Nat), vs = [.ref ma, .str L, .int (N : Nat), .int (sz : Nat)] ∧ Wds H ma B E ∧ isRound B = true ∧ isEnding E = true ∧ isEn L ∧ Jar H j ∧ 1 ≤ sz ∧ sz ≤ 1000 ∧ N ≤ 100 * sz ∧ RunQ H (out (wkS sz (ords B) (ords E) L N)) Q
abbrev NRn : List Str := ["_law_made", "_law_last_here", "_law_many", "_law_wide", "_law_box_here", "_law_left", "_law_asked", "_law_turn", "_law_got", "_law_said", "_law_after"]
theorem scRn : FnScope NRn ["_law_made", "_law_last_here", "_law_many", "_law_wide"] (defScope sRun) := ⟨rfl, rfl, rfl, by decide +kernel, rfl, by decide +kernel, by decide +kernel⟩
theorem ok_run (R : TxBr K mg) (j : Addr) : FnOk P w K mg base CX0 4 R.run.f R.run.fd ["_law_made", "_law_last_here", "_law_many", "_law_wide"] (spRun j) := by
  have GD : FnOk P w K mg base CX0 3 R.B.fed.f R.B.fed.fd ["_law_made", "_law_box_here", "_law_many", "_law_said", "_law_wide"] (spFd j) := ok_fd R.B j
  have GX : FnOk P w K mg base CX0 1 R.B.box.f R.B.box.fd [] (spBx j) := ok_bx R.B j
  refine R.run.F.ok scRn (fun vs H Q E h => ?_) (fun cdv A outer s H vs Q E hr h => ?_)
  · obtain ⟨ma, B, E', L, N, sz, rfl, _⟩ := h
    rfl
  · obtain ⟨ma, B, E', L, N, sz, rfl, hW, rB, rE, hL, hJ, z1, z2, hN, kQ⟩ := h
    have hr1 : Room 1 _ := hr.mono (by decide)
    have hu := hu_of hr
    refine ⟨_, (pss_cons (ps_par3 (i := 4) (j := 5) (l := 6) rfl scRn.nd rfl rfl rfl (by decide) (by decide) (by decide) rfl rfl rfl (pa_cons (pe_call0 GX hr1 rfl R.B.box.g R.B.box.k R.B.box.b .nil pass0) (pa_cons (pv 2) (pa_cons pe_int pa_nil))) (by rfl)) (pss_cons (ps_for PassesOwn.never rfl (pi_range1 rfl R.B.range (pa_cons (pe_op op_add (pv 2) pe_int) pa_nil)) (pg_name (i := 7) scRn.nd rfl (.inl rfl)) (pss_cons (ps_set (i := 8) scRn.nd rfl (.inl rfl) (pe_callB (call_min2 rfl) (by rfl) R.min (by decide +kernel) (pa_cons (pv 5) (pa_cons (pv 3) pa_nil)))) (C8.pss_cut (ps_set (i := 9) scRn.nd rfl (.inl rfl) (pe_ifExp (pt_cmpR op_eq (pv 5) pe_int (nomark _)) (pe_cmpR op_ne (pv 1) pe_str (nomark _)) (pe_and (pe_cmpR op_eq (pv 1) pe_str (nomark _)) (pe_one (pe_cmpR op_eq (pv 8) (pv 5) (nomark _)))))) (pss_cons (ps_set (i := 10) scRn.nd rfl (.inl rfl) (pe_call GD hr rfl R.B.fed.g R.B.fed.k R.B.fed.b .nil pass0 (pa_cons (pv 0) (pa_cons (pv 4) (pa_cons (pv 8) (pa_cons (pv 9) (pa_cons (pv 3) pa_nil))))))) (pss_cons (ps_par (i := 5) (j := 6) rfl scRn.nd rfl rfl (by decide) rfl rfl (pa_cons (pe_op op_sub (pv 5) (pv 8)) (pa_cons (pe_op op_add (pv 6) pe_int) pa_nil)) (by rfl)) (pss_cons (ps_if (pt_val (pe_dget hu (pv 10) pe_str (fun _ _ => rfl))) (pss_one (ps_ret (pe_lst (pa_cons (pv 6) (pa_cons (pe_dget hu (pv 10) pe_str (fun _ _ => rfl)) pa_nil))))) pss_nil) (pss_cons (ps_if (PW.pt (pw_and (pt_cmpR op_eq (pv 8) pe_int (nomark _)) (pw_and1 (pt_cmpR (op_eqD (hu64 hr)) (pe_dget hu (pv 10) pe_str (fun _ _ => rfl)) (pe_dget hu (pv 4) pe_str (fun _ _ => rfl)) (nomark _))))) (pss_one (ps_ret pe_non)) pss_nil) (pss_one (ps_set (i := 4) scRn.nd rfl (.inl rfl) (pv 10)))))))))) (pss_one (ps_ret pe_non)))), ?_⟩
    obtain ⟨a0, b0, hm, ha, hb⟩ := hW.ex
    refine ⟨rfl, hJ, fun H1 b1 s1 nb1 hB1 => ⟨_, rfl, _, _, _, rfl, ?_⟩⟩
    have lw := lw_wk z1 (ords B) (ords E') ((show isE L from hL)) N
    generalize out (wkS sz (ords B) (ords E') L N) = res at lw kQ
    refine ⟨_, rfl, _, _, rfl, rfl, _, rfl, by omega, by omega, for_range (lo := 0) (n := N + 9) (fun i σ H' => ∃ (b : Addr) (first : Nat) (s : WS) (v7 v8 v9 v10 : Option V), σ = [some (.ref ma), some (.str L), some (.int (N : Nat)), some (.int (sz : Nat)), some (.ref b), some (.int ((N - first : Nat) : Nat)), some (.int (i : Nat)), v7, v8, v9, v10] ∧ Same H H' ∧ BoxJ j H' b s.x first false ∧ s.st = false ∧ s.ak = i ∧ first ≤ N ∧ (first < N → i * sz = first) ∧ (first = N → i * sz + rk sz s.x.rest.length * sz ≤ N + 3 * sz) ∧ Few sz (18 * i) (i * 37800) s.x ∧ lwS sz (ords B) (ords E') L N (N + 9 - i) first s = res) ?_ ?_ ?_⟩
    · exact ⟨b1, 0, ⟨⟨[], []⟩, 0, false⟩, none, none, none, none, rfl, s1, hB1, rfl, rfl, Nat.zero_le _, fun _ => Nat.zero_mul _, fun _ => by rw [show rk sz (⟨⟨[], []⟩, 0, false⟩ : WS).x.rest.length = 0 from rfl]; omega, ⟨Nat.zero_le _, Nat.zero_le _⟩, lw⟩
    · rintro i σ H2 hi ⟨b, first, s', v7, v8, v9, v10, rfl, s2, hB, hst, hak, f1, f2, f3, fw, hl⟩
      have i1 : i ≤ 103 := by
        have h3 : i * sz ≤ 103 * sz := by
          rcases Nat.lt_or_ge first N with c | c
          · have := f2 c; omega
          · have := f3 (by omega); omega
        exact Nat.le_of_mul_le_mul_right h3 z1
      refine ⟨_, rfl, _, rfl, _, _, rfl, ?_⟩
      have em : (if ((sz : Nat) : Int) < ((N - first : Nat) : Int) then ((sz : Nat) : Int) else ((N - first : Nat) : Int)) = ((min (N - first) sz : Nat) : Int) := by split <;> omega
      rw [em]
      refine ⟨fun σ H' => H' = H2 ∧ σ = [some (.ref ma), some (.str L), some (.int (N : Nat)), some (.int (sz : Nat)), some (.ref b), some (.int ((N - first : Nat) : Nat)), some (.int (i : Nat)), some (.int (0 + (i : Nat))), some (.int ((min (N - first) sz : Nat) : Nat)), some (.bl (said L (N - first) (min (N - first) sz))), v10], ?_, ?_⟩
      · generalize min (N - first) sz = c
        unfold said
        refine ⟨_, rfl, rfl, _, rfl, ?_⟩
        rw [dI]
        by_cases h0 : N - first = 0
        · rw [decide_eq_true (show ((N - first : Nat) : Int) = 0 by omega), if_pos h0]
          refine iteT ⟨_, rfl, rfl, rfl, ?_⟩
          rw [dS, decide_not]
          rfl
        · rw [decide_eq_false (show ¬ ((N - first : Nat) : Int) = 0 by omega), if_neg h0]
          refine iteF ⟨_, rfl, rfl, _, rfl, ?_⟩
          rw [dS]
          by_cases hw : L = "with"
          · rw [decide_eq_true hw]
            refine iteT ⟨_, rfl, _, rfl, rfl, rfl, ?_⟩
            rw [dI, show decide (((c : Nat) : Int) = ((N - first : Nat) : Int)) = decide (c = N - first) from decide_eq_decide.mpr (by omega)]
            rfl
          · rw [decide_eq_false hw]
            exact iteF ⟨rfl, rfl⟩
      rintro _ _ ⟨rfl, rfl⟩
      refine ⟨_, rfl, _, rfl, _, rfl, _, rfl, _, rfl, ma, a0, b0, b, B, E', s'.x, first, false, said L (N - first) (min (N - first) sz), min (N - first) sz, sz, 18 * i, i * 37800, rfl, s2 _ _ hm, s2 _ _ ha, s2 _ _ hb, rB, rE, hB, hJ.same s2, z1, z2, Nat.min_le_right _ _, by omega, fw, by omega, by omega, fun H3 d s3 nd hB3 => ?_⟩
      have s03 := Same.trans s2 s3
      have eA : lwA sz (ords B) (ords E') L N first s' = ⟨(ansM sz (ords B) (ords E') (itemsL first (min (N - first) sz)) (said L (N - first) (min (N - first) sz)) s'.x).1, i + 1, (ansM sz (ords B) (ords E') (itemsL first (min (N - first) sz)) (said L (N - first) (min (N - first) sz)) s'.x).2⟩ := by
        rw [← hak]
        rfl
      obtain ⟨k9, e9⟩ : ∃ k9, N + 9 - i = k9 + 1 := ⟨N + 8 - i, by omega⟩
      rw [e9, lwS_succ, eA] at hl
      have e8 : N + 9 - (i + 1) = k9 := by omega
      have fa := few_ans (ro := ords B) (eo := ords E') (held := itemsL first (min (N - first) sz)) (told := said L (N - first) (min (N - first) sz)) z1 (by rw [itemsL_len]; exact Nat.min_le_right _ _) (by rw [ords, List.length_map]; exact (round_sht rB).2) (by rw [ords, List.length_map]; exact (ending_sht rE).2) fw
      have dn : first = N → (ansM sz (ords B) (ords E') (itemsL first (min (N - first) sz)) (said L (N - first) (min (N - first) sz)) s'.x).2 = false → (ansM sz (ords B) (ords E') (itemsL first (min (N - first) sz)) (said L (N - first) (min (N - first) sz)) s'.x).1.rest = s'.x.rest ∨ rk sz (ansM sz (ords B) (ords E') (itemsL first (min (N - first) sz)) (said L (N - first) (min (N - first) sz)) s'.x).1.rest.length < rk sz s'.x.rest.length := fun e => by
        have c0 : min (N - first) sz = 0 := by omega
        rw [c0, show itemsL first 0 = [] from rfl]
        intro cf
        rcases rk_down z1 (no_rest cf) with y | y
        · exact .inl ((rest_eq cf).mp y)
        · exact .inr y
      generalize ansM sz (ords B) (ords E') (itemsL first (min (N - first) sz)) (said L (N - first) (min (N - first) sz)) s'.x = an at hB3 hl fa dn
      obtain ⟨r3, u3, vs3, hd3, hr3, hu3, hP3, nr3, nu3⟩ := id hB3.ex
      obtain ⟨r2, u2, vs2, hd2, hr2, hu2, hP2, nr2, nu2⟩ := id (hB.same s3).ex
      refine ⟨_, rfl, _, rfl, _, _, rfl, rfl, _, rfl, _, _, rfl, rfl, _, _, rfl, ?_⟩
      refine ⟨_, rfl, d, _, rfl, get_o hd3, _, rfl, ?_⟩
      cases ho : an.2 with
      | true =>
        rw [if_pos ho] at hl
        refine iteT ⟨_, rfl, _, rfl, d, _, rfl, get_u hd3, (by show 2 ≤ sizeLine; decide), fun q nq => ?_⟩
        refine kQ.2 _ _ hl.symm _ q u3 vs3 (Same.trans s03 (same_new nq)) ?_ (same_new nq _ _ hu3) (hP3.same (same_new nq))
        rw [upd_same]
        rfl
      | false =>
        rw [if_neg (by show ¬ an.2 = true; rw [ho]; decide)] at hl
        refine iteF ?_
        refine ⟨_, rfl, rfl, _, rfl, ?_⟩
        rw [dI, show decide (((min (N - first) sz : Nat) : Int) = 0) = decide (min (N - first) sz = 0) from decide_eq_decide.mpr (by omega)]
        have go : ¬ (min (N - first) sz = 0 ∧ an.1.rest = s'.x.rest) → ∃ (b : Addr) (first' : Nat) (s : WS) (v7 v8 v9 v10 : Option V), ([some (.ref ma), some (.str L), some (.int (N : Nat)), some (.int (sz : Nat)), some (.ref d), some (.int (((N - first : Nat) : Int) - ((min (N - first) sz : Nat) : Int))), some (.int ((i : Nat) + 1)), some (.int (0 + (i : Nat))), some (.int ((min (N - first) sz : Nat) : Nat)), some (.bl (said L (N - first) (min (N - first) sz))), some (.ref d)] : L2.St) = [some (.ref ma), some (.str L), some (.int (N : Nat)), some (.int (sz : Nat)), some (.ref b), some (.int ((N - first' : Nat) : Nat)), some (.int ((i + 1 : Nat) : Nat)), v7, v8, v9, v10] ∧ Same H H3 ∧ BoxJ j H3 b (WS.x s) first' false ∧ WS.st s = false ∧ WS.ak s = i + 1 ∧ first' ≤ N ∧ (first' < N → (i + 1) * sz = first') ∧ (first' = N → (i + 1) * sz + rk sz (WS.x s).rest.length * sz ≤ N + 3 * sz) ∧ Few sz (18 * (i + 1)) ((i + 1) * 37800) (WS.x s) ∧ lwS sz (ords B) (ords E') L N (N + 9 - (i + 1)) first' s = res := fun hn => by
          have hl2 := hl
          rw [if_neg hn] at hl2
          have e1 : ((N - first : Nat) : Int) - ((min (N - first) sz : Nat) : Int) = ((N - (first + min (N - first) sz) : Nat) : Int) := by omega
          have e2 : ((i : Nat) : Int) + 1 = ((i + 1 : Nat) : Int) := by omega
          have em1 : (i + 1) * sz = i * sz + sz := Nat.succ_mul _ _
          have rl := rk_le sz an.1.rest.length
          refine ⟨d, first + min (N - first) sz, ⟨an.1, i + 1, an.2⟩, _, _, _, _, by rw [e1, e2], s03, ?_, ho, rfl, by omega, fun c => ?_, fun c => ?_, fa.mono (by omega) (by omega), by rw [e8]; exact hl2⟩
          · show BoxJ j H3 d an.1 (first + min (N - first) sz) false
            rw [← ho]
            exact hB3
          · rw [em1, f2 (by omega)]
            omega
          · show (i + 1) * sz + rk sz an.1.rest.length * sz ≤ N + 3 * sz
            rcases Nat.lt_or_ge first N with c2 | c2
            · have h2 : rk sz an.1.rest.length * sz ≤ 2 * sz := Nat.mul_le_mul_right _ rl
              have := f2 c2
              omega
            · have c3 : first = N := by omega
              rcases dn c3 ho with y | y
              · exact absurd ⟨by omega, y⟩ hn
              · have h2 : (rk sz an.1.rest.length + 1) * sz ≤ rk sz s'.x.rest.length * sz := Nat.mul_le_mul_right _ y
                rw [Nat.succ_mul] at h2
                have := f3 c3
                omega
        by_cases h0 : min (N - first) sz = 0
        · rw [decide_eq_true h0]
          refine iteT ⟨_, rfl, d, _, rfl, get_r hd3, _, rfl, b, _, rfl, get_r hd2, .list (intD an.1.rest), .list (intD s'.x.rest), .lst (SqL.of hr3) (dpI _), .lst (SqL.of hr2) (dpI _), intD_shaped _, intD_shaped _, _, rfl, ?_⟩
          rw [eqv_intL]
          by_cases h1 : an.1.rest = s'.x.rest
          · rw [decide_eq_true h1]
            rw [if_pos ⟨h0, h1⟩] at hl
            exact iteT (kQ.1 hl.symm _ s03)
          · rw [decide_eq_false h1]
            exact iteF ⟨_, rfl, go fun z => h1 z.2⟩
        · rw [decide_eq_false h0]
          exact iteF (iteF ⟨_, rfl, go fun z => h0 z.1⟩)
    · rintro σ H2 ⟨b, first, s', v7, v8, v9, v10, rfl, s2, hB, hst, hak, f1, f2, f3, fw, hl⟩
      rw [Nat.sub_self] at hl
      exact kQ.1 hl.symm _ s2
end
end My

/-! what pieces an exact run hands on: it hangs on the number of full pieces and on whether there is a part -/
namespace CoM
open PySem EM
def bl (sz q p b : Nat) : Nat := if b < q then sz else p
def blk (sz q p b : Nat) : List Int := itF (b * sz) (bl sz q p b)
def exb (sz q p : Nat) (bs : List Nat) : List Int := bs.flatMap (blk sz q p)
theorem exb_app (sz q p : Nat) (a b : List Nat) : exb sz q p (a ++ b) = exb sz q p a ++ exb sz q p b := List.flatMap_append ..
theorem exb_cons (sz q p : Nat) (b : Nat) (r : List Nat) : exb sz q p (b :: r) = blk sz q p b ++ exb sz q p r := List.flatMap_cons ..
theorem exb_nil (sz q p : Nat) : exb sz q p [] = [] := rfl
theorem exb_one (sz q p b : Nat) : exb sz q p [b] = blk sz q p b := by rw [exb_cons, exb_nil, List.append_nil]
theorem blk_len (sz q p b : Nat) : (blk sz q p b).length = bl sz q p b := itF_len _ _
theorem exb_full {sz q p : Nat} : ∀ {fs : List Nat}, (∀ b ∈ fs, b < q) → (exb sz q p fs).length = fs.length * sz
  | [], _ => by rw [exb_nil, List.length_nil, List.length_nil, Nat.zero_mul]
  | b :: r, h => by
    rw [exb_cons, List.length_append, exb_full (fun c m => h c (List.mem_cons_of_mem _ m)), blk_len, bl, if_pos (h b List.mem_cons_self), List.length_cons, Nat.succ_mul]
    omega
/-- the block is there -/
def Okb (q p b : Nat) : Prop := b < q ∨ b = q ∧ 0 < p
theorem bl_pos {sz q p b : Nat} (z : 1 ≤ sz) (h : Okb q p b) : 0 < bl sz q p b := by
  unfold bl
  rcases h with h | ⟨rfl, h⟩
  · rw [if_pos h]
    exact z
  · rw [if_neg (Nat.lt_irrefl _)]
    exact h
theorem bl_le {sz q p b : Nat} (hp : p < sz) : bl sz q p b ≤ sz := by
  unfold bl
  split <;> omega
/-- the first items of the blocks -/
def dec (sz : Nat) (xs : List Int) : List Int := (xs.filter fun x => decide (x % (sz : Int) = 0)).map fun x => x / (sz : Int)
theorem dec_itF {sz b : Nat} (z : 1 ≤ sz) : ∀ n, n + 1 ≤ sz → ((itF (b * sz) (n + 1)).filter fun x => decide (x % (sz : Int) = 0)) = [((b * sz : Nat) : Int)]
  | 0, _ => by
    have e : itF (b * sz) 1 = [((b * sz : Nat) : Int)] := by simp [itF]
    rw [e, List.filter_cons_of_pos (by rw [decide_eq_true_iff, ← Int.natCast_emod, Nat.mul_mod_left]; rfl), List.filter_nil]
  | n + 1, h => by
    have e : itF (b * sz) (n + 1 + 1) = itF (b * sz) (n + 1) ++ [((b * sz : Nat) : Int) + ((n + 1 : Nat) : Int)] := by rw [itF, List.range_succ, List.map_append]; rfl
    have m : (b * sz + (n + 1)) % sz = n + 1 := by rw [Nat.mul_comm, Nat.mul_add_mod, Nat.mod_eq_of_lt (by omega)]
    rw [e, List.filter_append, dec_itF z n (by omega), List.filter_cons_of_neg (by
      rw [decide_eq_true_iff, show ((b * sz : Nat) : Int) + ((n + 1 : Nat) : Int) = ((b * sz + (n + 1) : Nat) : Int) by omega, ← Int.natCast_emod, m]; omega), List.filter_nil, List.append_nil]
theorem dec_exb {sz q p : Nat} (z : 1 ≤ sz) (hp : p < sz) : ∀ {bs : List Nat}, (∀ b ∈ bs, Okb q p b) → dec sz (exb sz q p bs) = bs.map fun (b : Nat) => (b : Int)
  | [], _ => rfl
  | b :: r, h => by
    have ih := dec_exb z hp (bs := r) fun c m => h c (List.mem_cons_of_mem _ m)
    unfold dec at ih ⊢
    have l1 := bl_pos z (h b List.mem_cons_self)
    have l2 := bl_le (q := q) (b := b) hp
    obtain ⟨n, en⟩ : ∃ n, bl sz q p b = n + 1 := ⟨bl sz q p b - 1, by omega⟩
    rw [exb_cons, List.filter_append, List.map_append, ih, blk, en, dec_itF z n (by omega), List.map_cons, List.map_nil, List.map_cons]
    rw [Int.natCast_mul, Int.mul_ediv_cancel _ (by omega)]
    rfl
theorem map_cast_inj : ∀ {a b : List Nat}, (a.map fun (x : Nat) => (x : Int)) = (b.map fun (x : Nat) => (x : Int)) → a = b
  | [], [], _ => rfl
  | [], _ :: _, h => by cases h
  | _ :: _, [], h => by cases h
  | x :: a, y :: b, h => by
    rw [List.map_cons, List.map_cons] at h
    injection h with h1 h2
    rw [map_cast_inj h2, show x = y by omega]
theorem exb_inj {sz q p : Nat} (z : 1 ≤ sz) (hp : p < sz) {a b : List Nat} (ha : ∀ c ∈ a, Okb q p c) (hb : ∀ c ∈ b, Okb q p c) (h : exb sz q p a = exb sz q p b) : a = b := by
  have := congrArg (dec sz) h
  rw [dec_exb z hp ha, dec_exb z hp hb] at this
  exact map_cast_inj this
theorem exbs_inj {sz q p : Nat} (z : 1 ≤ sz) (hp : p < sz) : ∀ {a b : List (List Nat)}, (∀ l ∈ a, ∀ c ∈ l, Okb q p c) → (∀ l ∈ b, ∀ c ∈ l, Okb q p c) → a.map (exb sz q p) = b.map (exb sz q p) → a = b
  | [], [], _, _, _ => rfl
  | [], _ :: _, _, _, h => by cases h
  | _ :: _, [], _, _, h => by cases h
  | x :: a, y :: b, ha, hb, h => by
    rw [List.map_cons, List.map_cons] at h
    injection h with h1 h2
    rw [exbs_inj z hp (fun l m => ha l (List.mem_cons_of_mem _ m)) (fun l m => hb l (List.mem_cons_of_mem _ m)) h2, exb_inj z hp (ha x List.mem_cons_self) (hb y List.mem_cons_self) h1]
/-- the part behind the full blocks -/
def Okt (q p : Nat) (ts : List Nat) : Prop := ts = [] ∨ ts = [q] ∧ 0 < p
theorem okt_len {sz q p : Nat} {ts : List Nat} (h : Okt q p ts) : (exb sz q p ts).length = if ts = [] then 0 else p := by
  rcases h with rfl | ⟨rfl, _⟩
  · rfl
  · rw [exb_one, blk_len, bl, if_neg (Nat.lt_irrefl _), if_neg (by simp)]
theorem rest_len {sz q p : Nat} {fs ts : List Nat} (hf : ∀ b ∈ fs, b < q) (ht : Okt q p ts) : (exb sz q p (fs ++ ts)).length = fs.length * sz + if ts = [] then 0 else p := by
  rw [exb_app, List.length_append, exb_full hf, okt_len ht]
theorem rest_div {sz q p : Nat} (hp : p < sz) {fs ts : List Nat} (hf : ∀ b ∈ fs, b < q) (ht : Okt q p ts) : (exb sz q p (fs ++ ts)).length / sz = fs.length := by
  rw [rest_len hf ht, Nat.mul_comm, Nat.mul_add_div (by omega), Nat.div_eq_of_lt (by split <;> omega), Nat.add_zero]
theorem rest_drop {sz q p : Nat} {fs ts : List Nat} (hf : ∀ b ∈ fs, b < q) : (exb sz q p (fs ++ ts)).drop (fs.length * sz) = exb sz q p ts := by
  rw [exb_app, ← exb_full hf (p := p), List.drop_left]
theorem cutN_cons {sz n : Nat} {a r : List Int} (h : a.length = sz) : cutN sz (a ++ r) (n + 1) = a :: cutN sz r n := by
  unfold cutN
  rw [List.range_succ_eq_map, List.map_cons, List.map_map]
  congr 1
  · rw [Nat.zero_mul, List.drop_zero, ← h, List.take_left]
  · refine List.map_congr_left fun k _ => ?_
    show ((a ++ r).drop ((k + 1) * sz)).take sz = (r.drop (k * sz)).take sz
    rw [show (k + 1) * sz = a.length + k * sz by rw [Nat.succ_mul, h]; omega, List.drop_length_add_append]
theorem rest_cut {sz q p : Nat} (ts : List Nat) : ∀ {fs : List Nat}, (∀ b ∈ fs, b < q) → cutN sz (exb sz q p (fs ++ ts)) fs.length = (fs.map fun b => [b]).map (exb sz q p)
  | [], _ => rfl
  | b :: r, h => by
    rw [List.cons_append, exb_cons, List.length_cons, cutN_cons (by rw [blk_len, bl, if_pos (h b List.mem_cons_self)]), rest_cut ts fun c m => h c (List.mem_cons_of_mem _ m), List.map_cons, List.map_cons, exb_one]
/-- two runs with the same blocks -/
structure Two (sz p sz' p' q : Nat) (x x' : RP) (fs ts : List Nat) (ps : List (List Nat)) : Prop where
  r1 : x.rest = exb sz q p (fs ++ ts)
  r2 : x'.rest = exb sz' q p' (fs ++ ts)
  p1 : x.pieces = ps.map (exb sz q p)
  p2 : x'.pieces = ps.map (exb sz' q p')
  okf : ∀ b ∈ fs, b < q
  okt : Okt q p ts
  okp : ∀ l ∈ ps, ∀ b ∈ l, Okb q p b
/-- what comes in a reply -/
def Okh (q p : Nat) (hb : List Nat) : Prop := hb = [] ∨ (∃ i, i < q ∧ hb = [i]) ∨ hb = [q] ∧ 0 < p
theorem okh_ok {q p : Nat} {hb : List Nat} (h : Okh q p hb) : ∀ b ∈ hb, Okb q p b := by
  rcases h with rfl | ⟨i, hi, rfl⟩ | ⟨rfl, hp⟩
  · intro b m; cases m
  · intro b m
    rw [List.mem_singleton.mp m]
    exact .inl hi
  · intro b m
    rw [List.mem_singleton.mp m]
    exact .inr ⟨rfl, hp⟩
theorem okt_iff {q p p' : Nat} (e : 0 < p ↔ 0 < p') {ts : List Nat} (h : Okt q p ts) : Okt q p' ts := by
  rcases h with h | ⟨h, c⟩
  · exact .inl h
  · exact .inr ⟨h, e.mp c⟩
theorem okb_iff {q p p' : Nat} (e : 0 < p ↔ 0 < p') {b : Nat} (h : Okb q p b) : Okb q p' b := by
  rcases h with h | ⟨h, c⟩
  · exact .inl h
  · exact .inr ⟨h, e.mp c⟩
theorem exb_pos {sz q p : Nat} (z : 1 ≤ sz) : ∀ {bs : List Nat}, (∀ b ∈ bs, Okb q p b) → (0 < (exb sz q p bs).length ↔ bs ≠ [])
  | [], _ => ⟨fun h => absurd h (Nat.lt_irrefl 0), fun h => absurd rfl h⟩
  | b :: r, h => by
    rw [exb_cons, List.length_append, blk_len]
    have := bl_pos z (h b List.mem_cons_self)
    exact ⟨fun _ => by simp, fun _ => by omega⟩
theorem held_lt {sz q p : Nat} (z : 1 ≤ sz) (hp : p < sz) {hb : List Nat} (h : Okh q p hb) : (exb sz q p hb).length < sz ↔ ¬ ∃ i, i < q ∧ hb = [i] := by
  rcases h with rfl | ⟨i, hi, rfl⟩ | ⟨rfl, c⟩
  · rw [exb_nil]
    exact ⟨fun _ ⟨i, _, e⟩ => (by cases e), fun _ => z⟩
  · rw [exb_one, blk_len, bl, if_pos hi]
    exact ⟨fun c => absurd c (Nat.lt_irrefl _), fun c => absurd ⟨i, hi, rfl⟩ c⟩
  · rw [exb_one, blk_len, bl, if_neg (Nat.lt_irrefl _)]
    exact ⟨fun _ ⟨i, hi, e⟩ => by injection e with e; omega, fun _ => hp⟩
section
variable {sz p sz' p' q : Nat} (z : 1 ≤ sz) (z' : 1 ≤ sz') (hp : p < sz) (hp' : p' < sz') (e : 0 < p ↔ 0 < p')
include z z' hp hp' e
theorem two_pass {x x' : RP} {fs ts hb : List Nat} {ps : List (List Nat)} (T : Two sz p sz' p' q x x' fs ts ps) (hh : Okh q p hb) (told : Bool) (t : Str) :
    passM sz (exb sz q p hb) told t x.rest = passM sz' (exb sz' q p' hb) told t x'.rest := by
  have ok : ∀ b ∈ fs ++ ts, Okb q p b := fun b m => by
    rcases List.mem_append.mp m with m | m
    · exact .inl (T.okf b m)
    · rcases T.okt with y | ⟨y, c⟩
      · rw [y] at m; cases m
      · rw [y] at m
        rw [List.mem_singleton.mp m]
        exact .inr ⟨rfl, c⟩
  have hh' : Okh q p' hb := by
    rcases hh with h | h | ⟨h, c⟩
    · exact .inl h
    · exact .inr (.inl h)
    · exact .inr (.inr ⟨h, e.mp c⟩)
  unfold passM
  rw [T.r1, T.r2, decide_eq_decide.mpr ((exb_pos z ok).trans (exb_pos z' fun b m => okb_iff e (ok b m)).symm),
    decide_eq_decide.mpr ((exb_pos z (okh_ok hh)).trans (exb_pos z' (okh_ok hh')).symm),
    decide_eq_decide.mpr ((held_lt z hp hh).trans (held_lt z' hp' hh').symm)]
theorem two_perf {x x' : RP} {fs ts hb : List Nat} {ps : List (List Nat)} (T : Two sz p sz' p' q x x' fs ts ps) (hh : Okh q p hb) (s : Str) (c : s = "add" → hb ≠ [] → ts = []) :
    ∃ fs' ts' ps', Two sz p sz' p' q (perfM sz (exb sz q p hb) s x) (perfM sz' (exb sz' q p' hb) s x') fs' ts' ps' ∧ (ts' ≠ [] → ts ≠ [] ∨ hb = [q]) ∧ (s ≠ "add" → ts' ≠ [] → ts ≠ []) := by
  unfold perfM
  by_cases h1 : s = "add"
  · rw [if_pos h1, if_pos h1]
    rcases hh with rfl | ⟨i, hi, rfl⟩ | ⟨rfl, hq⟩
    · exact ⟨fs, ts, ps, ⟨by rw [T.r1, exb_nil, List.append_nil], by rw [T.r2, exb_nil, List.append_nil], T.p1, T.p2, T.okf, T.okt, T.okp⟩, .inl, fun y => absurd h1 y⟩
    · have := c h1 (by simp)
      subst this
      refine ⟨fs ++ [i], [], ps, ⟨?_, ?_, T.p1, T.p2, fun b m => ?_, .inl rfl, T.okp⟩, fun y => absurd rfl y, fun y => absurd h1 y⟩
      · rw [T.r1, List.append_nil, List.append_nil, exb_app]
      · rw [T.r2, List.append_nil, List.append_nil, exb_app]
      · rcases List.mem_append.mp m with m | m
        · exact T.okf b m
        · rw [List.mem_singleton.mp m]
          exact hi
    · have := c h1 (by simp)
      subst this
      refine ⟨fs, [q], ps, ⟨?_, ?_, T.p1, T.p2, T.okf, .inr ⟨rfl, hq⟩, T.okp⟩, fun _ => .inr rfl, fun y => absurd h1 y⟩
      · rw [T.r1, List.append_nil, exb_app]
      · rw [T.r2, List.append_nil, exb_app]
  rw [if_neg h1, if_neg h1]
  have okl : ∀ (l : List Nat), (∀ b ∈ l, Okb q p b) → ∀ m ∈ ps ++ [l], ∀ b ∈ m, Okb q p b := fun l hl m hm b hb => by
    rcases List.mem_append.mp hm with hm | hm
    · exact T.okp m hm b hb
    · rw [List.mem_singleton.mp hm] at hb
      exact hl b hb
  by_cases h2 : s = "hand"
  · rw [if_pos h2, if_pos h2]
    exact ⟨fs, ts, ps ++ [hb], ⟨T.r1, T.r2, by rw [T.p1, List.map_append, List.map_cons, List.map_nil], by rw [T.p2, List.map_append, List.map_cons, List.map_nil], T.okf, T.okt, okl hb (okh_ok hh)⟩, .inl, fun _ y => y⟩
  rw [if_neg h2, if_neg h2]
  by_cases h3 : s = "cut"
  · rw [if_pos h3, if_pos h3]
    have d1 := rest_div hp T.okf T.okt
    have d2 := rest_div hp' T.okf (okt_iff e T.okt)
    refine ⟨[], ts, ps ++ (fs.map fun b => [b]), ⟨?_, ?_, ?_, ?_, (fun _ m => by cases m), T.okt, fun m hm b hb => ?_⟩, .inl, fun _ y => y⟩
    · rw [T.r1, d1, rest_drop T.okf, List.nil_append]
    · rw [T.r2, d2, rest_drop T.okf, List.nil_append]
    · rw [T.r1, d1, T.p1, rest_cut ts T.okf, List.map_append]
    · rw [T.r2, d2, T.p2, rest_cut ts T.okf, List.map_append]
    · rcases List.mem_append.mp hm with hm | hm
      · exact T.okp m hm b hb
      · obtain ⟨b', hb', rfl⟩ := List.mem_map.mp hm
        rw [List.mem_singleton.mp hb]
        exact .inl (T.okf b' hb')
  rw [if_neg h3, if_neg h3]
  by_cases h4 : s = "flush"
  · rw [if_pos h4, if_pos h4]
    refine ⟨[], [], ps ++ [fs ++ ts], ⟨rfl, rfl, by rw [T.p1, T.r1, List.map_append, List.map_cons, List.map_nil], by rw [T.p2, T.r2, List.map_append, List.map_cons, List.map_nil], (fun _ m => by cases m), .inl rfl, okl _ fun b m => ?_⟩, fun y => absurd rfl y, fun _ y => absurd rfl y⟩
    rcases List.mem_append.mp m with m | m
    · exact .inl (T.okf b m)
    · rcases T.okt with y | ⟨y, c⟩
      · rw [y] at m; cases m
      · rw [y] at m
        rw [List.mem_singleton.mp m]
        exact .inr ⟨rfl, c⟩
  · rw [if_neg h4, if_neg h4]
    exact ⟨fs, ts, ps, T, .inl, fun _ y => y⟩
theorem two_run {hb : List Nat} (hh : Okh q p hb) (told : Bool) : ∀ (ws : List (Str × Str)) (x x' : RP) (fs ts : List Nat) (ps : List (List Nat)), Two sz p sz' p' q x x' fs ts ps → adds ws ≤ 1 → (hb ≠ [] → adds ws ≠ 0 → ts = []) →
    (runW sz (exb sz q p hb) told ws x).2 = (runW sz' (exb sz' q p' hb) told ws x').2 ∧ ∃ fs' ts' ps', Two sz p sz' p' q (runW sz (exb sz q p hb) told ws x).1 (runW sz' (exb sz' q p' hb) told ws x').1 fs' ts' ps' ∧ (ts' ≠ [] → ts ≠ [] ∨ hb = [q])
  | [], x, x', fs, ts, ps, T, _, _ => ⟨rfl, fs, ts, ps, T, .inl⟩
  | (t, s) :: r, x, x', fs, ts, ps, T, ha, hc => by
    rw [show runW sz (exb sz q p hb) told ((t, s) :: r) x = if passM sz (exb sz q p hb) told t x.rest = true then (if s = "again" then (x, false) else if s = "stop" then (x, true) else runW sz (exb sz q p hb) told r (perfM sz (exb sz q p hb) s x)) else runW sz (exb sz q p hb) told r x from rfl,
      show runW sz' (exb sz' q p' hb) told ((t, s) :: r) x' = if passM sz' (exb sz' q p' hb) told t x'.rest = true then (if s = "again" then (x', false) else if s = "stop" then (x', true) else runW sz' (exb sz' q p' hb) told r (perfM sz' (exb sz' q p' hb) s x')) else runW sz' (exb sz' q p' hb) told r x' from rfl,
      ← two_pass z z' hp hp' e T hh told t]
    have ea : adds ((t, s) :: r) = isA s + adds r := rfl
    rw [ea] at ha hc
    split
    · split
      · exact ⟨rfl, fs, ts, ps, T, .inl⟩
      split
      · exact ⟨rfl, fs, ts, ps, T, .inl⟩
      · obtain ⟨fs1, ts1, ps1, T1, u1, u2⟩ := two_perf z z' hp hp' e T hh s fun h1 h2 => hc h2 (by rw [isA, if_pos h1]; omega)
        obtain ⟨g, fs2, ts2, ps2, T2, w1⟩ := two_run hh told r _ _ fs1 ts1 ps1 T1 (by omega) fun h1 h2 => by
          by_cases hs : s = "add"
          · rw [isA, if_pos hs] at ha
            omega
          · by_cases y : ts1 = []
            · exact y
            · exact absurd (hc h1 (by omega)) (u2 hs y)
        exact ⟨g, fs2, ts2, ps2, T2, fun y => (w1 y).elim u1 .inr⟩
    · exact two_run hh told r x x' fs ts ps T (by omega) fun h1 h2 => hc h1 (by omega)
theorem two_end {hb : List Nat} (hh : Okh q p hb) (told : Bool) : ∀ (ws : List (Str × Str)) (x x' : RP) (fs ts : List Nat) (ps : List (List Nat)), Two sz p sz' p' q x x' fs ts ps → adds ws = 0 →
    ∃ fs' ts' ps', Two sz p sz' p' q (endW sz (exb sz q p hb) told ws x) (endW sz' (exb sz' q p' hb) told ws x') fs' ts' ps' ∧ (ts' ≠ [] → ts ≠ [])
  | [], x, x', fs, ts, ps, T, _ => ⟨fs, ts, ps, T, id⟩
  | (t, s) :: r, x, x', fs, ts, ps, T, ha => by
    have ea : adds ((t, s) :: r) = isA s + adds r := rfl
    rw [ea] at ha
    have hs : s ≠ "add" := fun h => by rw [isA, if_pos h] at ha; omega
    show ∃ fs' ts' ps', Two sz p sz' p' q (endW sz (exb sz q p hb) told r (if passM sz (exb sz q p hb) told t x.rest = true then perfM sz (exb sz q p hb) s x else x)) (endW sz' (exb sz' q p' hb) told r (if passM sz' (exb sz' q p' hb) told t x'.rest = true then perfM sz' (exb sz' q p' hb) s x' else x')) fs' ts' ps' ∧ _
    rw [← two_pass z z' hp hp' e T hh told t]
    split
    · obtain ⟨fs1, ts1, ps1, T1, u1, u2⟩ := two_perf z z' hp hp' e T hh s fun h1 => absurd h1 hs
      obtain ⟨fs2, ts2, ps2, T2, w1⟩ := two_end hh told r _ _ fs1 ts1 ps1 T1 (by omega)
      exact ⟨fs2, ts2, ps2, T2, fun y => u2 hs (w1 y)⟩
    · exact two_end hh told r x x' fs ts ps T (by omega)
theorem two_ans {ro eo : List (Str × Str)} (hr : adds ro ≤ 1) (he : adds eo = 0) {hb : List Nat} (hh : Okh q p hb) (told : Bool) {x x' : RP} {fs ts : List Nat} {ps : List (List Nat)} (T : Two sz p sz' p' q x x' fs ts ps) (hc : hb ≠ [] → ts = []) :
    (ansM sz ro eo (exb sz q p hb) told x).2 = (ansM sz' ro eo (exb sz' q p' hb) told x').2 ∧ ∃ fs' ts' ps', Two sz p sz' p' q (ansM sz ro eo (exb sz q p hb) told x).1 (ansM sz' ro eo (exb sz' q p' hb) told x').1 fs' ts' ps' ∧ (ts' ≠ [] → ts ≠ [] ∨ hb = [q]) := by
  obtain ⟨g, fs1, ts1, ps1, T1, u1⟩ := two_run z z' hp hp' e hh told ro x x' fs ts ps T hr fun h _ => hc h
  unfold ansM
  rw [← g]
  split
  · obtain ⟨fs2, ts2, ps2, T2, w1⟩ := two_end z z' hp hp' e hh told eo _ _ fs1 ts1 ps1 T1 he
    exact ⟨rfl, fs2, ts2, ps2, T2, fun y => u1 (w1 y)⟩
  · exact ⟨rfl, fs1, ts1, ps1, T1, u1⟩
/-- two loops at work with the same blocks -/
def TwS (sz p sz' p' q : Nat) (s s' : WS) (fs ts : List Nat) (ps : List (List Nat)) : Prop := Two sz p sz' p' q s.x s'.x fs ts ps ∧ s.ak = s'.ak ∧ s.st = s'.st
theorem tw_ans {ro eo : List (Str × Str)} (hr : adds ro ≤ 1) (he : adds eo = 0) {hb : List Nat} (hh : Okh q p hb) (told : Bool) {s s' : WS} {fs ts : List Nat} {ps : List (List Nat)} (T : TwS sz p sz' p' q s s' fs ts ps) (hc : hb ≠ [] → ts = []) :
    ∃ fs' ts' ps', TwS sz p sz' p' q (ansS sz ro eo (exb sz q p hb) told s) (ansS sz' ro eo (exb sz' q p' hb) told s') fs' ts' ps' ∧ (ts' ≠ [] → ts ≠ [] ∨ hb = [q]) := by
  obtain ⟨g, fs1, ts1, ps1, T1, u1⟩ := two_ans z z' hp hp' e hr he hh told T.1 hc
  exact ⟨fs1, ts1, ps1, ⟨T1, by show s.ak + 1 = s'.ak + 1; rw [T.2.1], g⟩, u1⟩
theorem len_iff {fs ts gs us : List Nat} (hf : ∀ b ∈ fs, b < q) (ht : Okt q p ts) (hg : ∀ b ∈ gs, b < q) (hu : Okt q p us) : (exb sz q p (fs ++ ts)).length = (exb sz q p (gs ++ us)).length ↔ (exb sz' q p' (fs ++ ts)).length = (exb sz' q p' (gs ++ us)).length := by
  have key : ∀ {sz p : Nat}, p < sz → Okt q p ts → Okt q p us → ((exb sz q p (fs ++ ts)).length = (exb sz q p (gs ++ us)).length ↔ fs.length = gs.length ∧ (ts = [] ↔ us = [])) := fun {sz p} hp ht hu => by
    constructor
    · intro h
      have d := congrArg (· / sz) h
      simp only [rest_div hp hf ht, rest_div hp hg hu] at d
      rw [rest_len hf ht, rest_len hg hu, d] at h
      refine ⟨d, ?_⟩
      rcases ht with a | ⟨a, c⟩ <;> rcases hu with b | ⟨b, c'⟩
      · rw [a, b]
      · rw [a, b, if_pos rfl, if_neg (by simp)] at h
        omega
      · rw [a, b, if_pos rfl, if_neg (by simp)] at h
        omega
      · rw [a, b]
    · rintro ⟨d, i⟩
      rw [rest_len hf ht, rest_len hg hu, d]
      by_cases c : ts = []
      · rw [if_pos c, if_pos (i.mp c)]
      · rw [if_neg c, if_neg fun y => c (i.mpr y)]
  exact (key hp ht hu).trans (key hp' (okt_iff e ht) (okt_iff e hu)).symm
theorem tw_no {ro eo : List (Str × Str)} (hr : adds ro ≤ 1) (he : adds eo = 0) (told : Bool) : ∀ (k : Nat) (m m' : Option Nat) (s s' : WS) (fs ts : List Nat) (ps : List (List Nat)), TwS sz p sz' p' q s s' fs ts ps →
    ((m = none ∧ m' = none) ∨ ∃ gs us : List Nat, (∀ b ∈ gs, b < q) ∧ Okt q p us ∧ m = some (exb sz q p (gs ++ us)).length ∧ m' = some (exb sz' q p' (gs ++ us)).length) →
    ∃ fs' ts' ps', TwS sz p sz' p' q (noS sz ro eo told k m s) (noS sz' ro eo told k m' s') fs' ts' ps'
  | 0, _, _, s, s', fs, ts, ps, T, _ => ⟨fs, ts, ps, T⟩
  | k + 1, m, m', s, s', fs, ts, ps, T, hm => by
    have im : (some s.x.rest.length = m) ↔ (some s'.x.rest.length = m') := by
      rw [T.1.r1, T.1.r2]
      rcases hm with ⟨rfl, rfl⟩ | ⟨gs, us, hg, hu, rfl, rfl⟩
      · exact ⟨fun y => (by cases y), fun y => (by cases y)⟩
      · rw [Option.some_inj, Option.some_inj]
        exact len_iff z z' hp hp' e T.1.okf T.1.okt hg hu
    show ∃ fs' ts' ps', TwS sz p sz' p' q (if s.st = true then s else if some s.x.rest.length = m then s else noS sz ro eo told k (some s.x.rest.length) (ansS sz ro eo [] told s)) (if s'.st = true then s' else if some s'.x.rest.length = m' then s' else noS sz' ro eo told k (some s'.x.rest.length) (ansS sz' ro eo [] told s')) fs' ts' ps'
    rw [← T.2.2]
    split
    · exact ⟨fs, ts, ps, T⟩
    by_cases c : some s.x.rest.length = m
    · rw [if_pos c, if_pos (im.mp c)]
      exact ⟨fs, ts, ps, T⟩
    · rw [if_neg c, if_neg fun y => c (im.mpr y)]
      obtain ⟨fs1, ts1, ps1, T1, _⟩ := tw_ans z z' hp hp' e hr he (hb := []) (.inl rfl) told T fun y => absurd rfl y
      exact tw_no hr he told k _ _ _ _ fs1 ts1 ps1 T1 (.inr ⟨fs, ts, T.1.okf, T.1.okt, by rw [T.1.r1], by rw [T.1.r2]⟩)
theorem tw_ex {ro eo : List (Str × Str)} (hr : adds ro ≤ 1) (he : adds eo = 0) (E : Str) : ∀ (j i k k' : Nat) (s s' : WS) (fs : List Nat) (ps : List (List Nat)), i + j = q → j + 1 ≤ k → j + 1 ≤ k' → TwS sz p sz' p' q s s' fs [] ps →
    ∃ fs' ts' ps', TwS sz p sz' p' q (exS sz ro eo E (q * sz + p) k (i * sz) s) (exS sz' ro eo E (q * sz' + p') k' (i * sz') s') fs' ts' ps'
  | 0, i, k, k', s, s', fs, ps, hi, hk, hk', T => by
    have hi : i = q := by omega
    subst hi
    obtain ⟨k, rfl⟩ : ∃ n, k = n + 1 := ⟨k - 1, by omega⟩
    obtain ⟨k', rfl⟩ : ∃ n, k' = n + 1 := ⟨k' - 1, by omega⟩
    have step : ∀ {sz p k : Nat} {s : WS}, 0 < p → p < sz → s.st = false → exS sz ro eo E (i * sz + p) (k + 1) (i * sz) s = ansS sz ro eo (exb sz i p [i]) (tell E p 0) s := fun {sz p k s} h0 h1 hs => by
      show (if i * sz < i * sz + p ∧ s.st = false then exS sz ro eo E (i * sz + p) k (min (i * sz + sz) (i * sz + p)) (ansS sz ro eo (itF (i * sz) (min (i * sz + sz) (i * sz + p) - i * sz)) (tell E (i * sz + p - i * sz) (i * sz + p - min (i * sz + sz) (i * sz + p))) s) else s) = _
      rw [if_pos ⟨by omega, hs⟩, show min (i * sz + sz) (i * sz + p) = i * sz + p by omega, ex_end, Nat.sub_self, show i * sz + p - i * sz = p by omega, exb_one, blk, bl, if_neg (Nat.lt_irrefl _)]
    by_cases hs : s.st = true
    · rw [ex_stop _ _ _ _ _ _ _ _ hs, ex_stop _ _ _ _ _ _ _ _ (T.2.2 ▸ hs)]
      exact ⟨fs, [], ps, T⟩
    have hs : s.st = false := by simpa using hs
    by_cases h0 : 0 < p
    · rw [step h0 hp hs, step (e.mp h0) hp' (T.2.2 ▸ hs)]
      have et : tell E p 0 = tell E p' 0 := by
        unfold tell
        have := e.mp h0
        split
        · rfl
        split
        · exact decide_eq_decide.mpr (by omega)
        · rfl
      rw [et]
      obtain ⟨fs1, ts1, ps1, T1, _⟩ := tw_ans z z' hp hp' e hr he (hb := [i]) (.inr (.inr ⟨rfl, h0⟩)) (tell E p' 0) T fun _ => rfl
      exact ⟨fs1, ts1, ps1, T1⟩
    · have p0 : p = 0 := by omega
      have p0' : p' = 0 := by omega
      subst p0
      subst p0'
      rw [show i * sz + 0 = i * sz from rfl, show i * sz' + 0 = i * sz' from rfl, ex_end, ex_end]
      exact ⟨fs, [], ps, T⟩
  | j + 1, i, k, k', s, s', fs, ps, hi, hk, hk', T => by
    obtain ⟨k, rfl⟩ : ∃ n, k = n + 1 := ⟨k - 1, by omega⟩
    obtain ⟨k', rfl⟩ : ∃ n, k' = n + 1 := ⟨k' - 1, by omega⟩
    have lt : ∀ sz, (i + 1) * sz ≤ q * sz := fun sz => Nat.mul_le_mul_right _ (by omega)
    have step : ∀ {sz p k : Nat} {s : WS}, 1 ≤ sz → s.st = false → exS sz ro eo E (q * sz + p) (k + 1) (i * sz) s = exS sz ro eo E (q * sz + p) k ((i + 1) * sz) (ansS sz ro eo (exb sz q p [i]) (tell E (q * sz + p - i * sz) (q * sz + p - (i + 1) * sz)) s) := fun {sz p k s} h1 hs => by
      have l := lt sz
      have m : (i + 1) * sz = i * sz + sz := Nat.succ_mul _ _
      show (if i * sz < q * sz + p ∧ s.st = false then exS sz ro eo E (q * sz + p) k (min (i * sz + sz) (q * sz + p)) (ansS sz ro eo (itF (i * sz) (min (i * sz + sz) (q * sz + p) - i * sz)) (tell E (q * sz + p - i * sz) (q * sz + p - min (i * sz + sz) (q * sz + p))) s) else s) = _
      rw [if_pos ⟨by omega, hs⟩, show min (i * sz + sz) (q * sz + p) = (i + 1) * sz by omega, exb_one, blk, bl, if_pos (by omega), show (i + 1) * sz - i * sz = sz by omega]
    by_cases hs : s.st = true
    · rw [ex_stop _ _ _ _ _ _ _ _ hs, ex_stop _ _ _ _ _ _ _ _ (T.2.2 ▸ hs)]
      exact ⟨fs, [], ps, T⟩
    have hs : s.st = false := by simpa using hs
    rw [step z hs, step z' (T.2.2 ▸ hs)]
    have et : tell E (q * sz + p - i * sz) (q * sz + p - (i + 1) * sz) = tell E (q * sz' + p' - i * sz') (q * sz' + p' - (i + 1) * sz') := by
      have l := lt sz
      have l' := lt sz'
      have m : (i + 1) * sz = i * sz + sz := Nat.succ_mul _ _
      have m' : (i + 1) * sz' = i * sz' + sz' := Nat.succ_mul _ _
      unfold tell
      split
      · rfl
      split
      · exact decide_eq_decide.mpr (by omega)
      · refine decide_eq_decide.mpr ?_
        have key : ∀ {sz p : Nat}, 1 ≤ sz → (q * sz + p - (i + 1) * sz = 0 ↔ i + 1 = q ∧ p = 0) := fun {sz p} z => by
          have l := lt sz
          constructor
          · intro y
            have : q * sz ≤ (i + 1) * sz := by omega
            have := Nat.le_of_mul_le_mul_right this (by omega)
            exact ⟨by omega, by omega⟩
          · rintro ⟨y, rfl⟩
            rw [y]
            omega
        rw [key z, key z']
        omega
    rw [et]
    obtain ⟨fs1, ts1, ps1, T1, u1⟩ := tw_ans z z' hp hp' e hr he (hb := [i]) (.inr (.inl ⟨i, by omega, rfl⟩)) (tell E (q * sz' + p' - i * sz') (q * sz' + p' - (i + 1) * sz')) T fun _ => rfl
    have : ts1 = [] := by
      by_cases y : ts1 = []
      · exact y
      · rcases u1 y with w | w
        · exact absurd rfl w
        · injection w with w
          omega
    subst this
    exact tw_ex hr he E j (i + 1) k k' _ _ fs1 ps1 (by omega) (by omega) (by omega) T1
theorem two_wk {ro eo : List (Str × Str)} (hr : adds ro ≤ 1) (he : adds eo = 0) (E : Str) : ∃ fs ts ps, TwS sz p sz' p' q (wkS sz ro eo E (q * sz + p)) (wkS sz' ro eo E (q * sz' + p')) fs ts ps := by
  have le : ∀ {sz p : Nat}, 1 ≤ sz → q ≤ q * sz + p := fun {sz p} z => Nat.le_trans (Nat.le_mul_of_pos_right q z) (Nat.le_add_right _ _)
  have l := le (p := p) z
  have l' := le (p := p') z'
  have T0 : TwS sz p sz' p' q ⟨⟨[], []⟩, 0, false⟩ ⟨⟨[], []⟩, 0, false⟩ [] [] [] := ⟨⟨rfl, rfl, rfl, rfl, (fun _ m => by cases m), .inl rfl, (fun _ m => by cases m)⟩, rfl, rfl⟩
  obtain ⟨fs, ts, ps, T⟩ := tw_ex z z' hp hp' e hr he E q 0 (q * sz + p + 1) (q * sz' + p' + 1) _ _ [] [] (by omega) (by omega) (by omega) T0
  rw [Nat.zero_mul, Nat.zero_mul] at T
  unfold wkS
  exact tw_no z z' hp hp' e hr he (tl E) 4 none none _ _ fs ts ps T (.inl ⟨rfl, rfl⟩)
end
/-- the pieces of a run that stops -/
def pcs (s : WS) : Option (List (List Int)) := if s.st = true then some s.x.pieces else none
/-- whether two loops are unlike -/
def unl (roA eoA roB eoB : List (Str × Str)) (E : Str) (N sz : Nat) : Bool := decide (pcs (wkS sz roA eoA E N) ≠ pcs (wkS sz roB eoB E N))
theorem unl_shape {roA eoA roB eoB : List (Str × Str)} (a1 : adds roA ≤ 1) (a2 : adds eoA = 0) (b1 : adds roB ≤ 1) (b2 : adds eoB = 0) (E : Str) {N N' sz sz' : Nat} (z : 1 ≤ sz) (z' : 1 ≤ sz') (hq : N / sz = N' / sz') (hr : N % sz = 0 ↔ N' % sz' = 0) :
    unl roA eoA roB eoB E N sz = unl roA eoA roB eoB E N' sz' := by
  have eN : N / sz * sz + N % sz = N := by rw [Nat.mul_comm]; exact Nat.div_add_mod N sz
  have eN' : N / sz * sz' + N' % sz' = N' := by rw [hq, Nat.mul_comm]; exact Nat.div_add_mod N' sz'
  have hp := Nat.mod_lt N z
  have hp' := Nat.mod_lt N' z'
  have e : 0 < N % sz ↔ 0 < N' % sz' := by omega
  obtain ⟨_, _, pa, TA, _, sA⟩ := two_wk (q := N / sz) z z' hp hp' e a1 a2 E
  obtain ⟨_, _, pb, TB, _, sB⟩ := two_wk (q := N / sz) z z' hp hp' e b1 b2 E
  rw [eN, eN'] at TA sA TB sB
  unfold unl pcs
  rw [TA.p1, TA.p2, TB.p1, TB.p2, ← sA, ← sB]
  refine decide_eq_decide.mpr (not_congr ?_)
  split <;> split
  · rw [Option.some_inj, Option.some_inj]
    constructor
    · intro h
      rw [exbs_inj z hp TA.okp TB.okp h]
    · intro h
      rw [exbs_inj z' hp' (fun l m c hc => okb_iff e (TA.okp l m c hc)) (fun l m c hc => okb_iff e (TB.okp l m c hc)) h]
  · exact ⟨fun y => (by cases y), fun y => (by cases y)⟩
  · exact ⟨fun y => (by cases y), fun y => (by cases y)⟩
  · exact ⟨fun _ => rfl, fun _ => rfl⟩
end CoM

/-! a loop with one word less or more; whether two loops differ by the law's own runs -/
namespace My
open PySem L2 Cm LM EM CoM
theorem one_addB {B : List Str} (h : isRound B = true) : adds (ords B) ≤ 1 := by
  unfold ords
  rw [adds_leB]
  exact round_adds h
where adds_leB : ∀ B : List Str, adds (B.map orderOf) = (B.filter isAdd).length
  | [] => rfl
  | b :: r => by
    show isA (orderOf b).2 + adds (r.map orderOf) = _
    rw [adds_leB r]
    by_cases h : (orderOf b).2 = "add"
    · have : isAdd b = true := decide_eq_true h
      rw [List.filter_cons_of_pos this, List.length_cons, isA, if_pos h]
      omega
    · have : ¬ isAdd b = true := fun z => h (of_decide_eq_true z)
      rw [List.filter_cons_of_neg this, isA, if_neg h]
      omega
theorem no_addE {E : List Str} (h : isEnding E = true) : adds (ords E) = 0 := by
  unfold ords
  rw [one_addB.adds_leB]
  have : ∀ w ∈ E, Wd plain5 w := fun w hw => (word_wd ((isEnding_iff.mp h).2 w hw)).mono (by decide +kernel)
  exact none_filter this
theorem sl_fromS {K : PySem.W.Frag} {Q : VK} {H : Hp} {l : Addr} {ws : List Str} {n : Int} {k : Nat} (hl : H l = some (.lst (svs ws))) (e : n = (k : Nat)) (h : ∀ z, H z = none → ∀ H', Same H H' → H' z = some (.lst (svs (ws.drop k))) → Q (.ref z) H') : rSlL K (.ref l) (some n) none H Q := by
  refine ⟨l, _, rfl, SqL.of hl, fun z nz => ?_⟩
  rw [e, cut_from, svs_drop]
  exact h z nz _ (same_new nz) upd_same
theorem sl_toS {K : PySem.W.Frag} {Q : VK} {H : Hp} {l : Addr} {ws : List Str} {n : Int} {k : Nat} (hl : H l = some (.lst (svs ws))) (e : n = (k : Nat)) (h : ∀ z, H z = none → ∀ H', Same H H' → H' z = some (.lst (svs (ws.take k))) → Q (.ref z) H') : rSlL K (.ref l) none (some n) H Q := by
  refine ⟨l, _, rfl, SqL.of hl, fun z nz => ?_⟩
  have : cutV (svs ws) none (some n) = svs (ws.take k) := by
    rw [e]
    unfold cutV
    rw [HT.sIx_none, HT.sIx_nat, svs_len', List.drop_zero, Nat.sub_zero, svs_take]
    by_cases hk : k ≤ ws.length
    · rw [Nat.min_eq_left hk]
    · rw [Nat.min_eq_right (by omega), List.take_length, List.take_of_length_le (by omega)]
  rw [this]
  exact h z nz _ (same_new nz) upd_same
theorem nop {σ : L2.St} {H : Hp} {Q : Option Int → Hp → Prop} (h : Q none H) : tNoPart σ H Q := h
theorem rcat_s {Q : VK} {H : Hp} {p r : Addr} {A B : List Str} (hp : H p = some (.lst (svs A))) (hr : H r = some (.lst (svs B))) (hl : A.length + B.length ≤ 1000) (k : ∀ z, H z = none → ∀ H', Same H H' → H' z = some (.lst (svs (A ++ B))) → Q (.ref z) H') : rCat (.ref p) (.ref r) H Q :=
  ⟨p, r, _, _, rfl, rfl, hp, hr, by rw [svs_len', svs_len']; exact szl hl, fun z nz => by rw [svs_app]; exact k z nz _ (same_new nz) upd_same⟩
structure TxNr (K : PySem.W.Frag) (mg : Str → Option Value) where
  R : TxBr K mg
end My

/-! the search for faults: its states, its moves, what it finds -/
namespace SR
open PySem L2 EM
/-- n items from lo on -/
def rgI (lo : Int) (n : Nat) : List Int := (List.range n).map fun i => lo + (i : Nat)
theorem rgI_len (lo : Int) (n : Nat) : (rgI lo n).length = n := by simp [rgI]
theorem rgV_rgI (lo : Int) (n : Nat) : rgV lo (lo + (n : Int)) = ivs (rgI lo n) := by
  unfold rgV rgI ivs
  rw [show (lo + (n : Int) - lo).toNat = n by omega, List.map_map]
  rfl
theorem rgV_nat {lo : Int} {hi : Int} {n : Nat} (h : hi = lo + (n : Int)) : rgV lo hi = ivs (rgI lo n) := by rw [h, rgV_rgI]
/-- all items of an interval -/
def rgB (lo hi : Int) : List Int := (List.range (hi - lo).toNat).map fun i => lo + (i : Nat)
theorem rgV_rgB (lo hi : Int) : rgV lo hi = ivs (rgB lo hi) := by
  unfold rgV rgB ivs
  rw [List.map_map]
  rfl
def isLow (mark : Str) : Bool := decide (mark = "twice" ∨ mark = "lost")
def lowM (mark : Str) (rest : Nat) : Int := if isLow mark = true then -(rest : Int) else 0
def bhM (mark : Str) (rest count : Nat) : Nat := if isLow mark = true then count else rest + count
theorem bh_low (mark : Str) (rest count : Nat) : lowM mark rest + (rest : Int) + (count : Int) = (bhM mark rest count : Nat) := by
  unfold lowM bhM
  split <;> omega
def markWhole (mark : Str) (x : RP) (st : Bool) (behind left : Nat) : Str :=
  if mark = "lost" ∨ x.pieces.flatten ≠ rgI 0 x.pieces.flatten.length then (if st = true then "fault" else "lost")
  else if st = true then (if x.pieces.flatten.length = behind ∧ left = 0 then "fine" else "fault")
  else if x.rest = rgB (x.pieces.flatten.length : Nat) (behind : Nat) then "fine"
  else if x.pieces.flatten.length = behind then "twice" else "lost"
def evenM (sz : Nat) : Str → List (List Int) → Str
  | m, [] => m
  | m, p :: r => if m = "short" ∨ sz < p.length then "fault" else evenM sz (if p.length < sz then "short" else m) r
def markM (name mark : Str) (sz : Nat) (x : RP) (st told : Bool) (behind left : Nat) : Str :=
  if name = "whole" then markWhole mark x st behind left
  else if name = "filled" then (if [] ∈ x.pieces then "fault" else "fine")
  else if name = "even" then evenM sz mark x.pieces
  else if name = "quiet" then (if told = true ∧ st = false then "fault" else "fine")
  else "fine"
def names : List Str := ["whole", "filled", "even", "quiet", "ends"]
def marks : List Str := ["fine", "short", "twice", "lost", "fault"]
theorem even_mem (sz : Nat) : ∀ (ps : List (List Int)) {m : Str}, m ∈ marks → evenM sz m ps ∈ marks
  | [], m, h => h
  | p :: r, m, h => by
    unfold evenM
    split
    · decide +kernel
    · refine even_mem sz r ?_
      split
      · decide +kernel
      · exact h
theorem mark_mem {name mark : Str} {sz : Nat} {x : RP} {st told : Bool} {behind left : Nat} (h : mark ∈ marks) : markM name mark sz x st told behind left ∈ marks := by
  unfold markM markWhole
  have f1 : ("fault" : Str) ∈ marks := by decide +kernel
  have f2 : ("lost" : Str) ∈ marks := by decide +kernel
  have f3 : ("fine" : Str) ∈ marks := by decide +kernel
  have f4 : ("twice" : Str) ∈ marks := by decide +kernel
  repeat' split
  all_goals first | assumption | exact even_mem sz _ h
/-- what a source tells -/
abbrev Tell := Int → Int → Bool
/-- behind a round -/
def behM (ro eo : List (Str × Str)) (tell : Tell) (name : Str) (before rest : Nat) (mark : Str) (sz count left : Nat) : Option (Nat × Nat × Str) :=
  let w := ansM sz ro eo (rgI (lowM mark rest + (rest : Int)) count) (tell before left) ⟨rgI (lowM mark rest) rest, []⟩
  let m := markM name mark sz w.1 w.2 (tell before left) (bhM mark rest count) left
  if w.2 = true ∧ m ≠ "fault" then none else some (left, w.1.rest.length, m)
def restM (r : Nat) : Nat := if r = 0 then 0 else if r ≤ 4 then (if r = 4 then 4 else 2) else if r % 4 ≠ 0 then 6 else 8
theorem rest_mem (r : Nat) : restM r ∈ [0, 2, 4, 6, 8] := by
  unfold restM
  repeat' split
  all_goals decide
/-- a state: items left or none, the rest, the mark -/
abbrev Node := Nat × Nat × Str
/-- what comes and what is left -/
def movesM (can : Nat → Bool) (left : Nat) : List (Nat × Nat) := if left = 0 then [(0, 0)] else [(1, 0), (2, 0), (3, 0), (4, 0)] ++ ((List.range 5).filter can).map fun c => (c, 1)
theorem moves_len (can : Nat → Bool) (left : Nat) : (movesM can left).length ≤ 9 := by
  unfold movesM
  split
  · decide
  · rw [List.length_append, List.length_map]
    have := List.length_filter_le can (List.range 5)
    rw [List.length_range] at this
    simp only [List.length_cons, List.length_nil]
    omega
theorem moves_get {can : Nat → Bool} {left : Nat} {p : Nat × Nat} (h : p ∈ movesM can left) : p.1 ≤ 4 ∧ p.2 ≤ 1 := by
  unfold movesM at h
  split at h
  · rw [List.mem_singleton.mp h]; decide
  · rcases List.mem_append.mp h with h | h
    · simp only [List.mem_cons, List.mem_nil_iff, or_false] at h
      rcases h with rfl | rfl | rfl | rfl <;> decide
    · obtain ⟨c, hc, rfl⟩ := List.mem_map.mp h
      have := List.mem_range.mp (List.mem_filter.mp hc).1
      exact ⟨by show c ≤ 4; omega, by show 1 ≤ 1; decide⟩
/-- that the loop never stops without items -/
def nevM (ro eo : List (Str × Str)) (tell : Tell) (sz rest : Nat) : Bool := !(CoM.noS sz ro eo (tell 0 0) 4 none ⟨⟨rgI 0 rest, []⟩, 0, false⟩).st
def isFaultM (ro eo : List (Str × Str)) (tell : Tell) (name : Str) (sz : Nat) (n : Node) : Bool := if name = "ends" then decide (n.1 = 0) && nevM ro eo tell sz n.2.1 else decide (n.2.2 = "fault")
/-- one state further -/
def nextM (ro eo : List (Str × Str)) (tell : Tell) (name : Str) (n : Node) (p : Nat × Nat) : Option Node := (behM ro eo tell name n.1 n.2.1 n.2.2 4 p.1 p.2).map fun f => (p.2, restM f.2.1, f.2.2)
def succM (ro eo : List (Str × Str)) (tell : Tell) (can : Nat → Bool) (name : Str) (n : Node) : List Node := (movesM can n.1).filterMap (nextM ro eo tell name n)
inductive Reach (ro eo : List (Str × Str)) (tell : Tell) (can : Nat → Bool) (name : Str) : Node → Prop
  | a : Reach ro eo tell can name (0, 0, "fine")
  | b : Reach ro eo tell can name (1, 0, "fine")
  | step {n m : Node} (h : Reach ro eo tell can name n) (s : m ∈ succM ro eo tell can name n) : Reach ro eo tell can name m
/-- the property has a fault -/
def HasF (ro eo : List (Str × Str)) (tell : Tell) (can : Nat → Bool) (name : Str) : Prop := ∃ n, Reach ro eo tell can name n ∧ isFaultM ro eo tell name 4 n = true
/-- the states that there are -/
def univ : List Node := [0, 1].flatMap fun l => [0, 2, 4, 6, 8].flatMap fun r => marks.map fun m => (l, r, m)
theorem univ_len : univ.length = 50 := by decide +kernel
theorem mem_univ {n : Node} : n ∈ univ ↔ n.1 ≤ 1 ∧ n.2.1 ∈ [0, 2, 4, 6, 8] ∧ n.2.2 ∈ marks := by
  obtain ⟨l, r, m⟩ := n
  unfold univ
  simp only [List.mem_flatMap, List.mem_map, Prod.mk.injEq]
  constructor
  · rintro ⟨l', hl, r', hr, m', hm, rfl, rfl, rfl⟩
    refine ⟨?_, hr, hm⟩
    simp at hl
    omega
  · rintro ⟨hl, hr, hm⟩
    refine ⟨l, ?_, r, hr, m, hm, rfl, rfl, rfl⟩
    have hl : l ≤ 1 := hl
    have : l = 0 ∨ l = 1 := by omega
    rcases this with rfl | rfl <;> decide
theorem next_univ {ro eo : List (Str × Str)} {tell : Tell} {can : Nat → Bool} {name : Str} {n m : Node} {p : Nat × Nat} (hn : n ∈ univ) (hp : p ∈ movesM can n.1) (h : nextM ro eo tell name n p = some m) : m ∈ univ := by
  unfold nextM at h
  cases hb : behM ro eo tell name n.1 n.2.1 n.2.2 4 p.1 p.2 with
  | none => rw [hb] at h; cases h
  | some f =>
    rw [hb] at h
    cases h
    rw [mem_univ] at hn ⊢
    refine ⟨(moves_get hp).2, rest_mem _, ?_⟩
    unfold behM at hb
    dsimp only at hb
    split at hb
    · cases hb
    · cases hb
      exact mark_mem hn.2.2
theorem nodup_len {l : List Node} (nd : l.Nodup) (h : ∀ n ∈ l, n ∈ univ) : l.length ≤ 50 := by
  rw [← univ_len]
  exact sub_len l univ nd h
where sub_len : ∀ (l u : List Node), l.Nodup → (∀ n ∈ l, n ∈ u) → l.length ≤ u.length
  | [], _, _, _ => Nat.zero_le _
  | a :: r, u, nd, h => by
    have ha := h a List.mem_cons_self
    rw [List.nodup_cons] at nd
    have ih := sub_len r (u.erase a) nd.2 fun n hn => (List.mem_erase_of_ne (fun e => nd.1 (by rw [← e]; exact hn))).mpr (h n (List.mem_cons_of_mem _ hn))
    rw [List.length_erase_of_mem ha] at ih
    have := List.length_pos_of_mem ha
    rw [List.length_cons]
    omega
/-- a search that ended without a fault -/
theorem no_fault {ro eo : List (Str × Str)} {tell : Tell} {can : Nat → Bool} {name : Str} {seen : List Node} (ha : ((0, 0, "fine") : Node) ∈ seen) (hb : ((1, 0, "fine") : Node) ∈ seen) (hs : ∀ n ∈ seen, ∀ m ∈ succM ro eo tell can name n, m ∈ seen) (hf : ∀ n ∈ seen, isFaultM ro eo tell name 4 n = false) : ¬ HasF ro eo tell can name := by
  rintro ⟨n, hr, hn⟩
  have : n ∈ seen := by
    clear hn
    induction hr with
    | a => exact ha
    | b => exact hb
    | step _ s ih => exact hs _ ih _ s
  rw [hf n this] at hn
  cases hn
open Classical in
/-- the property's answer -/
noncomputable def alwM (ro eo : List (Str × Str)) (tell : Tell) (can : Nat → Bool) (name : Str) : Bool := decide (¬ HasF ro eo tell can name)
open Classical in
theorem alw_no {ro eo : List (Str × Str)} {tell : Tell} {can : Nat → Bool} {name : Str} (h : ¬ HasF ro eo tell can name) : alwM ro eo tell can name = true := @decide_eq_true _ _ h
open Classical in
theorem alw_has {ro eo : List (Str × Str)} {tell : Tell} {can : Nat → Bool} {name : Str} (h : HasF ro eo tell can name) : alwM ro eo tell can name = false := @decide_eq_false _ _ fun z => z h
end SR

/-! orders that do the same have the same faults -/
namespace SR
open PySem L2 EM
def Eqv (ro ro' eo : List (Str × Str)) : Prop := ∀ sz held told x, ansM sz ro eo held told x = ansM sz ro' eo held told x
section
variable {ro ro' eo : List (Str × Str)} (h : Eqv ro ro' eo)
include h
theorem noS_eqv (sz : Nat) (told : Bool) : ∀ (k : Nat) (m : Option Nat) (s : CoM.WS), CoM.noS sz ro eo told k m s = CoM.noS sz ro' eo told k m s
  | 0, _, _ => rfl
  | k + 1, m, s => by
    unfold CoM.noS
    have : CoM.ansS sz ro eo [] told s = CoM.ansS sz ro' eo [] told s := by unfold CoM.ansS; rw [h]
    rw [this, noS_eqv sz told k]
theorem nev_eqv (tell : Tell) (sz rest : Nat) : nevM ro eo tell sz rest = nevM ro' eo tell sz rest := by unfold nevM; rw [noS_eqv h]
theorem beh_eqv (tell : Tell) (name : Str) (b r : Nat) (m : Str) (sz c l : Nat) : behM ro eo tell name b r m sz c l = behM ro' eo tell name b r m sz c l := by unfold behM; rw [h]
theorem isFault_eqv (tell : Tell) (name : Str) (sz : Nat) (n : Node) : isFaultM ro eo tell name sz n = isFaultM ro' eo tell name sz n := by unfold isFaultM; rw [nev_eqv h]
theorem next_eqv (tell : Tell) (name : Str) (n : Node) (p : Nat × Nat) : nextM ro eo tell name n p = nextM ro' eo tell name n p := by unfold nextM; rw [beh_eqv h]
theorem succ_eqv (tell : Tell) (can : Nat → Bool) (name : Str) (n : Node) : succM ro eo tell can name n = succM ro' eo tell can name n := by
  unfold succM
  rw [show nextM ro eo tell name n = nextM ro' eo tell name n from funext fun p => next_eqv h tell name n p]
theorem reach_eqv {tell : Tell} {can : Nat → Bool} {name : Str} {n : Node} (r : Reach ro eo tell can name n) : Reach ro' eo tell can name n := by
  induction r with
  | a => exact .a
  | b => exact .b
  | step _ s ih => exact .step ih (by rw [← succ_eqv h]; exact s)
theorem has_eqv1 {tell : Tell} {can : Nat → Bool} {name : Str} (f : HasF ro eo tell can name) : HasF ro' eo tell can name := let ⟨n, r, e⟩ := f; ⟨n, reach_eqv h r, by rw [← isFault_eqv h]; exact e⟩
end
theorem Eqv.symm {ro ro' eo : List (Str × Str)} (h : Eqv ro ro' eo) : Eqv ro' ro eo := fun sz held told x => (h sz held told x).symm
theorem alw_eqv {ro ro' eo : List (Str × Str)} (h : Eqv ro ro' eo) (tell : Tell) (can : Nat → Bool) (name : Str) : alwM ro eo tell can name = alwM ro' eo tell can name := by
  by_cases f : HasF ro eo tell can name
  · rw [alw_has f, alw_has (has_eqv1 h f)]
  · rw [alw_no f, alw_no fun g => f (has_eqv1 h.symm g)]
/-! a word that does nothing -/
theorem cut_bare {sz : Nat} {held : List Int} {told : Bool} {x : RP} (h : passM sz held told "bare" x.rest = true) : perfM sz held "cut" x = x := by
  have e : passM sz held told "bare" x.rest = (decide (0 < x.rest.length) == false) := by
    unfold passM
    rw [if_neg (by decide +kernel), if_neg (by decide +kernel), if_pos (Or.inr rfl)]
    rfl
  rw [e] at h
  have l0 : x.rest = [] := by
    cases hr : x.rest with
    | nil => rfl
    | cons a t => rw [hr] at h; simp at h
  obtain ⟨r, p⟩ := x
  cases l0
  unfold perfM
  rw [if_neg (by decide +kernel), if_neg (by decide +kernel), if_pos rfl]
  simp [cutN]
theorem run_bare (sz : Nat) (held : List Int) (told : Bool) (b : List (Str × Str)) : ∀ (a : List (Str × Str)) (x : RP), runW sz held told (a ++ (("bare", "cut") : Str × Str) :: b) x = runW sz held told (a ++ b) x
  | [], x => by
    show runW sz held told ((("bare", "cut") : Str × Str) :: b) x = runW sz held told b x
    show (if passM sz held told "bare" x.rest = true then (if ("cut" : Str) = "again" then (x, false) else if ("cut" : Str) = "stop" then (x, true) else runW sz held told b (perfM sz held "cut" x)) else runW sz held told b x) = _
    by_cases h : passM sz held told "bare" x.rest = true
    · rw [if_pos h, if_neg (by decide +kernel), if_neg (by decide +kernel), cut_bare h]
    · rw [if_neg h]
  | (t, s) :: a, x => by
    show (if passM sz held told t x.rest = true then (if s = "again" then (x, false) else if s = "stop" then (x, true) else runW sz held told (a ++ (("bare", "cut") : Str × Str) :: b) (perfM sz held s x)) else runW sz held told (a ++ (("bare", "cut") : Str × Str) :: b) x) = (if passM sz held told t x.rest = true then (if s = "again" then (x, false) else if s = "stop" then (x, true) else runW sz held told (a ++ b) (perfM sz held s x)) else runW sz held told (a ++ b) x)
    rw [run_bare sz held told b a, run_bare sz held told b a]
theorem eqv_bare (a b eo : List (Str × Str)) : Eqv (a ++ (("bare", "cut") : Str × Str) :: b) (a ++ b) eo := fun sz held told x => by
  unfold ansM
  rw [run_bare]
end SR

/-! the least pair for which loops are unlike: by the sizes 1 and 2, and by all sizes -/
namespace CoM
def fuS (u : Nat → Nat → Bool) : Nat → Nat → Option (Nat × Nat)
  | 0, _ => none
  | k + 1, n => if u n 1 = true then some (n, 1) else if u n 2 = true then some (n, 2) else fuS u k (n + 1)
def fuM (u : Nat → Nat → Bool) : Option (Nat × Nat) := fuS u 31 0
theorem fuS_none (u : Nat → Nat → Bool) : ∀ (k n0 : Nat), fuS u k n0 = none → ∀ m, n0 ≤ m → m < n0 + k → u m 1 = false ∧ u m 2 = false
  | 0, n0, _, m, h1, h2 => by omega
  | k + 1, n0, h, m, h1, h2 => by
    have e : fuS u (k + 1) n0 = if u n0 1 = true then some (n0, 1) else if u n0 2 = true then some (n0, 2) else fuS u k (n0 + 1) := rfl
    rw [e] at h
    split at h
    · cases h
    next c1 =>
      split at h
      · cases h
      next c2 =>
        rcases Nat.eq_or_lt_of_le h1 with y | y
        · rw [← y]
          exact ⟨by simpa using c1, by simpa using c2⟩
        · exact fuS_none u k (n0 + 1) h m (by omega) (by omega)
theorem fuS_some (u : Nat → Nat → Bool) : ∀ (k n0 n s : Nat), fuS u k n0 = some (n, s) → n0 ≤ n ∧ n < n0 + k ∧ (s = 1 ∨ s = 2) ∧ u n s = true ∧ (s = 2 → u n 1 = false) ∧ ∀ m, n0 ≤ m → m < n → u m 1 = false ∧ u m 2 = false
  | 0, n0, n, s, h => by cases h
  | k + 1, n0, n, s, h => by
    have e : fuS u (k + 1) n0 = if u n0 1 = true then some (n0, 1) else if u n0 2 = true then some (n0, 2) else fuS u k (n0 + 1) := rfl
    rw [e] at h
    split at h
    next c1 =>
      cases h
      exact ⟨Nat.le_refl _, by omega, .inl rfl, c1, fun y => (by cases y), fun m a b => (by omega)⟩
    next c1 =>
      split at h
      next c2 =>
        cases h
        exact ⟨Nat.le_refl _, by omega, .inr rfl, c2, fun _ => by simpa using c1, fun m a b => by omega⟩
      next c2 =>
        obtain ⟨a, b, c, d, f, g⟩ := fuS_some u k (n0 + 1) n s h
        refine ⟨by omega, by omega, c, d, f, fun m h1 h2 => ?_⟩
        rcases Nat.eq_or_lt_of_le h1 with y | y
        · rw [← y]
          exact ⟨by simpa using c1, by simpa using c2⟩
        · exact g m (by omega) h2
def fpW (u : Nat → Nat → Bool) (n : Nat) : Nat → Nat → Option (Nat × Nat)
  | 0, _ => none
  | k + 1, w => if u n w = true then some (n, w) else fpW u n k (w + 1)
def fpS (u : Nat → Nat → Bool) : Nat → Nat → Option (Nat × Nat)
  | 0, _ => none
  | k + 1, n => match fpW u n (n + 1) 1 with
    | some p => some p
    | none => fpS u k (n + 1)
theorem fpW_none (u : Nat → Nat → Bool) (n : Nat) : ∀ (k w : Nat), fpW u n k w = none → ∀ x, w ≤ x → x < w + k → u n x = false
  | 0, w, _, x, h1, h2 => by omega
  | k + 1, w, h, x, h1, h2 => by
    have e : fpW u n (k + 1) w = if u n w = true then some (n, w) else fpW u n k (w + 1) := rfl
    rw [e] at h
    split at h
    · cases h
    next c =>
      rcases Nat.eq_or_lt_of_le h1 with y | y
      · rw [← y]
        simpa using c
      · exact fpW_none u n k (w + 1) h x (by omega) (by omega)
theorem fpW_some (u : Nat → Nat → Bool) (n : Nat) : ∀ (k w : Nat) (p : Nat × Nat), fpW u n k w = some p → ∃ v, p = (n, v) ∧ w ≤ v ∧ v < w + k ∧ u n v = true ∧ ∀ x, w ≤ x → x < v → u n x = false
  | 0, w, p, h => by cases h
  | k + 1, w, p, h => by
    have e : fpW u n (k + 1) w = if u n w = true then some (n, w) else fpW u n k (w + 1) := rfl
    rw [e] at h
    split at h
    next c =>
      cases h
      exact ⟨w, rfl, Nat.le_refl _, by omega, c, fun x a b => by omega⟩
    next c =>
      obtain ⟨v, a, b, d, f, g⟩ := fpW_some u n k (w + 1) p h
      refine ⟨v, a, by omega, by omega, f, fun x h1 h2 => ?_⟩
      rcases Nat.eq_or_lt_of_le h1 with y | y
      · rw [← y]
        simpa using c
      · exact g x (by omega) h2
theorem fpS_none (u : Nat → Nat → Bool) : ∀ (k n0 : Nat), fpS u k n0 = none → ∀ m, n0 ≤ m → m < n0 + k → ∀ x, 1 ≤ x → x ≤ m + 1 → u m x = false
  | 0, n0, _, m, h1, h2 => by omega
  | k + 1, n0, h, m, h1, h2 => by
    have e : fpS u (k + 1) n0 = match fpW u n0 (n0 + 1) 1 with | some p => some p | none => fpS u k (n0 + 1) := rfl
    rw [e] at h
    cases c : fpW u n0 (n0 + 1) 1 with
    | some p => rw [c] at h; cases h
    | none =>
      rw [c] at h
      intro x x1 x2
      rcases Nat.eq_or_lt_of_le h1 with y | y
      · rw [← y] at x2 ⊢
        exact fpW_none u n0 _ _ c x x1 (by omega)
      · exact fpS_none u k (n0 + 1) h m (by omega) (by omega) x x1 x2
theorem fpS_some (u : Nat → Nat → Bool) : ∀ (k n0 : Nat) (p : Nat × Nat), fpS u k n0 = some p → ∃ n v, p = (n, v) ∧ n0 ≤ n ∧ n < n0 + k ∧ 1 ≤ v ∧ v ≤ n + 1 ∧ u n v = true ∧ (∀ x, 1 ≤ x → x < v → u n x = false) ∧ ∀ m, n0 ≤ m → m < n → ∀ x, 1 ≤ x → x ≤ m + 1 → u m x = false
  | 0, n0, p, h => by cases h
  | k + 1, n0, p, h => by
    have e : fpS u (k + 1) n0 = match fpW u n0 (n0 + 1) 1 with | some p => some p | none => fpS u k (n0 + 1) := rfl
    rw [e] at h
    cases c : fpW u n0 (n0 + 1) 1 with
    | some q =>
      rw [c] at h
      cases h
      obtain ⟨v, a, b, d, f, g⟩ := fpW_some u n0 _ _ _ c
      exact ⟨n0, v, a, Nat.le_refl _, by omega, b, by omega, f, g, fun m h1 h2 => by omega⟩
    | none =>
      rw [c] at h
      obtain ⟨n, v, a, b, d, f, g, i, l, o⟩ := fpS_some u k (n0 + 1) p h
      refine ⟨n, v, a, by omega, by omega, f, g, i, l, fun m h1 h2 x x1 x2 => ?_⟩
      rcases Nat.eq_or_lt_of_le h1 with y | y
      · rw [← y] at x2 ⊢
        exact fpW_none u n0 _ _ c x x1 (by omega)
      · exact o m (by omega) h2 x x1 x2
/-- it hangs on the shape alone -/
def Shp (u : Nat → Nat → Bool) : Prop := ∀ N N' sz sz', 1 ≤ sz → 1 ≤ sz' → N / sz = N' / sz' → (N % sz = 0 ↔ N' % sz' = 0) → u N sz = u N' sz'
theorem Shp.zero {u : Nat → Nat → Bool} (h : Shp u) : u 0 2 = u 0 1 := h 0 0 2 1 (by decide) (by decide) rfl (by decide)
/-- the same with the size 1 or 2, and no more items -/
theorem Shp.small {u : Nat → Nat → Bool} (h : Shp u) {n v : Nat} (hv : 3 ≤ v) : ∃ m x, (x = 1 ∨ x = 2) ∧ x ≤ m + 1 ∧ u n v = u m x ∧ (m < n ∨ m = n ∧ x < v) := by
  have hd : n / v * v + n % v = n := by rw [Nat.mul_comm]; exact Nat.div_add_mod n v
  have l : n / v * 3 ≤ n / v * v := Nat.mul_le_mul_left _ hv
  by_cases c : n % v = 0
  · refine ⟨n / v, 1, .inl rfl, by omega, h _ _ _ _ (by omega) (by decide) (Nat.div_one _).symm ⟨fun _ => Nat.mod_one _, fun _ => c⟩, ?_⟩
    omega
  · refine ⟨2 * (n / v) + 1, 2, .inr rfl, by omega, h _ _ _ _ (by omega) (by decide) (by omega) ⟨fun y => absurd y c, fun y => by omega⟩, ?_⟩
    omega
theorem first_eq {u : Nat → Nat → Bool} (h : Shp u) {p : Nat × Nat} {k : Nat} (hk : k ≤ 31) (e : fpS u k 0 = some p) : fuM u = some p := by
  obtain ⟨n, v, rfl, _, n2, v1, v2, t, g1, g2⟩ := fpS_some u k 0 p e
  have hv : v = 1 ∨ v = 2 := by
    have : ¬ 3 ≤ v := fun c => by
      obtain ⟨m, x, hx, xm, eu, lt⟩ := h.small (n := n) c
      rw [t] at eu
      rcases lt with lt | ⟨rfl, lt⟩
      · rw [g2 m (Nat.zero_le _) lt x (by omega) xm] at eu
        cases eu
      · rw [g1 x (by omega) lt] at eu
        cases eu
    omega
  have low : ∀ m, m < n → u m 1 = false ∧ u m 2 = false := fun m hm => by
    have a := g2 m (Nat.zero_le _) hm 1 (by decide) (by omega)
    refine ⟨a, ?_⟩
    by_cases c : m = 0
    · rw [c] at a ⊢
      rw [h.zero, a]
    · exact g2 m (Nat.zero_le _) hm 2 (by decide) (by omega)
  cases c : fuM u with
  | none =>
    have := fuS_none u 31 0 c n (Nat.zero_le _) (by omega)
    rcases hv with rfl | rfl
    · rw [this.1] at t; cases t
    · rw [this.2] at t; cases t
  | some q =>
    obtain ⟨n', s⟩ := q
    obtain ⟨_, _, hs, ts, f1, f2⟩ := fuS_some u 31 0 n' s c
    rcases Nat.lt_trichotomy n' n with y | y | y
    · have := low n' y
      rcases hs with rfl | rfl
      · rw [this.1] at ts; cases ts
      · rw [this.2] at ts; cases ts
    · subst y
      rcases hv with rfl | rfl <;> rcases hs with rfl | rfl
      · rfl
      · rw [f1 rfl] at t; cases t
      · rw [g1 1 (by decide) (by decide)] at ts; cases ts
      · rfl
    · have := f2 n (Nat.zero_le _) y
      rcases hv with rfl | rfl
      · rw [this.1] at t; cases t
      · rw [this.2] at t; cases t
theorem first_far {u : Nat → Nat → Bool} (h : Shp u) {n s : Nat} {k : Nat} (e : fpS u k 0 = none) (c : fuM u = some (n, s)) : k ≤ n ∧ n ≤ 30 ∧ (s = 1 ∨ s = 2) ∧ u n s = true ∧ ∀ m, m < n → u m 1 = false ∧ u m 2 = false := by
  obtain ⟨_, n2, hs, ts, f1, f2⟩ := fuS_some u 31 0 n s c
  refine ⟨?_, by omega, hs, ts, fun m hm => f2 m (Nat.zero_le _) hm⟩
  refine Nat.le_of_not_lt fun y => ?_
  have g := fpS_none u k 0 e n (Nat.zero_le _) (by omega)
  rcases hs with rfl | rfl
  · rw [g 1 (by decide) (by omega)] at ts; cases ts
  · by_cases z : n = 0
    · rw [z] at ts g
      rw [h.zero, g 1 (by decide) (by decide)] at ts
      cases ts
    · rw [g 2 (by decide) (by omega)] at ts; cases ts
theorem alike_far {u : Nat → Nat → Bool} (h : Shp u) (c : fuM u = none) {N sz : Nat} (z : 1 ≤ sz) (hq : N / sz ≤ 14) : u N sz = false := by
  have g := fuS_none u 31 0 c
  by_cases y : N % sz = 0
  · rw [h N (N / sz) sz 1 z (by decide) (Nat.div_one _).symm ⟨fun _ => Nat.mod_one _, fun _ => y⟩]
    exact (g _ (Nat.zero_le _) (by omega)).1
  · rw [h N (2 * (N / sz) + 1) sz 2 z (by decide) (by omega) ⟨fun w => absurd w y, fun w => by omega⟩]
    exact (g _ (Nat.zero_le _) (by omega)).2
end CoM

/-! loops written otherwise: the same runs; a hand more in the ending; small numbers show whether a loop ever stops -/
namespace CoM
open PySem L2 EM LM
/-- the same answers, where told is as the end lets it be -/
def EqE (E : Str) (ro eo ro' eo' : List (Str × Str)) : Prop := ∀ sz held told x, (E = "empty" → told = false) → ansM sz ro' eo' held told x = ansM sz ro eo held told x
section
variable {E : Str} {ro eo ro' eo' : List (Str × Str)} (h : EqE E ro eo ro' eo')
include h
theorem ansS_eq {sz : Nat} {held : List Int} {told : Bool} {s : WS} (ht : E = "empty" → told = false) : ansS sz ro' eo' held told s = ansS sz ro eo held told s := by
  unfold ansS
  rw [h sz held told s.x ht]
theorem noS_eq {sz : Nat} {told : Bool} (ht : E = "empty" → told = false) : ∀ (k : Nat) (m : Option Nat) (s : WS), noS sz ro' eo' told k m s = noS sz ro eo told k m s
  | 0, _, _ => rfl
  | k + 1, m, s => by
    unfold noS
    rw [ansS_eq h ht, noS_eq ht k]
theorem exS_eq {sz N : Nat} : ∀ (k first : Nat) (s : WS), exS sz ro' eo' E N k first s = exS sz ro eo E N k first s
  | 0, _, _ => rfl
  | k + 1, first, s => by
    unfold exS
    rw [ansS_eq h (fun e => by unfold tell; rw [if_pos e]), exS_eq k]
theorem wkS_eq {sz N : Nat} : wkS sz ro' eo' E N = wkS sz ro eo E N := by
  unfold wkS
  rw [exS_eq h, noS_eq h (fun e => by unfold tl; rw [e]; decide)]
end
theorem eqE_of {E : Str} {ro eo ro' eo' : List (Str × Str)} (h1 : ∀ sz held told x, (E = "empty" → told = false) → runW sz held told ro' x = runW sz held told ro x) (h2 : ∀ sz held told x, endW sz held told eo' x = endW sz held told eo x) : EqE E ro eo ro' eo' := fun sz held told x ht => by
  unfold ansM
  rw [h1 sz held told x ht, h2]
theorem eqE_refl {E : Str} {ro eo : List (Str × Str)} : EqE E ro eo ro eo := fun _ _ _ _ _ => rfl
/-! ### words -/
theorem runW_cons (sz : Nat) (held : List Int) (told : Bool) (t s : Str) (r : List (Str × Str)) (x : RP) : runW sz held told ((t, s) :: r) x = if passM sz held told t x.rest = true then (if s = "again" then (x, false) else if s = "stop" then (x, true) else runW sz held told r (perfM sz held s x)) else runW sz held told r x := rfl
theorem run_again (sz : Nat) (held : List Int) (told : Bool) (b : List (Str × Str)) : ∀ (a : List (Str × Str)) (x : RP), runW sz held told (a ++ (("", "again") : Str × Str) :: b) x = runW sz held told a x
  | [], x => by
    show runW sz held told ((("", "again") : Str × Str) :: b) x = (x, false)
    rw [runW_cons, if_pos (show passM sz held told "" x.rest = true by unfold passM; rw [if_pos rfl]), if_pos rfl]
  | (t, s) :: a, x => by
    rw [List.cons_append, runW_cons, runW_cons, run_again sz held told b a, run_again sz held told b a]
theorem run_told (sz : Nat) (held : List Int) (s : Str) (b : List (Str × Str)) : ∀ (a : List (Str × Str)) (x : RP), runW sz held false (a ++ (("told", s) : Str × Str) :: b) x = runW sz held false (a ++ b) x
  | [], x => by
    show runW sz held false ((("told", s) : Str × Str) :: b) x = runW sz held false b x
    rw [runW_cons, if_neg]
    unfold passM
    rw [if_neg (by decide +kernel), if_pos (Or.inl rfl)]
    simp
  | (t, u) :: a, x => by
    rw [List.cons_append, List.cons_append, runW_cons, runW_cons, run_told sz held s b a, run_told sz held s b a]
theorem end_bare (sz : Nat) (held : List Int) (told : Bool) (b : List (Str × Str)) (x : RP) : endW sz held told ((("bare", "cut") : Str × Str) :: b) x = endW sz held told b x := by
  show endW sz held told b (if passM sz held told "bare" x.rest = true then perfM sz held "cut" x else x) = _
  by_cases h : passM sz held told "bare" x.rest = true
  · rw [if_pos h, SR.cut_bare h]
  · rw [if_neg h]
/-- what an order that does not leave the round does -/
def do1 (sz : Nat) (held : List Int) (told : Bool) (o : Str × Str) (x : RP) : RP := if passM sz held told o.1 x.rest = true then perfM sz held o.2 x else x
structure Sim (o o' : Str × Str) : Prop where
  s : o'.2 = o.2
  a : o.2 ≠ "again"
  p : o.2 ≠ "stop"
  d : ∀ sz held told x, do1 sz held told o' x = do1 sz held told o x
theorem run_sim {sz : Nat} {held : List Int} {told : Bool} {o : Str × Str} (a : o.2 ≠ "again") (p : o.2 ≠ "stop") (r : List (Str × Str)) (x : RP) : runW sz held told (o :: r) x = runW sz held told r (do1 sz held told o x) := by
  obtain ⟨t, s⟩ := o
  rw [runW_cons]
  unfold do1
  by_cases h : passM sz held told t x.rest = true
  · rw [if_pos h, if_pos h, if_neg a, if_neg p]
  · rw [if_neg h, if_neg h]
theorem run_map {f : Str → Str} (hf : ∀ w, f w = w ∨ Sim (orderOf w) (orderOf (f w))) (sz : Nat) (held : List Int) (told : Bool) : ∀ (ws : List Str) (x : RP), runW sz held told ((ws.map f).map orderOf) x = runW sz held told (ws.map orderOf) x
  | [], _ => rfl
  | w :: r, x => by
    rw [List.map_cons, List.map_cons, List.map_cons]
    rcases hf w with e | e
    · rw [e]
      generalize orderOf w = o
      obtain ⟨t, s⟩ := o
      rw [runW_cons, runW_cons, run_map hf sz held told r, run_map hf sz held told r]
    · rw [run_sim (by rw [e.s]; exact e.a) (by rw [e.s]; exact e.p), run_sim e.a e.p, e.d, run_map hf sz held told r]
theorem end_map {f : Str → Str} (hf : ∀ w, f w = w ∨ Sim (orderOf w) (orderOf (f w))) (sz : Nat) (held : List Int) (told : Bool) : ∀ (ws : List Str) (x : RP), endW sz held told ((ws.map f).map orderOf) x = endW sz held told (ws.map orderOf) x
  | [], _ => rfl
  | w :: r, x => by
    have c : ∀ (o : Str × Str) (r : List (Str × Str)), endW sz held told (o :: r) x = endW sz held told r (do1 sz held told o x) := fun _ _ => rfl
    rw [List.map_cons, List.map_cons, List.map_cons, c, c]
    rcases hf w with e | e
    · rw [e, end_map hf sz held told r]
    · rw [e.d, end_map hf sz held told r]
theorem cut_nil {sz : Nat} {held : List Int} {x : RP} (h : x.rest = []) : perfM sz held "cut" x = x := by
  obtain ⟨r, p⟩ := x
  cases h
  unfold perfM
  rw [if_neg (by decide +kernel), if_neg (by decide +kernel), if_pos rfl]
  simp [cutN]
theorem do_cut (sz : Nat) (held : List Int) (told : Bool) (x : RP) : do1 sz held told ("rest", "cut") x = do1 sz held told ("", "cut") x := by
  have e1 : do1 sz held told ("", "cut") x = perfM sz held "cut" x := by
    unfold do1
    rw [if_pos (by unfold passM; rw [if_pos rfl])]
  have e2 : passM sz held told "rest" x.rest = decide (0 < x.rest.length) := by
    unfold passM
    rw [if_neg (by decide +kernel), if_neg (by decide +kernel), if_pos (Or.inl rfl)]
    simp
  rw [e1]
  unfold do1
  rw [e2]
  cases hr : x.rest with
  | nil =>
    rw [if_neg (by simp), cut_nil hr]
  | cons a r => rw [if_pos (by simp)]
theorem do_add (sz : Nat) (held : List Int) (told : Bool) (x : RP) : do1 sz held told ("some", "add") x = do1 sz held told ("", "add") x := by
  have e1 : do1 sz held told ("", "add") x = perfM sz held "add" x := by
    unfold do1
    rw [if_pos (by unfold passM; rw [if_pos rfl])]
  have e2 : passM sz held told "some" x.rest = decide (0 < held.length) := by
    unfold passM
    rw [if_neg (by decide +kernel), if_neg (by decide +kernel), if_neg (by decide +kernel), if_pos (Or.inr rfl)]
    simp
  rw [e1]
  unfold do1
  rw [e2]
  cases held with
  | nil =>
    rw [if_neg (by simp)]
    unfold perfM
    rw [if_pos rfl, List.append_nil]
  | cons a r => rw [if_pos (by simp)]
theorem sim_cut : Sim ("", "cut") ("rest", "cut") := ⟨rfl, by decide +kernel, by decide +kernel, fun sz held told x => do_cut sz held told x⟩
theorem sim_cut' : Sim ("rest", "cut") ("", "cut") := ⟨rfl, by decide +kernel, by decide +kernel, fun sz held told x => (do_cut sz held told x).symm⟩
theorem sim_add : Sim ("", "add") ("some", "add") := ⟨rfl, by decide +kernel, by decide +kernel, fun sz held told x => do_add sz held told x⟩
theorem sim_add' : Sim ("some", "add") ("", "add") := ⟨rfl, by decide +kernel, by decide +kernel, fun sz held told x => (do_add sz held told x).symm⟩
/-! ### a hand more -/
def hnd : Str × Str := ("", "hand")
structure Lng (s s' : WS) : Prop where
  st : s'.st = s.st
  go : s.st = false → s'.x = s.x
  en : s.st = true → s'.x.pieces.length = s.x.pieces.length + 1
theorem end_app (sz : Nat) (held : List Int) (told : Bool) (b : List (Str × Str)) : ∀ (a : List (Str × Str)) (x : RP), endW sz held told (a ++ b) x = endW sz held told b (endW sz held told a x)
  | [], _ => rfl
  | o :: a, x => end_app sz held told b a _
theorem end_hand (sz : Nat) (held : List Int) (told : Bool) (x : RP) : (endW sz held told [hnd] x).pieces.length = x.pieces.length + 1 := by
  show ((if passM sz held told "" x.rest = true then perfM sz held "hand" x else x)).pieces.length = _
  rw [if_pos (by unfold passM; rw [if_pos rfl])]
  unfold perfM
  rw [if_neg (by decide +kernel), if_pos rfl]
  simp
section
variable {sz : Nat} {ro eo : List (Str × Str)}
theorem lng_ans {held : List Int} {told : Bool} {s s' : WS} (h : Lng s s') (h0 : s.st = false) : Lng (ansS sz ro eo held told s) (ansS sz ro (eo ++ [hnd]) held told s') := by
  have e := h.go h0
  unfold ansS
  rw [e]
  unfold ansM
  by_cases c : (runW sz held told ro s.x).2 = true
  · rw [if_pos c, if_pos c]
    refine ⟨rfl, fun z => (by cases z), fun _ => ?_⟩
    show (endW sz held told (eo ++ [hnd]) _).pieces.length = _
    rw [end_app, end_hand]
  · rw [if_neg c, if_neg c]
    exact ⟨rfl, fun _ => rfl, fun z => (by cases z)⟩
theorem lng_no {told : Bool} : ∀ (k : Nat) (m : Option Nat) {s s' : WS}, Lng s s' → Lng (noS sz ro eo told k m s) (noS sz ro (eo ++ [hnd]) told k m s')
  | 0, _, _, _, h => h
  | k + 1, m, s, s', h => by
    have e1 : noS sz ro eo told (k + 1) m s = if s.st = true then s else if some s.x.rest.length = m then s else noS sz ro eo told k (some s.x.rest.length) (ansS sz ro eo [] told s) := rfl
    have e2 : noS sz ro (eo ++ [hnd]) told (k + 1) m s' = if s'.st = true then s' else if some s'.x.rest.length = m then s' else noS sz ro (eo ++ [hnd]) told k (some s'.x.rest.length) (ansS sz ro (eo ++ [hnd]) [] told s') := rfl
    rw [e1, e2, h.st]
    by_cases c : s.st = true
    · rw [if_pos c, if_pos c]; exact h
    · have c' : s.st = false := by simpa using c
      rw [if_neg c, if_neg c, h.go c']
      by_cases d : some s.x.rest.length = m
      · rw [if_pos d, if_pos d]; exact h
      · rw [if_neg d, if_neg d]
        exact lng_no k _ (lng_ans h c')
theorem lng_ex {E : Str} {N : Nat} : ∀ (k first : Nat) {s s' : WS}, Lng s s' → Lng (exS sz ro eo E N k first s) (exS sz ro (eo ++ [hnd]) E N k first s')
  | 0, _, _, _, h => h
  | k + 1, first, s, s', h => by
    unfold exS
    rw [h.st]
    by_cases c : first < N ∧ s.st = false
    · rw [if_pos c, if_pos c]
      exact lng_ex k _ (lng_ans h c.2)
    · rw [if_neg c, if_neg c]
      exact h
theorem lng_wk {E : Str} {N : Nat} : Lng (wkS sz ro eo E N) (wkS sz ro (eo ++ [hnd]) E N) := lng_no 4 _ (lng_ex _ _ ⟨rfl, fun _ => rfl, fun z => (by cases z)⟩)
end
/-- whether the loop stops -/
def stp1 (ro eo : List (Str × Str)) (E : Str) (N sz : Nat) : Bool := (wkS sz ro eo E N).st
theorem unl_long (ro eo : List (Str × Str)) (E : Str) : unl ro eo ro (eo ++ [hnd]) E = stp1 ro eo E := by
  funext N sz
  have h := lng_wk (sz := sz) (ro := ro) (eo := eo) (E := E) (N := N)
  unfold unl stp1 pcs
  rw [h.st]
  cases c : (wkS sz ro eo E N).st with
  | false => rw [if_neg (by decide), if_neg (by decide)]; simp
  | true =>
    rw [if_pos rfl, if_pos rfl]
    refine decide_eq_true fun z => ?_
    have := congrArg List.length (Option.some.inj z)
    have := h.en c
    omega
/-! ### small numbers -/
theorem ask_small (ro : List (Str × Str)) (E : Str) (part : Bool) {q : Nat} (h : (askA ro E part q .e).isSome = true) : ∃ q', q' ≤ 3 ∧ (askA ro E part q' .e).isSome = true := by
  by_cases c : q ≤ 3
  · exact ⟨q, c, h⟩
  · refine ⟨3, Nat.le_refl _, ?_⟩
    rcases ask_per ro E part with ⟨d, hd⟩ | hd
    · rw [hd 3 (by decide)]; rfl
    · obtain ⟨k, rfl⟩ : ∃ k, q = 3 + k := ⟨q - 3, by omega⟩
      clear c
      induction k with
      | zero => exact h
      | succ k ih =>
        refine ih ?_
        rw [show 3 + (k + 1) = (3 + k) + 1 by omega, hd (3 + k) (by omega)] at h
        rwa [Option.isSome_map] at h
theorem ask_one (ro : List (Str × Str)) (E : Str) (a : A) : askA ro E true 1 a = if (runA .full false ro a).2 = true then some 1 else (askA ro E true 0 (runA .full false ro a).1).map (· + 1) := by
  have e : (wl E && decide (0 = 0) && !true) = false := by simp
  show (if (runA .full (wl E && decide (0 = 0) && !true) ro a).2 = true then _ else _) = _
  rw [e]
theorem ask_part (ro : List (Str × Str)) (E : Str) {q : Nat} (h : (askA ro E true q .e).isSome = true) : ∃ q', q' ≤ 2 ∧ (askA ro E true q' .e).isSome = true := by
  obtain ⟨q1, h1, h2⟩ := ask_small ro E true h
  by_cases c : q1 ≤ 2
  · exact ⟨q1, c, h2⟩
  obtain rfl : q1 = 3 := by omega
  refine ⟨2, Nat.le_refl _, ?_⟩
  rw [ask_far] at h2 ⊢
  cases s : (runA .full false ro .e).2 with
  | true => rw [if_pos rfl]; rfl
  | false =>
    rw [s, if_neg (by decide), Option.isSome_map] at h2
    rw [if_neg (by decide), Option.isSome_map]
    have np := full_np false ro .e (by intro z; cases z)
    cases g : (runA .full false ro .e).1 with
    | p => exact absurd g np
    | e =>
      rw [g, ask_far, if_neg (by rw [s]; decide), g, Option.isSome_map] at h2
      exact h2
    | f =>
      have ge : runA .full false ro .e = (.f, false) := Prod.ext g s
      rw [g, ask_far] at h2
      rcases two_runs .full rfl false ro ge with w | w
      · rw [w, if_neg (by decide), Option.isSome_map] at h2
        exact h2
      · rw [ask_one, if_pos w]
        rfl
theorem st_ask {sz : Nat} (z : 1 ≤ sz) {ro eo : List (Str × Str)} (ha : adds ro ≤ 1) {E : Str} (hE : isE E) (N : Nat) : stp1 ro eo E N sz = (askA ro E (decide (N % sz ≠ 0)) (N / sz) .e).isSome := by
  rw [← wk_asked z (eo := eo) ha hE N]
  unfold stp1 asked
  cases (wkS sz ro eo E N).st <;> rfl
theorem stop_first {ro eo : List (Str × Str)} (ha : adds ro ≤ 1) (he : adds eo = 0) {E : Str} (hE : isE E) : fuM (stp1 ro eo E) = fpS (stp1 ro eo E) 6 0 := by
  have shp : Shp (stp1 ro eo E) := fun N N' sz sz' z z' hq hr => by
    rw [← unl_long]
    refine unl_shape ha he ha ?_ E z z' hq hr
    have : ∀ l : List (Str × Str), adds (l ++ [hnd]) = adds l := fun l => by
      induction l with
      | nil => exact (by decide +kernel : adds [hnd] = 0)
      | cons o l ih => rw [List.cons_append]; show _ + adds (l ++ [hnd]) = _ + adds l; rw [ih]
    rw [this, he]
  cases h : fpS (stp1 ro eo E) 6 0 with
  | some p => exact first_eq shp (by decide) h
  | none =>
    cases c : fuM (stp1 ro eo E) with
    | none => rfl
    | some p =>
      exfalso
      obtain ⟨n, s⟩ := p
      obtain ⟨_, _, s12, u, _⟩ := first_far shp h c
      have z : 1 ≤ s := by omega
      rw [st_ask z ha hE] at u
      have no := fpS_none (stp1 ro eo E) 6 0 h
      by_cases d : n % s = 0
      · rw [decide_eq_false (by omega)] at u
        obtain ⟨q, q3, hq⟩ := ask_small ro E false u
        have := no q (Nat.zero_le _) (by omega) 1 (Nat.le_refl _) (by omega)
        rw [st_ask (Nat.le_refl 1) ha hE, Nat.mod_one, Nat.div_one, decide_eq_false (by omega), hq] at this
        cases this
      · rw [decide_eq_true (by omega)] at u
        obtain ⟨q, q2, hq⟩ := ask_part ro E u
        have := no (2 * q + 1) (Nat.zero_le _) (by omega) 2 (by decide) (by omega)
        rw [st_ask (by decide) ha hE, show (2 * q + 1) % 2 = 1 by omega, show (2 * q + 1) / 2 = q by omega, decide_eq_true (by decide), hq] at this
        cases this
end CoM

/-! a loop with words that change nothing, or that mean the same -/
namespace My
open PySem L2 Cm LM EM CoM
abbrev sSa : Stmt := top 51
/-! ### words -/
def swW (a b x : Str) : Str := if x = a then b else if x = b then a else x
abbrev swD (a b : Str) : List (Key × V) := [(Sum.inr a, .str b), (Sum.inr b, .str a)]
theorem sw_val (a b x : Str) : (valV (swD a b) (Sum.inr x)).getD (.str x) = .str (swW a b x) := by
  unfold swW
  by_cases h1 : x = a
  · rw [if_pos h1, valV_pos (show (Sum.inr a : Key) = Sum.inr x by rw [h1])]
    rfl
  · rw [if_neg h1, valV_neg (show ¬ (Sum.inr a : Key) = Sum.inr x from fun z => h1 (Sum.inr.inj z).symm)]
    by_cases h2 : x = b
    · rw [if_pos h2, valV_pos (show (Sum.inr b : Key) = Sum.inr x by rw [h2])]
      rfl
    · rw [if_neg h2, valV_neg (show ¬ (Sum.inr b : Key) = Sum.inr x from fun z => h2 (Sum.inr.inj z).symm), valV_nil]
      rfl
theorem ask_cut : swW "cut" "rest:cut" "ask" = "ask" := by decide +kernel
theorem ask_add : swW "add" "some:add" "ask" = "ask" := by decide +kernel
theorem sw_mem {a b : Str} {p : Str → Prop} (h1 : p a) (h2 : p b) {x : Str} (h : p x) : p (swW a b x) := by
  unfold swW
  split
  · exact h2
  split
  · exact h1
  · exact h
theorem sw_add {a b x : Str} (h : isAdd a = isAdd b) : isAdd (swW a b x) = isAdd x := by
  unfold swW
  split
  · rename_i e; rw [e, h]
  split
  · rename_i e; rw [e, h]
  · rfl
theorem sw_filter {a b : Str} (h : isAdd a = isAdd b) : ∀ ws : List Str, ((ws.map (swW a b)).filter isAdd).length = (ws.filter isAdd).length
  | [] => rfl
  | w :: r => by
    rw [List.map_cons]
    cases e : isAdd w with
    | true =>
      rw [List.filter_cons_of_pos (by rw [sw_add h]; exact e), List.filter_cons_of_pos e, List.length_cons, List.length_cons, sw_filter h r]
    | false =>
      rw [List.filter_cons_of_neg (by rw [sw_add h, e]; decide), List.filter_cons_of_neg (by rw [e]; decide), sw_filter h r]
theorem sw_round {a b : Str} {B : List Str} (ha : swW a b "ask" = "ask") (hw1 : isWord a rsteps = true) (hw2 : isWord b rsteps = true) (hd : isAdd a = isAdd b) (h : isRound B = true) : isRound (B.map (swW a b)) = true := by
  obtain ⟨r, rfl, h2, h3, h4⟩ := isRound_iff.mp h
  refine isRound_iff.mpr ⟨r.map (swW a b), by rw [List.map_cons, ha], by rw [List.length_map]; exact h2, by rw [sw_filter hd]; exact h3, fun w hw => ?_⟩
  obtain ⟨x, hx, rfl⟩ := List.mem_map.mp hw
  exact sw_mem (p := fun w => isWord w rsteps = true) hw1 hw2 (h4 x hx)
theorem sw_ending {a b : Str} {E : List Str} (hw1 : isWord a esteps = true) (hw2 : isWord b esteps = true) (h : isEnding E = true) : isEnding (E.map (swW a b)) = true := by
  have h' := isEnding_iff.mp h
  refine isEnding_iff.mpr ⟨by rw [List.length_map]; exact h'.1, fun w hw => ?_⟩
  obtain ⟨x, hx, rfl⟩ := List.mem_map.mp hw
  exact sw_mem (p := fun w => isWord w esteps = true) hw1 hw2 (h'.2 x hx)
theorem told_words : ∀ s ∈ (["hand", "flush", "cut", "stop", "again"] : List Str), isWord (("told:" : Str) ++ s) rsteps = true ∧ isAdd (("told:" : Str) ++ s) = false ∧ s.length ≤ 5 := by decide +kernel
theorem bare_cut : isWord "bare:cut" rsteps = true ∧ isWord "bare:cut" esteps = true ∧ isAdd "bare:cut" = false := by decide +kernel
theorem more_words : ∀ s ∈ (["hand", "stop", "flush"] : List Str), isWord s rsteps = true ∧ isAdd s = false := by decide +kernel
theorem again_word : isWord "again" rsteps = true ∧ isAdd "again" = false := by decide +kernel
theorem nofil {ws : List Str} (h : ∀ w ∈ ws, isAdd w = false) : (ws.filter isAdd).length = 0 := by
  rw [List.filter_eq_nil_iff.mpr fun w hw => by rw [h w hw]; decide]
  rfl
theorem ins1 {B : List Str} {w : Str} {i : Nat} (rB : isRound B = true) (hi : 1 ≤ i) (hl : B.length ≤ 9) (h1 : isWord w rsteps = true) (h2 : isAdd w = false) : isRound (B.take i ++ [w] ++ B.drop i) = true :=
  ins_round rB hi (fun x hx => by rw [List.mem_singleton.mp hx]; exact h1) (by show B.length + 1 ≤ 12; omega) (by rw [nofil (ws := [w]) fun x hx => by rw [List.mem_singleton.mp hx]; exact h2]; exact round_adds rB)
theorem behind {B ws : List Str} (rB : isRound B = true) (hl : B.length + ws.length ≤ 12) (h : ∀ w ∈ ws, isWord w rsteps = true ∧ isAdd w = false) : isRound (B ++ ws) = true := by
  have := ins_round (i := B.length) (xs := ws) rB (List.length_pos_iff.mpr (round_ne rB)) (fun x hx => (h x hx).1) hl (by rw [nofil (ws := ws) fun x hx => (h x hx).2]; exact round_adds rB)
  rwa [List.take_length, List.drop_length, List.append_nil] at this
theorem ords_app (a b : List Str) : ords (a ++ b) = ords a ++ ords b := List.map_append
theorem ords_at (B : List Str) (i : Nat) : ords B = ords (B.take i) ++ ords (B.drop i) := by
  rw [← ords_app, List.take_append_drop]
theorem or_again : ords ["again"] = [(("", "again") : Str × Str)] := by decide +kernel
theorem or_bare : ords ["bare:cut"] = [(("bare", "cut") : Str × Str)] := by decide +kernel
theorem or_told : ∀ s ∈ (["hand", "flush", "cut", "stop", "again"] : List Str), ords [("told:" : Str) ++ s] = [(("told", s) : Str × Str)] := by decide +kernel
section
variable {L : Str} {B E : List Str} {i : Nat}
theorem eqw0 : EqE L (ords B) (ords E) (ords (B ++ [("again" : Str)])) (ords E) := eqE_of (fun sz held told x _ => by rw [ords_app, or_again]; exact run_again sz held told [] _ x) fun _ _ _ _ => rfl
theorem eqw1 {s : Str} (hL : L = "empty") (hs : s ∈ (["hand", "flush", "cut", "stop", "again"] : List Str)) : EqE L (ords B) (ords E) (ords (B.take i ++ [("told:" : Str) ++ s] ++ B.drop i)) (ords E) := eqE_of (fun sz held told x ht => by
  rw [ht hL, ords_app, ords_app, or_told s hs, ords_at B i, List.append_assoc]
  exact run_told sz held s _ _ x) fun _ _ _ _ => rfl
theorem eqw2 : EqE L (ords B) (ords E) (ords B) (ords (("bare:cut" : Str) :: E)) := eqE_of (fun _ _ _ _ _ => rfl) fun sz held told x => by
  rw [show (("bare:cut" : Str) :: E) = [("bare:cut" : Str)] ++ E from rfl, ords_app, or_bare]
  exact end_bare sz held told _ x
theorem sw_sim {a b : Str} {s1 s2 : Sim (orderOf a) (orderOf b)} (h : Sim (orderOf b) (orderOf a)) (w : Str) : swW a b w = w ∨ Sim (orderOf w) (orderOf (swW a b w)) := by
  unfold swW
  by_cases h1 : w = a
  · rw [if_pos h1, h1]; exact .inr s1
  · rw [if_neg h1]
    by_cases h2 : w = b
    · rw [if_pos h2, h2]; exact .inr h
    · rw [if_neg h2]; exact .inl rfl
theorem o_cut : orderOf "cut" = (("", "cut") : Str × Str) ∧ orderOf "rest:cut" = (("rest", "cut") : Str × Str) ∧ orderOf "add" = (("", "add") : Str × Str) ∧ orderOf "some:add" = (("some", "add") : Str × Str) := by decide +kernel
theorem eqw3 : EqE L (ords B) (ords E) (ords (B.map (swW "cut" "rest:cut"))) (ords (E.map (swW "cut" "rest:cut"))) := by
  have f : ∀ w, swW "cut" "rest:cut" w = w ∨ Sim (orderOf w) (orderOf (swW "cut" "rest:cut" w)) := by
    have a : Sim (orderOf "cut") (orderOf "rest:cut") := by rw [o_cut.1, o_cut.2.1]; exact sim_cut
    exact sw_sim (s1 := a) (s2 := a) (by rw [o_cut.1, o_cut.2.1]; exact sim_cut')
  exact eqE_of (fun sz held told x _ => run_map f sz held told B x) fun sz held told x => end_map f sz held told E x
theorem eqw4 : EqE L (ords B) (ords E) (ords (B.map (swW "add" "some:add"))) (ords E) := by
  have f : ∀ w, swW "add" "some:add" w = w ∨ Sim (orderOf w) (orderOf (swW "add" "some:add" w)) := by
    have a : Sim (orderOf "add") (orderOf "some:add") := by rw [o_cut.2.2.1, o_cut.2.2.2]; exact sim_add
    exact sw_sim (s1 := a) (s2 := a) (by rw [o_cut.2.2.1, o_cut.2.2.2]; exact sim_add')
  exact eqE_of (fun sz held told x _ => run_map f sz held told B x) fun _ _ _ _ => rfl
theorem eqw5 {s : Str} : EqE L (ords B) (ords E) (ords (B ++ [("again" : Str), s])) (ords E) := eqE_of (fun sz held told x _ => by
  rw [show ([("again" : Str), s] : List Str) = [("again" : Str)] ++ [s] from rfl, ords_app, ords_app, or_again]
  exact run_again sz held told _ _ x) fun _ _ _ _ => rfl
theorem eqw6 : EqE L (ords B) (ords E) (ords (B.take i ++ [("bare:cut" : Str)] ++ B.drop i)) (ords E) := eqE_of (fun sz held told x _ => by
  rw [ords_app, ords_app, or_bare, ords_at B i, List.append_assoc]
  exact SR.run_bare sz held told _ _ x) fun _ _ _ _ => rfl
end
theorem take_snocS {ws : List Str} {i : Nat} {x : Str} (h : ws[i]? = some x) : ws.take (i + 1) = ws.take i ++ [x] := by
  rw [List.take_add_one, h]
  rfl
section
variable {P : Program} {w : World} {K : PySem.W.Frag} {mg : Str → Option Value} {base : Heap}
structure TxSa (K : PySem.W.Frag) (mg : Str → Option Value) where
  N : TxNr K mg
  sa : Df K mg "_law_same" sSa ["_law_jar_here", "_law_made", "_law_last_here"]
def spSa : Sp := fun vs H Q _ => ∃ (j ma : Addr) (B E : List Str) (L : Str), vs = [.ref j, .ref ma, .str L] ∧ Jar H j ∧ WdJ j H ma B E ∧ isRound B = true ∧ isEnding E = true ∧
  ∀ (H' : Hp) (p : Addr) (B' E' : List Str), Off j H H' → Jar H' j → WdJ j H' p B' E' → isRound B' = true → isEnding E' = true → EqE L (ords B) (ords E) (ords B') (ords E') → Q (.ref p) H'
abbrev NSa : List Str := ["_law_jar_here", "_law_made", "_law_last_here", "_law_begun", "_law_ended", "_law_way", "_law_at", "_law_step_here", "_law_pairs", "_law_each"]
theorem scSa : FnScope NSa ["_law_jar_here", "_law_made", "_law_last_here"] (defScope sSa) := ⟨rfl, rfl, rfl, by decide +kernel, rfl, by decide +kernel, by decide +kernel⟩
/-- pairs.get(each, each) -/
def tSw (a b : Str) : TE := fun σ H Q => ∃ (d : Addr) (x : Str), σ[8]? = some (some (.ref d)) ∧ σ[9]? = some (some (.str x)) ∧ H d = some (.dK (swD a b)) ∧ Q (.str (swW a b x)) H
theorem ok_sa (T : TxSa K mg) : FnOk P w K mg base CX0 5 T.sa.f T.sa.fd ["_law_jar_here", "_law_made", "_law_last_here"] spSa := by
  have GS : FnOk P w K mg base CX0 1 T.N.R.D.sip.f T.N.R.D.sip.fd ["_law_jar_here", "_law_many"] spSip := gk_sip T.N.R.D
  have GF : FnOk P w K mg base CX0 2 T.N.R.D.frm.f T.N.R.D.frm.fd ["_law_jar_here", "_law_things"] (spFrom K) := gk_from T.N.R.D
  refine T.sa.F.ok scSa (fun vs H Q E h => ?_) (fun cdv A outer s H vs Q E hr h => ?_)
  · obtain ⟨j, ma, B, E', L, rfl, _⟩ := h
    rfl
  · obtain ⟨j, ma, B, E', L, rfl, hJ, hW, rB, rE, k⟩ := h
    have hr1 : Room 1 _ := hr.mono (by decide)
    have hr2 : Room 2 _ := hr.mono (by decide)
    have hu := hu_of hr
    refine ⟨_, (pss_cons (ps_par3 (i := 3) (j := 4) (l := 5) rfl scSa.nd rfl rfl rfl (by decide) (by decide) (by decide) rfl rfl rfl (pa_cons (pe_callTy call_list_of (by rfl) T.N.R.B.list (by decide +kernel) (pa_cons (pe_ix ix_tup (pv 1) pe_int (fun _ _ => rfl)) pa_nil)) (pa_cons (pe_callTy call_list_of (by rfl) T.N.R.B.list (by decide +kernel) (pa_cons (pe_ix ix_tup (pv 1) pe_int (fun _ _ => rfl)) pa_nil)) (pa_cons (pe_call GS hr1 rfl T.N.R.D.sip.g T.N.R.D.sip.k T.N.R.D.sip.b .nil pass0 (pa_cons (pv 0) (pa_cons pe_int pa_nil))) pa_nil))) (by rfl)) (C8.pss_cut (ps_if (PW.pt (pw_or (pt_cmpR op_gt (pe_callB call_len_seq (by rfl) T.N.R.D.J.len PySem.boot_len (pa_cons (pv 3) pa_nil)) pe_int (nomark _)) (pw_or1 (pt_cmpR op_gt (pe_callB call_len_seq (by rfl) T.N.R.D.J.len PySem.boot_len (pa_cons (pv 4) pa_nil)) pe_int (nomark _))))) (pss_one (ps_ret (pe_tup (pa_cons (pv 3) (pa_cons (pv 4) pa_nil))))) pss_nil) (pss_cons (ps_set (i := 6) scSa.nd rfl (.inl rfl) (pe_op op_add pe_int (pe_call GS hr1 rfl T.N.R.D.sip.g T.N.R.D.sip.k T.N.R.D.sip.b .nil pass0 (pa_cons (pv 0) (pa_cons (pe_callB call_len_seq (by rfl) T.N.R.D.J.len PySem.boot_len (pa_cons (pv 3) pa_nil)) pa_nil))))) (pss_cons (ps_if (pt_cmpR op_eq (pv 5) pe_int (nomark _)) (pss_one (ps_ret (pe_tup (pa_cons (pe_op op_cat (pv 3) (pe_lst (pa_cons pe_str pa_nil))) (pa_cons (pv 4) pa_nil))))) pss_nil) (C8.pss_cut (ps_if (PW.pt (pw_and (pt_cmpR op_eq (pv 5) pe_int (nomark _)) (pw_and1 (pt_cmpR op_eq (pv 2) pe_str (nomark _))))) (pss_cons (ps_set (i := 7) scSa.nd rfl (.inl rfl) (pe_call GF hr2 rfl T.N.R.D.frm.g T.N.R.D.frm.k T.N.R.D.frm.b .nil pass0 (pa_cons (pv 0) (pa_cons (pe_lst (pa_cons pe_str (pa_cons pe_str (pa_cons pe_str (pa_cons pe_str (pa_cons pe_str pa_nil)))))) pa_nil)))) (pss_one (ps_ret (pe_tup (pa_cons (pe_op op_cat (pe_op op_cat (pe_slice sl_list (pv 3) po_none (po_some (pv 6))) (pe_lst (pa_cons (pe_op op_add_str pe_str (pv 7)) pa_nil))) (pe_slice sl_list (pv 3) (po_some (pv 6)) po_none)) (pa_cons (pv 4) pa_nil)))))) pss_nil) (pss_cons (ps_if (pt_cmpR op_eq (pv 5) pe_int (nomark _)) (pss_one (ps_ret (pe_tup (pa_cons (pv 3) (pa_cons (pe_op op_cat (pe_lst (pa_cons pe_str pa_nil)) (pv 4)) pa_nil))))) pss_nil) (pss_cons (ps_if (pt_cmpR op_eq (pv 5) pe_int (nomark _)) (C8.pss_cut (ps_set (i := 8) scSa.nd rfl (.inr rfl) (pe_disp (pps_cons pe_str pe_str (pps_cons pe_str pe_str pps_nil)) (by rfl) (by rfl) (fun z => by cases z) (by decide))) (pss_one (ps_ret (pe_tup (pa_cons (pe_lc (own := [("_law_each", 9)]) (g := gName 9) (tt := tYes) (te := tSw "cut" "rest:cut") rfl scSa.nd (pi_list (pv 3)) (blkOk_by (own := [("_law_each", 9)]) (N := NSa) (sc := defScope sSa) (by decide +kernel)) (fun _ _ _ _ _ => pg_name (i := 9) scSa.nd rfl (Or.inl rfl)) (fun _ _ _ _ _ => pts_nil) (fun _ _ _ _ _ => by exact pe_imp (t' := tSw "cut" "rest:cut") (pe_dget2 hu (pv 8) (pv 9) (pv 9) ⟨rfl, rfl, rfl, rfl⟩) (fun σ H1 Q1 ⟨d, x, h8, h9, hd, kk⟩ => ⟨_, h8, d, rfl, .inl ⟨_, .inl hd⟩, _, h9, _, h9, _, DGet.k (k := Sum.inr x) hd, by rw [sw_val]; exact kk⟩))) (pa_cons (pe_lc (own := [("_law_each", 9)]) (g := gName 9) (tt := tYes) (te := tSw "cut" "rest:cut") rfl scSa.nd (pi_list (pv 4)) (blkOk_by (own := [("_law_each", 9)]) (N := NSa) (sc := defScope sSa) (by decide +kernel)) (fun _ _ _ _ _ => pg_name (i := 9) scSa.nd rfl (Or.inl rfl)) (fun _ _ _ _ _ => pts_nil) (fun _ _ _ _ _ => by exact pe_imp (t' := tSw "cut" "rest:cut") (pe_dget2 hu (pv 8) (pv 9) (pv 9) ⟨rfl, rfl, rfl, rfl⟩) (fun σ H1 Q1 ⟨d, x, h8, h9, hd, kk⟩ => ⟨_, h8, d, rfl, .inl ⟨_, .inl hd⟩, _, h9, _, h9, _, DGet.k (k := Sum.inr x) hd, by rw [sw_val]; exact kk⟩))) pa_nil)))))) pss_nil) (pss_cons (ps_if (pt_cmpR op_eq (pv 5) pe_int (nomark _)) (C8.pss_cut (ps_set (i := 8) scSa.nd rfl (.inr rfl) (pe_disp (pps_cons pe_str pe_str (pps_cons pe_str pe_str pps_nil)) (by rfl) (by rfl) (fun z => by cases z) (by decide))) (pss_one (ps_ret (pe_tup (pa_cons (pe_lc (own := [("_law_each", 9)]) (g := gName 9) (tt := tYes) (te := tSw "add" "some:add") rfl scSa.nd (pi_list (pv 3)) (blkOk_by (own := [("_law_each", 9)]) (N := NSa) (sc := defScope sSa) (by decide +kernel)) (fun _ _ _ _ _ => pg_name (i := 9) scSa.nd rfl (Or.inl rfl)) (fun _ _ _ _ _ => pts_nil) (fun _ _ _ _ _ => by exact pe_imp (t' := tSw "add" "some:add") (pe_dget2 hu (pv 8) (pv 9) (pv 9) ⟨rfl, rfl, rfl, rfl⟩) (fun σ H1 Q1 ⟨d, x, h8, h9, hd, kk⟩ => ⟨_, h8, d, rfl, .inl ⟨_, .inl hd⟩, _, h9, _, h9, _, DGet.k (k := Sum.inr x) hd, by rw [sw_val]; exact kk⟩))) (pa_cons (pv 4) pa_nil)))))) pss_nil) (pss_cons (ps_if (pt_cmpR op_eq (pv 5) pe_int (nomark _)) (pss_one (ps_ret (pe_tup (pa_cons (pe_op op_cat (pv 3) (pe_lst (pa_cons pe_str (pa_cons (pe_call GF hr2 rfl T.N.R.D.frm.g T.N.R.D.frm.k T.N.R.D.frm.b .nil pass0 (pa_cons (pv 0) (pa_cons (pe_lst (pa_cons pe_str (pa_cons pe_str (pa_cons pe_str pa_nil)))) pa_nil))) pa_nil)))) (pa_cons (pv 4) pa_nil))))) pss_nil) (pss_one (ps_ret (pe_tup (pa_cons (pe_op op_cat (pe_op op_cat (pe_slice sl_list (pv 3) po_none (po_some (pv 6))) (pe_lst (pa_cons pe_str pa_nil))) (pe_slice sl_list (pv 3) (po_some (pv 6)) po_none)) (pa_cons (pv 4) pa_nil)))))))))))))), ?_⟩
    obtain ⟨a0, b0, nm, na, nb, hm, ha, hb⟩ := id hW.ex
    have lB := (round_sht rB).2
    have lE := (ending_sht rE).2
    have c0 : 1 ≤ B.length := List.length_pos_iff.mpr (round_ne rB)
    -- begun, ended, way
    refine ⟨_, rfl, ma, _, 0, _, rfl, rfl, SqT.of hm, rfl, a0, _, rfl, .inl (SqL.of ha), fun l1 nl1 => ?_⟩
    have s1 := same_new (o := .lst (svs B)) nl1
    refine ⟨_, rfl, ma, _, 1, _, rfl, rfl, SqT.of (s1 _ _ hm), rfl, b0, _, rfl, .inl (SqL.of (s1 _ _ hb)), fun l2 nl2 => ?_⟩
    have s2 := Same.trans s1 (same_new (o := .lst (svs E')) nl2)
    have h1 := same_new (o := .lst (svs E')) nl2 _ _ (show (upd H l1 (.lst (svs B))) l1 = _ from upd_same)
    have h2 : (upd (upd H l1 (.lst (svs B))) l2 (.lst (svs E'))) l2 = some (.lst (svs E')) := upd_same
    have j1 := jar_ne hJ nl1
    have j2 := jar_ne hJ (s1.free nl2)
    have J2 := hJ.same s2
    have o2 : Off j H _ := Same.off s2
    generalize upd (upd H l1 (.lst (svs B))) l2 (.lst (svs E')) = H2 at o2 h1 h2 J2 ⊢
    clear s1 s2 nl1 nl2 hm ha hb
    refine ⟨_, rfl, j, 7, rfl, J2, by decide, by decide, fun H3 d d0 d1 o3 J3 => ⟨_, _, _, rfl, ?_⟩⟩
    have g1 := o3 _ _ j1 h1
    have g2 := o3 _ _ j2 h2
    have o03 := o2.trans o3
    clear h1 h2 J2 o2 o3
    have fin : ∀ {H' : Hp} {p x y : Addr} {B' E'' : List Str}, Off j H H' → Jar H' j → x ≠ j → y ≠ j → H' p = none → H' x = some (.lst (svs B')) → H' y = some (.lst (svs E'')) → isRound B' = true → isEnding E'' = true → EqE L (ords B) (ords E') (ords B') (ords E'') → Q (.ref p) (upd H' p (.tup [.ref x, .ref y])) := fun {H' p x y B' E''} o J nx ny np hx hy r1 r2 eq => by
      have s := same_new (o := .tup [.ref x, .ref y]) np
      exact k _ p B' E'' (o.trans (Same.off s)) (J.same s) ⟨x, y, jar_ne J np, nx, ny, upd_same, s _ _ hx, s _ _ hy⟩ r1 r2 eq
    -- too long
    refine ⟨fun σ H' => (B.length ≤ 9 ∧ E'.length ≤ 4) ∧ σ = [some (.ref j), some (.ref ma), some (.str L), some (.ref l1), some (.ref l2), some (.int d), none, none, none, none] ∧ H3 = H', ?_, ?_⟩
    · have give : tRet (tTup (tCons (tVar 3) (tCons (tVar 4) tNil))) = tRet (tTup (tCons (tVar 3) (tCons (tVar 4) tNil))) := rfl
      refine ⟨_, rfl, l1, _, rfl, .inl (SqL.of g1), _, _, rfl, rfl, _, rfl, ?_⟩
      rw [svs_len']
      refine ite2 (fun c => ?_) (fun c => ?_)
      · exact ⟨_, rfl, _, rfl, (by show 2 ≤ sizeLine; decide), fun p np => fin o03 J3 j1 j2 np g1 g2 rB rE eqE_refl⟩
      · refine ⟨_, rfl, l2, _, rfl, .inl (SqL.of g2), _, _, rfl, rfl, _, rfl, ?_⟩
        rw [svs_len']
        refine ite2 (fun c2 => ?_) (fun c2 => ⟨⟨?_, ?_⟩, rfl, rfl⟩)
        · exact ⟨_, rfl, _, rfl, (by show 2 ≤ sizeLine; decide), fun p np => fin o03 J3 j1 j2 np g1 g2 rB rE eqE_refl⟩
        · have : ¬ (9 : Int) < (B.length : Int) := fun z => c (decide_eq_true z)
          omega
        · have : ¬ (4 : Int) < (E'.length : Int) := fun z => c2 (decide_eq_true z)
          omega
    rintro _ _ ⟨⟨l9, l4⟩, rfl, rfl⟩
    -- at
    refine ⟨_, rfl, _, rfl, l1, _, rfl, .inl (SqL.of g1), j, _, rfl, J3, by rw [svs_len']; omega, by rw [svs_len']; omega, fun H4 e e0 e1 o4 J4 => ⟨_, _, rfl, rfl, ?_⟩⟩
    rw [svs_len'] at e1
    obtain ⟨n, rfl⟩ := Int.eq_ofNat_of_zero_le e0
    have n1 : 1 ≤ 1 + n := by omega
    have en : (1 : Int) + (n : Int) = ((1 + n : Nat) : Int) := by omega
    have f1 := o4 _ _ j1 g1
    have f2 := o4 _ _ j2 g2
    have o04 := o03.trans o4
    clear g1 g2 o03 o4 J3
    -- a word put in
    have put : ∀ {H5 : Hp} {w : Str} {q : Addr} {Q' : VK}, Off j H H5 → Jar H5 j → q ≠ j → H5 l1 = some (.lst (svs B)) → H5 q = some (.lst (svs (B.take (1 + n) ++ [w]))) → isWord w rsteps = true → isAdd w = false →
        (∀ (H6 : Hp) (z : Addr), Same H5 H6 → z ≠ j → H6 z = some (.lst (svs (B.take (1 + n) ++ [w] ++ B.drop (1 + n)))) → isRound (B.take (1 + n) ++ [w] ++ B.drop (1 + n)) = true → Q' (.ref z) H6) →
        rSlL K (.ref l1) (some ((1 + n : Nat) : Int)) none H5 (fun v H6 => rCat (.ref q) v H6 Q') := fun {H5 w q Q'} o5 J5 qj hl hq w1 w2 kk => by
      refine sl_fromS (k := 1 + n) hl rfl fun x5 n5 H9 s9 h9 => ?_
      refine rcat_s (s9 _ _ hq) h9 (by rw [List.length_append, List.length_take, List.length_drop]; show min (1 + n) B.length + 1 + (B.length - (1 + n)) ≤ 1000; omega) fun x6 n6 H10 s10 h10 => ?_
      exact kk H10 x6 (Same.trans s9 s10) (jar_ne J5 (s9.free n6)) h10 (ins1 rB n1 l9 w1 w2)
    have l4' : ∀ x : Str, isWord x esteps = true → isEnding (x :: E') = true := fun x hx => isEnding_iff.mpr ⟨by rw [List.length_cons]; omega, fun w hw => by
      rcases List.mem_cons.mp hw with rfl | hw
      · exact hx
      · exact (isEnding_iff.mp rE).2 w hw⟩
    -- 0: again
    refine ⟨_, rfl, rfl, _, rfl, ite2 (fun _ => ?_) (fun _ => ?_)⟩
    · refine ⟨_, rfl, (by show 1 ≤ sizeLine; decide), fun x1 nx1 => ?_⟩
      have s5 := same_new (o := .lst (svs ["again"])) nx1
      refine rcat_s (s5 _ _ f1) (show (upd H4 x1 (.lst (svs ["again"]))) x1 = some (.lst (svs ["again"])) from upd_same) (by show B.length + 1 ≤ 1000; omega) fun x2 nx2 H6 s6 h6 => ?_
      have s46 := Same.trans s5 s6
      refine ⟨_, rfl, (by show 2 ≤ sizeLine; decide), fun p np => fin (o04.trans (Same.off s46)) (J4.same s46) (jar_ne J4 (s5.free nx2)) j2 np h6 (s46 _ _ f2) (behind rB (by show B.length + 1 ≤ 12; omega) fun w hw => by rw [List.mem_singleton.mp hw]; exact again_word) rE eqw0⟩
    -- 1: told words
    refine ⟨fun σ H' => σ = [some (.ref j), some (.ref ma), some (.str L), some (.ref l1), some (.ref l2), some (.int d), some (.int (1 + (n : Int))), none, none, none] ∧ H4 = H', ?_, ?_⟩
    · refine ⟨_, rfl, rfl, _, rfl, ite2 (fun _ => ?_) (fun _ => ⟨rfl, rfl⟩)⟩
      refine ⟨_, rfl, rfl, _, rfl, ite2 (fun cL => ?_) (fun _ => ⟨rfl, rfl⟩)⟩
      have hLe : L = "empty" := by simpa using cL
      refine ⟨_, rfl, (by show 5 ≤ sizeLine; decide), fun x1 nx1 => ?_⟩
      have s5 := same_new (o := .lst (svs ["hand", "flush", "cut", "stop", "again"])) nx1
      refine ⟨j, x1, _, rfl, J4.new nx1, jar_ne J4 nx1, SqL.of (xs := svs ["hand", "flush", "cut", "stop", "again"]) upd_same, by decide, by decide, fun H6 i6 y hy o6 J6 => ?_⟩
      rw [show svs ["hand", "flush", "cut", "stop", "again"] = (["hand", "flush", "cut", "stop", "again"] : List Str).map V.str from rfl, List.getElem?_map] at hy
      obtain ⟨x, hx, rfl⟩ := Option.map_eq_some_iff.mp hy
      obtain ⟨w1, w2, w3⟩ := told_words x (List.mem_of_getElem? hx)
      have o46 := (Same.off (j := j) s5).trans o6
      have k1 := o46 _ _ j1 f1
      have k2 := o46 _ _ j2 f2
      refine ⟨_, rfl, _, rfl, _, rfl, sl_toS (k := 1 + n) k1 en fun x2 n2 H7 s7 h7 => ?_⟩
      refine ⟨_, rfl, _, _, rfl, rfl, szl (n := ("told:" : Str).length + x.length) (by rw [show ("told:" : Str).length = 5 by decide +kernel]; omega), (by show 1 ≤ sizeLine; decide), fun x3 n3 => ?_⟩
      have s8 := same_new (o := .lst (svs [("told:" : Str) ++ x])) n3
      refine rcat_s (s8 _ _ h7) (show (upd H7 x3 (.lst (svs [("told:" : Str) ++ x]))) x3 = some (.lst (svs [("told:" : Str) ++ x])) from upd_same) (by rw [List.length_take]; show min (1 + n) B.length + 1 ≤ 1000; omega) fun x4 n4 H9 s9 h9 => ?_
      have s79 := Same.trans s7 (Same.trans s8 s9)
      refine ⟨_, rfl, _, rfl, _, rfl, nop ?_⟩
      rw [en]
      refine put (((o04.trans o46)).trans (Same.off s79)) (J6.same s79) (jar_ne J6 (s7.free (s8.free n4))) (s79 _ _ k1) h9 w1 w2 fun H10 z s10 zj hz rz => ?_
      exact ⟨_, rfl, (by show 2 ≤ sizeLine; decide), fun p np => fin (((o04.trans o46)).trans (Same.off (Same.trans s79 s10))) ((J6.same s79).same s10) zj j2 np hz (s10 _ _ (s79 _ _ k2)) rz rE (eqw1 hLe (List.mem_of_getElem? hx))⟩
    rintro _ _ ⟨rfl, rfl⟩
    -- 2: the ending
    refine ⟨_, rfl, rfl, _, rfl, ite2 (fun _ => ?_) (fun _ => ?_)⟩
    · refine ⟨_, rfl, (by show 1 ≤ sizeLine; decide), fun x1 nx1 => ?_⟩
      have s5 := same_new (o := .lst (svs ["bare:cut"])) nx1
      refine ⟨_, rfl, rcat_s (show (upd H4 x1 (.lst (svs ["bare:cut"]))) x1 = some (.lst (svs ["bare:cut"])) from upd_same) (s5 _ _ f2) (by show 1 + E'.length ≤ 1000; omega) fun x2 nx2 H6 s6 h6 => ?_⟩
      have s46 := Same.trans s5 s6
      exact ⟨(by show 2 ≤ sizeLine; decide), fun p np => fin (o04.trans (Same.off s46)) (J4.same s46) j1 (jar_ne J4 (s5.free nx2)) np (s46 _ _ f1) h6 rB (l4' "bare:cut" bare_cut.2.1) eqw2⟩
    -- 3
    refine ⟨_, rfl, rfl, _, rfl, ite2 (fun _ => ?_) (fun _ => ?_)⟩
    · refine ⟨fun σ H' => ∃ dd : Addr, σ = [some (.ref j), some (.ref ma), some (.str L), some (.ref l1), some (.ref l2), some (.int d), some (.int (1 + (n : Int))), none, some (.ref dd), none] ∧ Same H4 H' ∧ H' dd = some (.dK (swD "cut" "rest:cut")), ?_, ?_⟩
      · refine fun p np => ⟨upd_same, swD "cut" "rest:cut", rfl, by decide, ?_⟩
        rw [show mergeK [] (swD "cut" "rest:cut") = swD "cut" "rest:cut" by kernel_rfl]
        exact ⟨p, rfl, fun b o z => by rw [upd_ne (ne_of_none z np), upd_ne (ne_of_none z np)]; exact z, upd_same⟩
      rintro _ H5 ⟨dd, rfl, s5, hd⟩
      refine ⟨_, rfl, l1, rfl, ⟨_, SqL.of (s5 _ _ f1)⟩, fun D nD => ?_⟩
      refine lc_list (K := K) (a := l1) (xs := svs B) (fun i H' => Same H5 H' ∧ H' D = some (.lst (svs ((B.take i).map (swW "cut" "rest:cut"))))) ⟨same_new nD, upd_same⟩ (fun i H' _ ⟨s', _⟩ => SqL.of (s' _ _ ((s5 _ _ f1)))) ?_ ?_
      · rintro i y H' hy ⟨s', hD⟩
        rw [show svs B = B.map V.str from rfl, List.getElem?_map] at hy
        obtain ⟨x, hx, rfl⟩ := Option.map_eq_some_iff.mp hy
        refine ⟨rfl, dd, x, rfl, rfl, s' _ _ (hd), _, hD, ?_, fun b o z => ?_, ?_⟩
        · rw [svs_len', List.length_map, List.length_take]
          exact szM (by omega)
        · rw [upd_ne (ne_of_none z nD)]
          exact s' _ _ z
        · rw [upd_same, take_snocS hx, List.map_append]
          simp [svs]
      rintro H6 ⟨s6, hD6⟩
      rw [svs_len', List.take_length] at hD6
      refine ⟨_, rfl, l2, rfl, ⟨_, SqL.of (s6 _ _ (s5 _ _ f2))⟩, fun D2 nD2 => ?_⟩
      refine lc_list (K := K) (a := l2) (xs := svs E') (fun i H' => Same H6 H' ∧ H' D2 = some (.lst (svs ((E'.take i).map (swW "cut" "rest:cut"))))) ⟨same_new nD2, upd_same⟩ (fun i H' _ ⟨s', _⟩ => SqL.of (s' _ _ ((s6 _ _ (s5 _ _ f2))))) ?_ ?_
      · rintro i y H' hy ⟨s', hD⟩
        rw [show svs E' = E'.map V.str from rfl, List.getElem?_map] at hy
        obtain ⟨x, hx, rfl⟩ := Option.map_eq_some_iff.mp hy
        refine ⟨rfl, dd, x, rfl, rfl, s' _ _ (s6 _ _ hd), _, hD, ?_, fun b o z => ?_, ?_⟩
        · rw [svs_len', List.length_map, List.length_take]
          exact szM (by omega)
        · rw [upd_ne (ne_of_none z nD2)]
          exact s' _ _ z
        · rw [upd_same, take_snocS hx, List.map_append]
          simp [svs]
      rintro H7 ⟨s7, hD7⟩
      rw [svs_len', List.take_length] at hD7
      have s47 := Same.trans s5 (Same.trans s6 s7)
      exact ⟨(by show 2 ≤ sizeLine; decide), fun p np => fin (o04.trans (Same.off s47)) (J4.same s47) (jar_ne (J4.same s5) nD) (jar_ne (J4.same (Same.trans s5 s6)) nD2) np (s7 _ _ hD6) hD7 (sw_round ask_cut (by decide +kernel) (by decide +kernel) (by decide +kernel) rB) (sw_ending (by decide +kernel) (by decide +kernel) rE) eqw3⟩
    -- 4
    refine ⟨_, rfl, rfl, _, rfl, ite2 (fun _ => ?_) (fun _ => ?_)⟩
    · refine ⟨fun σ H' => ∃ dd : Addr, σ = [some (.ref j), some (.ref ma), some (.str L), some (.ref l1), some (.ref l2), some (.int d), some (.int (1 + (n : Int))), none, some (.ref dd), none] ∧ Same H4 H' ∧ H' dd = some (.dK (swD "add" "some:add")), ?_, ?_⟩
      · refine fun p np => ⟨upd_same, swD "add" "some:add", rfl, by decide, ?_⟩
        rw [show mergeK [] (swD "add" "some:add") = swD "add" "some:add" by kernel_rfl]
        exact ⟨p, rfl, fun b o z => by rw [upd_ne (ne_of_none z np), upd_ne (ne_of_none z np)]; exact z, upd_same⟩
      rintro _ H5 ⟨dd, rfl, s5, hd⟩
      refine ⟨_, rfl, l1, rfl, ⟨_, SqL.of (s5 _ _ f1)⟩, fun D nD => ?_⟩
      refine lc_list (K := K) (a := l1) (xs := svs B) (fun i H' => Same H5 H' ∧ H' D = some (.lst (svs ((B.take i).map (swW "add" "some:add"))))) ⟨same_new nD, upd_same⟩ (fun i H' _ ⟨s', _⟩ => SqL.of (s' _ _ ((s5 _ _ f1)))) ?_ ?_
      · rintro i y H' hy ⟨s', hD⟩
        rw [show svs B = B.map V.str from rfl, List.getElem?_map] at hy
        obtain ⟨x, hx, rfl⟩ := Option.map_eq_some_iff.mp hy
        refine ⟨rfl, dd, x, rfl, rfl, s' _ _ (hd), _, hD, ?_, fun b o z => ?_, ?_⟩
        · rw [svs_len', List.length_map, List.length_take]
          exact szM (by omega)
        · rw [upd_ne (ne_of_none z nD)]
          exact s' _ _ z
        · rw [upd_same, take_snocS hx, List.map_append]
          simp [svs]
      rintro H6 ⟨s6, hD6⟩
      rw [svs_len', List.take_length] at hD6
      have s46 := Same.trans s5 s6
      exact ⟨_, rfl, (by show 2 ≤ sizeLine; decide), fun p np => fin (o04.trans (Same.off s46)) (J4.same s46) (jar_ne (J4.same s5) nD) j2 np hD6 (s46 _ _ f2) (sw_round ask_add (by decide +kernel) (by decide +kernel) (by decide +kernel) rB) rE eqw4⟩
    -- 5: words behind
    refine ⟨_, rfl, rfl, _, rfl, ite2 (fun _ => ?_) (fun _ => ?_)⟩
    · refine ⟨_, rfl, _, rfl, (by show 3 ≤ sizeLine; decide), fun x1 nx1 => ?_⟩
      have s5 := same_new (o := .lst (svs ["hand", "stop", "flush"])) nx1
      refine ⟨j, x1, _, rfl, J4.new nx1, jar_ne J4 nx1, SqL.of (xs := svs ["hand", "stop", "flush"]) upd_same, by decide, by decide, fun H6 i6 y hy o6 J6 => ?_⟩
      rw [show svs ["hand", "stop", "flush"] = (["hand", "stop", "flush"] : List Str).map V.str from rfl, List.getElem?_map] at hy
      obtain ⟨x, hx, rfl⟩ := Option.map_eq_some_iff.mp hy
      have w1 := more_words x (List.mem_of_getElem? hx)
      have o46 := (Same.off (j := j) s5).trans o6
      have k1 := o46 _ _ j1 f1
      have k2 := o46 _ _ j2 f2
      refine ⟨(by show 2 ≤ sizeLine; decide), fun x2 nx2 => ?_⟩
      have s7 := same_new (o := .lst (svs ["again", x])) nx2
      refine rcat_s (s7 _ _ k1) (show (upd H6 x2 (.lst (svs ["again", x]))) x2 = some (.lst (svs ["again", x])) from upd_same) (by show B.length + 2 ≤ 1000; omega) fun x3 nx3 H8 s8 h8 => ?_
      have s68 := Same.trans s7 s8
      exact ⟨_, rfl, (by show 2 ≤ sizeLine; decide), fun p np => fin ((o04.trans o46).trans (Same.off s68)) (J6.same s68) (jar_ne J6 (s7.free nx3)) j2 np h8 (s68 _ _ k2) (behind rB (by show B.length + 2 ≤ 12; omega) fun w hw => by
        rcases List.mem_cons.mp hw with rfl | hw
        · exact again_word
        · rw [List.mem_singleton.mp hw]; exact w1) rE eqw5⟩
    -- 6: bare:cut
    refine ⟨_, rfl, _, rfl, _, rfl, sl_toS (k := 1 + n) f1 en fun x2 n2 H7 s7 h7 => ?_⟩
    refine ⟨(by show 1 ≤ sizeLine; decide), fun x3 n3 => ?_⟩
    have s8 := same_new (o := .lst (svs ["bare:cut"])) n3
    refine rcat_s (s8 _ _ h7) (show (upd H7 x3 (.lst (svs ["bare:cut"]))) x3 = some (.lst (svs ["bare:cut"])) from upd_same) (by rw [List.length_take]; show min (1 + n) B.length + 1 ≤ 1000; omega) fun x4 n4 H9 s9 h9 => ?_
    have s79 := Same.trans s7 (Same.trans s8 s9)
    refine ⟨_, rfl, _, rfl, _, rfl, nop ?_⟩
    rw [en]
    refine put (o04.trans (Same.off s79)) (J4.same s79) (jar_ne J4 (s7.free (s8.free n4))) (s79 _ _ f1) h9 bare_cut.1 bare_cut.2.2 fun H10 z s10 zj hz rz => ?_
    exact ⟨_, rfl, (by show 2 ≤ sizeLine; decide), fun p np => fin (o04.trans (Same.off (Same.trans s79 s10))) ((J4.same s79).same s10) zj j2 np hz (s10 _ _ (s79 _ _ f2)) rz rE eqw6⟩
end
end My

/-! Execution.answer_nothing -/
namespace My
open PySem L2 Cm LM EM CoM
abbrev sXN : Stmt := inClass (top 12) 2
structure TxXn (K : PySem.W.Frag) (mg : Str → Option Value) where
  X : TxX K mg
  no : Mt K X.C "answer_nothing" "Execution.answer_nothing" sXN ["self", "told"]
section
variable {P : Program} {w : World} {K : PySem.W.Frag} {mg : Str → Option Value} {base : Heap}
theorem xf_noN (ro eo : Addr) (ak sz : Nat) (h : Addr) (t : Bool) (r p : Addr) (st : Bool) : (xf ro eo ak sz h t r p st).lookup ("answer_nothing" : Str) = none := by kernel_rfl
def spXN (C : Addr) : Sp := fun vs H Q _ => ∃ (o dx ro eo p : Addr) (ak sz : Nat) (held0 : List Int) (told0 told : Bool) (x : RP) (st : Bool) (rs es : List (Str × Str)) (k c : Nat), vs = [.ref o, .bl told] ∧ ExAt C H o dx ro eo p ak sz held0 told0 x st ∧ OrdT H ro rs ∧ OrdT H eo es ∧ rs.length ≤ 12 ∧ es.length ≤ 6 ∧ 1 ≤ sz ∧ sz ≤ 1000 ∧ Few sz k c x ∧ k ≤ 2000 ∧ c ≤ 7000000 ∧
  ∀ (H' : Hp) (held' : List Int) (told' : Bool), Off2 o p H H' → ExAt C H' o dx ro eo p (noS sz rs es told 4 none ⟨x, ak, st⟩).ak sz held' told' (noS sz rs es told 4 none ⟨x, ak, st⟩).x (noS sz rs es told 4 none ⟨x, ak, st⟩).st → Q .non H'
theorem scXN : FnScope ["self", "told", "many"] ["self", "told"] (defScope sXN) := ⟨rfl, rfl, rfl, by decide +kernel, rfl, by decide +kernel, by decide +kernel⟩
/-- many, as the text holds it -/
def manyV : Option Nat → V
  | none => .int (-1)
  | some l => .int (l : Nat)
theorem scal_many (n : Nat) (mo : Option Nat) : scal (.int (n : Nat)) (manyV mo) = true := by cases mo <;> rfl
theorem many_ne (n : Nat) (mo : Option Nat) : decide (V.int (n : Nat) = manyV mo) = decide (some n = mo) := by
  refine decide_eq_decide.mpr ?_
  cases mo with
  | none =>
    refine ⟨fun e => ?_, fun e => by cases e⟩
    have : ((n : Nat) : Int) = -1 := V.int.inj e
    omega
  | some l =>
    refine ⟨fun e => ?_, fun e => by cases e; rfl⟩
    have : ((n : Nat) : Int) = ((l : Nat) : Int) := V.int.inj e
    rw [show n = l by omega]
theorem ok_xn (T : TxXn K mg) : FnOk P w K mg base CX0 5 T.no.f T.no.fd ["self", "told"] (spXN T.X.C) := by
  have GA : FnOk P w K mg base CX0 4 T.X.an.f T.X.an.fd ["self", "held", "told"] (spXA T.X.C) := ok_xa T.X
  refine T.no.F.ok scXN (fun vs H Q E h => ?_) (fun cdv A outer s H vs Q E hr h => ?_)
  · obtain ⟨o, _, _, _, _, _, _, _, _, _, _, _, _, _, _, _, rfl, _⟩ := h
    rfl
  · obtain ⟨o, dx, ro, eo, p, ak, sz, held0, told0, told, x, st, rs, es, kk, cc, rfl, hX, hRo, hEo, l1, l2, z1, z2, few, hk, hc, k⟩ := h
    refine ⟨_, (pss_cons (ps_set (i := 2) scXN.nd rfl (.inl rfl) (pe_un un_neg pe_int)) (pss_one (ps_while PassesOwn.never (PW.pt (pw_and (pt_not (pt_val (pe_fld (pv 0) rfl))) (pw_and1 (pt_cmpR op_ne (pe_callB call_len_seq (by rfl) T.X.len PySem.boot_len (pa_cons (pe_fld (pv 0) rfl) pa_nil)) (pv 2) (nomark _))))) (pss_cons (ps_set (i := 2) scXN.nd rfl (.inl rfl) (pe_callB call_len_seq (by rfl) T.X.len PySem.boot_len (pa_cons (pe_fld (pv 0) rfl) pa_nil))) (pss_one (ps_expr (pe_meth (pv 0) T.X.cl T.X.an.m GA hr T.X.an.b .nil pass0 (pa_cons (pe_tup pa_nil) (pa_cons (pv 1) pa_nil))))))))), ?_⟩
    refine ⟨_, rfl, ?_⟩
    refine ⟨fun m σ H' => ∃ (mo : Option Nat) (s : WS) (held' : List Int) (told' : Bool), σ = [some (.ref o), some (.bl told), some (manyV mo)] ∧ Off2 o p H H' ∧ ExAt T.X.C H' o dx ro eo p s.ak sz held' told' s.x s.st ∧ noS sz rs es told m mo s = noS sz rs es told 4 none ⟨x, ak, st⟩ ∧ m ≤ 4 ∧ 1 ≤ m ∧ (s.st = false → rk sz s.x.rest.length + 1 + (if some s.x.rest.length = mo then 0 else 1) ≤ m) ∧ Few sz (kk + 18 * (4 - m)) (cc + (4 - m) * 37800) s.x, ⟨4, none, ⟨x, ak, st⟩, held0, told0, rfl, Off2.refl, hX, rfl, Nat.le_refl _, by decide, fun _ => ?_, by simpa using few⟩, ?_⟩
    · have := rk_le sz x.rest.length
      rw [if_neg (by intro z; cases z)]
      show rk sz x.rest.length + 1 + 1 ≤ 4
      omega
    · rintro m σ H1 ⟨mo, s', held', told', rfl, o1, X1, en, m4, m1, hm, fw⟩
      obtain ⟨h0, r0, vs0, e0, _, hr0, _⟩ := id X1.ex
      refine ⟨_, rfl, o, T.X.C, dx, _, _, rfl, e0, T.X.cl, T.X.nSt, xf_st .., _, rfl, ?_⟩
      obtain ⟨m, rfl⟩ : ∃ n, m = n + 1 := ⟨m - 1, by omega⟩
      have out : (s'.st = true ∨ some s'.x.rest.length = mo) → Q .non H1 := fun hd => by
        have es' : noS sz rs es told (m + 1) mo s' = s' := by
          show (if s'.st = true then s' else if some s'.x.rest.length = mo then s' else _) = s'
          rcases hd with hd | hd
          · rw [if_pos hd]
          · by_cases c : s'.st = true
            · rw [if_pos c]
            · rw [if_neg c, if_pos hd]
        rw [es'] at en
        refine k H1 held' told' o1 ?_
        rw [← en]
        exact X1
      cases hst : s'.st with
      | true => exact iteF (iteF (out (.inl hst)))
      | false =>
        refine iteT ?_
        refine ⟨_, rfl, o, T.X.C, dx, _, _, rfl, e0, T.X.cl, T.X.nR, xf_r .., r0, _, rfl, .inr (SqT.of hr0), ?_⟩
        rw [ivs_len]
        refine ⟨_, rfl, scal_many _ mo, _, rfl, ?_⟩
        rw [many_ne]
        by_cases hq : some s'.x.rest.length = mo
        · rw [decide_eq_true hq]
          exact iteF (out (.inr hq))
        · rw [decide_eq_false hq]
          refine iteT ?_
          have hm := hm hst
          rw [if_neg hq] at hm
          refine ⟨fun σ' H' => ∃ (mo : Option Nat) (s : WS) (held' : List Int) (told' : Bool), σ' = [some (.ref o), some (.bl told), some (manyV mo)] ∧ Off2 o p H H' ∧ ExAt T.X.C H' o dx ro eo p s.ak sz held' told' s.x s.st ∧ noS sz rs es told m mo s = noS sz rs es told 4 none ⟨x, ak, st⟩ ∧ m ≤ 4 ∧ 1 ≤ m ∧ (s.st = false → rk sz s.x.rest.length + 1 + (if some s.x.rest.length = mo then 0 else 1) ≤ m) ∧ Few sz (kk + 18 * (4 - m)) (cc + (4 - m) * 37800) s.x, fun σ' H' q => ⟨m, Nat.lt_succ_self m, q⟩, ?_⟩
          refine ⟨_, rfl, o, T.X.C, dx, _, _, rfl, e0, T.X.cl, T.X.nR, xf_r .., r0, _, rfl, .inr (SqT.of hr0), ?_⟩
          rw [ivs_len]
          refine ⟨_, rfl, o, dx, _, rfl, e0, (xf_noA ..).1, Nat.zero_le _, fun t nt => ⟨_, rfl, ?_⟩⟩
          have s2 : Same H1 (upd H1 t (.tup [])) := same_new nt
          have X2 := X1.same s2
          rw [hst] at X2
          have ts2 : TS H (upd H1 t (.tup [])) := fun q xs e => s2 _ _ (o1.ts hX _ _ e)
          refine ⟨o, dx, ro, eo, p, t, s'.ak, sz, held', [], told', told, s'.x, rs, es, kk + 18 * (4 - (m + 1)), cc + (4 - (m + 1)) * 37800, rfl, X2, upd_same, hRo.ts ts2, hEo.ts ts2, l1, l2, ⟨z1, z2, Nat.zero_le _, by omega, by omega, fw⟩, by omega, by omega, fun H3 o3 X3 => ?_⟩
          have fa := few_ans (ro := rs) (eo := es) (held := []) (told := told) z1 (Nat.zero_le _) l1 l2 fw
          refine ⟨some s'.x.rest.length, ansS sz rs es [] told s', [], told, rfl, (o1.same s2).trans o3, X3, ?_, by omega, by omega, fun ca => ?_, fa.mono (by omega) ?_⟩
          · rw [← en]
            show _ = (if s'.st = true then s' else if some s'.x.rest.length = mo then s' else _)
            rw [if_neg (by rw [hst]; decide), if_neg hq]
          · rcases rk_down z1 (no_rest ca) with y | y
            · rw [show (ansS sz rs es [] told s').x.rest.length = s'.x.rest.length from y, if_pos rfl]
              omega
            · have y' : rk sz (ansS sz rs es [] told s').x.rest.length < rk sz s'.x.rest.length := y
              split <;> omega
          · have b1 : 18 * (kk + 18 * (4 - (m + 1)) + 18) ≤ 37800 := by omega
            omega
end
end My

/-! Source.must_tell -/
namespace My
open PySem L2 Cm LM
abbrev sUM : Stmt := inClass (top 32) 6
def mustU (E : Str) (before after : Int) : Bool := if E = "empty" then false else if E = "behind" then decide (before = 0) else decide (after = 0)
structure TxUm (K : PySem.W.Frag) (mg : Str → Option Value) where
  U : TxU K mg
  mu : Mt K U.C "must_tell" "Source.must_tell" sUM ["self", "before", "after"]
section
variable {P : Program} {w : World} {K : PySem.W.Frag} {mg : Str → Option Value} {base : Heap}
def spUM (C : Addr) : Sp := fun vs H Q _ => ∃ (o : Addr) (A B E : Str) (before after : Int), vs = [.ref o, .int before, .int after] ∧ SrcU C H o A B E ∧ Q (.bl (mustU E before after)) H
theorem scUM : FnScope ["self", "before", "after"] ["self", "before", "after"] (defScope sUM) := ⟨rfl, rfl, rfl, by decide +kernel, rfl, by decide +kernel, by decide +kernel⟩
theorem ok_um (M : TxUm K mg) : FnOk P w K mg base CX0 1 M.mu.f M.mu.fd ["self", "before", "after"] (spUM M.U.C) := by
  refine M.mu.F.ok scUM (fun vs H Q E h => ?_) (fun cdv A outer s H vs Q E hr h => ?_)
  · obtain ⟨o, A, B, E, l, c, rfl, _⟩ := h
    rfl
  · obtain ⟨o, A, B, E, l, c, rfl, ⟨dx, ho⟩, k⟩ := h
    refine ⟨_, pss_cons (ps_if (pt_cmpR op_eq (pe_fld (pv 0) rfl) pe_str (nomark _)) (pss_one (ps_ret pe_bl)) pss_nil)
      (pss_cons (ps_if (pt_cmpR op_eq (pe_fld (pv 0) rfl) pe_str (nomark _)) (pss_one (ps_ret (pe_cmpR op_eq (pv 1) pe_int (nomark _)))) pss_nil)
      (pss_one (ps_ret (pe_cmpR op_eq (pv 2) pe_int (nomark _))))), ?_⟩
    unfold mustU at k
    refine ⟨_, rfl, o, M.U.C, dx, _, _, rfl, ho, M.U.cl, M.U.nE, uf_en _ _ _, rfl, _, rfl, ?_⟩
    rw [dS]
    refine ite2 (fun c1 => ?_) (fun c1 => ?_)
    · rw [if_pos (of_decide_eq_true c1)] at k
      exact k
    · rw [if_neg (fun e => c1 (decide_eq_true e))] at k
      refine ⟨_, rfl, o, M.U.C, dx, _, _, rfl, ho, M.U.cl, M.U.nE, uf_en _ _ _, rfl, _, rfl, ?_⟩
      rw [dS]
      refine ite2 (fun c2 => ?_) (fun c2 => ?_)
      · rw [if_pos (of_decide_eq_true c2)] at k
        refine ⟨_, rfl, rfl, ?_⟩
        rw [dI]
        exact k
      · rw [if_neg (fun e => c2 (decide_eq_true e))] at k
        refine ⟨_, rfl, rfl, ?_⟩
        rw [dI]
        exact k
end
end My

/-! exact_work, asked_at -/
namespace My
open PySem L2 Cm LM EM CoM
abbrev sEW : Stmt := top 37
structure TxEw (K : PySem.W.Frag) (mg : Str → Option Value) where
  N : TxN K mg
  Xn : TxXn K mg
  eX : Xn.X = N.X
  U : TxUm K mg
  min : mg "min" = none
  tuple : mg "tuple" = none
  ew : Df K mg "exact_work" sEW ["loop", "end", "items", "size"]
section
variable {P : Program} {w : World} {K : PySem.W.Frag} {mg : Str → Option Value} {base : Heap}
theorem isE_of {E : Str} (h : isEn E) : isE E := h
theorem must_eq (E : Str) (a b : Nat) : mustU E (a : Int) (b : Int) = tell E a b := by
  unfold mustU tell
  split
  · rfl
  split
  · exact decide_eq_decide.mpr (by omega)
  · exact decide_eq_decide.mpr (by omega)
def spEW (CL CX : Addr) : Sp := fun vs H Q _ => ∃ (o : Addr) (t E : Str) (N sz : Nat), vs = [.ref o, .str E, .int (N : Nat), .int (sz : Nat)] ∧ LoopAt CL H o t ∧ goodText t = true ∧ isEn E ∧ 1 ≤ sz ∧ sz ≤ 1000 ∧ N ≤ 60 ∧
  ∀ (H' : Hp) (x dx ro eo p : Addr) (held' : List Int) (told' : Bool), Same H H' → ExAt CX H' x dx ro eo p (wkS sz (ordsR t) (ordsE t) E N).ak sz held' told' (wkS sz (ordsR t) (ordsE t) E N).x (wkS sz (ordsR t) (ordsE t) E N).st → Q (.ref x) H'
theorem scEW : FnScope ["loop", "end", "items", "size", "source", "work", "first", "behind"] ["loop", "end", "items", "size"] (defScope sEW) := ⟨rfl, rfl, rfl, by decide +kernel, rfl, by decide +kernel, by decide +kernel⟩
theorem ok_ew (T : TxEw K mg) : FnOk P w K mg base CX0 6 T.ew.f T.ew.fd ["loop", "end", "items", "size"] (spEW T.N.T.C T.N.X.C) := by
  have GU : FnOk P w K mg base CX0 2 T.U.U.fI T.U.U.fdI ["self", "amount", "patience", "end"] (spUI T.U.U.C) := ok_ui T.U.U
  have GM : FnOk P w K mg base CX0 1 T.U.mu.f T.U.mu.fd ["self", "before", "after"] (spUM T.U.U.C) := ok_um T.U
  have GX : FnOk P w K mg base CX0 3 T.N.lx.f T.N.lx.fd ["self", "size", "kept"] (spLX T.N.T.C T.N.X.C) := ok_lx T.N
  have GA : FnOk P w K mg base CX0 4 T.N.X.an.f T.N.X.an.fd ["self", "held", "told"] (spXA T.N.X.C) := ok_xa T.N.X
  have GN : FnOk P w K mg base CX0 5 T.Xn.no.f T.Xn.no.fd ["self", "told"] (spXN T.N.X.C) := by
    rw [← T.eX]
    exact ok_xn T.Xn
  have mN : Meth K T.N.X.C "answer_nothing" T.Xn.no.f := by
    rw [← T.eX]
    exact T.Xn.no.m
  refine T.ew.F.ok scEW (fun vs H Q E h => ?_) (fun cdv A outer s H vs Q E hr h => ?_)
  · obtain ⟨o, t, E', N, sz, rfl, _⟩ := h
    rfl
  · obtain ⟨o, t, E', N, sz, rfl, hL, gt, hE, z1, z2, hN, k⟩ := h
    have hr1 : Room 1 _ := hr.mono (by decide)
    have hr3 : Room 3 _ := hr.mono (by decide)
    have hr4 : Room 4 _ := hr.mono (by decide)
    refine ⟨_, (pss_cons (ps_set (i := 4) scEW.nd rfl (.inl rfl) (pe_make T.U.U.MI GU hr3 rfl T.U.U.gC T.U.U.bI .nil pass0 (pa_cons pe_str (pa_cons pe_str (pa_cons (pv 1) pa_nil))))) (pss_cons (ps_set (i := 5) scEW.nd rfl (.inl rfl) (pe_meth (pv 0) T.N.T.cl T.N.lx.m GX hr3 T.N.lx.b .nil pass0 (pa_cons (pv 3) (pa_cons (pe_tup pa_nil) pa_nil)))) (pss_cons (ps_set (i := 6) scEW.nd rfl (.inl rfl) pe_int) (C8.pss_cut (ps_while PassesOwn.never (PW.pt (pw_and (pt_cmpR op_lt (pv 6) (pv 2) (nomark _)) (pw_and1 (pt_not (pt_val (pe_fld (pv 5) rfl)))))) (pss_cons (ps_set (i := 7) scEW.nd rfl (.inl rfl) (pe_callB (call_min2 rfl) (by rfl) T.min (by decide +kernel) (pa_cons (pe_op op_add (pv 6) (pv 3)) (pa_cons (pv 2) pa_nil)))) (pss_cons (ps_expr (pe_meth (pv 5) T.N.X.cl T.N.X.an.m GA hr4 T.N.X.an.b .nil pass0 (pa_cons (pe_tupRg rfl rfl T.tuple (prg_2 rfl T.N.X.range (pv 6) (pv 7))) (pa_cons (pe_meth (pv 4) T.U.U.cl T.U.mu.m GM hr1 T.U.mu.b .nil pass0 (pa_cons (pe_op op_sub (pv 2) (pv 6)) (pa_cons (pe_op op_sub (pv 2) (pv 7)) pa_nil))) pa_nil)))) (pss_one (ps_set (i := 6) scEW.nd rfl (.inl rfl) (pv 7)))))) (pss_cons (ps_expr (pe_meth (pv 5) T.N.X.cl mN GN hr T.Xn.no.b .nil pass0 (pa_cons (pe_meth (pv 4) T.U.U.cl T.U.mu.m GM hr1 T.U.mu.b .nil pass0 (pa_cons pe_int (pa_cons pe_int pa_nil))) pa_nil))) (pss_one (ps_ret (pv 5)))))))), ?_⟩
    refine ⟨_, rfl, ?_⟩
    intro u du nu ndu neu
    refine ⟨u, du, "exact", "prompt", E', rfl, .inl rfl, .inl rfl, hE, upd_same, fun H1 f1 hu => ⟨rfl, ?_⟩⟩
    have s1 : Same H H1 := made_same nu ndu fun b o nb e => f1 b o nb e
    have hU : SrcU T.U.U.C H1 u "exact" "prompt" E' := ⟨du, hu⟩
    obtain ⟨dlo, pr, pe, po, pq, elo, _⟩ := id (hL.same s1)
    refine ⟨_, rfl, o, dlo, _, rfl, elo, lf_no _ _ _ _ _ (by decide +kernel) (by decide +kernel) (by decide +kernel) (by decide +kernel) (by decide +kernel), _, rfl, Nat.zero_le _, fun t0 nt0 => ?_⟩
    have s2 := same_new (o := .tup []) nt0
    refine ⟨o, t0, t, sz, [], rfl, (hL.same s1).same s2, upd_same, fun H3 x dx ro eo p s3 nx np X3 hRo hEo => ?_⟩
    have s03 := Same.trans s1 (Same.trans s2 s3)
    have hU3 := hU.same (Same.trans s2 s3)
    have nx0 : H x = none := s1.free (s2.free nx)
    have np0 : H p = none := s1.free (s2.free np)
    have gn := good_iff.mp gt
    have lR : (ordsR t).length ≤ 12 := by rw [ordsR, List.length_map]; exact (round_sht gn.1).2
    have lE : (ordsE t).length ≤ 6 := by rw [ordsE, List.length_map]; exact (ending_sht gn.2).2
    generalize ordsR t = rs at k hRo lR
    generalize ordsE t = es at k hEo lE
    have ux : u ≠ x := ne_of_none (s2 _ _ hu) nx
    have up : u ≠ p := ne_of_none (s2 _ _ hu) np
    have srcK : ∀ {H' : Hp}, Off2 x p H3 H' → SrcU T.U.U.C H' u "exact" "prompt" E' := fun {H'} o2 => by
      obtain ⟨d3, e3⟩ := hU3
      exact ⟨d3, o2 _ _ ux up e3⟩
    -- the rounds with items
    refine ⟨fun σ H' => ∃ (first : Nat) (held' : List Int) (told' : Bool) (v7 : Option V), σ = [some (.ref o), some (.str E'), some (.int (N : Nat)), some (.int (sz : Nat)), some (.ref u), some (.ref x), some (.int (first : Nat)), v7] ∧ Off2 x p H3 H' ∧ ExAt T.N.X.C H' x dx ro eo p (exS sz rs es E' N (N + 1) 0 ⟨⟨[], []⟩, 0, false⟩).ak sz held' told' (exS sz rs es E' N (N + 1) 0 ⟨⟨[], []⟩, 0, false⟩).x (exS sz rs es E' N (N + 1) 0 ⟨⟨[], []⟩, 0, false⟩).st ∧ Few sz (18 * 60) (60 * 37800) (exS sz rs es E' N (N + 1) 0 ⟨⟨[], []⟩, 0, false⟩).x, ?_, ?_⟩
    · refine ⟨fun m σ H' => ∃ (first : Nat) (s : WS) (held' : List Int) (told' : Bool) (v7 : Option V), σ = [some (.ref o), some (.str E'), some (.int (N : Nat)), some (.int (sz : Nat)), some (.ref u), some (.ref x), some (.int (first : Nat)), v7] ∧ Off2 x p H3 H' ∧ ExAt T.N.X.C H' x dx ro eo p s.ak sz held' told' s.x s.st ∧ exS sz rs es E' N m first s = exS sz rs es E' N (N + 1) 0 ⟨⟨[], []⟩, 0, false⟩ ∧ first ≤ N ∧ N < first + m ∧ Few sz (18 * first) (first * 37800) s.x, ⟨N + 1, 0, ⟨⟨[], []⟩, 0, false⟩, [], false, none, rfl, Off2.refl, X3, rfl, Nat.zero_le _, by omega, ⟨Nat.zero_le _, Nat.zero_le _⟩⟩, ?_⟩
      rintro m σ H4 ⟨first, s', held', told', v7, rfl, o4, X4, en, f1', f2', fw⟩
      obtain ⟨m, rfl⟩ : ∃ n, m = n + 1 := ⟨m - 1, by omega⟩
      have out : ¬ (first < N ∧ s'.st = false) → ∃ (first : Nat) (held' : List Int) (told' : Bool) (v7' : Option V), [some (.ref o), some (.str E'), some (.int (N : Nat)), some (.int (sz : Nat)), some (.ref u), some (.ref x), some (.int (first : Nat)), v7] = [some (.ref o), some (.str E'), some (.int (N : Nat)), some (.int (sz : Nat)), some (.ref u), some (.ref x), some (.int (first : Nat)), v7'] ∧ Off2 x p H3 H4 ∧ ExAt T.N.X.C H4 x dx ro eo p (exS sz rs es E' N (N + 1) 0 ⟨⟨[], []⟩, 0, false⟩).ak sz held' told' (exS sz rs es E' N (N + 1) 0 ⟨⟨[], []⟩, 0, false⟩).x (exS sz rs es E' N (N + 1) 0 ⟨⟨[], []⟩, 0, false⟩).st ∧ Few sz (18 * 60) (60 * 37800) (exS sz rs es E' N (N + 1) 0 ⟨⟨[], []⟩, 0, false⟩).x := fun hd => by
        have e : exS sz rs es E' N (m + 1) first s' = s' := by
          show (if first < N ∧ s'.st = false then _ else s') = s'
          rw [if_neg hd]
        rw [e] at en
        rw [← en]
        exact ⟨first, held', told', v7, rfl, o4, X4, fw.mono (by omega) (by omega)⟩
      obtain ⟨h0, r0, vs0, e0, _, hr0, _⟩ := id X4.ex
      refine ⟨_, rfl, _, rfl, _, _, rfl, rfl, _, rfl, ?_⟩
      by_cases lt : first < N
      · rw [decide_eq_true (show ((first : Nat) : Int) < ((N : Nat) : Int) by omega)]
        refine iteT ?_
        refine ⟨_, rfl, x, T.N.X.C, dx, _, _, rfl, e0, T.N.X.cl, T.N.X.nSt, xf_st .., _, rfl, ?_⟩
        cases hst : s'.st with
        | true =>
          refine iteF ?_
          obtain ⟨f, a, b, c, d⟩ := out (fun z => by rw [hst] at z; cases z.2)
          exact ⟨first, a, b, v7, rfl, d.2⟩
        | false =>
          refine iteT ?_
          refine ⟨fun σ' H' => ∃ (first : Nat) (s : WS) (held' : List Int) (told' : Bool) (v7 : Option V), σ' = [some (.ref o), some (.str E'), some (.int (N : Nat)), some (.int (sz : Nat)), some (.ref u), some (.ref x), some (.int (first : Nat)), v7] ∧ Off2 x p H3 H' ∧ ExAt T.N.X.C H' x dx ro eo p s.ak sz held' told' s.x s.st ∧ exS sz rs es E' N m first s = exS sz rs es E' N (N + 1) 0 ⟨⟨[], []⟩, 0, false⟩ ∧ first ≤ N ∧ N < first + m ∧ Few sz (18 * first) (first * 37800) s.x, fun σ' H' q => ⟨m, Nat.lt_succ_self m, q⟩, ?_⟩
          refine ⟨_, rfl, _, rfl, _, _, rfl, rfl, _, rfl, _, _, rfl, ?_⟩
          have eb : (if ((N : Nat) : Int) < ((first : Nat) : Int) + ((sz : Nat) : Int) then ((N : Nat) : Int) else ((first : Nat) : Int) + ((sz : Nat) : Int)) = ((min (first + sz) N : Nat) : Int) := by
            split <;> omega
          rw [eb]
          have b1 : min (first + sz) N ≤ N := Nat.min_le_right _ _
          have b2 : first < min (first + sz) N := by omega
          have b3 : min (first + sz) N - first ≤ sz := by omega
          have enx : exS sz rs es E' N (m + 1) first s' = exS sz rs es E' N m (min (first + sz) N) (ansS sz rs es (itF first (min (first + sz) N - first)) (tell E' (N - first) (N - min (first + sz) N)) s') := by
            show (if first < N ∧ s'.st = false then _ else s') = _
            rw [if_pos ⟨lt, hst⟩]
          rw [enx] at en
          generalize min (first + sz) N = bh at en b1 b2 b3 ⊢
          refine ⟨_, rfl, x, dx, _, rfl, e0, (xf_noA ..).1, _, rfl, _, rfl, _, _, rfl, rfl, RgOk.of_le (by omega) (by omega) (by omega) (by omega), fun q nq => ?_⟩
          have eR : rgV ((first : Nat) : Int) ((bh : Nat) : Int) = ivs (itF first (bh - first)) := by
            rw [show ((bh : Nat) : Int) = ((first : Nat) : Int) + ((bh - first : Nat) : Int) by omega]
            exact rgV_items first (bh - first)
          rw [eR]
          have s5 : Same H4 (upd H4 q (.tup (ivs (itF first (bh - first))))) := same_new nq
          obtain ⟨du', hu'⟩ := (srcK o4).same s5
          refine ⟨_, rfl, u, du', _, rfl, hu', rfl, _, rfl, _, rfl, _, _, rfl, rfl, _, rfl, _, rfl, _, _, rfl, rfl, u, "exact", "prompt", E', _, _, rfl, ⟨du', hu'⟩, ?_⟩
          have et : mustU E' (((N : Nat) : Int) - ((first : Nat) : Int)) (((N : Nat) : Int) - ((bh : Nat) : Int)) = tell E' (N - first) (N - bh) := by
            rw [show ((N : Nat) : Int) - ((first : Nat) : Int) = ((N - first : Nat) : Int) by omega, show ((N : Nat) : Int) - ((bh : Nat) : Int) = ((N - bh : Nat) : Int) by omega, must_eq]
          rw [et]
          have X5 := X4.same s5
          rw [hst] at X5
          have ts5 : TS H3 (upd H4 q (.tup (ivs (itF first (bh - first))))) := fun a xs e => s5 _ _ (o4.ts X3 _ _ e)
          refine ⟨x, dx, ro, eo, p, q, s'.ak, sz, held', itF first (bh - first), told', tell E' (N - first) (N - bh), s'.x, rs, es, 18 * first, first * 37800, rfl, X5, upd_same, hRo.ts ts5, hEo.ts ts5, lR, lE, ⟨z1, z2, by rw [itF_len]; exact b3, by omega, by omega, fw⟩, by omega, by omega, fun H6 o6 X6 => ?_⟩
          have fa := few_ans (ro := rs) (eo := es) (held := itF first (bh - first)) (told := tell E' (N - first) (N - bh)) z1 (by rw [itF_len]; exact b3) lR lE fw
          exact ⟨_, rfl, bh, ansS sz rs es (itF first (bh - first)) (tell E' (N - first) (N - bh)) s', _, _, _, rfl, (o4.same s5).trans o6, X6, en, b1, by omega, fa.mono (by omega) (by omega)⟩
      · rw [decide_eq_false (show ¬ ((first : Nat) : Int) < ((N : Nat) : Int) by omega)]
        refine iteF ?_
        obtain ⟨f, a, b, c, d⟩ := out (fun z => lt z.1)
        exact ⟨first, a, b, v7, rfl, d.2⟩
    rintro _ H4 ⟨first, held', told', v7, rfl, o4, X4, fw⟩
    obtain ⟨h0, r0, vs0, e0, _⟩ := id X4.ex
    obtain ⟨du', hu'⟩ := srcK o4
    refine ⟨_, rfl, x, dx, _, rfl, e0, xf_noN .., _, rfl, u, du', _, rfl, hu', rfl, u, "exact", "prompt", E', 0, 0, rfl, ⟨du', hu'⟩, ?_⟩
    have et : mustU E' 0 0 = CoM.tl E' := by
      have := must_eq E' 0 0
      rw [tell_no (isE_of hE)] at this
      exact this
    rw [et]
    have ts4 : TS H3 H4 := fun a xs e => o4.ts X3 _ _ e
    refine ⟨x, dx, ro, eo, p, _, sz, held', told', CoM.tl E', _, _, rs, es, 18 * 60, 60 * 37800, rfl, X4, hRo.ts ts4, hEo.ts ts4, lR, lE, z1, z2, fw, by decide, by decide, fun H5 h5 t5 o5 X5 => ⟨_, rfl, k H5 x dx ro eo p h5 t5 (fun b u' e => ?_) X5⟩⟩
    exact o5 _ _ (ne_of_none e nx0) (ne_of_none e np0) (o4 _ _ (ne_of_none e nx0) (ne_of_none e np0) (s03 _ _ e))
end
end My

/-! check_loop, check_end of right arguments -/
namespace My
open PySem L2 Cm LM EM CoM
abbrev sCKL : Stmt := top 25
abbrev sCKE : Stmt := top 36
theorem adds_leR : ∀ B : List Str, adds (B.map orderOf) = (B.filter isAdd).length
  | [] => rfl
  | b :: r => by
    show isA (orderOf b).2 + adds (r.map orderOf) = _
    rw [adds_leR r]
    by_cases h : (orderOf b).2 = "add"
    · have : isAdd b = true := decide_eq_true h
      rw [List.filter_cons_of_pos this, List.length_cons, isA, if_pos h]
      omega
    · have : ¬ isAdd b = true := fun z => h (of_decide_eq_true z)
      rw [List.filter_cons_of_neg this, isA, if_neg h]
      omega
theorem one_add {t : Str} (g : goodText t = true) : adds (ordsR t) ≤ 1 := by
  unfold ordsR
  rw [adds_leR]
  exact round_adds (good_iff.mp g).1
structure TxCk (K : PySem.W.Frag) (mg : Str → Option Value) where
  W : TxEw K mg
  y1 : PySem.W.findIn K (.ref W.N.T.C) "__class__" = some (some (.builtin "object.__class__"))
  y2 : PySem.W.specialIn K (.builtin "object.__class__") "__get__" = some (some (.builtin "getset_descriptor.__get__"))
  y3 : PySem.W.takesIn K (.builtin "object.__class__") = some true
  y4 : PySem.W.mroIn K W.N.T.C (.type "object") = some true
  y5 : PySem.W.kitOne K (.ref W.N.T.C) (.ref W.N.T.C) = some true
  ckl : Df K mg "check_loop" sCKL ["loop"]
  cke : Df K mg "check_end" sCKE ["end"]
section
variable {P : Program} {w : World} {K : PySem.W.Frag} {mg : Str → Option Value} {base : Heap}
/-! ### check_loop, check_end of right arguments -/
def spCKL (C : Addr) : Sp := fun vs H Q _ => ∃ (lo : Addr) (t : Str), vs = [.ref lo] ∧ LoopAt C H lo t ∧ Q .non H
theorem scCKL : FnScope ["loop"] ["loop"] (defScope sCKL) := ⟨rfl, rfl, rfl, by decide +kernel, rfl, by decide +kernel, by decide +kernel⟩
theorem loop_ty (T : TxCk K mg) {H : Hp} {o : Addr} {t : Str} (h : LoopAt T.W.N.T.C H o t) : TyX K H (.ref o) (.ref T.W.N.T.C) := by
  obtain ⟨dx, pr, pe, po, pq, e, _⟩ := h
  exact .base (.ins e T.W.N.T.cl T.y1 T.y2 T.y3 T.y4)
theorem ok_ckl (T : TxCk K mg) : FnOk P w K mg base CX0 1 T.ckl.f T.ckl.fd ["loop"] (spCKL T.W.N.T.C) := by
  refine T.ckl.F.ok scCKL (fun vs H Q E h => ?_) (fun cdv A outer s H vs Q E hr h => ?_)
  · obtain ⟨lo, t, rfl, _⟩ := h
    rfl
  · obtain ⟨lo, t, rfl, hL, k⟩ := h
    exact ⟨_, (pss_one (ps_if (pt_not (pt_val (pe_callB call_isi (by rfl) T.W.U.U.isi (by decide +kernel) (pa_cons (pv 0) (pa_cons (pe_glob (v := .ref T.W.N.T.C) rfl T.W.N.T.gC rfl) pa_nil))))) (pss_one ps_never) pss_nil)), _, rfl, _, _, _, _, true, rfl, .own T.W.N.T.C, loop_ty T hL, T.y5, true, rfl, iteF k⟩
def spCKE : Sp := fun vs H Q _ => ∃ E : Str, vs = [.str E] ∧ isEn E ∧ Q .non H
theorem scCKE : FnScope ["end"] ["end"] (defScope sCKE) := ⟨rfl, rfl, rfl, by decide +kernel, rfl, by decide +kernel, by decide +kernel⟩
theorem ok_cke (T : TxCk K mg) : FnOk P w K mg base CX0 2 T.cke.f T.cke.fd ["end"] spCKE := by
  have G1 : FnOk P w K mg base CX0 1 T.W.U.U.ckw.f T.W.U.U.ckw.fd ["word", "words"] (spCKW K) := ok_ckw T.W.U.U
  refine T.cke.F.ok scCKE (fun vs H Q E h => ?_) (fun cdv A outer s H vs Q E hr h => ?_)
  · obtain ⟨E, rfl, _⟩ := h
    rfl
  · obtain ⟨E, rfl, hE, k⟩ := h
    refine ⟨_, (pss_one (ps_expr (pe_call G1 hr rfl T.W.U.U.ckw.g T.W.U.U.ckw.k T.W.U.U.ckw.b .nil pass0 (pa_cons (pv 0) (pa_cons (pe_glob (v := .ref T.W.U.U.pE) rfl T.W.U.U.gE rfl) pa_nil))))), ?_⟩
    refine ⟨_, rfl, E, T.W.U.U.pE, _, rfl, T.W.U.U.lE _, rfl, ?_, k⟩
    rcases hE with rfl | rfl | rfl <;> decide +kernel
end
end My

/-! pieces_at, is_unlike, first_unlike -/
namespace My
open PySem L2 Cm LM EM CoM
abbrev sPcA : Stmt := top 38
abbrev sIsU : Stmt := top 39
abbrev sFiU : Stmt := top 40
/-! ### rows of pieces as data -/
def pcT (l : List Int) : PyData := .tuple (l.map PyData.int)
theorem intA_lay : ∀ xs : List Int, PyData.canLayAll0 (xs.map PyData.int) = true
  | [] => by simp [PyData.canLayAll0]
  | x :: r => by
    have := intA_lay r
    simp only [List.map_cons, PyData.canLayAll0, PyData.canLay0, Bool.true_and] at this ⊢
    exact this
theorem intA_depth : ∀ xs : List Int, PyData.depthAll (xs.map PyData.int) ≤ 1
  | [] => by simp [PyData.depthAll]
  | x :: r => by
    have := intA_depth r
    simp only [List.map_cons, PyData.depthAll, PyData.depth] at this ⊢
    omega
theorem pcs_lay : ∀ ps : List (List Int), PyData.canLayAll0 (ps.map pcT) = true
  | [] => by simp [PyData.canLayAll0]
  | x :: r => by
    have := pcs_lay r
    have := intA_lay x
    simp only [List.map_cons, PyData.canLayAll0, pcT, PyData.canLay0, Bool.and_eq_true]
    exact ⟨intA_lay x, pcs_lay r⟩
theorem pcs_depth : ∀ ps : List (List Int), PyData.depthAll (ps.map pcT) ≤ 2
  | [] => by simp [PyData.depthAll]
  | x :: r => by
    have := pcs_depth r
    have := intA_depth x
    simp only [List.map_cons, PyData.depthAll, pcT, PyData.depth]
    omega
theorem pcs_shaped (ps : List (List Int)) : SeqAt.shaped (.list (ps.map pcT)) = true := by
  have := pcs_depth ps
  refine Bool.and_eq_true_iff.mpr ⟨by simp only [PyData.canLay0]; exact pcs_lay ps, decide_eq_true ?_⟩
  simp only [PyData.depth]
  omega
theorem eqvA_int : ∀ xs ys : List Int, PyData.eqvAll (xs.map PyData.int) (ys.map PyData.int) = decide (xs = ys)
  | [], [] => by simp [PyData.eqvAll]
  | [], y :: r => by simp [PyData.eqvAll]
  | x :: r, [] => by simp [PyData.eqvAll]
  | x :: r, y :: z => by
    rw [List.map_cons, List.map_cons, PyData.eqvAll, eqvA_int r z, PyData.eqv]
    by_cases h : x = y
    · subst h
      simp
    · simp [h]
theorem eqvA_pcs : ∀ xs ys : List (List Int), PyData.eqvAll (xs.map pcT) (ys.map pcT) = decide (xs = ys)
  | [], [] => by simp [PyData.eqvAll]
  | [], y :: r => by simp [PyData.eqvAll]
  | x :: r, [] => by simp [PyData.eqvAll]
  | x :: r, y :: z => by
    rw [List.map_cons, List.map_cons, PyData.eqvAll, eqvA_pcs r z, pcT, pcT, PyData.eqv, eqvA_int]
    by_cases h : x = y
    · subst h
      simp
    · simp [h]
theorem eqv_pcs (xs ys : List (List Int)) : PyData.eqv (.list (xs.map pcT)) (.list (ys.map pcT)) = decide (xs = ys) := by rw [PyData.eqv, eqvA_pcs]
theorem dp_ints {K : PySem.W.Frag} {H : Hp} : ∀ xs : List Int, DpAll K H (ivs xs) (xs.map PyData.int)
  | [] => .nil
  | x :: r => .cons (.int x) (dp_ints r)
theorem dp_pcs {K : PySem.W.Frag} {H : Hp} : ∀ {vs : List V} {ps : List (List Int)}, Pcs H vs ps → DpAll K H vs (ps.map pcT)
  | _, _, .nil => .nil
  | _, _, .cons h t => .cons (.tup (SqT.of h) (dp_ints _)) (dp_pcs t)
/-- what pieces_at returns -/
def PvAt (K : PySem.W.Frag) (H : Hp) (v : V) : Option (List (List Int)) → Prop
  | none => v = .non
  | some ps => ∃ u vs, v = .ref u ∧ H u = some (.lst vs) ∧ Pcs H vs ps
theorem PvAt.same {K : PySem.W.Frag} {H H' : Hp} {v : V} (s : Same H H') : ∀ {o : Option (List (List Int))}, PvAt K H v o → PvAt K H' v o
  | none, h => h
  | some ps, ⟨u, vs, a, b, c⟩ => ⟨u, vs, a, s _ _ b, c.mono fun _ _ q => s _ _ q⟩
def pvD : Option (List (List Int)) → PyData
  | none => .none
  | some ps => .list (ps.map pcT)
theorem PvAt.dp {K : PySem.W.Frag} {H : Hp} {v : V} : ∀ {o : Option (List (List Int))}, PvAt K H v o → Dp K H v (pvD o)
  | none, h => by rw [show v = .non from h]; exact .non
  | some ps, ⟨u, vs, a, b, c⟩ => by rw [a]; exact .lst (SqL.of b) (dp_pcs c)
theorem pv_shaped : ∀ o : Option (List (List Int)), SeqAt.shaped (pvD o) = true
  | none => by decide +kernel
  | some ps => pcs_shaped ps
theorem pv_eqv : ∀ a b : Option (List (List Int)), PyData.eqv (pvD a) (pvD b) = decide (a = b)
  | none, none => by simp [pvD, PyData.eqv]
  | none, some _ => by simp [pvD, PyData.eqv]
  | some _, none => by simp [pvD, PyData.eqv]
  | some a, some b => by
    show PyData.eqv (.list (a.map pcT)) (.list (b.map pcT)) = _
    rw [eqv_pcs]
    exact decide_eq_decide.mpr Option.some_inj.symm
structure TxFu (K : PySem.W.Frag) (mg : Str → Option Value) where
  C : TxCk K mg
  pa : Df K mg "pieces_at" sPcA ["loop", "end", "items", "size"]
  iu : Df K mg "is_unlike" sIsU ["loop", "other_loop", "end", "items", "size"]
  fu : Df K mg "first_unlike" sFiU ["loop", "other_loop", "end"]
  pT : Addr
  gT : mg "TELLING_SIZES" = some (.ref pT)
  lT : ∀ H, SqT K H pT [.int 1, .int 2]
  mt : ∃ t, mg "MOST_TELLING" = some (.int 30 t)
section
variable {P : Program} {w : World} {K : PySem.W.Frag} {mg : Str → Option Value} {base : Heap}
/-! ### pieces_at -/
def spPcA (K : PySem.W.Frag) (CL : Addr) : Sp := fun vs H Q _ => ∃ (o : Addr) (t E : Str) (N sz : Nat), vs = [.ref o, .str E, .int (N : Nat), .int (sz : Nat)] ∧ LoopAt CL H o t ∧ goodText t = true ∧ isEn E ∧ 1 ≤ sz ∧ sz ≤ 1000 ∧ N ≤ 60 ∧
  ∀ (H' : Hp) (v : V), Same H H' → PvAt K H' v (pcs (wkS sz (ordsR t) (ordsE t) E N)) → Q v H'
theorem scPcA : FnScope ["loop", "end", "items", "size", "work"] ["loop", "end", "items", "size"] (defScope sPcA) := ⟨rfl, rfl, rfl, by decide +kernel, rfl, by decide +kernel, by decide +kernel⟩
theorem ok_pca (T : TxFu K mg) : FnOk P w K mg base CX0 7 T.pa.f T.pa.fd ["loop", "end", "items", "size"] (spPcA K T.C.W.N.T.C) := by
  have GW : FnOk P w K mg base CX0 6 T.C.W.ew.f T.C.W.ew.fd ["loop", "end", "items", "size"] (spEW T.C.W.N.T.C T.C.W.N.X.C) := ok_ew T.C.W
  refine T.pa.F.ok scPcA (fun vs H Q E h => ?_) (fun cdv A outer s H vs Q E hr h => ?_)
  · obtain ⟨o, t, E', N, sz, rfl, _⟩ := h
    rfl
  · obtain ⟨o, t, E', N, sz, rfl, hL, gt, hE, z1, z2, hN, k⟩ := h
    refine ⟨_, (pss_cons (ps_set (i := 4) scPcA.nd rfl (.inl rfl) (pe_call GW hr rfl T.C.W.ew.g T.C.W.ew.k T.C.W.ew.b .nil pass0 (pa_cons (pv 0) (pa_cons (pv 1) (pa_cons (pv 2) (pa_cons (pv 3) pa_nil)))))) (pss_one (ps_ret (pe_ifExp (pt_val (pe_fld (pv 4) rfl)) (pe_fld (pv 4) rfl) pe_non)))), ?_⟩
    refine ⟨_, rfl, _, rfl, _, rfl, _, rfl, o, t, E', N, sz, rfl, hL, gt, hE, z1, z2, hN, fun H1 x dx ro eo p held' told' s1 X1 => ?_⟩
    obtain ⟨h0, r0, vs0, e0, _, _, hp, hP⟩ := id X1.ex
    refine ⟨_, rfl, x, T.C.W.N.X.C, dx, _, _, rfl, e0, T.C.W.N.X.cl, T.C.W.N.X.nSt, xf_st .., _, rfl, ?_⟩
    have k := fun v => k H1 v s1
    unfold pcs at k
    cases hst : (wkS sz (ordsR t) (ordsE t) E' N).st with
    | true =>
      rw [if_pos hst] at k
      exact iteT ⟨_, rfl, x, T.C.W.N.X.C, dx, _, _, rfl, e0, T.C.W.N.X.cl, T.C.W.N.X.nP, xf_p .., k _ ⟨p, vs0, rfl, hp, hP⟩⟩
    | false =>
      rw [if_neg (by rw [hst]; decide)] at k
      exact iteF (k _ rfl)
/-! ### is_unlike -/
abbrev L5 : List Str := ["loop", "other_loop", "end", "items", "size"]
def spIsU (CL : Addr) : Sp := fun vs H Q _ => ∃ (o o' : Addr) (t t' E : Str) (N sz : Nat), vs = [.ref o, .ref o', .str E, .int (N : Nat), .int (sz : Nat)] ∧ LoopAt CL H o t ∧ LoopAt CL H o' t' ∧ goodText t = true ∧ goodText t' = true ∧ isEn E ∧ 1 ≤ sz ∧ sz ≤ 1000 ∧ N ≤ 60 ∧
  ∀ H' : Hp, Same H H' → Q (.bl (unl (ordsR t) (ordsE t) (ordsR t') (ordsE t') E N sz)) H'
theorem scIsU : FnScope L5 L5 (defScope sIsU) := ⟨rfl, rfl, rfl, by decide +kernel, rfl, by decide +kernel, by decide +kernel⟩
theorem ok_isu (T : TxFu K mg) : FnOk P w K mg base CX0 8 T.iu.f T.iu.fd L5 (spIsU T.C.W.N.T.C) := by
  have GP : FnOk P w K mg base CX0 7 T.pa.f T.pa.fd ["loop", "end", "items", "size"] (spPcA K T.C.W.N.T.C) := ok_pca T
  refine T.iu.F.ok scIsU (fun vs H Q E h => ?_) (fun cdv A outer s H vs Q E hr h => ?_)
  · obtain ⟨o, o', t, t', E', N, sz, rfl, _⟩ := h
    rfl
  · obtain ⟨o, o', t, t', E', N, sz, rfl, hL, hL', gt, gt', hE, z1, z2, hN, k⟩ := h
    refine ⟨_, (pss_one (ps_ret (pe_cmpR (op_neD (hu64 hr)) (pe_call GP hr rfl T.pa.g T.pa.k T.pa.b .nil pass0 (pa_cons (pv 0) (pa_cons (pv 2) (pa_cons (pv 3) (pa_cons (pv 4) pa_nil))))) (pe_call GP hr rfl T.pa.g T.pa.k T.pa.b .nil pass0 (pa_cons (pv 1) (pa_cons (pv 2) (pa_cons (pv 3) (pa_cons (pv 4) pa_nil))))) (nomark _)))), ?_⟩
    refine ⟨_, rfl, _, rfl, _, rfl, _, rfl, o, t, E', N, sz, rfl, hL, gt, hE, z1, z2, hN, fun H1 v1 s1 h1 => ?_⟩
    refine ⟨_, rfl, _, rfl, _, rfl, _, rfl, o', t', E', N, sz, rfl, hL'.same s1, gt', hE, z1, z2, hN, fun H2 v2 s2 h2 => ?_⟩
    refine ⟨_, _, (h1.same s2).dp, h2.dp, pv_shaped _, pv_shaped _, ?_⟩
    have k := k H2 (Same.trans s1 s2)
    rw [pv_eqv, ← decide_not]
    exact k
/-! ### first_unlike -/
/-- the pair stands at v -/
def PrAt (H : Hp) (v : V) : Option (Nat × Nat) → Prop
  | none => v = .non
  | some (n, s) => ∃ q, v = .ref q ∧ H q = some (.tup [.int (n : Nat), .int (s : Nat)])
def spFiU (CL : Addr) : Sp := fun vs H Q _ => ∃ (o o' : Addr) (t t' E : Str), vs = [.ref o, .ref o', .str E] ∧ LoopAt CL H o t ∧ LoopAt CL H o' t' ∧ goodText t = true ∧ goodText t' = true ∧ isEn E ∧
  ∀ (H' : Hp) (v : V), Same H H' → PrAt H' v (fuM (unl (ordsR t) (ordsE t) (ordsR t') (ordsE t') E)) → Q v H'
theorem scFiU : FnScope ["loop", "other_loop", "end", "items", "size"] ["loop", "other_loop", "end"] (defScope sFiU) := ⟨rfl, rfl, rfl, by decide +kernel, rfl, by decide +kernel, by decide +kernel⟩
theorem ok_fiu (T : TxFu K mg) : FnOk P w K mg base CX0 9 T.fu.f T.fu.fd ["loop", "other_loop", "end"] (spFiU T.C.W.N.T.C) := by
  have GU : FnOk P w K mg base CX0 8 T.iu.f T.iu.fd L5 (spIsU T.C.W.N.T.C) := ok_isu T
  have GL : FnOk P w K mg base CX0 1 T.C.ckl.f T.C.ckl.fd ["loop"] (spCKL T.C.W.N.T.C) := ok_ckl T.C
  have GE : FnOk P w K mg base CX0 2 T.C.cke.f T.C.cke.fd ["end"] spCKE := ok_cke T.C
  obtain ⟨mt, hm⟩ := T.mt
  refine T.fu.F.ok scFiU (fun vs H Q E h => ?_) (fun cdv A outer s H vs Q E hr h => ?_)
  · obtain ⟨o, o', t, t', E', rfl, _⟩ := h
    rfl
  · obtain ⟨o, o', t, t', E', rfl, hL, hL', gt, gt', hE, k⟩ := h
    have hr1 : Room 1 _ := hr.mono (by decide)
    have hr2 : Room 2 _ := hr.mono (by decide)
    refine ⟨_, (pss_cons (ps_expr (pe_call GL hr1 rfl T.C.ckl.g T.C.ckl.k T.C.ckl.b .nil pass0 (pa_cons (pv 0) pa_nil))) (pss_cons (ps_expr (pe_call GL hr1 rfl T.C.ckl.g T.C.ckl.k T.C.ckl.b .nil pass0 (pa_cons (pv 1) pa_nil))) (pss_cons (ps_expr (pe_call GE hr2 rfl T.C.cke.g T.C.cke.k T.C.cke.b .nil pass0 (pa_cons (pv 2) pa_nil))) (pss_cons (ps_for PassesOwn.never rfl (pi_range1 rfl T.C.W.N.X.range (pa_cons (pe_op op_add (pe_glob (v := .int 30) rfl hm ⟨_, rfl⟩) pe_int) pa_nil)) (pg_name (i := 3) scFiU.nd rfl (.inl rfl)) (pss_one (ps_for PassesOwn.never rfl (pi_tup (pe_glob (v := .ref T.pT) rfl T.gT rfl)) (pg_name (i := 4) scFiU.nd rfl (.inl rfl)) (pss_one (ps_if (pt_val (pe_call GU hr rfl T.iu.g T.iu.k T.iu.b .nil pass0 (pa_cons (pv 0) (pa_cons (pv 1) (pa_cons (pv 2) (pa_cons (pv 3) (pa_cons (pv 4) pa_nil))))))) (pss_one (ps_ret (pe_tup (pa_cons (pv 3) (pa_cons (pv 4) pa_nil))))) pss_nil))))) (pss_one (ps_ret pe_non)))))), ?_⟩
    refine ⟨_, rfl, o, t, rfl, hL, _, rfl, o', t', rfl, hL', _, rfl, E', rfl, hE, ?_⟩
    generalize hu : unl (ordsR t) (ordsE t) (ordsR t') (ordsE t') E' = u at k
    refine ⟨_, _, rfl, rfl, 31, rfl, by decide, by decide, for_range (lo := 0) (n := 31) (fun i σ H' => (∃ v3 v4 : Option V, σ = [some (.ref o), some (.ref o'), some (.str E'), v3, v4]) ∧ Same H H' ∧ fuS u (31 - i) i = fuM u) ⟨⟨none, none, rfl⟩, Same.refl _, rfl⟩ ?_ ?_⟩
    · rintro i σ H1 hi ⟨⟨v3, v4, rfl⟩, s1, he⟩
      refine ⟨T.pT, rfl, ⟨_, T.lT _⟩, ?_⟩
      refine for_tup (K := K) (a := T.pT) (xs := [.int 1, .int 2]) (fun m σ H' => (∃ v4 : Option V, σ = [some (.ref o), some (.ref o'), some (.str E'), some (.int (0 + (i : Int))), v4]) ∧ Same H H' ∧ (1 ≤ m → u i 1 = false) ∧ (2 ≤ m → u i 2 = false)) ⟨⟨v4, rfl⟩, s1, fun h => absurd h (by decide), fun h => absurd h (by decide)⟩ (fun _ _ _ _ _ => T.lT _) ?_ ?_
      · rintro m x σ H2 hx ⟨⟨v4, rfl⟩, s2, u1, u2⟩
        have two : ∃ sz : Nat, x = .int (sz : Nat) ∧ (sz = m + 1) ∧ sz ≤ 2 ∧ 1 ≤ sz := by
          match m, hx with
          | 0, hx => cases hx; exact ⟨1, rfl, rfl, by decide, by decide⟩
          | 1, hx => cases hx; exact ⟨2, rfl, rfl, by decide, by decide⟩
        obtain ⟨sz, rfl, em, z2, z1⟩ := two
        refine ⟨_, rfl, _, rfl, _, rfl, _, rfl, _, rfl, o, o', t, t', E', i, sz, by rw [Int.zero_add]; rfl, hL.same s2, hL'.same s2, gt, gt', hE, z1, by omega, by omega, fun H3 s3 => ⟨_, rfl, ?_⟩⟩
        rw [hu]
        have s03 := Same.trans s2 s3
        cases c : u i sz with
        | true =>
          refine iteT ⟨_, rfl, _, rfl, (by show 2 ≤ sizeLine; decide), fun q nq => ?_⟩
          refine k _ _ (Same.trans s03 (same_new nq)) ?_
          obtain ⟨j, ej⟩ : ∃ j, 31 - i = j + 1 := ⟨30 - i, by omega⟩
          have ev : fuM u = some (i, sz) := by
            rw [← he, ej]
            show (if u i 1 = true then some (i, 1) else if u i 2 = true then some (i, 2) else fuS u j (i + 1)) = _
            have : sz = 1 ∨ sz = 2 := by omega
            rcases this with rfl | rfl
            · rw [if_pos c]
            · rw [if_neg (by rw [u1 (by omega)]; decide), if_pos c]
          rw [ev]
          exact ⟨q, rfl, by rw [upd_same, Int.zero_add]⟩
        | false =>
          refine iteF ⟨⟨_, rfl⟩, s03, fun _ => ?_, fun h => ?_⟩
          · have : sz = 1 ∨ sz = 2 := by omega
            rcases this with rfl | rfl
            · exact c
            · exact u1 (by omega)
          · have : sz = 2 := by omega
            rw [this] at c
            exact c
      · rintro σ H2 ⟨⟨v4, rfl⟩, s2, u1, u2⟩
        refine ⟨⟨_, _, rfl⟩, s2, ?_⟩
        rw [← he, show 31 - i = (31 - (i + 1)) + 1 by omega]
        show _ = (if u i 1 = true then some (i, 1) else if u i 2 = true then some (i, 2) else fuS u (31 - (i + 1)) (i + 1))
        rw [if_neg (by rw [u1 (by show 1 ≤ 2; decide)]; decide), if_neg (by rw [u2 (by show 2 ≤ 2; decide)]; decide)]
    · rintro σ H1 ⟨⟨v3, v4, rfl⟩, s1, he⟩
      refine k H1 .non s1 ?_
      rw [← he]
      exact rfl
end
end My

/-! alike -/
namespace My
open PySem L2 Cm LM EM CoM
abbrev sAlk : Stmt := top 41
structure TxAl (K : PySem.W.Frag) (mg : Str → Option Value) where
  U : TxFu K mg
  al : Df K mg "alike" sAlk ["loop", "other_loop", "end"]
theorem pr_non {H : Hp} {v : V} {r : Option (Nat × Nat)} (h : PrAt H v r) : decide (v = .non) = r.isNone := by
  cases r with
  | none => rw [show v = .non from h]; rfl
  | some p =>
    obtain ⟨q, rfl, _⟩ := h
    rfl
theorem PrAt.same {H H' : Hp} {v : V} (s : Same H H') : ∀ {r : Option (Nat × Nat)}, PrAt H v r → PrAt H' v r
  | none, h => h
  | some _, ⟨q, a, b⟩ => ⟨q, a, s _ _ b⟩
section
variable {P : Program} {w : World} {K : PySem.W.Frag} {mg : Str → Option Value} {base : Heap}
def spAlk (CL : Addr) : Sp := fun vs H Q _ => ∃ (o o' : Addr) (t t' E : Str), vs = [.ref o, .ref o', .str E] ∧ LoopAt CL H o t ∧ LoopAt CL H o' t' ∧ goodText t = true ∧ goodText t' = true ∧ isEn E ∧
  ∀ (H' : Hp), Same H H' → Q (.bl (fuM (unl (ordsR t) (ordsE t) (ordsR t') (ordsE t') E)).isNone) H'
theorem scAlk : FnScope ["loop", "other_loop", "end"] ["loop", "other_loop", "end"] (defScope sAlk) := ⟨rfl, rfl, rfl, by decide +kernel, rfl, by decide +kernel, by decide +kernel⟩
theorem ok_alk (T : TxAl K mg) : FnOk P w K mg base CX0 10 T.al.f T.al.fd ["loop", "other_loop", "end"] (spAlk T.U.C.W.N.T.C) := by
  have GU : FnOk P w K mg base CX0 9 T.U.fu.f T.U.fu.fd ["loop", "other_loop", "end"] (spFiU T.U.C.W.N.T.C) := ok_fiu T.U
  refine T.al.F.ok scAlk (fun vs H Q E h => ?_) (fun cdv A outer s H vs Q E hr h => ?_)
  · obtain ⟨o, o', t, t', E', rfl, _⟩ := h
    rfl
  · obtain ⟨o, o', t, t', E', rfl, hL, hL', gt, gt', hE, k⟩ := h
    refine ⟨_, (pss_one (ps_ret (pe_cmpR op_isN (pe_call GU hr rfl T.U.fu.g T.U.fu.k T.U.fu.b .nil pass0 (pa_cons (pv 0) (pa_cons (pv 1) (pa_cons (pv 2) pa_nil)))) pe_non (nomark _)))), ?_⟩
    refine ⟨_, rfl, _, rfl, _, rfl, o, o', t, t', E', rfl, hL, hL', gt, gt', hE, fun H1 v s1 h1 => ⟨rfl, ?_⟩⟩
    rw [pr_non h1]
    exact k H1 s1
end
end My

/-! the law's own search for the first stop -/
namespace My
open PySem L2 Cm LM EM CoM
abbrev sFs : Stmt := top 58
theorem fpW_succ (u : Nat → Nat → Bool) (n k w : Nat) : fpW u n (k + 1) w = if u n w = true then some (n, w) else fpW u n k (w + 1) := rfl
theorem fpS_succ (u : Nat → Nat → Bool) (k n : Nat) : fpS u (k + 1) n = match fpW u n (n + 1) 1 with | some p => some p | none => fpS u k (n + 1) := rfl
abbrev uS (B E : List Str) (L : Str) : Nat → Nat → Bool := stp1 (ords B) (ords E) L
section
variable {P : Program} {w : World} {K : PySem.W.Frag} {mg : Str → Option Value} {base : Heap}
def spFs (j : Addr) : Sp := fun vs H Q _ => ∃ (ma : Addr) (B E : List Str) (L : Str) (m : Nat), vs = [.ref ma, .str L, .int (m : Nat)] ∧ Wds H ma B E ∧ isRound B = true ∧ isEnding E = true ∧ isEn L ∧ Jar H j ∧ m ≤ 30 ∧
  ∀ H' v, Same H H' → PrAt H' v (fpS (uS B E L) (m + 1) 0) → Q v H'
theorem scFs : FnScope ["_law_made", "_law_last_here", "_law_most", "_law_many", "_law_wide"] ["_law_made", "_law_last_here", "_law_most"] (defScope sFs) := ⟨rfl, rfl, rfl, by decide +kernel, rfl, by decide +kernel, by decide +kernel⟩
theorem ok_fs (T : TxBr K mg) (fs : Df K mg "_law_first_stop" sFs ["_law_made", "_law_last_here", "_law_most"]) (j : Addr) : FnOk P w K mg base CX0 5 fs.f fs.fd ["_law_made", "_law_last_here", "_law_most"] (spFs j) := by
  have GD : FnOk P w K mg base CX0 4 T.run.f T.run.fd ["_law_made", "_law_last_here", "_law_many", "_law_wide"] (spRun j) := ok_run T j
  refine fs.F.ok scFs (fun vs H Q E h => ?_) (fun cdv A outer s H vs Q E hr h => ?_)
  · obtain ⟨ma, B, E, L, m, rfl, _⟩ := h
    rfl
  · obtain ⟨ma, B, E, L, m, rfl, hW, rB, rE, hL, hJ, hm, k⟩ := h
    refine ⟨_, (pss_cons (ps_for PassesOwn.never rfl (pi_range1 rfl T.D.range (pa_cons (pe_op op_add (pv 2) pe_int) pa_nil)) (pg_name (i := 3) scFs.nd rfl (.inl rfl)) (pss_one (ps_for PassesOwn.never rfl (pi_range2 rfl T.D.range (pa_cons pe_int (pa_cons (pe_op op_add (pv 3) pe_int) pa_nil))) (pg_name (i := 4) scFs.nd rfl (.inl rfl)) (pss_one (ps_if (pt_cmpR op_notN (pe_call GD hr rfl T.run.g T.run.k T.run.b .nil pass0 (pa_cons (pv 0) (pa_cons (pv 1) (pa_cons (pv 3) (pa_cons (pv 4) pa_nil))))) pe_non (nomark _)) (pss_one (ps_ret (pe_tup (pa_cons (pv 3) (pa_cons (pv 4) pa_nil))))) pss_nil))))) (pss_one (ps_ret pe_non))), ?_⟩
    refine ⟨_, rfl, _, _, rfl, rfl, ((m + 1 : Nat) : Int), rfl, by omega, by omega, for_range (lo := 0) (n := m + 1) (fun i σ H' => (∃ v4 v5 : Option V, σ = [some (.ref ma), some (.str L), some (.int (m : Nat)), v4, v5]) ∧ Same H H' ∧ fpS (uS B E L) (m + 1 - i) i = fpS (uS B E L) (m + 1) 0) ⟨⟨none, none, rfl⟩, Same.refl _, rfl⟩ ?_ ?_⟩
    · rintro i σ H1 hi ⟨⟨v4, v5, rfl⟩, s1, he⟩
      obtain ⟨c, ec⟩ : ∃ c, m + 1 - i = c + 1 := ⟨m - i, by omega⟩
      rw [ec, fpS_succ] at he
      refine ⟨_, rfl, _, _, rfl, rfl, 1, (0 : Int) + (i : Int) + 2, rfl, ⟨by omega, by omega, by omega, by omega⟩, ?_⟩
      rw [show ((0 : Int) + (i : Int) + 2 - 1).toNat = i + 1 by omega]
      refine for_range (lo := 1) (n := i + 1) (fun n σ H' => (∃ v5 : Option V, σ = [some (.ref ma), some (.str L), some (.int (m : Nat)), some (.int (0 + (i : Int))), v5]) ∧ Same H H' ∧ fpW (uS B E L) i (i + 1 - n) (1 + n) = fpW (uS B E L) i (i + 1) 1) ⟨⟨v5, rfl⟩, s1, rfl⟩ ?_ ?_
      · rintro n σ H2 hn ⟨⟨v5, rfl⟩, s2, hw⟩
        obtain ⟨d, ed⟩ : ∃ d, i + 1 - n = d + 1 := ⟨i - n, by omega⟩
        rw [ed, fpW_succ] at hw
        have z1 : i ≤ 100 * (1 + n) := by omega
        have en : (1 : Int) + (n : Int) = ((1 + n : Nat) : Int) := by omega
        refine ⟨_, rfl, _, rfl, _, rfl, _, rfl, ma, B, E, L, i, 1 + n, by rw [en, Int.zero_add]; rfl, hW.same s2, rB, rE, hL, hJ.same s2, by omega, by omega, by omega, fun e H3 s3 => ?_, fun ak ps e H3 q u vs s3 _ _ _ => ?_⟩
        · have c2 : uS B E L i (1 + n) = false := by
            unfold CoM.out at e
            show (wkS (1 + n) (ords B) (ords E) L i).st = false
            cases h : (wkS (1 + n) (ords B) (ords E) L i).st with
            | false => rfl
            | true => rw [h, if_pos rfl] at e; cases e
          rw [if_neg (by rw [c2]; decide)] at hw
          refine ⟨rfl, _, rfl, ?_⟩
          exact iteF ⟨⟨_, rfl⟩, Same.trans s2 s3, by rw [show i + 1 - (n + 1) = d by omega, ← hw, Nat.add_assoc]⟩
        · have c2 : uS B E L i (1 + n) = true := by
            unfold CoM.out at e
            show (wkS (1 + n) (ords B) (ords E) L i).st = true
            cases h : (wkS (1 + n) (ords B) (ords E) L i).st with
            | true => rfl
            | false => rw [h, if_neg (by decide)] at e; cases e
          rw [if_pos c2] at hw
          rw [← hw] at he
          refine ⟨rfl, _, rfl, iteT ⟨_, rfl, _, rfl, (by show 2 ≤ sizeLine; decide), fun q nq => ?_⟩⟩
          refine k _ _ (Same.trans (Same.trans s2 s3) (same_new nq)) ?_
          rw [← he]
          refine ⟨q, rfl, ?_⟩
          rw [upd_same, en, Int.zero_add]
      · rintro σ H2 ⟨⟨v5, rfl⟩, s2, hw⟩
        rw [Nat.sub_self] at hw
        rw [← hw] at he
        refine ⟨⟨_, _, rfl⟩, s2, ?_⟩
        rw [show m + 1 - (i + 1) = c by omega]
        exact he
    · rintro σ H1 ⟨⟨v4, v5, rfl⟩, s1, he⟩
      refine k H1 .non s1 ?_
      rw [← he, Nat.sub_self]
      exact rfl
end
end My

/-! defs that are called where no repr is running, and repr of plain data there -/
namespace Gd
open PySem PySem.Spec PyProof.Rows L2
/-- a def's promise, for callers around whom no guard stands -/
structure FnG (P : Program) (w : World) (K : PySem.W.Frag) (mg : Str → Option Value) (base : Heap) (CX : CXT) (k : Nat) (f : Addr) (fd : FuncData) (ps : List Str) (sp : Sp) : Prop where
  len : ∀ vs H Q E, sp vs H Q E → vs.length = ps.length
  run : ∀ (A : Around) (outer : List Env) (s : Shared) (H : Hp) (args : Args) (us : List Value) (vs : List V) (Q : VK) (E : XK), A.guards = some [] → Room k A → Env0 P w K mg base A outer s H → BindsTo s fd args (ps.zip us) → Vals vs us → sp vs H Q E →
    codeAny (model P w) A (.call (.ref f) args) (CR CX outer P w H s Q E) s
section
variable {P : Program} {w : World} {K : PySem.W.Frag} {mg : Str → Option Value} {base : Heap}
/-- the rule of a def, its guards told -/
theorem okG {x qual : Str} {st : Stmt} {f : Addr} {fd : FuncData} {N ps : List Str} {k : Nat} {sp : Sp} (F : Fun K x qual st f fd) (S : FnScope N ps (defScope st)) (len : ∀ vs H Q E, sp vs H Q E → vs.length = ps.length)
    (hbody : ∀ (cdv : Value) (A : Around) (outer : List Env) (s : Shared) (H : Hp) (vs : List V) (Q : VK) (E : XK), K.lookup f ≠ none → PySem.W.codeIn K cdv qual = true → fd.code = cdv → A.guards = some [] → Room k (A.deeper (envOfC qual (defScope st) s.heap.objs.size f cdv)) → sp vs H Q E →
      ∃ t, PSs (cxOf CX0 P w K mg base N qual (defScope st) f cdv A outer s H E).nox (defBody st) t ∧ t { nx := fun _ H' => Q .non H', rt := Q } (L2.start N vs) H) : FnG P w K mg base CX0 (k + 1) f fd ps sp := by
  obtain ⟨oc, od, kV, doc, pm, an, cdv, ct, osl, rfl, lk, hcd⟩ := F.ex
  refine ⟨len, fun A outer s H args us vs Q E hg hr e0 hb r h => ?_⟩
  refine LamX.run_ofS lk hcd S hr e0 hb r (len _ _ _ _ h) fun hr2 => ?_
  obtain ⟨t, h1, q⟩ := hbody cdv A outer s H vs Q E (by rw [lk]; simp) hcd rfl hg hr2 h
  exact ⟨t, h1.nox, q⟩
end
section
variable {X : Cx} {CX : CXT} {k : Nat} {f : Addr} {fd : FuncData} {ps : List Str} {sp : Sp} {E : XK} {x : Str} {p pos : Pos} {e : Expr} {es : List Expr} {t : TA} {ds : List Value} {dvs : List V}
/-- f(e, ..) -/
theorem pe_callG (F : FnG X.prog X.w X.K X.mg X.base CX k f fd ps sp) (hgd : X.A.guards = some []) (hr : Room k X.A) (hg : Gl X x) (hm : X.mg x = some (.ref f)) (hk : PySem.W.keepIn X.K (.ref f) = true) (hb : L2.Binds X.K fd ps ds) (hd : Vals dvs ds) (hx : Passes CX X E) (ha : PA X (e :: es) t)
    (hdb : (x == ("__debug__" : Str)) = false := by decide) (he : starEach (e :: es) X.env = (false, eval e X.env) :: starEach es X.env := by rfl) (hpl : (backTo pos (starEach es X.env)).any (·.1) = false := by rfl) :
    PE X (.Call (.Name x p) (e :: es) [] pos) (tCall sp dvs E t) := by
  refine ⟨fun pins s σ H Q I h => ?_⟩
  refine wpAny_Call_Name_kw (ld_glob I hg hm ?_ hdb)
  refine PySem.W.callWith_K (h₀ := X.base) I.ok.mod.kin hk (thn (ha.run pos pins s σ H _ I h) fun us s1 ⟨vs, H1, I1, r, q⟩ => ⟨I1.kIn, ?_⟩) he hpl
  have r2 : Vals (vs ++ dvs) (us ++ ds) := r.append hd
  have hl : (us ++ ds).length = ps.length := by
    rw [← r2.length]
    exact F.len _ _ _ _ q
  refine wpAny_call (codeAny_mono (F.run X.A X.stack s1 H1 ⟨us, []⟩ (us ++ ds) (vs ++ dvs) Q E hgd hr I1.env0 (hb s1 us I1.kIn hl) r2 q) fun rr s2 hq => ?_)
  match rr, hq with
  | .error er, hq => exact hx pins σ H1 s1 er s2 I1 hq
  | .ok (.ret u), hq => exact I1.after hq
end
/-! ### plain data, all of it tracked -/
mutual
inductive Dq (H : Hp) : V → PyData → Prop
  | non : Dq H .non .none
  | bl (b : Bool) : Dq H (.bl b) (.bool b)
  | int (i : Int) : Dq H (.int i) (.int i)
  | str (x : Str) : Dq H (.str x) (.str x)
  | lst {a : Addr} {xs : List V} {ds : List PyData} : H a = some (.lst xs) → DqA H xs ds → Dq H (.ref a) (.list ds)
  | tup {a : Addr} {xs : List V} {ds : List PyData} : H a = some (.tup xs) → DqA H xs ds → Dq H (.ref a) (.tuple ds)
  | dct {a : Addr} : H a = some (.dK []) → Dq H (.ref a) (.dict [])
inductive DqA (H : Hp) : List V → List PyData → Prop
  | nil : DqA H [] []
  | cons {v : V} {vs : List V} {d : PyData} {ds : List PyData} : Dq H v d → DqA H vs ds → DqA H (v :: vs) (d :: ds)
end
section
variable {X : Cx} {pins : List (Addr × Obj)} {σ : L2.St} {H : Hp} {s : Shared}
mutual
theorem Dq.reads (I : Inv X pins σ H s) : ∀ {v : V} {d : PyData} {u : Value}, Dq H v d → RelV v u → ∃ as, Reads s.heap u d as ∧ ∀ b ∈ as, H b ≠ none
  | _, _, _, .non, r => by
    cases r
    exact ⟨_, .none, fun b h => nomatch h⟩
  | _, _, _, .bl b, r => by
    cases r
    exact ⟨_, .bool b, fun b h => nomatch h⟩
  | _, _, _, .int i, r => by
    obtain ⟨t, rfl⟩ := r
    exact ⟨_, .int i t, fun b h => nomatch h⟩
  | _, _, _, .str x, r => by
    obtain ⟨t, rfl⟩ := r
    exact ⟨_, .str x t, fun b h => nomatch h⟩
  | _, _, _, .lst (a := a) (xs := xs) ha hd, r => by
    cases r
    obtain ⟨_, its, n, rv, e⟩ := (show ObjOk X.prog X.w H s.heap a (.lst xs) from I.hok a _ ha)
    obtain ⟨as, h1, h2⟩ := DqA.reads I hd rv
    refine ⟨_, .list e rfl rfl (by simpa using h1), fun b hb => ?_⟩
    rcases List.mem_cons.mp hb with rfl | hb
    · rw [ha]; simp
    · exact h2 b hb
  | _, _, _, .tup (a := a) (xs := xs) ha hd, r => by
    cases r
    obtain ⟨_, its, rv, o, e, c, n, hn⟩ := (show ObjOk X.prog X.w H s.heap a (.tup xs) from I.hok a _ ha)
    obtain ⟨as, h1, h2⟩ := DqA.reads I hd rv
    exact ⟨_, .tuple e c hn (by simpa using h1), h2⟩
  | _, _, _, .dct (a := a) ha, r => by
    cases r
    obtain ⟨_, _, vs, kv, o, es, ep, e, hx, hdt, _, hes, _⟩ := (show ObjOk X.prog X.w H s.heap a (.dK []) from I.hok a _ ha)
    cases kv
    have e0 : es.toList = [] := by
      generalize es.toList = zs at hes
      cases hes
      rfl
    refine ⟨_, .dict (kvs := []) e hx.1 hdt (by rw [e0]; exact .nil) (by rw [e0]; exact .nil), fun b hb => ?_⟩
    have : b = a := by simpa using hb
    rw [this, ha]; simp
theorem DqA.reads (I : Inv X pins σ H s) : ∀ {vs : List V} {ds : List PyData} {us : List Value}, DqA H vs ds → Vals vs us → ∃ as, ReadsAll s.heap us ds as ∧ ∀ b ∈ as, H b ≠ none
  | _, _, _, .nil, r => by
    cases r
    exact ⟨_, .nil, fun b h => nomatch h⟩
  | _, _, _, .cons hd ht, .cons r rt => by
    obtain ⟨as, h1, h2⟩ := Dq.reads I hd r
    obtain ⟨bs, h3, h4⟩ := DqA.reads I ht rt
    exact ⟨_, .cons h1 h3, fun b hb => (List.mem_append.mp hb).elim (h2 b) (h4 b)⟩
end
end
mutual
theorem Dq.same {H H' : Hp} (s : Same H H') : ∀ {v : V} {d : PyData}, Dq H v d → Dq H' v d
  | _, _, .non => .non
  | _, _, .bl b => .bl b
  | _, _, .int i => .int i
  | _, _, .str x => .str x
  | _, _, .lst ha hd => .lst (s _ _ ha) (DqA.same s hd)
  | _, _, .tup ha hd => .tup (s _ _ ha) (DqA.same s hd)
  | _, _, .dct ha => .dct (s _ _ ha)
theorem DqA.same {H H' : Hp} (s : Same H H') : ∀ {vs : List V} {ds : List PyData}, DqA H vs ds → DqA H' vs ds
  | _, _, .nil => .nil
  | _, _, .cons a b => .cons (Dq.same s a) (DqA.same s b)
end
/-- repr of a list, a tuple or an empty dict of such data -/
def rReprD : List V → Hp → VK → Prop := fun xs H Q => ∃ (a : Addr) (d : PyData), xs = [.ref a] ∧ Dq H (.ref a) d ∧ d.showable = true ∧ d.depth ≤ 64 ∧ d.shown.length ≤ sizeLine ∧ Q (.str d.shown) H
theorem call_reprD {X : Cx} {k : Nat} {ob : Obj} (hg : X.A.guards = some []) (hr : Room k X.A) (sm : X.base.get? sysModules = some ob) : CallR X (.builtin "repr") rReprD := by
  intro pins s σ H xs us Q I r h
  obtain ⟨a, d, rfl, hd, hs, hdep, hz, q⟩ := h
  obtain ⟨u, rfl, ru⟩ := vals1 r
  cases (show u = Value.ref a from ru)
  obtain ⟨as, h1, h2⟩ := hd.reads I (u := .ref a) rfl
  have no : sysModules ∉ as := fun hm => h2 _ hm (I.env0.bs _ _ sm).2
  have hu := hr.un
  refine repr_of_reads' h1 hs (fun _ => no) hg (by omega) (fun _ _ e => e) (fun h' u tk hk => ?_) hz
  exact ⟨.str d.shown, H, I.kept (t' := tk) hk, ⟨_, rfl⟩, q⟩
/-! ### the end of a law, from such a promise -/
/-- at the law's call: the tables, and the script unless the module itself holds it -/
def H0 (K : PySem.W.Frag) (tabs : List Addr) (a : Addr) (u : HO) : Hp := fun b => if b ∈ tabs then some (.tbl #[]) else if b = a ∧ K.lookup a = none then some u else none
theorem H0_tab {K : PySem.W.Frag} {tabs : List Addr} {a b : Addr} {u : HO} (h : b ∈ tabs) : H0 K tabs a u b = some (.tbl #[]) := if_pos h
theorem H0_cases {K : PySem.W.Frag} {tabs : List Addr} {a b : Addr} {u o : HO} (h : H0 K tabs a u b = some o) : (b ∈ tabs ∧ o = .tbl #[]) ∨ (b ∉ tabs ∧ b = a ∧ K.lookup a = none ∧ o = u) := by
  unfold H0 at h
  split at h
  next hb => exact .inl ⟨hb, (Option.some.inj h).symm⟩
  next hb =>
    split at h
    next hc => exact .inr ⟨hb, hc.1, hc.2, (Option.some.inj h).symm⟩
    next => cases h
theorem law_callG {P : Program} {w : World} {K : PySem.W.Frag} {mg mb : Str → Option Value} {k : Nat} {fa a : Addr} {cs : List (Addr × Addr)} {fd : FuncData} {x : Str} {sp : Sp} {st : Shared} {vs : List Value} {ns : List Int}
    (KX : K.In st.heap) (gNs : st.heap.Ns mainGlobals mg) (bNs : st.heap.Ns builtinsNs mb) (bEq : ∀ x : Str, x ≠ "__name__" → mb x = bootBuiltins x) (lim : st.heap.NoLimit) (noG : st.gens = #[])
    (isT : ∀ p ∈ cs, st.heap.get? p.2 = some { cls := .none, data := .fields #[] }) (nK : ∀ p ∈ cs, K.lookup p.2 = none) (isC : ∀ p ∈ cs, PySem.W.CodeHd st.heap p.1 p.2)
    (bMain : ∃ (bm : Addr) (ob : Obj), mg "__builtins__" = some (.ref bm) ∧ bm ≠ builtinsNs ∧ st.heap.get? bm = some ob ∧ ob.cls = .type "module" ∧ ob.dict = some builtinsNs ∧ ob.data = .plain)
    (scr : st.heap.get? a = some { cls := .type "list", data := .seq vs.toArray }) (intsA : IntsAre vs ns) (few : ns.length ≤ sizeLine) (room : Room k callerA)
    (mods : ∃ mm, st.heap.Ns sysModules mm)
    (F : ∀ base : Heap, K.In base → base.Ns mainGlobals mg → (∃ ob, base.get? sysModules = some ob) → (∀ p ∈ cs, LamX.TabB base mg p.1 p.2) → FnG P w K mg base CX0 k fa fd [x] sp) (bind : ∀ (s : Shared) (u : Value), BindsTo s fd ⟨[u], []⟩ [(x, u)])
    (hsp : ∀ H : Hp, (∀ p ∈ cs, H p.2 = some (.tbl #[])) → SqL K H a (ns.map V.int) → sp [.ref a] H (fun v _ => v = .bl true) fun _ _ _ => False) :
    codeAny (model P w) callerA (.call (.ref fa) ⟨[.ref a], []⟩) (fun r s2 => r = .ok (.ret (.bool true)) ∧ OldK st.heap s2.heap ∧ s2.os = st.os ∧ AllBare s2.gens) st := by
  have vals := vals_ints intsA
  have tabAt : ∀ b ∈ cs.map (·.2), st.heap.get? b = some { cls := .none, data := .fields #[] } := fun b hb => by
    obtain ⟨p, hp, rfl⟩ := List.mem_map.mp hb
    exact isT p hp
  generalize hu : (HO.frz { cls := .type "list", data := .seq vs.toArray } (.lst (ns.map V.int))) = u
  generalize hH : H0 K (cs.map (·.2)) a u = H
  have tabH : ∀ p ∈ cs, H p.2 = some (.tbl #[]) := fun p hp => by
    rw [← hH]
    exact H0_tab (List.mem_map.mpr ⟨p, hp, rfl⟩)
  have what : ∀ b o, H b = some o → (b ∈ cs.map (·.2) ∧ o = .tbl #[]) ∨ (b ∉ cs.map (·.2) ∧ b = a ∧ K.lookup a = none ∧ o = u) := fun b o e => by
    rw [← hH] at e
    exact H0_cases e
  have held : HOk P w H st.heap := fun b o e => by
    rcases what b o e with ⟨h1, rfl⟩ | ⟨_, rfl, _, rfl⟩
    · exact tabAt b h1
    · rw [← hu]
      exact ⟨scr, by rw [List.length_map]; exact few, vs, _, vals, scr⟩
  have seen : SqL K H a (ns.map V.int) := by
    cases hk : K.lookup a with
    | some o =>
      have e := KX a o hk
      rw [scr] at e
      cases e
      exact .inr ⟨_, vs.toArray, _, hk, rfl, rfl, rfl, by rw [List.size_toArray, intsA.length]; exact few, by simpa using vals⟩
    | none =>
      refine .inl (.inr ⟨{ cls := .type "list", data := .seq vs.toArray }, ?_⟩)
      have nt : a ∉ cs.map (·.2) := fun z => by
        have q := tabAt a z
        rw [scr] at q
        cases congrArg Obj.data (Option.some.inj q)
      rw [← hH, ← hu]
      exact (if_neg nt).trans (if_pos ⟨rfl, hk⟩)
  -- what is neither a list nor an empty table is not tracked
  have untracked : ∀ {b : Addr} {o : Obj}, st.heap.get? b = some o → (∀ us m, o.data ≠ .seq us m) → o.data ≠ .fields #[] → H b = none := fun {b o} e h1 h2 => by
    cases q : H b with
    | none => rfl
    | some z =>
      rcases what b z q with ⟨hb, _⟩ | ⟨_, rfl, _⟩
      · rw [tabAt b hb] at e
        exact absurd (congrArg Obj.data (Option.some.inj e)).symm h2
      · rw [scr] at e
        exact absurd (congrArg Obj.data (Option.some.inj e)).symm (h1 _ _)
  have stays : ∀ {b : Addr} {o : Obj}, st.heap.get? b = some o → (∀ us m, o.data ≠ .seq us m) → o.data ≠ .fields #[] → (hidT st.heap H).get? b = some o := fun e h1 h2 => hidT_get e (untracked e h1 h2)
  have names : ∀ {b : Addr} {m : Str → Option Value}, st.heap.Ns b m → (hidT st.heap H).Ns b m := fun ⟨o, es, ep, e, dt, r⟩ =>
    ⟨o, es, ep, stays e (fun _ _ z => by rw [dt] at z; cases z) (fun z => by rw [dt] at z; cases z), dt, r⟩
  have inB : K.In (hidT st.heap H) := fun b o e => hidT_get (KX b o e) (by
    cases q : H b with
    | none => rfl
    | some z =>
      rcases what b z q with ⟨hb, _⟩ | ⟨_, rfl, hn, _⟩
      · obtain ⟨p, hp, rfl⟩ := List.mem_map.mp hb
        rw [nK p hp] at e
        cases e
      · rw [hn] at e
        cases e)
  obtain ⟨mc, lim1, lim2⟩ := lim
  have modu : L2.Mod K mg (hidT st.heap H) := ⟨inB, names gNs, ⟨mb, names bNs, bEq⟩, ⟨mc, names lim1, lim2⟩⟩
  have tabB : ∀ p ∈ cs, LamX.TabB (hidT st.heap H) mg p.1 p.2 := fun p hp => by
    have atP := isT p hp
    refine { code := ?_, bm := ?_, gP := fun z => ?_ }
    · obtain ⟨o, us, file, tf, flags, tg, inF, text, tt, e1, r1, r2, r3, r4⟩ := isC p hp
      exact ⟨o, us, file, tf, flags, tg, inF, text, tt, stays e1 (fun _ _ z => by rw [r2] at z; cases z) (fun z => by rw [r2] at z; cases z; simp at r3), r1, r2, r3, r4⟩
    · obtain ⟨bm, ob, b1, b2, b3, b4, b5, b6⟩ := bMain
      refine ⟨bm, ob, b1, b2, fun z => ?_, fun z => ?_, stays b3 (fun _ _ z => by rw [b6] at z; cases z) (fun z => by rw [b6] at z; cases z), b4, b5, b6⟩
      · obtain ⟨o, es, ep, e, dt, _⟩ := gNs
        rw [z, e] at b3
        cases b3
        rw [dt] at b6
        cases b6
      · rw [z, atP] at b3
        cases b3
        cases b6
    · obtain ⟨o, es, ep, e, dt, _⟩ := gNs
      rw [z, atP] at e
      cases e
      cases dt
  have env : Env0 P w K mg (hidT st.heap H) callerA [] st H := ⟨rfl, modu, fun b o e => of_hidT e, Nat.le_of_eq (hidT_size _ _), trivial, (fun b hb => absurd (show b ∈ ([] : List Addr) from hb) (by simp)), held, .of_eq noG⟩
  have hm : ∃ ob, (hidT st.heap H).get? sysModules = some ob := by
    obtain ⟨mm, hm⟩ := mods
    obtain ⟨o, es, ep, e, _⟩ := names hm
    exact ⟨o, e⟩
  refine codeAny_mono ((F _ inB (names gNs) hm tabB).run callerA [] st H ⟨[.ref a], []⟩ [.ref a] [.ref a] _ _ rfl room env (bind st (.ref a)) (.cons rfl .nil) (hsp H tabH seen)) fun r s2 h => ?_
  match r, h with
  | .error e, h => exact (show False from h).elim
  | .ok (.ret z), h =>
    obtain ⟨v, H2, os2, bare, un, held2, rz, q⟩ := h
    cases (show v = .bl true from q)
    cases (show z = Value.bool true from rz)
    have kept : ∀ b o, b ∉ cs.map (·.2) → st.heap.get? b = some o → s2.heap.get? b = some o := fun b o nb e => by
      cases q : H b with
      | none => exact un.keep b o e q (fun z => absurd (show b ∈ ([] : List Addr) from z) (by simp)) (by simp)
      | some y =>
        rcases what b y q with ⟨hb, _⟩ | ⟨_, rfl, _, rfl⟩
        · exact absurd hb nb
        · rw [← hu] at q
          have e1 := (held2 _ _ (un.frzs _ _ _ q)).1
          rw [scr] at e
          cases e
          exact e1
    have grew : ∀ p ∈ cs, ∃ more : Array Value, s2.heap.get? p.2 = some { cls := .none, data := .fields more } := fun p hp => by
      obtain ⟨more, z⟩ := un.tbls p.2 #[] (tabH p hp)
      exact ⟨_, held2 p.2 _ z⟩
    refine ⟨rfl, ⟨fun b o e => ?_, fun b o e => ?_⟩, os2, bare⟩
    · by_cases hb : b ∈ cs.map (·.2)
      · obtain ⟨p, hp, rfl⟩ := List.mem_map.mp hb
        obtain ⟨more, hm⟩ := grew p hp
        rw [isT p hp] at e
        cases e
        exact .inr (.inl ⟨((isC p hp).tab (isT p hp)).isCodeTable, rfl, #[], more, rfl, by rw [Array.empty_append]; exact hm⟩)
      · exact .inl (kept b o hb e)
    · by_cases hb : b ∈ cs.map (·.2)
      · obtain ⟨p, hp, rfl⟩ := List.mem_map.mp hb
        obtain ⟨more, hm⟩ := grew p hp
        exact ⟨_, hm⟩
      · exact ⟨o, kept b o hb e⟩
/-- what the law's def promises where the head has ended -/
def LawG (l : PySem.W.OpenLaw) (w : World) (K : PySem.W.Frag) (k n : Nat) (x : Str) (mg : Str → Option Value) (fa : Addr) (h : Heap) : Prop :=
  ∃ (fd : FuncData) (cs : List (Addr × Addr)) (sp : Sp), (∀ p ∈ cs, h.get? p.2 = some { cls := .none, data := .fields #[] }) ∧ (∀ p ∈ cs, K.lookup p.2 = none) ∧ (∀ p ∈ cs, PySem.W.CodeHd h p.1 p.2) ∧ (∀ (s : Shared) (u : Value), BindsTo s fd ⟨[u], []⟩ [(x, u)]) ∧
    (∀ (H : Hp) (a : Addr) (ns : List Int), ns.length ≤ n → (∀ p ∈ cs, H p.2 = some (.tbl #[])) → SqL K H a (ns.map V.int) → sp [.ref a] H (fun v _ => v = .bl true) fun _ _ _ => False) ∧
    ∀ base : Heap, K.In base → base.Ns mainGlobals mg → (∃ ob, base.get? sysModules = some ob) → (∀ p ∈ cs, LamX.TabB base mg p.1 p.2) → FnG l.prog w K mg base CX0 k fa fd [x] sp
theorem walk_ofG {l : PySem.W.OpenLaw} {n k : Nat} {q : Program} {loose : List Str} {XP : (Str → Option Value) → Heap → Prop} {YP : World → Heap → Prop} {d : DefRec} {K : Params → PySem.W.Frag} {x : Str}
    (hn : l.most = some n) (hn2 : n ≤ sizeLine) (hdf : d.params.defaults = []) (hi : importsNone q = true) (hr : Room k callerA) (hY : ∀ (w : World) (h : Heap), YP w h → (K w.params).In h)
    (F : ∀ (w : World) (mg : Str → Option Value) (fa : Addr) (h : Heap), YP w h → (K w.params).In h → h.Ns mainGlobals mg → mg d.name = some (.ref fa) → LawG l w (K w.params) k n x mg fa h) :
    PySem.W.WalkO q loose XP YP l.row.toRowW d [] (fun f vs => PySem.call f vs) := by
  refine Att.attach_call hn hdf fun w t0 t1 mg mb fa o pm cd doc a vs ns gr y1 ho hd hcd hmg hobj hints hlen hgen => ?_
  obtain ⟨fd, cs, sp, c1, c2, c3, c4, c5, c6⟩ := F w mg fa _ y1 (hY w _ y1) gr.T.g hmg
  exact law_callG (hY w _ y1) gr.T.g gr.T.b gr.T.builtins gr.T.nolimit hgen c1 c2 c3 gr.T.bmain hobj hints (Nat.le_trans hlen hn2) hr (let ⟨mm, hm, _⟩ := (gr.T.seer hi).mods; ⟨mm, hm⟩) c6 c4 fun H tabs sq => c5 H a ns hlen tabs sq
end Gd

/-! shown data as data: code points, lengths -/
namespace SkT
open PySem
theorem ok_of (s : String) : PyData.strOk (Str.ofString s) = true := by
  unfold PyData.strOk
  rw [Str.ofString_eq_toList, List.all_toArray, List.all_eq_true]
  intro n hn
  obtain ⟨c, _, rfl⟩ := List.mem_map.mp hn
  refine decide_eq_true ?_
  have := c.valid
  unfold Char.toNat
  rcases this with h | h
  · exact Nat.lt_trans h (by decide)
  · exact h.2
theorem ok_app {a b : Str} (h1 : PyData.strOk a = true) (h2 : PyData.strOk b = true) : PyData.strOk (a ++ b) = true := by
  unfold PyData.strOk at h1 h2 ⊢
  show (a.cps ++ b.cps).all _ = true
  rw [Array.all_append, h1, h2]
  rfl
theorem ok_join {sep : Str} (hs : PyData.strOk sep = true) : ∀ {ts : List Str}, (∀ t ∈ ts, PyData.strOk t = true) → PyData.strOk (Str.join sep ts) = true
  | [], _ => (by decide +kernel : PyData.strOk Str.empty = true)
  | [x], h => h x List.mem_cons_self
  | x :: y :: r, h => ok_app (ok_app (h x List.mem_cons_self) hs) (ok_join hs fun t ht => h t (List.mem_cons_of_mem _ ht))
theorem ok_from : ∀ {ts : List Str} {k : Nat} {acc : Str}, PyData.strOk acc = true → (∀ t ∈ ts, PyData.strOk t = true) → PyData.strOk (textFrom k acc ts) = true
  | [], _, _, ha, _ => ha
  | t :: r, k, acc, ha, h => by
    rw [textFrom]
    exact ok_from (ok_app (ok_app ha (ok_of _)) (h t List.mem_cons_self)) fun x hx => h x (List.mem_cons_of_mem _ hx)
theorem ok_list {ts : List Str} (h : ∀ t ∈ ts, PyData.strOk t = true) : PyData.strOk (listText ts) = true := ok_app (ok_from (ok_of _) h) (ok_of _)
theorem ok_tup {ts : List Str} (h : ∀ t ∈ ts, PyData.strOk t = true) : PyData.strOk (tupleText ts) = true := ok_app (ok_app (ok_of _) (ok_join (ok_of _) h)) (ok_of _)
theorem join_le : ∀ ts : List Str, (Str.join ", " ts).length ≤ (ts.map fun t => t.length + 2).sum
  | [] => Nat.le_refl _
  | [x] => by
    show x.length ≤ _
    simp
  | x :: y :: r => by
    show (x ++ ", " ++ Str.join ", " (y :: r)).length ≤ _
    rw [strLen_append, strLen_append, show (", " : Str).length = 2 by decide +kernel]
    have := join_le (y :: r)
    rw [List.map_cons, List.sum_cons]
    omega
theorem tup_le (ts : List Str) : (tupleText ts).length ≤ (ts.map fun t => t.length + 2).sum + 3 := by
  unfold tupleText
  rw [strLen_append, strLen_append, show ("(" : Str).length = 1 by decide +kernel]
  have := join_le ts
  have : (Str.ofString (if ts.length == 1 then ",)" else ")" : String)).length ≤ 2 := by
    split
    · decide +kernel
    · decide +kernel
  omega
theorem from_le : ∀ (ts : List Str) (k : Nat) (acc : Str), (textFrom k acc ts).length ≤ acc.length + (ts.map fun t => t.length + 2).sum
  | [], _, _ => by simp [textFrom]
  | t :: r, k, acc => by
    rw [textFrom]
    have ih := from_le r (k + 1) (acc ++ (if k > 0 then ", " else "" : String) ++ t)
    rw [strLen_append, strLen_append] at ih
    have : (Str.ofString (if k > 0 then ", " else "" : String)).length ≤ 2 := by
      split
      · decide +kernel
      · decide +kernel
    rw [List.map_cons, List.sum_cons]
    omega
theorem list_le (ts : List Str) : (listText ts).length ≤ (ts.map fun t => t.length + 2).sum + 2 := by
  unfold listText
  rw [strLen_append, show ("]" : Str).length = 1 by decide +kernel]
  have := from_le ts 0 "["
  rw [show ("[" : Str).length = 1 by decide +kernel] at this
  omega
/-- data that can be shown; n bounds its text, k its depth -/
structure Sw (n k : Nat) (d : PyData) : Prop where
  sh : d.showable = true
  dp : d.depth ≤ k
  ln : d.shown.length ≤ n
  ok : PyData.strOk d.shown = true
theorem Sw.mono {n m k j : Nat} {d : PyData} (h : Sw n k d) (a : n ≤ m) (b : k ≤ j) : Sw m j d := ⟨h.sh, Nat.le_trans h.dp b, Nat.le_trans h.ln a, h.ok⟩
theorem sw_all {n k : Nat} : ∀ {ds : List PyData}, (∀ x ∈ ds, Sw n k x) → PyData.showableAll ds = true ∧ PyData.depthAll ds ≤ k ∧ ((PyData.shownAll ds).map fun t => t.length + 2).sum ≤ (n + 2) * ds.length ∧ ∀ t ∈ PyData.shownAll ds, PyData.strOk t = true
  | [], _ => ⟨rfl, by simp [PyData.depthAll], by simp [PyData.shownAll], fun t h => by simp [PyData.shownAll] at h⟩
  | d :: r, h => by
    obtain ⟨a, b, c, e⟩ := sw_all (ds := r) fun x hx => h x (List.mem_cons_of_mem _ hx)
    have hd := h d List.mem_cons_self
    refine ⟨?_, ?_, ?_, ?_⟩
    · rw [PyData.showableAll, a, hd.sh]; rfl
    · rw [PyData.depthAll]; exact Nat.max_le.mpr ⟨hd.dp, b⟩
    · rw [PyData.shownAll, List.map_cons, List.sum_cons, List.length_cons, Nat.mul_succ]
      have := hd.ln
      omega
    · intro t ht
      rw [PyData.shownAll] at ht
      rcases List.mem_cons.mp ht with rfl | z
      · exact hd.ok
      · exact e t z
theorem sw_tup {n k : Nat} {ds : List PyData} (h : ∀ x ∈ ds, Sw n k x) : Sw ((n + 2) * ds.length + 3) (k + 1) (.tuple ds) := by
  obtain ⟨a, b, c, e⟩ := sw_all h
  refine ⟨by rw [PyData.showable]; exact a, by rw [PyData.depth]; omega, ?_, ?_⟩
  · rw [PyData.shown]
    exact Nat.le_trans (tup_le _) (by omega)
  · rw [PyData.shown]
    exact ok_tup e
theorem sw_lst {n k : Nat} {ds : List PyData} (h : ∀ x ∈ ds, Sw n k x) : Sw ((n + 2) * ds.length + 2) (k + 1) (.list ds) := by
  obtain ⟨a, b, c, e⟩ := sw_all h
  refine ⟨by rw [PyData.showable]; exact a, by rw [PyData.depth]; omega, ?_, ?_⟩
  · rw [PyData.shown]
    exact Nat.le_trans (list_le _) (by omega)
  · rw [PyData.shown]
    exact ok_list e
theorem log_nat {n : Nat} (h : n < 10 ^ 20) : (n : Nat).log2 < 1920 := by
  by_cases h0 : n = 0
  · rw [h0]; decide
  · exact Nat.lt_of_lt_of_le ((Nat.log2_lt h0).mpr (Nat.lt_of_lt_of_le h (show 10 ^ 20 ≤ 2 ^ 70 by decide))) (by decide)
theorem sw_int {i : Int} {n : Nat} (h : i.natAbs < 10 ^ 20) (hl : (PyData.shown (.int i)).length ≤ n) : Sw n 0 (.int i) := ⟨by simp only [PyData.showable, decide_eq_true_eq]; exact log_nat h, by simp [PyData.depth], hl, ok_of _⟩
theorem sw_bl (b : Bool) : Sw 5 0 (.bool b) := by cases b <;> exact ⟨rfl, by simp [PyData.depth], by decide +kernel, by decide +kernel⟩
theorem sw_non : Sw 4 0 .none := ⟨rfl, by simp [PyData.depth], by decide +kernel, by decide +kernel⟩
/-- two rows of two words as data -/
theorem shaped2 {a b : Str} (h1 : PyData.strOk a = true) (h2 : PyData.strOk b = true) : SeqAt.shaped (.list [.str a, .str b]) = true := by
  unfold SeqAt.shaped
  simp [PyData.canLay0, PyData.canLayAll0, h1, h2, PyData.depth, PyData.depthAll]
theorem shaped3 {a b : Str} {c : Bool} (h1 : PyData.strOk a = true) (h2 : PyData.strOk b = true) : SeqAt.shaped (.list [.str a, .str b, .bool c]) = true := by
  unfold SeqAt.shaped
  simp [PyData.canLay0, PyData.canLayAll0, h1, h2, PyData.depth, PyData.depthAll]
end SkT

/-! repr of any plain data, also behind a caught error; the types of plain data; slices of lists of counts -/
namespace RpA
open PySem L2 Gd
theorem ext_same {H H' : Hp} (s : Same H H') : LamX.ExtN H H' := fun b o e _ => s b o e
mutual
theorem dq_ext {H H' : Hp} (s : LamX.ExtN H H') : ∀ {v : V} {d : PyData}, Dq H v d → Dq H' v d
  | _, _, .non => .non
  | _, _, .bl b => .bl b
  | _, _, .int i => .int i
  | _, _, .str x => .str x
  | _, _, .lst ha hd => .lst (s _ _ ha (by intro ps z; cases z)) (dqa_ext s hd)
  | _, _, .tup ha hd => .tup (s _ _ ha (by intro ps z; cases z)) (dqa_ext s hd)
  | _, _, .dct ha => .dct (s _ _ ha (by intro ps z; cases z))
theorem dqa_ext {H H' : Hp} (s : LamX.ExtN H H') : ∀ {vs : List V} {ds : List PyData}, DqA H vs ds → DqA H' vs ds
  | _, _, .nil => .nil
  | _, _, .cons a b => .cons (dq_ext s a) (dqa_ext s b)
end
theorem dqa_app {H : Hp} : ∀ {vs ws : List V} {ds es : List PyData}, DqA H vs ds → DqA H ws es → DqA H (vs ++ ws) (ds ++ es)
  | _, _, _, _, .nil, b => b
  | _, _, _, _, .cons a t, b => .cons a (dqa_app t b)
theorem dqa_len {H : Hp} : ∀ {vs : List V} {ds : List PyData}, DqA H vs ds → vs.length = ds.length
  | _, _, .nil => rfl
  | _, _, .cons _ t => by rw [List.length_cons, List.length_cons, dqa_len t]
theorem dqa_mem {H : Hp} : ∀ {vs : List V} {ds : List PyData}, DqA H vs ds → ∀ x ∈ vs, ∃ d ∈ ds, Dq H x d
  | _, _, .nil, _, h => nomatch h
  | _, _, .cons a t, x, h => by
    rcases List.mem_cons.mp h with rfl | z
    · exact ⟨_, List.mem_cons_self, a⟩
    · obtain ⟨d, m, q⟩ := dqa_mem t x z
      exact ⟨d, List.mem_cons_of_mem _ m, q⟩
/-- the name of the type -/
def tyN : PyData → String
  | .none => "NoneType"
  | .bool _ => "bool"
  | .int _ => "int"
  | .str _ => "str"
  | .list _ => "list"
  | .tuple _ => "tuple"
  | .dict _ => "dict"
theorem dq_ty {K : PySem.W.Frag} {H : Hp} {v : V} {d : PyData} (q : Dq H v d) : TyX K H v (.type (tyN d)) := by
  cases q with
  | non => exact .base .non
  | bl b => exact .base (.bl b)
  | int i => exact .base (.int i)
  | str x => exact .base (.str x)
  | lst h _ => exact .base (.lst h)
  | tup h _ => exact .base (.tup h)
  | dct h => exact .base (.dK h)
/-- repr of such data -/
def rReprA : List V → Hp → VK → Prop := fun xs H Q => ∃ (v : V) (d : PyData) (n : Nat), xs = [v] ∧ Dq H v d ∧ SkT.Sw n 64 d ∧ n ≤ sizeLine ∧ Q (.str d.shown) H
theorem call_reprA {X : Cx} {ob : Obj} (hg : X.A.guards = some []) (hu : X.A.units + 66 < cLine) (sm : X.base.get? sysModules = some ob) : CallR X (.builtin "repr") rReprA := by
  intro pins s σ H xs us Q I r h
  obtain ⟨v, d, n, rfl, hd, hs, hn, q⟩ := h
  obtain ⟨u, rfl, ru⟩ := vals1 r
  have ref : ∀ a, v = .ref a → wpAny (model X.prog X.w) X.A (PySem.call (.builtin "repr") [u]) (fun u' s' => ∃ (v' : V) (H' : Hp), Inv X pins σ H' s' ∧ RelV v' u' ∧ Q v' H') X.xe s := fun a e => by
    subst e
    cases (show u = Value.ref a from ru)
    obtain ⟨as, h1, h2⟩ := hd.reads I (u := .ref a) rfl
    have no : sysModules ∉ as := fun hm => h2 _ hm (I.env0.bs _ _ sm).2
    have := hs.dp
    refine repr_of_reads' h1 hs.sh (fun _ => no) hg (by omega) (fun _ _ e => e) (fun h' u tk hk => ?_) (Nat.le_trans hs.ln hn)
    exact ⟨.str d.shown, H, I.kept (t' := tk) hk, ⟨_, rfl⟩, q⟩
  cases hd with
  | non =>
    cases ru
    exact PySem.P.repr_of_none ⟨.str _, H, I.tok _, ⟨_, rfl⟩, q⟩
  | bl b =>
    cases ru
    exact PySem.P.repr_of_bool ⟨.str _, H, I.tok _, ⟨_, rfl⟩, q⟩
  | int i =>
    obtain ⟨t, rfl⟩ := ru
    exact PySem.P.repr_of_int (by have := hs.sh; simpa [PyData.showable] using this) ⟨.str _, H, I.tok _, ⟨_, rfl⟩, q⟩
  | str x =>
    obtain ⟨t, rfl⟩ := ru
    exact PySem.P.repr_of_str ⟨.str _, H, I.tok _, ⟨_, rfl⟩, q⟩ (Nat.le_trans hs.ln hn)
  | lst ha hd => exact ref _ rfl
  | tup ha hd => exact ref _ rfl
  | dct ha => exact ref _ rfl
theorem sl_from {K : PySem.W.Frag} {Q : VK} {H : Hp} {l : Addr} {vs : List V} {n : Int} {k : Nat} (hl : H l = some (.lst vs)) (e : n = (k : Nat)) (h : ∀ z, H z = none → ∀ H', Same H H' → H' z = some (.lst (vs.drop k)) → Q (.ref z) H') : rSlL K (.ref l) (some n) none H Q := by
  refine ⟨l, vs, rfl, SqL.of hl, fun z nz => ?_⟩
  rw [e, Cm.cut_from]
  exact h z nz _ (fun b o q => by rw [upd_ne (ne_of_none q nz)]; exact q) upd_same
theorem sl_to {K : PySem.W.Frag} {Q : VK} {H : Hp} {l : Addr} {vs : List V} {n : Int} {k : Nat} (hl : H l = some (.lst vs)) (e : n = (k : Nat)) (hk : k ≤ vs.length) (h : ∀ z, H z = none → ∀ H', Same H H' → H' z = some (.lst (vs.take k)) → Q (.ref z) H') : rSlL K (.ref l) none (some n) H Q := by
  refine ⟨l, vs, rfl, SqL.of hl, fun z nz => ?_⟩
  rw [e, Cm.cut_to _ _ hk]
  exact h z nz _ (fun b o q => by rw [upd_ne (ne_of_none q nz)]; exact q) upd_same
theorem cat {Q : VK} {H : Hp} {p r : Addr} {xs ys : List V} (hp : H p = some (.lst xs)) (hr : H r = some (.lst ys)) (hl : xs.length + ys.length ≤ sizeLine) (k : ∀ z, H z = none → ∀ H', Same H H' → H' z = some (.lst (xs ++ ys)) → Q (.ref z) H') : rCat (.ref p) (.ref r) H Q :=
  ⟨p, r, xs, ys, rfl, rfl, hp, hr, hl, fun z nz => k z nz _ (fun b o q => by rw [upd_ne (ne_of_none q nz)]; exact q) upd_same⟩
end RpA

/-! how great counts are shown -/
namespace SH
open PySem L2
theorem log_nat {n : Nat} (h : n < 10 ^ 20) : (n : Nat).log2 < 1920 := by
  by_cases h0 : n = 0
  · rw [h0]; decide
  · exact Nat.lt_of_lt_of_le ((Nat.log2_lt h0).mpr (Nat.lt_of_lt_of_le h (show 10 ^ 20 ≤ 2 ^ 70 by decide))) (by decide)
theorem num_le {n : Nat} (h : n < 10 ^ 20) : (PyData.shown (.int (n : Int))).length ≤ 20 := by
  show (Str.ofString (toString ((n : Nat) : Int))).length ≤ 20
  rw [TL.len_tl, TL.tl_num]
  exact TL.numL_len (by decide) h
def pairD (a b : Nat) : PyData := .tuple [.int a, .int b]
theorem join_le : ∀ ts : List Str, (Str.join ", " ts).length ≤ (ts.map fun t => t.length + 2).sum
  | [] => Nat.le_refl _
  | [x] => by
    show x.length ≤ _
    simp
  | x :: y :: r => by
    show (x ++ ", " ++ Str.join ", " (y :: r)).length ≤ _
    rw [strLen_append, strLen_append, show (", " : Str).length = 2 by decide +kernel]
    have := join_le (y :: r)
    rw [List.map_cons, List.sum_cons]
    omega
theorem tup_le (ts : List Str) : (tupleText ts).length ≤ (ts.map fun t => t.length + 2).sum + 3 := by
  unfold tupleText
  rw [strLen_append, strLen_append, show ("(" : Str).length = 1 by decide +kernel]
  have := join_le ts
  have : (Str.ofString (if ts.length == 1 then ",)" else ")" : String)).length ≤ 2 := by
    split
    · decide +kernel
    · decide +kernel
  omega
theorem pair_ok {a b : Nat} (ha : a < 10 ^ 20) (hb : b < 10 ^ 20) : (pairD a b).showable = true ∧ (pairD a b).depth ≤ 64 ∧ (pairD a b).shown.length ≤ sizeLine := by
  refine ⟨?_, ?_, ?_⟩
  · simp only [pairD, PyData.showable, PyData.showableAll, Bool.and_true, Bool.and_eq_true, decide_eq_true_eq]
    exact ⟨by rw [Int.natAbs_natCast]; exact log_nat ha, by rw [Int.natAbs_natCast]; exact log_nat hb⟩
  · simp [pairD, PyData.depth, PyData.depthAll]
  · unfold pairD
    rw [PyData.shown]
    have := tup_le (PyData.shownAll [.int (a : Int), .int (b : Int)])
    have h1 := num_le ha
    have h2 := num_le hb
    simp only [PyData.shownAll, List.map_cons, List.map_nil, List.sum_cons, List.sum_nil] at this
    refine Nat.le_trans this (Nat.le_trans (show _ ≤ 100 by omega) (by decide))
end SH
namespace SH
open PySem L2
def tripD (a b c : Nat) : PyData := .list [.int a, .int b, .int c]
theorem from_le : ∀ (ts : List Str) (k : Nat) (acc : Str), (textFrom k acc ts).length ≤ acc.length + (ts.map fun t => t.length + 2).sum
  | [], _, _ => by simp [textFrom]
  | t :: r, k, acc => by
    rw [textFrom]
    have ih := from_le r (k + 1) (acc ++ (if k > 0 then ", " else "" : String) ++ t)
    rw [strLen_append, strLen_append] at ih
    have : (Str.ofString (if k > 0 then ", " else "" : String)).length ≤ 2 := by
      split
      · decide +kernel
      · decide +kernel
    rw [List.map_cons, List.sum_cons]
    omega
theorem list_le (ts : List Str) : (listText ts).length ≤ (ts.map fun t => t.length + 2).sum + 2 := by
  unfold listText
  rw [strLen_append, show ("]" : Str).length = 1 by decide +kernel]
  have := from_le ts 0 "["
  rw [show ("[" : Str).length = 1 by decide +kernel] at this
  omega
theorem trip_ok {a b c : Nat} (ha : a < 10 ^ 20) (hb : b < 10 ^ 20) (hc : c < 10 ^ 20) : (tripD a b c).showable = true ∧ (tripD a b c).depth ≤ 64 ∧ (tripD a b c).shown.length ≤ sizeLine := by
  refine ⟨?_, ?_, ?_⟩
  · simp only [tripD, PyData.showable, PyData.showableAll, Bool.and_true, Bool.and_eq_true, decide_eq_true_eq]
    exact ⟨by rw [Int.natAbs_natCast]; exact log_nat ha, by rw [Int.natAbs_natCast]; exact log_nat hb, by rw [Int.natAbs_natCast]; exact log_nat hc⟩
  · simp [tripD, PyData.depth, PyData.depthAll]
  · unfold tripD
    rw [PyData.shown]
    have := list_le (PyData.shownAll [.int (a : Int), .int (b : Int), .int (c : Int)])
    have h1 := num_le ha
    have h2 := num_le hb
    have h3 := num_le hc
    simp only [PyData.shownAll, List.map_cons, List.map_nil, List.sum_cons, List.sum_nil] at this
    refine Nat.le_trans this (Nat.le_trans (show _ ≤ 200 by omega) (by decide))
end SH

/-! the law's turn: loops written otherwise -/
namespace My
open PySem L2 Cm LM EM CoM
abbrev sRight : Stmt := top 59
/-! ### pairs, shown -/
def prD : Option (Nat × Nat) → PyData
  | none => .none
  | some (n, s) => .tuple [.int (n : Nat), .int (s : Nat)]
theorem PrAt.dq {H : Hp} {v : V} : ∀ {r : Option (Nat × Nat)}, PrAt H v r → Gd.Dq H v (prD r)
  | none, h => by rw [show v = .non from h]; exact .non
  | some (n, s), ⟨q, a, b⟩ => by rw [a]; exact .tup b (.cons (.int _) (.cons (.int _) .nil))
theorem sw_pr {r : Option (Nat × Nat)} (h : ∀ n s, r = some (n, s) → n ≤ 1000 ∧ s ≤ 1000) : SkT.Sw 100 1 (prD r) := by
  cases r with
  | none => exact SkT.sw_non.mono (by decide) (by decide)
  | some p =>
    obtain ⟨n, s⟩ := p
    obtain ⟨h1, h2⟩ := h n s rfl
    refine (SkT.sw_tup (n := 20) (k := 0) fun x hx => ?_).mono (by show (20 + 2) * 2 + 3 ≤ 100; decide) (by decide)
    have one : ∀ m : Nat, m ≤ 1000 → SkT.Sw 20 0 (.int (m : Nat)) := fun m hm => SkT.sw_int (by rw [Int.natAbs_natCast]; omega) (SH.num_le (n := m) (by omega))
    rcases List.mem_cons.mp hx with rfl | hx
    · exact one n h1
    · rw [List.mem_singleton.mp hx]
      exact one s h2
theorem fu_small {u : Nat → Nat → Bool} {n s : Nat} (h : fuM u = some (n, s)) : n ≤ 1000 ∧ s ≤ 1000 := by
  obtain ⟨_, a, b, _⟩ := fuS_some u 31 0 n s h
  omega
/-! ### unlike loops -/
abbrev uB (B E B' E' : List Str) (L : Str) : Nat → Nat → Bool := unl (ords B) (ords E) (ords B') (ords E') L
theorem fuS_same {u v : Nat → Nat → Bool} : ∀ (k n0 : Nat), (∀ m, n0 ≤ m → m < n0 + k → u m 1 = v m 1 ∧ u m 2 = v m 2) → fuS u k n0 = fuS v k n0
  | 0, _, _ => rfl
  | k + 1, n0, h => by
    obtain ⟨a, b⟩ := h n0 (Nat.le_refl _) (by omega)
    unfold fuS
    rw [a, b, fuS_same k (n0 + 1) fun m h1 h2 => h m (by omega) (by omega)]
theorem uB_self {B E : List Str} {L : Str} : fuM (uB B E B E L) = none := by
  cases h : fuM (uB B E B E L) with
  | none => rfl
  | some p =>
    obtain ⟨n, s⟩ := p
    obtain ⟨_, _, _, e, _⟩ := fuS_some _ 31 0 n s h
    exact absurd rfl (of_decide_eq_true e)
theorem uB_swap {B E B' E' : List Str} {L : Str} : fuM (uB B' E' B E L) = fuM (uB B E B' E' L) :=
  fuS_same 31 0 fun m _ _ => ⟨decide_eq_decide.mpr ⟨fun h e => h e.symm, fun h e => h e.symm⟩, decide_eq_decide.mpr ⟨fun h e => h e.symm, fun h e => h e.symm⟩⟩
theorem uB_one {B E B' E' B2 E2 : List Str} {L : Str} {m s : Nat} (h : uB B E B' E' L m s = false) : uB B' E' B2 E2 L m s = uB B E B2 E2 L m s := by
  have e : pcs (wkS s (ords B) (ords E) L m) = pcs (wkS s (ords B') (ords E') L m) := by
    by_cases c : pcs (wkS s (ords B) (ords E) L m) = pcs (wkS s (ords B') (ords E') L m)
    · exact c
    · have := decide_eq_true (p := pcs (wkS s (ords B) (ords E) L m) ≠ pcs (wkS s (ords B') (ords E') L m)) c
      have h' : decide (pcs (wkS s (ords B) (ords E) L m) ≠ pcs (wkS s (ords B') (ords E') L m)) = false := h
      rw [this] at h'
      cases h'
  show decide _ = decide _
  rw [e]
theorem uB_through {B E B' E' B2 E2 : List Str} {L : Str} (h : fuM (uB B E B' E' L) = none) : fuM (uB B' E' B2 E2 L) = fuM (uB B E B2 E2 L) :=
  fuS_same 31 0 fun m h1 h2 => by
    obtain ⟨a, b⟩ := fuS_none _ 31 0 h m h1 h2
    exact ⟨uB_one a, uB_one b⟩
theorem uB_none {B E B' E' : List Str} {L : Str} (h : EqE L (ords B) (ords E) (ords B') (ords E')) : fuM (uB B E B' E' L) = none := by
  cases c : fuM (uB B E B' E' L) with
  | none => rfl
  | some p =>
    obtain ⟨n, s⟩ := p
    obtain ⟨_, _, _, e, _⟩ := fuS_some _ 31 0 n s c
    exact absurd (by rw [wkS_eq h]) (of_decide_eq_true e)
theorem eqE_trans {L : Str} {a b c d e f : List (Str × Str)} (h1 : EqE L a b c d) (h2 : EqE L c d e f) : EqE L a b e f := fun sz held told x ht => (h2 sz held told x ht).trans (h1 sz held told x ht)
theorem or_hand (E : List Str) : ords (E ++ [("hand" : Str)]) = ords E ++ [hnd] := by
  rw [ords_app, show ords [("hand" : Str)] = [hnd] by decide +kernel]
theorem uB_long {B E : List Str} {L : Str} : uB B E B (E ++ [("hand" : Str)]) L = uS B E L := by
  show unl (ords B) (ords E) (ords B) (ords (E ++ [("hand" : Str)])) L = _
  rw [or_hand]
  exact unl_long _ _ _
structure TxR (K : PySem.W.Frag) (mg : Str → Option Value) where
  S : TxSa K mg
  A : TxAl K mg
  fs : Df K mg "_law_first_stop" sFs ["_law_made", "_law_last_here", "_law_most"]
  eT : S.N.R.T.C = A.U.C.W.N.T.C
  repr : mg "repr" = none
section
variable {P : Program} {w : World} {K : PySem.W.Frag} {mg : Str → Option Value} {base : Heap}
def spRight : Sp := fun vs H Q _ => ∃ j : Addr, vs = [.ref j] ∧ Jar H j ∧ ∀ H', Off j H H' → Q (.bl true) H'
abbrev NR : List Str := ["_law_jar_here", "_law_turn", "_law_made", "_law_last_here", "_law_mine_here", "_law_other", "_law_mate", "_law_longer", "_law_due"]
theorem scRight : FnScope NR ["_law_jar_here"] (defScope sRight) := ⟨rfl, rfl, rfl, by decide +kernel, rfl, by decide +kernel, by decide +kernel⟩
theorem LoopAt.offj {C lo j : Addr} {H H' : Hp} {t : Str} (o : Off j H H') (J : Jar H j) (h : LoopAt C H lo t) : LoopAt C H' lo t := by
  obtain ⟨x1, x2, x3, hj⟩ := J
  have f : ∀ (p : Addr) (xs : List V), H p = some (.tup xs) → H' p = some (.tup xs) := fun p xs e => o _ _ (ne_of e hj (by intro z; cases z)) e
  obtain ⟨dx, pr, pe, po, pq, a, b, c, d, e⟩ := h
  exact ⟨dx, pr, pe, po, pq, o _ _ (ne_of a hj (by intro z; cases z)) a, f _ _ b, f _ _ c, d.mono f, e.mono f⟩
theorem ok_right {f : Addr} {fd : FuncData} (F : Fun K "_law_right" "_law_right" sRight f fd) (R : TxR K mg) (sm : ∃ ob, base.get? sysModules = some ob) : Gd.FnG P w K mg base CX0 11 f fd ["_law_jar_here"] spRight := by
  have GO : FnOk P w K mg base CX0 4 R.S.N.R.D.lop.f R.S.N.R.D.lop.fd ["_law_jar_here", "_law_most"] spLoop := ok_loop R.S.N.R.D
  have GL : FnOk P w K mg base CX0 3 R.S.N.R.last.f R.S.N.R.last.fd ["_law_jar_here"] spLast := ok_last R.S.N.R
  have GE : FnOk P w K mg base CX0 5 R.S.sa.f R.S.sa.fd ["_law_jar_here", "_law_made", "_law_last_here"] spSa := ok_sa R.S
  have GM : FnOk P w K mg base CX0 6 R.S.N.R.mine.f R.S.N.R.mine.fd ["_law_made"] (spMine R.S.N.R.T.C) := ok_mine R.S.N.R
  have GF : ∀ j, FnOk P w K mg base CX0 5 R.fs.f R.fs.fd ["_law_made", "_law_last_here", "_law_most"] (spFs j) := fun j => ok_fs R.S.N.R R.fs j
  have GU : FnOk P w K mg base CX0 9 R.A.U.fu.f R.A.U.fu.fd ["loop", "other_loop", "end"] (spFiU R.A.U.C.W.N.T.C) := ok_fiu R.A.U
  have GA : FnOk P w K mg base CX0 10 R.A.al.f R.A.al.fd ["loop", "other_loop", "end"] (spAlk R.A.U.C.W.N.T.C) := ok_alk R.A
  rw [R.eT] at GM
  obtain ⟨ob, sm⟩ := sm
  refine Gd.okG F scRight (fun vs H Q E h => ?_) (fun cdv A outer s H vs Q E _ _ _ hgd hr h => ?_)
  · obtain ⟨j, rfl, _⟩ := h
    rfl
  · obtain ⟨j, rfl, hJ, k⟩ := h
    have hr3 : Room 3 _ := hr.mono (by decide)
    have hr4 : Room 4 _ := hr.mono (by decide)
    have hr5 : Room 5 _ := hr.mono (by decide)
    have hr6 : Room 6 _ := hr.mono (by decide)
    have hr9 : Room 9 _ := hr.mono (by decide)
    have hu : ((cxOf CX0 P w K mg base NR "_law_right" (defScope sRight) f cdv A outer s H E).nox).A.units + 100 < cLine := by
      have := hr.un
      show (A.deeper _).units + 100 < cLine
      omega
    refine ⟨_, (pss_cons (ps_for PassesOwn.never rfl (pi_range1 rfl R.S.N.R.D.range (pa_cons pe_int pa_nil)) (pg_name (i := 1) scRight.nd rfl (.inl rfl)) (C8.pss_cut (ps_par (i := 2) (j := 3) rfl scRight.nd rfl rfl (by decide) rfl rfl (pa_cons (pe_call GO hr4 rfl R.S.N.R.D.lop.g R.S.N.R.D.lop.k R.S.N.R.D.lop.b .nil pass0 (pa_cons (pv 0) (pa_cons pe_int pa_nil))) (pa_cons (pe_call GL hr3 rfl R.S.N.R.last.g R.S.N.R.last.k R.S.N.R.last.b .nil pass0 (pa_cons (pv 0) pa_nil)) pa_nil)) (by rfl)) (C8.pss_cut (ps_par (i := 4) (j := 5) rfl scRight.nd rfl rfl (by decide) rfl rfl (pa_cons (pe_call GM hr6 rfl R.S.N.R.mine.g R.S.N.R.mine.k R.S.N.R.mine.b .nil pass0 (pa_cons (pv 2) pa_nil)) (pa_cons (pe_call GE hr5 rfl R.S.sa.g R.S.sa.k R.S.sa.b .nil pass0 (pa_cons (pv 0) (pa_cons (pv 2) (pa_cons (pv 3) pa_nil)))) pa_nil)) (by rfl)) (C8.pss_cut (ps_set (i := 6) scRight.nd rfl (.inl rfl) (pe_call GM hr6 rfl R.S.N.R.mine.g R.S.N.R.mine.k R.S.N.R.mine.b .nil pass0 (pa_cons (pe_call GE hr5 rfl R.S.sa.g R.S.sa.k R.S.sa.b .nil pass0 (pa_cons (pv 0) (pa_cons (pv 5) (pa_cons (pv 3) pa_nil)))) pa_nil))) (C8.pss_cut (ps_if (PW.pt (pw_or (pt_cmpR op_ne (pe_callB (RpA.call_reprA hgd (by omega) sm) (by rfl) R.repr (by decide +kernel) (pa_cons (pe_call GU hr9 rfl R.A.U.fu.g R.A.U.fu.k R.A.U.fu.b .nil pass0 (pa_cons (pv 4) (pa_cons (pv 6) (pa_cons (pv 3) pa_nil)))) pa_nil)) pe_str (nomark _)) (pw_or1 (pt_cmpR op_ne (pe_callB (RpA.call_reprA hgd (by omega) sm) (by rfl) R.repr (by decide +kernel) (pa_cons (pe_call GA hr rfl R.A.al.g R.A.al.k R.A.al.b .nil pass0 (pa_cons (pv 6) (pa_cons (pv 4) (pa_cons (pv 3) pa_nil)))) pa_nil)) pe_str (nomark _))))) (pss_one (ps_ret pe_bl)) pss_nil) (C8.pss_cut (ps_set (i := 7) scRight.nd rfl (.inl rfl) (pe_call GM hr6 rfl R.S.N.R.mine.g R.S.N.R.mine.k R.S.N.R.mine.b .nil pass0 (pa_cons (pe_tup (pa_cons (pe_ix ix_tup (pv 2) pe_int (fun _ _ => rfl)) (pa_cons (pe_op op_cat (pe_ix ix_tup (pv 2) pe_int (fun _ _ => rfl)) (pe_lst (pa_cons pe_str pa_nil))) pa_nil))) pa_nil))) (C8.pss_cut (ps_set (i := 8) scRight.nd rfl (.inl rfl) (pe_call (GF j) hr5 rfl R.fs.g R.fs.k R.fs.b .nil pass0 (pa_cons (pv 2) (pa_cons (pv 3) (pa_cons pe_int pa_nil))))) (C8.pss_cut (ps_if (PW.pt (pw_or (pt_cmpR op_ne (pe_callB (RpA.call_reprA hgd (by omega) sm) (by rfl) R.repr (by decide +kernel) (pa_cons (pe_call GU hr9 rfl R.A.U.fu.g R.A.U.fu.k R.A.U.fu.b .nil pass0 (pa_cons (pv 4) (pa_cons (pv 7) (pa_cons (pv 3) pa_nil)))) pa_nil)) (pe_callB (RpA.call_reprA hgd (by omega) sm) (by rfl) R.repr (by decide +kernel) (pa_cons (pv 8) pa_nil)) (nomark _)) (pw_or1 (pt_cmpR op_ne (pe_callB (RpA.call_reprA hgd (by omega) sm) (by rfl) R.repr (by decide +kernel) (pa_cons (pe_call GU hr9 rfl R.A.U.fu.g R.A.U.fu.k R.A.U.fu.b .nil pass0 (pa_cons (pv 7) (pa_cons (pv 6) (pa_cons (pv 3) pa_nil)))) pa_nil)) (pe_callB (RpA.call_reprA hgd (by omega) sm) (by rfl) R.repr (by decide +kernel) (pa_cons (pv 8) pa_nil)) (nomark _))))) (pss_one (ps_ret pe_bl)) pss_nil) (pss_one (ps_if (pt_cmpR op_ne (pe_callB (RpA.call_reprA hgd (by omega) sm) (by rfl) R.repr (by decide +kernel) (pa_cons (pe_call GA hr rfl R.A.al.g R.A.al.k R.A.al.b .nil pass0 (pa_cons (pv 4) (pa_cons (pv 7) (pa_cons (pv 3) pa_nil)))) pa_nil)) (pe_callB (RpA.call_reprA hgd (by omega) sm) (by rfl) R.repr (by decide +kernel) (pa_cons (pe_cmpR op_isN (pv 8) pe_non (nomark _)) pa_nil)) (nomark _)) (pss_one (ps_ret pe_bl)) pss_nil)))))))))) (pss_one (ps_ret pe_bl))), ?_⟩
    refine ⟨2, rfl, by decide, by decide, for_range (lo := 0) (n := 2) (fun i σ H' => (∃ v1 v2 v3 v4 v5 v6 v7 v8 : Option V, σ = [some (.ref j), v1, v2, v3, v4, v5, v6, v7, v8]) ∧ Off j H H' ∧ Jar H' j)
      ⟨⟨none, none, none, none, none, none, none, none, rfl⟩, Off.refl, hJ⟩ ?_ ?_⟩
    rotate_left
    · rintro σ H' ⟨⟨v1, v2, v3, v4, v5, v6, v7, v8, rfl⟩, o, J⟩
      exact k H' o
    rintro i σ H1 hi ⟨⟨v1, v2, v3, v4, v5, v6, v7, v8, rfl⟩, o1, J1⟩
    -- made, last
    refine ⟨fun σ H' => ∃ (ma : Addr) (B E : List Str) (L : Str), σ = [some (.ref j), some (.int (0 + (i : Int))), some (.ref ma), some (.str L), v4, v5, v6, v7, v8] ∧ Off j H H' ∧ Jar H' j ∧ WdJ j H' ma B E ∧ isRound B = true ∧ isEnding E = true ∧ E.length ≤ 2 ∧ isEn L, ?_, ?_⟩
    · refine ⟨_, rfl, j, 7, rfl, J1, by decide, by decide, fun H2 ma a b B E' W hm => ?_⟩
      have mj : ma ≠ j := fun z => by
        obtain ⟨_, _, _, q⟩ := W.J
        rw [z, q] at hm
        cases hm
      have W2 : WdJ j H2 ma B E' := ⟨a, b, mj, jar_ne J1 W.na, jar_ne J1 W.nb, hm, W.ha, W.hb⟩
      refine ⟨_, rfl, j, rfl, W.J, fun H3 L o3 J3 hL => ⟨_, _, rfl, ?_⟩⟩
      exact ⟨ma, B, E', L, rfl, (o1.trans W.o).trans o3, J3, W2.off o3, W.rB, W.rE, W.lE, hL⟩
    rintro _ H2 ⟨ma, B, E', L, rfl, o2, J2, W2, rB, rE, lE, hL⟩
    clear o1 J1
    have gt := text_good rB rE
    obtain ⟨eo1, eo2⟩ := ord_rounds rB rE
    -- mine, other
    refine ⟨fun σ H' => ∃ (x mb : Addr) (B2 E2 : List Str), σ = [some (.ref j), some (.int (0 + (i : Int))), some (.ref ma), some (.str L), some (.ref x), some (.ref mb), v6, v7, v8] ∧ Off j H H' ∧ Jar H' j ∧ WdJ j H' ma B E' ∧ WdJ j H' mb B2 E2 ∧ isRound B2 = true ∧ isEnding E2 = true ∧ EqE L (ords B) (ords E') (ords B2) (ords E2) ∧ LoopAt R.A.U.C.W.N.T.C H' x (textOf B E'), ?_, ?_⟩
    · refine ⟨_, rfl, ma, B, E', rfl, W2.wds, rB, rE, fun H3 x s3 n3 l3 => ?_⟩
      refine ⟨_, rfl, _, rfl, _, rfl, j, ma, B, E', L, rfl, J2.same s3, W2.same s3, rB, rE, fun H4 mb B2 E2 o4 J4 W4 r1 r2 eq => ⟨_, _, rfl, ?_⟩⟩
      exact ⟨x, mb, B2, E2, rfl, (o2.trans (Same.off s3)).trans o4, J4, (W2.same s3).off o4, W4, r1, r2, eq, l3.offj o4 (J2.same s3)⟩
    rintro _ H3 ⟨x, mb, B2, E2, rfl, o3, J3, Wa, Wb, rB2, rE2, eq2, lx⟩
    clear o2 J2 W2
    -- mate
    refine ⟨fun σ H' => ∃ (y : Addr) (B3 E3 : List Str), σ = [some (.ref j), some (.int (0 + (i : Int))), some (.ref ma), some (.str L), some (.ref x), some (.ref mb), some (.ref y), v7, v8] ∧ Off j H H' ∧ Jar H' j ∧ WdJ j H' ma B E' ∧ isRound B3 = true ∧ isEnding E3 = true ∧ EqE L (ords B) (ords E') (ords B3) (ords E3) ∧ LoopAt R.A.U.C.W.N.T.C H' x (textOf B E') ∧ LoopAt R.A.U.C.W.N.T.C H' y (textOf B3 E3), ?_, ?_⟩
    · refine ⟨_, rfl, _, rfl, _, rfl, j, mb, B2, E2, L, rfl, J3, Wb, rB2, rE2, fun H4 mc B3 E3 o4 J4 W4 r1 r2 eq => ?_⟩
      refine ⟨mc, B3, E3, rfl, W4.wds, r1, r2, fun H5 y s5 n5 l5 => ?_⟩
      exact ⟨y, B3, E3, rfl, (o3.trans o4).trans (Same.off s5), J4.same s5, (Wa.off o4).same s5, r1, r2, eqE_trans eq2 eq, (lx.offj o4 J3).same s5, l5⟩
    rintro _ H4 ⟨y, B3, E3, rfl, o4, J4, W4, rB3, rE3, eq3, lx4, ly4⟩
    clear o3 J3 Wa Wb lx
    have gt3 := text_good rB3 rE3
    obtain ⟨eo5, eo6⟩ := ord_rounds rB3 rE3
    have un := uB_none eq3
    have sl := szl (show 100 ≤ 1000 by decide)
    have bl_ := szl (show 20 ≤ 1000 by decide)
    have swp : ∀ u : Nat → Nat → Bool, SkT.Sw 100 64 (prD (fuM u)) := fun u => (sw_pr (r := fuM u) fun n s e => fu_small e).mono (by decide) (by decide)
    have swb : ∀ b : Bool, SkT.Sw 20 64 (.bool b) := fun b => (SkT.sw_bl b).mono (by decide) (by decide)
    -- alike
    refine ⟨fun σ H' => Same H4 H' ∧ σ = [some (.ref j), some (.int (0 + (i : Int))), some (.ref ma), some (.str L), some (.ref x), some (.ref mb), some (.ref y), v7, v8], ?_, ?_⟩
    · refine ⟨_, rfl, _, rfl, _, rfl, x, y, _, _, L, rfl, lx4, ly4, gt, gt3, hL, fun H5 v s5 hv => ?_⟩
      rw [eo1, eo2, eo5, eo6, show fuM (unl (ords B) (ords E') (ords B3) (ords E3) L) = none from un] at hv
      refine ⟨_, _, _, rfl, hv.dq, SkT.sw_non.mono (by decide) (by decide), bl_, rfl, _, rfl, ?_⟩
      rw [show decide (V.str (prD none).shown = V.str "None") = true by decide +kernel]
      refine iteF ⟨_, rfl, _, rfl, _, rfl, y, x, _, _, L, rfl, ly4.same s5, lx4.same s5, gt3, gt, hL, fun H6 s6 => ?_⟩
      rw [eo1, eo2, eo5, eo6, show fuM (unl (ords B3) (ords E3) (ords B) (ords E') L) = none from by rw [uB_swap (B := B) (E := E')]; exact un]
      refine ⟨_, _, _, rfl, .bl _, swb _, bl_, rfl, _, rfl, ?_⟩
      rw [show decide (V.str (PyData.bool (Option.isNone (none : Option (Nat × Nat)))).shown = V.str "True") = true by decide +kernel]
      exact iteF ⟨Same.trans s5 s6, rfl⟩
    rintro _ H5 ⟨s5, rfl⟩
    have lx5 := lx4.same s5
    have ly5 := ly4.same s5
    have W5 := W4.same s5
    have o5 := o4.trans (Same.off s5)
    have J5 := J4.same s5
    clear lx4 ly4 W4 o4 J4 s5
    -- longer
    have rEl : isEnding (E' ++ [("hand" : Str)]) = true := isEnding_iff.mpr ⟨by rw [List.length_append]; show E'.length + 1 ≤ 6; omega, fun w hw => by
      rcases List.mem_append.mp hw with hw | hw
      · exact (isEnding_iff.mp rE).2 w hw
      · rw [List.mem_singleton.mp hw]; decide +kernel⟩
    refine ⟨fun σ H' => ∃ z : Addr, σ = [some (.ref j), some (.int (0 + (i : Int))), some (.ref ma), some (.str L), some (.ref x), some (.ref mb), some (.ref y), some (.ref z), v8] ∧ Same H5 H' ∧ LoopAt R.A.U.C.W.N.T.C H' z (textOf B (E' ++ [("hand" : Str)])), ?_, ?_⟩
    · obtain ⟨a0, b0, _, _, _, hm, ha, hb⟩ := id W5.ex
      refine ⟨_, rfl, ma, _, 0, _, rfl, rfl, SqT.of hm, rfl, _, rfl, ma, _, 1, _, rfl, rfl, SqT.of hm, rfl, (by show 1 ≤ sizeLine; decide), fun q nq => ?_⟩
      have s6 := same_new (o := .lst (svs [("hand" : Str)])) nq
      refine rcat_s (s6 _ _ hb) (show (upd H5 q (.lst (svs [("hand" : Str)]))) q = some (.lst (svs [("hand" : Str)])) from upd_same) (by show E'.length + 1 ≤ 1000; omega) fun q2 nq2 H7 s7 h7 => ?_
      refine ⟨(by show 2 ≤ sizeLine; decide), fun p np => ?_⟩
      have s8 := same_new (o := .tup [.ref a0, .ref q2]) np
      have s58 := Same.trans s6 (Same.trans s7 s8)
      refine ⟨p, B, E' ++ [("hand" : Str)], rfl, ⟨a0, q2, upd_same, s58 _ _ ha, s8 _ _ h7⟩, rB, rEl, fun H9 z s9 n9 l9 => ?_⟩
      exact ⟨z, rfl, Same.trans s58 s9, l9⟩
    rintro _ H6 ⟨z, rfl, s6, lz⟩
    have gtl := text_good rB rEl
    obtain ⟨eo3, eo4⟩ := ord_rounds rB rEl
    have ul : fuM (uB B E' B (E' ++ [("hand" : Str)]) L) = fpS (uS B E' L) 6 0 := by rw [uB_long]; exact stop_first (one_addB rB) (no_addE rE) (isE_of hL)
    -- due
    refine ⟨fun σ H' => ∃ v : V, σ = [some (.ref j), some (.int (0 + (i : Int))), some (.ref ma), some (.str L), some (.ref x), some (.ref mb), some (.ref y), some (.ref z), some v] ∧ Same H6 H' ∧ PrAt H' v (fuM (uB B E' B (E' ++ [("hand" : Str)]) L)), ?_, ?_⟩
    · refine ⟨_, rfl, _, rfl, ma, B, E', L, 5, rfl, (W5.same s6).wds, rB, rE, hL, J5.same s6, by decide, fun H7 v s7 hv => ?_⟩
      rw [← ul] at hv
      exact ⟨v, rfl, s7, hv⟩
    rintro _ H7 ⟨v, rfl, s7, hv⟩
    have s57 := Same.trans s6 s7
    have lx7 := lx5.same s57
    have ly7 := ly5.same s57
    have lz7 := lz.same s7
    have sw8 := swp (uB B E' B (E' ++ [("hand" : Str)]) L)
    refine ⟨fun σ H' => Same H7 H' ∧ σ = [some (.ref j), some (.int (0 + (i : Int))), some (.ref ma), some (.str L), some (.ref x), some (.ref mb), some (.ref y), some (.ref z), some v], ?_, ?_⟩
    · refine ⟨_, rfl, _, rfl, _, rfl, x, z, _, _, L, rfl, lx7, lz7, gt, gtl, hL, fun H8 u s8 hu8 => ?_⟩
      rw [eo1, eo2, eo3, eo4] at hu8
      refine ⟨_, _, _, rfl, hu8.dq, sw8, sl, _, rfl, _, _, _, rfl, (PrAt.same s8 hv).dq, sw8, sl, rfl, _, rfl, ?_⟩
      rw [decide_eq_true rfl]
      refine iteF ⟨_, rfl, _, rfl, _, rfl, z, y, _, _, L, rfl, lz7.same s8, ly7.same s8, gtl, gt3, hL, fun H9 u9 s9 hu9 => ?_⟩
      rw [eo3, eo4, eo5, eo6, show fuM (unl (ords B) (ords (E' ++ [("hand" : Str)])) (ords B3) (ords E3) L) = fuM (uB B E' B (E' ++ [("hand" : Str)]) L) from by
        rw [uB_swap (B := B3) (E := E3), uB_through un]] at hu9
      refine ⟨_, _, _, rfl, hu9.dq, sw8, sl, _, rfl, _, _, _, rfl, (PrAt.same (Same.trans s8 s9) hv).dq, sw8, sl, rfl, _, rfl, ?_⟩
      rw [decide_eq_true rfl]
      exact iteF ⟨Same.trans s8 s9, rfl⟩
    rintro _ H8 ⟨s8, rfl⟩
    refine ⟨_, rfl, _, rfl, _, rfl, x, z, _, _, L, rfl, lx7.same s8, lz7.same s8, gt, gtl, hL, fun H9 s9 => ?_⟩
    rw [eo1, eo2, eo3, eo4]
    have hv9 := PrAt.same (Same.trans s8 s9) hv
    have s59 := Same.trans s57 (Same.trans s8 s9)
    refine ⟨_, _, _, rfl, .bl _, swb _, bl_, _, rfl, rfl, ?_⟩
    rw [pr_non hv9]
    refine ⟨_, _, _, rfl, .bl _, swb _, bl_, rfl, _, rfl, ?_⟩
    rw [decide_eq_true (show V.str (PyData.bool (fuM (uB B E' B (E' ++ [("hand" : Str)]) L)).isNone).shown = V.str (PyData.bool (fuM (uB B E' B (E' ++ [("hand" : Str)]) L)).isNone).shown from rfl)]
    exact iteF ⟨⟨_, _, _, _, _, _, _, _, rfl⟩, o5.trans (Same.off s59), J5.same s59⟩
end
end My

namespace My
open PySem L2 Cm LM
abbrev sLaw : Stmt := top 60
def spLaw (K : PySem.W.Frag) : Sp := fun vs H Q _ => ∃ (a : Addr) (ns : List Int), vs = [.ref a] ∧ SqL K H a (ns.map V.int) ∧ ns.length ≤ 63 ∧ ∀ H', Q (.bl true) H'
theorem scLaw : FnScope ["_law_script", "_law_k"] ["_law_script"] (defScope sLaw) := ⟨rfl, rfl, rfl, by decide +kernel, rfl, by decide +kernel, by decide +kernel⟩
theorem all_true : ∀ n : Nat, (List.replicate n true).all id = true
  | 0 => rfl
  | n + 1 => all_true n
section
variable {P : Program} {w : World} {K : PySem.W.Frag} {mg : Str → Option Value} {base : Heap}
theorem ok_law {f fJ fR : Addr} {fd fdJ fdR : FuncData} (F : Fun K "law" "law" sLaw f fd) (TJ : TxtJ mg) (mrange : mg "range" = none) (mall : mg "all" = none) (kR9 : Nat) (GR : Gd.FnG P w K mg base CX0 kR9 fR fdR ["_law_jar_here"] spRight)
    (FJ : Fun K "_law_jar" "_law_jar" sJar fJ fdJ) (bJ : Binds K fdJ ["_law_script", "_law_k"] []) (gJ : mg "_law_jar" = some (.ref fJ)) (kJ : PySem.W.keepIn K (.ref fJ) = true) (k1 : 1 ≤ kR9)
    (bR : Binds K fdR ["_law_jar_here"] []) (gR : mg "_law_right" = some (.ref fR)) (kR : PySem.W.keepIn K (.ref fR) = true) (mmax : mg "max" = none) (mmin : mg "min" = none) :
    Gd.FnG P w K mg base CX0 (kR9 + 1) f fd ["_law_script"] (spLaw K) := by
  have GJ : FnOk P w K mg base CX0 1 fJ fdJ ["_law_script", "_law_k"] (spJar K) := ok_jar FJ TJ
  refine Gd.okG F scLaw (fun vs H Q E h => ?_) (fun cdv A outer s H vs Q E _ _ _ hgd hr h => ?_)
  · obtain ⟨a, ns, rfl, _⟩ := h
    rfl
  · obtain ⟨a, ns, rfl, hS, hl, k⟩ := h
    have hr1 : Room 1 _ := hr.mono k1
    refine ⟨_, pss_one (ps_ret (pe_callB (cr_all rfl) (by rfl) mall (by decide +kernel) (pa_cons (pe_lc (own := [("_law_k", 1)]) (g := gName 1) (tt := tYes) rfl scLaw.nd
      (pi_range1 rfl mrange (pa_cons (pe_callB (call_max2 rfl) (by rfl) mmax (by decide +kernel) (pa_cons pe_int (pa_cons (pe_callB (call_min2 rfl) (by rfl) mmin (by decide +kernel) (pa_cons (pe_callB call_len_seq (by rfl) TJ.len PySem.boot_len (pa_cons (pv 0) pa_nil)) (pa_cons pe_int pa_nil))) pa_nil))) pa_nil))
      (blkOk_by (own := [("_law_k", 1)]) (N := ["_law_script", "_law_k"]) (sc := defScope sLaw) (by decide +kernel)) (fun _ _ _ _ _ => pg_name (i := 1) scLaw.nd rfl (Or.inl rfl)) (fun _ _ _ _ _ => pts_nil)
      (fun _ _ _ _ _ => Gd.pe_callG GR hgd hr rfl gR kR bR .nil pass0 (pa_cons (pe_call GJ hr1 rfl gJ kJ bJ .nil pass0 (pa_cons (pv 0) (pa_cons (pv 1) pa_nil))) pa_nil))) pa_nil))), ?_⟩
    refine ⟨_, rfl, a, _, rfl, .inl hS, _, _, rfl, _, _, rfl, ?_⟩
    rw [List.length_map]
    have hm : ∃ n : Nat, (if (if (5 : Int) < (ns.length : Int) then 5 else (ns.length : Int)) > 2 then (if (5 : Int) < (ns.length : Int) then 5 else (ns.length : Int)) else 2) = (n : Int) ∧ n ≤ 5 := by
      by_cases h5 : (5 : Int) < (ns.length : Int)
      · rw [if_pos h5]
        exact ⟨5, rfl, Nat.le_refl _⟩
      · rw [if_neg h5]
        by_cases h2 : (ns.length : Int) > 2
        · rw [if_pos h2]
          exact ⟨ns.length, rfl, by omega⟩
        · rw [if_neg h2]
          exact ⟨2, rfl, by omega⟩
    obtain ⟨n, en, hn⟩ := hm
    refine ⟨_, rfl, by rw [en]; omega, by rw [en]; omega, fun D nD => ?_⟩
    rw [en]
    refine lc_range (lo := 0) (n := ((n : Int)).toNat) (fun i H' => Same H H' ∧ H' D = some (.lst ((List.replicate i true).map V.bl))) ⟨same_upd nD, upd_same⟩ ?_ ?_
    · rintro i H1 hi ⟨s1, hD⟩
      refine ⟨rfl, _, rfl, _, rfl, a, ns, i, by rw [Int.zero_add]; rfl, s1.seq hS, hl, fun H2 j s2 nj J2 => ?_⟩
      refine ⟨j, rfl, J2, fun H3 o3 => ?_⟩
      have s3 : Same H1 H3 := fun b o q => o3 b o (fun z => by rw [z, nj] at q; cases q) (s2 b o q)
      refine ⟨_, s3 _ _ hD, small1000 (by rw [List.length_map, List.length_replicate]; omega), fun b o q => ?_, ?_⟩
      · rw [upd_ne (ne_of_none q nD)]
        exact s3 _ _ (s1 _ _ q)
      · rw [upd_same, List.replicate_succ', List.map_append]
        rfl
    · rintro H1 ⟨s1, hD⟩
      refine ⟨D, List.replicate _ true, rfl, SqL.of hD, ?_⟩
      rw [all_true]
      exact k H1
end
theorem all_mk {l : PySem.W.OpenLaw} {w : World} {K : PySem.W.Frag} {h : Heap} {mg : Str → Option Value} {fa pT pR pE fwo foo fiw faw fir fie CIT fIT CL fli CX fxi fxa fxq fxp fxr fxc pUA pUP pUE fckw CU fui fur flx fxno fumu few fckl fcke fpca fisu ffun_ pTS fsip ffrm fwds flop flin fpas fsli fdon ffed fbox fmine flast fruno flsa falk flfs fjar frt flaw : Addr} (X : K.In h) (G : h.Ns mainGlobals mg) (hfa : mg "law" = some (.ref fa))
    {odT odR odE odwo anwo odoo anoo odiw aniw odaw anaw odir anir odie anie odIT anIT odli anli odxi anxi odxa anxa odxq anxq odxp anxp odxr anxr odxc anxc odUA odUP odUE odckw anckw odui anui odur anur odlx anlx odxno anxno odumu anumu odew anew odckl anckl odcke ancke odpca anpca odisu anisu odfun_ anfun_ odTS odsip ansip odfrm anfrm odwds anwds odlop anlop odlin anlin odpas anpas odsli ansli oddon andon odfed anfed odbox anbox odmine anmine odlast anlast odruno anruno odlsa anlsa odalk analk odlfs anlfs odjar anjar odrt anrt odlaw anlaw : Option Addr}
    {slT slR slE slwo sloo sliw slaw slir slie slIT slli slxi slxa slxq slxp slxr slxc slUA slUP slUE slckw slui slur sllx slxno slumu slew slckl slcke slpca slisu slfun_ slTS slsip slfrm slwds sllop sllin slpas slsli sldon slfed slbox slmine sllast slruno sllsa slalk sllfs sljar slrt sllaw : Array (Option Value)}
    {ocwo kVwo dcwo pmwo cdwo ctwo ocoo kVoo dcoo pmoo cdoo ctoo ociw kViw dciw pmiw cdiw ctiw ocaw kVaw dcaw pmaw cdaw ctaw ocir kVir dcir pmir cdir ctir ocie kVie dcie pmie cdie ctie ocIT kVIT dcIT pmIT cdIT ctIT ocli kVli dcli pmli cdli ctli ocxi kVxi dcxi pmxi cdxi ctxi ocxa kVxa dcxa pmxa cdxa ctxa ocxq kVxq dcxq pmxq cdxq ctxq ocxp kVxp dcxp pmxp cdxp ctxp ocxr kVxr dcxr pmxr cdxr ctxr ocxc kVxc dcxc pmxc cdxc ctxc occkw kVckw dcckw pmckw cdckw ctckw ocui kVui dcui pmui cdui ctui ocur kVur dcur pmur cdur ctur oclx kVlx dclx pmlx cdlx ctlx ocxno kVxno dcxno pmxno cdxno ctxno ocumu kVumu dcumu pmumu cdumu ctumu ocew kVew dcew pmew cdew ctew occkl kVckl dcckl pmckl cdckl ctckl occke kVcke dccke pmcke cdcke ctcke ocpca kVpca dcpca pmpca cdpca ctpca ocisu kVisu dcisu pmisu cdisu ctisu ocfun_ kVfun_ dcfun_ pmfun_ cdfun_ ctfun_ ocsip kVsip dcsip pmsip cdsip ctsip ocfrm kVfrm dcfrm pmfrm cdfrm ctfrm ocwds kVwds dcwds pmwds cdwds ctwds oclop kVlop dclop pmlop cdlop ctlop oclin kVlin dclin pmlin cdlin ctlin ocpas kVpas dcpas pmpas cdpas ctpas ocsli kVsli dcsli pmsli cdsli ctsli ocdon kVdon dcdon pmdon cddon ctdon ocfed kVfed dcfed pmfed cdfed ctfed ocbox kVbox dcbox pmbox cdbox ctbox ocmine kVmine dcmine pmmine cdmine ctmine oclast kVlast dclast pmlast cdlast ctlast ocruno kVruno dcruno pmruno cdruno ctruno oclsa kVlsa dclsa pmlsa cdlsa ctlsa ocalk kValk dcalk pmalk cdalk ctalk oclfs kVlfs dclfs pmlfs cdlfs ctlfs ocjar kVjar dcjar pmjar cdjar ctjar ocrt kVrt dcrt pmrt cdrt ctrt oclaw kVlaw dclaw pmlaw cdlaw ctlaw : Value}
    {tkT0 tkT1 tkT2 tkT3 tkT4 tkT5 tkT6 tkT7 tkR0 tkR1 tkR2 tkR3 tkR4 tkR5 tkE0 tkE1 tkE2 tkB tkMR tkME tkUA0 tkUA1 tkUP0 tkUP1 tkUE0 tkUE1 tkUE2 tkTS0 tkTS1 tkMTL : Tok}
    {nT nR nE nUA nUP nUE nTS : Nat}
    {nmIT qIT : Str} {NIT : Addr} {bsIT bmIT : List Value} {snIT : List Str} {subIT : List Value} {abIT : Bool} {colIT : Option Bool} {ddIT : Option Addr} {m0IT m1IT m2IT m3IT m5IT : Option Value}
    (gT : PySem.W.nsIn K mainGlobals "TESTS" = some (some (.ref pT)))
    (tT : K.lookup pT = some ⟨.type "tuple", odT, .seq #[.str "empty" tkT0, .str "some" tkT1, .str "short" tkT2, .str "full" tkT3, .str "told" tkT4, .str "open" tkT5, .str "rest" tkT6, .str "bare" tkT7] nT, slT⟩)
    (gR : PySem.W.nsIn K mainGlobals "ROUND_STEPS" = some (some (.ref pR)))
    (tR : K.lookup pR = some ⟨.type "tuple", odR, .seq #[.str "add" tkR0, .str "hand" tkR1, .str "cut" tkR2, .str "flush" tkR3, .str "stop" tkR4, .str "again" tkR5] nR, slR⟩)
    (gE : PySem.W.nsIn K mainGlobals "ENDING_STEPS" = some (some (.ref pE)))
    (tE : K.lookup pE = some ⟨.type "tuple", odE, .seq #[.str "hand" tkE0, .str "cut" tkE1, .str "flush" tkE2] nE, slE⟩)
    (mB : PySem.W.nsIn K mainGlobals "BAR" = some (some (.str " | " tkB)))
    (mMR : PySem.W.nsIn K mainGlobals "MOST_ROUND" = some (some (.int 12 tkMR)))
    (mME : PySem.W.nsIn K mainGlobals "MOST_ENDING" = some (some (.int 6 tkME)))
    (awo : PySem.W.nsIn K mainGlobals "words_of" = some (some (.ref fwo)))
    (lwo : K.lookup fwo = some ⟨ocwo, odwo, .func (PySem.W.fnOf "words_of" "words_of" (defArgs sWO) (defBody sWO) (defScope sWO) .none kVwo dcwo pmwo anwo cdwo ctwo), slwo⟩)
    (cwo : PySem.W.codeIn K cdwo "words_of" = true)
    (kwo : PySem.W.keepIn K (.ref fwo) = true)
    (aoo : PySem.W.nsIn K mainGlobals "order_of" = some (some (.ref foo)))
    (loo : K.lookup foo = some ⟨ocoo, odoo, .func (PySem.W.fnOf "order_of" "order_of" (defArgs sOO) (defBody sOO) (defScope sOO) .none kVoo dcoo pmoo anoo cdoo ctoo), sloo⟩)
    (coo : PySem.W.codeIn K cdoo "order_of" = true)
    (koo : PySem.W.keepIn K (.ref foo) = true)
    (aiw : PySem.W.nsIn K mainGlobals "is_word" = some (some (.ref fiw)))
    (liw : K.lookup fiw = some ⟨ociw, odiw, .func (PySem.W.fnOf "is_word" "is_word" (defArgs sIW) (defBody sIW) (defScope sIW) .none kViw dciw pmiw aniw cdiw ctiw), sliw⟩)
    (ciw : PySem.W.codeIn K cdiw "is_word" = true)
    (kiw : PySem.W.keepIn K (.ref fiw) = true)
    (aaw : PySem.W.nsIn K mainGlobals "are_words" = some (some (.ref faw)))
    (law : K.lookup faw = some ⟨ocaw, odaw, .func (PySem.W.fnOf "are_words" "are_words" (defArgs sAW) (defBody sAW) (defScope sAW) .none kVaw dcaw pmaw anaw cdaw ctaw), slaw⟩)
    (caw : PySem.W.codeIn K cdaw "are_words" = true)
    (kaw : PySem.W.keepIn K (.ref faw) = true)
    (air : PySem.W.nsIn K mainGlobals "is_round" = some (some (.ref fir)))
    (lir : K.lookup fir = some ⟨ocir, odir, .func (PySem.W.fnOf "is_round" "is_round" (defArgs sIR) (defBody sIR) (defScope sIR) .none kVir dcir pmir anir cdir ctir), slir⟩)
    (cir : PySem.W.codeIn K cdir "is_round" = true)
    (kir : PySem.W.keepIn K (.ref fir) = true)
    (aie : PySem.W.nsIn K mainGlobals "is_ending" = some (some (.ref fie)))
    (lie : K.lookup fie = some ⟨ocie, odie, .func (PySem.W.fnOf "is_ending" "is_ending" (defArgs sIE) (defBody sIE) (defScope sIE) .none kVie dcie pmie anie cdie ctie), slie⟩)
    (cie : PySem.W.codeIn K cdie "is_ending" = true)
    (kie : PySem.W.keepIn K (.ref fie) = true)
    (aCIT : PySem.W.nsIn K mainGlobals "InvalidText" = some (some (.ref CIT)))
    (aIT : PySem.W.findIn K (.ref CIT) "__init__" = some (some (.ref fIT)))
    (iIT : PySem.W.isFn K (.ref fIT) = true)
    (lIT : K.lookup fIT = some ⟨ocIT, odIT, .func (PySem.W.fnOf "__init__" "InvalidText.__init__" (defArgs sEI) (defBody sEI) (defScope sEI) .none kVIT dcIT pmIT anIT cdIT ctIT), slIT⟩)
    (cIT : PySem.W.codeIn K cdIT "InvalidText.__init__" = true)
    (kIT : PySem.W.keepIn K (.ref fIT) = true)
    (xIT : K.lookup CIT = some (excClassObj nmIT qIT CIT NIT bsIT bmIT true snIT subIT abIT colIT ddIT m0IT m1IT m2IT m3IT m5IT "ValueError.__new__"))
    (xrIT : PySem.HandSPX.refsVE bmIT = true)
    (e1IT : PySem.W.findIn K (.ref CIT) "__setattr__" = some (some (.builtin "object.__setattr__")))
    (e2IT : PySem.W.subIn K (.ref CIT) (.type "BaseException") = some true)
    (e3IT : PySem.W.typeIn K (.ref CIT) = some (.type "type"))
    (e4IT : PySem.W.keepIn K (.ref CIT) = true)
    (e5IT : PySem.W.typeIn K (.ref fIT) = some (.type "function"))
    (e6IT : PySem.W.findIn K (.ref CIT) "value" = some none)
    (aCL : PySem.W.nsIn K mainGlobals "Loop" = some (some (.ref CL)))
    (pgL : PySem.W.plainGet K CL Str.empty = true)
    (hdL : PySem.W.hasDictIn K CL = true)
    (poL : PySem.W.plainOver K CL = true)
    (saL : PySem.W.findIn K (.ref CL) "__setattr__" = some (some (.builtin "object.__setattr__")))
    (mkL : PySem.W.makesIn K CL = true)
    (kcL : PySem.W.keepIn K (.ref CL) = true)
    (nL0 : PySem.W.findIn K (.ref CL) "text" = some none)
    (nL1 : PySem.W.findIn K (.ref CL) "round" = some none)
    (nL2 : PySem.W.findIn K (.ref CL) "ending" = some none)
    (nL3 : PySem.W.findIn K (.ref CL) "round_orders" = some none)
    (nL4 : PySem.W.findIn K (.ref CL) "ending_orders" = some none)
    (ali : PySem.W.findIn K (.ref CL) "__init__" = some (some (.ref fli)))
    (ili : PySem.W.isFn K (.ref fli) = true)
    (lli : K.lookup fli = some ⟨ocli, odli, .func (PySem.W.fnOf "__init__" "Loop.__init__" (defArgs sLI) (defBody sLI) (defScope sLI) .none kVli dcli pmli anli cdli ctli), slli⟩)
    (cli : PySem.W.codeIn K cdli "Loop.__init__" = true)
    (kli : PySem.W.keepIn K (.ref fli) = true)
    (aCX : PySem.W.nsIn K mainGlobals "Execution" = some (some (.ref CX)))
    (pgX : PySem.W.plainGet K CX Str.empty = true)
    (hdX : PySem.W.hasDictIn K CX = true)
    (poX : PySem.W.plainOver K CX = true)
    (saX : PySem.W.findIn K (.ref CX) "__setattr__" = some (some (.builtin "object.__setattr__")))
    (mkX : PySem.W.makesIn K CX = true)
    (kcX : PySem.W.keepIn K (.ref CX) = true)
    (nX0 : PySem.W.findIn K (.ref CX) "round_orders" = some none)
    (nX1 : PySem.W.findIn K (.ref CX) "ending_orders" = some none)
    (nX2 : PySem.W.findIn K (.ref CX) "size" = some none)
    (nX3 : PySem.W.findIn K (.ref CX) "held" = some none)
    (nX4 : PySem.W.findIn K (.ref CX) "told" = some none)
    (nX5 : PySem.W.findIn K (.ref CX) "kept" = some none)
    (nX6 : PySem.W.findIn K (.ref CX) "handed" = some none)
    (nX7 : PySem.W.findIn K (.ref CX) "asked" = some none)
    (nX8 : PySem.W.findIn K (.ref CX) "over" = some none)
    (axi : PySem.W.findIn K (.ref CX) "__init__" = some (some (.ref fxi)))
    (ixi : PySem.W.isFn K (.ref fxi) = true)
    (lxi : K.lookup fxi = some ⟨ocxi, odxi, .func (PySem.W.fnOf "__init__" "Execution.__init__" (defArgs sXI) (defBody sXI) (defScope sXI) .none kVxi dcxi pmxi anxi cdxi ctxi), slxi⟩)
    (cxi : PySem.W.codeIn K cdxi "Execution.__init__" = true)
    (kxi : PySem.W.keepIn K (.ref fxi) = true)
    (axa : PySem.W.findIn K (.ref CX) "answer" = some (some (.ref fxa)))
    (ixa : PySem.W.isFn K (.ref fxa) = true)
    (lxa : K.lookup fxa = some ⟨ocxa, odxa, .func (PySem.W.fnOf "answer" "Execution.answer" (defArgs sXA) (defBody sXA) (defScope sXA) .none kVxa dcxa pmxa anxa cdxa ctxa), slxa⟩)
    (cxa : PySem.W.codeIn K cdxa "Execution.answer" = true)
    (kxa : PySem.W.keepIn K (.ref fxa) = true)
    (axq : PySem.W.findIn K (.ref CX) "finish" = some (some (.ref fxq)))
    (ixq : PySem.W.isFn K (.ref fxq) = true)
    (lxq : K.lookup fxq = some ⟨ocxq, odxq, .func (PySem.W.fnOf "finish" "Execution.finish" (defArgs sXF) (defBody sXF) (defScope sXF) .none kVxq dcxq pmxq anxq cdxq ctxq), slxq⟩)
    (cxq : PySem.W.codeIn K cdxq "Execution.finish" = true)
    (kxq : PySem.W.keepIn K (.ref fxq) = true)
    (axp : PySem.W.findIn K (.ref CX) "passes" = some (some (.ref fxp)))
    (ixp : PySem.W.isFn K (.ref fxp) = true)
    (lxp : K.lookup fxp = some ⟨ocxp, odxp, .func (PySem.W.fnOf "passes" "Execution.passes" (defArgs sXP) (defBody sXP) (defScope sXP) .none kVxp dcxp pmxp anxp cdxp ctxp), slxp⟩)
    (cxp : PySem.W.codeIn K cdxp "Execution.passes" = true)
    (kxp : PySem.W.keepIn K (.ref fxp) = true)
    (axr : PySem.W.findIn K (.ref CX) "perform" = some (some (.ref fxr)))
    (ixr : PySem.W.isFn K (.ref fxr) = true)
    (lxr : K.lookup fxr = some ⟨ocxr, odxr, .func (PySem.W.fnOf "perform" "Execution.perform" (defArgs sXR) (defBody sXR) (defScope sXR) .none kVxr dcxr pmxr anxr cdxr ctxr), slxr⟩)
    (cxr : PySem.W.codeIn K cdxr "Execution.perform" = true)
    (kxr : PySem.W.keepIn K (.ref fxr) = true)
    (axc : PySem.W.findIn K (.ref CX) "cut_off" = some (some (.ref fxc)))
    (ixc : PySem.W.isFn K (.ref fxc) = true)
    (lxc : K.lookup fxc = some ⟨ocxc, odxc, .func (PySem.W.fnOf "cut_off" "Execution.cut_off" (defArgs sXC) (defBody sXC) (defScope sXC) .none kVxc dcxc pmxc anxc cdxc ctxc), slxc⟩)
    (cxc : PySem.W.codeIn K cdxc "Execution.cut_off" = true)
    (kxc : PySem.W.keepIn K (.ref fxc) = true)
    (gUA : PySem.W.nsIn K mainGlobals "AMOUNTS" = some (some (.ref pUA)))
    (tUA : K.lookup pUA = some ⟨.type "tuple", odUA, .seq #[.str "exact" tkUA0, .str "short" tkUA1] nUA, slUA⟩)
    (gUP : PySem.W.nsIn K mainGlobals "PATIENCES" = some (some (.ref pUP)))
    (tUP : K.lookup pUP = some ⟨.type "tuple", odUP, .seq #[.str "prompt" tkUP0, .str "waiting" tkUP1] nUP, slUP⟩)
    (gUE : PySem.W.nsIn K mainGlobals "ENDS" = some (some (.ref pUE)))
    (tUE : K.lookup pUE = some ⟨.type "tuple", odUE, .seq #[.str "empty" tkUE0, .str "with" tkUE1, .str "behind" tkUE2] nUE, slUE⟩)
    (ackw : PySem.W.nsIn K mainGlobals "check_word" = some (some (.ref fckw)))
    (lckw : K.lookup fckw = some ⟨occkw, odckw, .func (PySem.W.fnOf "check_word" "check_word" (defArgs sQW) (defBody sQW) (defScope sQW) .none kVckw dcckw pmckw anckw cdckw ctckw), slckw⟩)
    (cckw : PySem.W.codeIn K cdckw "check_word" = true)
    (kckw : PySem.W.keepIn K (.ref fckw) = true)
    (aCU : PySem.W.nsIn K mainGlobals "Source" = some (some (.ref CU)))
    (pgU : PySem.W.plainGet K CU Str.empty = true)
    (hdU : PySem.W.hasDictIn K CU = true)
    (poU : PySem.W.plainOver K CU = true)
    (saU : PySem.W.findIn K (.ref CU) "__setattr__" = some (some (.builtin "object.__setattr__")))
    (mkU : PySem.W.makesIn K CU = true)
    (kcU : PySem.W.keepIn K (.ref CU) = true)
    (nU0 : PySem.W.findIn K (.ref CU) "amount" = some none)
    (nU1 : PySem.W.findIn K (.ref CU) "patience" = some none)
    (nU2 : PySem.W.findIn K (.ref CU) "end" = some none)
    (aui : PySem.W.findIn K (.ref CU) "__init__" = some (some (.ref fui)))
    (iui : PySem.W.isFn K (.ref fui) = true)
    (lui : K.lookup fui = some ⟨ocui, odui, .func (PySem.W.fnOf "__init__" "Source.__init__" (defArgs sUI) (defBody sUI) (defScope sUI) .none kVui dcui pmui anui cdui ctui), slui⟩)
    (cui : PySem.W.codeIn K cdui "Source.__init__" = true)
    (kui : PySem.W.keepIn K (.ref fui) = true)
    (aur : PySem.W.findIn K (.ref CU) "__repr__" = some (some (.ref fur)))
    (iur : PySem.W.isFn K (.ref fur) = true)
    (lur : K.lookup fur = some ⟨ocur, odur, .func (PySem.W.fnOf "__repr__" "Source.__repr__" (defArgs sUR) (defBody sUR) (defScope sUR) .none kVur dcur pmur anur cdur ctur), slur⟩)
    (cur : PySem.W.codeIn K cdur "Source.__repr__" = true)
    (kur : PySem.W.keepIn K (.ref fur) = true)
    (y1U : PySem.W.findIn K (.ref CU) "__class__" = some (some (.builtin "object.__class__")))
    (y2U : PySem.W.specialIn K (.builtin "object.__class__") "__get__" = some (some (.builtin "getset_descriptor.__get__")))
    (y3U : PySem.W.takesIn K (.builtin "object.__class__") = some true)
    (y4U : PySem.W.mroIn K CU (.type "object") = some true)
    (y5U : PySem.W.kitOne K (.ref CU) (.ref CU) = some true)
    (alx : PySem.W.findIn K (.ref CL) "execution" = some (some (.ref flx)))
    (ilx : PySem.W.isFn K (.ref flx) = true)
    (llx : K.lookup flx = some ⟨oclx, odlx, .func (PySem.W.fnOf "execution" "Loop.execution" (defArgs sLX) (defBody sLX) (defScope sLX) .none kVlx dclx pmlx anlx cdlx ctlx), sllx⟩)
    (clx : PySem.W.codeIn K cdlx "Loop.execution" = true)
    (klx : PySem.W.keepIn K (.ref flx) = true)
    (axno : PySem.W.findIn K (.ref CX) "answer_nothing" = some (some (.ref fxno)))
    (ixno : PySem.W.isFn K (.ref fxno) = true)
    (lxno : K.lookup fxno = some ⟨ocxno, odxno, .func (PySem.W.fnOf "answer_nothing" "Execution.answer_nothing" (defArgs sXN) (defBody sXN) (defScope sXN) .none kVxno dcxno pmxno anxno cdxno ctxno), slxno⟩)
    (cxno : PySem.W.codeIn K cdxno "Execution.answer_nothing" = true)
    (kxno : PySem.W.keepIn K (.ref fxno) = true)
    (aumu : PySem.W.findIn K (.ref CU) "must_tell" = some (some (.ref fumu)))
    (iumu : PySem.W.isFn K (.ref fumu) = true)
    (lumu : K.lookup fumu = some ⟨ocumu, odumu, .func (PySem.W.fnOf "must_tell" "Source.must_tell" (defArgs sUM) (defBody sUM) (defScope sUM) .none kVumu dcumu pmumu anumu cdumu ctumu), slumu⟩)
    (cumu : PySem.W.codeIn K cdumu "Source.must_tell" = true)
    (kumu : PySem.W.keepIn K (.ref fumu) = true)
    (aew : PySem.W.nsIn K mainGlobals "exact_work" = some (some (.ref few)))
    (lew : K.lookup few = some ⟨ocew, odew, .func (PySem.W.fnOf "exact_work" "exact_work" (defArgs sEW) (defBody sEW) (defScope sEW) .none kVew dcew pmew anew cdew ctew), slew⟩)
    (cew : PySem.W.codeIn K cdew "exact_work" = true)
    (kew : PySem.W.keepIn K (.ref few) = true)
    (w1 : PySem.W.findIn K (.ref CL) "__class__" = some (some (.builtin "object.__class__")))
    (w2 : PySem.W.specialIn K (.builtin "object.__class__") "__get__" = some (some (.builtin "getset_descriptor.__get__")))
    (w3 : PySem.W.takesIn K (.builtin "object.__class__") = some true)
    (w4 : PySem.W.mroIn K CL (.type "object") = some true)
    (w5 : PySem.W.kitOne K (.ref CL) (.ref CL) = some true)
    (ackl : PySem.W.nsIn K mainGlobals "check_loop" = some (some (.ref fckl)))
    (lckl : K.lookup fckl = some ⟨occkl, odckl, .func (PySem.W.fnOf "check_loop" "check_loop" (defArgs sCKL) (defBody sCKL) (defScope sCKL) .none kVckl dcckl pmckl anckl cdckl ctckl), slckl⟩)
    (cckl : PySem.W.codeIn K cdckl "check_loop" = true)
    (kckl : PySem.W.keepIn K (.ref fckl) = true)
    (acke : PySem.W.nsIn K mainGlobals "check_end" = some (some (.ref fcke)))
    (lcke : K.lookup fcke = some ⟨occke, odcke, .func (PySem.W.fnOf "check_end" "check_end" (defArgs sCKE) (defBody sCKE) (defScope sCKE) .none kVcke dccke pmcke ancke cdcke ctcke), slcke⟩)
    (ccke : PySem.W.codeIn K cdcke "check_end" = true)
    (kcke : PySem.W.keepIn K (.ref fcke) = true)
    (apca : PySem.W.nsIn K mainGlobals "pieces_at" = some (some (.ref fpca)))
    (lpca : K.lookup fpca = some ⟨ocpca, odpca, .func (PySem.W.fnOf "pieces_at" "pieces_at" (defArgs sPcA) (defBody sPcA) (defScope sPcA) .none kVpca dcpca pmpca anpca cdpca ctpca), slpca⟩)
    (cpca : PySem.W.codeIn K cdpca "pieces_at" = true)
    (kpca : PySem.W.keepIn K (.ref fpca) = true)
    (aisu : PySem.W.nsIn K mainGlobals "is_unlike" = some (some (.ref fisu)))
    (lisu : K.lookup fisu = some ⟨ocisu, odisu, .func (PySem.W.fnOf "is_unlike" "is_unlike" (defArgs sIsU) (defBody sIsU) (defScope sIsU) .none kVisu dcisu pmisu anisu cdisu ctisu), slisu⟩)
    (cisu : PySem.W.codeIn K cdisu "is_unlike" = true)
    (kisu : PySem.W.keepIn K (.ref fisu) = true)
    (afun_ : PySem.W.nsIn K mainGlobals "first_unlike" = some (some (.ref ffun_)))
    (lfun_ : K.lookup ffun_ = some ⟨ocfun_, odfun_, .func (PySem.W.fnOf "first_unlike" "first_unlike" (defArgs sFiU) (defBody sFiU) (defScope sFiU) .none kVfun_ dcfun_ pmfun_ anfun_ cdfun_ ctfun_), slfun_⟩)
    (cfun_ : PySem.W.codeIn K cdfun_ "first_unlike" = true)
    (kfun_ : PySem.W.keepIn K (.ref ffun_) = true)
    (gTS : PySem.W.nsIn K mainGlobals "TELLING_SIZES" = some (some (.ref pTS)))
    (tTS : K.lookup pTS = some ⟨.type "tuple", odTS, .seq #[.int 1 tkTS0, .int 2 tkTS1] nTS, slTS⟩)
    (mMTL : PySem.W.nsIn K mainGlobals "MOST_TELLING" = some (some (.int 30 tkMTL)))
    (asip : PySem.W.nsIn K mainGlobals "_law_sip" = some (some (.ref fsip)))
    (lsip : K.lookup fsip = some ⟨ocsip, odsip, .func (PySem.W.fnOf "_law_sip" "_law_sip" (defArgs sSip) (defBody sSip) (defScope sSip) .none kVsip dcsip pmsip ansip cdsip ctsip), slsip⟩)
    (csip : PySem.W.codeIn K cdsip "_law_sip" = true)
    (ksip : PySem.W.keepIn K (.ref fsip) = true)
    (afrm : PySem.W.nsIn K mainGlobals "_law_from" = some (some (.ref ffrm)))
    (lfrm : K.lookup ffrm = some ⟨ocfrm, odfrm, .func (PySem.W.fnOf "_law_from" "_law_from" (defArgs sFrom) (defBody sFrom) (defScope sFrom) .none kVfrm dcfrm pmfrm anfrm cdfrm ctfrm), slfrm⟩)
    (cfrm : PySem.W.codeIn K cdfrm "_law_from" = true)
    (kfrm : PySem.W.keepIn K (.ref ffrm) = true)
    (awds : PySem.W.nsIn K mainGlobals "_law_words" = some (some (.ref fwds)))
    (lwds : K.lookup fwds = some ⟨ocwds, odwds, .func (PySem.W.fnOf "_law_words" "_law_words" (defArgs sWords) (defBody sWords) (defScope sWords) .none kVwds dcwds pmwds anwds cdwds ctwds), slwds⟩)
    (cwds : PySem.W.codeIn K cdwds "_law_words" = true)
    (kwds : PySem.W.keepIn K (.ref fwds) = true)
    (alop : PySem.W.nsIn K mainGlobals "_law_loop" = some (some (.ref flop)))
    (llop : K.lookup flop = some ⟨oclop, odlop, .func (PySem.W.fnOf "_law_loop" "_law_loop" (defArgs sLoop) (defBody sLoop) (defScope sLoop) .none kVlop dclop pmlop anlop cdlop ctlop), sllop⟩)
    (clop : PySem.W.codeIn K cdlop "_law_loop" = true)
    (klop : PySem.W.keepIn K (.ref flop) = true)
    (alin : PySem.W.nsIn K mainGlobals "_law_line" = some (some (.ref flin)))
    (llin : K.lookup flin = some ⟨oclin, odlin, .func (PySem.W.fnOf "_law_line" "_law_line" (defArgs sLine) (defBody sLine) (defScope sLine) .none kVlin dclin pmlin anlin cdlin ctlin), sllin⟩)
    (clin : PySem.W.codeIn K cdlin "_law_line" = true)
    (klin : PySem.W.keepIn K (.ref flin) = true)
    (apas : PySem.W.nsIn K mainGlobals "_law_passed" = some (some (.ref fpas)))
    (lpas : K.lookup fpas = some ⟨ocpas, odpas, .func (PySem.W.fnOf "_law_passed" "_law_passed" (defArgs sPassed) (defBody sPassed) (defScope sPassed) .none kVpas dcpas pmpas anpas cdpas ctpas), slpas⟩)
    (cpas : PySem.W.codeIn K cdpas "_law_passed" = true)
    (kpas : PySem.W.keepIn K (.ref fpas) = true)
    (asli : PySem.W.nsIn K mainGlobals "_law_sliced" = some (some (.ref fsli)))
    (lsli : K.lookup fsli = some ⟨ocsli, odsli, .func (PySem.W.fnOf "_law_sliced" "_law_sliced" (defArgs sSliced) (defBody sSliced) (defScope sSliced) .none kVsli dcsli pmsli ansli cdsli ctsli), slsli⟩)
    (csli : PySem.W.codeIn K cdsli "_law_sliced" = true)
    (ksli : PySem.W.keepIn K (.ref fsli) = true)
    (adon : PySem.W.nsIn K mainGlobals "_law_done" = some (some (.ref fdon)))
    (ldon : K.lookup fdon = some ⟨ocdon, oddon, .func (PySem.W.fnOf "_law_done" "_law_done" (defArgs sDone) (defBody sDone) (defScope sDone) .none kVdon dcdon pmdon andon cddon ctdon), sldon⟩)
    (cdon : PySem.W.codeIn K cddon "_law_done" = true)
    (kdon : PySem.W.keepIn K (.ref fdon) = true)
    (afed : PySem.W.nsIn K mainGlobals "_law_fed" = some (some (.ref ffed)))
    (lfed : K.lookup ffed = some ⟨ocfed, odfed, .func (PySem.W.fnOf "_law_fed" "_law_fed" (defArgs sFed) (defBody sFed) (defScope sFed) .none kVfed dcfed pmfed anfed cdfed ctfed), slfed⟩)
    (cfed : PySem.W.codeIn K cdfed "_law_fed" = true)
    (kfed : PySem.W.keepIn K (.ref ffed) = true)
    (abox : PySem.W.nsIn K mainGlobals "_law_box" = some (some (.ref fbox)))
    (lbox : K.lookup fbox = some ⟨ocbox, odbox, .func (PySem.W.fnOf "_law_box" "_law_box" (defArgs sBox) (defBody sBox) (defScope sBox) .none kVbox dcbox pmbox anbox cdbox ctbox), slbox⟩)
    (cbox : PySem.W.codeIn K cdbox "_law_box" = true)
    (kbox : PySem.W.keepIn K (.ref fbox) = true)
    (amine : PySem.W.nsIn K mainGlobals "_law_mine" = some (some (.ref fmine)))
    (lmine : K.lookup fmine = some ⟨ocmine, odmine, .func (PySem.W.fnOf "_law_mine" "_law_mine" (defArgs sMine) (defBody sMine) (defScope sMine) .none kVmine dcmine pmmine anmine cdmine ctmine), slmine⟩)
    (cmine : PySem.W.codeIn K cdmine "_law_mine" = true)
    (kmine : PySem.W.keepIn K (.ref fmine) = true)
    (alast : PySem.W.nsIn K mainGlobals "_law_last" = some (some (.ref flast)))
    (llast : K.lookup flast = some ⟨oclast, odlast, .func (PySem.W.fnOf "_law_last" "_law_last" (defArgs sLast) (defBody sLast) (defScope sLast) .none kVlast dclast pmlast anlast cdlast ctlast), sllast⟩)
    (clast : PySem.W.codeIn K cdlast "_law_last" = true)
    (klast : PySem.W.keepIn K (.ref flast) = true)
    (aruno : PySem.W.nsIn K mainGlobals "_law_run_out" = some (some (.ref fruno)))
    (lruno : K.lookup fruno = some ⟨ocruno, odruno, .func (PySem.W.fnOf "_law_run_out" "_law_run_out" (defArgs sRun) (defBody sRun) (defScope sRun) .none kVruno dcruno pmruno anruno cdruno ctruno), slruno⟩)
    (cruno : PySem.W.codeIn K cdruno "_law_run_out" = true)
    (kruno : PySem.W.keepIn K (.ref fruno) = true)
    (alsa : PySem.W.nsIn K mainGlobals "_law_same" = some (some (.ref flsa)))
    (llsa : K.lookup flsa = some ⟨oclsa, odlsa, .func (PySem.W.fnOf "_law_same" "_law_same" (defArgs sSa) (defBody sSa) (defScope sSa) .none kVlsa dclsa pmlsa anlsa cdlsa ctlsa), sllsa⟩)
    (clsa : PySem.W.codeIn K cdlsa "_law_same" = true)
    (klsa : PySem.W.keepIn K (.ref flsa) = true)
    (aalk : PySem.W.nsIn K mainGlobals "alike" = some (some (.ref falk)))
    (lalk : K.lookup falk = some ⟨ocalk, odalk, .func (PySem.W.fnOf "alike" "alike" (defArgs sAlk) (defBody sAlk) (defScope sAlk) .none kValk dcalk pmalk analk cdalk ctalk), slalk⟩)
    (calk : PySem.W.codeIn K cdalk "alike" = true)
    (kalk : PySem.W.keepIn K (.ref falk) = true)
    (alfs : PySem.W.nsIn K mainGlobals "_law_first_stop" = some (some (.ref flfs)))
    (llfs : K.lookup flfs = some ⟨oclfs, odlfs, .func (PySem.W.fnOf "_law_first_stop" "_law_first_stop" (defArgs sFs) (defBody sFs) (defScope sFs) .none kVlfs dclfs pmlfs anlfs cdlfs ctlfs), sllfs⟩)
    (clfs : PySem.W.codeIn K cdlfs "_law_first_stop" = true)
    (klfs : PySem.W.keepIn K (.ref flfs) = true)
    (ajar : PySem.W.nsIn K mainGlobals "_law_jar" = some (some (.ref fjar)))
    (ljar : K.lookup fjar = some ⟨ocjar, odjar, .func (PySem.W.fnOf "_law_jar" "_law_jar" (defArgs sJar) (defBody sJar) (defScope sJar) .none kVjar dcjar pmjar anjar cdjar ctjar), sljar⟩)
    (cjar : PySem.W.codeIn K cdjar "_law_jar" = true)
    (kjar : PySem.W.keepIn K (.ref fjar) = true)
    (art : PySem.W.nsIn K mainGlobals "_law_right" = some (some (.ref frt)))
    (lrt : K.lookup frt = some ⟨ocrt, odrt, .func (PySem.W.fnOf "_law_right" "_law_right" (defArgs sRight) (defBody sRight) (defScope sRight) .none kVrt dcrt pmrt anrt cdrt ctrt), slrt⟩)
    (crt : PySem.W.codeIn K cdrt "_law_right" = true)
    (krt : PySem.W.keepIn K (.ref frt) = true)
    (alaw : PySem.W.nsIn K mainGlobals "law" = some (some (.ref flaw)))
    (llaw : K.lookup flaw = some ⟨oclaw, odlaw, .func (PySem.W.fnOf "law" "law" (defArgs sLaw) (defBody sLaw) (defScope sLaw) .none kVlaw dclaw pmlaw anlaw cdlaw ctlaw), sllaw⟩)
    (claw : PySem.W.codeIn K cdlaw "law" = true)
    (klaw : PySem.W.keepIn K (.ref flaw) = true)
    (z_tuple : PySem.W.nsIn K mainGlobals "tuple" = some none)
    (z_len : PySem.W.nsIn K mainGlobals "len" = some none)
    (z_all : PySem.W.nsIn K mainGlobals "all" = some none)
    (z_isinstance : PySem.W.nsIn K mainGlobals "isinstance" = some none)
    (z_str : PySem.W.nsIn K mainGlobals "str" = some none)
    (z_range : PySem.W.nsIn K mainGlobals "range" = some none)
    (z_min : PySem.W.nsIn K mainGlobals "min" = some none)
    (z_int : PySem.W.nsIn K mainGlobals "int" = some none)
    (z_abs : PySem.W.nsIn K mainGlobals "abs" = some none)
    (z_divmod : PySem.W.nsIn K mainGlobals "divmod" = some none)
    (z_list : PySem.W.nsIn K mainGlobals "list" = some none)
    (z_repr : PySem.W.nsIn K mainGlobals "repr" = some none)
    (z_max : PySem.W.nsIn K mainGlobals "max" = some none) :
    Gd.LawG l w K 12 63 "_law_script" mg fa h := by
  have e := hfa.symm.trans (PySem.W.mg_of X G alaw)
  cases e
  have Fwo := fun_mk (st := sWO) lwo cwo kwo
  have bwo := Fwo.binds (ps := ["text"]) fun _ _ _ _ _ _ => Ln.len1 fun _  => rfl
  have Foo := fun_mk (st := sOO) loo coo koo
  have boo := Foo.binds (ps := ["word"]) fun _ _ _ _ _ _ => Ln.len1 fun _  => rfl
  have Fiw := fun_mk (st := sIW) liw ciw kiw
  have biw := Fiw.binds (ps := ["word", "steps"]) fun _ _ _ _ _ _ => Ln.len2 fun _ _  => rfl
  have Faw := fun_mk (st := sAW) law caw kaw
  have baw := Faw.binds (ps := ["words", "steps"]) fun _ _ _ _ _ _ => Ln.len2 fun _ _  => rfl
  have Fir := fun_mk (st := sIR) lir cir kir
  have bir := Fir.binds (ps := ["words"]) fun _ _ _ _ _ _ => Ln.len1 fun _  => rfl
  have Fie := fun_mk (st := sIE) lie cie kie
  have bie := Fie.binds (ps := ["words"]) fun _ _ _ _ _ _ => Ln.len1 fun _  => rfl
  let TL : TxL K mg := ⟨PySem.W.mg_none_of X G z_tuple, PySem.W.mg_none_of X G z_len, PySem.W.mg_none_of X G z_all, ⟨_, PySem.W.mg_of X G mB⟩, ⟨_, PySem.W.mg_of X G mMR⟩, ⟨_, PySem.W.mg_of X G mME⟩, pT, pR, pE, PySem.W.mg_of X G gT, PySem.W.mg_of X G gR, PySem.W.mg_of X G gE, fun H => .inr ⟨_, _, _, tT, rfl, rfl, (by show 8 ≤ sizeLine; decide), .cons ⟨_, rfl⟩ (.cons ⟨_, rfl⟩ (.cons ⟨_, rfl⟩ (.cons ⟨_, rfl⟩ (.cons ⟨_, rfl⟩ (.cons ⟨_, rfl⟩ (.cons ⟨_, rfl⟩ (.cons ⟨_, rfl⟩ (.nil))))))))⟩, fun H => .inr ⟨_, _, _, tR, rfl, rfl, (by show 6 ≤ sizeLine; decide), .cons ⟨_, rfl⟩ (.cons ⟨_, rfl⟩ (.cons ⟨_, rfl⟩ (.cons ⟨_, rfl⟩ (.cons ⟨_, rfl⟩ (.cons ⟨_, rfl⟩ (.nil))))))⟩, fun H => .inr ⟨_, _, _, tE, rfl, rfl, (by show 3 ≤ sizeLine; decide), .cons ⟨_, rfl⟩ (.cons ⟨_, rfl⟩ (.cons ⟨_, rfl⟩ (.nil)))⟩, ⟨fwo, _, Fwo, bwo, PySem.W.mg_of X G awo, kwo⟩, ⟨foo, _, Foo, boo, PySem.W.mg_of X G aoo, koo⟩, ⟨fiw, _, Fiw, biw, PySem.W.mg_of X G aiw, kiw⟩, ⟨faw, _, Faw, baw, PySem.W.mg_of X G aaw, kaw⟩, ⟨fir, _, Fir, bir, PySem.W.mg_of X G air, kir⟩, ⟨fie, _, Fie, bie, PySem.W.mg_of X G aie, kie⟩⟩
  have FIT := fun_mk (st := sEI) lIT cIT kIT
  have bIT := FIT.binds (ps := ["self", "value"]) fun _ _ _ _ _ _ => Ln.len2 fun _ _  => rfl
  have Fli := fun_mk (st := sLI) lli cli kli
  have bli := Fli.binds (ps := ["self", "text"]) fun _ _ _ _ _ _ => Ln.len2 fun _ _  => rfl
  let TC : TxC K mg := ⟨TL, ⟨CIT, fIT, _, PySem.W.mg_of X G aCIT, ⟨⟨nmIT, qIT, NIT, bsIT, bmIT, snIT, subIT, abIT, colIT, ddIT, m0IT, m1IT, m2IT, m3IT, m5IT, xIT, xrIT⟩, e1IT, e2IT, e3IT, e4IT⟩, aIT, e5IT, e6IT, FIT, bIT⟩, PySem.W.mg_none_of X G z_isinstance, PySem.W.mg_none_of X G z_str, CL, PySem.W.mg_of X G aCL, ⟨pgL, hdL, poL, saL⟩, nL0, nL1, nL2, nL3, nL4, fli, _, Fli, bli, ⟨mkL, ali, ili, kcL⟩⟩
  have Fxi := fun_mk (st := sXI) lxi cxi kxi
  have bxi := Fxi.binds (ps := ["self", "round_orders", "ending_orders", "size", "kept"]) fun _ _ _ _ _ _ => Ln.len5 fun _ _ _ _ _  => rfl
  have Fxa := fun_mk (st := sXA) lxa cxa kxa
  have bxa := Fxa.binds (ps := ["self", "held", "told"]) fun _ _ _ _ _ _ => Ln.len3 fun _ _ _  => rfl
  have Fxq := fun_mk (st := sXF) lxq cxq kxq
  have bxq := Fxq.binds (ps := ["self"]) fun _ _ _ _ _ _ => Ln.len1 fun _  => rfl
  have Fxp := fun_mk (st := sXP) lxp cxp kxp
  have bxp := Fxp.binds (ps := ["self", "test"]) fun _ _ _ _ _ _ => Ln.len2 fun _ _  => rfl
  have Fxr := fun_mk (st := sXR) lxr cxr kxr
  have bxr := Fxr.binds (ps := ["self", "step"]) fun _ _ _ _ _ _ => Ln.len2 fun _ _  => rfl
  have Fxc := fun_mk (st := sXC) lxc cxc kxc
  have bxc := Fxc.binds (ps := ["self"]) fun _ _ _ _ _ _ => Ln.len1 fun _  => rfl
  let TX : TxX K mg := ⟨PySem.W.mg_none_of X G z_len, PySem.W.mg_none_of X G z_range, CX, PySem.W.mg_of X G aCX, ⟨pgX, hdX, poX, saX⟩, nX0, nX1, nX2, nX3, nX4, nX5, nX6, nX7, nX8, fxi, _, Fxi, bxi, ⟨mkX, axi, ixi, kcX⟩, ⟨fxa, _, Fxa, bxa, ⟨axa, ixa, kxa⟩⟩, ⟨fxq, _, Fxq, bxq, ⟨axq, ixq, kxq⟩⟩, ⟨fxp, _, Fxp, bxp, ⟨axp, ixp, kxp⟩⟩, ⟨fxr, _, Fxr, bxr, ⟨axr, ixr, kxr⟩⟩, ⟨fxc, _, Fxc, bxc, ⟨axc, ixc, kxc⟩⟩⟩
  have Fckw := fun_mk (st := sQW) lckw cckw kckw
  have bckw := Fckw.binds (ps := ["word", "words"]) fun _ _ _ _ _ _ => Ln.len2 fun _ _  => rfl
  have Fui := fun_mk (st := sUI) lui cui kui
  have bui := Fui.binds (ps := ["self", "amount", "patience", "end"]) fun _ _ _ _ _ _ => Ln.len4 fun _ _ _ _  => rfl
  have Fur := fun_mk (st := sUR) lur cur kur
  have bur := Fur.binds (ps := ["self"]) fun _ _ _ _ _ _ => Ln.len1 fun _  => rfl
  let TU : TxU K mg := ⟨PySem.W.mg_none_of X G z_isinstance, PySem.W.mg_none_of X G z_str, pUA, pUP, pUE, PySem.W.mg_of X G gUA, PySem.W.mg_of X G gUP, PySem.W.mg_of X G gUE, fun H => .inr ⟨_, _, _, tUA, rfl, rfl, (by show 2 ≤ sizeLine; decide), .cons ⟨_, rfl⟩ (.cons ⟨_, rfl⟩ (.nil))⟩, fun H => .inr ⟨_, _, _, tUP, rfl, rfl, (by show 2 ≤ sizeLine; decide), .cons ⟨_, rfl⟩ (.cons ⟨_, rfl⟩ (.nil))⟩, fun H => .inr ⟨_, _, _, tUE, rfl, rfl, (by show 3 ≤ sizeLine; decide), .cons ⟨_, rfl⟩ (.cons ⟨_, rfl⟩ (.cons ⟨_, rfl⟩ (.nil)))⟩, ⟨fckw, _, Fckw, bckw, PySem.W.mg_of X G ackw, kckw⟩, CU, PySem.W.mg_of X G aCU, ⟨pgU, hdU, poU, saU⟩, nU0, nU1, nU2, fui, _, Fui, bui, ⟨mkU, aui, iui, kcU⟩, ⟨fur, _, Fur, bur, aur, iur⟩, y1U, y2U, y3U, y4U, y5U⟩
  have Flx := fun_mk (st := sLX) llx clx klx
  have blx := Flx.binds (ps := ["self", "size", "kept"]) fun _ _ _ _ _ _ => Ln.len3 fun _ _ _  => rfl
  let TN : TxN K mg := ⟨TC, TX, ⟨flx, _, Flx, blx, ⟨alx, ilx, klx⟩⟩⟩
  have Fxno := fun_mk (st := sXN) lxno cxno kxno
  have bxno := Fxno.binds (ps := ["self", "told"]) fun _ _ _ _ _ _ => Ln.len2 fun _ _  => rfl
  have Fumu := fun_mk (st := sUM) lumu cumu kumu
  have bumu := Fumu.binds (ps := ["self", "before", "after"]) fun _ _ _ _ _ _ => Ln.len3 fun _ _ _  => rfl
  have Few := fun_mk (st := sEW) lew cew kew
  have bew := Few.binds (ps := ["loop", "end", "items", "size"]) fun _ _ _ _ _ _ => Ln.len4 fun _ _ _ _  => rfl
  let TUm : TxUm K mg := ⟨TU, ⟨fumu, _, Fumu, bumu, ⟨aumu, iumu, kumu⟩⟩⟩
  let TEw : TxEw K mg := ⟨TN, ⟨TX, ⟨fxno, _, Fxno, bxno, ⟨axno, ixno, kxno⟩⟩⟩, rfl, TUm, PySem.W.mg_none_of X G z_min, PySem.W.mg_none_of X G z_tuple, ⟨few, _, Few, bew, PySem.W.mg_of X G aew, kew⟩⟩
  have Fckl := fun_mk (st := sCKL) lckl cckl kckl
  have bckl := Fckl.binds (ps := ["loop"]) fun _ _ _ _ _ _ => Ln.len1 fun _  => rfl
  have Fcke := fun_mk (st := sCKE) lcke ccke kcke
  have bcke := Fcke.binds (ps := ["end"]) fun _ _ _ _ _ _ => Ln.len1 fun _  => rfl
  let TCk : TxCk K mg := ⟨TEw, w1, w2, w3, w4, w5, ⟨fckl, _, Fckl, bckl, PySem.W.mg_of X G ackl, kckl⟩, ⟨fcke, _, Fcke, bcke, PySem.W.mg_of X G acke, kcke⟩⟩
  have Fpca := fun_mk (st := sPcA) lpca cpca kpca
  have bpca := Fpca.binds (ps := ["loop", "end", "items", "size"]) fun _ _ _ _ _ _ => Ln.len4 fun _ _ _ _  => rfl
  have Fisu := fun_mk (st := sIsU) lisu cisu kisu
  have bisu := Fisu.binds (ps := ["loop", "other_loop", "end", "items", "size"]) fun _ _ _ _ _ _ => Ln.len5 fun _ _ _ _ _  => rfl
  have Ffun_ := fun_mk (st := sFiU) lfun_ cfun_ kfun_
  have bfun_ := Ffun_.binds (ps := ["loop", "other_loop", "end"]) fun _ _ _ _ _ _ => Ln.len3 fun _ _ _  => rfl
  let TFu : TxFu K mg := ⟨TCk, ⟨fpca, _, Fpca, bpca, PySem.W.mg_of X G apca, kpca⟩, ⟨fisu, _, Fisu, bisu, PySem.W.mg_of X G aisu, kisu⟩, ⟨ffun_, _, Ffun_, bfun_, PySem.W.mg_of X G afun_, kfun_⟩, pTS, PySem.W.mg_of X G gTS, fun H => .inr ⟨_, _, _, tTS, rfl, rfl, (by show 2 ≤ sizeLine; decide), .cons ⟨_, rfl⟩ (.cons ⟨_, rfl⟩ (.nil))⟩, ⟨_, PySem.W.mg_of X G mMTL⟩⟩
  have Fsip := fun_mk (st := sSip) lsip csip ksip
  have bsip := Fsip.binds (ps := ["_law_jar_here", "_law_many"]) fun _ _ _ _ _ _ => Ln.len2 fun _ _  => rfl
  have Ffrm := fun_mk (st := sFrom) lfrm cfrm kfrm
  have bfrm := Ffrm.binds (ps := ["_law_jar_here", "_law_things"]) fun _ _ _ _ _ _ => Ln.len2 fun _ _  => rfl
  have Fwds := fun_mk (st := sWords) lwds cwds kwds
  have bwds := Fwds.binds (ps := ["_law_jar_here", "_law_steps", "_law_many"]) fun _ _ _ _ _ _ => Ln.len3 fun _ _ _  => rfl
  have Flop := fun_mk (st := sLoop) llop clop klop
  have blop := Flop.binds (ps := ["_law_jar_here", "_law_most"]) fun _ _ _ _ _ _ => Ln.len2 fun _ _  => rfl
  have Flin := fun_mk (st := sLine) llin clin klin
  have blin := Flin.binds (ps := ["_law_begun", "_law_ended"]) fun _ _ _ _ _ _ => Ln.len2 fun _ _  => rfl
  let TD : TxD K mg := ⟨⟨PySem.W.mg_none_of X G z_len, PySem.W.mg_none_of X G z_int, PySem.W.mg_none_of X G z_abs, PySem.W.mg_none_of X G z_divmod⟩, PySem.W.mg_none_of X G z_range, ⟨fsip, _, Fsip, bsip, PySem.W.mg_of X G asip, ksip⟩, ⟨ffrm, _, Ffrm, bfrm, PySem.W.mg_of X G afrm, kfrm⟩, ⟨fwds, _, Fwds, bwds, PySem.W.mg_of X G awds, kwds⟩, ⟨flop, _, Flop, blop, PySem.W.mg_of X G alop, klop⟩, ⟨flin, _, Flin, blin, PySem.W.mg_of X G alin, klin⟩⟩
  have Fpas := fun_mk (st := sPassed) lpas cpas kpas
  have bpas := Fpas.binds (ps := ["_law_test", "_law_got", "_law_box_here", "_law_said", "_law_wide"]) fun _ _ _ _ _ _ => Ln.len5 fun _ _ _ _ _  => rfl
  have Fsli := fun_mk (st := sSliced) lsli csli ksli
  have bsli := Fsli.binds (ps := ["_law_row_here", "_law_wide", "_law_many"]) fun _ _ _ _ _ _ => Ln.len3 fun _ _ _  => rfl
  have Fdon := fun_mk (st := sDone) ldon cdon kdon
  have bdon := Fdon.binds (ps := ["_law_words_here", "_law_got", "_law_box_here", "_law_said", "_law_wide"]) fun _ _ _ _ _ _ => Ln.len5 fun _ _ _ _ _  => rfl
  have Ffed := fun_mk (st := sFed) lfed cfed kfed
  have bfed := Ffed.binds (ps := ["_law_made", "_law_box_here", "_law_many", "_law_said", "_law_wide"]) fun _ _ _ _ _ _ => Ln.len5 fun _ _ _ _ _  => rfl
  have Fbox := fun_mk (st := sBox) lbox cbox kbox
  have bbox := Fbox.binds (ps := []) fun _ _ _ _ _ _ => Ln.len0 fun (_ : Unit) => rfl
  let TB : TxB K mg := ⟨⟨PySem.W.mg_none_of X G z_len, PySem.W.mg_none_of X G z_int, PySem.W.mg_none_of X G z_abs, PySem.W.mg_none_of X G z_divmod⟩, PySem.W.mg_none_of X G z_range, PySem.W.mg_none_of X G z_tuple, PySem.W.mg_none_of X G z_list, ⟨fpas, _, Fpas, bpas, PySem.W.mg_of X G apas, kpas⟩, ⟨fsli, _, Fsli, bsli, PySem.W.mg_of X G asli, ksli⟩, ⟨fdon, _, Fdon, bdon, PySem.W.mg_of X G adon, kdon⟩, ⟨ffed, _, Ffed, bfed, PySem.W.mg_of X G afed, kfed⟩, ⟨fbox, _, Fbox, bbox, PySem.W.mg_of X G abox, kbox⟩⟩
  have Fmine := fun_mk (st := sMine) lmine cmine kmine
  have bmine := Fmine.binds (ps := ["_law_made"]) fun _ _ _ _ _ _ => Ln.len1 fun _  => rfl
  have Flast := fun_mk (st := sLast) llast clast klast
  have blast := Flast.binds (ps := ["_law_jar_here"]) fun _ _ _ _ _ _ => Ln.len1 fun _  => rfl
  have Fruno := fun_mk (st := sRun) lruno cruno kruno
  have bruno := Fruno.binds (ps := ["_law_made", "_law_last_here", "_law_many", "_law_wide"]) fun _ _ _ _ _ _ => Ln.len4 fun _ _ _ _  => rfl
  let TBr : TxBr K mg := ⟨TB, TD, TC, PySem.W.mg_none_of X G z_min, ⟨fmine, _, Fmine, bmine, PySem.W.mg_of X G amine, kmine⟩, ⟨flast, _, Flast, blast, PySem.W.mg_of X G alast, klast⟩, ⟨fruno, _, Fruno, bruno, PySem.W.mg_of X G aruno, kruno⟩⟩
  have Flsa := fun_mk (st := sSa) llsa clsa klsa
  have blsa := Flsa.binds (ps := ["_law_jar_here", "_law_made", "_law_last_here"]) fun _ _ _ _ _ _ => Ln.len3 fun _ _ _  => rfl
  have Falk := fun_mk (st := sAlk) lalk calk kalk
  have balk := Falk.binds (ps := ["loop", "other_loop", "end"]) fun _ _ _ _ _ _ => Ln.len3 fun _ _ _  => rfl
  have Flfs := fun_mk (st := sFs) llfs clfs klfs
  have blfs := Flfs.binds (ps := ["_law_made", "_law_last_here", "_law_most"]) fun _ _ _ _ _ _ => Ln.len3 fun _ _ _  => rfl
  have Fjar := fun_mk (st := sJar) ljar cjar kjar
  have bjar := Fjar.binds (ps := ["_law_script", "_law_k"]) fun _ _ _ _ _ _ => Ln.len2 fun _ _  => rfl
  have Frt := fun_mk (st := sRight) lrt crt krt
  have brt := Frt.binds (ps := ["_law_jar_here"]) fun _ _ _ _ _ _ => Ln.len1 fun _  => rfl
  have Flaw := fun_mk (st := sLaw) llaw claw klaw
  let R : TxR K mg := ⟨⟨⟨TBr⟩, ⟨flsa, _, Flsa, blsa, PySem.W.mg_of X G alsa, klsa⟩⟩, ⟨TFu, ⟨falk, _, Falk, balk, PySem.W.mg_of X G aalk, kalk⟩⟩, ⟨flfs, _, Flfs, blfs, PySem.W.mg_of X G alfs, klfs⟩, rfl, PySem.W.mg_none_of X G z_repr⟩
  exact ⟨_, [], spLaw K, fun p hp => (nomatch hp), fun p hp => (nomatch hp), fun p hp => (nomatch hp), fun s v => .of_eq rfl, fun H a ns hl _ hS => ⟨a, ns, rfl, hS, hl, fun _ => rfl⟩, fun base _ _ sm _ => ok_law Flaw TD.J TD.range (PySem.W.mg_none_of X G z_all) 11 (ok_right Frt R sm) Fjar bjar (PySem.W.mg_of X G ajar) kjar (by decide) brt (PySem.W.mg_of X G art) krt (PySem.W.mg_none_of X G z_max) (PySem.W.mg_none_of X G z_min)⟩
end My
open PySem PySem.W PyProof.Rows in
set_option maxRecDepth 100000 in
set_option maxHeartbeats 0 in
theorem PySem.Challenge.cw_lastshort_k47_loops_written_otherwise_holds : PySem.Challenge.rw_lastshort_k47_loops_written_otherwise.Holds := by
  w_on; o_law; k_head; (case hw => w_witness2)
  k_fill
  refine Gd.walk_ofG (l := PySem.Challenge.rw_lastshort_k47_loops_written_otherwise) (n := 63) (k := 12) (x := "_law_script") rfl (by decide) rfl (by decide +kernel) ⟨rfl, by decide, by decide⟩ (fun w h Y => PySem.W.kIn_of Y) ?F
  case F =>
    intro w mg fa h Y KX G hmg
    refine' My.all_mk KX G hmg ?gT ?tT ?gR ?tR ?gE ?tE ?mB ?mMR ?mME ?awo ?lwo ?cwo ?kwo ?aoo ?loo ?coo ?koo ?aiw ?liw ?ciw ?kiw ?aaw ?law ?caw ?kaw ?air ?lir ?cir ?kir ?aie ?lie ?cie ?kie ?aCIT ?aIT ?iIT ?lIT ?cIT ?kIT ?xIT ?xrIT ?e1IT ?e2IT ?e3IT ?e4IT ?e5IT ?e6IT ?aCL ?pgL ?hdL ?poL ?saL ?mkL ?kcL ?nL0 ?nL1 ?nL2 ?nL3 ?nL4 ?ali ?ili ?lli ?cli ?kli ?aCX ?pgX ?hdX ?poX ?saX ?mkX ?kcX ?nX0 ?nX1 ?nX2 ?nX3 ?nX4 ?nX5 ?nX6 ?nX7 ?nX8 ?axi ?ixi ?lxi ?cxi ?kxi ?axa ?ixa ?lxa ?cxa ?kxa ?axq ?ixq ?lxq ?cxq ?kxq ?axp ?ixp ?lxp ?cxp ?kxp ?axr ?ixr ?lxr ?cxr ?kxr ?axc ?ixc ?lxc ?cxc ?kxc ?gUA ?tUA ?gUP ?tUP ?gUE ?tUE ?ackw ?lckw ?cckw ?kckw ?aCU ?pgU ?hdU ?poU ?saU ?mkU ?kcU ?nU0 ?nU1 ?nU2 ?aui ?iui ?lui ?cui ?kui ?aur ?iur ?lur ?cur ?kur ?y1U ?y2U ?y3U ?y4U ?y5U ?alx ?ilx ?llx ?clx ?klx ?axno ?ixno ?lxno ?cxno ?kxno ?aumu ?iumu ?lumu ?cumu ?kumu ?aew ?lew ?cew ?kew ?w1 ?w2 ?w3 ?w4 ?w5 ?ackl ?lckl ?cckl ?kckl ?acke ?lcke ?ccke ?kcke ?apca ?lpca ?cpca ?kpca ?aisu ?lisu ?cisu ?kisu ?afun_ ?lfun_ ?cfun_ ?kfun_ ?gTS ?tTS ?mMTL ?asip ?lsip ?csip ?ksip ?afrm ?lfrm ?cfrm ?kfrm ?awds ?lwds ?cwds ?kwds ?alop ?llop ?clop ?klop ?alin ?llin ?clin ?klin ?apas ?lpas ?cpas ?kpas ?asli ?lsli ?csli ?ksli ?adon ?ldon ?cdon ?kdon ?afed ?lfed ?cfed ?kfed ?abox ?lbox ?cbox ?kbox ?amine ?lmine ?cmine ?kmine ?alast ?llast ?clast ?klast ?aruno ?lruno ?cruno ?kruno ?alsa ?llsa ?clsa ?klsa ?aalk ?lalk ?calk ?kalk ?alfs ?llfs ?clfs ?klfs ?ajar ?ljar ?cjar ?kjar ?art ?lrt ?crt ?krt ?alaw ?llaw ?claw ?klaw ?z_tuple ?z_len ?z_all ?z_isinstance ?z_str ?z_range ?z_min ?z_int ?z_abs ?z_divmod ?z_list ?z_repr ?z_max
    (case gT => k_is)
    (case tT => k_is)
    (case gR => k_is)
    (case tR => k_is)
    (case gE => k_is)
    (case tE => k_is)
    (case mB => k_is)
    (case mMR => k_is)
    (case mME => k_is)
    (case awo => k_is)
    (case lwo => k_is)
    (case cwo => k_is)
    (case kwo => k_is)
    (case aoo => k_is)
    (case loo => k_is)
    (case coo => k_is)
    (case koo => k_is)
    (case aiw => k_is)
    (case liw => k_is)
    (case ciw => k_is)
    (case kiw => k_is)
    (case aaw => k_is)
    (case law => k_is)
    (case caw => k_is)
    (case kaw => k_is)
    (case air => k_is)
    (case lir => k_is)
    (case cir => k_is)
    (case kir => k_is)
    (case aie => k_is)
    (case lie => k_is)
    (case cie => k_is)
    (case kie => k_is)
    (case aCIT => k_is)
    (case aIT => k_is)
    (case iIT => k_is)
    (case lIT => k_is)
    (case cIT => k_is)
    (case kIT => k_is)
    (case xIT => k_is)
    (case xrIT => decide +kernel)
    (case e1IT => k_is)
    (case e2IT => k_is)
    (case e3IT => k_is)
    (case e4IT => k_is)
    (case e5IT => k_is)
    (case e6IT => k_is)
    (case aCL => k_is)
    (case pgL => k_is)
    (case hdL => k_is)
    (case poL => k_is)
    (case saL => k_is)
    (case mkL => k_is)
    (case kcL => k_is)
    (case nL0 => k_is)
    (case nL1 => k_is)
    (case nL2 => k_is)
    (case nL3 => k_is)
    (case nL4 => k_is)
    (case ali => k_is)
    (case ili => k_is)
    (case lli => k_is)
    (case cli => k_is)
    (case kli => k_is)
    (case aCX => k_is)
    (case pgX => k_is)
    (case hdX => k_is)
    (case poX => k_is)
    (case saX => k_is)
    (case mkX => k_is)
    (case kcX => k_is)
    (case nX0 => k_is)
    (case nX1 => k_is)
    (case nX2 => k_is)
    (case nX3 => k_is)
    (case nX4 => k_is)
    (case nX5 => k_is)
    (case nX6 => k_is)
    (case nX7 => k_is)
    (case nX8 => k_is)
    (case axi => k_is)
    (case ixi => k_is)
    (case lxi => k_is)
    (case cxi => k_is)
    (case kxi => k_is)
    (case axa => k_is)
    (case ixa => k_is)
    (case lxa => k_is)
    (case cxa => k_is)
    (case kxa => k_is)
    (case axq => k_is)
    (case ixq => k_is)
    (case lxq => k_is)
    (case cxq => k_is)
    (case kxq => k_is)
    (case axp => k_is)
    (case ixp => k_is)
    (case lxp => k_is)
    (case cxp => k_is)
    (case kxp => k_is)
    (case axr => k_is)
    (case ixr => k_is)
    (case lxr => k_is)
    (case cxr => k_is)
    (case kxr => k_is)
    (case axc => k_is)
    (case ixc => k_is)
    (case lxc => k_is)
    (case cxc => k_is)
    (case kxc => k_is)
    (case gUA => k_is)
    (case tUA => k_is)
    (case gUP => k_is)
    (case tUP => k_is)
    (case gUE => k_is)
    (case tUE => k_is)
    (case ackw => k_is)
    (case lckw => k_is)
    (case cckw => k_is)
    (case kckw => k_is)
    (case aCU => k_is)
    (case pgU => k_is)
    (case hdU => k_is)
    (case poU => k_is)
    (case saU => k_is)
    (case mkU => k_is)
    (case kcU => k_is)
    (case nU0 => k_is)
    (case nU1 => k_is)
    (case nU2 => k_is)
    (case aui => k_is)
    (case iui => k_is)
    (case lui => k_is)
    (case cui => k_is)
    (case kui => k_is)
    (case aur => k_is)
    (case iur => k_is)
    (case lur => k_is)
    (case cur => k_is)
    (case kur => k_is)
    (case y1U => k_is)
    (case y2U => k_is)
    (case y3U => k_is)
    (case y4U => k_is)
    (case y5U => kernel_rfl)
    (case alx => k_is)
    (case ilx => k_is)
    (case llx => k_is)
    (case clx => k_is)
    (case klx => k_is)
    (case axno => k_is)
    (case ixno => k_is)
    (case lxno => k_is)
    (case cxno => k_is)
    (case kxno => k_is)
    (case aumu => k_is)
    (case iumu => k_is)
    (case lumu => k_is)
    (case cumu => k_is)
    (case kumu => k_is)
    (case aew => k_is)
    (case lew => k_is)
    (case cew => k_is)
    (case kew => k_is)
    (case w1 => k_is)
    (case w2 => k_is)
    (case w3 => k_is)
    (case w4 => k_is)
    (case w5 => kernel_rfl)
    (case ackl => k_is)
    (case lckl => k_is)
    (case cckl => k_is)
    (case kckl => k_is)
    (case acke => k_is)
    (case lcke => k_is)
    (case ccke => k_is)
    (case kcke => k_is)
    (case apca => k_is)
    (case lpca => k_is)
    (case cpca => k_is)
    (case kpca => k_is)
    (case aisu => k_is)
    (case lisu => k_is)
    (case cisu => k_is)
    (case kisu => k_is)
    (case afun_ => k_is)
    (case lfun_ => k_is)
    (case cfun_ => k_is)
    (case kfun_ => k_is)
    (case gTS => k_is)
    (case tTS => k_is)
    (case mMTL => k_is)
    (case asip => k_is)
    (case lsip => k_is)
    (case csip => k_is)
    (case ksip => k_is)
    (case afrm => k_is)
    (case lfrm => k_is)
    (case cfrm => k_is)
    (case kfrm => k_is)
    (case awds => k_is)
    (case lwds => k_is)
    (case cwds => k_is)
    (case kwds => k_is)
    (case alop => k_is)
    (case llop => k_is)
    (case clop => k_is)
    (case klop => k_is)
    (case alin => k_is)
    (case llin => k_is)
    (case clin => k_is)
    (case klin => k_is)
    (case apas => k_is)
    (case lpas => k_is)
    (case cpas => k_is)
    (case kpas => k_is)
    (case asli => k_is)
    (case lsli => k_is)
    (case csli => k_is)
    (case ksli => k_is)
    (case adon => k_is)
    (case ldon => k_is)
    (case cdon => k_is)
    (case kdon => k_is)
    (case afed => k_is)
    (case lfed => k_is)
    (case cfed => k_is)
    (case kfed => k_is)
    (case abox => k_is)
    (case lbox => k_is)
    (case cbox => k_is)
    (case kbox => k_is)
    (case amine => k_is)
    (case lmine => k_is)
    (case cmine => k_is)
    (case kmine => k_is)
    (case alast => k_is)
    (case llast => k_is)
    (case clast => k_is)
    (case klast => k_is)
    (case aruno => k_is)
    (case lruno => k_is)
    (case cruno => k_is)
    (case kruno => k_is)
    (case alsa => k_is)
    (case llsa => k_is)
    (case clsa => k_is)
    (case klsa => k_is)
    (case aalk => k_is)
    (case lalk => k_is)
    (case calk => k_is)
    (case kalk => k_is)
    (case alfs => k_is)
    (case llfs => k_is)
    (case clfs => k_is)
    (case klfs => k_is)
    (case ajar => k_is)
    (case ljar => k_is)
    (case cjar => k_is)
    (case kjar => k_is)
    (case art => k_is)
    (case lrt => k_is)
    (case crt => k_is)
    (case krt => k_is)
    (case alaw => k_is)
    (case llaw => k_is)
    (case claw => k_is)
    (case klaw => k_is)
    (case z_tuple => k_is)
    (case z_len => k_is)
    (case z_all => k_is)
    (case z_isinstance => k_is)
    (case z_str => k_is)
    (case z_range => k_is)
    (case z_min => k_is)
    (case z_int => k_is)
    (case z_abs => k_is)
    (case z_divmod => k_is)
    (case z_list => k_is)
    (case z_repr => k_is)
    (case z_max => k_is)
