import PyProof.Rows.All
import Wide.All
import OpenK.AllK
import Wide.FinOn
import HandS.ForMost
import HandS.Codes
import HandS.IsInst
import HandS.TupAny
import HandS.SlotsOwn
import HandS.ExcInit
import HandS.ExcField
import HandS.WordsExc
import KE.KCallOwn
import OpenK.KOps
import HandS.FStr
import HandS.RaiseMore
import HandS.HeadHook3
import HandS.Deep
import HandS.TupMul
import HandS.CallLocal
import PyProof.ReprRoads
import HandS.Lambda
import HandS.Style
import HandS.TryOnly
import PySem.Challenge.RW_lastshort_k57_chains_written_otherwise
set_option Elab.async false
set_option linter.all false
set_option maxRecDepth 100000
set_option maxHeartbeats 8000000
/-! lists of a known length: smaller than a match in the place -/
namespace Ln
theorem len0 {α : Type} {p : List α → Prop} (h : Unit → p []) : ∀ us : List α, us.length = 0 → p us
  | [], _ => h ()
theorem len1 {α : Type} {p : List α → Prop} (h : ∀ a0, p [a0]) : ∀ us : List α, us.length = 1 → p us
  | [a0], _ => h a0
theorem len2 {α : Type} {p : List α → Prop} (h : ∀ a0 a1, p [a0, a1]) : ∀ us : List α, us.length = 2 → p us
  | [a0, a1], _ => h a0 a1
theorem len3 {α : Type} {p : List α → Prop} (h : ∀ a0 a1 a2, p [a0, a1, a2]) : ∀ us : List α, us.length = 3 → p us
  | [a0, a1, a2], _ => h a0 a1 a2
theorem len4 {α : Type} {p : List α → Prop} (h : ∀ a0 a1 a2 a3, p [a0, a1, a2, a3]) : ∀ us : List α, us.length = 4 → p us
  | [a0, a1, a2, a3], _ => h a0 a1 a2 a3
theorem len5 {α : Type} {p : List α → Prop} (h : ∀ a0 a1 a2 a3 a4, p [a0, a1, a2, a3, a4]) : ∀ us : List α, us.length = 5 → p us
  | [a0, a1, a2, a3, a4], _ => h a0 a1 a2 a3 a4
theorem len6 {α : Type} {p : List α → Prop} (h : ∀ a0 a1 a2 a3 a4 a5, p [a0, a1, a2, a3, a4, a5]) : ∀ us : List α, us.length = 6 → p us
  | [a0, a1, a2, a3, a4, a5], _ => h a0 a1 a2 a3 a4 a5
theorem len7 {α : Type} {p : List α → Prop} (h : ∀ a0 a1 a2 a3 a4 a5 a6, p [a0, a1, a2, a3, a4, a5, a6]) : ∀ us : List α, us.length = 7 → p us
  | [a0, a1, a2, a3, a4, a5, a6], _ => h a0 a1 a2 a3 a4 a5 a6
theorem len8 {α : Type} {p : List α → Prop} (h : ∀ a0 a1 a2 a3 a4 a5 a6 a7, p [a0, a1, a2, a3, a4, a5, a6, a7]) : ∀ us : List α, us.length = 8 → p us
  | [a0, a1, a2, a3, a4, a5, a6, a7], _ => h a0 a1 a2 a3 a4 a5 a6 a7
theorem len9 {α : Type} {p : List α → Prop} (h : ∀ a0 a1 a2 a3 a4 a5 a6 a7 a8, p [a0, a1, a2, a3, a4, a5, a6, a7, a8]) : ∀ us : List α, us.length = 9 → p us
  | [a0, a1, a2, a3, a4, a5, a6, a7, a8], _ => h a0 a1 a2 a3 a4 a5 a6 a7 a8
end Ln

/-! the draws of the law: jar, sip, from -/
namespace My
open PySem L2
def top (i : Nat) : Stmt := PySem.Challenge.pw_lastshort_k57_chains_written_otherwise.main.body.getD i (.Pass ⟨0, 0, 0, 0⟩)
abbrev sJar : Stmt := top 28
abbrev sSip : Stmt := top 29
abbrev sFrom : Stmt := top 30
/-! ### heaps -/
/-- all but what stands at j is as it was -/
def Off (j : Addr) (H H' : Hp) : Prop := ∀ b o, b ≠ j → H b = some o → H' b = some o
theorem Off.refl {j : Addr} {H : Hp} : Off j H H := fun _ _ _ e => e
theorem Off.trans {j : Addr} {H H1 H2 : Hp} (a : Off j H H1) (b : Off j H1 H2) : Off j H H2 := fun c o n e => b c o n (a c o n e)
theorem Off.new {j p : Addr} {H H1 : Hp} {o : HO} (a : Off j H H1) (n : H1 p = none) : Off j H (upd H1 p o) := fun b u nb e => by
  rw [upd_ne (ne_of_none (a b u nb e) n)]
  exact a b u nb e
theorem Off.put {j : Addr} {H H1 : Hp} {o : HO} (a : Off j H H1) : Off j H (upd H1 j o) := fun b u nb e => by
  rw [upd_ne nb]
  exact a b u nb e
theorem Off.seq {K : PySem.W.Frag} {j a : Addr} {H H' : Hp} {xs : List V} (e : Off j H H') (n : a ≠ j) (h : SqL K H a xs) : SqL K H' a xs := by
  rcases h with (h | ⟨o, h⟩) | h
  · exact .inl (.inl (e _ _ n h))
  · exact .inl (.inr ⟨o, e _ _ n h⟩)
  · exact .inr h
theorem Off.set {K : PySem.W.Frag} {j a : Addr} {H H' : Hp} {xs : List V} (e : Off j H H') (n : a ≠ j) (h : SqT K H a xs) : SqT K H' a xs := by
  rcases h with (h | ⟨o, h⟩) | h
  · exact .inl (.inl (e _ _ n h))
  · exact .inl (.inr ⟨o, e _ _ n h⟩)
  · exact .inr h
theorem Off.same {j : Addr} {H0 H H' : Hp} (e : Off j H H') (s : Same H0 H) (n : H0 j = none) : Same H0 H' := fun b o q => e b o (fun z => by rw [z, n] at q; cases q) (s b o q)
theorem same_upd {H : Hp} {p : Addr} {o : HO} (h : H p = none) : Same H (upd H p o) := fun b x e => by
  rw [upd_ne (ne_of_none e h)]
  exact e
theorem Same.off {j : Addr} {H H' : Hp} (s : Same H H') : Off j H H' := fun b o _ e => s b o e
/-- a jar: three whole numbers -/
def Jar (H : Hp) (j : Addr) : Prop := ∃ a b c : Int, H j = some (.lst [.int a, .int b, .int c])
theorem Jar.new {H : Hp} {j p : Addr} {o : HO} (a : Jar H j) (n : H p = none) : Jar (upd H p o) j := by
  obtain ⟨x, y, z, h⟩ := a
  exact ⟨x, y, z, by rw [upd_ne (ne_of_none h n)]; exact h⟩
theorem Jar.same {H H' : Hp} {j : Addr} (a : Jar H j) (s : Same H H') : Jar H' j := by
  obtain ⟨x, y, z, h⟩ := a
  exact ⟨x, y, z, s _ _ h⟩
/-! ### promises -/
def spSip : Sp := fun vs H Q _ => ∃ (j : Addr) (m : Int), vs = [.ref j, .int m] ∧ Jar H j ∧ 0 < m ∧ m < 1073741824 ∧
  ∀ (H' : Hp) (d : Int), 0 ≤ d → d < m → Off j H H' → Jar H' j → Q (.int d) H'
def spFrom (K : PySem.W.Frag) : Sp := fun vs H Q _ => ∃ (j p : Addr) (xs : List V), vs = [.ref j, .ref p] ∧ Jar H j ∧ p ≠ j ∧ SqL K H p xs ∧ 0 < xs.length ∧ xs.length < 1073741824 ∧
  ∀ (H' : Hp) (i : Nat) (x : V), xs[i]? = some x → Off j H H' → Jar H' j → Q x H'
def spJar (K : PySem.W.Frag) : Sp := fun vs H Q _ => ∃ (a : Addr) (ns : List Int) (k : Nat), vs = [.ref a, .int k] ∧ SqL K H a (ns.map V.int) ∧ ns.length ≤ 63 ∧
  ∀ (H' : Hp) (j : Addr), Same H H' → H j = none → Jar H' j → Q (.ref j) H'
/-- the built-ins of the draws are still the built-ins -/
structure TxtJ (mg : Str → Option Value) : Prop where
  len : mg "len" = none
  int : mg "int" = none
  abs : mg "abs" = none
  divmod : mg "divmod" = none
section
variable {P : Program} {w : World} {K : PySem.W.Frag} {mg : Str → Option Value} {base : Heap}
theorem scSip : FnScope ["_law_jar_here", "_law_many", "_law_digit"] ["_law_jar_here", "_law_many"] (defScope sSip) := ⟨rfl, rfl, rfl, by decide +kernel, rfl, by decide +kernel, by decide +kernel⟩
theorem ok_sip {f : Addr} {fd : FuncData} (F : Fun K "_law_sip" "_law_sip" sSip f fd) (T : TxtJ mg) : FnOk P w K mg base CX0 1 f fd ["_law_jar_here", "_law_many"] spSip := by
  refine F.ok scSip (fun vs H Q E h => ?_) (fun cdv A outer s H vs Q E hr h => ?_)
  · obtain ⟨j, m, rfl, _⟩ := h
    rfl
  · obtain ⟨j, m, rfl, ⟨a, b, c, hj⟩, m0, m1, k⟩ := h
    refine ⟨_, pss_cons (ps_asg (pe_op op_add (pe_ix ix_list (pv 0) pe_int (fun _ _ => rfl)) pe_int) (pg_sub (pv 0) pe_int set_list))
      (pss_cons (ps_if (pt_cmpR op_gt (pe_ix ix_list (pv 0) pe_int (fun _ _ => rfl)) pe_int (nomark _))
        (pss_cons (ps_asg (pe_callB call_divmod (by rfl) T.divmod (by decide +kernel) (pa_cons (pe_callTy call_int1 (by rfl) T.int (by decide +kernel) (pa_cons (pe_ix ix_list (pv 0) pe_int (fun _ _ => rfl)) pa_nil)) (pa_cons (pv 1) pa_nil)))
            (pg_tup (by rfl) (pgs_cons (pg_sub (pv 0) pe_int set_list) (pgs_cons (pg_name (i := 2) scSip.nd rfl (.inl rfl)) pgs_nil))))
          (pss_one (ps_ret (pv 2)))) pss_nil)
      (pss_cons (ps_asg (pe_op op_mod (pe_callTy call_int1 (by rfl) T.int (by decide +kernel) (pa_cons (pe_op op_add (pe_op op_add (pe_op op_mul (pe_ix ix_list (pv 0) pe_int (fun _ _ => rfl)) pe_int) (pe_op op_mul (pe_ix ix_list (pv 0) pe_int (fun _ _ => rfl)) pe_int))
            (pe_op op_mul (pe_op op_fdiv (pe_ix ix_list (pv 0) pe_int (fun _ _ => rfl)) pe_int) pe_int)) pa_nil)) pe_int) (pg_sub (pv 0) pe_int set_list))
      (pss_one (ps_ret (pe_op op_mod (pe_callTy call_int1 (by rfl) T.int (by decide +kernel) (pa_cons (pe_op op_fdiv (pe_ix ix_list (pv 0) pe_int (fun _ _ => rfl)) pe_int) pa_nil)) (pv 1)))))), ?_⟩
    -- jar[2] = jar[2] + 1
    refine ⟨_, rfl, j, _, 2, _, rfl, rfl, SqL.of hj, rfl, _, _, rfl, rfl, _, rfl, j, _, 2, 2, rfl, rfl, hj, rfl, ?_⟩
    -- if jar[0] > 0
    refine ⟨_, rfl, j, _, 0, _, rfl, rfl, SqL.of upd_same, rfl, _, _, rfl, rfl, _, rfl, ?_⟩
    have o1 : Off j H (upd H j (.lst [.int a, .int b, .int (c + 1)])) := Off.put Off.refl
    refine ite2 (fun _ => ?_) (fun _ => ?_)
    · refine ⟨_, rfl, j, _, 0, _, rfl, rfl, SqL.of upd_same, rfl, .inl ⟨_, rfl, _, rfl, a, m, rfl, ⟨m0, m1⟩, fun p np => ?_⟩⟩
      have npj : p ≠ j := fun e => by
        rw [e, upd_same] at np
        cases np
      refine ⟨p, _, rfl, SqT.of upd_same, rfl, _, _, rfl, _, rfl, j, _, 0, 0, rfl, rfl, (by rw [upd_ne npj.symm]; exact upd_same), rfl, _, _, rfl, rfl, ?_⟩
      refine ⟨_, rfl, ?_⟩
      exact k _ _ (Int.emod_nonneg _ (by omega)) (Int.emod_lt_of_pos _ m0) (Off.put (Off.new o1 np)) ⟨_, _, _, upd_same⟩
    · refine ⟨_, rfl, j, _, 1, _, rfl, rfl, SqL.of upd_same, rfl, _, _, rfl, rfl, .inr (by decide), ?_⟩
      refine ⟨_, rfl, j, _, 2, _, rfl, rfl, SqL.of upd_same, rfl, _, _, rfl, rfl, .inr (by decide), _, _, rfl, rfl, ?_⟩
      refine ⟨_, rfl, j, _, 1, _, rfl, rfl, SqL.of upd_same, rfl, _, _, rfl, rfl, ⟨by decide, by decide⟩, _, _, rfl, rfl, .inr (by decide), _, _, rfl, rfl, .inl ⟨_, rfl, _, _, rfl, rfl, (by show (0 : Int) < 1999999927; decide), ?_⟩⟩
      refine ⟨_, rfl, j, _, 1, 1, rfl, rfl, upd_same, rfl, ?_⟩
      refine ⟨_, rfl, j, _, 1, _, rfl, rfl, SqL.of upd_same, rfl, _, _, rfl, rfl, ⟨by decide, by decide⟩, .inl ⟨_, rfl, _, rfl, _, _, rfl, rfl, m0, ?_⟩⟩
      exact k _ _ (Int.emod_nonneg _ (by omega)) (Int.emod_lt_of_pos _ m0) (Off.put o1) ⟨_, _, _, upd_same⟩

/-! ### from -/
structure TxtS (K : PySem.W.Frag) (mg : Str → Option Value) (fS : Addr) : Prop where
  g : mg "_law_sip" = some (.ref fS)
  k : PySem.W.keepIn K (.ref fS) = true
theorem scFrom : FnScope ["_law_jar_here", "_law_things"] ["_law_jar_here", "_law_things"] (defScope sFrom) := ⟨rfl, rfl, rfl, by decide +kernel, rfl, by decide +kernel, by decide +kernel⟩
theorem ok_from {f fS : Addr} {fd fdS : FuncData} (F : Fun K "_law_from" "_law_from" sFrom f fd) (T : TxtJ mg) (S : TxtS K mg fS) (FS : Fun K "_law_sip" "_law_sip" sSip fS fdS) (bS : Binds K fdS ["_law_jar_here", "_law_many"] []) :
    FnOk P w K mg base CX0 2 f fd ["_law_jar_here", "_law_things"] (spFrom K) := by
  have GS : FnOk P w K mg base CX0 1 fS fdS ["_law_jar_here", "_law_many"] spSip := ok_sip FS T
  refine F.ok scFrom (fun vs H Q E h => ?_) (fun cdv A outer s H vs Q E hr h => ?_)
  · obtain ⟨j, p, xs, rfl, _⟩ := h
    rfl
  · obtain ⟨j, p, xs, rfl, hJ, npj, hS, l0, l1, k⟩ := h
    refine ⟨_, pss_one (ps_ret (pe_ix ix_list (pv 1) (pe_call GS hr rfl S.g S.k bS .nil pass0 (pa_cons (pv 0) (pa_cons (pe_callB call_len_seq (by rfl) T.len PySem.boot_len (pa_cons (pv 1) pa_nil)) pa_nil))) (fun _ _ => rfl))), ?_⟩
    refine ⟨_, rfl, _, rfl, _, rfl, p, xs, rfl, .inl hS, j, _, rfl, hJ, by omega, by omega, fun H' d d0 d1 o J => ?_⟩
    obtain ⟨n, rfl⟩ := Int.eq_ofNat_of_zero_le d0
    have hn : n < xs.length := by omega
    exact ⟨p, xs, _, xs[n], rfl, rfl, o.seq npj hS, atI_nat (List.getElem?_eq_getElem hn), k H' n _ (List.getElem?_eq_getElem hn) o J⟩
/-! ### jar -/
theorem scJar : FnScope ["_law_script", "_law_k", "_law_own", "_law_mixed", "_law_entry"] ["_law_script", "_law_k"] (defScope sJar) := ⟨rfl, rfl, rfl, by decide +kernel, rfl, by decide +kernel, by decide +kernel⟩
theorem int_of_map {ns : List Int} {i : Nat} {y : V} (h : (ns.map V.int)[i]? = some y) : ∃ u, y = V.int u := by
  rw [List.getElem?_map] at h
  cases e : ns[i]? with
  | none =>
    rw [e] at h
    cases h
  | some u =>
    rw [e] at h
    exact ⟨u, (Option.some.inj h).symm⟩
theorem cut_map (ns : List Int) (lo hi : Option Int) : ∃ ms : List Int, cutV (ns.map V.int) lo hi = ms.map V.int :=
  ⟨(ns.drop (HT.sIx (ns.map V.int).length 0 lo)).take (HT.sIx (ns.map V.int).length (ns.map V.int).length hi - HT.sIx (ns.map V.int).length 0 lo), by
    unfold cutV
    rw [List.map_take, List.map_drop]⟩
theorem ok_jar {f : Addr} {fd : FuncData} (F : Fun K "_law_jar" "_law_jar" sJar f fd) (T : TxtJ mg) : FnOk P w K mg base CX0 1 f fd ["_law_script", "_law_k"] (spJar K) := by
  refine F.ok scJar (fun vs H Q E h => ?_) (fun cdv A outer s H vs Q E hr h => ?_)
  · obtain ⟨a, ns, k, rfl, _⟩ := h
    rfl
  · obtain ⟨a, ns, k, rfl, hS, hl, q⟩ := h
    refine ⟨_, C8.pss_cut (ps_set (i := 2) scJar.nd rfl (.inl rfl) (pe_ifExp (pt_cmpR op_lt (pv 1) (pe_callB call_len_seq (by rfl) T.len PySem.boot_len (pa_cons (pv 0) pa_nil)) (nomark _))
          (pe_callTy call_int1 (by rfl) T.int (by decide +kernel) (pa_cons (pe_ix ix_list (pv 0) (pv 1) (fun _ _ => rfl)) pa_nil)) (pe_op op_add (pe_op op_mul pe_int (pv 1)) pe_int)))
      (pss_cons (ps_set (i := 3) scJar.nd rfl (.inl rfl) (pe_op op_add pe_int (pe_op op_mul pe_int (pv 1))))
      (pss_cons (ps_for PassesOwn.never rfl (pi_list (pe_slice sl_list (pv 0) po_none (po_some pe_int))) (pg_name (i := 4) scJar.nd rfl (.inl rfl))
        (pss_one (ps_set (i := 3) scJar.nd rfl (.inl rfl) (pe_op op_mod (pe_callTy call_int1 (by rfl) T.int (by decide +kernel) (pa_cons (pe_op op_add (pe_op op_mul (pv 3) pe_int) (pe_op op_mod (pe_callTy call_int1 (by rfl) T.int (by decide +kernel) (pa_cons (pv 4) pa_nil)) pe_int)) pa_nil)) pe_int))))
      (pss_one (ps_ret (pe_lst (pa_cons (pe_ifExp (PW.pt (pw_or (pt_cmpR op_lt (pv 2) pe_int (nomark _)) (pw_or1 (pt_cmpR op_ge (pv 2) (pe_op op_pow pe_int pe_int) (nomark _))))) (pe_callB call_abs (by rfl) T.abs (by decide +kernel) (pa_cons (pv 2) pa_nil)) pe_int)
        (pa_cons (pe_op op_mod (pe_callTy call_int1 (by rfl) T.int (by decide +kernel) (pa_cons (pe_op op_add (pe_op op_mul (pv 3) pe_int) (pe_op op_mod (pv 2) pe_int)) pa_nil)) pe_int) (pa_cons pe_int pa_nil)))))))), ?_⟩
    refine ⟨fun σ H' => H = H' ∧ ∃ own : Int, σ = [some (.ref a), some (.int k), some (.int own), none, none], ?_, ?_⟩
    · refine ⟨_, rfl, _, rfl, a, _, rfl, .inl hS, _, _, rfl, rfl, _, rfl, ?_⟩
      refine ite2 (fun c => ?_) (fun c => ?_)
      · have hk : k < ns.length := by
          have c' := of_decide_eq_true c
          rw [List.length_map] at c'
          omega
        exact ⟨_, rfl, _, rfl, a, _, _, .int ns[k], rfl, rfl, hS, atI_nat (by rw [List.getElem?_map, List.getElem?_eq_getElem hk]; rfl), .inl ⟨_, rfl, rfl, _, rfl⟩⟩
      · exact ⟨_, rfl, _, _, rfl, rfl, .inl (by decide), _, _, rfl, rfl, rfl, _, rfl⟩
    · rintro _ _ ⟨rfl, own, rfl⟩
      refine ⟨_, rfl, _, _, rfl, rfl, .inl (by decide), _, _, rfl, rfl, ?_⟩
      refine ⟨_, rfl, 13, rfl, a, _, rfl, hS, fun p np => ?_⟩
      obtain ⟨ms, ems⟩ := cut_map ns none (some 13)
      rw [ems]
      refine ⟨p, rfl, ⟨_, SqL.of upd_same⟩, for_list (K := K) (a := p) (xs := ms.map V.int) (fun i σ H' => ∃ (mx : Int) (v : Option V), σ = [some (.ref a), some (.int k), some (.int own), some (.int mx), v] ∧ H' = upd H p (.lst (ms.map V.int)))
        ⟨_, none, rfl, rfl⟩ (fun i σ H' _ ⟨_, _, _, e⟩ => by rw [e]; exact SqL.of upd_same) ?_ ?_⟩
      · rintro i y σ H' hi ⟨mx, v, rfl, rfl⟩
        obtain ⟨u, rfl⟩ := int_of_map hi
        refine ⟨_, rfl, _, _, rfl, rfl, .inr (by decide), ?_⟩
        refine ⟨_, rfl, .inl ⟨_, rfl, _, _, rfl, rfl, (by show (0 : Int) < 1999999927; decide), _, _, rfl, rfl, .inl ⟨_, rfl, _, _, rfl, rfl, (by show (0 : Int) < 1999999927; decide), ?_⟩⟩⟩
        exact ⟨_, _, rfl, rfl⟩
      · rintro σ H' ⟨mx, v, rfl, rfl⟩
        have fin : ∀ (x : Int), tCons (tOp (rI (fun x j => 0 < j) fun i j => V.int (i % j)) (tCB (fun xs H Q => (∃ i, xs = [V.int i] ∧ Q (V.int i) H) ∨ ∃ k, xs = [V.bl k] ∧ Q (V.int (if k = true then 1 else 0)) H)
            (tCons (tOp (rI0 fun i j => V.int (i + j)) (tOp (rI CMul fun i j => V.int (i * j)) (tVar 3) (tC (V.int 5))) (tOp (rI (fun x j => 0 < j) fun i j => V.int (i % j)) (tVar 2) (tC (V.int 1999999927)))) tNil)) (tC (V.int 1999999927)))
          (tCons (tC (V.int 0)) tNil) [some (.ref a), some (.int k), some (.int own), some (.int mx), v] (upd H p (.lst (ms.map V.int))) (fun xs H1 => (V.int x :: xs).length ≤ sizeLine ∧ ∀ p, H1 p = none → Q (.ref p) (upd H1 p (.lst (V.int x :: xs)))) := by
          intro x
          refine ⟨_, rfl, _, _, rfl, rfl, .inr (by decide), _, rfl, _, _, rfl, rfl, (by show (0 : Int) < 1999999927; decide), _, _, rfl, rfl, .inl ⟨_, rfl, _, _, rfl, rfl, (by show (0 : Int) < 1999999927; decide), ?_⟩⟩
          refine ⟨(by show 3 ≤ sizeLine; decide), fun jj nj => ?_⟩
          exact q _ jj (Same.trans (same_upd np) (same_upd nj)) ((same_upd np).free nj) ⟨_, _, _, upd_same⟩
        refine ⟨_, rfl, _, _, rfl, rfl, _, rfl, ?_⟩
        refine ite2 (fun _ => ?_) (fun _ => ?_)
        · refine iteT ?_
          exact ⟨_, rfl, _, rfl, fin _⟩
        · refine ⟨_, rfl, _, _, rfl, rfl, ⟨by decide, by decide, by decide⟩, _, _, rfl, rfl, _, rfl, ?_⟩
          refine ite2 (fun _ => ?_) (fun _ => ?_)
          · exact ⟨_, rfl, _, rfl, fin _⟩
          · exact fin _
end
end My

/-! what every proof about a program of several defs wants -/
namespace Cm
open PySem PySem.Spec PyProof.Rows L2
/-- a def of the module -/
structure Df (K : PySem.W.Frag) (mg : Str → Option Value) (x : Str) (st : Stmt) (ps : List Str) where
  f : Addr
  fd : FuncData
  F : Fun K x x st f fd
  b : Binds K fd ps []
  g : mg x = some (.ref f)
  k : PySem.W.keepIn K (.ref f) = true
/-- a method of the class at C -/
structure Mt (K : PySem.W.Frag) (C : Addr) (x q : Str) (st : Stmt) (ps : List Str) where
  f : Addr
  fd : FuncData
  F : Fun K x q st f fd
  b : Binds K fd ps []
  m : Meth K C x f
theorem dI (a b : Int) : decide (V.int a = V.int b) = decide (a = b) := decide_eq_decide.mpr ⟨fun z => by cases z; rfl, fun z => by rw [z]⟩
theorem dS (a b : Str) : decide (V.str a = V.str b) = decide (a = b) := decide_eq_decide.mpr ⟨fun z => by cases z; rfl, fun z => by rw [z]⟩
theorem dB (a b : Bool) : decide (V.bl a = V.bl b) = decide (a = b) := decide_eq_decide.mpr ⟨fun z => by cases z; rfl, fun z => by rw [z]⟩
theorem putF_len (f : Str) (v : V) : ∀ fs : List (Str × V), (putF f v fs).length ≤ fs.length + 1
  | [] => Nat.le_refl _
  | (g, x) :: r => by
    unfold putF
    by_cases h : g = f
    · rw [if_pos h]
      exact Nat.le_succ _
    · rw [if_neg h]
      exact Nat.succ_le_succ (putF_len f v r)
theorem szl {n : Nat} (h : n ≤ 1000) : n ≤ sizeLine := Nat.le_of_lt (small1000 h)
theorem szM {n : Nat} (h : n ≤ 1000000) : n < sizeLine := Nat.lt_of_le_of_lt h (by decide)
theorem Same.set {K : PySem.W.Frag} {H H' : Hp} {a : Addr} {xs : List V} (e : Same H H') (h : SqT K H a xs) : SqT K H' a xs := by
  rcases h with (h | ⟨o, h⟩) | h
  · exact .inl (.inl (e _ _ h))
  · exact .inl (.inr ⟨o, e _ _ h⟩)
  · exact .inr h
theorem same_new {H : Hp} {p : Addr} {o : HO} (h : H p = none) : Same H (upd H p o) := fun b x e => by
  rw [upd_ne (ne_of_none e h)]
  exact e
theorem pass_none {P : Program} {w : World} {X : Cx} : Passes (L2.CX P w) X (fun _ _ _ => False) := fun pins σ H s e s2 I h => by
  obtain ⟨_, _, _, _, _, _, _, _, _, _, _, _, h⟩ := h
  exact h.elim
/-! ### len and truth of an instance with an own __len__ -/
section
variable {X : Cx} {C g : Addr} {n : Nat} {sp : Sp}
theorem inst_of {pins : List (Addr × Obj)} {σ : L2.St} {H : Hp} {s : Shared} {a dx : Addr} {fs : List (Str × V)} (I : Inv X pins σ H s) (e : H a = some (.ins C dx fs)) : ∃ (ox : Obj) (od : Option Obj), PySem.W.InstAt s.heap a ox C od := by
  obtain ⟨mA, O, _⟩ := ins_get I.hok e
  obtain ⟨od, J, _⟩ := O.look
  exact ⟨_, _, J⟩
def rLenO (C : Addr) (sp : Sp) : List V → Hp → VK → Prop := fun xs H Q => ∃ (a dx : Addr) (fs : List (Str × V)), xs = [.ref a] ∧ H a = some (.ins C dx fs) ∧ sp [.ref a] H (fun v H2 => ∃ k : Nat, v = .int k ∧ k ≤ 1000000 ∧ Q (.int k) H2) fun _ _ _ => False
theorem call_lenO (hs : PySem.W.findIn X.K (.ref C) "__len__" = some (some (.ref g))) (hf : PySem.W.isFn X.K (.ref g) = true) (F : FnR X.prog X.w X.K X.mg X.base CX0 n g sp) (hr : Room (n + 1) X.A) : CallR X (.builtin "len") (rLenO C sp) := by
  intro pins s σ H xs us Q I r h
  obtain ⟨a, dx, fs, rfl, ha, q⟩ := h
  obtain ⟨u, rfl, ru⟩ := vals1 r
  cases (show u = Value.ref a from ru)
  obtain ⟨ox, od, J⟩ := inst_of I ha
  obtain ⟨m, fr⟩ := I.fr
  refine PySem.W.len_K fr I.ok.mod.kin J hs hf ?_
  refine wpAny_mono (wpAny_call (SlX.run_at (us := [.ref a]) (ws := [.ref a]) F hr.in1 I.env0.in1 pass0 I (.cons rfl .nil) q)) (fun z s2 hz => ?_) fun _ _ e => e
  obtain ⟨z2, H2, I2, rz, k, rfl, hk, qz⟩ := hz
  obtain ⟨tk, rfl⟩ := (show ∃ tk, z = Value.int k tk from rz)
  exact ⟨⟨by omega, by omega⟩, .int k, H2, I2.tok _, ⟨_, rfl⟩, qz⟩
end
/-! ### bool of an instance with an own __len__ -/
section
variable {prog : Program} {w : World} {A : Around} {E : Value → Shared → Prop} {s : Shared} {K : PySem.W.Frag} {x C f : Addr} {ox : Obj} {od : Option Obj}
theorem len_bodyK {Q : Value → Shared → Prop} (X : K.In s.heap) (I : PySem.W.InstAt s.heap x ox C od) (hs : PySem.W.findIn K (.ref C) "__len__" = some (some (.ref f))) (hf : PySem.W.isFn K (.ref f) = true)
    (h : wpAny (model prog w) A (call (.ref f) [.ref x]) (PySem.W.LenBack Q) E s) : wpAny (model prog w) A (Builtin.«len» ⟨[.ref x], []⟩) (fun fin s' => ∃ r, fin = .done (.ret r) ∧ Q r s') E s := by
  unfold Builtin.«len»
  refine wpAny_bind (m := oneArg "len" _) (wpAny_pure ?_)
  refine wpAny_bind (m := callSpecial? (.ref x) (Str.ofString "__len__")) (PySem.W.special_fn X I hs (beq_iff_eq.mp hf) (wpAny_mono h (fun r s' hr => ?_) fun _ _ y => y))
  cases r <;> first | exact hr.elim | skip
  rename_i n u
  obtain ⟨⟨h0, h1⟩, hq⟩ := hr
  refine wpAny_bind (wpAny_holding (wpAny_pure ?_))
  refine wpAny_bind (wpAny_letGo ?_)
  show wpAny _ _ (if n < 0 then _ else _) _ _ _
  rw [if_neg (by omega)]
  show wpAny _ _ (if n ≥ 2 ^ 63 then _ else _) _ _ _
  rw [if_neg (by omega)]
  exact wpAny_bind (wpAny_mkInt (wpAny_pure ⟨_, rfl, hq⟩))
theorem truthy_KL {Q : Bool → Shared → Prop} (X : K.In s.heap) (I : PySem.W.InstAt s.heap x ox C od) (hb : PySem.W.findIn K (.ref C) "__bool__" = some none) (hl : PySem.W.findIn K (.ref C) "__len__" = some (some (.ref f))) (hf : PySem.W.isFn K (.ref f) = true)
    (h : wpAny (model prog w) A.in1 (call (.ref f) [.ref x]) (PySem.W.LenBack fun v s' => ∃ n t, v = .int n t ∧ Q (n != 0) s') E s) : wpAny (model prog w) A (truthy (.ref x)) Q E s := by
  have key : wpAny (model prog w) A (runValue (.builtin "len" ⟨[.ref x], []⟩)) (fun r s' => ∃ n t, r = .int n t ∧ Q (n != 0) s') E s := by
    refine wpAny_runValue (codeAny_builtin entry_len ?_)
    rw [Around.under_plainId plain_len _]
    exact wpAny_mono (len_bodyK X I hl hf h) (fun fin s' h' => by obtain ⟨r, rfl, hq⟩ := h'; exact hq) fun _ _ e => e
  unfold truthy
  refine wpAny_bind (m := callSpecial? (.ref x) (Str.ofString "__bool__")) (wpAny_bind (wpAny_bind (I.type.here ((PySem.W.looks_findIn X hb).here (wpAny_pure ?_)))))
  refine wpAny_bind (wpAny_bind (I.type.here ((PySem.W.looks_findIn X hl).here ?_)))
  exact wpAny_bind (wpAny_mono key (fun r s' h' => by obtain ⟨n, t, rfl, hq⟩ := h'; exact wpAny_pure hq) fun _ _ e => e)
theorem bool_KL {Q : Value → Shared → Prop} (X : K.In s.heap) (I : PySem.W.InstAt s.heap x ox C od) (hb : PySem.W.findIn K (.ref C) "__bool__" = some none) (hl : PySem.W.findIn K (.ref C) "__len__" = some (some (.ref f))) (hf : PySem.W.isFn K (.ref f) = true)
    (h : wpAny (model prog w) A.in1.in1.in1 (call (.ref f) [.ref x]) (PySem.W.LenBack fun v s' => ∃ n t, v = .int n t ∧ Q (.bool (n != 0)) s') E s) : wpAny (model prog w) A (call (.type "bool") [.ref x]) Q E s := by
  refine callType_codes (T := "bool") (Bi := Builtin.«object.__init__») (Q₁ := fun r s₁ => ∃ b, r = .bool b ∧ Q r s₁) PySem.F.called_bool (PySem.F.typeCall_bool_1 _) PySem.F.entry_object_init ?_ ?_
  · refine codeAny_of_tree ?_
    show wpAny _ A.in1.in1 (do checkBuiltinCall "bool.__new__" ⟨[.type "bool", .ref x], []⟩; again (.builtin "bool.__new__" ⟨[.type "bool", .ref x], []⟩)) _ _ s
    refine wpAny_bind (wpAny_of_eq (PySem.F.newCall_bool_1 _) (wpAny_pure ⟨plainId_quiet (by decide +kernel) _, codeAny_builtin PySem.F.entry_bool_new ?_⟩))
    rw [Around.under_plainId (by decide +kernel) _]
    have f1 := PySem.F.conv_sub_bool
    have key : wpAny (model prog w) A.in1.in1 (truthy (.ref x)) (fun b s1 => Q (.bool b) s1) E s := truthy_KL X I hb hl hf (wpAny_mono h (fun v s1 hv => by
      cases v <;> first | exact hv.elim | skip
      obtain ⟨h01, n, t, e, hq⟩ := hv
      cases e
      exact ⟨h01, _, _, rfl, hq⟩) fun _ _ z => z)
    unfold Builtin.«bool.__new__»
    show wpAny _ _ (isType (.type "bool") >>= _) _ _ s
    refine wpAny_bind (wpAny_pure ?_)
    refine wpAny_bind (wpAny_of_eq f1 ?_)
    refine wpAny_bind (wpAny_pure ?_)
    exact wpAny_bind (wpAny_mono key (fun b s1 hb1 => wpAny_pure ⟨_, rfl, hb1⟩) fun _ _ z => z)
  · rintro obj s₁ ⟨b, rfl, hq⟩
    exact ⟨rfl, PySem.F.args_object_init_2 _ _, object_init_meets PySem.F.called_bool.init.lookup PySem.F.called_bool.made (by decide) prog w A.in1 _ s₁ ⟨rfl, rfl, hq⟩⟩
end
section
variable {X : Cx} {C g : Addr} {n : Nat} {sp : Sp}
def rBoolL (C : Addr) (sp : Sp) : List V → Hp → VK → Prop := fun xs H Q => ∃ (a dx : Addr) (fs : List (Str × V)), xs = [.ref a] ∧ H a = some (.ins C dx fs) ∧ sp [.ref a] H (fun v H2 => ∃ k : Nat, v = .int k ∧ k ≤ 1000000 ∧ Q (.bl ((k : Int) != 0)) H2) fun _ _ _ => False
theorem call_boolLO (hb : PySem.W.findIn X.K (.ref C) "__bool__" = some none) (hs : PySem.W.findIn X.K (.ref C) "__len__" = some (some (.ref g))) (hf : PySem.W.isFn X.K (.ref g) = true) (F : FnR X.prog X.w X.K X.mg X.base CX0 n g sp) (hr : Room (n + 3) X.A) : CallR X (.type "bool") (rBoolL C sp) := by
  intro pins s σ H xs us Q I r h
  obtain ⟨a, dx, fs, rfl, ha, q⟩ := h
  obtain ⟨u, rfl, ru⟩ := vals1 r
  cases (show u = Value.ref a from ru)
  obtain ⟨ox, od, J⟩ := inst_of I ha
  have hr2 : Room (n + 2) X.A.in1 := hr.in1
  have hr1 : Room (n + 1) X.A.in1.in1 := hr2.in1
  refine bool_KL I.kIn J hb hs hf ?_
  refine wpAny_mono (wpAny_call (SlX.run_at (us := [.ref a]) (ws := [.ref a]) F hr1.in1 I.env0.in1.in1.in1 pass0 I (.cons rfl .nil) q)) (fun z s2 hz => ?_) fun _ _ e => e
  obtain ⟨z2, H2, I2, rz, k, rfl, hk, qz⟩ := hz
  obtain ⟨tk, rfl⟩ := (show ∃ tk, z = Value.int k tk from rz)
  exact ⟨⟨by omega, by omega⟩, _, _, rfl, .bl _, H2, I2.tok _, rfl, qz⟩
end
/-! ### tuples cut and put together -/
theorem cut_to (xs : List V) (k : Nat) (h : k ≤ xs.length) : cutV xs none (some (k : Int)) = xs.take k := by
  unfold cutV
  rw [HT.sIx_none, HT.sIx_nat, Nat.min_eq_left h]
  rfl
theorem cut_from (xs : List V) (k : Nat) : cutV xs (some (k : Int)) none = xs.drop k := by
  unfold cutV
  rw [HT.sIx_none, HT.sIx_nat]
  by_cases h : k ≤ xs.length
  · rw [Nat.min_eq_left h]
    exact List.take_of_length_le (by rw [List.length_drop]; omega)
  · rw [Nat.min_eq_right (by omega), List.drop_length, List.drop_eq_nil_of_le (by omega)]
    simp
section
variable {X : Cx}
def rSlS (K : PySem.W.Frag) : V → Option Int → Option Int → Hp → VK → Prop := fun x lo hi H Q => ∃ a xs, x = .ref a ∧ SqT K H a xs ∧ ∀ (H' : Hp) (q : Addr), Same H H' → SqT K H' q (cutV xs lo hi) → Q (.ref q) H'
theorem sl_tupS : SlR X (rSlS X.K) := by
  intro pins s σ H x v vl vu lo hi sl Q I rx hs pl pu h
  obtain ⟨a, xs, rfl, hx, q⟩ := h
  refine sl_tupA pins s σ H _ v vl vu lo hi sl Q I rx hs pl pu ⟨a, xs, rfl, hx, fun z => ?_, fun _ p np => q _ p (same_new np) (SqT.of upd_same)⟩
  refine q H a (Same.refl _) ?_
  have e : cutV xs lo hi = xs := by
    unfold cutV
    rw [z.1, z.2]
    simp
  rw [e]
  exact hx
def rCatS (K : PySem.W.Frag) : R2 := fun x y H Q => ∃ a b xs ys, x = .ref a ∧ y = .ref b ∧ SqT K H a xs ∧ SqT K H b ys ∧ xs.length + ys.length ≤ sizeLine ∧ ∀ (H' : Hp) (q : Addr), Same H H' → SqT K H' q (xs ++ ys) → Q (.ref q) H'
theorem op_catS : OpR X (binaryOp .Add) (rCatS X.K) := by
  intro pins s σ H x y v u Q I rx ry h
  obtain ⟨a, b, xs, ys, rfl, rfl, ha, hb, hz, q⟩ := h
  refine op_catA pins s σ H _ _ v u Q I rx ry ⟨a, b, xs, ys, rfl, rfl, ha, hb, hz, fun z => ?_, fun _ z => ?_, fun _ _ p np => q _ p (same_new np) (SqT.of upd_same)⟩
  · refine q H b (Same.refl _) ?_
    rw [z]
    exact hb
  · refine q H a (Same.refl _) ?_
    rw [z, List.append_nil]
    exact ha
end
/-! ### a reading may be asked for more -/
section
variable {X : Cx} {e : Expr} {es : List Expr} {st : Stmt} {sts : List Stmt}
theorem pe_imp {t t' : TE} (h : PE X e t) (k : ∀ σ H Q, t' σ H Q → t σ H Q) : PE X e t' := ⟨fun pins s σ H Q I q => h.run pins s σ H Q I (k σ H Q q)⟩
theorem pa_imp {t t' : TA} (h : PA X es t) (k : ∀ σ H Q, t' σ H Q → t σ H Q) : PA X es t' := ⟨fun pos pins s σ H Q I q => h.run pos pins s σ H Q I (k σ H Q q)⟩
theorem pt_imp {t t' : TT} (h : PT X e t) (k : ∀ σ H Q, t' σ H Q → t σ H Q) : PT X e t' := ⟨fun pins s σ H Q I q => h.run pins s σ H Q I (k σ H Q q)⟩
theorem ps_imp {t t' : TS} (h : PS X st t) (k : ∀ D σ H, t' D σ H → t D σ H) : PS X st t' := ⟨fun pins s σ H D I q => h.run pins s σ H D I (k D σ H q)⟩
theorem pss_imp {t t' : TS} (h : PSs X sts t) (k : ∀ D σ H, t' D σ H → t D σ H) : PSs X sts t' := ⟨fun pins s σ H D I q => h.run pins s σ H D I (k D σ H q)⟩
end
theorem hu64 {A : Around} {k : Nat} (hr : Room k A) : A.units + 64 < cLine := by
  have := hr.un
  omega
/-! ### the same, for tuples that are tracked -/
section
variable {X : Cx}
def rSlH : V → Option Int → Option Int → Hp → VK → Prop := fun x lo hi H Q => ∃ a xs, x = .ref a ∧ H a = some (.tup xs) ∧ ∀ (H' : Hp) (q : Addr), Same H H' → H' q = some (.tup (cutV xs lo hi)) → Q (.ref q) H'
theorem sl_tupH : SlR X rSlH := by
  intro pins s σ H x v vl vu lo hi sl Q I rx hs pl pu h
  obtain ⟨a, xs, rfl, hx, q⟩ := h
  refine sl_tupA pins s σ H _ v vl vu lo hi sl Q I rx hs pl pu ⟨a, xs, rfl, SqT.of hx, fun z => ?_, fun _ p np => q _ p (same_new np) upd_same⟩
  refine q H a (Same.refl _) ?_
  have e : cutV xs lo hi = xs := by
    unfold cutV
    rw [z.1, z.2]
    simp
  rw [e]
  exact hx
def rCatH : R2 := fun x y H Q => ∃ a b xs ys, x = .ref a ∧ y = .ref b ∧ H a = some (.tup xs) ∧ H b = some (.tup ys) ∧ xs.length + ys.length ≤ sizeLine ∧ ∀ (H' : Hp) (q : Addr), Same H H' → H' q = some (.tup (xs ++ ys)) → Q (.ref q) H'
theorem op_catH : OpR X (binaryOp .Add) rCatH := by
  intro pins s σ H x y v u Q I rx ry h
  obtain ⟨a, b, xs, ys, rfl, rfl, ha, hb, hz, q⟩ := h
  refine op_catA pins s σ H _ _ v u Q I rx ry ⟨a, b, xs, ys, rfl, rfl, SqT.of ha, SqT.of hb, hz, fun z => ?_, fun _ z => ?_, fun _ _ p np => q _ p (same_new np) upd_same⟩
  · refine q H b (Same.refl _) ?_
    rw [z]
    exact hb
  · refine q H a (Same.refl _) ?_
    rw [z, List.append_nil]
    exact ha
end
theorem cut_mid (xs : List V) (a b : Nat) (h1 : a ≤ b) (h2 : b ≤ xs.length) : cutV xs (some (a : Int)) (some (b : Int)) = (xs.drop a).take (b - a) := by
  unfold cutV
  rw [HT.sIx_nat, HT.sIx_nat, Nat.min_eq_left h2, Nat.min_eq_left (by omega)]
end Cm

/-! texts of loops: what their words are, and when they are right -/
namespace LM
open PySem L2 TL
def tests : List Str := ["empty", "some", "short", "full", "told", "open", "rest", "bare"]
def rsteps : List Str := ["add", "hand", "cut", "flush", "stop", "again"]
def esteps : List Str := ["hand", "cut", "flush"]
def wordsR (t : Str) : List Str := Txt.split (Txt.partition t " | ").1 " "
def wordsE (t : Str) : List Str := if (Txt.partition t " | ").2.1.length != 0 then Txt.split (Txt.partition t " | ").2.2 " " else []
def orderOf (w : Str) : Str × Str := if (Txt.partition w ":").2.1.length != 0 then ((Txt.partition w ":").1, (Txt.partition w ":").2.2) else ("", w)
def isWord (w : Str) (ss : List Str) : Bool := if (Txt.partition w ":").2.1.length != 0 then decide ((Txt.partition w ":").1 ∈ tests) && decide ((Txt.partition w ":").2.2 ∈ ss) else decide (w ∈ ss)
def areWords (ws ss : List Str) : Bool := ws.all fun w => isWord w ss
def isAdd (w : Str) : Bool := decide ((orderOf w).2 = "add")
def isRound (ws : List Str) : Bool := decide (ws.head? = some "ask") && (decide (ws.length ≤ 12) && (decide ((ws.filter isAdd).length ≤ 1) && areWords ws.tail rsteps))
def isEnding (ws : List Str) : Bool := decide (ws.length ≤ 6) && areWords ws esteps
def goodText (t : Str) : Bool := isRound (wordsR t) && isEnding (wordsE t)
def svs (ws : List Str) : List V := ws.map V.str
theorem svs_flat : ∀ ws : List Str, (svs ws).all flatV = true
  | [] => rfl
  | _ :: r => svs_flat r
theorem inV_svs (w : Str) : ∀ ws : List Str, inV (.str w) (svs ws) = decide (w ∈ ws)
  | [] => by simp [inV, svs]
  | x :: r => by
    have ih := inV_svs w r
    show (eqV (.str x) (.str w) || inV (.str w) (svs r)) = _
    rw [ih]
    show ((x == w) || decide (w ∈ r)) = _
    by_cases h : x = w
    · subst h
      simp
    · have h2 : (x == w) = false := by
        cases hh : (x == w) with
        | false => rfl
        | true => exact absurd (eq_of_beq hh) h
      rw [h2, Bool.false_or]
      refine decide_eq_decide.mpr ⟨fun z => List.mem_cons_of_mem _ z, fun z => ?_⟩
      rcases List.mem_cons.mp z with z | z
      · exact absurd z.symm h
      · exact z
theorem split_ne (x y : Str) : Txt.split x y ≠ [] := by
  unfold Txt.split
  split
  · simp
  · split
    · simp
    · rw [PySem.StrLaws.partsBetween_eq]
      cases Builtin.Str.occurrences x y 0 x.length (x.length + 1) <;> simp [PySem.StrLaws.partsFrom]
/-! ### drawn words -/
/-- a step of these, or a test before it -/
def Wd (ss : List Str) (w : Str) : Prop := ∃ s ∈ ss, w = s ∨ ∃ t ∈ tests, w = t ++ (":" : Str) ++ s
def allWd (ss : List Str) : List Str := ss ++ (tests.map fun t : Str => ss.map fun s : Str => t ++ (":" : Str) ++ s).flatten
theorem Wd.mem {ss : List Str} {w : Str} (h : Wd ss w) : w ∈ allWd ss := by
  obtain ⟨s, hs, rfl | ⟨t, ht, rfl⟩⟩ := h
  · exact List.mem_append.mpr (.inl hs)
  · exact List.mem_append.mpr (.inr (List.mem_flatten.mpr ⟨_, List.mem_map.mpr ⟨t, ht, rfl⟩, List.mem_map.mpr ⟨s, hs, rfl⟩⟩))
theorem Wd.mono {ss zs : List Str} {w : Str} (f : ∀ s ∈ ss, s ∈ zs) (h : Wd ss w) : Wd zs w := let ⟨s, hs, q⟩ := h; ⟨s, f s hs, q⟩
/-- what is known of a word -/
def wdOk (w : Str) : Bool := isWord w rsteps && (decide (32 ∉ tl w) && (decide (124 ∉ tl w) && decide (w.length ≤ 11)))
theorem wd_ok : ∀ w ∈ allWd rsteps, wdOk w = true := by decide +kernel
theorem wd_end : ∀ w ∈ allWd esteps, isWord w esteps = true := by decide +kernel
theorem wd_noadd : ∀ w ∈ allWd ["hand", "cut", "flush", "stop", "again"], isAdd w = false := by decide +kernel
/-! ### lines -/
def line (B E : List Str) : Str := if E = [] then Txt.join " " B else Txt.join " " (B ++ [("|" : Str)] ++ E)
def textOf (B E : List Str) : Str := if E = [] then Txt.join " " B else Txt.join " " B ++ " | " ++ Txt.join " " E
/-- no space and no bar is in it -/
def Fre (w : Str) : Prop := 32 ∉ tl w ∧ 124 ∉ tl w
theorem tlSp : tl (" " : Str) = [32] := by decide +kernel
theorem tlBar : tl (" | " : Str) = [32, 124, 32] := by decide +kernel
theorem tlB1 : tl ("|" : Str) = [124] := by decide +kernel
theorem joinL_app (S : List Nat) : ∀ (a b : List (List Nat)), a ≠ [] → b ≠ [] → joinL S (a ++ b) = joinL S a ++ (S ++ joinL S b)
  | [], _, h, _ => absurd rfl h
  | [p], b, _, hb => by
    cases b with
    | nil => exact absurd rfl hb
    | cons q r => rfl
  | p :: q :: r, b, _, hb => by
    show p ++ (S ++ joinL S (q :: r ++ b)) = p ++ (S ++ joinL S (q :: r)) ++ (S ++ joinL S b)
    rw [joinL_app S (q :: r) b (by simp) hb]
    simp [List.append_assoc]
theorem joinL_mem {S : List Nat} {c : Nat} : ∀ {a : List (List Nat)}, c ∈ joinL S a → c ∈ S ∨ ∃ p ∈ a, c ∈ p
  | [], h => nomatch h
  | [p], h => .inr ⟨p, List.mem_singleton.mpr rfl, h⟩
  | p :: q :: r, h => by
    rcases List.mem_append.mp (show c ∈ p ++ (S ++ joinL S (q :: r)) from h) with h | h
    · exact .inr ⟨p, List.mem_cons_self .., h⟩
    · rcases List.mem_append.mp h with h | h
      · exact .inl h
      · rcases joinL_mem h with h | ⟨z, hz, hc⟩
        · exact .inl h
        · exact .inr ⟨z, List.mem_cons_of_mem _ hz, hc⟩
theorem tl_joinSp (B : List Str) : tl (Txt.join " " B) = joinL [32] (B.map tl) := by rw [join_eq, tl_join, tlSp]
theorem nobar {B : List Str} (h : ∀ w ∈ B, Fre w) : 124 ∉ tl (Txt.join " " B) := by
  rw [tl_joinSp]
  intro hm
  rcases joinL_mem hm with hm | ⟨p, hp, hc⟩
  · exact absurd hm (by decide)
  · obtain ⟨w, hw, rfl⟩ := List.mem_map.mp hp
    exact (h w hw).2 hc
theorem line_text {B E : List Str} (hB : B ≠ []) : line B E = textOf B E := by
  unfold line textOf
  by_cases hE : E = []
  · rw [if_pos hE, if_pos hE]
  · rw [if_neg hE, if_neg hE]
    refine ext_tl ?_
    rw [tl_append, tl_append, tl_joinSp, tl_joinSp, tl_joinSp, tlBar, List.map_append, List.map_append, joinL_app _ _ _ (by simp) (by simpa using hE), joinL_app _ _ _ (by simpa using hB) (by simp)]
    simp [joinL, tlB1]
theorem pre_bar {l : List Nat} (h : pre [32, 124, 32] l = true) : ∃ r, l = 32 :: 124 :: 32 :: r := by
  have e : l.take 3 = [32, 124, 32] := eq_of_beq h
  match l, e with
  | a :: b :: c :: r, e =>
    simp at e
    obtain ⟨rfl, rfl, rfl⟩ := e
    exact ⟨r, rfl⟩
theorem no_bar {p q : List Nat} (h : 124 ∉ p) (hq : q = [] ∨ ∃ r, q = 32 :: r) : ∀ i, i < p.length → pre [32, 124, 32] ((p ++ q).drop i) = false := by
  intro i hi
  cases hp : pre [32, 124, 32] ((p ++ q).drop i) with
  | false => rfl
  | true =>
    obtain ⟨r, e⟩ := pre_bar hp
    have e1 : (p ++ q)[i + 1]? = some 124 := by
      have : ((p ++ q).drop i)[1]? = some 124 := by rw [e]; rfl
      rw [List.getElem?_drop] at this
      exact this
    by_cases h1 : i + 1 < p.length
    · rw [List.getElem?_append_left h1] at e1
      exact absurd (List.mem_of_getElem? e1) h
    · rw [List.getElem?_append_right (by omega)] at e1
      rcases hq with rfl | ⟨r, rfl⟩
      · simp at e1
      · have : i + 1 - p.length = 0 := by omega
        rw [this] at e1
        simp at e1
theorem part_no {x : Str} (h : 124 ∉ tl x) : Txt.partition x " | " = (x, Str.empty, Str.empty) := by
  rw [partition_par _ _ (by rw [tlBar]; simp), tlBar, par_none]
  intro i hi
  have := no_bar (q := []) h (.inl rfl) i hi
  rwa [List.append_nil] at this
theorem part_yes {x y : Str} (h : 124 ∉ tl x) : Txt.partition (x ++ " | " ++ y) " | " = (x, (" | " : Str), y) := by
  rw [partition_par _ _ (by rw [tlBar]; simp), tl_append, tl_append, List.append_assoc, tlBar, par_part (by simp) (no_bar h (.inr ⟨_, rfl⟩))]
  show ((⟨([] ++ tl x).toArray⟩ : Str), _, (⟨(tl y).toArray⟩ : Str)) = _
  rw [List.nil_append, mk_tl, mk_tl]
theorem split_words {B : List Str} (hB : B ≠ []) (h : ∀ w ∈ B, Fre w) : Txt.split (Txt.join " " B) " " = B :=
  split_join (s := 32) (S := []) tlSp (by decide +kernel) hB fun p hp => (h p hp).1
theorem words_text {B E : List Str} (hB : B ≠ []) (h1 : ∀ w ∈ B, Fre w) (h2 : ∀ w ∈ E, Fre w) : wordsR (textOf B E) = B ∧ wordsE (textOf B E) = E := by
  unfold wordsR wordsE textOf
  by_cases hE : E = []
  · rw [if_pos hE, part_no (nobar h1)]
    refine ⟨split_words hB h1, ?_⟩
    rw [hE]
    rfl
  · rw [if_neg hE, part_yes (nobar h1)]
    refine ⟨split_words hB h1, ?_⟩
    exact (if_pos (show ((" | " : Str).length != 0) = true by decide +kernel)).trans (split_words hE h2)
theorem words_line {B E : List Str} (hB : B ≠ []) (h1 : ∀ w ∈ B, Fre w) (h2 : ∀ w ∈ E, Fre w) : wordsR (line B E) = B ∧ wordsE (line B E) = E := by
  rw [line_text hB]
  exact words_text hB h1 h2
/-! ### lengths -/
theorem sum_le {n : Nat} : ∀ {B : List Str}, (∀ w ∈ B, w.length ≤ n) → (B.map (·.length)).sum ≤ n * B.length
  | [], _ => Nat.zero_le _
  | w :: r, h => by
    have a := h w (List.mem_cons_self ..)
    have b := sum_le (B := r) fun z hz => h z (List.mem_cons_of_mem _ hz)
    rw [List.map_cons, List.sum_cons, List.length_cons, Nat.mul_succ]
    omega
theorem join_len : ∀ B : List Str, (Txt.join " " B).length ≤ (B.map (·.length)).sum + B.length := by
  intro B
  rw [len_tl, tl_joinSp]
  induction B with
  | nil => simp [joinL]
  | cons w r ih =>
    cases r with
    | nil =>
      show (tl w).length ≤ _
      rw [← len_tl]
      simp
    | cons x r =>
      show (tl w ++ ([32] ++ joinL [32] ((x :: r).map tl))).length ≤ _
      rw [List.length_append, List.length_append, ← len_tl]
      simp only [List.map_cons, List.sum_cons, List.length_cons, List.length_nil] at ih ⊢
      omega
/-- short words, not many -/
def Sht (n : Nat) (B : List Str) : Prop := (∀ w ∈ B, w.length ≤ 11) ∧ B.length ≤ n
theorem Sht.sum {n : Nat} {B : List Str} (h : Sht n B) : (B.map (·.length)).sum + B.length * 1 ≤ 12 * n := by
  have := sum_le h.1
  have := h.2
  omega
theorem Sht.join {n : Nat} {B : List Str} (h : Sht n B) : (Txt.join " " B).length ≤ 12 * n := by
  have := h.sum
  have := join_len B
  omega
/-! ### bounds of what is cut -/
theorem spl_len (S : List Nat) : ∀ (k : Nat) (acc l : List Nat), (spl S k acc l).length ≤ l.length + 1
  | k, acc, [] => by rw [spl_nil]; simp
  | 0, acc, c :: r => by
    cases h : pre S (c :: r) with
    | true =>
      rw [spl_hit h, List.length_cons, List.length_cons]
      have := spl_len S (S.length - 1) [] r
      omega
    | false =>
      rw [spl_miss h, List.length_cons]
      have := spl_len S 0 (acc ++ [c]) r
      omega
  | k + 1, acc, _ :: r => by
    show (spl S k acc r).length ≤ _
    have := spl_len S k acc r
    rw [List.length_cons]
    omega
theorem spl_word (S : List Nat) : ∀ (k : Nat) (acc l : List Nat), ∀ p ∈ spl S k acc l, p.length ≤ acc.length + l.length
  | k, acc, [], p, hp => by
    rw [spl_nil] at hp
    rw [List.mem_singleton.mp hp]
    omega
  | 0, acc, c :: r, p, hp => by
    cases h : pre S (c :: r) with
    | true =>
      rw [spl_hit h] at hp
      rcases List.mem_cons.mp hp with rfl | hp
      · omega
      · have := spl_word S (S.length - 1) [] r p hp
        simp at this ⊢
        omega
    | false =>
      rw [spl_miss h] at hp
      have := spl_word S 0 (acc ++ [c]) r p hp
      simp at this ⊢
      omega
  | k + 1, acc, _ :: r, p, hp => by
    have := spl_word S k acc r p hp
    simp at this ⊢
    omega
theorem split_sp (x : Str) : (Txt.split x " ").map tl = spl [32] 0 [] (tl x) := by
  have := split_spl x " " (by rw [tlSp]; simp) (kind_ok (by decide +kernel))
  rwa [tlSp] at this
theorem split_len (x : Str) : (Txt.split x " ").length ≤ x.length + 1 := by
  have := spl_len [32] 0 [] (tl x)
  rw [← split_sp, List.length_map, ← len_tl] at this
  exact this
theorem split_word {x w : Str} (h : w ∈ Txt.split x " ") : w.length ≤ x.length := by
  have := spl_word [32] 0 [] (tl x) (tl w) (by rw [← split_sp]; exact List.mem_map.mpr ⟨w, h, rfl⟩)
  rw [← len_tl, ← len_tl] at this
  simpa using this
theorem part_len (x y : Str) : (Txt.partition x y).1.length ≤ x.length ∧ (Txt.partition x y).2.1.length ≤ y.length ∧ (Txt.partition x y).2.2.length ≤ x.length := by
  rcases PyProof.Rows.partition_whole x y with ⟨e, _⟩ | ⟨i, e, _, _⟩
  · rw [e]
    exact ⟨Nat.le_refl _, Nat.zero_le _, Nat.zero_le _⟩
  · rw [e]
    refine ⟨?_, Nat.le_refl _, ?_⟩
    · rw [len_tl, tl_strSub, List.length_take, List.length_drop, ← len_tl]
      omega
    · rw [len_tl, tl_strSub_end, List.length_drop, ← len_tl]
      omega
/-- the words of a text of at most n signs -/
theorem wordsR_len (t : Str) : (wordsR t).length ≤ t.length + 1 := by
  have := split_len (Txt.partition t " | ").1
  have := (part_len t " | ").1
  unfold wordsR
  omega
theorem wordsE_len (t : Str) : (wordsE t).length ≤ t.length + 1 := by
  unfold wordsE
  split
  · have := split_len (Txt.partition t " | ").2.2
    have := (part_len t " | ").2.2
    omega
  · simp
theorem wordsR_word {t w : Str} (h : w ∈ wordsR t) : w.length ≤ t.length := Nat.le_trans (split_word h) (part_len t " | ").1
theorem wordsE_word {t w : Str} (h : w ∈ wordsE t) : w.length ≤ t.length := by
  unfold wordsE at h
  split at h
  · exact Nat.le_trans (split_word h) (part_len t " | ").2.2
  · exact nomatch h
theorem wordsR_ne (t : Str) : wordsR t ≠ [] := split_ne _ _
end LM

/-! what many parts want: the error about texts, small lemmas -/
namespace My
open PySem L2 Cm LM
abbrev sEI : Stmt := inClass (top 4) 0
theorem nz (n : Nat) : ((n : Int) != 0) = (n != 0) := by
  cases n with
  | zero => rfl
  | succ k => simp; omega
/-- no text is longer -/
def Bd (t : Str) : Prop := t.length ≤ 100000
theorem Bd.part {t : Str} (y : Str) (h : Bd t) : Bd (Txt.partition t y).1 ∧ Bd (Txt.partition t y).2.2 := ⟨Nat.le_trans (part_len t y).1 h, Nat.le_trans (part_len t y).2.2 h⟩
theorem Bd.line {t : Str} (h : Bd t) : t.length ≤ sizeLine := Nat.le_of_lt (szM (Nat.le_trans h (by decide)))
theorem Bd.line2 {t : Str} (h : Bd t) : t.length + 2 ≤ sizeLine := Nat.le_of_lt (szM (by unfold Bd at h; omega))
theorem svs_get {ws : List Str} {i : Nat} {x : V} (h : (svs ws)[i]? = some x) : ∃ z, ws[i]? = some z ∧ x = .str z := by
  unfold svs at h
  rw [List.getElem?_map] at h
  cases e : ws[i]? with
  | none => rw [e] at h; cases h
  | some z =>
    rw [e] at h
    exact ⟨z, rfl, (Option.some.inj h).symm⟩
theorem take_snoc {α : Type} {xs : List α} {i : Nat} {x : α} (h : xs[i]? = some x) : xs.take (i + 1) = xs.take i ++ [x] := by
  rw [List.take_succ, h]
  rfl
theorem lt_of_get {α : Type} {xs : List α} {i : Nat} {x : α} (h : xs[i]? = some x) : i < xs.length := (List.getElem?_eq_some_iff.mp h).1
/-- not many words, none too long -/
def BdW (ws : List Str) : Prop := (∀ z ∈ ws, Bd z) ∧ ws.length ≤ 100001
theorem made_same {H H' : Hp} {x dx C : Addr} (nx : H x = none) (ndx : H dx = none) (o : Off x (upd (upd H dx (.own x)) x (.ins C dx [])) H') : Same H H' := fun b u e => o b u (ne_of_none e nx) (by rw [upd_ne (ne_of_none e nx), upd_ne (ne_of_none e ndx)]; exact e)
/-- a special method of the class at C -/
structure Sm (K : PySem.W.Frag) (C : Addr) (x q : Str) (st : Stmt) (ps : List Str) where
  f : Addr
  fd : FuncData
  F : Fun K x q st f fd
  b : Binds K fd ps []
  i : PySem.W.findIn K (.ref C) x = some (some (.ref f))
  fn : PySem.W.isFn K (.ref f) = true
theorem TyX_same {K : PySem.W.Frag} {H H' : Hp} (s : Same H H') {x : V} {t : Value} (h : TyX K H x t) : TyX K H' x t := by
  cases h with
  | base b =>
    refine .base ?_
    cases b with
    | non => exact .non
    | bl x => exact .bl x
    | int i => exact .int i
    | str x => exact .str x
    | flt x => exact .flt x
    | lst e => exact .lst (s _ _ e)
    | frz e => exact .frz (s _ _ e)
    | tup e => exact .tup (s _ _ e)
    | dK e => exact .dK (s _ _ e)
    | dT e => exact .dT (s _ _ e)
    | ins e a b c d f => exact .ins (s _ _ e) a b c d f
  | byt b => exact .byt b
  | set e => exact .set (s _ _ e)
  | kList e c => exact .kList e c
  | kTuple e c => exact .kTuple e c
  | kDict e c => exact .kDict e c
  | fTuple e => exact .fTuple (s _ _ e)
  | fDict e => exact .fDict (s _ _ e)
theorem jar_ne {H : Hp} {j p : Addr} (a : Jar H j) (n : H p = none) : p ≠ j := fun z => by
  obtain ⟨_, _, _, q⟩ := a
  rw [z, q] at n
  cases n
theorem Jar.put {H : Hp} {j p : Addr} {o : HO} (a : Jar H j) (n : p ≠ j) : Jar (upd H p o) j := by
  obtain ⟨x, y, z, q⟩ := a
  exact ⟨x, y, z, by rw [upd_ne n.symm]; exact q⟩
/-- a store to what was not there at first -/
theorem Off.put2 {j q : Addr} {H H1 : Hp} {o : HO} (a : Off j H H1) (n : H q = none) : Off j H (upd H1 q o) := fun b u nb e => by
  rw [upd_ne (ne_of_none e n)]
  exact a b u nb e
/-- tuples that stand stay, if what is written is no tuple -/
theorem tup_stays {H : Hp} {x : Addr} {o o' : HO} (hx : H x = some o) (n : ∀ xs, o ≠ .tup xs) : ∀ (p : Addr) (xs : List V), H p = some (.tup xs) → (upd H x o') p = some (.tup xs) := fun p xs e => by
  rw [upd_ne]
  · exact e
  · intro z
    rw [z, hx] at e
    exact n xs (Option.some.inj e)
def isS : V → Bool
  | .str _ => true
  | _ => false
/-- its type is told -/
def Typed (K : PySem.W.Frag) (H : Hp) (x : V) : Prop := ∃ t, TyX K H x t ∧ PySem.W.kitOne K t (.type "str") = some (isS x)
theorem typed_str {K : PySem.W.Frag} {H : Hp} (x : Str) : Typed K H (.str x) := ⟨_, .base (.str x), kit_ty (show kitB "str" "str" = some true by decide +kernel)⟩
/-! ### the error -/
structure TxE (K : PySem.W.Frag) (mg : Str → Option Value) where
  C : Addr
  f : Addr
  fd : FuncData
  g : mg "InvalidText" = some (.ref C)
  o : OexC K C
  i : PySem.W.findIn K (.ref C) "__init__" = some (some (.ref f))
  t : PySem.W.typeIn K (.ref f) = some (.type "function")
  n : PySem.W.findIn K (.ref C) "value" = some none
  F : Fun K "__init__" "InvalidText.__init__" sEI f fd
  b : Binds K fd ["self", "value"] []
section
variable {P : Program} {w : World} {K : PySem.W.Frag} {mg : Str → Option Value} {base : Heap}
def spEI (CE : Addr) : Sp := fun vs H Q _ => ∃ (a : Addr) (v : V), vs = [.ref a, v] ∧ H a = some (exo a CE none) ∧ ∀ dx, H dx = none → dx ≠ a → Q .non (upd (upd H dx (exd dx [("value", v)])) a (exo a CE (some dx)))
theorem scEI : FnScope ["self", "value"] ["self", "value"] (defScope sEI) := ⟨rfl, rfl, rfl, by decide +kernel, rfl, by decide +kernel, by decide +kernel⟩
theorem ok_ei (T : TxE K mg) : FnOk P w K mg base CX0 1 T.f T.fd ["self", "value"] (spEI T.C) := by
  refine T.F.ok scEI (fun vs H Q E h => ?_) (fun cdv A outer s H vs Q E hr h => ?_)
  · obtain ⟨a, v, rfl, _⟩ := h
    rfl
  · obtain ⟨a, v, rfl, ha, k⟩ := h
    refine ⟨_, pss_one (ps_ost (pv 0) (pv 1)), ?_⟩
    exact ⟨_, rfl, _, rfl, a, T.C, rfl, T.o, T.n, .inl ⟨ha, fun dx n ne => k dx n ne⟩⟩
/-- raise X(x), as its making is read -/
theorem mk_err {CE : Addr} {ta : TA} {σ : St} {H : Hp} {Q : XK} {x : V} (h : ta σ H fun vs H1 => vs = [x] ∧ H1 = H) (mono : ∀ {R R' : List V → Hp → Prop}, ta σ H R → (∀ v H1, R v H1 → R' v H1) → ta σ H R')
    (q : ∀ d, H d = none → Q (.ref CE) (some d) (upd H d (.xd [("value", x)]))) : tMkO CE (spEI CE) [] ta σ H Q := by
  refine mono h fun vs H1 hh => ?_
  obtain ⟨rfl, rfl⟩ := hh
  refine ⟨by show 1 ≤ 1000; decide, fun a na => ⟨a, x, rfl, upd_same, fun dx ndx nda => ⟨rfl, dx, [("value", x)], upd_same, ?_, ?_, ?_⟩⟩⟩
  · rw [upd_ne nda, upd_same]
  · rw [upd_ne nda] at ndx
    exact ndx
  · have e : upd (del (upd (upd (upd H1 a (exo a CE none)) dx (exd dx [("value", x)])) a (exo a CE (some dx))) a) dx (.xd [("value", x)]) = upd H1 dx (.xd [("value", x)]) := by
      funext b
      by_cases h1 : b = dx
      · rw [h1, upd_same, upd_same]
      · rw [upd_ne h1, upd_ne h1]
        by_cases h2 : b = a
        · rw [h2, del_same, na]
        · rw [del_ne h2, upd_ne h2, upd_ne h1, upd_ne h2]
    rw [e]
    rw [upd_ne nda] at ndx
    exact q dx ndx
end
end My

/-! right loops: their words, and loops without a word -/
namespace LM
open PySem L2 TL
theorem part_back {x y : Str} (h : ((Txt.partition x y).2.1.length != 0) = true) : x = (Txt.partition x y).1 ++ y ++ (Txt.partition x y).2.2 := by
  rcases PyProof.Rows.partition_whole x y with ⟨e, _⟩ | ⟨i, e, hi, _⟩
  · rw [e] at h
    exact absurd (show ((Str.empty).length != 0) = true from h) (by decide)
  · rw [e]
    refine ext_tl ?_
    rw [tl_append, tl_append, tl_strSub, tl_strSub_end, List.drop_zero, Nat.sub_zero]
    by_cases hy : tl y = []
    · have : y.length = 0 := by rw [len_tl, hy]; rfl
      rw [hy, this, List.append_nil, Nat.add_zero, List.take_append_drop]
    · have hp := (at_iff hy i).mp hi
      have e2 : ((tl x).drop i).take (tl y).length = tl y := eq_of_beq hp
      have e3 : tl y ++ (tl x).drop (i + y.length) = (tl x).drop i := by
        rw [len_tl y, ← drop_two]
        have := List.take_append_drop (tl y).length ((tl x).drop i)
        rw [e2] at this
        exact this
      rw [List.append_assoc, e3, List.take_append_drop]
theorem word_wd {w : Str} {ss : List Str} (h : isWord w ss = true) : Wd ss w := by
  unfold isWord at h
  cases hc : ((Txt.partition w ":").2.1.length != 0) with
  | true =>
    rw [if_pos hc] at h
    have h2 := Bool.and_eq_true_iff.mp h
    exact ⟨_, of_decide_eq_true h2.2, .inr ⟨_, of_decide_eq_true h2.1, part_back hc⟩⟩
  | false =>
    rw [if_neg (by rw [hc]; exact Bool.false_ne_true)] at h
    exact ⟨w, of_decide_eq_true h, .inl rfl⟩
/-- free and short -/
def FS (w : Str) : Prop := Fre w ∧ w.length ≤ 11
theorem wd_fs {w : Str} (h : Wd rsteps w) : FS w := by
  have := wd_ok w h.mem
  unfold wdOk at this
  simp only [Bool.and_eq_true, decide_eq_true_eq] at this
  exact ⟨⟨this.2.1, this.2.2.1⟩, this.2.2.2⟩
theorem e_r : ∀ s ∈ esteps, s ∈ rsteps := by decide +kernel
theorem ask_fs : FS "ask" := ⟨⟨by decide +kernel, by decide +kernel⟩, by decide +kernel⟩
theorem areWords_iff {ws ss : List Str} : areWords ws ss = true ↔ ∀ w ∈ ws, isWord w ss = true := List.all_eq_true
theorem isRound_iff {B : List Str} : isRound B = true ↔ ∃ r, B = ("ask" : Str) :: r ∧ B.length ≤ 12 ∧ (B.filter isAdd).length ≤ 1 ∧ ∀ w ∈ r, isWord w rsteps = true := by
  unfold isRound
  simp only [Bool.and_eq_true, decide_eq_true_eq, areWords_iff]
  constructor
  · rintro ⟨h1, h2, h3, h4⟩
    cases B with
    | nil => cases h1
    | cons x r =>
      have : x = "ask" := Option.some.inj h1
      subst this
      exact ⟨r, rfl, h2, h3, h4⟩
  · rintro ⟨r, rfl, h2, h3, h4⟩
    exact ⟨rfl, h2, h3, h4⟩
theorem isEnding_iff {E : List Str} : isEnding E = true ↔ E.length ≤ 6 ∧ ∀ w ∈ E, isWord w esteps = true := by
  unfold isEnding
  simp only [Bool.and_eq_true, decide_eq_true_eq, areWords_iff]
theorem round_fs {B : List Str} (h : isRound B = true) : ∀ w ∈ B, FS w := by
  obtain ⟨r, rfl, _, _, h4⟩ := isRound_iff.mp h
  intro w hw
  rcases List.mem_cons.mp hw with rfl | hw
  · exact ask_fs
  · exact wd_fs (word_wd (h4 w hw))
theorem ending_fs {E : List Str} (h : isEnding E = true) : ∀ w ∈ E, FS w := fun w hw => wd_fs ((word_wd ((isEnding_iff.mp h).2 w hw)).mono e_r)
theorem round_ne {B : List Str} (h : isRound B = true) : B ≠ [] := by
  obtain ⟨r, rfl, _⟩ := isRound_iff.mp h
  simp
theorem round_sht {B : List Str} (h : isRound B = true) : Sht 12 B := ⟨fun w hw => (round_fs h w hw).2, let ⟨_, _, h2, _⟩ := isRound_iff.mp h; h2⟩
theorem ending_sht {E : List Str} (h : isEnding E = true) : Sht 6 E := ⟨fun w hw => (ending_fs h w hw).2, (isEnding_iff.mp h).1⟩
theorem Sht.mono {n m : Nat} {B : List Str} (h : Sht n B) (l : n ≤ m) : Sht m B := ⟨h.1, Nat.le_trans h.2 l⟩
theorem text_words {B E : List Str} (hB : isRound B = true) (hE : isEnding E = true) : wordsR (textOf B E) = B ∧ wordsE (textOf B E) = E := words_text (round_ne hB) (fun w hw => (round_fs hB w hw).1) (fun w hw => (ending_fs hE w hw).1)
theorem text_good {B E : List Str} (hB : isRound B = true) (hE : isEnding E = true) : goodText (textOf B E) = true := by
  have := text_words hB hE
  unfold goodText
  rw [this.1, this.2, hB, hE]
  rfl
theorem text_len {B E : List Str} (hB : isRound B = true) (hE : isEnding E = true) : (textOf B E).length ≤ 300 := by
  have h1 := (round_sht hB).join
  have h2 := (ending_sht hE).join
  unfold textOf
  split
  · omega
  · rw [strLen_append, strLen_append]
    have : (" | " : Str).length = 3 := by decide +kernel
    omega
/-- without the word at i -/
theorem round_erase {B : List Str} {i : Nat} (hB : isRound B = true) (hi : 1 ≤ i) : isRound (B.eraseIdx i) = true := by
  obtain ⟨r, rfl, h2, h3, h4⟩ := isRound_iff.mp hB
  obtain ⟨k, rfl⟩ : ∃ k, i = k + 1 := ⟨i - 1, by omega⟩
  have sub : (("ask" : Str) :: r.eraseIdx k).Sublist (("ask" : Str) :: r) := (List.eraseIdx_sublist r k).cons_cons _
  refine isRound_iff.mpr ⟨r.eraseIdx k, rfl, Nat.le_trans sub.length_le h2, Nat.le_trans (sub.filter isAdd).length_le h3, fun w hw => h4 w ((List.eraseIdx_sublist r k).subset hw)⟩
theorem ending_erase {E : List Str} {i : Nat} (hE : isEnding E = true) : isEnding (E.eraseIdx i) = true := by
  have h := isEnding_iff.mp hE
  exact isEnding_iff.mpr ⟨Nat.le_trans (List.eraseIdx_sublist E i).length_le h.1, fun w hw => h.2 w ((List.eraseIdx_sublist E i).subset hw)⟩
theorem good_iff {t : Str} : goodText t = true ↔ isRound (wordsR t) = true ∧ isEnding (wordsE t) = true := Bool.and_eq_true_iff
end LM

/-! loops that are drawn -/
namespace LM
open PySem L2 TL
def sBar : Str := " | "
def sSp : Str := " "
def samples : List Str := ["ask empty:stop hand", "ask hand short:stop", "ask add cut told:stop | rest:flush", "ask told:stop hand", "ask add empty:stop | rest:flush", "ask add cut empty:stop | flush", "ask some:hand told:stop", "ask empty:stop add cut | rest:flush", "ask empty:again hand told:stop", "ask add full:flush told:stop"]
def sampP (s : Str) : List Str := Txt.split s " | "
def sampB (s : Str) : List Str := Txt.split ((sampP s).getD 0 Str.empty) " "
def sampE (s : Str) : List Str := if (sampP s).length > 1 then Txt.split ((sampP s).getD 1 Str.empty) " " else []
def sampOk (s : Str) : Bool := isRound (sampB s) && (isEnding (sampE s) && (decide ((sampB s).length ≤ 4) && (decide ((sampE s).length ≤ 1) && (decide (1 ≤ (sampP s).length) && (decide (s.length ≤ 100) && (sampP s).all fun p => decide (p.length ≤ 100))))))
theorem samp_ok : ∀ s ∈ samples, sampOk s = true := by decide +kernel
structure Samp (s : Str) : Prop where
  r : isRound (sampB s) = true
  e : isEnding (sampE s) = true
  lb : (sampB s).length ≤ 4
  le : (sampE s).length ≤ 1
  l1 : 1 ≤ (sampP s).length
  ls : s.length ≤ 100
  lp : ∀ p ∈ sampP s, p.length ≤ 100
theorem samp_of {s : Str} (h : s ∈ samples) : Samp s := by
  have := samp_ok s h
  unfold sampOk at this
  simp only [Bool.and_eq_true, decide_eq_true_eq, List.all_eq_true] at this
  exact ⟨this.1, this.2.1, this.2.2.1, this.2.2.2.1, this.2.2.2.2.1, this.2.2.2.2.2.1, this.2.2.2.2.2.2⟩
/-! ### a word more -/
def plain5 : List Str := ["hand", "cut", "flush", "stop", "again"]
theorem wd_round {w : Str} (h : Wd rsteps w) : isWord w rsteps = true := by
  have := wd_ok w h.mem
  unfold wdOk at this
  exact (Bool.and_eq_true_iff.mp this).1
theorem wd_ending {w : Str} (h : Wd esteps w) : isWord w esteps = true := wd_end w h.mem
theorem wd_plain {w : Str} (h : Wd plain5 w) : isAdd w = false := wd_noadd w h.mem
theorem ask_noadd : isAdd "ask" = false := by decide +kernel
theorem ins_round {B xs : List Str} {i : Nat} (hB : isRound B = true) (hi : 1 ≤ i) (hx : ∀ x ∈ xs, isWord x rsteps = true) (hl : B.length + xs.length ≤ 12) (ha : (B.filter isAdd).length + (xs.filter isAdd).length ≤ 1) :
    isRound (B.take i ++ xs ++ B.drop i) = true := by
  obtain ⟨r, rfl, h2, h3, h4⟩ := isRound_iff.mp hB
  obtain ⟨k, rfl⟩ : ∃ k, i = k + 1 := ⟨i - 1, by omega⟩
  refine isRound_iff.mpr ⟨r.take k ++ xs ++ r.drop k, rfl, ?_, ?_, fun w hw => ?_⟩
  · rw [List.length_append, List.length_append, List.length_take, List.length_drop]
    omega
  · rw [List.filter_append, List.filter_append, List.length_append, List.length_append]
    have e : (((("ask" : Str) :: r).take (k + 1)).filter isAdd).length + (((("ask" : Str) :: r).drop (k + 1)).filter isAdd).length = ((("ask" : Str) :: r).filter isAdd).length := by
      rw [← List.length_append, ← List.filter_append, List.take_append_drop]
    omega
  · rcases List.mem_append.mp hw with hw | hw
    · rcases List.mem_append.mp hw with hw | hw
      · exact h4 w (List.mem_of_mem_take hw)
      · exact hx w hw
    · exact h4 w (List.mem_of_mem_drop hw)
theorem ask_round {ws : List Str} (h : ∀ w ∈ ws, Wd plain5 w) (hl : ws.length ≤ 11) : isRound (("ask" : Str) :: ws) = true ∧ ((("ask" : Str) :: ws).filter isAdd).length = 0 := by
  have e : ((("ask" : Str) :: ws).filter isAdd) = [] := by
    refine List.filter_eq_nil_iff.mpr fun w hw => ?_
    rcases List.mem_cons.mp hw with rfl | hw
    · rw [ask_noadd]; exact Bool.false_ne_true
    · rw [wd_plain (h w hw)]; exact Bool.false_ne_true
  refine ⟨isRound_iff.mpr ⟨ws, rfl, by rw [List.length_cons]; omega, by rw [e]; exact Nat.zero_le _, fun w hw => wd_round ((h w hw).mono (by decide +kernel))⟩, by rw [e]; rfl⟩
theorem one_filter {xs : List Str} (h : xs.length = 1) : (xs.filter isAdd).length ≤ 1 := Nat.le_trans (List.length_filter_le ..) (by omega)
theorem none_filter {xs : List Str} (h : ∀ w ∈ xs, Wd plain5 w) : (xs.filter isAdd).length = 0 := by
  rw [show xs.filter isAdd = [] from List.filter_eq_nil_iff.mpr fun w hw => by rw [wd_plain (h w hw)]; exact Bool.false_ne_true]
  rfl
theorem round_adds {B : List Str} (h : isRound B = true) : (B.filter isAdd).length ≤ 1 := let ⟨_, _, _, h3, _⟩ := isRound_iff.mp h; h3
theorem words_ending {E : List Str} (h : ∀ w ∈ E, Wd esteps w) (hl : E.length ≤ 6) : isEnding E = true := isEnding_iff.mpr ⟨hl, fun w hw => wd_ending (h w hw)⟩
/-! ### signs that are signs -/
def Asc (w : Str) : Prop := PyData.strOk w = true
theorem asc_iff {w : Str} : Asc w ↔ ∀ c ∈ tl w, c < 1114112 := by
  unfold Asc PyData.strOk
  rw [← Array.all_toList, List.all_eq_true]
  simp
theorem Asc.app {a b : Str} (ha : Asc a) (hb : Asc b) : Asc (a ++ b) := by
  rw [asc_iff] at ha hb ⊢
  rw [tl_append]
  intro c hc
  exact (List.mem_append.mp hc).elim (ha c) (hb c)
theorem asc_join {B : List Str} (h : ∀ w ∈ B, Asc w) : Asc (Txt.join " " B) := by
  rw [asc_iff, tl_joinSp]
  intro c hc
  rcases joinL_mem hc with hc | ⟨p, hp, hc⟩
  · rw [List.mem_singleton.mp hc]
    decide
  · obtain ⟨w, hw, rfl⟩ := List.mem_map.mp hp
    exact asc_iff.mp (h w hw) c hc
theorem asc_bar : Asc " | " := by unfold Asc; decide +kernel
theorem asc_text {B E : List Str} (h1 : ∀ w ∈ B, Asc w) (h2 : ∀ w ∈ E, Asc w) : Asc (textOf B E) := by
  unfold textOf
  split
  · exact asc_join h1
  · exact ((asc_join h1).app asc_bar).app (asc_join h2)
theorem wd_asc' : ∀ w ∈ allWd rsteps, PyData.strOk w = true := by decide +kernel
theorem wd_asc {w : Str} (h : Wd rsteps w) : Asc w := wd_asc' w h.mem
theorem ask_asc : Asc "ask" := by unfold Asc; decide +kernel
theorem round_asc {B : List Str} (h : isRound B = true) : ∀ w ∈ B, Asc w := by
  obtain ⟨r, rfl, _, _, h4⟩ := isRound_iff.mp h
  intro w hw
  rcases List.mem_cons.mp hw with rfl | hw
  · exact ask_asc
  · exact wd_asc (word_wd (h4 w hw))
theorem ending_asc {E : List Str} (h : isEnding E = true) : ∀ w ∈ E, Asc w := fun w hw => wd_asc ((word_wd ((isEnding_iff.mp h).2 w hw)).mono e_r)
end LM

/-! rows of pieces: what cutters make of them -/
namespace CH
def evenly (n w : Nat) : List Nat := List.replicate (n / w) w ++ (if n % w = 0 then [] else [n % w])
def chop (xs : List Nat) (w : Nat) : List Nat := xs.flatMap fun x => evenly x w
def tailS (xs : List Nat) (w : Nat) : List Nat := if 2 ≤ xs.length ∧ xs.getD (xs.length - 1) 0 < w then xs.take (xs.length - 2) ++ [xs.getD (xs.length - 2) 0 + xs.getD (xs.length - 1) 0] else xs
inductive Kd | cut | fill | tail
  deriving DecidableEq
def applyS (n : Nat) (c : Kd × Nat) (xs : List Nat) : List Nat := match c.1 with
  | .cut => chop xs c.2
  | .fill => evenly n c.2
  | .tail => tailS xs c.2
def wholeS (n : Nat) : List Nat := if n = 0 then [] else [n]
/-- the sizes of the pieces -/
def lens (cs : List (Kd × Nat)) (n : Nat) : List Nat := cs.foldl (fun xs c => applyS n c xs) (wholeS n)
structure Rw where
  unit : List Nat
  times : Nat
  last : List Nat
def Rw.sizes (r : Rw) : List Nat := (List.replicate r.times r.unit).flatten ++ r.last
def Rw.many (r : Rw) : Nat := r.times * r.unit.length + r.last.length
def Rw.tot (r : Rw) : Nat := r.times * r.unit.sum + r.last.sum
def fillR (r : Rw) (w : Nat) : Rw := ⟨[w], r.tot / w, if r.tot % w = 0 then [] else [r.tot % w]⟩
def cutR (r : Rw) (w : Nat) : Rw := if r.many = 1 then fillR r w else ⟨chop r.unit w, r.times, chop r.last w⟩
def pull (u : List Nat) : Nat → List Nat → Nat × List Nat
  | 0, l => (0, l)
  | t + 1, l => if l.length < 2 then pull u t (u ++ l) else (t + 1, l)
def tailR (r : Rw) (w : Nat) : Rw := ⟨r.unit, (pull r.unit r.times r.last).1, tailS (pull r.unit r.times r.last).2 w⟩
def wholeR (n : Nat) : Rw := ⟨[], 0, wholeS n⟩
def applyR (c : Kd × Nat) (r : Rw) : Rw := match c.1 with
  | .cut => cutR r c.2
  | .fill => fillR r c.2
  | .tail => tailR r c.2
def rowOf (cs : List (Kd × Nat)) (n : Nat) : Rw := cs.foldl (fun r c => applyR c r) (wholeR n)
/-! ### lists -/
theorem rep_len (u : List Nat) : ∀ t, (List.replicate t u).flatten.length = t * u.length
  | 0 => by simp
  | t + 1 => by rw [List.replicate_succ, List.flatten_cons, List.length_append, rep_len u t, Nat.succ_mul]; omega
theorem rep_sum (u : List Nat) : ∀ t, (List.replicate t u).flatten.sum = t * u.sum
  | 0 => by simp
  | t + 1 => by rw [List.replicate_succ, List.flatten_cons, List.sum_append, rep_sum u t, Nat.succ_mul]; omega
theorem sizes_len (r : Rw) : r.sizes.length = r.many := by unfold Rw.sizes Rw.many; rw [List.length_append, rep_len]
theorem sizes_sum (r : Rw) : r.sizes.sum = r.tot := by unfold Rw.sizes Rw.tot; rw [List.sum_append, rep_sum]
theorem flat_one (w : Nat) : ∀ t, (List.replicate t [w]).flatten = List.replicate t w
  | 0 => rfl
  | t + 1 => by rw [List.replicate_succ, List.flatten_cons, flat_one w t, List.replicate_succ]; rfl
theorem fill_sizes (r : Rw) (w : Nat) : (fillR r w).sizes = evenly r.tot w := by
  unfold fillR Rw.sizes evenly
  rw [flat_one]
theorem evenly_sum (n w : Nat) : (evenly n w).sum = n := by
  unfold evenly
  rw [List.sum_append, List.sum_replicate_nat]
  have := Nat.div_add_mod n w
  split
  · rw [List.sum_nil]; rw [Nat.mul_comm]; omega
  · rw [List.sum_singleton, Nat.mul_comm]; omega
theorem chop_app (a b : List Nat) (w : Nat) : chop (a ++ b) w = chop a w ++ chop b w := by unfold chop; rw [List.flatMap_append]
theorem chop_rep (u : List Nat) (w : Nat) : ∀ t, chop (List.replicate t u).flatten w = (List.replicate t (chop u w)).flatten
  | 0 => rfl
  | t + 1 => by rw [List.replicate_succ, List.flatten_cons, chop_app, chop_rep u w t, List.replicate_succ, List.flatten_cons]
theorem chop_sum (w : Nat) : ∀ xs, (chop xs w).sum = xs.sum
  | [] => rfl
  | x :: r => by
    show (evenly x w ++ chop r w).sum = _
    rw [List.sum_append, evenly_sum, chop_sum w r, List.sum_cons]
theorem cut_sizes (r : Rw) (w : Nat) : (cutR r w).sizes = chop r.sizes w := by
  unfold cutR
  split
  · rename_i h
    rw [fill_sizes]
    rw [← sizes_len] at h
    rw [← sizes_sum]
    match r.sizes, h with
    | [x], _ =>
      show evenly (x + 0) w = evenly x w ++ []
      rw [List.append_nil]; rfl
  · show (List.replicate r.times (chop r.unit w)).flatten ++ chop r.last w = _
    unfold Rw.sizes
    rw [chop_app, chop_rep]
theorem pull_sizes (u : List Nat) : ∀ (t : Nat) (l : List Nat), (List.replicate (pull u t l).1 u).flatten ++ (pull u t l).2 = (List.replicate t u).flatten ++ l
  | 0, l => rfl
  | t + 1, l => by
    unfold pull
    split
    · rw [pull_sizes u t (u ++ l), List.replicate_succ', List.flatten_append, List.append_assoc]
      simp
    · rfl
theorem pull_end (u : List Nat) : ∀ (t : Nat) (l : List Nat), (pull u t l).1 = 0 ∨ 2 ≤ (pull u t l).2.length
  | 0, l => .inl rfl
  | t + 1, l => by
    unfold pull
    split
    · exact pull_end u t (u ++ l)
    · right; show 2 ≤ l.length; omega
theorem getD_app (a b : List Nat) (i : Nat) (h : a.length ≤ i) : (a ++ b).getD i 0 = b.getD (i - a.length) 0 := by
  rw [List.getD_eq_getElem?_getD, List.getD_eq_getElem?_getD, List.getElem?_append_right h]
theorem tailS_app (a b : List Nat) (w : Nat) (h : 2 ≤ b.length) : tailS (a ++ b) w = a ++ tailS b w := by
  unfold tailS
  rw [List.length_append, getD_app a b _ (by omega), getD_app a b _ (by omega), show a.length + b.length - 1 - a.length = b.length - 1 by omega, show a.length + b.length - 2 - a.length = b.length - 2 by omega]
  by_cases c : b.getD (b.length - 1) 0 < w
  · rw [if_pos ⟨by omega, c⟩, if_pos ⟨h, c⟩, List.take_append, List.take_of_length_le (by omega), List.append_assoc, show a.length + b.length - 2 - a.length = b.length - 2 by omega]
  · rw [if_neg fun z => c z.2, if_neg fun z => c z.2]
theorem tail_sizes (r : Rw) (w : Nat) : (tailR r w).sizes = tailS r.sizes w := by
  show (List.replicate (pull r.unit r.times r.last).1 r.unit).flatten ++ tailS (pull r.unit r.times r.last).2 w = _
  have e := pull_sizes r.unit r.times r.last
  unfold Rw.sizes
  rw [← e]
  rcases pull_end r.unit r.times r.last with h | h
  · rw [h]; rfl
  · rw [tailS_app _ _ _ h]
theorem getD_eq {xs : List Nat} {i : Nat} (h : i < xs.length) : xs.getD i 0 = xs[i] := by rw [List.getD_eq_getElem?_getD, List.getElem?_eq_getElem h]; rfl
theorem two_last {xs : List Nat} (h : 2 ≤ xs.length) : xs = xs.take (xs.length - 2) ++ [xs.getD (xs.length - 2) 0, xs.getD (xs.length - 1) 0] := by
  have e : xs.drop (xs.length - 2) = [xs.getD (xs.length - 2) 0, xs.getD (xs.length - 1) 0] := by
    rw [List.drop_eq_getElem_cons (by omega), List.drop_eq_getElem_cons (by omega), List.drop_of_length_le (by omega)]
    rw [getD_eq (by omega), getD_eq (by omega)]
    have e : xs.length - 2 + 1 = xs.length - 1 := by omega
    simp [e]
  rw [← e, List.take_append_drop]
theorem tailS_sum (xs : List Nat) (w : Nat) : (tailS xs w).sum = xs.sum := by
  unfold tailS
  split
  · rename_i h
    rw [List.sum_append]
    conv => rhs; rw [two_last h.1]
    rw [List.sum_append]
    simp
  · rfl
theorem wholeS_sum (n : Nat) : (wholeS n).sum = n := by
  unfold wholeS
  split
  · rename_i h; rw [h]; rfl
  · simp
theorem applyS_sum (n : Nat) (c : Kd × Nat) (xs : List Nat) (h : xs.sum = n) : (applyS n c xs).sum = n := by
  unfold applyS
  split
  · rw [chop_sum, h]
  · rw [evenly_sum]
  · rw [tailS_sum, h]
theorem fold_sizes (n : Nat) : ∀ (cs : List (Kd × Nat)) (r : Rw) (xs : List Nat), r.sizes = xs → xs.sum = n → (cs.foldl (fun r c => applyR c r) r).sizes = cs.foldl (fun xs c => applyS n c xs) xs ∧ (cs.foldl (fun xs c => applyS n c xs) xs).sum = n
  | [], r, xs, h1, h2 => ⟨h1, h2⟩
  | c :: cs, r, xs, h1, h2 => by
    refine fold_sizes n cs (applyR c r) (applyS n c xs) ?_ (applyS_sum n c xs h2)
    unfold applyR applyS
    split
    · rw [cut_sizes, h1]
    · rw [fill_sizes, ← sizes_sum, h1, h2]
    · rw [tail_sizes, h1]
theorem row_sizes (cs : List (Kd × Nat)) (n : Nat) : (rowOf cs n).sizes = lens cs n := (fold_sizes n cs (wholeR n) (wholeS n) rfl (wholeS_sum n)).1
theorem lens_sum (cs : List (Kd × Nat)) (n : Nat) : (lens cs n).sum = n := (fold_sizes n cs (wholeR n) (wholeS n) rfl (wholeS_sum n)).2
theorem row_many (cs : List (Kd × Nat)) (n : Nat) : (rowOf cs n).many = (lens cs n).length := by rw [← sizes_len, row_sizes]
theorem row_tot (cs : List (Kd × Nat)) (n : Nat) : (rowOf cs n).tot = n := by rw [← sizes_sum, row_sizes, lens_sum]
/-! ### all pieces have items -/
def Pos (xs : List Nat) : Prop := ∀ x ∈ xs, 0 < x
theorem Pos.app {a b : List Nat} (ha : Pos a) (hb : Pos b) : Pos (a ++ b) := fun x h => (List.mem_append.mp h).elim (ha x) (hb x)
theorem Pos.len {xs : List Nat} (h : Pos xs) : xs.length ≤ xs.sum := by
  induction xs with
  | nil => simp
  | cons x r ih =>
    have a := h x (List.mem_cons_self ..)
    have b := ih fun y hy => h y (List.mem_cons_of_mem _ hy)
    rw [List.length_cons, List.sum_cons]
    omega
theorem pos_evenly {n w : Nat} (hw : 0 < w) : Pos (evenly n w) := by
  intro x hx
  unfold evenly at hx
  rcases List.mem_append.mp hx with h | h
  · rw [(List.mem_replicate.mp h).2]; exact hw
  · split at h
    · cases h
    · rw [List.mem_singleton.mp h]; omega
theorem pos_chop {xs : List Nat} {w : Nat} (hw : 0 < w) : Pos (chop xs w) := by
  intro x hx
  obtain ⟨y, _, h⟩ := List.mem_flatMap.mp hx
  exact pos_evenly hw x h
theorem pos_tailS {xs : List Nat} {w : Nat} (h : Pos xs) : Pos (tailS xs w) := by
  unfold tailS
  split
  · rename_i c
    refine Pos.app (fun x hx => h x (List.mem_of_mem_take hx)) fun x hx => ?_
    rw [List.mem_singleton.mp hx]
    have := h (xs.getD (xs.length - 2) 0) (by rw [getD_eq (by omega)]; exact List.getElem_mem _)
    omega
  · exact h
theorem pos_wholeS (n : Nat) : Pos (wholeS n) := by
  unfold wholeS
  split
  · intro x h; cases h
  · intro x h; rw [List.mem_singleton.mp h]; omega
theorem pos_rep {u : List Nat} {t : Nat} (h : Pos u) : Pos (List.replicate t u).flatten := by
  intro x hx
  obtain ⟨l, hl, hx⟩ := List.mem_flatten.mp hx
  rw [(List.mem_replicate.mp hl).2] at hx
  exact h x hx
/-- what holds of a row behind k cutters -/
structure Inv (k : Nat) (r : Rw) : Prop where
  pu : Pos r.unit
  pl : Pos r.last
  f : (r.unit = [] ∧ r.times = 0 ∧ r.last.length ≤ 1) ∨ (r.unit ≠ [] ∧ r.unit.sum ≤ 12 ∧ r.last.sum ≤ 24 * k + 12)
theorem inv_whole (n : Nat) : Inv 0 (wholeR n) := ⟨fun x h => (nomatch h), pos_wholeS n, .inl ⟨rfl, rfl, by show (wholeS n).length ≤ 1; unfold wholeS; split <;> simp⟩⟩
theorem inv_fill {k : Nat} {r : Rw} {w : Nat} (hw : 0 < w) (h12 : w ≤ 12) : Inv (k + 1) (fillR r w) := by
  refine ⟨fun x h => ?_, fun x h => ?_, .inr ⟨by simp [fillR], by show [w].sum ≤ 12; simpa using h12, ?_⟩⟩
  · rw [List.mem_singleton.mp h]; exact hw
  · unfold fillR at h
    simp only at h
    split at h
    · cases h
    · rw [List.mem_singleton.mp h]; omega
  · show (if r.tot % w = 0 then [] else [r.tot % w]).sum ≤ _
    have := Nat.mod_lt r.tot hw
    split
    · simp
    · simp; omega
theorem evenly_ne {n w : Nat} (hn : 0 < n) : evenly n w ≠ [] := fun e => by
  have := evenly_sum n w
  rw [e] at this
  simp at this
  omega
theorem inv_cut {k : Nat} {r : Rw} {w : Nat} (hw : 0 < w) (h12 : w ≤ 12) (h : Inv k r) : Inv (k + 1) (cutR r w) := by
  unfold cutR
  split
  · exact inv_fill hw h12
  · rename_i hm
    refine ⟨pos_chop hw, pos_chop hw, ?_⟩
    rcases h.f with ⟨a, b, c⟩ | ⟨a, b, c⟩
    · left
      refine ⟨by rw [a]; rfl, b, ?_⟩
      have : r.last.length = 0 := by
        unfold Rw.many at hm
        rw [b] at hm
        omega
      rw [List.eq_nil_of_length_eq_zero this]
      simp [chop]
    · right
      refine ⟨fun e => ?_, by rw [chop_sum]; exact b, by rw [chop_sum]; show r.last.sum ≤ _; omega⟩
      obtain ⟨x, u, hu⟩ := List.exists_cons_of_ne_nil a
      rw [hu] at e
      have e2 : evenly x w ++ chop u w = [] := e
      exact evenly_ne (h.pu x (by rw [hu]; exact List.mem_cons_self ..)) (List.append_eq_nil_iff.mp e2).1
theorem pull_len (u : List Nat) (hu : u ≠ []) : ∀ (t : Nat) (l : List Nat), (pull u t l).2.sum ≤ l.sum + (2 - l.length) * u.sum
  | 0, l => by show l.sum ≤ _; omega
  | t + 1, l => by
    unfold pull
    split
    · have ih := pull_len u hu t (u ++ l)
      have hl : 1 ≤ u.length := List.length_pos_iff.mpr hu
      rw [List.sum_append, List.length_append] at ih
      have : (2 - (u.length + l.length)) * u.sum ≤ (1 - l.length) * u.sum := Nat.mul_le_mul_right _ (by omega)
      have e : (2 - l.length) * u.sum = (1 - l.length) * u.sum + u.sum := by
        rw [show 2 - l.length = (1 - l.length) + 1 by omega, Nat.succ_mul]
      omega
    · show l.sum ≤ _; omega
theorem pos_pull {u : List Nat} (hu : Pos u) : ∀ (t : Nat) {l : List Nat}, Pos l → Pos (pull u t l).2
  | 0, l, h => h
  | t + 1, l, h => by
    unfold pull
    split
    · exact pos_pull hu t (hu.app h)
    · exact h
theorem inv_tail {k : Nat} {r : Rw} {w : Nat} (h : Inv k r) : Inv (k + 1) (tailR r w) := by
  refine ⟨h.pu, pos_tailS (pos_pull h.pu _ h.pl), ?_⟩
  rcases h.f with ⟨a, b, c⟩ | ⟨a, b, c⟩
  · left
    refine ⟨a, ?_, ?_⟩
    · show (pull r.unit r.times r.last).1 = 0
      rw [b]; rfl
    · show (tailS (pull r.unit r.times r.last).2 w).length ≤ 1
      rw [b]
      show (tailS r.last w).length ≤ 1
      unfold tailS
      rw [if_neg (fun z => by have := z.1; omega)]
      exact c
  · right
    refine ⟨a, b, ?_⟩
    show (tailS (pull r.unit r.times r.last).2 w).sum ≤ _
    rw [tailS_sum]
    have := pull_len r.unit a r.times r.last
    have : (2 - r.last.length) * r.unit.sum ≤ 2 * 12 := Nat.mul_le_mul (by omega) b
    omega
theorem inv_apply {k : Nat} {r : Rw} {c : Kd × Nat} (h1 : 0 < c.2) (h2 : c.2 ≤ 12) (h : Inv k r) : Inv (k + 1) (applyR c r) := by
  unfold applyR
  split
  · exact inv_cut h1 h2 h
  · exact inv_fill h1 h2
  · exact inv_tail h
/-! ### pieces and places -/
theorem take_rep (u : List Nat) : ∀ (t i : Nat), i < t * u.length → ((List.replicate t u).flatten.take i).sum = i / u.length * u.sum + (u.take (i % u.length)).sum ∧ (List.replicate t u).flatten[i]? = u[i % u.length]?
  | 0, i, h => by omega
  | t + 1, i, h => by
    rw [List.replicate_succ, List.flatten_cons]
    rw [Nat.succ_mul] at h
    by_cases c : i < u.length
    · rw [Nat.div_eq_of_lt c, Nat.mod_eq_of_lt c, List.take_append, List.getElem?_append_left c, show i - u.length = 0 by omega]
      simp
    · have hp : 0 < u.length := by
        rcases Nat.eq_zero_or_pos u.length with z | z
        · rw [z] at h; omega
        · exact z
      obtain ⟨a, b⟩ := take_rep u t (i - u.length) (by omega)
      rw [List.take_append, List.take_of_length_le (by omega), List.sum_append, List.getElem?_append_right (by omega), a, b, Nat.mod_eq_sub_mod (by omega : u.length ≤ i), Nat.div_eq_sub_div hp (by omega : u.length ≤ i)]
      refine ⟨?_, rfl⟩
      rw [Nat.succ_mul]
      omega
/-- the place of the piece with this item -/
def placeA : List Nat → Nat → Nat
  | [], _ => 0
  | x :: r, i => if i < x then 0 else 1 + placeA r (i - x)
theorem placeA_app : ∀ (a b : List Nat) (i : Nat), placeA (a ++ b) i = if i < a.sum then placeA a i else a.length + placeA b (i - a.sum)
  | [], b, i => by simp
  | x :: r, b, i => by
    rw [List.cons_append, List.sum_cons, List.length_cons]
    show (if i < x then 0 else 1 + placeA (r ++ b) (i - x)) = _
    have e : placeA (x :: r) i = if i < x then 0 else 1 + placeA r (i - x) := rfl
    rw [placeA_app r b, e]
    by_cases h1 : i < x
    · rw [if_pos h1, if_pos (by omega), if_pos h1]
    · rw [if_neg h1]
      by_cases h2 : i < x + r.sum
      · rw [if_pos h2, if_neg h1, if_pos (by omega)]
      · rw [if_neg h2, if_neg (by omega), show i - x - r.sum = i - (x + r.sum) by omega]
        omega
theorem placeA_rep (u : List Nat) : ∀ (t i : Nat), i < t * u.sum → placeA (List.replicate t u).flatten i = i / u.sum * u.length + placeA u (i % u.sum)
  | 0, i, h => by omega
  | t + 1, i, h => by
    rw [List.replicate_succ, List.flatten_cons, placeA_app]
    rw [Nat.succ_mul] at h
    by_cases c : i < u.sum
    · rw [if_pos c, Nat.div_eq_of_lt c, Nat.mod_eq_of_lt c]
      omega
    · rw [if_neg c]
      have hp : 0 < u.sum := by
        rcases Nat.eq_zero_or_pos u.sum with z | z
        · rw [z] at h; omega
        · exact z
      rw [placeA_rep u t (i - u.sum) (by omega), Nat.mod_eq_sub_mod (by omega : u.sum ≤ i), Nat.div_eq_sub_div hp (by omega : u.sum ≤ i), Nat.succ_mul]
      omega
theorem placeA_lt : ∀ (xs : List Nat) (i : Nat), i < xs.sum → placeA xs i < xs.length ∧ (xs.take (placeA xs i)).sum ≤ i ∧ i < (xs.take (placeA xs i)).sum + xs.getD (placeA xs i) 0
  | [], i, h => by simp at h
  | x :: r, i, h => by
    rw [List.sum_cons] at h
    have e : placeA (x :: r) i = if i < x then 0 else 1 + placeA r (i - x) := rfl
    rw [e]
    by_cases c : i < x
    · rw [if_pos c]
      simp
      exact c
    · rw [if_neg c]
      obtain ⟨a, b, d⟩ := placeA_lt r (i - x) (by omega)
      rw [Nat.add_comm 1, List.take_succ_cons, List.sum_cons, List.length_cons]
      refine ⟨by omega, by omega, ?_⟩
      show i < x + _ + (r.getD _ 0)
      omega
/-- the answers of a row -/
def pieceR (r : Rw) (p : Nat) : Nat × Nat := if p < r.times * r.unit.length then (p / r.unit.length * r.unit.sum + (r.unit.take (p % r.unit.length)).sum, r.unit.getD (p % r.unit.length) 0)
  else (r.times * r.unit.sum + (r.last.take (p - r.times * r.unit.length)).sum, r.last.getD (p - r.times * r.unit.length) 0)
def placeR (r : Rw) (i : Nat) : Nat := if i < r.times * r.unit.sum then i / r.unit.sum * r.unit.length + placeA r.unit (i % r.unit.sum) else r.times * r.unit.length + placeA r.last (i - r.times * r.unit.sum)
theorem piece_sizes (r : Rw) (p : Nat) : pieceR r p = ((r.sizes.take p).sum, r.sizes.getD p 0) := by
  unfold pieceR Rw.sizes
  split
  · rename_i h
    obtain ⟨a, b⟩ := take_rep r.unit r.times p h
    rw [List.take_append, show p - (List.replicate r.times r.unit).flatten.length = 0 by rw [rep_len]; omega]
    rw [List.getD_eq_getElem?_getD, List.getD_eq_getElem?_getD, List.getElem?_append_left (by rw [rep_len]; exact h), b]
    simp [a]
  · rename_i h
    rw [List.take_append, List.take_of_length_le (l := (List.replicate r.times r.unit).flatten) (by rw [rep_len]; omega), List.sum_append, rep_sum, rep_len, getD_app _ _ _ (by rw [rep_len]; omega), rep_len]
theorem place_sizes (r : Rw) (i : Nat) : placeR r i = placeA r.sizes i := by
  unfold placeR Rw.sizes
  rw [placeA_app, rep_sum, rep_len]
  split
  · rename_i h
    rw [placeA_rep _ _ _ h]
  · rfl
end CH
namespace CH
/-! ### where an item is -/
theorem sum_take_succ {xs : List Nat} {a : Nat} (h : a < xs.length) : (xs.take (a + 1)).sum = (xs.take a).sum + xs.getD a 0 := by
  rw [List.take_succ, List.sum_append, getD_eq h, List.getElem?_eq_getElem h]
  simp
theorem sum_take_mono {xs : List Nat} {a b : Nat} (h : a ≤ b) : (xs.take a).sum ≤ (xs.take b).sum := by
  have e : xs.take a = (xs.take b).take a := by rw [List.take_take, Nat.min_eq_left h]
  rw [e]
  have := congrArg List.sum (List.take_append_drop a (xs.take b))
  rw [List.sum_append] at this
  omega
theorem getD_pos {xs : List Nat} (h : Pos xs) {a : Nat} (ha : a < xs.length) : 0 < xs.getD a 0 := by
  rw [getD_eq ha]
  exact h _ (List.getElem_mem _)
theorem placeA_at : ∀ {xs : List Nat} {a i : Nat}, a < xs.length → (xs.take a).sum ≤ i → i < (xs.take a).sum + xs.getD a 0 → placeA xs i = a
  | [], _, _, h, _, _ => by simp at h
  | x :: r, 0, i, _, _, h3 => by
    have h3 : i < 0 + x := h3
    show (if i < x then 0 else 1 + placeA r (i - x)) = 0
    rw [if_pos (by omega)]
  | x :: r, a + 1, i, h1, h2, h3 => by
    rw [List.take_succ_cons, List.sum_cons] at h2 h3
    have h3 : i < x + (r.take a).sum + r.getD a 0 := h3
    have h1 : a < r.length := by simpa using h1
    show (if i < x then 0 else 1 + placeA r (i - x)) = a + 1
    rw [if_neg (by omega), placeA_at h1 (by omega) (by omega)]
    omega
/-- a piece begins with item 0 just if it is the first, and it has the last item just if it is the last -/
theorem begins {xs : List Nat} (h : Pos xs) {a : Nat} (ha : a < xs.length) : (xs.take a).sum = 0 ↔ a = 0 := by
  constructor
  · intro e
    cases a with
    | zero => rfl
    | succ a =>
      have := sum_take_succ (xs := xs) (a := a) (by omega)
      have := getD_pos h (a := a) (by omega)
      omega
  · intro e
    rw [e]
    rfl
theorem ends {xs : List Nat} (h : Pos xs) {a : Nat} (ha : a < xs.length) : (xs.take a).sum + xs.getD a 0 ≤ xs.sum ∧ ((xs.take a).sum + xs.getD a 0 = xs.sum ↔ a = xs.length - 1) := by
  have e := sum_take_succ ha
  rw [← e]
  have l : (xs.take (a + 1)).sum ≤ (xs.take xs.length).sum := sum_take_mono (by omega)
  rw [List.take_length] at l
  refine ⟨l, fun z => ?_, fun z => ?_⟩
  · rcases Nat.lt_or_ge (a + 1) xs.length with c | c
    · have e2 := sum_take_succ c
      have p := getD_pos h c
      have l2 : (xs.take (a + 1 + 1)).sum ≤ (xs.take xs.length).sum := sum_take_mono (by omega)
      rw [List.take_length] at l2
      omega
    · omega
  · rw [List.take_of_length_le (by omega)]
end CH

/-! texts of chains -/
namespace CH
open PySem L2 TL
def kdS : Kd → Str
  | .cut => "cut"
  | .fill => "fill"
  | .tail => "tail"
def nS (n : Nat) : Str := Str.ofString (toString ((n : Nat) : Int))
def kds : List Str := ["cut", "fill", "tail"]
def widths : List Str := (List.range 12).map fun i => nS (i + 1)
def kdOf (w : Str) : Option Kd := if w = "cut" then some .cut else if w = "fill" then some .fill else if w = "tail" then some .tail else none
def numOf (d : Str) : Option Nat := (List.range 12).findSome? fun i => if d = nS (i + 1) then some (i + 1) else none
def cutterOf (t : Str) : Option (Kd × Nat) := match kdOf (Txt.partition t " ").1, numOf (Txt.partition t " ").2.2 with
  | some k, some n => some (k, n)
  | _, _ => none
def parts (t : Str) : List Str := Txt.split t ", "
def goodC (t : Str) : Bool := (parts t).all (fun p => (cutterOf p).isSome) && decide ((parts t).length ≤ 6)
def cuttersOf (t : Str) : List (Kd × Nat) := (parts t).filterMap cutterOf
def cutT (c : Kd × Nat) : Str := kdS c.1 ++ (" " : Str) ++ nS c.2
def cline (cs : List (Kd × Nat)) : Str := Txt.join ", " (cs.map cutT)
theorem kdOf_some {w : Str} {k : Kd} (h : kdOf w = some k) : w = kdS k := by
  unfold kdOf at h
  by_cases c1 : w = "cut"
  · rw [if_pos c1] at h; cases h; exact c1
  rw [if_neg c1] at h
  by_cases c2 : w = "fill"
  · rw [if_pos c2] at h; cases h; exact c2
  rw [if_neg c2] at h
  by_cases c3 : w = "tail"
  · rw [if_pos c3] at h; cases h; exact c3
  rw [if_neg c3] at h
  cases h
theorem kdOf_none {w : Str} (h : kdOf w = none) : w ∉ kds := by
  unfold kdOf at h
  by_cases c1 : w = "cut"
  · rw [if_pos c1] at h; cases h
  rw [if_neg c1] at h
  by_cases c2 : w = "fill"
  · rw [if_pos c2] at h; cases h
  rw [if_neg c2] at h
  by_cases c3 : w = "tail"
  · rw [if_pos c3] at h; cases h
  intro z
  simp [kds, c1, c2, c3] at z
theorem kdOf_kdS (k : Kd) : kdOf (kdS k) = some k := by cases k <;> decide +kernel
theorem numOf_some {d : Str} {n : Nat} (h : numOf d = some n) : d = nS n ∧ 1 ≤ n ∧ n ≤ 12 := by
  obtain ⟨i, hi, e⟩ := List.exists_of_findSome?_eq_some h
  have := List.mem_range.mp hi
  split at e
  · rename_i c
    cases e
    exact ⟨c, by omega, by omega⟩
  · cases e
theorem numOf_mem (d : Str) : decide (d ∈ widths) = (numOf d).isSome := by
  cases h : numOf d with
  | none =>
    refine decide_eq_false fun z => ?_
    obtain ⟨i, hi, e⟩ := List.mem_map.mp z
    have := List.findSome?_eq_none_iff.mp h i hi
    rw [if_pos e.symm] at this
    cases this
  | some n =>
    obtain ⟨e, h1, h2⟩ := numOf_some h
    refine decide_eq_true (List.mem_map.mpr ⟨n - 1, List.mem_range.mpr (by omega), ?_⟩)
    rw [e, show n - 1 + 1 = n by omega]
/-- all cutters -/
def allC : List (Kd × Nat) := [Kd.cut, Kd.fill, Kd.tail].flatMap fun k => (List.range 12).map fun i => (k, i + 1)
def Ct (c : Kd × Nat) : Prop := 1 ≤ c.2 ∧ c.2 ≤ 12
theorem Ct.mem {c : Kd × Nat} (h : Ct c) : c ∈ allC := by
  obtain ⟨k, n⟩ := c
  refine List.mem_flatMap.mpr ⟨k, by cases k <;> simp, List.mem_map.mpr ⟨n - 1, List.mem_range.mpr ?_, ?_⟩⟩
  · have := h.2
    have := h.1
    show n - 1 < 12
    omega
  · have := h.1
    show (k, n - 1 + 1) = (k, n)
    rw [show n - 1 + 1 = n by have : 1 ≤ n := h.1; omega]
def okC (c : Kd × Nat) : Bool := decide (cutterOf (cutT c) = some c) && (decide (44 ∉ tl (cutT c)) && (decide ((cutT c).length ≤ 7) && (PyData.strOk (cutT c) && (decide ((kdS c.1 ++ (" " : Str)).length ≤ 5) && decide (Txt.split (cutT c) " " = [kdS c.1, nS c.2])))))
theorem allC_ok : ∀ c ∈ allC, okC c = true := by decide +kernel
structure CtF (c : Kd × Nat) : Prop where
  p : cutterOf (cutT c) = some c
  m : 44 ∉ tl (cutT c)
  l : (cutT c).length ≤ 7
  a : PyData.strOk (cutT c) = true
  s : Txt.split (cutT c) " " = [kdS c.1, nS c.2]
theorem Ct.f {c : Kd × Nat} (h : Ct c) : CtF c := by
  have q := allC_ok c h.mem
  unfold okC at q
  simp only [Bool.and_eq_true, decide_eq_true_eq] at q
  exact ⟨q.1, q.2.1, q.2.2.1, q.2.2.2.1, q.2.2.2.2.2⟩
theorem nS_len {n : Nat} (h : n ≤ 12) : (nS n).length ≤ 2 := by
  have : ∀ i ∈ List.range 13, (nS i).length ≤ 2 := by decide +kernel
  exact this n (List.mem_range.mpr (by omega))
theorem cutter_ct {t : Str} {c : Kd × Nat} (h : cutterOf t = some c) : Ct c := by
  unfold cutterOf at h
  split at h
  · rename_i k n h1 h2
    cases h
    exact (numOf_some h2).2
  · cases h
theorem cutters_ct {t : Str} : ∀ c ∈ cuttersOf t, Ct c := fun c h => by
  obtain ⟨p, _, e⟩ := List.mem_filterMap.mp h
  exact cutter_ct e
theorem cutters_len {t : Str} (h : goodC t = true) : (cuttersOf t).length ≤ 6 ∧ (cuttersOf t).length = (parts t).length := by
  unfold goodC at h
  rw [Bool.and_eq_true, List.all_eq_true] at h
  have e : ∀ (l : List Str), (∀ p ∈ l, (cutterOf p).isSome = true) → (l.filterMap cutterOf).length = l.length := by
    intro l
    induction l with
    | nil => intro _; rfl
    | cons p r ih =>
      intro hp
      obtain ⟨c, hc⟩ := Option.isSome_iff_exists.mp (hp p (List.mem_cons_self ..))
      rw [List.filterMap_cons, hc, List.length_cons, List.length_cons, ih fun q hq => hp q (List.mem_cons_of_mem _ hq)]
  have := e (parts t) h.1
  have h2 := of_decide_eq_true h.2
  unfold cuttersOf
  omega
theorem tlCm : tl (", " : Str) = [44, 32] := by decide +kernel
theorem parts_line {cs : List (Kd × Nat)} (ne : cs ≠ []) (h : ∀ c ∈ cs, Ct c) : parts (cline cs) = cs.map cutT :=
  split_join (s := 44) (S := [32]) tlCm (by decide +kernel) (fun e => ne (List.map_eq_nil_iff.mp e)) fun p hp => by
    obtain ⟨c, hc, rfl⟩ := List.mem_map.mp hp
    exact (h c hc).f.m
theorem line_good {cs : List (Kd × Nat)} (ne : cs ≠ []) (h : ∀ c ∈ cs, Ct c) (hl : cs.length ≤ 6) : goodC (cline cs) = true := by
  unfold goodC
  rw [parts_line ne h, Bool.and_eq_true, List.all_eq_true, List.length_map]
  refine ⟨fun p hp => ?_, decide_eq_true hl⟩
  obtain ⟨c, hc, rfl⟩ := List.mem_map.mp hp
  rw [(h c hc).f.p]
  rfl
theorem line_cutters {cs : List (Kd × Nat)} (ne : cs ≠ []) (h : ∀ c ∈ cs, Ct c) : cuttersOf (cline cs) = cs := by
  unfold cuttersOf
  rw [parts_line ne h]
  clear ne
  induction cs with
  | nil => rfl
  | cons c r ih =>
    rw [List.map_cons, List.filterMap_cons, (h c (List.mem_cons_self ..)).f.p, ih fun q hq => h q (List.mem_cons_of_mem _ hq)]
theorem joinC_len : ∀ B : List Str, (Txt.join ", " B).length ≤ (B.map (·.length)).sum + B.length * 2 := by
  intro B
  rw [len_tl, join_eq, tl_join, tlCm]
  induction B with
  | nil => simp [joinL]
  | cons w r ih =>
    cases r with
    | nil =>
      show (tl w).length ≤ _
      rw [← len_tl]
      simp
    | cons x r =>
      show (tl w ++ ([44, 32] ++ joinL [44, 32] ((x :: r).map tl))).length ≤ _
      rw [List.length_append, List.length_append, ← len_tl]
      simp only [List.map_cons, List.sum_cons, List.length_cons, List.length_nil] at ih ⊢
      omega
theorem line_sum {cs : List (Kd × Nat)} (h : ∀ c ∈ cs, Ct c) : ((cs.map cutT).map (·.length)).sum ≤ 7 * cs.length := by
  have := LM.sum_le (n := 7) (B := cs.map cutT) fun w hw => by
    obtain ⟨c, hc, rfl⟩ := List.mem_map.mp hw
    exact (h c hc).f.l
  rwa [List.length_map] at this
theorem line_len {cs : List (Kd × Nat)} (h : ∀ c ∈ cs, Ct c) : (cline cs).length ≤ 9 * cs.length := by
  have a := joinC_len (cs.map cutT)
  have b := line_sum h
  rw [List.length_map] at a
  unfold cline
  omega
theorem splitC (x : Str) : (parts x).map tl = spl [44, 32] 0 [] (tl x) := by
  have := split_spl x ", " (by rw [tlCm]; simp) (kind_ok (by decide +kernel))
  rwa [tlCm] at this
theorem parts_len (x : Str) : (parts x).length ≤ x.length + 1 := by
  have := LM.spl_len [44, 32] 0 [] (tl x)
  rw [← splitC, List.length_map, ← len_tl] at this
  exact this
theorem parts_word {x w : Str} (h : w ∈ parts x) : w.length ≤ x.length := by
  have := LM.spl_word [44, 32] 0 [] (tl x) (tl w) (by rw [← splitC]; exact List.mem_map.mpr ⟨w, h, rfl⟩)
  rw [← len_tl, ← len_tl] at this
  simpa using this
/-- plain signs -/
theorem asc_joinC {B : List Str} (h : ∀ w ∈ B, LM.Asc w) : LM.Asc (Txt.join ", " B) := by
  rw [LM.asc_iff, join_eq, tl_join, tlCm]
  intro c hc
  rcases LM.joinL_mem hc with h1 | ⟨p, hp, h1⟩
  · have : c = 44 ∨ c = 32 := by simpa using h1
    omega
  · obtain ⟨w, hw, rfl⟩ := List.mem_map.mp hp
    exact LM.asc_iff.mp (h w hw) c h1
theorem line_asc {cs : List (Kd × Nat)} (h : ∀ c ∈ cs, Ct c) : LM.Asc (cline cs) := asc_joinC fun w hw => by
  obtain ⟨c, hc, rfl⟩ := List.mem_map.mp hw
  exact (h c hc).f.a
theorem line_inj {a b : List (Kd × Nat)} (na : a ≠ []) (nb : b ≠ []) (ha : ∀ c ∈ a, Ct c) (hb : ∀ c ∈ b, Ct c) (e : cline a = cline b) : a = b := by
  rw [← line_cutters na ha, e, line_cutters nb hb]
end CH

/-! a dict of the module with text keys: what it has not -/
namespace CD
open PySem L2
theorem no_key {P : Params} {z : Str} : ∀ {l : List DictEntry} {ks : List Str}, l.map He.keyOf = He.keysIn P ks → z ∉ ks → l.find? (·.key.isStr z) = none ∧ l.any (·.refKey) = false
  | [], _, _, _ => ⟨rfl, rfl⟩
  | e :: r, [], h, _ => by cases h
  | e :: r, k :: ks, h, hz => by
    have h1 : He.keyOf e :: r.map He.keyOf = some (k, PyData.keyHash P k) :: He.keysIn P ks := h
    injection h1 with h2 h3
    obtain ⟨a, b⟩ := no_key (z := z) h3 fun q => hz (List.mem_cons_of_mem _ q)
    unfold He.keyOf at h2
    split at h2
    · rename_i x t q
      obtain ⟨h5, h6⟩ := Prod.mk.inj (Option.some.inj h2)
      have ne : x ≠ z := fun q => hz (by rw [← q, h5]; exact List.mem_cons_self ..)
      have e1 : e.key.isStr z = false := by
        rw [q, PySem.W.isStr_of]
        show (x == z) = false
        exact beq_eq_false_iff_ne.mpr ne
      have e2 : e.refKey = false := by
        unfold PySem.DictEntry.refKey
        rw [q]
      rw [List.find?_cons, e1, List.any_cons, e2]
      exact ⟨a, by rw [b]; rfl⟩
    · cases h2
theorem dic_no {K : PySem.W.Frag} {P : Params} {a : Addr} {ks : List Str} (h : He.dicW K a = some (He.keysIn P ks)) {z : Str} (hz : z ∉ ks) : PySem.W.nsIn K a z = some none := by
  unfold He.dicW at h
  unfold PySem.W.nsIn
  cases q : K.lookup a with
  | none => rw [q] at h; cases h
  | some o =>
    obtain ⟨oc, od, dt, osl⟩ := o
    rw [q] at h
    cases oc with
    | type c =>
      cases od with
      | none =>
        cases dt with
        | dict es n =>
          have h1 : (match decide (c = "dict") && (osl.isEmpty && !(a == sysModules)) with
              | true => some (es.toList.map He.keyOf)
              | false => none) = some (He.keysIn P ks) := h
          split at h1
          · obtain ⟨e1, e2⟩ := no_key (Option.some.inj h1) hz
            show (match es.toList.find? (·.key.isStr z) with
              | some e => some (some e.val)
              | none => if es.toList.any (·.refKey) then none else some none) = _
            rw [e1, e2]
            rfl
          · cases h1
        | _ => cases h
      | some _ => cases h
    | _ => cases h
end CD

/-! chains: their texts and their making -/
namespace My
open PySem L2 Cm LM CH
abbrev sCO : Stmt := top 21
abbrev sAI : Stmt := inClass (top 24) 0
structure TxA (w : World) (K : PySem.W.Frag) (mg : Str → Option Value) where
  E : TxE K mg
  len : mg "len" = none
  str : mg "str" = none
  int : mg "int" = none
  range : mg "range" = none
  tuple : mg "tuple" = none
  isi : mg "isinstance" = none
  mw : ∃ t, mg "MOST_WIDTH" = some (.int 12 t)
  mc : ∃ t, mg "MOST_CUTTERS" = some (.int 6 t)
  dC : Addr
  gD : mg "CUTTERS" = some (.ref dC)
  dw : He.dicW K dC = some (He.keysIn w.params kds)
  fk : Kd → Addr
  nk : ∀ k, PySem.W.nsIn K dC (kdS k) = some (some (.ref (fk k)))
  co : Df K mg "cutter_of" sCO ["text"]
  C : Addr
  gC : mg "Chain" = some (.ref C)
  cl : Cls K C
  nT : NoAttr K C "text"
  nC : NoAttr K C "cutters"
  fI : Addr
  fdI : FuncData
  FI : Fun K "__init__" "Chain.__init__" sAI fI fdI
  bI : Binds K fdI ["self", "text"] []
  MI : Mk K C fI
/-- what cutter_of hands back -/
def CutV (H : Hp) (v : V) : Option (Kd × Nat) → Prop
  | none => v = .non
  | some c => ∃ p, v = .ref p ∧ H p = some (.tup [.str (kdS c.1), .int c.2])
theorem CutV.mono {H H' : Hp} (f : ∀ (p : Addr) (xs : List V), H p = some (.tup xs) → H' p = some (.tup xs)) {v : V} : ∀ {o}, CutV H v o → CutV H' v o
  | none, h => h
  | some _, ⟨p, e, h⟩ => ⟨p, e, f _ _ h⟩
inductive CutVs (H : Hp) : List V → List (Option (Kd × Nat)) → Prop
  | nil : CutVs H [] []
  | cons {v : V} {o : Option (Kd × Nat)} {vs : List V} {os : List (Option (Kd × Nat))} (h : CutV H v o) (t : CutVs H vs os) : CutVs H (v :: vs) (o :: os)
theorem CutVs.mono {H H' : Hp} (f : ∀ (p : Addr) (xs : List V), H p = some (.tup xs) → H' p = some (.tup xs)) : ∀ {vs os}, CutVs H vs os → CutVs H' vs os
  | _, _, .nil => .nil
  | _, _, .cons h t => .cons (h.mono f) (t.mono f)
theorem CutVs.snoc {H : Hp} {v : V} {o : Option (Kd × Nat)} (h : CutV H v o) : ∀ {vs os}, CutVs H vs os → CutVs H (vs ++ [v]) (os ++ [o])
  | _, _, .nil => .cons h .nil
  | _, _, .cons a t => .cons a (t.snoc h)
theorem CutVs.len {H : Hp} : ∀ {vs os}, CutVs H vs os → vs.length = os.length
  | _, _, .nil => rfl
  | _, _, .cons _ t => congrArg (· + 1) t.len
/-- rows of cutters -/
inductive Cuts (H : Hp) : List V → List (Kd × Nat) → Prop
  | nil : Cuts H [] []
  | cons {p : Addr} {c : Kd × Nat} {vs : List V} {cs : List (Kd × Nat)} (h : H p = some (.tup [.str (kdS c.1), .int c.2])) (t : Cuts H vs cs) : Cuts H (.ref p :: vs) (c :: cs)
theorem Cuts.mono {H H' : Hp} (f : ∀ (p : Addr) (xs : List V), H p = some (.tup xs) → H' p = some (.tup xs)) : ∀ {vs os}, Cuts H vs os → Cuts H' vs os
  | _, _, .nil => .nil
  | _, _, .cons h t => .cons (f _ _ h) (t.mono f)
theorem Cuts.same {H H' : Hp} (s : Same H H') {vs os} (h : Cuts H vs os) : Cuts H' vs os := h.mono fun _ _ q => s _ _ q
theorem Cuts.snoc {H : Hp} {p : Addr} {c : Kd × Nat} (h : H p = some (.tup [.str (kdS c.1), .int c.2])) : ∀ {vs os}, Cuts H vs os → Cuts H (vs ++ [.ref p]) (os ++ [c])
  | _, _, .nil => .cons h .nil
  | _, _, .cons a t => .cons a (t.snoc h)
theorem Cuts.len {H : Hp} : ∀ {vs os}, Cuts H vs os → vs.length = os.length
  | _, _, .nil => rfl
  | _, _, .cons _ t => congrArg (· + 1) t.len
theorem Cuts.get {H : Hp} : ∀ {xs os} {i : Nat} {y : V}, Cuts H xs os → xs[i]? = some y → ∃ (q : Addr) (o : Kd × Nat), os[i]? = some o ∧ y = .ref q ∧ H q = some (.tup [.str (kdS o.1), .int o.2])
  | _, _, i, y, .nil, h => by simp at h
  | _, _, 0, y, .cons h _, e => ⟨_, _, rfl, (Option.some.inj e).symm, h⟩
  | _, _, i + 1, y, .cons _ t, e => t.get (i := i) e
theorem CutVs.all {H : Hp} : ∀ {vs : List V} {ps : List Str}, CutVs H vs (ps.map cutterOf) → (ps.all fun p => (cutterOf p).isSome) = true → Cuts H vs (ps.filterMap cutterOf)
  | [], [], _, _ => .nil
  | v :: vs, p :: ps, h, q => by
    cases h with
    | cons h1 h2 =>
      rw [List.all_cons, Bool.and_eq_true] at q
      obtain ⟨c, hc⟩ := Option.isSome_iff_exists.mp q.1
      rw [hc] at h1
      obtain ⟨a, rfl, ha⟩ := h1
      rw [List.filterMap_cons, hc]
      exact .cons ha (h2.all q.2)
/-- as data -/
def dOf : Option (Kd × Nat) → PyData
  | none => .none
  | some c => .tuple [.str (kdS c.1), .int c.2]
theorem CutVs.dp {K : PySem.W.Frag} {H : Hp} : ∀ {vs os}, CutVs H vs os → DpAll K H vs (os.map dOf)
  | _, _, .nil => .nil
  | _, _, .cons (o := none) h t => by
    cases (show _ = V.non from h)
    exact .cons .non t.dp
  | _, _, .cons (o := some c) h t => by
    obtain ⟨p, rfl, hp⟩ := h
    exact .cons (.tup (SqT.of hp) (.cons (.str _) (.cons (.int _) .nil))) t.dp
theorem kd_ok (k : Kd) : PyData.strOk (kdS k) = true := by cases k <;> decide +kernel
theorem dOf_lay : ∀ os : List (Option (Kd × Nat)), PyData.canLayAll0 (os.map dOf) = true ∧ PyData.depthAll (os.map dOf) ≤ 1
  | [] => ⟨by simp [PyData.canLayAll0], by simp [PyData.depthAll]⟩
  | none :: r => by
    obtain ⟨a, b⟩ := dOf_lay r
    rw [List.map_cons]
    refine ⟨?_, ?_⟩
    · rw [PyData.canLayAll0, a]; simp [dOf, PyData.canLay0]
    · rw [PyData.depthAll]; simp [dOf, PyData.depth]; exact b
  | some c :: r => by
    obtain ⟨a, b⟩ := dOf_lay r
    rw [List.map_cons]
    refine ⟨?_, ?_⟩
    · rw [PyData.canLayAll0, a]; simp [dOf, PyData.canLay0, PyData.canLayAll0, kd_ok]
    · rw [PyData.depthAll]; simp [dOf, PyData.depth, PyData.depthAll]; omega
theorem dOf_shaped (os : List (Option (Kd × Nat))) : SeqAt.shaped (.list (os.map dOf)) = true := by
  obtain ⟨a, b⟩ := dOf_lay os
  unfold SeqAt.shaped
  rw [Bool.and_eq_true]
  refine ⟨by rw [PyData.canLay0]; exact a, decide_eq_true ?_⟩
  rw [PyData.depth]
  omega
theorem dOf_any (os : List (Option (Kd × Nat))) : ((os.map dOf).any fun z => PyData.eqv z .none) = os.any (·.isNone) := by
  rw [List.any_map]
  congr 1
  funext o
  cases o with
  | none => simp [dOf, PyData.eqv]
  | some c => simp [dOf, PyData.eqv]
section
variable {P : Program} {w : World} {K : PySem.W.Frag} {mg : Str → Option Value} {base : Heap}
theorem room65 {k : Nat} {A : Around} (r : Room k A) : A.units + 65 < cLine := by have := r.un; omega
theorem kd_in (T : TxA w K mg) (z : Str) : ∃ r, PySem.W.nsIn K T.dC z = some r ∧ r.isSome = (kdOf z).isSome := by
  cases h : kdOf z with
  | none => exact ⟨none, CD.dic_no T.dw (kdOf_none h), rfl⟩
  | some k => exact ⟨_, by rw [kdOf_some h]; exact T.nk k, rfl⟩
/-! ### cutter_of -/
def spCO : Sp := fun vs H Q _ => ∃ t : Str, vs = [.str t] ∧ Bd t ∧ ∀ (H' : Hp) (v : V), Same H H' → CutV H' v (cutterOf t) → Q v H'
theorem scCO : FnScope ["text", "word", "space", "digits", "widths", "width"] ["text"] (defScope sCO) := ⟨rfl, rfl, rfl, by decide +kernel, rfl, by decide +kernel, by decide +kernel⟩
def teW : TE := tCB (fun xs H Q => ∃ i, xs = [.int i] ∧ i.natAbs.log2 < 1920 ∧ Q (.str (toString i)) H) (tCons (tVar 5) tNil)
theorem int_nS {n : Nat} (h1 : 1 ≤ n) (h2 : n ≤ 12) : PySem.intText? (nS n) = some (n : Int) := by
  have : ∀ i ∈ List.range 13, PySem.intText? (nS i) = some (i : Int) := by decide +kernel
  exact this n (List.mem_range.mpr (by omega))
theorem ok_co (T : TxA w K mg) : FnOk P w K mg base CX0 1 T.co.f T.co.fd ["text"] spCO := by
  obtain ⟨tw, mw⟩ := T.mw
  obtain ⟨es, n, D⟩ := He.dicW_ok T.dw
  refine T.co.F.ok scCO (fun vs H Q E h => ?_) (fun cdv A outer s H vs Q E hr h => ?_)
  · obtain ⟨t, rfl, _⟩ := h
    rfl
  · obtain ⟨t, rfl, bd, k⟩ := h
    refine ⟨_, pss_cons (ps_asg (pe_partition (pv 0) pe_str) (pg_tup rfl (pgs_cons (pg_name (i := 1) scCO.nd rfl (.inl rfl)) (pgs_cons (pg_name (i := 2) scCO.nd rfl (.inl rfl)) (pgs_cons (pg_name (i := 3) scCO.nd rfl (.inl rfl)) pgs_nil)))))
      (pss_cons (ps_setLc (i := 4) (own := [("width", 5)]) (g := gName 5) (tt := tYes) (te := teW) rfl scCO.nd rfl rfl (sw_true rfl rfl rfl (by decide +kernel)) (pi_range2 rfl T.range (pa_cons pe_int (pa_cons (pe_op op_add (pe_glob (v := .int 12) rfl mw ⟨_, rfl⟩) pe_int) pa_nil))) (blkOk_by (own := [("width", 5)]) (N := ["text", "word", "space", "digits", "widths", "width"]) (sc := defScope sCO) (by decide +kernel)) (fun _ _ _ _ _ => pg_name (i := 5) scCO.nd rfl (Or.inl rfl))
          (fun _ _ _ _ _ => pts_nil) (fun _ _ _ _ _ => pe_callTy call_str_int (by rfl) T.str (by decide +kernel) (pa_cons (pv 5) pa_nil)))
      (pss_one (ps_ret (pe_ifExp (PW.pt (pw_and (pt_cmpR (op_in_kd D) (pv 1) (pe_glob (v := .ref T.dC) rfl T.gD rfl) (by rfl)) (pw_and1 (pt_cmpR op_in_seq (pv 3) (pv 4) (by rfl)))))
          (pe_tup (pa_cons (pv 1) (pa_cons (pe_callTy call_int_str (by rfl) T.int (by decide +kernel) (pa_cons (pv 3) pa_nil)) pa_nil))) pe_non)))), ?_⟩
    refine ⟨_, rfl, ⟨_, rfl⟩, t, " ", rfl, rfl, by decide +kernel, bd.line, fun q nq => ?_⟩
    refine ⟨q, _, rfl, SqT.of upd_same, rfl, _, _, rfl, _, _, rfl, _, _, rfl, rfl, ?_⟩
    have s1 : Same H (upd H q (.tup [.str (Txt.partition t " ").1, .str (Txt.partition t " ").2.1, .str (Txt.partition t " ").2.2])) := same_new nq
    generalize upd H q (.tup [.str (Txt.partition t " ").1, .str (Txt.partition t " ").2.1, .str (Txt.partition t " ").2.2]) = H1 at s1 ⊢
    refine ⟨_, _, rfl, rfl, 1, 13, rfl, by decide, fun Dd nD => lc_range (lo := 1) (n := 12) (fun i H' => Same H1 H' ∧ H' Dd = some (.lst (svs ((List.range i).map fun i => nS (i + 1))))) ⟨same_new nD, upd_same⟩ ?_ ?_⟩
    · rintro i H' hi ⟨s', hD⟩
      refine ⟨rfl, _, rfl, _, rfl, ?_, _, hD, ?_, ?_⟩
      · have : ((1 : Int) + (i : Int)).natAbs = 1 + i := by omega
        rw [this]
        exact Nat.lt_of_le_of_lt (Nat.log2_le_self _) (by omega)
      · rw [show (svs ((List.range i).map fun i => nS (i + 1))).length = i by simp [svs]]
        exact szM (by omega)
      · refine ⟨fun b o q => ?_, ?_⟩
        · rw [upd_ne (ne_of_none q nD)]
          exact s' _ _ q
        · rw [upd_same, List.range_succ, List.map_append]
          have e : (1 : Int) + (i : Int) = ((i + 1 : Nat) : Int) := by omega
          rw [e]
          simp [svs, nS]
    · rintro H2 ⟨s2, hD⟩
      have hD : H2 Dd = some (.lst (svs widths)) := hD
      obtain ⟨r, hr1, hr2⟩ := kd_in T (Txt.partition t " ").1
      refine ⟨_, rfl, _, _, rfl, rfl, hr1, _, rfl, ?_⟩
      rw [hr2]
      have k := k
      unfold cutterOf at k
      cases h1 : kdOf (Txt.partition t " ").1 with
      | none =>
        rw [h1] at k
        refine iteF (iteF ?_)
        exact k H2 .non (Same.trans s1 s2) rfl
      | some kk =>
        rw [h1] at k
        refine iteT ?_
        refine ⟨_, rfl, _, rfl, Dd, _, rfl, .inl (SqL.of hD), rfl, svs_flat _, _, rfl, ?_⟩
        show if (inV _ (svs widths)) = true then _ else _
        rw [inV_svs, numOf_mem]
        cases h2 : numOf (Txt.partition t " ").2.2 with
        | none =>
          rw [h2] at k
          exact iteF (k H2 .non (Same.trans s1 s2) rfl)
        | some m =>
          rw [h2] at k
          obtain ⟨e, m1, m2⟩ := numOf_some h2
          have e0 := kdOf_some h1
          refine iteT ⟨_, rfl, _, rfl, _, (m : Int), rfl, by rw [e]; exact int_nS m1 m2, by rw [e]; exact Nat.le_trans (nS_len m2) (by decide), (by show 2 ≤ sizeLine; decide), fun p np => ?_⟩
          exact k _ (.ref p) (Same.trans (Same.trans s1 s2) (same_new np)) ⟨p, rfl, by rw [upd_same, e0]⟩
/-! ### chains as objects -/
def cf (t : Str) (p : Addr) : List (Str × V) := [("text", .str t), ("cutters", .ref p)]
theorem cf_text (t : Str) (p : Addr) : (cf t p).lookup ("text" : Str) = some (.str t) := by kernel_rfl
theorem cf_cut (t : Str) (p : Addr) : (cf t p).lookup ("cutters" : Str) = some (.ref p) := by kernel_rfl
theorem cf_no (t : Str) (p : Addr) {m : Str} (h1 : ¬ m = "text") (h2 : ¬ m = "cutters") : (cf t p).lookup m = none := by
  unfold cf
  rw [List.lookup_cons, beq_eq_false_iff_ne.mpr h1, List.lookup_cons, beq_eq_false_iff_ne.mpr h2]
  rfl
theorem cf_mk (t : Str) (p : Addr) : putF "cutters" (.ref p) (putF "text" (.str t) []) = cf t p := by kernel_rfl
/-- a chain of this text stands at o -/
def ChainAt (C : Addr) (H : Hp) (o : Addr) (t : Str) : Prop := ∃ dx p vs, H o = some (.ins C dx (cf t p)) ∧ H p = some (.tup vs) ∧ Cuts H vs (cuttersOf t)
theorem ChainAt.same {C : Addr} {H H' : Hp} {o : Addr} {t : Str} (s : Same H H') (h : ChainAt C H o t) : ChainAt C H' o t := let ⟨dx, p, vs, a, b, c⟩ := h; ⟨dx, p, vs, s _ _ a, s _ _ b, c.same s⟩
theorem ChainAt.off {C j : Addr} {H H' : Hp} {o : Addr} {t : Str} (s : Off j H H') (hj : Jar H j) (h : ChainAt C H o t) : ChainAt C H' o t := by
  obtain ⟨x, y, z, hj⟩ := hj
  have f : ∀ (p : Addr) (xs : List V), H p = some (.tup xs) → H' p = some (.tup xs) := fun p xs e => s _ _ (ne_of e hj (by intro z; cases z)) e
  obtain ⟨dx, p, vs, a, b, c⟩ := h
  exact ⟨dx, p, vs, s _ _ (ne_of a hj (by intro z; cases z)) a, f _ _ b, c.mono f⟩
def goodCV : V → Bool
  | .str t => goodC t
  | _ => false
def BdS : V → Prop
  | .str t => Bd t
  | _ => True
def spAI (K : PySem.W.Frag) (C CE : Addr) : Sp := fun vs H Q E => ∃ (x dx : Addr) (v : V), vs = [.ref x, v] ∧ H x = some (.ins C dx []) ∧ Typed K H v ∧ BdS v ∧
  (∀ t, v = .str t → goodC t = true → ∀ H' : Hp, Off x H H' → ChainAt C H' x t → Q .non H') ∧
  (goodCV v = false → ∀ (H' : Hp) (d : Addr), Same H H' → H' d = none → E (.ref CE) (some d) (upd H' d (.xd [("value", v)])))
theorem scAI : FnScope ["self", "text", "cutters", "part"] ["self", "text"] (defScope sAI) := ⟨rfl, rfl, rfl, by decide +kernel, rfl, by decide +kernel, by decide +kernel⟩
theorem any_none (ps : List Str) : (ps.map cutterOf).any (·.isNone) = !(ps.all fun p => (cutterOf p).isSome) := by
  induction ps with
  | nil => rfl
  | cons p r ih =>
    rw [List.map_cons, List.any_cons, List.all_cons, ih]
    cases cutterOf p <;> rfl
theorem ok_ai (T : TxA w K mg) : FnOk P w K mg base (L2.CX P w) 3 T.fI T.fdI ["self", "text"] (spAI K T.C T.E.C) := by
  obtain ⟨tc, mc⟩ := T.mc
  have GC : FnOk P w K mg base CX0 1 T.co.f T.co.fd ["text"] spCO := ok_co T
  have GE : FnOk P w K mg base CX0 1 T.E.f T.E.fd ["self", "value"] (spEI T.E.C) := ok_ei T.E
  refine T.FI.okX scAI (fun vs H Q E h => ?_) (fun cdv A outer s H vs Q E hr h => ?_)
  · obtain ⟨x, dx, v, rfl, _⟩ := h
    rfl
  · obtain ⟨x, dx, v, rfl, hx, ⟨t, ty, kt⟩, bd, kg, kb⟩ := h
    have hr1 : Room 1 _ := hr.mono (by decide)
    refine ⟨_, pss_cons (ps_if (pt_not (pt_val (pe_callB call_isi (by rfl) T.isi (by decide +kernel) (pa_cons (pv 1) (pa_cons (pe_bltn (v := .ty "str") (by rfl) T.str (by decide +kernel) rfl) pa_nil))))) (pss_one (ps_raise rfl (takes_of rfl rfl rfl rfl) (pmk_oex T.E.o T.E.i T.E.t GE hr T.E.b .nil pass0 rfl T.E.g (pa_cons (pv 1) pa_nil)))) pss_nil)
      (pss_cons (ps_setLc (i := 2) (own := [("part", 3)]) (g := gName 3) (tt := tYes) (te := tCall spCO [] E0 (tCons (tVar 3) tNil)) rfl scAI.nd rfl rfl (sw_true rfl rfl rfl (by decide +kernel)) (pi_list (pe_split (pv 1) pe_str)) (blkOk_by (own := [("part", 3)]) (N := ["self", "text", "cutters", "part"]) (sc := defScope sAI) (by decide +kernel)) (fun _ _ _ _ _ => pg_name (i := 3) scAI.nd rfl (Or.inl rfl))
          (fun _ _ _ _ _ => pts_nil) (fun _ _ _ _ _ => by exact pe_call GC hr1 rfl T.co.g T.co.k T.co.b .nil pass0 (pa_cons (pv 3) pa_nil)))
      (pss_cons (ps_if (PW.pt (pw_or (pt_cmpR (op_inD (room65 hr)) pe_non (pv 2) (by rfl)) (pw_or1 (pt_cmpR op_gt (pe_callB call_len_seq (by rfl) T.len PySem.boot_len (pa_cons (pv 2) pa_nil)) (pe_glob (v := .int 6) rfl mc ⟨_, rfl⟩) (nomark _)))))
          (pss_one (ps_raise rfl (takes_of rfl rfl rfl rfl) (pmk_oex T.E.o T.E.i T.E.t GE hr T.E.b .nil pass0 rfl T.E.g (pa_cons (pv 1) pa_nil)))) pss_nil)
      (pss_cons (ps_fld (pv 0) (pv 1) rfl)
      (pss_one (ps_fld (pv 0) (pe_callTy call_tuple_of (by rfl) T.tuple (by decide +kernel) (pa_cons (pv 2) pa_nil)) rfl))))), ?_⟩
    refine ⟨_, rfl, _, _, _, _, isS v, rfl, .ty "str", ty, kt, _, rfl, ?_⟩
    cases hs : isS v with
    | false =>
      refine iteT ?_
      have gv : goodCV v = false := by
        cases v <;> first | rfl | cases hs
      exact mk_err (x := v) ⟨v, rfl, rfl, rfl⟩ (fun {R R'} ⟨v, e1, q⟩ f => ⟨v, e1, f _ _ q⟩) (kb gv H · (Same.refl _))
    | true =>
      obtain ⟨t, rfl⟩ : ∃ t, v = .str t := by
        cases v <;> first | exact ⟨_, rfl⟩ | cases hs
      have bd : Bd t := bd
      have kg := kg t rfl
      refine iteF ?_
      refine ⟨_, rfl, ⟨_, rfl⟩, t, ", ", rfl, rfl, by decide +kernel, bd.line2, fun l nl => ?_⟩
      have s1 : Same H (upd H l (.lst ((Txt.split t ", ").map V.str))) := same_new nl
      have hl1 : (upd H l (.lst ((Txt.split t ", ").map V.str))) l = some (.lst (svs (parts t))) := upd_same
      generalize upd H l (.lst ((Txt.split t ", ").map V.str)) = H1 at s1 hl1 ⊢
      refine ⟨l, rfl, ⟨_, SqL.of hl1⟩, fun Dd nD => lc_list (K := K) (a := l) (xs := svs (parts t)) (fun i H' => Same H1 H' ∧ ∃ acc, H' Dd = some (.lst acc) ∧ CutVs H' acc (((parts t).take i).map cutterOf)) ⟨same_new nD, [], upd_same, .nil⟩ (fun i H' _ ⟨s', _⟩ => SqL.of (s' _ _ hl1)) ?_ ?_⟩
      · rintro i y H' hy ⟨s', acc, hD, hP⟩
        obtain ⟨z, hz, rfl⟩ := svs_get hy
        refine ⟨rfl, _, rfl, z, rfl, Nat.le_trans (parts_word (List.mem_of_getElem? hz)) bd, fun H2 v s2 hv => ?_⟩
        have hD2 := s2 _ _ hD
        have st := tup_stays (o' := .lst (acc ++ [v])) hD2 (by intro xs z; cases z)
        have la := hP.len
        rw [List.length_map, List.length_take] at la
        have lp := parts_len t
        unfold Bd at bd
        refine ⟨acc, hD2, szM (by omega), fun b o q => ?_, _, upd_same, ?_⟩
        · rw [upd_ne (ne_of_none q nD)]
          exact s2 _ _ (s' _ _ q)
        · rw [take_snoc hz, List.map_append]
          exact CutVs.snoc (hv.mono st) ((hP.mono fun _ _ q => s2 _ _ q).mono st)
      · rintro H2 ⟨s2, acc, hD, hP⟩
        have e : (svs (parts t)).length = (parts t).length := List.length_map ..
        rw [e, List.take_length] at hP
        have s02 := Same.trans s1 s2
        have la := hP.len
        rw [List.length_map] at la
        refine ⟨_, rfl, .none, (((parts t).map cutterOf).map dOf), .non, .lst (SqL.of hD) hP.dp, by decide +kernel, dOf_shaped _, _, rfl, ?_⟩
        rw [dOf_any, any_none]
        have gt : goodCV (.str t) = goodC t := rfl
        have gt2 : goodC t = ((parts t).all (fun p => (cutterOf p).isSome) && decide ((parts t).length ≤ 6)) := rfl
        cases h1 : (parts t).all (fun p => (cutterOf p).isSome) with
        | false =>
          rw [gt, gt2, h1] at kb
          refine iteT (iteT ?_)
          exact mk_err (x := .str t) ⟨.str t, rfl, rfl, rfl⟩ (fun {R R'} ⟨v, e1, q⟩ f => ⟨v, e1, f _ _ q⟩) (kb rfl H2 · s02)
        | true =>
          refine iteF ?_
          refine ⟨_, rfl, Dd, _, rfl, .inl (SqL.of hD), _, _, rfl, rfl, _, rfl, ?_⟩
          rw [la]
          by_cases h2 : (parts t).length ≤ 6
          · rw [decide_eq_false (show ¬ ((6 : Int) < ((parts t).length : Int)) by omega)]
            have kg := kg (by rw [gt2, h1, decide_eq_true h2]; rfl)
            refine iteF ?_
            have hx2 := s02 _ _ hx
            refine ⟨_, rfl, _, rfl, x, T.C, dx, _, rfl, hx2, T.cl, T.nT, (by show 0 < 1000; decide), ?_⟩
            have xD : Dd ≠ x := fun q => by rw [q, hx2] at hD; cases hD
            refine ⟨_, rfl, Dd, acc, rfl, .inl ⟨SqL.of (by rw [upd_ne xD]; exact hD), fun q nq => ?_⟩⟩
            have qx : q ≠ x := fun z => by rw [z, upd_same] at nq; cases nq
            refine ⟨_, rfl, x, T.C, dx, _, rfl, (by rw [upd_ne qx.symm]; exact upd_same), T.cl, T.nC, Nat.lt_of_le_of_lt (putF_len _ _ _) (by decide), ?_⟩
            rw [cf_mk]
            have st1 := tup_stays (o' := .ins T.C dx (putF "text" (.str t) [])) hx2 (by intro xs z; cases z)
            have st2 : ∀ (p : Addr) (xs : List V), H2 p = some (.tup xs) → (upd (upd (upd H2 x (.ins T.C dx (putF "text" (.str t) []))) q (.tup acc)) x (.ins T.C dx (cf t q))) p = some (.tup xs) := fun p xs z =>
              tup_stays (o := .ins T.C dx (putF "text" (.str t) [])) (by rw [upd_ne qx.symm]; exact upd_same) (by intro xs z; cases z) _ _ (same_new nq _ _ (st1 _ _ z))
            have o2 : Off x H H2 := Same.off s02
            refine kg _ (Off.put (Off.trans (o2.put) (Same.off (same_new nq)))) ⟨dx, q, acc, upd_same, by rw [upd_ne qx]; exact upd_same, (hP.all h1).mono st2⟩
          · rw [decide_eq_true (show ((6 : Int) < ((parts t).length : Int)) by omega)]
            rw [gt, gt2, h1, decide_eq_false h2] at kb
            refine iteT ?_
            exact mk_err (x := .str t) ⟨.str t, rfl, rfl, rfl⟩ (fun {R R'} ⟨v, e1, q⟩ f => ⟨v, e1, f _ _ q⟩) (kb rfl H2 · s02)
end
end My

/-! sum of a tuple of ints, a tuple times any count, xs += ys of lists -/
namespace RwR
open PySem PySem.Spec PyProof.Rows L2 Cm
section
variable {prog : Program} {w : World} {A : Around} {E : Value → Shared → Prop} {s : Shared} {l : Addr} {xs : Array (Int × Tok)}
theorem sum_intTupG {Q : Value → Shared → Prop} (hh : A.handled = none) (hl : s.heap.IsTuple l (intItems xs))
    (h : ∀ h' tk t', (∀ b o, s.heap.get? b = some o → h'.get? b = some o) → Q (.int (preSum (numAt xs) xs.size) t') { s with heap := h', toks := tk }) :
    wpAny (model prog w) A (call (.builtin "sum") [.ref l]) Q E s := by
  have hlt : l < s.heap.objs.size := by obtain ⟨_, e, _⟩ := hl; exact Heap.lt_size e
  refine call_sum_walkG (wpAny_pyIter_tuple hl ?_)
  refine ⟨_, [_, l], [_], _, _, _, numAt xs, rfl, Walks.tuple (A := A.in1) hh _ l (Nat.ne_of_lt hlt) (intItems xs), ⟨⟨_, Heap.get?_push_size _ rfl, rfl, rfl⟩, hl.push _⟩, fun c hc => ?_, (fun _ _ => intItems_at), fun h' tk t' hk => ?_⟩
  · show c < (s.heap.push _).objs.size
    rw [Heap.size_push]
    rcases List.mem_cons.mp hc with rfl | hc
    · exact Nat.lt_succ_self _
    · rcases List.mem_cons.mp hc with rfl | hc
      · exact Nat.lt_succ_of_lt hlt
      · cases hc
  · have hold : ∀ b o, s.heap.get? b = some o → h'.get? b = some o := fun b o e => by
      refine hk b o (fun hm => ?_) (Heap.get?_push_of_some _ e)
      rcases List.mem_cons.mp hm with e1 | hm
      · exact absurd (e1 ▸ Heap.lt_size e) (Nat.lt_irrefl _)
      · cases hm
    have := h h' tk t' hold
    simpa [intItems] using this
end
section
variable {X : Cx}
/-- sum(t) -/
def rSumT (K : PySem.W.Frag) : List V → Hp → VK → Prop := fun vs H Q => ∃ (a : Addr) (ns : List Int), vs = [V.ref a] ∧ SqT K H a (ns.map V.int) ∧ Q (.int ns.sum) H
theorem cr_sumT (hc : X.calm = true) : CallR X (.builtin "sum") (rSumT X.K) := by
  intro pins s σ H vs us Q I r h
  obtain ⟨a, ns, rfl, hs, q⟩ := h
  obtain ⟨its, rv, hl, _⟩ := I.tuple hs
  rw [Vals.ref1 r]
  have hi := rv.ints
  obtain ⟨xs, e⟩ := hi.allInts.items
  have hn : numsOf (intItems xs).toList = ns := by rw [← e]; exact hi.numsOf
  rw [nums_intItems] at hn
  rw [e] at hl
  refine sum_intTupG (I.ok.hd hc) hl fun h' tk t' hk => ?_
  rw [preSum_eq, List.take_of_length_le (by simp), hn]
  exact ⟨.int _, H, I.kept hk, ⟨_, rfl⟩, q⟩
/-- xs += ys -/
def rIadd : V → V → Hp → VK → Prop := fun x y H Q => ∃ l b xs zs, x = .ref l ∧ y = .ref b ∧ H l = some (.lst xs) ∧ H b = some (.lst zs) ∧ xs.length + zs.length ≤ sizeLine ∧ Q (.ref l) (upd H l (.lst (xs ++ zs)))
theorem ip_iadd : PIp X .Add rIadd := by
  intro pins s σ H x y v u Q I rx ry h
  obtain ⟨l, b, xs, zs, rfl, rfl, hH, hB, hz, q⟩ := h
  cases rx
  cases ry
  obtain ⟨z, its, n, r, hl, e⟩ := I.lstM hH
  obtain ⟨z2, its2, n2, r2, hl2, e2⟩ := I.lstM hB
  have hsz : its.toArray.size + its2.toArray.size ≤ sizeLine := by rw [List.size_toArray, List.size_toArray]; omega
  have hlong : ¬ (!its.toArray.isEmpty && Builtin.List.listTooLong (its.toArray.size + its2.toArray.size)) = true := by
    rw [notLongL hsz, Bool.and_false]
    exact Bool.false_ne_true
  have ta : s.TypeIs (.ref l) "list" := ⟨_, e, rfl⟩
  have tb : s.TypeIs (.ref b) "list" := ⟨_, e2, rfl⟩
  have hseq : isSeqSlot (some (.builtin "list.__iadd__")) = true := by decide +kernel
  have hfi : fillsInplaceSlot (.type "list") "add" (Operator.Add == .Add) = pure false := by
    unfold fillsInplaceSlot
    show (typeLookup (.type "list") (dunderI "add") >>= fun fi => pure (fi.isSome && !isSeqSlot fi)) = pure false
    rw [PySem.F.slot_list_iadd.lookup]
    show (pure (true && !isSeqSlot (some (.builtin "list.__iadd__"))) : Sem Bool) = pure false
    rw [hseq]
    rfl
  unfold inplaceOp
  refine wpAny_holding ?_
  refine wpAny_bind (wpAny_typeOf ta (wpAny_bind (wpAny_of_eq hfi ?_)))
  show wpAny _ _ (if false = true then _ else _) _ _ s
  rw [if_neg Bool.false_ne_true]
  refine wpAny_bind (PyProof.Rows.binaryOp1_none (nm := "add") ta tb PySem.noFill_list_add ?_)
  refine wpAny_bind (wpAny_of_eq (PySem.seqSlot_of (T := "list") (name := dunderI "add") (id := "list.__iadd__") PySem.F.slot_list_iadd.lookup hseq) ?_)
  refine wpAny_bind (wpAny_rule (call_meets PySem.F.slot_list_iadd ta PySem.F.entry_list_iadd (PySem.F.args_list_iadd_2 _ _)
    (AutoSeq1.list___iadd___list_list_0 l its.toArray n b its2.toArray n2 hlong (by rw [List.size_toArray]; omega) (by omega)) ⟨e, e2, ?_⟩))
  refine ⟨.ref l, _, I.lset (its' := its ++ its2) hH e (by simp) (r.append r2) ?_, rfl, q⟩
  rw [List.length_append]
  omega
/-- a tuple times any count -/
theorem tuple_mul_same (l : Addr) (items : Array Value) (n : Nat) (dd : Option Addr) (sl : Array (Option Value)) (x : Int) (u : Tok) (c0 : (decide (x < -(2 ^ 63)) || decide (x ≥ 2 ^ 63)) = false) (c1 : (items.isEmpty || x == 1) = true) :
    Meets (Builtin.«tuple.__mul__» ⟨[.ref l, .int x u], []⟩) (fun _ R s => s.heap.get? l = some { cls := .type "tuple", dict := dd, data := .seq items n, slots := sl } ∧ R (.ok (.ret (Value.ref l))) s) :=
  .of_wp fun prog w A R s h => by
    obtain ⟨hp, g, d, tk, os⟩ := s
    obtain ⟨hl, h⟩ := h
    have f1 := AutoSeq1.idx_int
    wp_walk using wpAny_loadPart' hl
    repeat (first
      | (refine wpAny_ite_false (decide_eq_false (by rw [c0]; exact Bool.false_ne_true)) ?_; wp_walk using wpAny_loadPart' hl)
      | (refine wpAny_ite_true (decide_eq_true c1) ?_; wp_walk using wpAny_loadPart' hl))
    exact ⟨_, rfl, h⟩
theorem tuple_mul_none (l : Addr) (items : Array Value) (n : Nat) (dd : Option Addr) (sl : Array (Option Value)) (x : Int) (u : Tok) (c0 : (decide (x < -(2 ^ 63)) || decide (x ≥ 2 ^ 63)) = false) (c1 : (items.isEmpty || x == 1) = false) (c2 : (decide (x ≤ 0) || items.isEmpty) = true) :
    Meets (Builtin.«tuple.__mul__» ⟨[.ref l, .int x u], []⟩) (fun _ R s => s.heap.get? l = some { cls := .type "tuple", dict := dd, data := .seq items n, slots := sl } ∧
      R (.ok (.ret (Value.ref s.heap.objs.size))) { s with heap := s.heap.push { cls := Value.type "tuple", data := Data.seq #[] }, toks := s.toks }) :=
  .of_wp fun prog w A R s h => by
    obtain ⟨hp, g, d, tk, os⟩ := s
    obtain ⟨hl, h⟩ := h
    have f1 := AutoSeq1.idx_int
    wp_walk using wpAny_loadPart' hl
    repeat (first
      | (refine wpAny_ite_false (decide_eq_false (by rw [c0]; exact Bool.false_ne_true)) ?_; wp_walk using wpAny_loadPart' hl)
      | (refine wpAny_ite_false (decide_eq_false (by rw [c1]; exact Bool.false_ne_true)) ?_; wp_walk using wpAny_loadPart' hl)
      | (refine wpAny_ite_true (decide_eq_true c2) ?_; wp_walk using wpAny_loadPart' hl)
      | (refine wpAny_ite_false (decide_eq_false (by decide)) ?_; wp_walk using wpAny_loadPart' hl))
    exact ⟨_, rfl, h⟩
def rRepN : R2 := fun x y H Q => ∃ (l : Addr) (k : Nat) (xs : List V), x = .ref l ∧ y = .int k ∧ H l = some (.tup xs) ∧ k < 2 ^ 62 ∧ xs.length ≤ 1000 ∧ (xs ≠ [] → k ≤ 1000) ∧ ∀ (H' : Hp) (q : Addr), Same H H' → H' q = some (.tup (List.replicate k xs).flatten) → Q (.ref q) H'
theorem flat_nil : ∀ k, (List.replicate k ([] : List V)).flatten = []
  | 0 => rfl
  | k + 1 => by rw [List.replicate_succ, List.flatten_cons, flat_nil k]; rfl
theorem op_repN : OpR X (binaryOp .Mult) rRepN := by
  intro pins s σ H x y v u Q I rx ry h
  obtain ⟨l, k, xs, rfl, rfl, hT, hk, hx, hl, q⟩ := h
  by_cases hne : xs ≠ [] ∧ 2 ≤ k
  · refine op_repT pins s σ H _ _ v u Q I rx ry ⟨l, k, xs, rfl, rfl, SqT.of hT, hne.1, by omega, by have := hl hne.1; omega, hx, fun p np => ?_⟩
    rw [Int.toNat_natCast]
    exact q _ p (same_new np) upd_same
  cases rx
  obtain ⟨t, rfl⟩ := ry
  obtain ⟨its, r, ⟨⟨cls, dd, data, sl⟩, ho, hc, n, hd⟩, hs⟩ := I.tuple (SqT.of hT)
  simp only at hc hd
  subst hc hd
  have hle : its.length = xs.length := r.length.symm
  have c0 : (decide ((k : Int) < -(2 ^ 63)) || decide ((k : Int) ≥ 2 ^ 63)) = false := by
    rw [decide_eq_false (by omega), decide_eq_false (by omega)]
    rfl
  by_cases hs1 : xs = [] ∨ k = 1
  · have c1 : (its.toArray.isEmpty || (k : Int) == 1) = true := by
      rcases hs1 with e | e
      · have : its = [] := List.eq_nil_of_length_eq_zero (by rw [hle, e]; rfl)
        rw [this]
        rfl
      · rw [e]
        simp
    refine wpAny_binaryOp_repeat_ref (T := "tuple") (U := "int") (by decide) ⟨_, ho, rfl⟩ (fun s' => typeIs_int s' k t) noFill_tuple_mul F.fills_int_mul F.slot_int_rmul repeat_tuple F.slot_int_index.lookup
      (call_meets F.slot_int_rmul (typeIs_int s k t) F.entry_int_rmul (F.args_int_rmul_2 _ _) (int_rmul_tuple k t l its.toArray n dd sl)
        ⟨ho, rfl, ⟨_, ho, rfl⟩, call_meets F.slot_tuple_mul ⟨_, ho, rfl⟩ F.entry_tuple_mul (F.args_tuple_mul_2 _ _) (tuple_mul_same l its.toArray n dd sl k t c0 c1) ⟨ho, ?_⟩⟩)
    refine ⟨.ref l, H, I, rfl, q H l (Same.refl _) ?_⟩
    rw [hT]
    rcases hs1 with e | e
    · rw [e, flat_nil]
    · rw [e]
      simp
  · have hx0 : xs ≠ [] := fun e => hs1 (.inl e)
    have k0 : k = 0 := by
      have : ¬ 2 ≤ k := fun e => hne ⟨hx0, e⟩
      have : k ≠ 1 := fun e => hs1 (.inr e)
      omega
    subst k0
    have hi : its.toArray.isEmpty = false := by
      cases its with
      | nil => exact absurd (List.eq_nil_of_length_eq_zero hle.symm) hx0
      | cons a b => rfl
    refine wpAny_binaryOp_repeat_ref (T := "tuple") (U := "int") (by decide) ⟨_, ho, rfl⟩ (fun s' => typeIs_int s' _ t) noFill_tuple_mul F.fills_int_mul F.slot_int_rmul repeat_tuple F.slot_int_index.lookup
      (call_meets F.slot_int_rmul (typeIs_int s _ t) F.entry_int_rmul (F.args_int_rmul_2 _ _) (int_rmul_tuple _ t l its.toArray n dd sl)
        ⟨ho, rfl, ⟨_, ho, rfl⟩, call_meets F.slot_tuple_mul ⟨_, ho, rfl⟩ F.entry_tuple_mul (F.args_tuple_mul_2 _ _) (tuple_mul_none l its.toArray n dd sl _ t c0 (by rw [hi]; rfl) rfl) ⟨ho, ?_⟩⟩)
    refine ⟨.ref s.heap.objs.size, _, I.laid (t' := s.toks) (o := .tup []) (fun b ob q => Heap.get?_push_of_some _ q) (Nat.le_refl _) ?_, rfl, q _ _ (same_new (I.hok.fresh (Nat.le_refl _))) upd_same⟩
    exact ⟨Nat.zero_le _, [], .nil, IsTup.new _ _⟩
end
end RwR
namespace RwR
open PySem PySem.Spec PyProof.Rows L2
section
variable {X : Cx} {d : Addr} {es : Array DictEntry} {n : Nat}
/-- d[key] of a dict of the module -/
theorem ix_kd (D : KDict X.K X.w d es n) : IxR X (fun x y H Q => ∃ (z : Str) (u0 : Value) (v0 : V), x = .ref d ∧ y = .str z ∧ PySem.W.nsIn X.K d z = some (some u0) ∧ RelV v0 u0 ∧ Q v0 H) := by
  intro value slice pins s σ H x y v u Q I rx ry h hs
  obtain ⟨z, u0, v0, rfl, rfl, e, r, q⟩ := h
  cases rx
  obtain ⟨t, rfl⟩ := ry
  refine tail_any (kd_type D I) PySem.F.slot_dict_getitem.lookup ?_ hs
  exact wpAny_getItem_of (PySem.strKind_is X.prog X.w z t) (PySem.W.mapOf_K (prog := X.prog) I.kIn D.at_ D.lit) (PySem.W.find_K D.at_ e) ⟨v0, H, I.tok _, r, q⟩
end
end RwR
namespace RwR
open PySem PySem.Spec PyProof.Rows L2
/-- a call of a local name that holds one of several defs of one row of parameters -/
def tCallI {ι : Type} (i : Nat) (fs : ι → Addr) (sps : ι → Sp) (E : XK) (t : TA) : TE := fun σ H Q => ∃ a : ι, σ[i]? = some (some (.ref (fs a))) ∧ t σ H fun vs H1 => sps a vs H1 Q E
theorem pe_callI {X : Cx} {ι : Type} {CX : CXT} {k i : Nat} {fs : ι → Addr} {fds : ι → FuncData} {ps : List Str} {sps : ι → Sp} {E : XK} {x : Str} {p pos : Pos} {e : Expr} {es : List Expr} {t : TA}
    (F : ∀ a, FnOk X.prog X.w X.K X.mg X.base CX k (fs a) (fds a) ps (sps a)) (hr : Room k X.A) (hN : X.N[i]? = some x) (hv : Vis X.env.scope x) (hk : ∀ a, PySem.W.keepIn X.K (.ref (fs a)) = true) (hb : ∀ a, Binds X.K (fds a) ps []) (hx : Passes CX X E) (ha : PA X (e :: es) t)
    (hdb : (x == ("__debug__" : Str)) = false := by decide) (hcd : (x == ("__classdict__" : Str)) = false := by decide)
    (he : starEach (e :: es) X.env = (false, eval e X.env) :: starEach es X.env := by rfl) (hpl : (backTo pos (starEach es X.env)).any (·.1) = false := by rfl) : PE X (.Call (.Name x p) (e :: es) [] pos) (tCallI i fs sps E t) := by
  refine ⟨fun pins s σ H Q I h => ?_⟩
  obtain ⟨a, hs, ht⟩ := h
  refine (pe_callL (i := i) (f := fs a) (sp := sps a) (dvs := []) (E := E) (F a) hr hN hv (hk a) (hb a) .nil hx ha hdb hcd he hpl).run pins s σ H Q I ⟨hs, ?_⟩
  have e0 : (fun (vs : List V) (H1 : Hp) => sps a (vs ++ []) H1 Q E) = fun vs H1 => sps a vs H1 Q E := by
    funext vs H1
    rw [List.append_nil]
  rw [e0]
  exact ht
end RwR

/-! rows of pieces -/
namespace My
open PySem L2 Cm LM CH
abbrev sRI : Stmt := inClass (top 11) 0
abbrev sRM : Stmt := inClass (top 11) 1
abbrev sCS : Stmt := top 12
abbrev sWR : Stmt := top 13
abbrev sFR : Stmt := top 14
abbrev sCR : Stmt := top 15
abbrev sTR : Stmt := top 16
abbrev sRO : Stmt := inClass (top 24) 7
def nvs (xs : List Nat) : List V := (xs.map fun n => ((n : Nat) : Int)).map V.int
theorem nvs_len (xs : List Nat) : (nvs xs).length = xs.length := by simp [nvs]
theorem nvs_app (a b : List Nat) : nvs (a ++ b) = nvs a ++ nvs b := by simp [nvs]
theorem nvs_nil {xs : List Nat} : nvs xs = [] ↔ xs = [] := by simp [nvs]
theorem nvs_get {xs : List Nat} {i : Nat} {x : V} (h : (nvs xs)[i]? = some x) : ∃ n, xs[i]? = some n ∧ x = .int (n : Nat) := by
  unfold nvs at h
  rw [List.getElem?_map, List.getElem?_map] at h
  cases e : xs[i]? with
  | none => rw [e] at h; cases h
  | some n =>
    rw [e] at h
    exact ⟨n, rfl, (Option.some.inj h).symm⟩
theorem nvs_at {xs : List Nat} {i : Nat} (h : i < xs.length) : (nvs xs)[i]? = some (.int (xs.getD i 0 : Nat)) := by
  unfold nvs
  rw [List.getElem?_map, List.getElem?_map, List.getElem?_eq_getElem h, getD_eq h]
  rfl
theorem nvs_take (xs : List Nat) (k : Nat) : (nvs xs).take k = nvs (xs.take k) := by simp [nvs]
theorem isum (xs : List Nat) : (xs.map fun n => ((n : Nat) : Int)).sum = ((xs.sum : Nat) : Int) := by
  induction xs with
  | nil => rfl
  | cons x r ih => rw [List.map_cons, List.sum_cons, ih, List.sum_cons]; omega
/-! ### rows as objects -/
def rf (pu : Addr) (t : Nat) (pl : Addr) : List (Str × V) := [("unit", .ref pu), ("times", .int t), ("last", .ref pl)]
section
variable (pu pl : Addr) (t : Nat)
theorem rf_u : (rf pu t pl).lookup ("unit" : Str) = some (.ref pu) := by kernel_rfl
theorem rf_t : (rf pu t pl).lookup ("times" : Str) = some (.int t) := by kernel_rfl
theorem rf_l : (rf pu t pl).lookup ("last" : Str) = some (.ref pl) := by kernel_rfl
theorem rf_mk : putF "last" (.ref pl) (putF "times" (.int t) (putF "unit" (.ref pu) [])) = rf pu t pl := by kernel_rfl
theorem rf_no : (rf pu t pl).lookup ("many" : Str) = none ∧ (rf pu t pl).lookup ("sizes" : Str) = none ∧ (rf pu t pl).lookup ("piece_at" : Str) = none ∧ (rf pu t pl).lookup ("place_with" : Str) = none := ⟨by kernel_rfl, by kernel_rfl, by kernel_rfl, by kernel_rfl⟩
end
def RowAt (C : Addr) (H : Hp) (o : Addr) (r : Rw) : Prop := ∃ dx pu pl, H o = some (.ins C dx (rf pu r.times pl)) ∧ H pu = some (.tup (nvs r.unit)) ∧ H pl = some (.tup (nvs r.last))
theorem RowAt.same {C : Addr} {H H' : Hp} {o : Addr} {r : Rw} (s : Same H H') (h : RowAt C H o r) : RowAt C H' o r := let ⟨dx, pu, pl, a, b, c⟩ := h; ⟨dx, pu, pl, s _ _ a, s _ _ b, s _ _ c⟩
structure TxRw (w : World) (K : PySem.W.Frag) (mg : Str → Option Value) where
  A : TxA w K mg
  sum : mg "sum" = none
  C : Addr
  gC : mg "Row" = some (.ref C)
  cl : Cls K C
  nU : NoAttr K C "unit"
  nT : NoAttr K C "times"
  nL : NoAttr K C "last"
  fI : Addr
  fdI : FuncData
  FI : Fun K "__init__" "Row.__init__" sRI fI fdI
  bI : Binds K fdI ["self", "unit", "times", "last"] []
  MI : Mk K C fI
  mn : Mt K C "many" "Row.many" sRM ["self"]
  cs : Df K mg "cut_sizes" sCS ["sizes", "width"]
  wr : Df K mg "whole_row" sWR ["items"]
  fr : Df K mg "fill_row" sFR ["row", "width"]
  cr : Df K mg "cut_row" sCR ["row", "width"]
  tr : Df K mg "tail_row" sTR ["row", "width"]
  ro : Mt K A.C "row_of" "Chain.row_of" sRO ["self", "items"]
  e1 : A.fk .cut = cr.f
  e2 : A.fk .fill = fr.f
  e3 : A.fk .tail = tr.f
/-- a row behind at most six cutters, of at most 10 ^ 18 items -/
structure RB (r : Rw) : Prop where
  i : Inv 6 r
  t : r.tot ≤ 1000000000000000000
theorem RB.ul {r : Rw} (h : RB r) : r.unit.length ≤ 12 := by
  rcases h.i.f with ⟨a, _, _⟩ | ⟨_, b, _⟩
  · rw [a]; exact Nat.zero_le _
  · exact Nat.le_trans h.i.pu.len b
theorem RB.us {r : Rw} (h : RB r) : r.unit.sum ≤ 12 := by
  rcases h.i.f with ⟨a, _, _⟩ | ⟨_, b, _⟩
  · rw [a]; exact Nat.zero_le _
  · exact b
theorem RB.ll {r : Rw} (h : RB r) : r.last.length ≤ 156 := by
  rcases h.i.f with ⟨_, _, c⟩ | ⟨_, _, c⟩
  · omega
  · have := h.i.pl.len
    omega
theorem RB.tt {r : Rw} (h : RB r) : r.times ≤ r.tot := by
  rcases h.i.f with ⟨_, b, _⟩ | ⟨a, _, _⟩
  · rw [b]; exact Nat.zero_le _
  · have l1 : 1 ≤ r.unit.length := List.length_pos_iff.mpr a
    have := h.i.pu.len
    have : r.times * 1 ≤ r.times * r.unit.sum := Nat.mul_le_mul_left _ (by omega)
    unfold Rw.tot
    omega
section
variable {P : Program} {w : World} {K : PySem.W.Frag} {mg : Str → Option Value} {base : Heap}
/-! ### __init__, many -/
def spRI (C : Addr) : Sp := fun vs H Q _ => ∃ (o dx pu pl : Addr) (t : Nat) (u l : List Nat), vs = [.ref o, .ref pu, .int t, .ref pl] ∧ H o = some (.ins C dx []) ∧ H pu = some (.tup (nvs u)) ∧ H pl = some (.tup (nvs l)) ∧ ∀ H', Off o H H' → RowAt C H' o ⟨u, t, l⟩ → Q .non H'
theorem scRI : FnScope ["self", "unit", "times", "last"] ["self", "unit", "times", "last"] (defScope sRI) := ⟨rfl, rfl, rfl, by decide +kernel, rfl, by decide +kernel, by decide +kernel⟩
theorem ok_ri (T : TxRw w K mg) : FnOk P w K mg base CX0 1 T.fI T.fdI ["self", "unit", "times", "last"] (spRI T.C) := by
  refine T.FI.ok scRI (fun vs H Q E h => ?_) (fun cdv A outer s H vs Q E hr h => ?_)
  · obtain ⟨o, dx, pu, pl, t, u, l, rfl, _⟩ := h
    rfl
  · obtain ⟨o, dx, pu, pl, t, u, l, rfl, ho, hu, hl, k⟩ := h
    refine ⟨_, pss_cons (ps_fld (pv 0) (pv 1) rfl) (pss_cons (ps_fld (pv 0) (pv 2) rfl) (pss_one (ps_fld (pv 0) (pv 3) rfl))), ?_⟩
    refine ⟨_, rfl, _, rfl, o, T.C, dx, _, rfl, ho, T.cl, T.nU, by decide, ?_⟩
    refine ⟨_, rfl, _, rfl, o, T.C, dx, _, rfl, upd_same, T.cl, T.nT, Nat.lt_of_le_of_lt (putF_len _ _ _) (by decide), ?_⟩
    refine ⟨_, rfl, _, rfl, o, T.C, dx, _, rfl, upd_same, T.cl, T.nL, Nat.lt_of_le_of_lt (putF_len _ _ _) (Nat.lt_of_le_of_lt (Nat.add_le_add_right (putF_len _ _ _) 1) (by decide)), ?_⟩
    rw [rf_mk]
    have n1 : pu ≠ o := ne_of hu ho (by intro z; cases z)
    have n2 : pl ≠ o := ne_of hl ho (by intro z; cases z)
    exact k _ (Off.put (Off.put (Off.put Off.refl))) ⟨dx, pu, pl, upd_same, by rw [upd_ne n1, upd_ne n1, upd_ne n1]; exact hu, by rw [upd_ne n2, upd_ne n2, upd_ne n2]; exact hl⟩
/-- Row(u, t, l), made -/
theorem mk_row (T : TxRw w K mg) {H : Hp} {pu pl : Addr} {t : Nat} {u l : List Nat} {E : XK} {R : Hp → Prop} {x dx : Addr} (hu : H pu = some (.tup (nvs u))) (hl : H pl = some (.tup (nvs l))) (nx : H x = none) (ndx : H dx = none) (q : ∀ (H' : Hp), Same H H' → RowAt T.C H' x ⟨u, t, l⟩ → R H') :
    spRI T.C [.ref x, .ref pu, .int (t : Nat), .ref pl] (upd (upd H dx (.own x)) x (.ins T.C dx [])) (fun v H2 => v = .non ∧ R H2) E := by
  refine ⟨x, dx, pu, pl, t, u, l, rfl, upd_same, by rw [upd_ne (ne_of_none hu nx), upd_ne (ne_of_none hu ndx)]; exact hu, by rw [upd_ne (ne_of_none hl nx), upd_ne (ne_of_none hl ndx)]; exact hl, fun H' o h => ⟨rfl, q H' (made_same nx ndx o) h⟩⟩
def spRM (C : Addr) : Sp := fun vs H Q _ => ∃ (o : Addr) (r : Rw), vs = [.ref o] ∧ RowAt C H o r ∧ RB r ∧ Q (.int (r.many : Nat)) H
theorem scRM : FnScope ["self"] ["self"] (defScope sRM) := ⟨rfl, rfl, rfl, by decide +kernel, rfl, by decide +kernel, by decide +kernel⟩
theorem ok_rm (T : TxRw w K mg) : FnOk P w K mg base CX0 1 T.mn.f T.mn.fd ["self"] (spRM T.C) := by
  refine T.mn.F.ok scRM (fun vs H Q E h => ?_) (fun cdv A outer s H vs Q E hr h => ?_)
  · obtain ⟨o, r, rfl, _⟩ := h
    rfl
  · obtain ⟨o, r, rfl, ⟨dx, pu, pl, e, hu, hl⟩, b, k⟩ := h
    refine ⟨_, (pss_one (ps_ret (pe_op op_add (pe_op op_mul (pe_fld (pv 0) rfl) (pe_callB call_len_seq (by rfl) T.A.len PySem.boot_len (pa_cons (pe_fld (pv 0) rfl) pa_nil))) (pe_callB call_len_seq (by rfl) T.A.len PySem.boot_len (pa_cons (pe_fld (pv 0) rfl) pa_nil))))), ?_⟩
    have b1 := b.ul
    refine ⟨_, rfl, o, T.C, dx, _, _, rfl, e, T.cl, T.nT, rf_t .., _, rfl, o, T.C, dx, _, _, rfl, e, T.cl, T.nU, rf_u .., pu, _, rfl, .inr (SqT.of hu), _, _, rfl, rfl, .inr (by rw [nvs_len]; omega), ?_⟩
    refine ⟨_, rfl, o, T.C, dx, _, _, rfl, e, T.cl, T.nL, rf_l .., pl, _, rfl, .inr (SqT.of hl), _, _, rfl, rfl, ?_⟩
    rw [nvs_len, nvs_len]
    have : (r.times : Int) * (r.unit.length : Int) + (r.last.length : Int) = ((r.many : Nat) : Int) := by unfold Rw.many; rw [Int.natCast_add, Int.natCast_mul]
    have k2 : Q (.int ((r.times : Int) * (r.unit.length : Int) + (r.last.length : Int))) H := by rw [this]; exact k
    exact k2
/-! ### cut_sizes -/
def spCS : Sp := fun vs H Q _ => ∃ (p : Addr) (xs : List Nat) (d : Nat), vs = [.ref p, .int d] ∧ H p = some (.tup (nvs xs)) ∧ 1 ≤ d ∧ d ≤ 12 ∧ xs.sum ≤ 1000 ∧ xs.length ≤ 1000 ∧ ∀ (H' : Hp) (q : Addr), Same H H' → H' q = some (.tup (nvs (chop xs d))) → Q (.ref q) H'
theorem scCS : FnScope ["sizes", "width", "cut", "size"] ["sizes", "width"] (defScope sCS) := ⟨rfl, rfl, rfl, by decide +kernel, rfl, by decide +kernel, by decide +kernel⟩
theorem rep_nvs (d : Nat) : ∀ k, (List.replicate k [V.int (d : Int)]).flatten = nvs (List.replicate k d)
  | 0 => rfl
  | k + 1 => by rw [List.replicate_succ, List.flatten_cons, rep_nvs d k, List.replicate_succ]; rfl
theorem evenly_len {n d : Nat} : (evenly n d).length ≤ n / d + 1 := by
  unfold evenly
  rw [List.length_append, List.length_replicate]
  split <;> simp
theorem chop_len {d : Nat} (hd : 1 ≤ d) : ∀ xs, (chop xs d).length ≤ xs.sum + xs.length
  | [] => by simp [chop]
  | x :: r => by
    show (evenly x d ++ chop r d).length ≤ _
    rw [List.length_append, List.sum_cons, List.length_cons]
    have a := evenly_len (n := x) (d := d)
    have b := chop_len hd r
    have c : x / d ≤ x := Nat.div_le_self _ _
    omega
theorem le_sum {n : Nat} : ∀ {xs : List Nat}, n ∈ xs → n ≤ xs.sum
  | x :: r, h => by
    rw [List.sum_cons]
    rcases List.mem_cons.mp h with e | h
    · omega
    · have := le_sum h
      omega
theorem sum_take (xs : List Nat) (i : Nat) : (xs.take i).sum ≤ xs.sum := by
  have := congrArg List.sum (List.take_append_drop i xs)
  rw [List.sum_append] at this
  omega
theorem ok_cs (T : TxRw w K mg) : FnOk P w K mg base CX0 1 T.cs.f T.cs.fd ["sizes", "width"] spCS := by
  refine T.cs.F.ok scCS (fun vs H Q E h => ?_) (fun cdv A outer s H vs Q E hr h => ?_)
  · obtain ⟨p, xs, d, rfl, _⟩ := h
    rfl
  · obtain ⟨p, xs, d, rfl, hp, d1, d2, hs, hl, k⟩ := h
    refine ⟨_, (pss_cons (ps_set (i := 2) scCS.nd rfl (.inl rfl) (pe_lst pa_nil)) (pss_cons (ps_for PassesOwn.never rfl (pi_tup (pv 0)) (pg_name (i := 3) scCS.nd rfl (.inl rfl)) (pss_cons (ps_aug (i := 2) scCS.nd rfl (.inl rfl) (pe_op op_rep (pe_lst (pa_cons (pv 1) pa_nil)) (pe_op op_fdiv (pv 3) (pv 1))) RwR.ip_iadd) (pss_one (ps_if (pt_truth (pe_op op_mod (pv 3) (pv 1)) (by intro _; rfl)) (pss_one (ps_expr (pe_bm PySem.F.plainAttrs_list PySem.F.slot_list_append PySem.F.type_list_append mt_append (pv 2) (pa_cons (pe_op op_mod (pv 3) (pv 1)) pa_nil)))) pss_nil)))) (pss_one (ps_ret (pe_callTy call_tuple_of (by rfl) T.A.tuple (by decide +kernel) (pa_cons (pv 2) pa_nil)))))), ?_⟩
    refine ⟨Nat.zero_le _, fun c nc => ?_⟩
    refine ⟨_, rfl, p, rfl, ⟨_, SqT.of (same_new nc _ _ hp)⟩, ?_⟩
    refine for_tup (K := K) (a := p) (xs := nvs xs) (fun i σ H' => ∃ v3, σ = [some (.ref p), some (.int d), some (.ref c), v3] ∧ Same H H' ∧ H' c = some (.lst (nvs (chop (xs.take i) d)))) ⟨none, rfl, same_new nc, upd_same⟩ (fun i σ H' _ ⟨_, _, s', _⟩ => SqT.of (s' _ _ hp)) ?_ ?_
    · rintro i y σ H' hy ⟨v3, rfl, s', hc⟩
      obtain ⟨n, hn, rfl⟩ := nvs_get hy
      have hi := lt_of_get hn
      have mem := List.mem_of_getElem? hn
      have hn1 : n ≤ xs.sum := le_sum mem
      have lt : (chop (xs.take i) d).length ≤ 2000 := by
        have a := chop_len d1 (xs.take i)
        have b := sum_take xs i
        have c : (xs.take i).length ≤ xs.length := by rw [List.length_take]; omega
        omega
      have nd : n / d ≤ n := Nat.div_le_self _ _
      have enx : chop (xs.take (i + 1)) d = chop (xs.take i) d ++ evenly n d := by
        rw [take_snoc hn, chop_app]
        congr 1
        show evenly n d ++ [] = _
        rw [List.append_nil]
      refine ⟨_, rfl, _, rfl, (by show 1 ≤ sizeLine; decide), fun l nl => ?_⟩
      refine ⟨_, rfl, _, rfl, _, _, rfl, rfl, ⟨by omega, by omega⟩, l, _, _, rfl, rfl, upd_same, ?_, ?_, ?_, fun q nq => ?_⟩
      · have : (0 : Int) ≤ (n : Int) / (d : Int) := Int.ediv_nonneg (by omega) (by omega)
        omega
      · have : (n : Int) / (d : Int) = ((n / d : Nat) : Int) := (Int.natCast_ediv n d).symm
        rw [this]
        omega
      · have : (n : Int) / (d : Int) = ((n / d : Nat) : Int) := (Int.natCast_ediv n d).symm
        rw [this, Int.toNat_natCast]
        exact szl (by show 1 * (n / d) ≤ 1000; omega)
      have e1 : ((n : Int) / (d : Int)).toNat = n / d := by rw [← Int.natCast_ediv, Int.toNat_natCast]
      rw [e1, rep_nvs]
      have sq : Same H' (upd (upd H' l (.lst [.int d])) q (.lst (nvs (List.replicate (n / d) d)))) := Same.trans (same_new nl) (same_new nq)
      have hq : (upd (upd H' l (.lst [.int d])) q (.lst (nvs (List.replicate (n / d) d)))) q = some (.lst (nvs (List.replicate (n / d) d))) := upd_same
      generalize upd (upd H' l (.lst [.int d])) q (.lst (nvs (List.replicate (n / d) d))) = H2 at sq hq ⊢
      have hc2 := sq _ _ hc
      refine ⟨c, q, _, _, rfl, rfl, hc2, hq, Nat.le_of_lt (szM (by rw [nvs_len, nvs_len, List.length_replicate]; omega)), ?_⟩
      rw [← nvs_app]
      have f2 : ∀ (b : Addr) (o : HO), H b = some o → (upd H2 c (.lst (nvs (chop (xs.take i) d ++ List.replicate (n / d) d)))) b = some o := fun b o e => by
        rw [upd_ne (ne_of_none e nc)]
        exact sq _ _ (s' _ _ e)
      have hc3 : (upd H2 c (.lst (nvs (chop (xs.take i) d ++ List.replicate (n / d) d)))) c = some (.lst (nvs (chop (xs.take i) d ++ List.replicate (n / d) d))) := upd_same
      generalize upd H2 c (.lst (nvs (chop (xs.take i) d ++ List.replicate (n / d) d))) = H3 at f2 hc3 ⊢
      refine ⟨_, rfl, _, rfl, _, _, rfl, rfl, by omega, _, rfl, ?_⟩
      have em : (n : Int) % (d : Int) = ((n % d : Nat) : Int) := (Int.natCast_emod n d).symm
      rw [em]
      by_cases h0 : n % d = 0
      · rw [h0]
        refine iteF ⟨_, rfl, f2, ?_⟩
        rw [hc3, enx]
        unfold evenly
        rw [if_pos h0, List.append_nil]
      · have : (((n % d : Nat) : Int) != 0) = true := by simp; omega
        rw [this]
        refine iteT ?_
        refine ⟨_, rfl, .inl ⟨rfl, _, SqL.of hc3⟩, _, rfl, _, rfl, _, _, rfl, rfl, by omega, c, _, _, rfl, rfl, hc3, szM (by rw [nvs_len, List.length_append, List.length_replicate]; omega), ?_⟩
        refine ⟨_, rfl, fun b o e => ?_, ?_⟩
        · rw [upd_ne (ne_of_none e nc)]
          exact f2 _ _ e
        · rw [upd_same, enx]
          show some (HO.lst (nvs _ ++ [V.int ((n : Int) % (d : Int))])) = _
          rw [em]
          unfold evenly
          rw [if_neg h0, ← List.append_assoc]
          rw [show [V.int ((n % d : Nat) : Int)] = nvs [n % d] from rfl, ← nvs_app]
    · rintro σ H' ⟨v3, rfl, s', hc⟩
      rw [nvs_len, List.take_length] at hc
      refine ⟨_, rfl, c, _, rfl, .inl ⟨SqL.of hc, fun q nq => ?_⟩⟩
      exact k _ q (Same.trans s' (same_new nq)) upd_same
end
end My

/-! what the cutters make of a row -/
namespace My
open PySem L2 Cm LM CH
theorem nzN (n : Nat) : (((n : Nat) : Int) != 0) = !decide (n = 0) := by
  cases n with
  | zero => rfl
  | succ k => simp; omega
theorem neg_at {xs : List Nat} {k : Nat} (h1 : 1 ≤ k) (h2 : k ≤ xs.length) : atI (nvs xs) (-(k : Int)) = some (.int (xs.getD (xs.length - k) 0 : Nat)) := by
  unfold atI ixN
  rw [nvs_len, if_neg (by omega), if_pos (by omega)]
  have : (-(k : Int) + (xs.length : Int)).toNat = xs.length - k := by omega
  rw [this]
  exact nvs_at (by omega)
theorem cut_neg {xs : List Nat} {k : Nat} (h1 : 1 ≤ k) (h2 : k ≤ xs.length) : cutV (nvs xs) none (some (-(k : Int))) = nvs (xs.take (xs.length - k)) := by
  unfold cutV
  rw [HT.sIx_none]
  have : HT.sIx (nvs xs).length (nvs xs).length (some (-(k : Int))) = xs.length - k := by
    show (if (-(k : Int)) < 0 then ((-(k : Int)) + ((nvs xs).length : Int)).toNat else min (-(k : Int)).toNat (nvs xs).length) = _
    rw [if_pos (by omega), nvs_len]
    omega
  rw [this, List.drop_zero, Nat.sub_zero, nvs_take]
section
variable {P : Program} {w : World} {K : PySem.W.Frag} {mg : Str → Option Value} {base : Heap}
/-! ### whole_row -/
def spWR (C : Addr) : Sp := fun vs H Q _ => ∃ n : Nat, vs = [.int n] ∧ ∀ (H' : Hp) (x : Addr), Same H H' → RowAt C H' x (wholeR n) → Q (.ref x) H'
theorem scWR : FnScope ["items"] ["items"] (defScope sWR) := ⟨rfl, rfl, rfl, by decide +kernel, rfl, by decide +kernel, by decide +kernel⟩
theorem ok_wr (T : TxRw w K mg) : FnOk P w K mg base CX0 3 T.wr.f T.wr.fd ["items"] (spWR T.C) := by
  have GI : FnOk P w K mg base CX0 1 T.fI T.fdI ["self", "unit", "times", "last"] (spRI T.C) := ok_ri T
  refine T.wr.F.ok scWR (fun vs H Q E h => ?_) (fun cdv A outer s H vs Q E hr h => ?_)
  · obtain ⟨n, rfl, _⟩ := h
    rfl
  · obtain ⟨n, rfl, k⟩ := h
    refine ⟨_, (pss_one (ps_ret (pe_make T.MI GI hr rfl T.gC T.bI .nil pass0 (pa_cons (pe_tup pa_nil) (pa_cons pe_int (pa_cons (pe_ifExp (pt_truth (pv 0) (by intro _; rfl)) (pe_tup (pa_cons (pv 0) pa_nil)) (pe_tup pa_nil)) pa_nil)))))), ?_⟩
    refine ⟨Nat.zero_le _, fun pu nu => ⟨_, rfl, _, rfl, ?_⟩⟩
    have hu : (upd H pu (.tup [])) pu = some (.tup (nvs [])) := upd_same
    have s1 : Same H (upd H pu (.tup [])) := same_new nu
    generalize upd H pu (.tup []) = H1 at hu s1 ⊢
    rw [nzN]
    by_cases h0 : n = 0
    · rw [decide_eq_true h0]
      refine iteF ⟨Nat.zero_le _, fun pl nl => ?_⟩
      refine fun x dx nx ndx nex => mk_row T (t := 0) (u := []) (l := []) (same_new nl _ _ hu) upd_same nx ndx fun H3 s3 h3 => ?_
      refine k H3 x (Same.trans s1 (Same.trans (same_new nl) s3)) ?_
      have : wholeR n = ⟨[], 0, []⟩ := by unfold wholeR wholeS; rw [if_pos h0]
      rw [this]
      exact h3
    · rw [decide_eq_false h0]
      refine iteT ⟨_, rfl, (by show 1 ≤ sizeLine; decide), fun pl nl => ?_⟩
      refine fun x dx nx ndx nex => mk_row T (t := 0) (u := []) (l := [n]) (same_new nl _ _ hu) upd_same nx ndx fun H3 s3 h3 => ?_
      refine k H3 x (Same.trans s1 (Same.trans (same_new nl) s3)) ?_
      have : wholeR n = ⟨[], 0, [n]⟩ := by unfold wholeR wholeS; rw [if_neg h0]
      rw [this]
      exact h3
/-! ### fill_row -/
def spFR (C : Addr) : Sp := fun vs H Q _ => ∃ (o : Addr) (r : Rw) (d : Nat), vs = [.ref o, .int d] ∧ RowAt C H o r ∧ RB r ∧ 1 ≤ d ∧ d ≤ 12 ∧ ∀ (H' : Hp) (x : Addr), Same H H' → RowAt C H' x (fillR r d) → Q (.ref x) H'
theorem scFR : FnScope ["row", "width", "items", "left"] ["row", "width"] (defScope sFR) := ⟨rfl, rfl, rfl, by decide +kernel, rfl, by decide +kernel, by decide +kernel⟩
theorem ok_fr (T : TxRw w K mg) : FnOk P w K mg base CX0 3 T.fr.f T.fr.fd ["row", "width"] (spFR T.C) := by
  have GI : FnOk P w K mg base CX0 1 T.fI T.fdI ["self", "unit", "times", "last"] (spRI T.C) := ok_ri T
  refine T.fr.F.ok scFR (fun vs H Q E h => ?_) (fun cdv A outer s H vs Q E hr h => ?_)
  · obtain ⟨o, r, d, rfl, _⟩ := h
    rfl
  · obtain ⟨o, r, d, rfl, ⟨dx, pu, pl, e, hu, hl⟩, b, d1, d2, k⟩ := h
    refine ⟨_, (pss_cons (ps_set (i := 2) scFR.nd rfl (.inl rfl) (pe_op op_add (pe_op op_mul (pe_fld (pv 0) rfl) (pe_callB (RwR.cr_sumT rfl) (by rfl) T.sum (by decide +kernel) (pa_cons (pe_fld (pv 0) rfl) pa_nil))) (pe_callB (RwR.cr_sumT rfl) (by rfl) T.sum (by decide +kernel) (pa_cons (pe_fld (pv 0) rfl) pa_nil)))) (pss_cons (ps_set (i := 3) scFR.nd rfl (.inl rfl) (pe_op op_mod (pv 2) (pv 1))) (pss_one (ps_ret (pe_make T.MI GI hr rfl T.gC T.bI .nil pass0 (pa_cons (pe_tup (pa_cons (pv 1) pa_nil)) (pa_cons (pe_op op_fdiv (pv 2) (pv 1)) (pa_cons (pe_ifExp (pt_truth (pv 3) (by intro _; rfl)) (pe_tup (pa_cons (pv 3) pa_nil)) (pe_tup pa_nil)) pa_nil)))))))), ?_⟩
    have b1 := b.us
    have b2 := b.t
    refine ⟨_, rfl, o, T.C, dx, _, _, rfl, e, T.cl, T.nT, rf_t .., _, rfl, o, T.C, dx, _, _, rfl, e, T.cl, T.nU, rf_u .., pu, _, rfl, SqT.of hu, _, _, rfl, rfl, .inr (by rw [isum]; omega), ?_⟩
    refine ⟨_, rfl, o, T.C, dx, _, _, rfl, e, T.cl, T.nL, rf_l .., pl, _, rfl, SqT.of hl, _, _, rfl, rfl, ?_⟩
    have et : (r.times : Int) * (r.unit.map fun n => ((n : Nat) : Int)).sum + (r.last.map fun n => ((n : Nat) : Int)).sum = ((r.tot : Nat) : Int) := by
      rw [isum, isum]
      unfold Rw.tot
      rw [Int.natCast_add, Int.natCast_mul]
    simp only [et]
    refine ⟨_, rfl, _, rfl, _, _, rfl, rfl, by omega, ?_⟩
    have em : ((r.tot : Nat) : Int) % (d : Int) = ((r.tot % d : Nat) : Int) := (Int.natCast_emod _ _).symm
    have ed : ((r.tot : Nat) : Int) / (d : Int) = ((r.tot / d : Nat) : Int) := (Int.natCast_ediv _ _).symm
    simp only [em]
    refine ⟨_, rfl, (by show 1 ≤ sizeLine; decide), fun q nq => ?_⟩
    have hq : (upd H q (.tup [.int d])) q = some (.tup (nvs [d])) := upd_same
    have s1 : Same H (upd H q (.tup [.int d])) := same_new nq
    generalize upd H q (.tup [.int d]) = H1 at hq s1 ⊢
    refine ⟨_, rfl, _, rfl, _, _, rfl, rfl, ⟨by omega, by omega⟩, _, rfl, _, rfl, ?_⟩
    rw [nzN]
    unfold fillR at k
    by_cases h0 : r.tot % d = 0
    · rw [if_pos h0] at k
      rw [decide_eq_true h0]
      refine iteF ⟨Nat.zero_le _, fun z nz => ?_⟩
      simp only [ed]
      refine fun x dx nx ndx nex => mk_row T (t := r.tot / d) (u := [d]) (l := []) (same_new nz _ _ hq) upd_same nx ndx fun H3 s3 h3 => ?_
      exact k H3 x (Same.trans s1 (Same.trans (same_new nz) s3)) h3
    · rw [if_neg h0] at k
      rw [decide_eq_false h0]
      refine iteT ⟨_, rfl, (by show 1 ≤ sizeLine; decide), fun z nz => ?_⟩
      simp only [ed]
      refine fun x dx nx ndx nex => mk_row T (t := r.tot / d) (u := [d]) (l := [r.tot % d]) (same_new nz _ _ hq) upd_same nx ndx fun H3 s3 h3 => ?_
      exact k H3 x (Same.trans s1 (Same.trans (same_new nz) s3)) h3
/-! ### cut_row -/
def spCR (C : Addr) : Sp := fun vs H Q _ => ∃ (o : Addr) (r : Rw) (d : Nat), vs = [.ref o, .int d] ∧ RowAt C H o r ∧ RB r ∧ 1 ≤ d ∧ d ≤ 12 ∧ ∀ (H' : Hp) (x : Addr), Same H H' → RowAt C H' x (cutR r d) → Q (.ref x) H'
theorem scCR : FnScope ["row", "width"] ["row", "width"] (defScope sCR) := ⟨rfl, rfl, rfl, by decide +kernel, rfl, by decide +kernel, by decide +kernel⟩
theorem ok_cr (T : TxRw w K mg) : FnOk P w K mg base CX0 4 T.cr.f T.cr.fd ["row", "width"] (spCR T.C) := by
  have GI : FnOk P w K mg base CX0 1 T.fI T.fdI ["self", "unit", "times", "last"] (spRI T.C) := ok_ri T
  have GM : FnOk P w K mg base CX0 1 T.mn.f T.mn.fd ["self"] (spRM T.C) := ok_rm T
  have GF : FnOk P w K mg base CX0 3 T.fr.f T.fr.fd ["row", "width"] (spFR T.C) := ok_fr T
  have GC : FnOk P w K mg base CX0 1 T.cs.f T.cs.fd ["sizes", "width"] spCS := ok_cs T
  refine T.cr.F.ok scCR (fun vs H Q E h => ?_) (fun cdv A outer s H vs Q E hr h => ?_)
  · obtain ⟨o, r, d, rfl, _⟩ := h
    rfl
  · obtain ⟨o, r, d, rfl, hO, b, d1, d2, k⟩ := h
    have hr1 : Room 1 _ := hr.mono (by decide)
    have hr2 : Room 2 _ := hr.mono (by decide)
    refine ⟨_, (pss_cons (ps_if (pt_cmpR op_eq (pe_meth0 (pv 0) T.cl T.mn.m GM hr1 T.mn.b .nil pass0) pe_int (nomark _)) (pss_one (ps_ret (pe_call GF hr rfl T.fr.g T.fr.k T.fr.b .nil pass0 (pa_cons (pv 0) (pa_cons (pv 1) pa_nil))))) pss_nil) (pss_one (ps_ret (pe_make T.MI GI hr2 rfl T.gC T.bI .nil pass0 (pa_cons (pe_call GC hr1 rfl T.cs.g T.cs.k T.cs.b .nil pass0 (pa_cons (pe_fld (pv 0) rfl) (pa_cons (pv 1) pa_nil))) (pa_cons (pe_fld (pv 0) rfl) (pa_cons (pe_call GC hr1 rfl T.cs.g T.cs.k T.cs.b .nil pass0 (pa_cons (pe_fld (pv 0) rfl) (pa_cons (pv 1) pa_nil))) pa_nil))))))), ?_⟩
    obtain ⟨dx, pu, pl, e, hu, hl⟩ := id hO
    refine ⟨_, rfl, o, dx, _, rfl, e, (rf_no ..).1, o, r, rfl, hO, b, rfl, _, rfl, ?_⟩
    rw [dI]
    unfold cutR at k
    by_cases h1 : r.many = 1
    · rw [if_pos h1] at k
      rw [show decide (((r.many : Nat) : Int) = 1) = true from decide_eq_true (by omega)]
      exact iteT ⟨_, rfl, _, rfl, o, r, d, rfl, hO, b, d1, d2, k⟩
    · rw [if_neg h1] at k
      rw [show decide (((r.many : Nat) : Int) = 1) = false from decide_eq_false (by omega)]
      refine iteF ?_
      have hls : r.last.sum ≤ 156 := by
        rcases b.i.f with ⟨a1, a2, a3⟩ | ⟨_, _, c⟩
        · have : r.last.length = 0 := by
            unfold Rw.many at h1
            rw [a2] at h1
            omega
          rw [List.eq_nil_of_length_eq_zero this]
          exact Nat.zero_le _
        · exact c
      have b1 := b.us
      have b2 := b.ul
      have b3 := b.ll
      refine ⟨_, rfl, o, T.C, dx, _, _, rfl, e, T.cl, T.nU, rf_u .., _, rfl, pu, r.unit, d, rfl, hu, d1, d2, by omega, by omega, fun H1 q1 s1 hq1 => ?_⟩
      refine ⟨_, rfl, o, T.C, dx, _, _, rfl, s1 _ _ e, T.cl, T.nT, rf_t .., _, rfl, o, T.C, dx, _, _, rfl, s1 _ _ e, T.cl, T.nL, rf_l .., _, rfl, pl, r.last, d, rfl, s1 _ _ hl, d1, d2, by omega, by omega, fun H2 q2 s2 hq2 => ?_⟩
      refine fun x dx nx ndx nex => mk_row T (t := r.times) (s2 _ _ hq1) hq2 nx ndx fun H3 s3 h3 => ?_
      exact k H3 x (Same.trans s1 (Same.trans s2 s3)) h3
/-! ### tail_row -/
def spTR (C : Addr) : Sp := fun vs H Q _ => ∃ (o : Addr) (r : Rw) (d : Nat), vs = [.ref o, .int d] ∧ RowAt C H o r ∧ RB r ∧ 1 ≤ d ∧ d ≤ 12 ∧ ∀ (H' : Hp) (x : Addr), Same H H' → RowAt C H' x (tailR r d) → Q (.ref x) H'
theorem scTR : FnScope ["row", "width", "times", "last"] ["row", "width"] (defScope sTR) := ⟨rfl, rfl, rfl, by decide +kernel, rfl, by decide +kernel, by decide +kernel⟩
/-- times > 0 and len(last) < 2 -/
def tWh : TT := fun σ H Q => ∃ (t : Nat) (p : Addr) (l : List Nat), σ[2]? = some (some (.int t)) ∧ σ[3]? = some (some (.ref p)) ∧ H p = some (.tup (nvs l)) ∧ Q (decide (0 < t ∧ l.length < 2)) H
/-- what falls -/
def mT (σ : L2.St) : Nat := match σ[2]? with
  | some (some (V.int t)) => t.toNat
  | _ => 0
theorem pull_stop {u l : List Nat} {t : Nat} (h : ¬ (0 < t ∧ l.length < 2)) : pull u t l = (t, l) := by
  cases t with
  | zero => rfl
  | succ t =>
    unfold pull
    rw [if_neg (fun z => h ⟨by omega, z⟩)]
theorem ok_tr (T : TxRw w K mg) : FnOk P w K mg base CX0 3 T.tr.f T.tr.fd ["row", "width"] (spTR T.C) := by
  have GI : FnOk P w K mg base CX0 1 T.fI T.fdI ["self", "unit", "times", "last"] (spRI T.C) := ok_ri T
  refine T.tr.F.ok scTR (fun vs H Q E h => ?_) (fun cdv A outer s H vs Q E hr h => ?_)
  · obtain ⟨o, r, d, rfl, _⟩ := h
    rfl
  · obtain ⟨o, r, d, rfl, hO, b, d1, d2, k⟩ := h
    refine ⟨_, (pss_cons (ps_par (i := 2) (j := 3) rfl scTR.nd rfl rfl (by decide) rfl rfl (pa_cons (pe_fld (pv 0) rfl) (pa_cons (pe_fld (pv 0) rfl) pa_nil)) (by rfl)) (pss_cons (ps_while PassesOwn.never (pt_imp (t' := tWh) (PW.pt (pw_and (pt_cmpR op_gt (pv 2) pe_int (nomark _)) (pw_and1 (pt_cmpR op_lt (pe_callB call_len_seq (by rfl) T.A.len PySem.boot_len (pa_cons (pv 3) pa_nil)) pe_int (nomark _))))) ?imp) (pss_cons (ps_aug (i := 2) scTR.nd rfl (.inl rfl) pe_int ip_sub) (pss_one (ps_set (i := 3) scTR.nd rfl (.inl rfl) (pe_op op_catH (pe_fld (pv 0) rfl) (pv 3)))))) (C8.pss_cut (ps_if (PW.pt (pw_and (pt_cmpR op_ge (pe_callB call_len_seq (by rfl) T.A.len PySem.boot_len (pa_cons (pv 3) pa_nil)) pe_int (nomark _)) (pw_and1 (pt_cmpR op_lt (pe_ix ix_tup (pv 3) (pe_un un_neg pe_int) (fun _ _ => rfl)) (pv 1) (nomark _))))) (pss_one (ps_set (i := 3) scTR.nd rfl (.inl rfl) (pe_op op_catH (pe_slice sl_tupH (pv 3) po_none (po_some (pe_un un_neg pe_int))) (pe_tup (pa_cons (pe_op op_add (pe_ix ix_tup (pv 3) (pe_un un_neg pe_int) (fun _ _ => rfl)) (pe_ix ix_tup (pv 3) (pe_un un_neg pe_int) (fun _ _ => rfl))) pa_nil))))) pss_nil) (pss_one (ps_ret (pe_make T.MI GI hr rfl T.gC T.bI .nil pass0 (pa_cons (pe_fld (pv 0) rfl) (pa_cons (pv 2) (pa_cons (pv 3) pa_nil))))))))), ?_⟩
    case imp =>
      rintro σ H1 Q1 ⟨t, p, l, h2, h3, hp, q⟩
      refine ⟨_, h2, _, _, rfl, rfl, _, rfl, ?_⟩
      by_cases c1 : 0 < t
      · rw [show decide (((t : Nat) : Int) > 0) = true from decide_eq_true (by omega)]
        refine iteT ⟨_, h3, p, _, rfl, .inr (SqT.of hp), _, _, rfl, rfl, _, rfl, ?_⟩
        rw [nvs_len]
        have : decide (((l.length : Nat) : Int) < 2) = decide (0 < t ∧ l.length < 2) := decide_eq_decide.mpr ⟨fun z => ⟨c1, by omega⟩, fun z => by omega⟩
        rw [this]
        exact q
      · rw [show decide (((t : Nat) : Int) > 0) = false from decide_eq_false (by omega)]
        rw [show decide (0 < t ∧ l.length < 2) = false from decide_eq_false (fun z => c1 z.1)] at q
        exact iteF q
    obtain ⟨dx, pu, pl, e, hu, hl⟩ := id hO
    have b2 := b.ul
    have b3 := b.ll
    refine ⟨_, rfl, o, T.C, dx, _, _, rfl, e, T.cl, T.nT, rf_t .., _, rfl, o, T.C, dx, _, _, rfl, e, T.cl, T.nL, rf_l .., _, _, rfl, ?_⟩
    refine while_by (fun σ H' => ∃ (t : Nat) (p : Addr) (l : List Nat), σ = [some (.ref o), some (.int d), some (.int t), some (.ref p)] ∧ Same H H' ∧ H' p = some (.tup (nvs l)) ∧ pull r.unit t l = pull r.unit r.times r.last ∧ l.length ≤ 156)
      (fun σ _ => mT σ) ⟨r.times, pl, r.last, rfl, Same.refl _, hl, rfl, b3⟩ ?_ ?_
    · rintro _ H' ⟨t, p, l, rfl, s', hp, hpu, hll⟩
      refine ⟨t, p, l, rfl, rfl, hp, ?_⟩
      by_cases c : 0 < t ∧ l.length < 2
      · rw [decide_eq_true c]
        refine iteT ?_
        obtain ⟨t, rfl⟩ : ∃ t', t = t' + 1 := ⟨t - 1, by omega⟩
        refine ⟨_, rfl, _, _, rfl, rfl, ?_⟩
        refine ⟨_, rfl, o, T.C, dx, _, _, rfl, s' _ _ e, T.cl, T.nU, rf_u .., _, rfl, pu, p, _, _, rfl, rfl, s' _ _ hu, hp, ?_, fun H2 q s2 hq => ?_⟩
        · rw [nvs_len, nvs_len]
          exact szl (by omega)
        rw [← nvs_app] at hq
        have et : (((t + 1 : Nat) : Int) - 1) = ((t : Nat) : Int) := by omega
        refine ⟨⟨t, q, r.unit ++ l, by rw [← et]; rfl, Same.trans s' s2, hq, ?_, by rw [List.length_append]; omega⟩, ?_⟩
        · rw [← hpu]
          show _ = (if l.length < 2 then pull r.unit t (r.unit ++ l) else (t + 1, l))
          rw [if_pos c.2]
        · show (((t + 1 : Nat) : Int) - 1).toNat < ((t + 1 : Nat) : Int).toNat
          omega
      · rw [decide_eq_false c]
        refine iteF ?_
        rw [pull_stop c] at hpu
        -- the rest
        have ht : (tailR r d) = ⟨r.unit, t, tailS l d⟩ := by
          unfold tailR
          rw [← hpu]
        rw [ht] at k
        refine ⟨fun σ H2 => ∃ q, σ = [some (.ref o), some (.int d), some (.int t), some (.ref q)] ∧ Same H H2 ∧ H2 q = some (.tup (nvs (tailS l d))), ?_, ?_⟩
        · refine ⟨_, rfl, p, _, rfl, .inr (SqT.of hp), _, _, rfl, rfl, _, rfl, ?_⟩
          rw [nvs_len]
          by_cases c2 : 2 ≤ l.length
          · rw [show decide (((l.length : Nat) : Int) ≥ 2) = true from decide_eq_true (by omega)]
            refine iteT ?_
            refine ⟨_, rfl, _, rfl, p, _, -1, _, rfl, rfl, SqT.of hp, neg_at (k := 1) (by decide) (by omega), _, rfl, _, _, rfl, rfl, _, rfl, ?_⟩
            by_cases c3 : l.getD (l.length - 1) 0 < d
            · rw [show decide (((l.getD (l.length - 1) 0 : Nat) : Int) < (d : Int)) = true from decide_eq_true (by omega)]
              refine iteT ?_
              have ets : tailS l d = l.take (l.length - 2) ++ [l.getD (l.length - 2) 0 + l.getD (l.length - 1) 0] := by unfold tailS; rw [if_pos ⟨c2, c3⟩]
              refine ⟨_, rfl, _, rfl, -2, rfl, p, _, rfl, hp, fun H2 q s2 hq => ?_⟩
              rw [show (some (-2 : Int)) = some (-((2 : Nat) : Int)) from rfl, cut_neg (k := 2) (by decide) c2] at hq
              have hp2 := s2 _ _ hp
              refine ⟨_, rfl, _, rfl, p, _, -2, _, rfl, rfl, SqT.of hp2, neg_at (k := 2) (by decide) c2, _, rfl, _, rfl, p, _, -1, _, rfl, rfl, SqT.of hp2, neg_at (k := 1) (by decide) (by omega), _, _, rfl, rfl, (by show 1 ≤ sizeLine; decide), fun z nz => ?_⟩
              refine ⟨q, z, _, _, rfl, rfl, same_new nz _ _ hq, upd_same, ?_, fun H4 y s4 hy => ?_⟩
              · rw [nvs_len, List.length_take]
                exact szl (by show _ + 1 ≤ 1000; omega)
              refine ⟨y, rfl, Same.trans s' (Same.trans s2 (Same.trans (same_new nz) s4)), ?_⟩
              rw [hy, ets, nvs_app]
              rfl
            · rw [show decide (((l.getD (l.length - 1) 0 : Nat) : Int) < (d : Int)) = false from decide_eq_false (by omega)]
              have ets : tailS l d = l := by unfold tailS; rw [if_neg (fun z => c3 z.2)]
              exact iteF ⟨p, rfl, s', by rw [ets]; exact hp⟩
          · rw [show decide (((l.length : Nat) : Int) ≥ 2) = false from decide_eq_false (by omega)]
            have ets : tailS l d = l := by unfold tailS; rw [if_neg (fun z => c2 z.1)]
            exact iteF (iteF ⟨p, rfl, s', by rw [ets]; exact hp⟩)
        rintro _ H2 ⟨q, rfl, s2, hq⟩
        refine ⟨_, rfl, o, T.C, dx, _, _, rfl, s2 _ _ e, T.cl, T.nU, rf_u .., _, rfl, _, rfl, ?_⟩
        refine fun x dx nx ndx nex => mk_row T (t := t) (s2 _ _ hu) hq nx ndx fun H3 s3 h3 => ?_
        exact k H3 x (Same.trans s2 s3) h3
    · rintro σ H1 Q1 Q2 f ⟨t, p, l, a, b, c, d⟩
      exact ⟨t, p, l, a, b, c, f _ _ d⟩
end
end My

/-! Chain.row_of -/
namespace My
open PySem L2 Cm LM CH
theorem inv_mono {k m : Nat} {r : Rw} (h : Inv k r) (l : k ≤ m) : Inv m r := ⟨h.pu, h.pl, h.f.imp id fun ⟨a, b, c⟩ => ⟨a, b, by omega⟩⟩
theorem apply_tot (c : Kd × Nat) (r : Rw) : (applyR c r).tot = r.tot := by
  rw [← sizes_sum, ← sizes_sum]
  unfold applyR
  split
  · rw [cut_sizes, chop_sum]
  · rw [fill_sizes, evenly_sum, sizes_sum]
  · rw [tail_sizes, tailS_sum]
theorem fold_inv : ∀ (cs : List (Kd × Nat)) (k : Nat) (r : Rw), (∀ c ∈ cs, Ct c) → Inv k r → Inv (k + cs.length) (cs.foldl (fun r c => applyR c r) r) ∧ (cs.foldl (fun r c => applyR c r) r).tot = r.tot
  | [], k, r, _, h => ⟨h, rfl⟩
  | c :: cs, k, r, hc, h => by
    have c1 := hc c (List.mem_cons_self ..)
    obtain ⟨a, b⟩ := fold_inv cs (k + 1) (applyR c r) (fun q hq => hc q (List.mem_cons_of_mem _ hq)) (inv_apply c1.1 c1.2 h)
    rw [List.length_cons, show k + (cs.length + 1) = k + 1 + cs.length by omega]
    exact ⟨a, by rw [List.foldl_cons, b, apply_tot]⟩
theorem whole_tot (n : Nat) : (wholeR n).tot = n := by rw [← sizes_sum]; exact wholeS_sum n
theorem rb_row {cs : List (Kd × Nat)} {n : Nat} (hc : ∀ c ∈ cs, Ct c) (hl : cs.length ≤ 6) (hn : n ≤ 1000000000000000000) : RB (rowOf cs n) := by
  obtain ⟨a, b⟩ := fold_inv cs 0 (wholeR n) hc (inv_whole n)
  refine ⟨inv_mono a (by omega), ?_⟩
  show (cs.foldl (fun r c => applyR c r) (wholeR n)).tot ≤ _
  rw [b, whole_tot]
  exact hn
section
variable {P : Program} {w : World} {K : PySem.W.Frag} {mg : Str → Option Value} {base : Heap}
def fdK (T : TxRw w K mg) : Kd → FuncData
  | .cut => T.cr.fd
  | .fill => T.fr.fd
  | .tail => T.tr.fd
def spK (C : Addr) : Kd → Sp
  | .cut => spCR C
  | .fill => spFR C
  | .tail => spTR C
theorem ok_kd (T : TxRw w K mg) (k : Kd) : FnOk P w K mg base CX0 4 (T.A.fk k) (fdK T k) ["row", "width"] (spK T.C k) := by
  cases k with
  | cut => rw [T.e1]; exact ok_cr T
  | fill => rw [T.e2]; exact (ok_fr T).mono (by decide)
  | tail => rw [T.e3]; exact (ok_tr T).mono (by decide)
def spRO (CA CR : Addr) : Sp := fun vs H Q _ => ∃ (o : Addr) (t : Str) (n : Nat), vs = [.ref o, .int n] ∧ ChainAt CA H o t ∧ goodC t = true ∧ n ≤ 1000000000000000000 ∧ ∀ (H' : Hp) (x : Addr), Same H H' → RowAt CR H' x (rowOf (cuttersOf t) n) → Q (.ref x) H'
theorem scRO : FnScope ["self", "items", "row", "word", "width", "cutter"] ["self", "items"] (defScope sRO) := ⟨rfl, rfl, rfl, by decide +kernel, rfl, by decide +kernel, by decide +kernel⟩
theorem ok_ro (T : TxRw w K mg) : FnOk P w K mg base CX0 5 T.ro.f T.ro.fd ["self", "items"] (spRO T.A.C T.C) := by
  have GW : FnOk P w K mg base CX0 3 T.wr.f T.wr.fd ["items"] (spWR T.C) := ok_wr T
  have GK : ∀ k, FnOk P w K mg base CX0 4 (T.A.fk k) (fdK T k) ["row", "width"] (spK T.C k) := ok_kd T
  have hk : ∀ k, PySem.W.keepIn K (.ref (T.A.fk k)) = true := fun k => by
    cases k with
    | cut => rw [T.e1]; exact T.cr.k
    | fill => rw [T.e2]; exact T.fr.k
    | tail => rw [T.e3]; exact T.tr.k
  have hb : ∀ k, Binds K (fdK T k) ["row", "width"] [] := fun k => by
    cases k with
    | cut => exact T.cr.b
    | fill => exact T.fr.b
    | tail => exact T.tr.b
  obtain ⟨es, nd, D⟩ := He.dicW_ok T.A.dw
  refine T.ro.F.ok scRO (fun vs H Q E h => ?_) (fun cdv A outer s H vs Q E hr h => ?_)
  · obtain ⟨o, t, n, rfl, _⟩ := h
    rfl
  · obtain ⟨o, t, n, rfl, hO, g, hn, k⟩ := h
    have hr3 : Room 3 _ := hr.mono (by decide)
    refine ⟨_, (pss_cons (ps_set (i := 2) scRO.nd rfl (.inl rfl) (pe_call GW hr3 rfl T.wr.g T.wr.k T.wr.b .nil pass0 (pa_cons (pv 1) pa_nil))) (pss_cons (ps_for PassesOwn.never rfl (pi_tup (pe_fld (pv 0) rfl)) (pg_tup rfl (pgs_cons (pg_name (i := 3) scRO.nd rfl (.inl rfl)) (pgs_cons (pg_name (i := 4) scRO.nd rfl (.inl rfl)) pgs_nil))) (pss_cons (ps_set (i := 5) scRO.nd rfl (.inl rfl) (pe_ix (RwR.ix_kd D) (pe_glob (v := .ref T.A.dC) rfl T.A.gD rfl) (pv 3) (fun _ _ => rfl))) (pss_one (ps_set (i := 2) scRO.nd rfl (.inl rfl) (RwR.pe_callI (i := 5) (E := E0) GK hr rfl (.inl rfl) hk hb pass0 (pa_cons (pv 2) (pa_cons (pv 4) pa_nil))))))) (pss_one (ps_ret (pv 2))))), ?_⟩
    obtain ⟨dx, p, vs, e, hp, hC⟩ := id hO
    have cl := cutters_len g
    refine ⟨_, rfl, n, rfl, fun H1 x1 s1 h1 => ?_⟩
    refine ⟨_, rfl, o, T.A.C, dx, _, _, rfl, s1 _ _ e, T.A.cl, T.A.nC, cf_cut .., p, rfl, ⟨_, SqT.of (s1 _ _ hp)⟩, ?_⟩
    refine for_tup (K := K) (a := p) (xs := vs) (fun i σ H' => ∃ x v3 v4 v5, σ = [some (.ref o), some (.int n), some (.ref x), v3, v4, v5] ∧ Same H H' ∧ RowAt T.C H' x (rowOf ((cuttersOf t).take i) n)) ⟨x1, none, none, none, rfl, s1, h1⟩ (fun i σ H' _ ⟨_, _, _, _, _, s', _⟩ => SqT.of (s' _ _ hp)) ?_ ?_
    · rintro i y σ H' hy ⟨x, v3, v4, v5, rfl, s', hx⟩
      obtain ⟨q, c, hc, rfl, hq⟩ := hC.get hy
      have cc := cutters_ct c (List.mem_of_getElem? hc)
      have rb : RB (rowOf ((cuttersOf t).take i) n) := rb_row (fun q hq => cutters_ct q (List.mem_of_mem_take hq)) (by rw [List.length_take]; omega) hn
      refine ⟨q, _, rfl, SqT.of (s' _ _ hq), rfl, _, _, rfl, _, _, rfl, rfl, ?_⟩
      refine ⟨_, rfl, kdS c.1, _, .ref (T.A.fk c.1), rfl, rfl, T.A.nk c.1, rfl, ?_⟩
      have enx : rowOf ((cuttersOf t).take (i + 1)) n = applyR c (rowOf ((cuttersOf t).take i) n) := by
        unfold rowOf
        rw [take_snoc hc, List.foldl_append]
        rfl
      have fin : ∀ (H2 : Hp) (z : Addr), Same H' H2 → RowAt T.C H2 z (applyR c (rowOf ((cuttersOf t).take i) n)) → ∃ x v3 v4 v5, ([some (.ref o), some (.int n), some (.ref z), some (.str (kdS c.1)), some (.int c.2), some (.ref (T.A.fk c.1))] : List (Option V)) = [some (.ref o), some (.int n), some (.ref x), v3, v4, v5] ∧ Same H H2 ∧ RowAt T.C H2 x (rowOf ((cuttersOf t).take (i + 1)) n) := fun H2 z s2 hz => ⟨z, _, _, _, rfl, Same.trans s' s2, by rw [enx]; exact hz⟩
      refine ⟨c.1, rfl, _, rfl, _, rfl, ?_⟩
      obtain ⟨kd, d⟩ := c
      cases kd with
      | cut => exact ⟨x, _, d, rfl, hx, rb, cc.1, cc.2, fin⟩
      | fill => exact ⟨x, _, d, rfl, hx, rb, cc.1, cc.2, fin⟩
      | tail => exact ⟨x, _, d, rfl, hx, rb, cc.1, cc.2, fin⟩
    · rintro σ H' ⟨x, v3, v4, v5, rfl, s', hx⟩
      have lv := hC.len
      rw [lv, List.take_length] at hx
      exact ⟨_, rfl, k H' x s' hx⟩
end
end My

/-! is_integer_between, errors with one field -/
namespace My
open PySem L2 Cm LM
abbrev sIIB : Stmt := top 9
structure TxEr (K : PySem.W.Frag) (mg : Str → Option Value) (name fld : Str) (st : Stmt) (qual : Str) where
  C : Addr
  f : Addr
  fd : FuncData
  g : mg name = some (.ref C)
  o : OexC K C
  i : PySem.W.findIn K (.ref C) "__init__" = some (some (.ref f))
  t : PySem.W.typeIn K (.ref f) = some (.type "function")
  n : PySem.W.findIn K (.ref C) fld = some none
  F : Fun K "__init__" qual st f fd
  b : Binds K fd ["self", fld] []
structure TxI (K : PySem.W.Frag) (mg : Str → Option Value) where
  isi : mg "isinstance" = none
  int : mg "int" = none
  bool : mg "bool" = none
  iib : Df K mg "is_integer_between" sIIB ["value", "low", "high"]
section
variable {P : Program} {w : World} {K : PySem.W.Frag} {mg : Str → Option Value} {base : Heap}
def spER (fld : Str) (CE : Addr) : Sp := fun vs H Q _ => ∃ (a : Addr) (v : V), vs = [.ref a, v] ∧ H a = some (exo a CE none) ∧ ∀ dx, H dx = none → dx ≠ a → Q .non (upd (upd H dx (exd dx [(fld, v)])) a (exo a CE (some dx)))
theorem mk_er {fld : Str} {CE : Addr} {ta : TA} {σ : St} {H : Hp} {Q : XK} {x : V} (h : ta σ H fun vs H1 => vs = [x] ∧ H1 = H) (mono : ∀ {R R' : List V → Hp → Prop}, ta σ H R → (∀ v H1, R v H1 → R' v H1) → ta σ H R')
    (q : ∀ d, H d = none → Q (.ref CE) (some d) (upd H d (.xd [(fld, x)]))) : tMkO CE (spER fld CE) [] ta σ H Q := by
  refine mono h fun vs H1 hh => ?_
  obtain ⟨rfl, rfl⟩ := hh
  refine ⟨by show 1 ≤ 1000; decide, fun a na => ⟨a, x, rfl, upd_same, fun dx ndx nda => ⟨rfl, dx, [(fld, x)], upd_same, ?_, ?_, ?_⟩⟩⟩
  · rw [upd_ne nda, upd_same]
  · rw [upd_ne nda] at ndx
    exact ndx
  · have e : upd (del (upd (upd (upd H1 a (exo a CE none)) dx (exd dx [(fld, x)])) a (exo a CE (some dx))) a) dx (.xd [(fld, x)]) = upd H1 dx (.xd [(fld, x)]) := by
      funext b
      by_cases h1 : b = dx
      · rw [h1, upd_same, upd_same]
      · rw [upd_ne h1, upd_ne h1]
        by_cases h2 : b = a
        · rw [h2, del_same, na]
        · rw [del_ne h2, upd_ne h2, upd_ne h1, upd_ne h2]
    rw [e]
    rw [upd_ne nda] at ndx
    exact q dx ndx
/-! ### is_integer_between -/
def isI : V → Bool
  | .int _ => true
  | _ => false
def isB : V → Bool
  | .bl _ => true
  | _ => false
/-- an integer within these bounds -/
def btw (lo hi : Int) : V → Bool
  | .int i => decide (lo ≤ i ∧ i ≤ hi)
  | _ => false
def TypedI (K : PySem.W.Frag) (H : Hp) (x : V) : Prop := ∃ t, TyX K H x t ∧ PySem.W.kitOne K t (.type "int") = some (isI x || isB x) ∧ PySem.W.kitOne K t (.type "bool") = some (isB x)
theorem TypedI.same {H H' : Hp} {x : V} (s : Same H H') (h : TypedI K H x) : TypedI K H' x := let ⟨t, a, b⟩ := h; ⟨t, TyX_same s a, b⟩
theorem typed_int {H : Hp} (i : Int) : TypedI K H (.int i) := ⟨_, .base (.int i), kit_ty (show kitB "int" "int" = some true by decide +kernel), kit_ty (show kitB "int" "bool" = some false by decide +kernel)⟩
theorem typed_bl {H : Hp} (i : Bool) : TypedI K H (.bl i) := ⟨_, .base (.bl i), kit_ty (show kitB "bool" "int" = some true by decide +kernel), kit_ty (show kitB "bool" "bool" = some true by decide +kernel)⟩
def spIIB (K : PySem.W.Frag) : Sp := fun vs H Q _ => ∃ (v : V) (lo hi : Int), vs = [v, .int lo, .int hi] ∧ TypedI K H v ∧ Q (.bl (btw lo hi v)) H
theorem scIIB : FnScope ["value", "low", "high"] ["value", "low", "high"] (defScope sIIB) := ⟨rfl, rfl, rfl, by decide +kernel, rfl, by decide +kernel, by decide +kernel⟩
theorem ok_iib (M : TxI K mg) : FnOk P w K mg base CX0 1 M.iib.f M.iib.fd ["value", "low", "high"] (spIIB K) := by
  refine M.iib.F.ok scIIB (fun vs H Q E h => ?_) (fun cdv A outer s H vs Q E hr h => ?_)
  · obtain ⟨v, lo, hi, rfl, _⟩ := h
    rfl
  · obtain ⟨v, lo, hi, rfl, ⟨t, ty, k1, k2⟩, k⟩ := h
    refine ⟨_, pss_one (ps_ret (pe_and (pe_callB call_isi (by rfl) M.isi (by decide +kernel) (pa_cons (pv 0) (pa_cons (pe_bltn (v := .ty "int") (by rfl) M.int (by decide +kernel) rfl) pa_nil)))
      (pe_and (pe_not (pe_callB call_isi (by rfl) M.isi (by decide +kernel) (pa_cons (pv 0) (pa_cons (pe_bltn (v := .ty "bool") (by rfl) M.bool (by decide +kernel) rfl) pa_nil))))
        (pe_one (pe_chain op_le op_le (pv 1) (pv 0) (pv 2)))))), ?_⟩
    refine ⟨_, rfl, _, _, _, _, _, rfl, .ty "int", ty, k1, _, rfl, ?_⟩
    cases hv : (isI v || isB v) with
    | false =>
      refine iteF ?_
      have e : btw lo hi v = false := by
        cases v <;> first | rfl | cases hv
      rw [e] at k
      exact k
    | true =>
      refine iteT ?_
      refine ⟨_, rfl, _, _, _, _, _, rfl, .ty "bool", ty, k2, _, rfl, _, rfl, ?_⟩
      cases hb : isB v with
      | true =>
        have e : btw lo hi v = false := by
          cases v <;> first | rfl | cases hb
        rw [e] at k
        exact iteF k
      | false =>
        refine iteT ?_
        rw [hb, Bool.or_false] at hv
        obtain ⟨i, rfl⟩ : ∃ i, v = .int i := by
          cases v <;> first | exact ⟨_, rfl⟩ | cases hv
        refine ⟨_, rfl, _, rfl, _, _, rfl, rfl, _, rfl, ?_⟩
        have k : Q (.bl (decide (lo ≤ i ∧ i ≤ hi))) H := k
        refine ite2 (fun c => ?_) (fun c => ?_)
        · refine ⟨_, rfl, _, _, rfl, rfl, ?_⟩
          have c1 : lo ≤ i := of_decide_eq_true c
          have e : decide (lo ≤ i ∧ i ≤ hi) = decide (i ≤ hi) := decide_eq_decide.mpr ⟨fun z => z.2, fun z => ⟨c1, z⟩⟩
          rw [e] at k
          exact k
        · have c1 : ¬ lo ≤ i := fun z => c (decide_eq_true z)
          rw [show decide (lo ≤ i ∧ i ≤ hi) = false from decide_eq_false fun z => c1 z.1] at k
          exact k
end
end My

/-! Row.sizes, check_chain -/
namespace My
open PySem L2 Cm LM CH
abbrev sENC : Stmt := inClass (top 3) 0
theorem scENC : FnScope ["self", "value"] ["self", "value"] (defScope sENC) := ⟨rfl, rfl, rfl, by decide +kernel, rfl, by decide +kernel, by decide +kernel⟩
theorem ok_enc {P : Program} {w : World} {K : PySem.W.Frag} {mg : Str → Option Value} {base : Heap} (T : TxEr K mg "NotAChain" "value" sENC "NotAChain.__init__") : FnOk P w K mg base CX0 1 T.f T.fd ["self", "value"] (spER "value" T.C) := by
  refine T.F.ok scENC (fun vs H Q E h => ?_) (fun cdv A outer s H vs Q E hr h => ?_)
  · obtain ⟨a, v, rfl, _⟩ := h
    rfl
  · obtain ⟨a, v, rfl, ha, k⟩ := h
    exact ⟨_, pss_one (ps_ost (pv 0) (pv 1)), _, rfl, _, rfl, a, T.C, rfl, T.o, T.n, .inl ⟨ha, fun dx n ne => k dx n ne⟩⟩
abbrev sRS : Stmt := inClass (top 11) 2
abbrev sCC : Stmt := top 22
/-- the class as a type -/
structure TyC (K : PySem.W.Frag) (C : Addr) : Prop where
  c1 : PySem.W.findIn K (.ref C) "__class__" = some (some (.builtin "object.__class__"))
  c2 : PySem.W.specialIn K (.builtin "object.__class__") "__get__" = some (some (.builtin "getset_descriptor.__get__"))
  c3 : PySem.W.takesIn K (.builtin "object.__class__") = some true
  c4 : PySem.W.mroIn K C (.type "object") = some true
  k1 : PySem.W.kitOne K (.ref C) (.ref C) = some true
structure TxS (w : World) (K : PySem.W.Frag) (mg : Str → Option Value) where
  R : TxRw w K mg
  I : TxI K mg
  ty : TyC K R.A.C
  eC : TxEr K mg "NotAChain" "value" sENC "NotAChain.__init__"
  rs : Mt K R.C "sizes" "Row.sizes" sRS ["self"]
  cc : Df K mg "check_chain" sCC ["chain"]
theorem rep_flat (u : List Nat) : ∀ k, (List.replicate k (nvs u)).flatten = nvs (List.replicate k u).flatten
  | 0 => rfl
  | k + 1 => by rw [List.replicate_succ, List.flatten_cons, rep_flat u k, List.replicate_succ, List.flatten_cons, nvs_app]
section
variable {P : Program} {w : World} {K : PySem.W.Frag} {mg : Str → Option Value} {base : Heap}
theorem ChainAt.ty (T : TxA w K mg) (c : TyC K T.C) {H : Hp} {o : Addr} {t : Str} (h : ChainAt T.C H o t) : TyX K H (.ref o) (.ref T.C) := by
  obtain ⟨dx, p, vs, e, _⟩ := h
  exact .base (.ins e T.cl c.c1 c.c2 c.c3 c.c4)
def spRS (C : Addr) : Sp := fun vs H Q _ => ∃ (o : Addr) (r : Rw), vs = [.ref o] ∧ RowAt C H o r ∧ RB r ∧ r.tot ≤ 1000 ∧ ∀ (H' : Hp) (q : Addr), Same H H' → H' q = some (.tup (nvs r.sizes)) → Q (.ref q) H'
theorem scRS : FnScope ["self"] ["self"] (defScope sRS) := ⟨rfl, rfl, rfl, by decide +kernel, rfl, by decide +kernel, by decide +kernel⟩
theorem ok_rs (T : TxS w K mg) : FnOk P w K mg base CX0 1 T.rs.f T.rs.fd ["self"] (spRS T.R.C) := by
  refine T.rs.F.ok scRS (fun vs H Q E h => ?_) (fun cdv A outer s H vs Q E hr h => ?_)
  · obtain ⟨o, r, rfl, _⟩ := h
    rfl
  · obtain ⟨o, r, rfl, ⟨dx, pu, pl, e, hu, hl⟩, b, ht, k⟩ := h
    refine ⟨_, (pss_one (ps_ret (pe_op op_catH (pe_op RwR.op_repN (pe_fld (pv 0) rfl) (pe_fld (pv 0) rfl)) (pe_fld (pv 0) rfl)))), ?_⟩
    have b1 := b.ul
    have b2 := b.ll
    have b3 := b.tt
    refine ⟨_, rfl, o, T.R.C, dx, _, _, rfl, e, T.R.cl, T.R.nU, rf_u .., _, rfl, o, T.R.C, dx, _, _, rfl, e, T.R.cl, T.R.nT, rf_t .., pu, r.times, _, rfl, rfl, hu, by omega, by rw [nvs_len]; omega, fun _ => by omega, fun H1 q1 s1 hq1 => ?_⟩
    rw [rep_flat] at hq1
    refine ⟨_, rfl, o, T.R.C, dx, _, _, rfl, s1 _ _ e, T.R.cl, T.R.nL, rf_l .., q1, pl, _, _, rfl, rfl, hq1, s1 _ _ hl, ?_, fun H2 q2 s2 hq2 => ?_⟩
    · rw [nvs_len, nvs_len, rep_len]
      have : r.times * r.unit.length ≤ 1000 * 12 := Nat.mul_le_mul (by omega) b1
      exact Nat.le_of_lt (szM (by omega))
    · rw [← nvs_app] at hq2
      exact k H2 q2 (Same.trans s1 s2) hq2
def spCC (K : PySem.W.Frag) (C CE : Addr) : Sp := fun vs H Q E => ∃ v : V, vs = [v] ∧ ((∃ (o : Addr) (t : Str), v = .ref o ∧ ChainAt C H o t ∧ Q .non H) ∨ ∃ ty, TyX K H v ty ∧ PySem.W.kitOne K ty (.ref C) = some false ∧ ∀ d, H d = none → E (.ref CE) (some d) (upd H d (.xd [("value", v)])))
theorem scCC : FnScope ["chain"] ["chain"] (defScope sCC) := ⟨rfl, rfl, rfl, by decide +kernel, rfl, by decide +kernel, by decide +kernel⟩
theorem ok_cc (T : TxS w K mg) : FnOk P w K mg base (L2.CX P w) 3 T.cc.f T.cc.fd ["chain"] (spCC K T.R.A.C T.eC.C) := by
  have GE : FnOk P w K mg base CX0 1 T.eC.f T.eC.fd ["self", "value"] (spER "value" T.eC.C) := ok_enc T.eC
  refine T.cc.F.okX scCC (fun vs H Q E h => ?_) (fun cdv A outer s H vs Q E hr h => ?_)
  · obtain ⟨v, rfl, _⟩ := h
    rfl
  · obtain ⟨v, rfl, k⟩ := h
    refine ⟨_, pss_one (ps_if (pt_not (pt_val (pe_callB call_isi (by rfl) T.I.isi (by decide +kernel) (pa_cons (pv 0) (pa_cons (pe_glob (v := .ref T.R.A.C) rfl T.R.A.gC rfl) pa_nil)))))
      (pss_one (ps_raise rfl (takes_of rfl rfl rfl rfl) (pmk_oex T.eC.o T.eC.i T.eC.t GE hr T.eC.b .nil pass0 rfl T.eC.g (pa_cons (pv 0) pa_nil)))) pss_nil), ?_⟩
    rcases k with ⟨o, t, rfl, hO, k⟩ | ⟨ty, hty, kt, k⟩
    · exact ⟨_, rfl, _, _, _, _, true, rfl, .own T.R.A.C, hO.ty T.R.A T.ty, T.ty.k1, true, rfl, iteF k⟩
    · refine ⟨_, rfl, _, _, _, _, false, rfl, .own T.R.A.C, hty, kt, false, rfl, iteT ?_⟩
      exact mk_er (x := v) ⟨v, rfl, rfl, rfl⟩ (fun {R R'} ⟨v, e1, q⟩ f => ⟨v, e1, f _ _ q⟩) k
end
end My

/-! first_difference -/
namespace My
open PySem L2 Cm LM CH
abbrev sASp : Stmt := top 25
abbrev sFD : Stmt := top 26
structure TxF (w : World) (K : PySem.W.Frag) (mg : Str → Option Value) where
  S : TxS w K mg
  mt : ∃ t, mg "MOST_TELLING" = some (.int 216 t)
  asp : Df K mg "are_split" sASp ["chain", "other_chain", "items"]
  fd : Df K mg "first_difference" sFD ["chain", "other_chain"]
/-! ### rows of counts as data -/
def natD (xs : List Nat) : List PyData := xs.map fun n => PyData.int (n : Nat)
theorem dp_nat {K : PySem.W.Frag} {H : Hp} : ∀ xs : List Nat, DpAll K H (nvs xs) (natD xs)
  | [] => .nil
  | x :: r => .cons (.int _) (dp_nat r)
theorem natD_lay : ∀ xs : List Nat, PyData.canLayAll0 (natD xs) = true ∧ PyData.depthAll (natD xs) = 0
  | [] => ⟨by simp [natD, PyData.canLayAll0], by simp [natD, PyData.depthAll]⟩
  | x :: r => by
    obtain ⟨a, b⟩ := natD_lay r
    have e : natD (x :: r) = PyData.int (x : Nat) :: natD r := rfl
    rw [e]
    refine ⟨?_, ?_⟩
    · rw [PyData.canLayAll0, a]; simp [PyData.canLay0]
    · rw [PyData.depthAll, b]; simp [PyData.depth]
theorem natT_shaped (xs : List Nat) : SeqAt.shaped (.tuple (natD xs)) = true := by
  obtain ⟨a, b⟩ := natD_lay xs
  unfold SeqAt.shaped
  rw [Bool.and_eq_true]
  refine ⟨by rw [PyData.canLay0]; exact a, decide_eq_true ?_⟩
  rw [PyData.depth, b]
  decide
theorem natL_shaped (xs : List Nat) : SeqAt.shaped (.list (natD xs)) = true := by
  obtain ⟨a, b⟩ := natD_lay xs
  unfold SeqAt.shaped
  rw [Bool.and_eq_true]
  refine ⟨by rw [PyData.canLay0]; exact a, decide_eq_true ?_⟩
  rw [PyData.depth, b]
  decide
theorem nat_eqv : ∀ xs ys : List Nat, PyData.eqvAll (natD xs) (natD ys) = decide (xs = ys)
  | [], [] => by simp [natD, PyData.eqvAll]
  | [], y :: r => by simp [natD, PyData.eqvAll]
  | x :: r, [] => by simp [natD, PyData.eqvAll]
  | x :: r, y :: z => by
    have e1 : natD (x :: r) = PyData.int (x : Nat) :: natD r := rfl
    have e2 : natD (y :: z) = PyData.int (y : Nat) :: natD z := rfl
    rw [e1, e2, PyData.eqvAll, nat_eqv r z, PyData.eqv]
    by_cases h : x = y
    · subst h
      simp
    · have : ((x : Nat) : Int) ≠ ((y : Nat) : Int) := by omega
      simp [h, this]
/-- the least number of items up to this one for which the rows differ -/
def firstD (cs ds : List (Kd × Nat)) : Option Nat := (List.range 217).find? fun n => decide (lens cs n ≠ lens ds n)
theorem firstD_some {cs ds : List (Kd × Nat)} {n : Nat} : firstD cs ds = some n ↔ n ≤ 216 ∧ lens cs n ≠ lens ds n ∧ ∀ m, m < n → lens cs m = lens ds m := by
  unfold firstD
  rw [List.find?_range_eq_some]
  constructor
  · rintro ⟨a, b, c⟩
    refine ⟨by have := List.mem_range.mp b; omega, of_decide_eq_true a, fun m hm => ?_⟩
    have := c m hm
    simpa using this
  · rintro ⟨a, b, c⟩
    refine ⟨decide_eq_true b, List.mem_range.mpr (by omega), fun m hm => ?_⟩
    simpa using c m hm
theorem firstD_none {cs ds : List (Kd × Nat)} : firstD cs ds = none ↔ ∀ m, m ≤ 216 → lens cs m = lens ds m := by
  unfold firstD
  rw [List.find?_eq_none]
  constructor
  · intro h m hm
    simpa using h m (List.mem_range.mpr (by omega))
  · intro h m hm
    have := h m (by have := List.mem_range.mp hm; omega)
    simpa using this
def optV : Option Nat → V
  | none => .non
  | some n => .int (n : Nat)
section
variable {P : Program} {w : World} {K : PySem.W.Frag} {mg : Str → Option Value} {base : Heap}
def spASp (CA : Addr) : Sp := fun vs H Q _ => ∃ (o1 o2 : Addr) (t1 t2 : Str) (n : Nat), vs = [.ref o1, .ref o2, .int n] ∧ ChainAt CA H o1 t1 ∧ ChainAt CA H o2 t2 ∧ goodC t1 = true ∧ goodC t2 = true ∧ n ≤ 1000 ∧
  ∀ H', Same H H' → Q (.bl (!decide (lens (cuttersOf t1) n = lens (cuttersOf t2) n))) H'
theorem scASp : FnScope ["chain", "other_chain", "items"] ["chain", "other_chain", "items"] (defScope sASp) := ⟨rfl, rfl, rfl, by decide +kernel, rfl, by decide +kernel, by decide +kernel⟩
theorem ok_asp (T : TxF w K mg) : FnOk P w K mg base CX0 6 T.asp.f T.asp.fd ["chain", "other_chain", "items"] (spASp T.S.R.A.C) := by
  have GO : FnOk P w K mg base CX0 5 T.S.R.ro.f T.S.R.ro.fd ["self", "items"] (spRO T.S.R.A.C T.S.R.C) := ok_ro T.S.R
  have GS : FnOk P w K mg base CX0 1 T.S.rs.f T.S.rs.fd ["self"] (spRS T.S.R.C) := ok_rs T.S
  refine T.asp.F.ok scASp (fun vs H Q E h => ?_) (fun cdv A outer s H vs Q E hr h => ?_)
  · obtain ⟨o1, o2, t1, t2, n, rfl, _⟩ := h
    rfl
  · obtain ⟨o1, o2, t1, t2, n, rfl, h1, h2, g1, g2, hn, k⟩ := h
    have hr1 : Room 1 _ := hr.mono (by decide)
    refine ⟨_, (pss_one (ps_ret (pe_cmpR (op_neD (hu64 hr)) (pe_meth0 (pe_meth (pv 0) T.S.R.A.cl T.S.R.ro.m GO hr T.S.R.ro.b .nil pass0 (pa_cons (pv 2) pa_nil)) T.S.R.cl T.S.rs.m GS hr1 T.S.rs.b .nil pass0) (pe_meth0 (pe_meth (pv 1) T.S.R.A.cl T.S.R.ro.m GO hr T.S.R.ro.b .nil pass0 (pa_cons (pv 2) pa_nil)) T.S.R.cl T.S.rs.m GS hr1 T.S.rs.b .nil pass0) (nomark _)))), ?_⟩
    have no : ∀ {t : Str} {q : Addr}, (cf t q).lookup ("row_of" : Str) = none := cf_no _ _ (by decide +kernel) (by decide +kernel)
    have rb1 : RB (rowOf (cuttersOf t1) n) := rb_row cutters_ct (cutters_len g1).1 (by omega)
    have rb2 : RB (rowOf (cuttersOf t2) n) := rb_row cutters_ct (cutters_len g2).1 (by omega)
    obtain ⟨d1, p1, v1, e1, _⟩ := id h1
    refine ⟨_, rfl, o1, d1, _, rfl, e1, no, _, rfl, o1, t1, n, rfl, h1, g1, by omega, fun H1 x1 s1 hx1 => ?_⟩
    obtain ⟨dr, pu, pl, er, _⟩ := id hx1
    refine ⟨x1, dr, _, rfl, er, (rf_no ..).2.1, x1, _, rfl, hx1, rb1, by rw [row_tot]; exact hn, fun H2 q1 s2 hq1 => ?_⟩
    rw [row_sizes] at hq1
    have h22 := h2.same (Same.trans s1 s2)
    obtain ⟨d2, p2, v2, e2, _⟩ := id h22
    refine ⟨_, rfl, o2, d2, _, rfl, e2, no, _, rfl, o2, t2, n, rfl, h22, g2, by omega, fun H3 x2 s3 hx2 => ?_⟩
    obtain ⟨dr2, pu2, pl2, er2, _⟩ := id hx2
    refine ⟨x2, dr2, _, rfl, er2, (rf_no ..).2.1, x2, _, rfl, hx2, rb2, by rw [row_tot]; exact hn, fun H4 q2 s4 hq2 => ?_⟩
    rw [row_sizes] at hq2
    refine ⟨.tuple (natD (lens (cuttersOf t1) n)), .tuple (natD (lens (cuttersOf t2) n)), .tup (SqT.of (s4 _ _ (s3 _ _ hq1))) (dp_nat _), .tup (SqT.of hq2) (dp_nat _), natT_shaped _, natT_shaped _, ?_⟩
    rw [PyData.eqv, nat_eqv]
    exact k H4 (Same.trans (Same.trans s1 s2) (Same.trans s3 s4))
def spFD (K : PySem.W.Frag) (CA CE : Addr) : Sp := fun vs H Q E => ∃ v1 v2 : V, vs = [v1, v2] ∧
  ((∃ ty, TyX K H v1 ty ∧ PySem.W.kitOne K ty (.ref CA) = some false ∧ ∀ d, H d = none → E (.ref CE) (some d) (upd H d (.xd [("value", v1)]))) ∨
   ∃ (o1 : Addr) (t1 : Str), v1 = .ref o1 ∧ ChainAt CA H o1 t1 ∧ goodC t1 = true ∧
    ((∃ ty, TyX K H v2 ty ∧ PySem.W.kitOne K ty (.ref CA) = some false ∧ ∀ d, H d = none → E (.ref CE) (some d) (upd H d (.xd [("value", v2)]))) ∨
     ∃ (o2 : Addr) (t2 : Str), v2 = .ref o2 ∧ ChainAt CA H o2 t2 ∧ goodC t2 = true ∧ ∀ H', Same H H' → Q (optV (firstD (cuttersOf t1) (cuttersOf t2))) H'))
theorem scFD : FnScope ["chain", "other_chain", "items"] ["chain", "other_chain"] (defScope sFD) := ⟨rfl, rfl, rfl, by decide +kernel, rfl, by decide +kernel, by decide +kernel⟩
theorem ok_fd (T : TxF w K mg) : FnOk P w K mg base (L2.CX P w) 7 T.fd.f T.fd.fd ["chain", "other_chain"] (spFD K T.S.R.A.C T.S.eC.C) := by
  have GC : FnOk P w K mg base (L2.CX P w) 3 T.S.cc.f T.S.cc.fd ["chain"] (spCC K T.S.R.A.C T.S.eC.C) := ok_cc T.S
  have GA : FnOk P w K mg base CX0 6 T.asp.f T.asp.fd ["chain", "other_chain", "items"] (spASp T.S.R.A.C) := ok_asp T
  obtain ⟨tm, mm⟩ := T.mt
  refine T.fd.F.okX scFD (fun vs H Q E h => ?_) (fun cdv A outer s H vs Q E hr h => ?_)
  · obtain ⟨v1, v2, rfl, _⟩ := h
    rfl
  · obtain ⟨v1, v2, rfl, hh⟩ := h
    have hr3 : Room 3 _ := hr.mono (by decide)
    refine ⟨_, (pss_cons (ps_expr (pe_call (E := E) GC hr3 rfl T.S.cc.g T.S.cc.k T.S.cc.b .nil (passes_call (takes_of rfl rfl rfl rfl) fun _ _ _ _ z => z) (pa_cons (pv 0) pa_nil))) (pss_cons (ps_expr (pe_call (E := E) GC hr3 rfl T.S.cc.g T.S.cc.k T.S.cc.b .nil (passes_call (takes_of rfl rfl rfl rfl) fun _ _ _ _ z => z) (pa_cons (pv 1) pa_nil))) (pss_cons (ps_for (passes_of rfl) rfl (pi_range1 rfl T.S.R.A.range (pa_cons (pe_op op_add (pe_glob (v := .int 216) rfl mm ⟨_, rfl⟩) pe_int) pa_nil)) (pg_name (i := 2) scFD.nd rfl (.inl rfl)) (pss_one (ps_if (pt_val (pe_call GA hr rfl T.asp.g T.asp.k T.asp.b .nil pass0 (pa_cons (pv 0) (pa_cons (pv 1) (pa_cons (pv 2) pa_nil))))) (pss_one (ps_ret (pv 2))) pss_nil))) (pss_one (ps_ret pe_non))))), ?_⟩
    rcases hh with ⟨ty, hty, hk, kE⟩ | ⟨o1, t1, rfl, h1, g1, hh⟩
    · exact ⟨_, rfl, v1, rfl, .inr ⟨ty, hty, hk, kE⟩⟩
    refine ⟨_, rfl, .ref o1, rfl, .inl ⟨o1, t1, rfl, h1, ?_⟩⟩
    rcases hh with ⟨ty, hty, hk, kE⟩ | ⟨o2, t2, rfl, h2, g2, k⟩
    · exact ⟨_, rfl, v2, rfl, .inr ⟨ty, hty, hk, kE⟩⟩
    refine ⟨_, rfl, .ref o2, rfl, .inl ⟨o2, t2, rfl, h2, ?_⟩⟩
    refine ⟨_, _, rfl, rfl, 217, rfl, by decide, by decide, for_range (lo := 0) (n := 217) (fun i σ H' => (∃ v2, σ = [some (.ref o1), some (.ref o2), v2]) ∧ Same H H' ∧ ∀ m, m < i → lens (cuttersOf t1) m = lens (cuttersOf t2) m) ⟨⟨none, rfl⟩, Same.refl _, fun m h => by omega⟩ ?_ ?_⟩
    · rintro i σ H1 hi ⟨⟨v2, rfl⟩, s1, he⟩
      have e0 : (0 : Int) + (i : Int) = ((i : Nat) : Int) := by omega
      refine ⟨_, rfl, _, rfl, _, rfl, o1, o2, t1, t2, i, by rw [e0]; rfl, h1.same s1, h2.same s1, g1, g2, by omega, fun H2 s2 => ⟨_, rfl, ?_⟩⟩
      by_cases c : lens (cuttersOf t1) i = lens (cuttersOf t2) i
      · rw [decide_eq_true c]
        refine iteF ⟨⟨_, rfl⟩, Same.trans s1 s2, fun m hm => ?_⟩
        rcases Nat.lt_or_ge m i with z | z
        · exact he m z
        · rw [show m = i by omega]; exact c
      · rw [decide_eq_false c]
        refine iteT ⟨_, rfl, ?_⟩
        have : firstD (cuttersOf t1) (cuttersOf t2) = some i := firstD_some.mpr ⟨by omega, c, he⟩
        rw [this] at k
        rw [e0]
        exact k H2 (Same.trans s1 s2)
    · rintro σ H1 ⟨⟨v2, rfl⟩, s1, he⟩
      have : firstD (cuttersOf t1) (cuttersOf t2) = none := firstD_none.mpr fun m hm => he m (by omega)
      rw [this] at k
      exact k H1 s1
end
end My

/-! the chains that the law draws -/
namespace My
open PySem L2 Cm LM CH
abbrev sCuts : Stmt := top 31
abbrev sCLine : Stmt := top 32
structure TxAd (K : PySem.W.Frag) (mg : Str → Option Value) where
  J : TxtJ mg
  range : mg "range" = none
  str : mg "str" = none
  sip : Df K mg "_law_sip" sSip ["_law_jar_here", "_law_many"]
  frm : Df K mg "_law_from" sFrom ["_law_jar_here", "_law_things"]
  cts : Df K mg "_law_cutters" sCuts ["_law_jar_here", "_law_most"]
  lin : Df K mg "_law_chain_line" sCLine ["_law_cutters_here"]
/-- a row of drawn cutters stands at p, away from the jar -/
def CutL (H : Hp) (p : Addr) (cs : List (Kd × Nat)) : Prop := ∃ vs, H p = some (.lst vs) ∧ Cuts H vs cs
theorem CutL.same {H H' : Hp} {p : Addr} {cs : List (Kd × Nat)} (s : Same H H') (h : CutL H p cs) : CutL H' p cs := let ⟨vs, a, b⟩ := h; ⟨vs, s _ _ a, b.same s⟩
theorem jar_tup {H H' : Hp} {j : Addr} (s : Off j H H') (hj : Jar H j) : ∀ (p : Addr) (xs : List V), H p = some (.tup xs) → H' p = some (.tup xs) := by
  obtain ⟨x, y, z, hj⟩ := hj
  exact fun p xs e => s _ _ (ne_of e hj (by intro z; cases z)) e
theorem CutL.off {j : Addr} {H H' : Hp} {p : Addr} {cs : List (Kd × Nat)} (s : Off j H H') (hj : Jar H j) (n : p ≠ j) (h : CutL H p cs) : CutL H' p cs := let ⟨vs, a, b⟩ := h; ⟨vs, s _ _ n a, b.mono (jar_tup s hj)⟩
theorem kd_of {i : Nat} {x : V} (h : (svs kds)[i]? = some x) : ∃ k, x = .str (kdS k) := by
  match i, h with
  | 0, h => exact ⟨.cut, (Option.some.inj h).symm⟩
  | 1, h => exact ⟨.fill, (Option.some.inj h).symm⟩
  | 2, h => exact ⟨.tail, (Option.some.inj h).symm⟩
  | n + 3, h => simp [svs, kds] at h
section
variable {P : Program} {w : World} {K : PySem.W.Frag} {mg : Str → Option Value} {base : Heap}
theorem ga_sip (D : TxAd K mg) : FnOk P w K mg base CX0 1 D.sip.f D.sip.fd ["_law_jar_here", "_law_many"] spSip := ok_sip D.sip.F D.J
theorem ga_from (D : TxAd K mg) : FnOk P w K mg base CX0 2 D.frm.f D.frm.fd ["_law_jar_here", "_law_things"] (spFrom K) := ok_from D.frm.F D.J ⟨D.sip.g, D.sip.k⟩ D.sip.F D.sip.b
/-! ### _law_cutters -/
def spCuts : Sp := fun vs H Q _ => ∃ (j : Addr) (m : Nat), vs = [.ref j, .int m] ∧ Jar H j ∧ 0 < m ∧ m ≤ 6 ∧
  ∀ (H' : Hp) (q : Addr) (cs : List (Kd × Nat)), Off j H H' → Jar H' j → H q = none → q ≠ j → CutL H' q cs → cs ≠ [] → cs.length ≤ m → (∀ c ∈ cs, Ct c) → Q (.ref q) H'
theorem scCuts : FnScope ["_law_jar_here", "_law_most", "_law_many", "_law_found", "_law_turn", "_law_word_here"] ["_law_jar_here", "_law_most"] (defScope sCuts) := ⟨rfl, rfl, rfl, by decide +kernel, rfl, by decide +kernel, by decide +kernel⟩
theorem ok_cuts (D : TxAd K mg) : FnOk P w K mg base CX0 3 D.cts.f D.cts.fd ["_law_jar_here", "_law_most"] spCuts := by
  have GS : FnOk P w K mg base CX0 1 D.sip.f D.sip.fd ["_law_jar_here", "_law_many"] spSip := ga_sip D
  have GF : FnOk P w K mg base CX0 2 D.frm.f D.frm.fd ["_law_jar_here", "_law_things"] (spFrom K) := ga_from D
  refine D.cts.F.ok scCuts (fun vs H Q E h => ?_) (fun cdv A outer s H vs Q E hr h => ?_)
  · obtain ⟨j, m, rfl, _⟩ := h
    rfl
  · obtain ⟨j, m, rfl, hJ, m0, m6, k⟩ := h
    have hr1 : Room 1 _ := hr.mono (by decide)
    refine ⟨_, pss_cons (ps_set (i := 2) scCuts.nd rfl (.inl rfl) (pe_op op_add pe_int (pe_call GS hr1 rfl D.sip.g D.sip.k D.sip.b .nil pass0 (pa_cons (pv 0) (pa_cons (pv 1) pa_nil)))))
      (pss_cons (ps_set (i := 3) scCuts.nd rfl (.inl rfl) (pe_lst pa_nil))
      (pss_cons (ps_for PassesOwn.never rfl (pi_range1 rfl D.range (pa_cons (pv 2) pa_nil)) (pg_name (i := 4) scCuts.nd rfl (Or.inl rfl))
        (pss_cons (ps_set (i := 5) scCuts.nd rfl (.inl rfl) (pe_call GF hr rfl D.frm.g D.frm.k D.frm.b .nil pass0 (pa_cons (pv 0) (pa_cons (pe_lst (pa_cons pe_str (pa_cons pe_str (pa_cons pe_str pa_nil)))) pa_nil))))
        (pss_one (ps_expr (pe_bm PySem.F.plainAttrs_list PySem.F.slot_list_append PySem.F.type_list_append mt_append (pv 3) (pa_cons (pe_tup (pa_cons (pv 5) (pa_cons (pe_op op_add pe_int (pe_call GS hr1 rfl D.sip.g D.sip.k D.sip.b .nil pass0 (pa_cons (pv 0) (pa_cons pe_int pa_nil)))) pa_nil))) pa_nil))))))
      (pss_one (ps_ret (pv 3))))), ?_⟩
    refine ⟨_, rfl, _, rfl, j, _, rfl, hJ, by omega, by omega, fun H1 d d0 d1 o1 J1 => ⟨_, _, rfl, rfl, ?_⟩⟩
    obtain ⟨n0, rfl⟩ := Int.eq_ofNat_of_zero_le d0
    refine ⟨Nat.zero_le _, fun q nq => ?_⟩
    have qj := jar_ne J1 nq
    have nq0 : H q = none := by
      cases e : H q with
      | none => rfl
      | some u =>
        rw [o1 q u qj e] at nq
        cases nq
    have e0 : ((1 : Int) + (n0 : Int)).toNat = n0 + 1 := by omega
    refine ⟨_, rfl, _, rfl, by omega, by omega, ?_⟩
    rw [e0]
    refine for_range (n := n0 + 1) (fun i σ H' => ∃ v4 v5 cs, σ = [some (.ref j), some (.int m), some (.int (1 + (n0 : Int))), some (.ref q), v4, v5] ∧ Off j H H' ∧ Jar H' j ∧ CutL H' q cs ∧ cs.length = i ∧ ∀ c ∈ cs, Ct c)
      ⟨none, none, [], rfl, o1.new nq, J1.new nq, ⟨[], upd_same, .nil⟩, rfl, fun c h => nomatch h⟩ ?_ ?_
    · rintro i σ H' hi ⟨v4, v5, cs, rfl, o2, J2, ⟨vs, hq, hC⟩, lc, hc⟩
      refine ⟨_, rfl, (by show 3 ≤ sizeLine; decide), fun l nl => ?_⟩
      have lj := jar_ne J2 nl
      refine ⟨j, l, svs kds, rfl, J2.new nl, lj, SqL.of upd_same, by decide, by decide, fun H3 ix x hx o3 J3 => ?_⟩
      obtain ⟨kd, rfl⟩ := kd_of hx
      have o23 : Off j H' H3 := Off.trans (Same.off (same_new nl)) o3
      have hq3 := o23 _ _ qj hq
      refine ⟨_, rfl, .inl ⟨rfl, _, SqL.of hq3⟩, _, rfl, _, rfl, j, _, rfl, J3, by decide, by decide, fun H4 d4 d40 d41 o4 J4 => ⟨_, _, rfl, rfl, (by show 2 ≤ sizeLine; decide), fun t nt => ?_⟩⟩
      obtain ⟨n4, rfl⟩ := Int.eq_ofNat_of_zero_le d40
      have o24 := o23.trans o4
      have hq4 := o24 _ _ qj hq
      have s5 : Same H4 (upd H4 t (.tup [.str (kdS kd), .int (1 + (n4 : Int))])) := same_new nt
      have ht5 : (upd H4 t (.tup [.str (kdS kd), .int (1 + (n4 : Int))])) t = some (.tup [.str (kdS (kd, n4 + 1).1), .int ((kd, n4 + 1).2 : Nat)]) := by
        rw [upd_same]
        have : (1 : Int) + (n4 : Int) = ((n4 + 1 : Nat) : Int) := by omega
        rw [this]
      have J5 := J4.same s5
      generalize upd H4 t (.tup [.str (kdS kd), .int (1 + (n4 : Int))]) = H5 at s5 ht5 J5 ⊢
      have hq5 := s5 _ _ hq4
      have lv := hC.len
      have st := tup_stays (o' := .lst (vs ++ [.ref t])) hq5 (by intro xs z; cases z)
      refine ⟨q, vs, .ref t, rfl, rfl, hq5, szM (by omega), ?_⟩
      have f25 : ∀ (p : Addr) (xs : List V), H' p = some (.tup xs) → H5 p = some (.tup xs) := fun p xs e => s5 _ _ (jar_tup o24 J2 p xs e)
      refine ⟨_, _, cs ++ [(kd, n4 + 1)], rfl, Off.put2 ((o2.trans o24).trans (Same.off s5)) nq0, J5.put qj, ⟨_, upd_same, Cuts.snoc (st _ _ ht5) ((hC.mono f25).mono st)⟩, by rw [List.length_append, lc]; rfl, fun c h => ?_⟩
      rcases List.mem_append.mp h with h | h
      · exact hc c h
      · rw [List.mem_singleton.mp h]
        exact ⟨by show 1 ≤ n4 + 1; omega, by show n4 + 1 ≤ 12; omega⟩
    · rintro σ H' ⟨v4, v5, cs, rfl, o2, J2, hL, lc, hc⟩
      exact ⟨_, rfl, k H' q cs o2 J2 nq0 qj hL (fun e => by rw [e] at lc; cases lc) (by omega) hc⟩
/-! ### _law_chain_line -/
def spCLine : Sp := fun vs H Q _ => ∃ (p : Addr) (cs : List (Kd × Nat)), vs = [.ref p] ∧ CutL H p cs ∧ cs.length ≤ 100 ∧ (∀ c ∈ cs, Ct c) ∧ ∀ H', Same H H' → Q (.str (cline cs)) H'
theorem scCLine : FnScope ["_law_cutters_here", "_law_word_here", "_law_wide"] ["_law_cutters_here"] (defScope sCLine) := ⟨rfl, rfl, rfl, by decide +kernel, rfl, by decide +kernel, by decide +kernel⟩
theorem ok_cline (D : TxAd K mg) : FnOk P w K mg base CX0 1 D.lin.f D.lin.fd ["_law_cutters_here"] spCLine := by
  refine D.lin.F.ok scCLine (fun vs H Q E h => ?_) (fun cdv A outer s H vs Q E hr h => ?_)
  · obtain ⟨p, cs, rfl, _⟩ := h
    rfl
  · obtain ⟨p, cs, rfl, ⟨vs, hp, hC⟩, hl, hc, k⟩ := h
    refine ⟨_, pss_one (ps_ret (pe_join pe_str (pe_lc (own := [("_law_word_here", 1), ("_law_wide", 2)]) (g := gTup K 2 (gCons (gName 1) (gCons (gName 2) gNil))) (tt := tYes) rfl scCLine.nd (pi_list (pv 0))
      (blkOk_by (own := [("_law_word_here", 1), ("_law_wide", 2)]) (N := ["_law_cutters_here", "_law_word_here", "_law_wide"]) (sc := defScope sCLine) (by decide +kernel)) (fun _ _ _ _ _ => by exact pg_tup rfl (pgs_cons (pg_name (i := 1) scCLine.nd rfl (Or.inl rfl)) (pgs_cons (pg_name (i := 2) scCLine.nd rfl (Or.inl rfl)) pgs_nil))) (fun _ _ _ _ _ => pts_nil)
      (fun _ _ _ _ _ => pe_op op_add_str (pe_op op_add_str (pv 1) pe_str) (pe_callTy call_str_int (by rfl) D.str (by decide +kernel) (pa_cons (pv 2) pa_nil)))))), ?_⟩
    refine ⟨⟨_, rfl⟩, _, rfl, p, rfl, ⟨_, SqL.of hp⟩, fun Dd nD => lc_list (K := K) (a := p) (xs := vs) (fun i H' => Same H H' ∧ H' Dd = some (.lst (svs ((cs.take i).map cutT)))) ⟨same_new nD, upd_same⟩ (fun i H' _ ⟨s', _⟩ => SqL.of (s' _ _ hp)) ?_ ?_⟩
    · rintro i y H' hy ⟨s', hD⟩
      obtain ⟨q, c, hq, rfl, hqc⟩ := hC.get hy
      have cc := hc c (List.mem_of_getElem? hq)
      have f := cc.f
      have ll := f.l
      have l2 : (cutT c).length = (kdS c.1 ++ (" " : Str)).length + (nS c.2).length := by unfold cutT; rw [strLen_append]
      refine ⟨q, _, rfl, SqT.of (s' _ _ hqc), rfl, _, _, rfl, _, _, rfl, rfl, rfl, ?_⟩
      refine ⟨_, rfl, _, _, rfl, rfl, szl (by rw [strLen_append] at l2; omega), _, rfl, _, rfl, ?_, _, _, rfl, rfl, szl (by show (kdS c.1 ++ (" " : Str)).length + (nS c.2).length ≤ 1000; omega), ?_⟩
      · have c2 := cc.2
        show ((c.2 : Nat) : Int).natAbs.log2 < 1920
        rw [Int.natAbs_natCast]
        exact Nat.lt_of_le_of_lt (Nat.log2_le_self _) (by omega)
      · refine ⟨_, hD, ?_, fun b o z => ?_, ?_⟩
        · rw [show (svs ((cs.take i).map cutT)).length = (cs.take i).length by simp [svs], List.length_take]
          exact szM (by omega)
        · rw [upd_ne (ne_of_none z nD)]
          exact s' _ _ z
        · rw [upd_same, take_snoc hq, List.map_append]
          simp [svs, cutT, nS]
    · rintro H' ⟨s', hD⟩
      have lv := hC.len
      rw [lv, List.take_length] at hD
      refine ⟨", ", Dd, cs.map cutT, rfl, rfl, .inl (SqL.of hD), ?_, k H' s'⟩
      have := line_sum hc
      rw [List.length_map]
      have e : (", " : Str).length = 2 := by decide +kernel
      rw [e]
      omega
end
end My

/-! rows of pieces: they repeat -/
namespace CH
def sh (k : Nat) (r : Rw) : Rw := ⟨r.unit, r.times + k, r.last⟩
def pot (r : Rw) : Nat := r.times + (if r.last = [] then 0 else 1)
theorem sh_sizes (k : Nat) (r : Rw) : (sh k r).sizes = (List.replicate k r.unit).flatten ++ r.sizes := by
  show (List.replicate (r.times + k) r.unit).flatten ++ r.last = _ ++ ((List.replicate r.times r.unit).flatten ++ r.last)
  rw [Nat.add_comm, ← List.replicate_append_replicate, List.flatten_append, List.append_assoc]
theorem sh_tot (k : Nat) (r : Rw) : (sh k r).tot = k * r.unit.sum + r.tot := by
  show (r.times + k) * r.unit.sum + r.last.sum = _ + (r.times * r.unit.sum + r.last.sum)
  rw [Nat.add_mul]
  omega
theorem pot_many {r : Rw} (hu : r.unit ≠ []) : pot r ≤ r.many := by
  unfold pot Rw.many
  have h1 : 1 ≤ r.unit.length := List.length_pos_iff.mpr hu
  have h2 : r.times * 1 ≤ r.times * r.unit.length := Nat.mul_le_mul_left _ h1
  by_cases e : r.last = []
  · rw [if_pos e]; omega
  · rw [if_neg e]
    have := List.length_pos_iff.mpr e
    omega
theorem pot_sh (k : Nat) (r : Rw) : pot (sh k r) = pot r + k := by
  show r.times + k + (if r.last = [] then 0 else 1) = r.times + (if r.last = [] then 0 else 1) + k
  omega
theorem cutR_many {r : Rw} {w : Nat} (h : 2 ≤ r.many) : cutR r w = ⟨chop r.unit w, r.times, chop r.last w⟩ := by
  unfold cutR
  rw [if_neg (by omega)]
theorem sh_cut {r : Rw} (k w : Nat) (hu : r.unit ≠ []) (hp : 2 ≤ pot r) : cutR (sh k r) w = sh k (cutR r w) := by
  have h1 := pot_many hu
  have h2 : pot (sh k r) ≤ (sh k r).many := pot_many hu
  rw [pot_sh] at h2
  rw [cutR_many (by omega), cutR_many (by omega)]
  rfl
theorem pull_ge {u : List Nat} {t : Nat} {l : List Nat} (h : 2 ≤ l.length) : pull u t l = (t, l) := by
  cases t with
  | zero => rfl
  | succ t =>
    rw [pull, if_neg (by omega)]
theorem pull_one {u : List Nat} {t : Nat} {x : Nat} (hu : u ≠ []) : pull u (t + 1) [x] = (t, u ++ [x]) := by
  rw [pull, if_pos (show [x].length < 2 from (by decide : 1 < 2)), pull_ge (by rw [List.length_append]; have := List.length_pos_iff.mpr hu; show 2 ≤ _ + 1; omega)]
theorem pull_nil {u : List Nat} {t : Nat} (hu : u ≠ []) : pull u (t + 2) [] = if u.length < 2 then (t, u ++ u) else (t + 1, u) := by
  have := List.length_pos_iff.mpr hu
  rw [pull, if_pos (by decide), List.append_nil, pull]
  by_cases h : u.length < 2
  · rw [if_pos h, if_pos h, pull_ge (by rw [List.length_append]; omega)]
  · rw [if_neg h, if_neg h]
theorem pull_sh {u l : List Nat} {t : Nat} (k : Nat) (hu : u ≠ []) (hp : 2 ≤ t + (if l = [] then 0 else 1)) : pull u (t + k) l = ((pull u t l).1 + k, (pull u t l).2) := by
  match l, hp with
  | [], hp =>
    rw [if_pos rfl] at hp
    obtain ⟨s, rfl⟩ : ∃ s, t = s + 2 := ⟨t - 2, by omega⟩
    rw [show s + 2 + k = (s + k) + 2 by omega, pull_nil hu, pull_nil hu]
    by_cases h : u.length < 2
    · rw [if_pos h, if_pos h]
    · rw [if_neg h, if_neg h]
      show (s + k + 1, u) = (s + 1 + k, u)
      rw [show s + k + 1 = s + 1 + k by omega]
  | [x], hp =>
    rw [if_neg (by simp)] at hp
    obtain ⟨s, rfl⟩ : ∃ s, t = s + 1 := ⟨t - 1, by omega⟩
    rw [show s + 1 + k = (s + k) + 1 by omega, pull_one hu, pull_one hu]
  | x :: y :: r, hp => rw [pull_ge (by simp), pull_ge (by simp)]
theorem sh_tail {r : Rw} (k w : Nat) (hu : r.unit ≠ []) (hp : 2 ≤ pot r) : tailR (sh k r) w = sh k (tailR r w) := by
  have h := pull_sh (u := r.unit) (l := r.last) (t := r.times) k hu hp
  unfold tailR sh
  show Rw.mk r.unit (pull r.unit (r.times + k) r.last).1 (tailS (pull r.unit (r.times + k) r.last).2 w) = _
  rw [h]
theorem tailS_ne {xs : List Nat} {w : Nat} (h : xs ≠ []) : tailS xs w ≠ [] := by
  unfold tailS
  split
  · simp
  · exact h
theorem pull_pot {u l : List Nat} {t : Nat} (hu : u ≠ []) (hp : 2 ≤ t + (if l = [] then 0 else 1)) : (pull u t l).2 ≠ [] ∧ t + (if l = [] then 0 else 1) ≤ (pull u t l).1 + 2 := by
  match l, hp with
  | [], hp =>
    rw [if_pos rfl] at hp ⊢
    obtain ⟨s, rfl⟩ : ∃ s, t = s + 2 := ⟨t - 2, by omega⟩
    rw [pull_nil hu]
    by_cases h : u.length < 2
    · rw [if_pos h]
      exact ⟨by simp [hu], by show s + 2 + 0 ≤ s + 2; omega⟩
    · rw [if_neg h]
      exact ⟨hu, by show s + 2 + 0 ≤ s + 1 + 2; omega⟩
  | [x], hp =>
    rw [if_neg (by simp)] at hp ⊢
    obtain ⟨s, rfl⟩ : ∃ s, t = s + 1 := ⟨t - 1, by omega⟩
    rw [pull_one hu]
    exact ⟨by simp, by show s + 1 + 1 ≤ s + 2; omega⟩
  | x :: y :: r, hp =>
    rw [pull_ge (by simp), if_neg (by simp)]
    exact ⟨by simp, by show t + 1 ≤ t + 2; omega⟩
theorem pot_tail {r : Rw} {w : Nat} (hu : r.unit ≠ []) (hp : 2 ≤ pot r) : pot r ≤ pot (tailR r w) + 1 := by
  obtain ⟨a, b⟩ := pull_pot (u := r.unit) (l := r.last) (t := r.times) hu hp
  have e : pot (tailR r w) = (pull r.unit r.times r.last).1 + 1 := by
    unfold pot tailR
    show (pull r.unit r.times r.last).1 + (if tailS (pull r.unit r.times r.last).2 w = [] then 0 else 1) = _
    rw [if_neg (tailS_ne a)]
  rw [e]
  exact b
theorem chop_ne {xs : List Nat} {w : Nat} (hp : Pos xs) (h : xs ≠ []) : chop xs w ≠ [] := by
  cases xs with
  | nil => exact absurd rfl h
  | cons x r =>
    intro e
    have : evenly x w ++ chop r w = [] := e
    exact evenly_ne (hp x (by simp)) (List.append_eq_nil_iff.mp this).1
theorem pot_cut {r : Rw} {w : Nat} (hu : r.unit ≠ []) (hl : Pos r.last) (hp : 2 ≤ pot r) : pot (cutR r w) = pot r := by
  have := pot_many hu
  rw [cutR_many (by omega)]
  unfold pot
  show r.times + (if chop r.last w = [] then 0 else 1) = _
  by_cases e : r.last = []
  · rw [if_pos e, e]; rfl
  · rw [if_neg e, if_neg (chop_ne hl e)]
/-- a row that repeats on -/
structure On (k : Nat) (r : Rw) : Prop where
  u : Pos r.unit
  l : Pos r.last
  ne : r.unit ≠ []
  p : k + 2 ≤ pot r
theorem On.step {k j : Nat} {r : Rw} {c : Kd × Nat} (h : On (k + 1) r) (hc : 0 < c.2) (nf : c.1 ≠ .fill) : On k (applyR c r) ∧ applyR c (sh j r) = sh j (applyR c r) := by
  have hp := h.p
  have hm := pot_many h.ne
  obtain ⟨kd, w⟩ := c
  cases kd with
  | fill => exact absurd rfl nf
  | cut =>
    show On k (cutR r w) ∧ cutR (sh j r) w = sh j (cutR r w)
    refine ⟨?_, sh_cut j w h.ne (by omega)⟩
    have e := pot_cut (w := w) h.ne h.l (by omega)
    refine ⟨?_, ?_, ?_, by omega⟩
    · rw [cutR_many (by omega)]; exact pos_chop hc
    · rw [cutR_many (by omega)]; exact pos_chop hc
    · rw [cutR_many (by omega)]; exact chop_ne h.u h.ne
  | tail =>
    show On k (tailR r w) ∧ tailR (sh j r) w = sh j (tailR r w)
    have := pot_tail (w := w) h.ne (by omega)
    exact ⟨⟨h.u, pos_tailS (pos_pull h.u _ h.l), h.ne, by omega⟩, sh_tail j w h.ne (by omega)⟩
theorem On.fold {j : Nat} : ∀ (cs : List (Kd × Nat)) {r : Rw}, (∀ c ∈ cs, 0 < c.2 ∧ c.1 ≠ .fill) → On cs.length r → On 0 (cs.foldl (fun r c => applyR c r) r) ∧ cs.foldl (fun r c => applyR c r) (sh j r) = sh j (cs.foldl (fun r c => applyR c r) r)
  | [], r, _, h => ⟨h, rfl⟩
  | c :: cs, r, hc, h => by
    obtain ⟨a, b⟩ := On.step (j := j) h (hc c (by simp)).1 (hc c (by simp)).2
    rw [List.foldl_cons, List.foldl_cons, b]
    exact On.fold cs (fun c h => hc c (by simp [h])) a
def baseR (n w : Nat) : Rw := ⟨[w], n / w, if n % w = 0 then [] else [n % w]⟩
theorem base_on {n w : Nat} (hw : 0 < w) : On (n / w - 2) (baseR n w) ∨ n / w < 2 := by
  by_cases h : n / w < 2
  · exact .inr h
  refine .inl ⟨fun x hx => ?_, fun x hx => ?_, by unfold baseR; simp, ?_⟩
  · have : x = w := by simpa [baseR] using hx
    omega
  · unfold baseR at hx
    by_cases e : n % w = 0
    · simp [e] at hx
    · simp [e] at hx
      omega
  · have : pot (baseR n w) = n / w + (if (baseR n w).last = [] then 0 else 1) := rfl
    omega
theorem base_sh {n w k : Nat} (hw : 0 < w) : baseR (n + k * w) w = sh k (baseR n w) := by
  unfold baseR sh
  rw [Nat.add_mul_div_right _ _ hw, Nat.add_mul_mod_self_right]
/-- the width that the row repeats by -/
def mainW (cs : List (Kd × Nat)) : Nat := match (cs.filter fun c => decide (c.1 = .fill)).getLast? with
  | some c => c.2
  | none => match (cs.filter fun c => decide (c.1 = .cut)).head? with
    | some c => c.2
    | none => 0
theorem split_last {p : Kd × Nat → Bool} : ∀ {cs : List (Kd × Nat)} {c : Kd × Nat}, (cs.filter p).getLast? = some c → ∃ a b, cs = a ++ c :: b ∧ p c = true ∧ ∀ x ∈ b, p x = false
  | [], c, h => by cases h
  | y :: r, c, h => by
    cases hr : (r.filter p).getLast? with
    | some z =>
      obtain ⟨a, b, e, pz, hb⟩ := split_last hr
      have : z = c := by
        by_cases hy : p y = true
        · rw [List.filter_cons_of_pos hy, List.getLast?_cons, hr] at h
          exact Option.some.inj h
        · rw [List.filter_cons_of_neg hy, hr] at h
          exact Option.some.inj h
      subst this
      exact ⟨y :: a, b, by rw [e]; rfl, pz, hb⟩
    | none =>
      have e0 : r.filter p = [] := List.getLast?_eq_none_iff.mp hr
      have hb : ∀ x ∈ r, p x = false := fun x hx => by
        have := List.filter_eq_nil_iff.mp e0 x hx
        simpa using this
      by_cases hy : p y = true
      · rw [List.filter_cons_of_pos hy, e0] at h
        have : y = c := Option.some.inj h
        subst this
        exact ⟨[], r, rfl, hy, hb⟩
      · rw [List.filter_cons_of_neg hy, e0] at h
        cases h
theorem split_first {p : Kd × Nat → Bool} : ∀ {cs : List (Kd × Nat)} {c : Kd × Nat}, (cs.filter p).head? = some c → ∃ a b, cs = a ++ c :: b ∧ p c = true ∧ ∀ x ∈ a, p x = false
  | [], c, h => by cases h
  | y :: r, c, h => by
    by_cases hy : p y = true
    · rw [List.filter_cons_of_pos hy] at h
      have : y = c := Option.some.inj h
      subst this
      exact ⟨[], r, rfl, hy, fun x h => nomatch h⟩
    · rw [List.filter_cons_of_neg hy] at h
      obtain ⟨a, b, e, pz, ha⟩ := split_first h
      exact ⟨y :: a, b, by rw [e]; rfl, pz, fun x hx => by
        rcases List.mem_cons.mp hx with rfl | hx
        · simpa using hy
        · exact ha x hx⟩
theorem tails_whole (n : Nat) : ∀ cs : List (Kd × Nat), (∀ c ∈ cs, c.1 = .tail) → rowOf cs n = wholeR n
  | [], _ => rfl
  | (kd, w) :: r, h => by
    have e : kd = .tail := h (kd, w) (by simp)
    subst e
    have e1 : applyR (.tail, w) (wholeR n) = wholeR n := by
      show tailR (wholeR n) w = _
      unfold tailR wholeR
      show Rw.mk [] (pull [] 0 (wholeS n)).1 (tailS (pull [] 0 (wholeS n)).2 w) = _
      have : tailS (wholeS n) w = wholeS n := by
        unfold tailS
        rw [if_neg (by unfold wholeS; split <;> simp)]
      show Rw.mk [] 0 (tailS (wholeS n) w) = _
      rw [this]
    unfold rowOf
    rw [List.foldl_cons, e1]
    exact tails_whole n r fun c hc => h c (by simp [hc])
/-- from the cutter that counts on -/
theorem main_split {cs : List (Kd × Nat)} (hw : mainW cs ≠ 0) : ∃ post : List (Kd × Nat), post.length < cs.length ∧ (∀ c ∈ post, c ∈ cs ∧ c.1 ≠ .fill) ∧ (∃ k, (k, mainW cs) ∈ cs) ∧ ∀ n, 0 < n → rowOf cs n = post.foldl (fun r c => applyR c r) (baseR n (mainW cs)) := by
  unfold mainW at hw ⊢
  cases hf : (cs.filter fun c => decide (c.1 = .fill)).getLast? with
  | some c =>
    obtain ⟨a, b, e, pc, hb⟩ := split_last hf
    have pc : c.1 = .fill := of_decide_eq_true pc
    refine ⟨b, by rw [e]; simp; omega, fun x hx => ⟨by rw [e]; simp [hx], of_decide_eq_false (hb x hx)⟩, ⟨c.1, by rw [e]; simp⟩, fun n hn => ?_⟩
    have e1 : applyR c (rowOf a n) = baseR n c.2 := by
      unfold applyR
      rw [pc]
      show fillR (rowOf a n) c.2 = _
      unfold fillR baseR
      rw [row_tot]
    rw [e]
    show (a ++ c :: b).foldl (fun r c => applyR c r) (wholeR n) = _
    rw [List.foldl_append, List.foldl_cons]
    show b.foldl (fun r c => applyR c r) (applyR c (rowOf a n)) = _
    rw [e1]
  | none =>
    rw [hf] at hw
    have nf : ∀ x ∈ cs, x.1 ≠ .fill := fun x hx => by
      have := List.filter_eq_nil_iff.mp (List.getLast?_eq_none_iff.mp hf) x hx
      simpa using this
    cases hc : (cs.filter fun c => decide (c.1 = .cut)).head? with
    | none => rw [hc] at hw; exact absurd rfl hw
    | some c =>
      obtain ⟨a, b, e, pc, ha⟩ := split_first hc
      have pc : c.1 = .cut := of_decide_eq_true pc
      refine ⟨b, by rw [e]; simp; omega, fun x hx => ⟨by rw [e]; simp [hx], nf x (by rw [e]; simp [hx])⟩, ⟨c.1, by rw [e]; simp⟩, fun n hn => ?_⟩
      have ta : ∀ x ∈ a, x.1 = .tail := fun x hx => by
        have h1 := nf x (by rw [e]; simp [hx])
        have h2 : x.1 ≠ .cut := of_decide_eq_false (ha x hx)
        cases hk : x.1 with
        | cut => exact absurd hk h2
        | fill => exact absurd hk h1
        | tail => rfl
      have e1 : applyR c (rowOf a n) = baseR n c.2 := by
        unfold applyR
        rw [pc, tails_whole n a ta]
        show cutR (wholeR n) c.2 = _
        unfold cutR
        have m1 : (wholeR n).many = 1 := by
          unfold wholeR Rw.many wholeS
          rw [if_neg (by omega)]
          simp
        have t1 : (wholeR n).tot = n := row_tot [] n
        rw [if_pos m1]
        unfold fillR baseR
        rw [t1]
      rw [e]
      show (a ++ c :: b).foldl (fun r c => applyR c r) (wholeR n) = _
      rw [List.foldl_append, List.foldl_cons]
      show b.foldl (fun r c => applyR c r) (applyR c (rowOf a n)) = _
      rw [e1]
/-- rows of many items are rows of some eight widths, and units before -/
theorem row_sh {cs : List (Kd × Nat)} {m k : Nat} (hw : mainW cs ≠ 0) (hc : ∀ c ∈ cs, 0 < c.2) (hl : cs.length ≤ 6) (hm : 8 * mainW cs ≤ m) : rowOf cs (m + k * mainW cs) = sh k (rowOf cs m) := by
  obtain ⟨post, lp, hp, _, h⟩ := main_split hw
  have w0 : 0 < mainW cs := by omega
  have q : 8 ≤ m / mainW cs := (Nat.le_div_iff_mul_le w0).mpr hm
  rw [h m (by omega), h (m + k * mainW cs) (by omega), base_sh w0]
  rcases base_on (n := m) w0 with o | o
  · refine (On.fold post (fun c hx => ⟨hc c (hp c hx).1, (hp c hx).2⟩) ⟨o.u, o.l, o.ne, ?_⟩).2
    have := o.p
    omega
  · omega
/-- the row: k units, then the ends -/
structure PlanOk (cs : List (Kd × Nat)) (n k w : Nat) (U ends : List Nat) : Prop where
  e : lens cs n = (List.replicate k U).flatten ++ ends
  w1 : 1 ≤ w
  u : 0 < k → U.sum = w
theorem plan_small (cs : List (Kd × Nat)) (n : Nat) : PlanOk cs n 0 1 [] (lens cs n) := ⟨rfl, Nat.le_refl _, fun h => absurd h (by decide)⟩
theorem plan_big {cs : List (Kd × Nat)} {n m : Nat} (hw : mainW cs ≠ 0) (hc : ∀ c ∈ cs, 0 < c.2) (hl : cs.length ≤ 6) (hn : 10 * mainW cs ≤ n) (em : m = 8 * mainW cs + n % mainW cs) :
    PlanOk cs n ((n - m) / mainW cs) (mainW cs) ((lens cs (m + mainW cs)).take ((lens cs (m + mainW cs)).length - (lens cs m).length)) (lens cs m) := by
  have w0 : 0 < mainW cs := by omega
  have hm : 8 * mainW cs ≤ m := by omega
  have ml : n % mainW cs < mainW cs := Nat.mod_lt _ w0
  have dm : (n - m) / mainW cs * mainW cs = n - m := by
    have h1 := Nat.div_add_mod n (mainW cs)
    have h2 : n - m = (n / mainW cs - 8) * mainW cs := by
      rw [Nat.sub_mul, Nat.mul_comm (n / mainW cs)]
      omega
    rw [h2, Nat.mul_div_cancel _ w0]
  have r1 := row_sh (k := (n - m) / mainW cs) hw hc hl hm
  have r2 := row_sh (k := 1) hw hc hl hm
  rw [dm, show m + (n - m) = n by omega] at r1
  rw [Nat.one_mul] at r2
  have e1 : lens cs n = (List.replicate ((n - m) / mainW cs) (rowOf cs m).unit).flatten ++ lens cs m := by
    rw [← row_sizes cs n, r1, sh_sizes, row_sizes]
  have e2 : lens cs (m + mainW cs) = (rowOf cs m).unit ++ lens cs m := by
    rw [← row_sizes cs (m + mainW cs), r2, sh_sizes, row_sizes]
    simp
  have e3 : (lens cs (m + mainW cs)).take ((lens cs (m + mainW cs)).length - (lens cs m).length) = (rowOf cs m).unit := by
    rw [e2, List.length_append, Nat.add_sub_cancel, List.take_left']
    rfl
  have e4 : (rowOf cs m).unit.sum = mainW cs := by
    have h1 := lens_sum cs (m + mainW cs)
    rw [e2, List.sum_append, lens_sum] at h1
    omega
  rw [e3]
  exact ⟨e1, w0, fun _ => e4⟩
theorem take_app_ge {a b : List Nat} {i : Nat} (h : a.length ≤ i) : ((a ++ b).take i).sum = a.sum + (b.take (i - a.length)).sum := by
  rw [List.take_append, List.take_of_length_le h, List.sum_append]
theorem plan_piece {cs : List (Kd × Nat)} {n k w : Nat} {U ends : List Nat} (P : PlanOk cs n k w U ends) (i : Nat) :
    ((lens cs n).take i).sum = (if k * U.length ≤ i then k * w + (ends.take (i - k * U.length)).sum else i / U.length * w + (U.take (i % U.length)).sum) ∧
    (lens cs n).getD i 0 = (if k * U.length ≤ i then ends.getD (i - k * U.length) 0 else U.getD (i % U.length) 0) := by
  have ku : k * U.sum = k * w := by
    rcases Nat.eq_zero_or_pos k with z | z
    · rw [z, Nat.zero_mul, Nat.zero_mul]
    · rw [P.u z]
  rw [P.e]
  by_cases h : k * U.length ≤ i
  · rw [if_pos h, if_pos h]
    have hl : (List.replicate k U).flatten.length ≤ i := by rw [rep_len]; exact h
    rw [take_app_ge hl, getD_app _ _ _ hl, rep_len, rep_sum, ku]
    exact ⟨rfl, rfl⟩
  · rw [if_neg h, if_neg h]
    obtain ⟨a, b⟩ := take_rep U k i (by omega)
    have k0 : 0 < k := by
      rcases Nat.eq_zero_or_pos k with z | z
      · rw [z, Nat.zero_mul] at h; omega
      · exact z
    have hl : i < (List.replicate k U).flatten.length := by rw [rep_len]; omega
    rw [List.take_append_of_le_length (by omega), a, P.u k0]
    refine ⟨rfl, ?_⟩
    rw [List.getD_eq_getElem?_getD, List.getElem?_append_left hl, b, List.getD_eq_getElem?_getD]
theorem plan_place {cs : List (Kd × Nat)} {n k w : Nat} {U ends : List Nat} (P : PlanOk cs n k w U ends) (i : Nat) :
    placeA (lens cs n) i = min k (i / w) * U.length + placeA (if min k (i / w) < k then U ++ ends else ends) (i - min k (i / w) * w) := by
  have ku : k * U.sum = k * w := by
    rcases Nat.eq_zero_or_pos k with z | z
    · rw [z, Nat.zero_mul, Nat.zero_mul]
    · rw [P.u z]
  have w0 := P.w1
  rw [P.e, placeA_app, rep_sum, rep_len, ku]
  by_cases h : i < k * w
  · rw [if_pos h]
    have k0 : 0 < k := by
      rcases Nat.eq_zero_or_pos k with z | z
      · rw [z, Nat.zero_mul] at h; omega
      · exact z
    have d : i / w < k := (Nat.div_lt_iff_lt_mul w0).mpr h
    rw [Nat.min_eq_right (by omega), if_pos d, placeA_rep U k i (by rw [ku]; exact h), P.u k0]
    have em : i - i / w * w = i % w := by
      have := Nat.div_add_mod i w
      rw [Nat.mul_comm]
      omega
    rw [em, placeA_app, if_pos (by rw [P.u k0]; exact Nat.mod_lt _ w0)]
  · rw [if_neg h]
    have d : k ≤ i / w := (Nat.le_div_iff_mul_le w0).mpr (by omega)
    rw [Nat.min_eq_left d, if_neg (by omega)]
end CH

/-! chains that are alike up to 216 items are alike -/
namespace CH
/-- the unit behind these cutters -/
def unitF : List (Kd × Nat) → List Nat → List Nat
  | [], u => u
  | c :: r, u => unitF r (if c.1 = .cut then chop u c.2 else u)
theorem On.unit : ∀ (cs : List (Kd × Nat)) {r : Rw}, (∀ c ∈ cs, 0 < c.2 ∧ c.1 ≠ .fill) → On cs.length r → (cs.foldl (fun r c => applyR c r) r).unit = unitF cs r.unit
  | [], r, _, h => rfl
  | c :: cs, r, hc, h => by
    obtain ⟨a, b⟩ := On.step (j := 0) h (hc c (by simp)).1 (hc c (by simp)).2
    rw [List.foldl_cons, On.unit cs (fun c h => hc c (by simp [h])) a]
    show unitF cs _ = unitF cs _
    congr 1
    obtain ⟨kd, w⟩ := c
    have hm := pot_many h.ne
    have hp := h.p
    cases kd with
    | fill => exact absurd rfl (hc (.fill, w) (by simp)).2
    | cut =>
      show (cutR r w).unit = _
      rw [cutR_many (by rw [List.length_cons] at hp; omega)]
      rfl
    | tail => rfl
/-- rows of many items: units, and the row of few -/
theorem row_unit {cs : List (Kd × Nat)} (hw : mainW cs ≠ 0) (hc : ∀ c ∈ cs, 0 < c.2) (hl : cs.length ≤ 6) : ∃ U : List Nat, ∀ m k, 7 * mainW cs ≤ m → lens cs (m + k * mainW cs) = (List.replicate k U).flatten ++ lens cs m := by
  obtain ⟨post, lp, hp, _, h⟩ := main_split hw
  have w0 : 0 < mainW cs := by omega
  refine ⟨unitF post [mainW cs], fun m k hm => ?_⟩
  have q : 7 ≤ m / mainW cs := (Nat.le_div_iff_mul_le w0).mpr hm
  have on : On post.length (baseR m (mainW cs)) := by
    rcases base_on (n := m) w0 with o | o
    · refine ⟨o.u, o.l, o.ne, ?_⟩
      have := o.p
      omega
    · omega
  have hps : ∀ c ∈ post, 0 < c.2 ∧ c.1 ≠ .fill := fun c hx => ⟨hc c (hp c hx).1, (hp c hx).2⟩
  have e1 : rowOf cs (m + k * mainW cs) = sh k (rowOf cs m) := by
    rw [h m (by omega), h (m + k * mainW cs) (by omega), base_sh w0]
    exact (On.fold post hps on).2
  have e2 : (rowOf cs m).unit = unitF post [mainW cs] := by
    rw [h m (by omega), On.unit post hps on]
    rfl
  rw [← row_sizes cs (m + k * mainW cs), e1, sh_sizes, row_sizes, e2]
theorem main_le {cs : List (Kd × Nat)} (hw : mainW cs ≠ 0) (hc : ∀ c ∈ cs, 1 ≤ c.2 ∧ c.2 ≤ 12) : 1 ≤ mainW cs ∧ mainW cs ≤ 12 := by
  obtain ⟨_, _, _, ⟨k, hk⟩, _⟩ := main_split hw
  exact hc _ hk
theorem main_none {cs : List (Kd × Nat)} (hw : mainW cs = 0) (hc : ∀ c ∈ cs, 0 < c.2) : ∀ c ∈ cs, c.1 = .tail := by
  intro c h
  unfold mainW at hw
  cases hk : c.1 with
  | tail => rfl
  | fill =>
    exfalso
    cases hf : (cs.filter fun c => decide (c.1 = .fill)).getLast? with
    | none =>
      have := List.filter_eq_nil_iff.mp (List.getLast?_eq_none_iff.mp hf) c h
      simp [hk] at this
    | some d =>
      rw [hf] at hw
      have hm := List.mem_of_getLast? hf
      have := hc d (List.mem_filter.mp hm).1
      have hw : d.2 = 0 := hw
      omega
  | cut =>
    exfalso
    cases hf : (cs.filter fun c => decide (c.1 = .fill)).getLast? with
    | some d =>
      rw [hf] at hw
      have hm := List.mem_of_getLast? hf
      have := hc d (List.mem_filter.mp hm).1
      have hw : d.2 = 0 := hw
      omega
    | none =>
      rw [hf] at hw
      cases hg : (cs.filter fun c => decide (c.1 = .cut)).head? with
      | none =>
        have := List.filter_eq_nil_iff.mp (List.head?_eq_none_iff.mp hg) c h
        simp [hk] at this
      | some d =>
        rw [hg] at hw
        have hm := List.mem_of_head? hg
        have := hc d (List.mem_filter.mp hm).1
        have hw : d.2 = 0 := hw
        omega
theorem lens_whole {cs : List (Kd × Nat)} (h : ∀ c ∈ cs, c.1 = .tail) (n : Nat) : lens cs n = wholeS n := by
  rw [← row_sizes cs n, tails_whole n cs h]
  rfl
theorem lcm_ok : ∀ a ∈ List.range 13, ∀ b ∈ List.range 13, 1 ≤ a → 1 ≤ b → Nat.lcm a b + 84 ≤ 216 := by decide +kernel
theorem rep_mul (U : List Nat) (a : Nat) : ∀ q, (List.replicate (q * a) U).flatten = (List.replicate q (List.replicate a U).flatten).flatten
  | 0 => by simp
  | q + 1 => by
    rw [Nat.succ_mul, ← List.replicate_append_replicate, List.flatten_append, rep_mul U a q, List.replicate_succ', List.flatten_append]
    simp
/-- ALIKE UP TO 216, ALIKE FOR ALL -/
theorem alike {cs ds : List (Kd × Nat)} (hc : ∀ c ∈ cs, 1 ≤ c.2 ∧ c.2 ≤ 12) (hd : ∀ c ∈ ds, 1 ≤ c.2 ∧ c.2 ≤ 12) (lc : cs.length ≤ 6) (ld : ds.length ≤ 6) (h : ∀ n, n ≤ 216 → lens cs n = lens ds n) : ∀ n, lens cs n = lens ds n := by
  have hc0 : ∀ c ∈ cs, 0 < c.2 := fun c x => (hc c x).1
  have hd0 : ∀ c ∈ ds, 0 < c.2 := fun c x => (hd c x).1
  have two : ∀ {xs ys : List (Kd × Nat)}, (∀ c ∈ xs, 1 ≤ c.2 ∧ c.2 ≤ 12) → xs.length ≤ 6 → mainW xs ≠ 0 → mainW ys = 0 → (∀ c ∈ ys, 0 < c.2) → lens xs 216 = lens ys 216 → False := by
    intro xs ys hx lx hw hz hy e
    obtain ⟨w1, w2⟩ := main_le hw hx
    obtain ⟨U, hU⟩ := row_unit hw (fun c x => (hx c x).1) lx
    have e1 := hU (216 - mainW xs) 1 (by omega)
    rw [Nat.one_mul, show 216 - mainW xs + mainW xs = 216 by omega, e, lens_whole (main_none hz hy)] at e1
    have s1 := lens_sum xs (216 - mainW xs)
    have s2 := congrArg List.sum e1
    have w216 : wholeS 216 = [216] := rfl
    rw [w216, List.sum_append, s1] at s2
    simp at s2 e1
    cases U with
    | nil =>
      simp at s2
      omega
    | cons a r =>
      have : lens xs (216 - mainW xs) = [] := by
        have l := congrArg List.length e1
        have l1 : (wholeS 216).length = 1 := rfl
        simp at l
        exact List.length_eq_zero_iff.mp (by omega)
      rw [this] at s1
      simp at s1
      omega
  by_cases z1 : mainW cs = 0
  · by_cases z2 : mainW ds = 0
    · intro n
      rw [lens_whole (main_none z1 hc0), lens_whole (main_none z2 hd0)]
    · exact absurd (two hd ld z2 z1 hc0 (h 216 (Nat.le_refl _)).symm) id
  · by_cases z2 : mainW ds = 0
    · exact absurd (two hc lc z1 z2 hd0 (h 216 (Nat.le_refl _))) id
    · obtain ⟨a1, a2⟩ := main_le z1 hc
      obtain ⟨b1, b2⟩ := main_le z2 hd
      obtain ⟨U, hU⟩ := row_unit z1 hc0 lc
      obtain ⟨V, hV⟩ := row_unit z2 hd0 ld
      have hL := lcm_ok _ (List.mem_range.mpr (show mainW cs < 13 by omega)) _ (List.mem_range.mpr (show mainW ds < 13 by omega)) a1 b1
      obtain ⟨p, ep⟩ := Nat.dvd_lcm_left (mainW cs) (mainW ds)
      obtain ⟨q, eq⟩ := Nat.dvd_lcm_right (mainW cs) (mainW ds)
      have L0 : 0 < Nat.lcm (mainW cs) (mainW ds) := Nat.lcm_pos (by omega) (by omega)
      generalize Nat.lcm (mainW cs) (mainW ds) = L at hL ep eq L0
      have u1 := hU (216 - L) p (by omega)
      have v1 := hV (216 - L) q (by omega)
      rw [Nat.mul_comm p, ← ep, show 216 - L + L = 216 by omega] at u1
      rw [Nat.mul_comm q, ← eq, show 216 - L + L = 216 by omega] at v1
      rw [h 216 (Nat.le_refl _), h (216 - L) (by omega)] at u1
      have uv : (List.replicate p U).flatten = (List.replicate q V).flatten := List.append_cancel_right (u1.symm.trans v1)
      intro n
      by_cases hn : n ≤ 216
      · exact h n hn
      have e0 : n = (84 + (n - 84) % L) + ((n - 84) / L) * L := by
        have := Nat.div_add_mod (n - 84) L
        rw [Nat.mul_comm] at this
        omega
      have ml := Nat.mod_lt (n - 84) L0
      have x1 := hU (84 + (n - 84) % L) ((n - 84) / L * p) (by omega)
      have y1 := hV (84 + (n - 84) % L) ((n - 84) / L * q) (by omega)
      rw [Nat.mul_assoc, Nat.mul_comm p, ← ep, ← e0, rep_mul, uv] at x1
      rw [Nat.mul_assoc, Nat.mul_comm q, ← eq, ← e0, rep_mul] at y1
      rw [x1, y1, h (84 + (n - 84) % L) (by omega)]
end CH

/-! chains written otherwise: rows that are the same for all numbers -/
namespace CH
def runL (n : Nat) (cs : List (Kd × Nat)) (xs : List Nat) : List Nat := cs.foldl (fun xs c => applyS n c xs) xs
theorem runL_app (n : Nat) (a b : List (Kd × Nat)) (xs : List Nat) : runL n (a ++ b) xs = runL n b (runL n a xs) := by
  unfold runL
  rw [List.foldl_append]
theorem lens_run (cs : List (Kd × Nat)) (n : Nat) : lens cs n = runL n cs (wholeS n) := rfl
theorem lens_two (a b : List (Kd × Nat)) (n : Nat) : lens (a ++ b) n = runL n b (lens a n) := runL_app n a b _
theorem lens_at (cs : List (Kd × Nat)) (k n : Nat) : lens cs n = runL n (cs.drop k) (lens (cs.take k) n) := by
  conv => lhs; rw [← List.take_append_drop k cs]
  exact lens_two ..
theorem drop_at {cs : List (Kd × Nat)} {k : Nat} {c : Kd × Nat} (h : cs[k]? = some c) : cs.drop k = c :: cs.drop (k + 1) := by
  obtain ⟨hk, rfl⟩ := List.getElem?_eq_some_iff.mp h
  exact List.drop_eq_getElem_cons hk
theorem take_at {cs : List (Kd × Nat)} {k : Nat} {c : Kd × Nat} (h : cs[k]? = some c) : cs.take (k + 1) = cs.take k ++ [c] := by
  rw [List.take_add_one, h]
  rfl
theorem ap_fill (n w : Nat) (xs : List Nat) : applyS n (.fill, w) xs = evenly n w := rfl
theorem ap_cut (n w : Nat) (xs : List Nat) : applyS n (.cut, w) xs = chop xs w := rfl
theorem ap_tail (n w : Nat) (xs : List Nat) : applyS n (.tail, w) xs = tailS xs w := rfl
/-! ### single rows -/
theorem evenly_zero (w : Nat) : evenly 0 w = [] := by
  unfold evenly
  rw [Nat.zero_div, Nat.zero_mod, if_pos rfl]
  rfl
theorem evenly_one {n w : Nat} (h0 : 0 < n) (h : n ≤ w) : evenly n w = [n] := by
  unfold evenly
  rcases Nat.lt_or_ge n w with a | a
  · rw [Nat.div_eq_of_lt a, Nat.mod_eq_of_lt a, if_neg (by omega)]
    rfl
  · have e : n = w := by omega
    subst e
    rw [Nat.div_self h0, Nat.mod_self, if_pos rfl]
    rfl
theorem evenly_whole {n w : Nat} (h : n ≤ w) : evenly n w = wholeS n := by
  unfold wholeS
  by_cases h0 : n = 0
  · rw [if_pos h0, h0, evenly_zero]
  · rw [if_neg h0, evenly_one (by omega) h]
theorem chop_nil (w : Nat) : chop [] w = [] := rfl
theorem chop_one (x w : Nat) : chop [x] w = evenly x w := by
  unfold chop
  rw [List.flatMap_cons, List.flatMap_nil, List.append_nil]
theorem chop_whole (n w : Nat) : chop (wholeS n) w = evenly n w := by
  unfold wholeS
  by_cases h0 : n = 0
  · rw [if_pos h0, h0, evenly_zero]
    rfl
  · rw [if_neg h0, chop_one]
theorem tail_short {xs : List Nat} (w : Nat) (h : xs.length < 2) : tailS xs w = xs := by
  unfold tailS
  rw [if_neg (by omega)]
theorem whole_short (n : Nat) : (wholeS n).length < 2 := by
  unfold wholeS
  split
  · simp
  · simp
theorem tail_whole (n w : Nat) : tailS (wholeS n) w = wholeS n := tail_short w (whole_short n)
theorem evenly_le {n w : Nat} (hw : 0 < w) : ∀ x ∈ evenly n w, x ≤ w := by
  intro x hx
  unfold evenly at hx
  rcases List.mem_append.mp hx with h | h
  · exact Nat.le_of_eq (List.mem_replicate.mp h).2
  · split at h
    · cases h
    · rw [List.mem_singleton.mp h]
      exact Nat.le_of_lt (Nat.mod_lt _ hw)
theorem chop_le {xs : List Nat} {w : Nat} (hw : 0 < w) : ∀ x ∈ chop xs w, x ≤ w := by
  intro x hx
  obtain ⟨y, _, h⟩ := List.mem_flatMap.mp hx
  exact evenly_le hw x h
theorem chop_id {w : Nat} : ∀ {xs : List Nat}, Pos xs → (∀ x ∈ xs, x ≤ w) → chop xs w = xs
  | [], _, _ => rfl
  | x :: r, hp, hl => by
    have e : chop (x :: r) w = evenly x w ++ chop r w := rfl
    rw [e, evenly_one (hp x (List.mem_cons_self ..)) (hl x (List.mem_cons_self ..)), chop_id (fun y hy => hp y (List.mem_cons_of_mem _ hy)) fun y hy => hl y (List.mem_cons_of_mem _ hy)]
    rfl
theorem tail_pos {xs : List Nat} (hp : Pos xs) : tailS xs 1 = xs := by
  unfold tailS
  refine if_neg fun ⟨a, b⟩ => ?_
  have := hp (xs.getD (xs.length - 1) 0) (by rw [getD_eq (by omega)]; exact List.getElem_mem _)
  omega
theorem evenly_mult {w m : Nat} (hw : 0 < w) : evenly (m * w) w = List.replicate m w := by
  unfold evenly
  rw [Nat.mul_mod_left, if_pos rfl, Nat.mul_div_cancel _ hw, List.append_nil]
theorem rep_rep (w m : Nat) : ∀ q, (List.replicate q (List.replicate m w)).flatten = List.replicate (q * m) w
  | 0 => by simp
  | q + 1 => by rw [List.replicate_succ, List.flatten_cons, rep_rep w m q, Nat.succ_mul, Nat.add_comm, ← List.replicate_append_replicate]
theorem chop_mult {n w m : Nat} (hw : 0 < w) (hm : 0 < m) : chop (evenly n (m * w)) w = evenly n w := by
  have hmw : 0 < m * w := Nat.mul_pos hm hw
  have e0 : n = n / (m * w) * (m * w) + n % (m * w) := by rw [Nat.mul_comm]; exact (Nat.div_add_mod n (m * w)).symm
  have e1 : n / w = n / (m * w) * m + n % (m * w) / w := by
    conv => lhs; rw [e0]
    rw [← Nat.mul_assoc, Nat.add_comm, Nat.add_mul_div_right _ _ hw, Nat.add_comm]
  have e2 : n % w = n % (m * w) % w := (Nat.mod_mul_left_mod n m w).symm
  have last : chop (if n % (m * w) = 0 then [] else [n % (m * w)]) w = List.replicate (n % (m * w) / w) w ++ (if n % (m * w) % w = 0 then [] else [n % (m * w) % w]) := by
    by_cases h : n % (m * w) = 0
    · rw [if_pos h, h, Nat.zero_div, Nat.zero_mod, if_pos rfl]
      rfl
    · rw [if_neg h, chop_one]
      rfl
  rw [show evenly n (m * w) = List.replicate (n / (m * w)) (m * w) ++ (if n % (m * w) = 0 then [] else [n % (m * w)]) from rfl, chop_app, last, ← flat_one, chop_rep, chop_one, evenly_mult hw, rep_rep, ← List.append_assoc, List.replicate_append_replicate, ← e1, ← e2]
  rfl
/-! ### six ways -/
theorem same0 {cs : List (Kd × Nat)} {k : Nat} {c : Kd × Nat} (h : cs[k]? = some c) (hc : c.1 = .fill) (x : Kd × Nat) (n : Nat) : lens ([x] ++ cs.drop k) n = lens cs n := by
  rw [lens_two, lens_at cs k, drop_at h]
  obtain ⟨kd, w⟩ := c
  cases hc
  rfl
theorem same1 {cs : List (Kd × Nat)} {c : Kd × Nat} {kd : Kd} (h : cs[0]? = some c) (hc : c.1 ≠ .tail) (hk : kd ≠ .tail) (n : Nat) : lens ([(kd, c.2)] ++ cs.drop 1) n = lens cs n := by
  have go : ∀ (k : Kd) (w : Nat), k ≠ .tail → applyS n (k, w) (wholeS n) = evenly n w := fun k w hk => by
    cases k with
    | cut => rw [ap_cut, chop_whole]
    | fill => rfl
    | tail => exact absurd rfl hk
  have e : lens cs n = runL n (cs.drop 1) (applyS n c (wholeS n)) := by
    rw [lens_run, show cs = c :: cs.drop 1 by rw [← drop_at h]; rfl]
    rfl
  rw [e, lens_two]
  congr 1
  show applyS n (kd, c.2) (wholeS n) = applyS n (c.1, c.2) (wholeS n)
  rw [go _ _ hk, go _ _ hc]
theorem same2 (cs : List (Kd × Nat)) (w n : Nat) : lens ([(.tail, w)] ++ cs) n = lens cs n := by
  rw [lens_two, lens_run cs]
  congr 1
  exact tail_whole n w
theorem same3 {cs : List (Kd × Nat)} {k e : Nat} {c : Kd × Nat} (h : cs[k]? = some c) (hc : c.1 ≠ .tail) (hw : 0 < c.2) (n : Nat) : lens (cs.take (k + 1) ++ [(.cut, c.2 + e)] ++ cs.drop (k + 1)) n = lens cs n := by
  rw [lens_two, lens_two, lens_at cs (k + 1)]
  congr 1
  show chop (lens (cs.take (k + 1)) n) (c.2 + e) = _
  rw [take_at h, lens_two]
  show chop (applyS n (c.1, c.2) (lens (cs.take k) n)) (c.2 + e) = applyS n (c.1, c.2) (lens (cs.take k) n)
  generalize lens (cs.take k) n = xs
  obtain ⟨kd, w⟩ := c
  have hw : 0 < w := hw
  cases kd with
  | cut => exact chop_id (pos_chop hw) fun x hx => Nat.le_trans (chop_le hw x hx) (Nat.le_add_right ..)
  | fill => exact chop_id (pos_evenly hw) fun x hx => Nat.le_trans (evenly_le hw x hx) (Nat.le_add_right ..)
  | tail => exact absurd rfl hc
theorem same4 {cs : List (Kd × Nat)} {k : Nat} {c : Kd × Nat} (h : cs[k]? = some c) (hc : c.1 = .fill) (hw : 0 < c.2) (n : Nat) : lens (cs.take k ++ [(.fill, 2 * c.2), (.cut, c.2)] ++ cs.drop (k + 1)) n = lens cs n := by
  rw [lens_two, lens_two, lens_at cs k, drop_at h]
  obtain ⟨kd, w⟩ := c
  cases hc
  show runL n _ (chop (evenly n (2 * w)) w) = runL n _ (evenly n w)
  rw [chop_mult hw (by decide)]
theorem same5 {cs : List (Kd × Nat)} (k n : Nat) (hp : Pos (lens (cs.take k) n)) : lens (cs.take k ++ [(.tail, 1)] ++ cs.drop k) n = lens cs n := by
  rw [lens_two, lens_two, lens_at cs k]
  congr 1
  exact tail_pos hp
/-! ### known pairs -/
theorem l_fill (w n : Nat) : lens [(.fill, w)] n = evenly n w := rfl
theorem l_cut (w n : Nat) : lens [(.cut, w)] n = evenly n w := chop_whole n w
theorem l_tail (w n : Nat) : lens [(.tail, w)] n = wholeS n := tail_whole n w
theorem l_tails (w v n : Nat) : lens [(.tail, w), (.tail, v)] n = wholeS n := by
  show tailS (tailS (wholeS n) w) v = wholeS n
  rw [tail_whole, tail_whole]
theorem l_ftail (w v n : Nat) : lens [(.fill, w), (.tail, v)] n = tailS (evenly n w) v := rfl
theorem l_fcut (w v n : Nat) : lens [(.fill, w), (.cut, v)] n = chop (evenly n w) v := rfl
theorem l_cfill (w v n : Nat) : lens [(.cut, w), (.fill, v)] n = evenly n v := rfl
theorem n1 : ∀ a ∈ List.range 13, ∀ b ∈ List.range 13, 1 ≤ a → a < b → evenly (a + 1) a ≠ evenly (a + 1) b := by decide +kernel
theorem n2 : ∀ c ∈ List.range 13, ∀ b ∈ List.range 13, 1 ≤ c → 2 ≤ b → evenly (c + 1) c ≠ tailS (evenly (c + 1) c) b := by decide +kernel
theorem n3 : ∀ c ∈ List.range 13, ∀ a ∈ List.range 13, ∀ b ∈ List.range 13, 1 ≤ a → a < b → a ≤ c → tailS (evenly (c + a) c) a ≠ tailS (evenly (c + a) c) b := by decide +kernel
theorem n4 : ∀ a ∈ List.range 13, ∀ b ∈ List.range 13, 1 ≤ a → a < b → b % a ≠ 0 → chop (evenly (b + 1) b) a ≠ evenly (b + 1) a := by decide +kernel
theorem n6 : ∀ c ∈ List.range 13, 1 ≤ c → wholeS (c + 1) ≠ evenly (c + 1) c := by decide +kernel
theorem evenly_two {m c : Nat} (h1 : c < m) (h2 : m < 2 * c) : evenly m c = [c, m - c] := by
  have d : m / c = 1 := Nat.div_eq_of_lt_le (by omega) (by omega)
  have e := Nat.div_add_mod m c
  rw [d] at e
  unfold evenly
  rw [d, if_neg (by omega), show m % c = m - c by omega]
  rfl
theorem tail_low {m c a b : Nat} (ha : a ≤ c) (hab : a < b) (hm : m < c + a) : tailS (evenly m c) a = tailS (evenly m c) b := by
  rcases Nat.lt_or_ge c m with h | h
  · rw [evenly_two h (by omega)]
    unfold tailS
    rw [if_pos ⟨by simp, by show m - c < a; omega⟩, if_pos ⟨by simp, by show m - c < b; omega⟩]
  · rw [evenly_whole h, tail_whole, tail_whole]
theorem tail_high {m c a b : Nat} (hc : 0 < c) (ha : c < a) (hb : c < b) : tailS (evenly m c) a = tailS (evenly m c) b := by
  unfold tailS
  by_cases h : 2 ≤ (evenly m c).length
  · have l : (evenly m c).getD ((evenly m c).length - 1) 0 ≤ c := by
      rw [getD_eq (by omega)]
      exact evenly_le hc _ (List.getElem_mem _)
    rw [if_pos ⟨h, by omega⟩, if_pos ⟨h, by omega⟩]
  · rw [if_neg fun z => h z.1, if_neg fun z => h z.1]
theorem fill_cut_low {m b a : Nat} (h : m ≤ b) : chop (evenly m b) a = evenly m a := by rw [evenly_whole h, chop_whole]
theorem fill_cut_mult {b a : Nat} (ha : 0 < a) (hb : 0 < b) (h : b % a = 0) (m : Nat) : chop (evenly m b) a = evenly m a := by
  have e : b = b / a * a := by have := Nat.div_add_mod b a; rw [h, Nat.mul_comm] at this; omega
  have p : 0 < b / a := by
    rcases Nat.eq_zero_or_pos (b / a) with z | z
    · rw [z, Nat.zero_mul] at e; omega
    · exact z
  rw [e]
  exact chop_mult ha p
end CH
namespace CH
theorem pos_run {n : Nat} : ∀ {cs : List (Kd × Nat)} {xs : List Nat}, (∀ c ∈ cs, 0 < c.2) → Pos xs → Pos (runL n cs xs)
  | [], _, _, h => h
  | (k, w) :: r, xs, hc, h => by
    have hw : 0 < w := hc (k, w) (List.mem_cons_self ..)
    refine pos_run (cs := r) (xs := applyS n (k, w) xs) (fun c hc' => hc c (List.mem_cons_of_mem _ hc')) ?_
    cases k with
    | cut => exact pos_chop hw
    | fill => exact pos_evenly hw
    | tail => exact pos_tailS h
theorem pos_lens {n : Nat} {cs : List (Kd × Nat)} (hc : ∀ c ∈ cs, 0 < c.2) : Pos (lens cs n) := pos_run hc (pos_wholeS n)
end CH

/-! f(k = v, ..): a def called by keywords alone -/
namespace FKw
open PySem L2
def tCallK0 (sp : Sp) (gV : List V → List V → List V) (E : XK) (tk : TA) : TE := fun σ H Q => tk σ H fun zs H2 => sp (gV [] zs) H2 Q E
theorem pe_callK0 {X : Cx} {CX : CXT} {k : Nat} {f : Addr} {fd : FuncData} {ps ks : List Str} {sp : Sp} {E : XK} {x : Str} {p pos : Pos} {kws : List Keyword} {tk : TA} {g : List Value → List Value → List Value} {gV : List V → List V → List V}
    (F : FnOk X.prog X.w X.K X.mg X.base CX k f fd ps sp) (hr : Room k X.A) (hg : Gl X x) (hm : X.mg x = some (.ref f)) (hk : PySem.W.keepIn X.K (.ref f) = true) (hb : KBinds X.K fd ps ks g gV) (hx : Passes CX X E) (hkw : PK X kws tk)
    (hall : (backToKw pos (keywordEach kws X.env)).all (·.1.isSome) = true := by rfl) (hks : (backToKw pos (keywordEach kws X.env)).filterMap (·.1) = ks := by rfl) (hdb : (x == ("__debug__" : Str)) = false := by decide)
    (hpl : ((backTo pos (starEach [] X.env)).any (·.1) || (backToKw pos (keywordEach kws X.env)).any (·.1.isNone)) = false := by rfl) :
    PE X (.Call (.Name x p) [] kws pos) (tCallK0 sp gV E tk) := by
  refine ⟨fun pins s σ H Q I h => ?_⟩
  refine wpAny_Call_Name_kw (ld_glob I hg hm ?_ hdb)
  refine PySem.W.callWith_KW0 (first := []) (h₀ := X.base) I.ok.mod.kin hk hall ?_ hpl
  refine thn (hkw.run pos pins s σ H _ I h) fun ws s2 ⟨zs, H2, I2, rz, q2⟩ => ⟨I2.kIn, ?_⟩
  rw [hks]
  exact run_fnk (us := []) (vs := []) F hr hb hx I2 .nil rz q2
end FKw

/-! defs that are called where no repr is running, and repr of plain data there -/
namespace Gd
open PySem PySem.Spec PyProof.Rows L2
/-- a def's promise, for callers around whom no guard stands -/
structure FnG (P : Program) (w : World) (K : PySem.W.Frag) (mg : Str → Option Value) (base : Heap) (CX : CXT) (k : Nat) (f : Addr) (fd : FuncData) (ps : List Str) (sp : Sp) : Prop where
  len : ∀ vs H Q E, sp vs H Q E → vs.length = ps.length
  run : ∀ (A : Around) (outer : List Env) (s : Shared) (H : Hp) (args : Args) (us : List Value) (vs : List V) (Q : VK) (E : XK), A.guards = some [] → Room k A → Env0 P w K mg base A outer s H → BindsTo s fd args (ps.zip us) → Vals vs us → sp vs H Q E →
    codeAny (model P w) A (.call (.ref f) args) (CR CX outer P w H s Q E) s
section
variable {P : Program} {w : World} {K : PySem.W.Frag} {mg : Str → Option Value} {base : Heap}
/-- the rule of a def, its guards told -/
theorem okG {x qual : Str} {st : Stmt} {f : Addr} {fd : FuncData} {N ps : List Str} {k : Nat} {sp : Sp} (F : Fun K x qual st f fd) (S : FnScope N ps (defScope st)) (len : ∀ vs H Q E, sp vs H Q E → vs.length = ps.length)
    (hbody : ∀ (cdv : Value) (A : Around) (outer : List Env) (s : Shared) (H : Hp) (vs : List V) (Q : VK) (E : XK), K.lookup f ≠ none → PySem.W.codeIn K cdv qual = true → fd.code = cdv → A.guards = some [] → Room k (A.deeper (envOfC qual (defScope st) s.heap.objs.size f cdv)) → sp vs H Q E →
      ∃ t, PSs (cxOf CX0 P w K mg base N qual (defScope st) f cdv A outer s H E).nox (defBody st) t ∧ t { nx := fun _ H' => Q .non H', rt := Q } (L2.start N vs) H) : FnG P w K mg base CX0 (k + 1) f fd ps sp := by
  obtain ⟨oc, od, kV, doc, pm, an, cdv, ct, osl, rfl, lk, hcd⟩ := F.ex
  refine ⟨len, fun A outer s H args us vs Q E hg hr e0 hb r h => ?_⟩
  refine LamX.run_ofS lk hcd S hr e0 hb r (len _ _ _ _ h) fun hr2 => ?_
  obtain ⟨t, h1, q⟩ := hbody cdv A outer s H vs Q E (by rw [lk]; simp) hcd rfl hg hr2 h
  exact ⟨t, h1.nox, q⟩
end
section
variable {X : Cx} {CX : CXT} {k : Nat} {f : Addr} {fd : FuncData} {ps : List Str} {sp : Sp} {E : XK} {x : Str} {p pos : Pos} {e : Expr} {es : List Expr} {t : TA} {ds : List Value} {dvs : List V}
/-- f(e, ..) -/
theorem pe_callG (F : FnG X.prog X.w X.K X.mg X.base CX k f fd ps sp) (hgd : X.A.guards = some []) (hr : Room k X.A) (hg : Gl X x) (hm : X.mg x = some (.ref f)) (hk : PySem.W.keepIn X.K (.ref f) = true) (hb : L2.Binds X.K fd ps ds) (hd : Vals dvs ds) (hx : Passes CX X E) (ha : PA X (e :: es) t)
    (hdb : (x == ("__debug__" : Str)) = false := by decide) (he : starEach (e :: es) X.env = (false, eval e X.env) :: starEach es X.env := by rfl) (hpl : (backTo pos (starEach es X.env)).any (·.1) = false := by rfl) :
    PE X (.Call (.Name x p) (e :: es) [] pos) (tCall sp dvs E t) := by
  refine ⟨fun pins s σ H Q I h => ?_⟩
  refine wpAny_Call_Name_kw (ld_glob I hg hm ?_ hdb)
  refine PySem.W.callWith_K (h₀ := X.base) I.ok.mod.kin hk (thn (ha.run pos pins s σ H _ I h) fun us s1 ⟨vs, H1, I1, r, q⟩ => ⟨I1.kIn, ?_⟩) he hpl
  have r2 : Vals (vs ++ dvs) (us ++ ds) := r.append hd
  have hl : (us ++ ds).length = ps.length := by
    rw [← r2.length]
    exact F.len _ _ _ _ q
  refine wpAny_call (codeAny_mono (F.run X.A X.stack s1 H1 ⟨us, []⟩ (us ++ ds) (vs ++ dvs) Q E hgd hr I1.env0 (hb s1 us I1.kIn hl) r2 q) fun rr s2 hq => ?_)
  match rr, hq with
  | .error er, hq => exact hx pins σ H1 s1 er s2 I1 hq
  | .ok (.ret u), hq => exact I1.after hq
end
/-! ### plain data, all of it tracked -/
mutual
inductive Dq (H : Hp) : V → PyData → Prop
  | non : Dq H .non .none
  | bl (b : Bool) : Dq H (.bl b) (.bool b)
  | int (i : Int) : Dq H (.int i) (.int i)
  | str (x : Str) : Dq H (.str x) (.str x)
  | lst {a : Addr} {xs : List V} {ds : List PyData} : H a = some (.lst xs) → DqA H xs ds → Dq H (.ref a) (.list ds)
  | tup {a : Addr} {xs : List V} {ds : List PyData} : H a = some (.tup xs) → DqA H xs ds → Dq H (.ref a) (.tuple ds)
  | dct {a : Addr} : H a = some (.dK []) → Dq H (.ref a) (.dict [])
inductive DqA (H : Hp) : List V → List PyData → Prop
  | nil : DqA H [] []
  | cons {v : V} {vs : List V} {d : PyData} {ds : List PyData} : Dq H v d → DqA H vs ds → DqA H (v :: vs) (d :: ds)
end
section
variable {X : Cx} {pins : List (Addr × Obj)} {σ : L2.St} {H : Hp} {s : Shared}
mutual
theorem Dq.reads (I : Inv X pins σ H s) : ∀ {v : V} {d : PyData} {u : Value}, Dq H v d → RelV v u → ∃ as, Reads s.heap u d as ∧ ∀ b ∈ as, H b ≠ none
  | _, _, _, .non, r => by
    cases r
    exact ⟨_, .none, fun b h => nomatch h⟩
  | _, _, _, .bl b, r => by
    cases r
    exact ⟨_, .bool b, fun b h => nomatch h⟩
  | _, _, _, .int i, r => by
    obtain ⟨t, rfl⟩ := r
    exact ⟨_, .int i t, fun b h => nomatch h⟩
  | _, _, _, .str x, r => by
    obtain ⟨t, rfl⟩ := r
    exact ⟨_, .str x t, fun b h => nomatch h⟩
  | _, _, _, .lst (a := a) (xs := xs) ha hd, r => by
    cases r
    obtain ⟨_, its, n, rv, e⟩ := (show ObjOk X.prog X.w H s.heap a (.lst xs) from I.hok a _ ha)
    obtain ⟨as, h1, h2⟩ := DqA.reads I hd rv
    refine ⟨_, .list e rfl rfl (by simpa using h1), fun b hb => ?_⟩
    rcases List.mem_cons.mp hb with rfl | hb
    · rw [ha]; simp
    · exact h2 b hb
  | _, _, _, .tup (a := a) (xs := xs) ha hd, r => by
    cases r
    obtain ⟨_, its, rv, o, e, c, n, hn⟩ := (show ObjOk X.prog X.w H s.heap a (.tup xs) from I.hok a _ ha)
    obtain ⟨as, h1, h2⟩ := DqA.reads I hd rv
    exact ⟨_, .tuple e c hn (by simpa using h1), h2⟩
  | _, _, _, .dct (a := a) ha, r => by
    cases r
    obtain ⟨_, _, vs, kv, o, es, ep, e, hx, hdt, _, hes, _⟩ := (show ObjOk X.prog X.w H s.heap a (.dK []) from I.hok a _ ha)
    cases kv
    have e0 : es.toList = [] := by
      generalize es.toList = zs at hes
      cases hes
      rfl
    refine ⟨_, .dict (kvs := []) e hx.1 hdt (by rw [e0]; exact .nil) (by rw [e0]; exact .nil), fun b hb => ?_⟩
    have : b = a := by simpa using hb
    rw [this, ha]; simp
theorem DqA.reads (I : Inv X pins σ H s) : ∀ {vs : List V} {ds : List PyData} {us : List Value}, DqA H vs ds → Vals vs us → ∃ as, ReadsAll s.heap us ds as ∧ ∀ b ∈ as, H b ≠ none
  | _, _, _, .nil, r => by
    cases r
    exact ⟨_, .nil, fun b h => nomatch h⟩
  | _, _, _, .cons hd ht, .cons r rt => by
    obtain ⟨as, h1, h2⟩ := Dq.reads I hd r
    obtain ⟨bs, h3, h4⟩ := DqA.reads I ht rt
    exact ⟨_, .cons h1 h3, fun b hb => (List.mem_append.mp hb).elim (h2 b) (h4 b)⟩
end
end
mutual
theorem Dq.same {H H' : Hp} (s : Same H H') : ∀ {v : V} {d : PyData}, Dq H v d → Dq H' v d
  | _, _, .non => .non
  | _, _, .bl b => .bl b
  | _, _, .int i => .int i
  | _, _, .str x => .str x
  | _, _, .lst ha hd => .lst (s _ _ ha) (DqA.same s hd)
  | _, _, .tup ha hd => .tup (s _ _ ha) (DqA.same s hd)
  | _, _, .dct ha => .dct (s _ _ ha)
theorem DqA.same {H H' : Hp} (s : Same H H') : ∀ {vs : List V} {ds : List PyData}, DqA H vs ds → DqA H' vs ds
  | _, _, .nil => .nil
  | _, _, .cons a b => .cons (Dq.same s a) (DqA.same s b)
end
/-- repr of a list, a tuple or an empty dict of such data -/
def rReprD : List V → Hp → VK → Prop := fun xs H Q => ∃ (a : Addr) (d : PyData), xs = [.ref a] ∧ Dq H (.ref a) d ∧ d.showable = true ∧ d.depth ≤ 64 ∧ d.shown.length ≤ sizeLine ∧ Q (.str d.shown) H
theorem call_reprD {X : Cx} {k : Nat} {ob : Obj} (hg : X.A.guards = some []) (hr : Room k X.A) (sm : X.base.get? sysModules = some ob) : CallR X (.builtin "repr") rReprD := by
  intro pins s σ H xs us Q I r h
  obtain ⟨a, d, rfl, hd, hs, hdep, hz, q⟩ := h
  obtain ⟨u, rfl, ru⟩ := vals1 r
  cases (show u = Value.ref a from ru)
  obtain ⟨as, h1, h2⟩ := hd.reads I (u := .ref a) rfl
  have no : sysModules ∉ as := fun hm => h2 _ hm (I.env0.bs _ _ sm).2
  have hu := hr.un
  refine repr_of_reads' h1 hs (fun _ => no) hg (by omega) (fun _ _ e => e) (fun h' u tk hk => ?_) hz
  exact ⟨.str d.shown, H, I.kept (t' := tk) hk, ⟨_, rfl⟩, q⟩
/-! ### the end of a law, from such a promise -/
/-- at the law's call: the tables, and the script unless the module itself holds it -/
def H0 (K : PySem.W.Frag) (tabs : List Addr) (a : Addr) (u : HO) : Hp := fun b => if b ∈ tabs then some (.tbl #[]) else if b = a ∧ K.lookup a = none then some u else none
theorem H0_tab {K : PySem.W.Frag} {tabs : List Addr} {a b : Addr} {u : HO} (h : b ∈ tabs) : H0 K tabs a u b = some (.tbl #[]) := if_pos h
theorem H0_cases {K : PySem.W.Frag} {tabs : List Addr} {a b : Addr} {u o : HO} (h : H0 K tabs a u b = some o) : (b ∈ tabs ∧ o = .tbl #[]) ∨ (b ∉ tabs ∧ b = a ∧ K.lookup a = none ∧ o = u) := by
  unfold H0 at h
  split at h
  next hb => exact .inl ⟨hb, (Option.some.inj h).symm⟩
  next hb =>
    split at h
    next hc => exact .inr ⟨hb, hc.1, hc.2, (Option.some.inj h).symm⟩
    next => cases h
theorem law_callG {P : Program} {w : World} {K : PySem.W.Frag} {mg mb : Str → Option Value} {k : Nat} {fa a : Addr} {cs : List (Addr × Addr)} {fd : FuncData} {x : Str} {sp : Sp} {st : Shared} {vs : List Value} {ns : List Int}
    (KX : K.In st.heap) (gNs : st.heap.Ns mainGlobals mg) (bNs : st.heap.Ns builtinsNs mb) (bEq : ∀ x : Str, x ≠ "__name__" → mb x = bootBuiltins x) (lim : st.heap.NoLimit) (noG : st.gens = #[])
    (isT : ∀ p ∈ cs, st.heap.get? p.2 = some { cls := .none, data := .fields #[] }) (nK : ∀ p ∈ cs, K.lookup p.2 = none) (isC : ∀ p ∈ cs, PySem.W.CodeHd st.heap p.1 p.2)
    (bMain : ∃ (bm : Addr) (ob : Obj), mg "__builtins__" = some (.ref bm) ∧ bm ≠ builtinsNs ∧ st.heap.get? bm = some ob ∧ ob.cls = .type "module" ∧ ob.dict = some builtinsNs ∧ ob.data = .plain)
    (scr : st.heap.get? a = some { cls := .type "list", data := .seq vs.toArray }) (intsA : IntsAre vs ns) (few : ns.length ≤ sizeLine) (room : Room k callerA)
    (mods : ∃ mm, st.heap.Ns sysModules mm)
    (F : ∀ base : Heap, K.In base → base.Ns mainGlobals mg → (∃ ob, base.get? sysModules = some ob) → (∀ p ∈ cs, LamX.TabB base mg p.1 p.2) → FnG P w K mg base CX0 k fa fd [x] sp) (bind : ∀ (s : Shared) (u : Value), BindsTo s fd ⟨[u], []⟩ [(x, u)])
    (hsp : ∀ H : Hp, (∀ p ∈ cs, H p.2 = some (.tbl #[])) → SqL K H a (ns.map V.int) → sp [.ref a] H (fun v _ => v = .bl true) fun _ _ _ => False) :
    codeAny (model P w) callerA (.call (.ref fa) ⟨[.ref a], []⟩) (fun r s2 => r = .ok (.ret (.bool true)) ∧ OldK st.heap s2.heap ∧ s2.os = st.os ∧ AllBare s2.gens) st := by
  have vals := vals_ints intsA
  have tabAt : ∀ b ∈ cs.map (·.2), st.heap.get? b = some { cls := .none, data := .fields #[] } := fun b hb => by
    obtain ⟨p, hp, rfl⟩ := List.mem_map.mp hb
    exact isT p hp
  generalize hu : (HO.frz { cls := .type "list", data := .seq vs.toArray } (.lst (ns.map V.int))) = u
  generalize hH : H0 K (cs.map (·.2)) a u = H
  have tabH : ∀ p ∈ cs, H p.2 = some (.tbl #[]) := fun p hp => by
    rw [← hH]
    exact H0_tab (List.mem_map.mpr ⟨p, hp, rfl⟩)
  have what : ∀ b o, H b = some o → (b ∈ cs.map (·.2) ∧ o = .tbl #[]) ∨ (b ∉ cs.map (·.2) ∧ b = a ∧ K.lookup a = none ∧ o = u) := fun b o e => by
    rw [← hH] at e
    exact H0_cases e
  have held : HOk P w H st.heap := fun b o e => by
    rcases what b o e with ⟨h1, rfl⟩ | ⟨_, rfl, _, rfl⟩
    · exact tabAt b h1
    · rw [← hu]
      exact ⟨scr, by rw [List.length_map]; exact few, vs, _, vals, scr⟩
  have seen : SqL K H a (ns.map V.int) := by
    cases hk : K.lookup a with
    | some o =>
      have e := KX a o hk
      rw [scr] at e
      cases e
      exact .inr ⟨_, vs.toArray, _, hk, rfl, rfl, rfl, by rw [List.size_toArray, intsA.length]; exact few, by simpa using vals⟩
    | none =>
      refine .inl (.inr ⟨{ cls := .type "list", data := .seq vs.toArray }, ?_⟩)
      have nt : a ∉ cs.map (·.2) := fun z => by
        have q := tabAt a z
        rw [scr] at q
        cases congrArg Obj.data (Option.some.inj q)
      rw [← hH, ← hu]
      exact (if_neg nt).trans (if_pos ⟨rfl, hk⟩)
  -- what is neither a list nor an empty table is not tracked
  have untracked : ∀ {b : Addr} {o : Obj}, st.heap.get? b = some o → (∀ us m, o.data ≠ .seq us m) → o.data ≠ .fields #[] → H b = none := fun {b o} e h1 h2 => by
    cases q : H b with
    | none => rfl
    | some z =>
      rcases what b z q with ⟨hb, _⟩ | ⟨_, rfl, _⟩
      · rw [tabAt b hb] at e
        exact absurd (congrArg Obj.data (Option.some.inj e)).symm h2
      · rw [scr] at e
        exact absurd (congrArg Obj.data (Option.some.inj e)).symm (h1 _ _)
  have stays : ∀ {b : Addr} {o : Obj}, st.heap.get? b = some o → (∀ us m, o.data ≠ .seq us m) → o.data ≠ .fields #[] → (hidT st.heap H).get? b = some o := fun e h1 h2 => hidT_get e (untracked e h1 h2)
  have names : ∀ {b : Addr} {m : Str → Option Value}, st.heap.Ns b m → (hidT st.heap H).Ns b m := fun ⟨o, es, ep, e, dt, r⟩ =>
    ⟨o, es, ep, stays e (fun _ _ z => by rw [dt] at z; cases z) (fun z => by rw [dt] at z; cases z), dt, r⟩
  have inB : K.In (hidT st.heap H) := fun b o e => hidT_get (KX b o e) (by
    cases q : H b with
    | none => rfl
    | some z =>
      rcases what b z q with ⟨hb, _⟩ | ⟨_, rfl, hn, _⟩
      · obtain ⟨p, hp, rfl⟩ := List.mem_map.mp hb
        rw [nK p hp] at e
        cases e
      · rw [hn] at e
        cases e)
  obtain ⟨mc, lim1, lim2⟩ := lim
  have modu : L2.Mod K mg (hidT st.heap H) := ⟨inB, names gNs, ⟨mb, names bNs, bEq⟩, ⟨mc, names lim1, lim2⟩⟩
  have tabB : ∀ p ∈ cs, LamX.TabB (hidT st.heap H) mg p.1 p.2 := fun p hp => by
    have atP := isT p hp
    refine { code := ?_, bm := ?_, gP := fun z => ?_ }
    · obtain ⟨o, us, file, tf, flags, tg, inF, text, tt, e1, r1, r2, r3, r4⟩ := isC p hp
      exact ⟨o, us, file, tf, flags, tg, inF, text, tt, stays e1 (fun _ _ z => by rw [r2] at z; cases z) (fun z => by rw [r2] at z; cases z; simp at r3), r1, r2, r3, r4⟩
    · obtain ⟨bm, ob, b1, b2, b3, b4, b5, b6⟩ := bMain
      refine ⟨bm, ob, b1, b2, fun z => ?_, fun z => ?_, stays b3 (fun _ _ z => by rw [b6] at z; cases z) (fun z => by rw [b6] at z; cases z), b4, b5, b6⟩
      · obtain ⟨o, es, ep, e, dt, _⟩ := gNs
        rw [z, e] at b3
        cases b3
        rw [dt] at b6
        cases b6
      · rw [z, atP] at b3
        cases b3
        cases b6
    · obtain ⟨o, es, ep, e, dt, _⟩ := gNs
      rw [z, atP] at e
      cases e
      cases dt
  have env : Env0 P w K mg (hidT st.heap H) callerA [] st H := ⟨rfl, modu, fun b o e => of_hidT e, Nat.le_of_eq (hidT_size _ _), trivial, (fun b hb => absurd (show b ∈ ([] : List Addr) from hb) (by simp)), held, .of_eq noG⟩
  have hm : ∃ ob, (hidT st.heap H).get? sysModules = some ob := by
    obtain ⟨mm, hm⟩ := mods
    obtain ⟨o, es, ep, e, _⟩ := names hm
    exact ⟨o, e⟩
  refine codeAny_mono ((F _ inB (names gNs) hm tabB).run callerA [] st H ⟨[.ref a], []⟩ [.ref a] [.ref a] _ _ rfl room env (bind st (.ref a)) (.cons rfl .nil) (hsp H tabH seen)) fun r s2 h => ?_
  match r, h with
  | .error e, h => exact (show False from h).elim
  | .ok (.ret z), h =>
    obtain ⟨v, H2, os2, bare, un, held2, rz, q⟩ := h
    cases (show v = .bl true from q)
    cases (show z = Value.bool true from rz)
    have kept : ∀ b o, b ∉ cs.map (·.2) → st.heap.get? b = some o → s2.heap.get? b = some o := fun b o nb e => by
      cases q : H b with
      | none => exact un.keep b o e q (fun z => absurd (show b ∈ ([] : List Addr) from z) (by simp)) (by simp)
      | some y =>
        rcases what b y q with ⟨hb, _⟩ | ⟨_, rfl, _, rfl⟩
        · exact absurd hb nb
        · rw [← hu] at q
          have e1 := (held2 _ _ (un.frzs _ _ _ q)).1
          rw [scr] at e
          cases e
          exact e1
    have grew : ∀ p ∈ cs, ∃ more : Array Value, s2.heap.get? p.2 = some { cls := .none, data := .fields more } := fun p hp => by
      obtain ⟨more, z⟩ := un.tbls p.2 #[] (tabH p hp)
      exact ⟨_, held2 p.2 _ z⟩
    refine ⟨rfl, ⟨fun b o e => ?_, fun b o e => ?_⟩, os2, bare⟩
    · by_cases hb : b ∈ cs.map (·.2)
      · obtain ⟨p, hp, rfl⟩ := List.mem_map.mp hb
        obtain ⟨more, hm⟩ := grew p hp
        rw [isT p hp] at e
        cases e
        exact .inr (.inl ⟨((isC p hp).tab (isT p hp)).isCodeTable, rfl, #[], more, rfl, by rw [Array.empty_append]; exact hm⟩)
      · exact .inl (kept b o hb e)
    · by_cases hb : b ∈ cs.map (·.2)
      · obtain ⟨p, hp, rfl⟩ := List.mem_map.mp hb
        obtain ⟨more, hm⟩ := grew p hp
        exact ⟨_, hm⟩
      · exact ⟨o, kept b o hb e⟩
/-- what the law's def promises where the head has ended -/
def LawG (l : PySem.W.OpenLaw) (w : World) (K : PySem.W.Frag) (k n : Nat) (x : Str) (mg : Str → Option Value) (fa : Addr) (h : Heap) : Prop :=
  ∃ (fd : FuncData) (cs : List (Addr × Addr)) (sp : Sp), (∀ p ∈ cs, h.get? p.2 = some { cls := .none, data := .fields #[] }) ∧ (∀ p ∈ cs, K.lookup p.2 = none) ∧ (∀ p ∈ cs, PySem.W.CodeHd h p.1 p.2) ∧ (∀ (s : Shared) (u : Value), BindsTo s fd ⟨[u], []⟩ [(x, u)]) ∧
    (∀ (H : Hp) (a : Addr) (ns : List Int), ns.length ≤ n → (∀ p ∈ cs, H p.2 = some (.tbl #[])) → SqL K H a (ns.map V.int) → sp [.ref a] H (fun v _ => v = .bl true) fun _ _ _ => False) ∧
    ∀ base : Heap, K.In base → base.Ns mainGlobals mg → (∃ ob, base.get? sysModules = some ob) → (∀ p ∈ cs, LamX.TabB base mg p.1 p.2) → FnG l.prog w K mg base CX0 k fa fd [x] sp
theorem walk_ofG {l : PySem.W.OpenLaw} {n k : Nat} {q : Program} {loose : List Str} {XP : (Str → Option Value) → Heap → Prop} {YP : World → Heap → Prop} {d : DefRec} {K : Params → PySem.W.Frag} {x : Str}
    (hn : l.most = some n) (hn2 : n ≤ sizeLine) (hdf : d.params.defaults = []) (hi : importsNone q = true) (hr : Room k callerA) (hY : ∀ (w : World) (h : Heap), YP w h → (K w.params).In h)
    (F : ∀ (w : World) (mg : Str → Option Value) (fa : Addr) (h : Heap), YP w h → (K w.params).In h → h.Ns mainGlobals mg → mg d.name = some (.ref fa) → LawG l w (K w.params) k n x mg fa h) :
    PySem.W.WalkO q loose XP YP l.row.toRowW d [] (fun f vs => PySem.call f vs) := by
  refine Att.attach_call hn hdf fun w t0 t1 mg mb fa o pm cd doc a vs ns gr y1 ho hd hcd hmg hobj hints hlen hgen => ?_
  obtain ⟨fd, cs, sp, c1, c2, c3, c4, c5, c6⟩ := F w mg fa _ y1 (hY w _ y1) gr.T.g hmg
  exact law_callG (hY w _ y1) gr.T.g gr.T.b gr.T.builtins gr.T.nolimit hgen c1 c2 c3 gr.T.bmain hobj hints (Nat.le_trans hlen hn2) hr (let ⟨mm, hm, _⟩ := (gr.T.seer hi).mods; ⟨mm, hm⟩) c6 c4 fun H tabs sq => c5 H a ns hlen tabs sq
end Gd

namespace My
open PySem L2 Cm LM CH
abbrev sSame : Stmt := top 34
/-- a drawn row of cutters -/
structure CtN (j : Addr) (H : Hp) (a : Addr) (cs : List (Kd × Nat)) : Prop where
  aj : a ≠ j
  h : CutL H a cs
  ne : cs ≠ []
  l : cs.length ≤ 6
  c : ∀ c ∈ cs, Ct c
theorem CtN.same {j a : Addr} {H H' : Hp} {cs : List (Kd × Nat)} (s : Same H H') (h : CtN j H a cs) : CtN j H' a cs := ⟨h.aj, h.h.same s, h.ne, h.l, h.c⟩
theorem CtN.off {j a : Addr} {H H' : Hp} {cs : List (Kd × Nat)} (s : Off j H H') (hj : Jar H j) (h : CtN j H a cs) : CtN j H' a cs := ⟨h.aj, h.h.off s hj h.aj, h.ne, h.l, h.c⟩
theorem Cuts.take {H : Hp} : ∀ {vs : List V} {cs : List (Kd × Nat)} (k : Nat), Cuts H vs cs → Cuts H (vs.take k) (cs.take k)
  | _, _, 0, _ => .nil
  | _, _, k + 1, .nil => .nil
  | _, _, k + 1, .cons h t => .cons h (t.take k)
theorem Cuts.drop {H : Hp} : ∀ {vs : List V} {cs : List (Kd × Nat)} (k : Nat), Cuts H vs cs → Cuts H (vs.drop k) (cs.drop k)
  | _, _, 0, h => h
  | _, _, k + 1, .nil => .nil
  | _, _, k + 1, .cons _ t => t.drop k
theorem Cuts.app {H : Hp} : ∀ {vs ws : List V} {cs ds : List (Kd × Nat)}, Cuts H vs cs → Cuts H ws ds → Cuts H (vs ++ ws) (cs ++ ds)
  | _, _, _, _, .nil, h => h
  | _, _, _, _, .cons a t, h => .cons a (t.app h)
theorem Cuts.at {H : Hp} {vs : List V} {cs : List (Kd × Nat)} (h : Cuts H vs cs) {i : Nat} (hi : i < cs.length) : ∃ (q : Addr) (c : Kd × Nat), vs[i]? = some (.ref q) ∧ cs[i]? = some c ∧ H q = some (.tup [.str (kdS c.1), .int c.2]) := by
  have lv := h.len
  obtain ⟨q, c, hc, e, hq⟩ := h.get (i := i) (List.getElem?_eq_getElem (by omega))
  exact ⟨q, c, by rw [List.getElem?_eq_getElem (by omega), e], hc, hq⟩
section
variable {P : Program} {w : World} {K : PySem.W.Frag} {mg : Str → Option Value} {base : Heap}
/-! ### what all ways of writing a chain otherwise come to -/
def spSame : Sp := fun vs H Q _ => ∃ (j a : Addr) (cs : List (Kd × Nat)), vs = [.ref j, .ref a] ∧ Jar H j ∧ CtN j H a cs ∧
  ∀ (H' : Hp) (b : Addr) (ds : List (Kd × Nat)), Off j H H' → Jar H' j → CtN j H' b ds → ds.length ≤ cs.length + 1 → (∀ n, lens ds n = lens cs n) → Q (.ref b) H'
theorem scSame : FnScope ["_law_jar_here", "_law_cutters_here", "_law_found", "_law_way", "_law_wide", "_law_words_here", "_law_at", "_law_spot", "_law_each"] ["_law_jar_here", "_law_cutters_here"] (defScope sSame) := ⟨rfl, rfl, rfl, by decide +kernel, rfl, by decide +kernel, by decide +kernel⟩
/-- what stands while a chain is written otherwise -/
structure SaSt (j l D : Addr) (vs : List V) (cs : List (Kd × Nat)) (H0 H : Hp) : Prop where
  off : Off j H0 H
  jar : Jar H j
  l : H l = some (.lst vs)
  c : Cuts H vs cs
  w : H D = some (.lst (svs (cs.map fun c => kdS c.1)))
theorem SaSt.same {j l D : Addr} {vs : List V} {cs : List (Kd × Nat)} {H0 H H' : Hp} (h : SaSt j l D vs cs H0 H) (s : Same H H') : SaSt j l D vs cs H0 H' := ⟨h.off.trans (Same.off s), h.jar.same s, s _ _ h.l, h.c.same s, s _ _ h.w⟩
theorem idx_of {t : Str} : ∀ {ws : List Str}, inV (.str t) (svs ws) = true → ∃ k, k < ws.length ∧ ws[k]? = some t ∧ ∀ m z', m < k → (svs ws)[m]? = some z' → eqV z' (.str t) = false
  | [], h => by cases h
  | y :: r, h => by
    by_cases e : y = t
    · subst e
      exact ⟨0, Nat.succ_pos _, rfl, fun m z' hm => absurd hm (Nat.not_lt_zero _)⟩
    · have h1 : inV (.str t) (svs r) = true := by
        have h2 : (eqV (.str y) (.str t) || inV (.str t) (svs r)) = true := h
        rw [show eqV (.str y) (.str t) = false from beq_eq_false_iff_ne.mpr e, Bool.false_or] at h2
        exact h2
      obtain ⟨k, a, b, c⟩ := idx_of h1
      refine ⟨k + 1, Nat.succ_lt_succ a, b, fun m z' hm hz => ?_⟩
      match m, hm, hz with
      | 0, _, hz =>
        rw [← Option.some.inj hz]
        exact beq_eq_false_iff_ne.mpr e
      | m + 1, hm, hz => exact c m z' (Nat.lt_of_succ_lt_succ hm) hz
theorem svs_drop6 (ws : List Str) (k : Nat) : (svs ws).drop k = svs (ws.drop k) := by
  simp [svs, List.map_drop]
theorem cut1 (xs : List V) : cutV xs (some 1) none = xs.drop 1 := cut_from xs 1
theorem svs_flat (ws : List Str) : (svs ws).all flatV = true := by
  rw [svs, List.all_map]
  exact List.all_eq_true.mpr fun _ _ => rfl
theorem cat_new {H : Hp} {xs ys : List V} {cs ds : List (Kd × Nat)} {z : Addr} (a : Cuts H xs cs) (b : Cuts H ys ds) (nz : H z = none) : CutL (upd H z (.lst (xs ++ ys))) z (cs ++ ds) := ⟨_, upd_same, (a.app b).same (same_new nz)⟩
abbrev swp : List (Key × V) := [(Sum.inr "cut", .str "fill"), (Sum.inr "fill", .str "cut")]
theorem vv_cut : valV swp (Sum.inr (kdS .cut)) = some (.str (kdS .fill)) := by kernel_rfl
theorem vv_fill : valV swp (Sum.inr (kdS .fill)) = some (.str (kdS .cut)) := by kernel_rfl
theorem vv_mk : mergeK [] swp = swp := by kernel_rfl
theorem sl_from {K : PySem.W.Frag} {Q : VK} {H : Hp} {l : Addr} {vs : List V} {n : Int} {k : Nat} (hl : H l = some (.lst vs)) (e : n = (k : Nat)) (h : ∀ z, H z = none → ∀ H', Same H H' → H' z = some (.lst (vs.drop k)) → Q (.ref z) H') : rSlL K (.ref l) (some n) none H Q := by
  refine ⟨l, vs, rfl, SqL.of hl, fun z nz => ?_⟩
  rw [e, cut_from]
  exact h z nz _ (same_new nz) upd_same
theorem sl_to {K : PySem.W.Frag} {Q : VK} {H : Hp} {l : Addr} {vs : List V} {n : Int} {k : Nat} (hl : H l = some (.lst vs)) (e : n = (k : Nat)) (hk : k ≤ vs.length) (h : ∀ z, H z = none → ∀ H', Same H H' → H' z = some (.lst (vs.take k)) → Q (.ref z) H') : rSlL K (.ref l) none (some n) H Q := by
  refine ⟨l, vs, rfl, SqL.of hl, fun z nz => ?_⟩
  rw [e, cut_to _ _ hk]
  exact h z nz _ (same_new nz) upd_same
theorem rcat_k {Q : VK} {H : Hp} {p r : Addr} {xs ys : List V} {cs ds : List (Kd × Nat)} (hp : H p = some (.lst xs)) (C1 : Cuts H xs cs) (hr : H r = some (.lst ys)) (C2 : Cuts H ys ds) (hl : cs.length + ds.length ≤ 20)
    (k : ∀ z, H z = none → ∀ H', Same H H' → H' z = some (.lst (xs ++ ys)) → Cuts H' (xs ++ ys) (cs ++ ds) → Q (.ref z) H') : rCat (.ref p) (.ref r) H Q := by
  have a := C1.len
  have b := C2.len
  exact ⟨p, r, xs, ys, rfl, rfl, hp, hr, Nat.le_of_lt (szM (show xs.length + ys.length ≤ 1000000 by omega)), fun z nz => k z nz _ (same_new nz) upd_same ((C1.app C2).same (same_new nz))⟩
theorem one_facts {j l D t p : Addr} {vs : List V} {cs : List (Kd × Nat)} {H0 H : Hp} {x : V} {n : Int} {kd : Kd} {m : Nat} (S : SaSt j l D vs cs H0 H) (nt : H t = none) (np : (upd H t (.tup [x, .int n])) p = none) (ex : x = .str (kdS kd)) (en : n = (m : Nat)) :
    SaSt j l D vs cs H0 (upd (upd H t (.tup [x, .int n])) p (.lst [.ref t])) ∧ (upd (upd H t (.tup [x, .int n])) p (.lst [.ref t])) p = some (.lst [.ref t]) ∧ Cuts (upd (upd H t (.tup [x, .int n])) p (.lst [.ref t])) [.ref t] [(kd, m)] := by
  subst ex en
  exact ⟨(S.same (same_new nt)).same (same_new np), upd_same, .cons (same_new np _ _ upd_same) .nil⟩
theorem ct_app {cs ds : List (Kd × Nat)} (a : ∀ c ∈ cs, Ct c) (b : ∀ c ∈ ds, Ct c) : ∀ c ∈ cs ++ ds, Ct c := fun c h => (List.mem_append.mp h).elim (a c) (b c)
theorem ct_take {cs : List (Kd × Nat)} (a : ∀ c ∈ cs, Ct c) (k : Nat) : ∀ c ∈ cs.take k, Ct c := fun c h => a c (List.mem_of_mem_take h)
theorem ct_drop {cs : List (Kd × Nat)} (a : ∀ c ∈ cs, Ct c) (k : Nat) : ∀ c ∈ cs.drop k, Ct c := fun c h => a c (List.mem_of_mem_drop h)
theorem ct_one {k : Kd} {n : Nat} (a : 1 ≤ n) (b : n ≤ 12) : ∀ c ∈ [(k, n)], Ct c := fun c h => by
  rw [List.mem_singleton.mp h]
  exact ⟨a, b⟩
theorem kdS_fill {k : Kd} (h : kdS k = "fill") : k = .fill := by
  cases k with
  | fill => rfl
  | cut => exact absurd h (by decide +kernel)
  | tail => exact absurd h (by decide +kernel)
theorem kd3_of {i : Nat} {x : V} (h : (svs ["cut", "tail", "fill"])[i]? = some x) : ∃ k, x = .str (kdS k) := by
  match i, h with
  | 0, h => exact ⟨.cut, (Option.some.inj h).symm⟩
  | 1, h => exact ⟨.tail, (Option.some.inj h).symm⟩
  | 2, h => exact ⟨.fill, (Option.some.inj h).symm⟩
  | n + 3, h => simp [svs] at h
abbrev saS (j a l D : Addr) (way wd at_ : Nat) : L2.St := [some (.ref j), some (.ref a), some (.ref l), some (.int (way : Nat)), some (.int ((wd : Nat) : Int)), some (.ref D), some (.int (at_ : Nat)), none, none]
theorem SaSt.off' {j l D : Addr} {vs : List V} {cs : List (Kd × Nat)} {H0 H H' : Hp} (h : SaSt j l D vs cs H0 H) (lj : l ≠ j) (Dj : D ≠ j) (s : Off j H H') (J : Jar H' j) : SaSt j l D vs cs H0 H' := ⟨h.off.trans s, J, s _ _ lj h.l, h.c.mono (jar_tup s h.jar), s _ _ Dj h.w⟩
/-- each[0] -/
def tHd : TE := fun σ H Q => ∃ (q : Addr) (c : Kd × Nat), σ[8]? = some (some (.ref q)) ∧ H q = some (.tup [.str (kdS c.1), .int c.2]) ∧ Q (.str (kdS c.1)) H
theorem ok_same (D : TxAd K mg) (mlist : mg "list" = none) {f : Addr} {fd : FuncData} (F : Fun K "_law_same_chain" "_law_same_chain" sSame f fd) : FnOk P w K mg base CX0 3 f fd ["_law_jar_here", "_law_cutters_here"] spSame := by
  have GS : FnOk P w K mg base CX0 1 D.sip.f D.sip.fd ["_law_jar_here", "_law_many"] spSip := ga_sip D
  have GF : FnOk P w K mg base CX0 2 D.frm.f D.frm.fd ["_law_jar_here", "_law_things"] (spFrom K) := ga_from D
  refine F.ok scSame (fun vs H Q E h => ?_) (fun cdv A outer s H vs Q E hr h => ?_)
  · obtain ⟨j, a, cs, rfl, _⟩ := h
    rfl
  · obtain ⟨j, a, cs, rfl, hJ, hN, k⟩ := h
    have hr1 : Room 1 _ := hr.mono (by decide)
    have hu := hu_of hr
    refine ⟨_, (pss_cons (ps_par3 (i := 2) (j := 3) (l := 4) rfl scSame.nd rfl rfl rfl (by decide) (by decide) (by decide) rfl rfl rfl (pa_cons (pe_callTy call_list_of (by rfl) mlist (by decide +kernel) (pa_cons (pv 1) pa_nil)) (pa_cons (pe_call GS hr1 rfl D.sip.g D.sip.k D.sip.b .nil pass0 (pa_cons (pv 0) (pa_cons pe_int pa_nil))) (pa_cons (pe_op op_add pe_int (pe_call GS hr1 rfl D.sip.g D.sip.k D.sip.b .nil pass0 (pa_cons (pv 0) (pa_cons pe_int pa_nil)))) pa_nil))) (by rfl)) (pss_cons (ps_setLc (i := 5) (own := [("_law_each", 8)]) (g := gName 8) (tt := tYes) (te := tHd) rfl scSame.nd rfl rfl (sw_true rfl rfl rfl (by decide +kernel)) (pi_list (pv 2)) (blkOk_by (own := [("_law_each", 8)]) (N := ["_law_jar_here", "_law_cutters_here", "_law_found", "_law_way", "_law_wide", "_law_words_here", "_law_at", "_law_spot", "_law_each"]) (sc := defScope sSame) (by decide +kernel)) (fun _ _ _ _ _ => pg_name (i := 8) scSame.nd rfl (Or.inl rfl)) (fun _ _ _ _ _ => pts_nil) (fun _ _ _ _ _ => by exact pe_imp (t' := tHd) (pe_ix ix_tup (pv 8) pe_int (fun _ _ => rfl)) (fun σ H1 Q1 ⟨q, c, h8, hq, k⟩ => ⟨_, h8, q, _, 0, _, rfl, rfl, SqT.of hq, rfl, k⟩))) (pss_cons (ps_set (i := 6) scSame.nd rfl (.inl rfl) (pe_call GS hr1 rfl D.sip.g D.sip.k D.sip.b .nil pass0 (pa_cons (pv 0) (pa_cons (pe_callB call_len_seq (by rfl) D.J.len PySem.boot_len (pa_cons (pv 2) pa_nil)) pa_nil)))) (C8.pss_cut (ps_if (PW.pt (pw_and (pt_cmpR op_eq (pv 3) pe_int (nomark _)) (pw_and1 (pt_cmpR op_in_seq pe_str (pe_slice sl_list (pv 5) (po_some pe_int) po_none) (by rfl))))) (pss_cons (ps_set (i := 7) scSame.nd rfl (.inl rfl) (pe_op op_add pe_int (pe_bm PySem.F.plainAttrs_list PySem.F.slot_list_index PySem.F.type_list_index mt_index (pe_slice sl_list (pv 5) (po_some pe_int) po_none) (pa_cons pe_str pa_nil)))) (pss_one (ps_ret (pe_op op_cat (pe_lst (pa_cons (pe_tup (pa_cons (pe_call GF hr rfl D.frm.g D.frm.k D.frm.b .nil pass0 (pa_cons (pv 0) (pa_cons (pe_lst (pa_cons pe_str (pa_cons pe_str (pa_cons pe_str pa_nil)))) pa_nil))) (pa_cons (pv 4) pa_nil))) pa_nil)) (pe_slice sl_list (pv 2) (po_some (pv 7)) po_none))))) pss_nil) (C8.pss_cut (ps_if (PW.pt (pw_and (pt_cmpR op_eq (pv 3) pe_int (nomark _)) (pw_and1 (pt_cmpR op_ne (pe_ix ix_tup (pe_ix ix_list (pv 2) pe_int (fun _ _ => rfl)) pe_int (fun _ _ => rfl)) pe_str (nomark _))))) (pss_one (ps_ret (pe_op op_cat (pe_lst (pa_cons (pe_tup (pa_cons (pe_dget hu (pe_disp (pps_cons pe_str pe_str (pps_cons pe_str pe_str pps_nil)) rfl rfl (by intro z; cases z) (by decide)) (pe_ix ix_tup (pe_ix ix_list (pv 2) pe_int (fun _ _ => rfl)) pe_int (fun _ _ => rfl)) (fun _ _ => rfl)) (pa_cons (pe_ix ix_tup (pe_ix ix_list (pv 2) pe_int (fun _ _ => rfl)) pe_int (fun _ _ => rfl)) pa_nil))) pa_nil)) (pe_slice sl_list (pv 2) (po_some pe_int) po_none)))) pss_nil) (C8.pss_cut (ps_if (PW.pt (pw_and (pt_cmpR op_eq (pv 3) pe_int (nomark _)) (pw_and1 (pt_cmpR op_lt (pe_callB call_len_seq (by rfl) D.J.len PySem.boot_len (pa_cons (pv 2) pa_nil)) pe_int (nomark _))))) (pss_one (ps_ret (pe_op op_cat (pe_lst (pa_cons (pe_tup (pa_cons pe_str (pa_cons (pv 4) pa_nil))) pa_nil)) (pv 2)))) pss_nil) (C8.pss_cut (ps_if (PW.pt (pw_and (pt_cmpR op_eq (pv 3) pe_int (nomark _)) (pw_and (pt_cmpR op_ne (pe_ix ix_tup (pe_ix ix_list (pv 2) (pv 6) (fun _ _ => rfl)) pe_int (fun _ _ => rfl)) pe_str (nomark _)) (pw_and1 (pt_cmpR op_lt (pe_callB call_len_seq (by rfl) D.J.len PySem.boot_len (pa_cons (pv 2) pa_nil)) pe_int (nomark _)))))) (pss_one (ps_ret (pe_op op_cat (pe_op op_cat (pe_slice sl_list (pv 2) po_none (po_some (pe_op op_add (pv 6) pe_int))) (pe_lst (pa_cons (pe_tup (pa_cons pe_str (pa_cons (pe_op op_add (pe_ix ix_tup (pe_ix ix_list (pv 2) (pv 6) (fun _ _ => rfl)) pe_int (fun _ _ => rfl)) (pe_call GS hr1 rfl D.sip.g D.sip.k D.sip.b .nil pass0 (pa_cons (pv 0) (pa_cons (pe_op op_sub pe_int (pe_ix ix_tup (pe_ix ix_list (pv 2) (pv 6) (fun _ _ => rfl)) pe_int (fun _ _ => rfl))) pa_nil)))) pa_nil))) pa_nil))) (pe_slice sl_list (pv 2) (po_some (pe_op op_add (pv 6) pe_int)) po_none)))) pss_nil) (C8.pss_cut (ps_if (PW.pt (pw_and (pt_cmpR op_eq (pv 3) pe_int (nomark _)) (pw_and (pt_cmpR op_eq (pe_ix ix_tup (pe_ix ix_list (pv 2) (pv 6) (fun _ _ => rfl)) pe_int (fun _ _ => rfl)) pe_str (nomark _)) (pw_and (pt_cmpR op_lt (pe_ix ix_tup (pe_ix ix_list (pv 2) (pv 6) (fun _ _ => rfl)) pe_int (fun _ _ => rfl)) pe_int (nomark _)) (pw_and1 (pt_cmpR op_lt (pe_callB call_len_seq (by rfl) D.J.len PySem.boot_len (pa_cons (pv 2) pa_nil)) pe_int (nomark _))))))) (pss_one (ps_ret (pe_op op_cat (pe_op op_cat (pe_slice sl_list (pv 2) po_none (po_some (pv 6))) (pe_lst (pa_cons (pe_tup (pa_cons pe_str (pa_cons (pe_op op_mul pe_int (pe_ix ix_tup (pe_ix ix_list (pv 2) (pv 6) (fun _ _ => rfl)) pe_int (fun _ _ => rfl))) pa_nil))) (pa_cons (pe_tup (pa_cons pe_str (pa_cons (pe_ix ix_tup (pe_ix ix_list (pv 2) (pv 6) (fun _ _ => rfl)) pe_int (fun _ _ => rfl)) pa_nil))) pa_nil)))) (pe_slice sl_list (pv 2) (po_some (pe_op op_add (pv 6) pe_int)) po_none)))) pss_nil) (C8.pss_cut (ps_if (pt_cmpR op_lt (pe_callB call_len_seq (by rfl) D.J.len PySem.boot_len (pa_cons (pv 2) pa_nil)) pe_int (nomark _)) (pss_one (ps_ret (pe_op op_cat (pe_op op_cat (pe_slice sl_list (pv 2) po_none (po_some (pv 6))) (pe_lst (pa_cons (pe_tup (pa_cons pe_str (pa_cons pe_int pa_nil))) pa_nil))) (pe_slice sl_list (pv 2) (po_some (pv 6)) po_none)))) pss_nil) (pss_one (ps_ret (pv 2)))))))))))), ?_⟩
    -- found, way, wide
    obtain ⟨vs, ha, hC0⟩ := id hN.h
    refine ⟨_, rfl, a, vs, rfl, .inl (SqL.of ha), fun l nl => ?_⟩
    have lj := jar_ne hJ nl
    have s1 := same_new (o := .lst vs) nl
    have hl1 : (upd H l (.lst vs)) l = some (.lst vs) := upd_same
    have hC1 := hC0.same s1
    have J1 := hJ.same s1
    have n0l := nl
    generalize upd H l (.lst vs) = H1 at s1 hl1 hC1 J1 ⊢
    refine ⟨_, rfl, j, 6, rfl, J1, by decide, by decide, fun H2 d d0 d1 o2 J2 => ?_⟩
    obtain ⟨way, rfl⟩ := Int.eq_ofNat_of_zero_le d0
    refine ⟨_, rfl, j, 12, rfl, J2, by decide, by decide, fun H3 e e0 e1 o3 J3 => ⟨_, _, rfl, rfl, _, _, _, rfl, ?_⟩⟩
    obtain ⟨wd, rfl⟩ := Int.eq_ofNat_of_zero_le e0
    have ew : (1 : Int) + (wd : Int) = ((wd + 1 : Nat) : Int) := by omega
    have o13 : Off j H1 H3 := o2.trans o3
    have hl3 := o13 _ _ lj hl1
    have hC3 := hC1.mono (jar_tup o13 J1)
    have oH3 : Off j H H3 := Off.trans (Same.off s1) o13
    have lv := hC0.len
    have lcs := hN.l
    have lpos : 0 < cs.length := List.length_pos_iff.mpr hN.ne
    clear o13 hl1 hC1 J1 J2 o2 o3
    -- the words
    refine ⟨_, rfl, l, rfl, ⟨_, SqL.of hl3⟩, fun D nD => ?_⟩
    have Dj := jar_ne J3 nD
    refine lc_list (K := K) (a := l) (xs := vs) (fun i H' => Same H3 H' ∧ H' D = some (.lst (svs ((cs.take i).map fun c => kdS c.1)))) ⟨same_new nD, upd_same⟩ (fun i H' _ ⟨s', _⟩ => SqL.of (s' _ _ hl3)) ?_ ?_
    · rintro i y H' hy ⟨s', hD⟩
      obtain ⟨q, c, hc, rfl, hq⟩ := hC3.get hy
      refine ⟨rfl, q, c, rfl, s' _ _ hq, _, hD, ?_, fun b o z => ?_, ?_⟩
      · rw [show (svs ((cs.take i).map fun c => kdS c.1)).length = (cs.take i).length by simp [svs], List.length_take]
        exact szM (by omega)
      · rw [upd_ne (ne_of_none z nD)]
        exact s' _ _ z
      · rw [upd_same, take_snoc hc, List.map_append]
        simp [svs]
    rintro H4 ⟨s4, hD4⟩
    rw [lv, List.take_length] at hD4
    have J4 := J3.same s4
    refine ⟨_, rfl, _, rfl, l, _, rfl, .inl (SqL.of (s4 _ _ hl3)), j, _, rfl, J4, by omega, by omega, fun H5 f5 f50 f51 o5 J5 => ?_⟩
    obtain ⟨at_, rfl⟩ := Int.eq_ofNat_of_zero_le f50
    have hat : at_ < cs.length := by omega
    have St5 : SaSt j l D vs cs H H5 := ⟨(oH3.trans (Same.off s4)).trans o5, J5, o5 _ _ lj (s4 _ _ hl3), (hC3.same s4).mono (jar_tup o5 J4), o5 _ _ Dj hD4⟩
    clear oH3 s4 o5 hl3 hC3 hD4 J3 J4 nD s1
    -- how each way ends
    have fin : ∀ (H6 : Hp) (z : Addr) (ds : List (Kd × Nat)), Off j H H6 → Jar H6 j → z ≠ j → CutL H6 z ds → ds ≠ [] → ds.length ≤ 6 ∧ ds.length ≤ cs.length + 1 → (∀ c ∈ ds, Ct c) → (∀ n, lens ds n = lens cs n) → Q (.ref z) H6 := fun H6 z ds o6 J6 zj hz ne l6 ct eq => k H6 z ds o6 J6 ⟨zj, hz, ne, l6.1, ct⟩ l6.2 eq
    have hct := hN.c
    show C8.tCut _ _ _ [some (.ref j), some (.ref a), some (.ref l), some (.int (way : Nat)), some (.int ((1 : Int) + (wd : Int))), some (.ref D), some (.int (at_ : Nat)), none, none] H5
    rw [ew]
    have wd1 : 1 ≤ wd + 1 := by omega
    have wd2 : wd + 1 ≤ 12 := by omega
    generalize wd + 1 = W at wd1 wd2 ⊢
    clear e0 e1 ew d0 f50 n0l nl hN ha hC0 hJ J5
    -- 0: something else before a fill
    refine ⟨fun σ' H' => σ' = saS j a l D way W at_ ∧ SaSt j l D vs cs H H', ?_, ?_⟩
    · refine ⟨_, rfl, rfl, _, rfl, ite2 (fun c0 => ?_) (fun c0 => ite2 (fun z => absurd z (by decide)) (fun _ => ⟨rfl, St5⟩))⟩
      refine ⟨_, rfl, _, rfl, D, _, rfl, SqL.of St5.w, fun p np => ?_⟩
      rw [cut1, svs_drop6]
      refine ⟨p, _, rfl, .inl (SqL.of upd_same), rfl, svs_flat _, _, rfl, ite2 (fun c1 => ?_) (fun c1 => ⟨rfl, St5.same (same_new np)⟩)⟩
      obtain ⟨i, hi, gi, bi⟩ := idx_of c1
      obtain ⟨w0, w1, w2⟩ : ∃ c : Kd × Nat, cs[i + 1]? = some c ∧ c.1 = .fill := by
        have gi' := gi
        rw [List.getElem?_drop, List.getElem?_map] at gi'
        obtain ⟨c, hc, e⟩ := Option.map_eq_some_iff.mp gi'
        exact ⟨c, by rw [Nat.add_comm]; exact hc, kdS_fill e⟩
      have St6 := St5.same (same_new (o := .lst (svs (((cs.map fun c => kdS c.1)).drop 1))) np)
      generalize upd H5 p (.lst (svs (((cs.map fun c => kdS c.1)).drop 1))) = H6 at St6 ⊢
      refine ⟨_, rfl, _, rfl, D, _, rfl, SqL.of St6.w, fun p2 np2 => ?_⟩
      rw [cut1, svs_drop6]
      have St7 := St6.same (same_new (o := .lst (svs (((cs.map fun c => kdS c.1)).drop 1))) np2)
      refine ⟨.inl ⟨rfl, _, SqL.of upd_same⟩, p2, _, .str "fill", i, .str "fill", rfl, rfl, SqL.of upd_same, rfl, svs_flat _, ?_, rfl, bi, _, _, rfl, rfl, ?_⟩
      · rw [svs, List.getElem?_map, gi]
        rfl
      generalize upd H6 p2 (.lst (svs (((cs.map fun c => kdS c.1)).drop 1))) = H7 at St7 ⊢
      have hik : i + 1 < cs.length := by
        rw [List.length_drop, List.length_map] at hi
        omega
      refine ⟨_, rfl, (by show 3 ≤ sizeLine; decide), fun q nq => ?_⟩
      refine ⟨j, q, svs ["cut", "tail", "fill"], rfl, St7.jar.new nq, jar_ne St7.jar nq, SqL.of upd_same, by decide, by decide, fun H8 ix x hx o8 J8 => ?_⟩
      obtain ⟨kd, rfl⟩ := kd3_of hx
      have St8 := (St7.same (same_new nq)).off' lj Dj o8 J8
      refine ⟨_, rfl, (by show 2 ≤ sizeLine; decide), fun t nt => ⟨(by show 1 ≤ sizeLine; decide), fun p3 np3 => ?_⟩⟩
      obtain ⟨St10, hp3, C10⟩ := one_facts St8 nt np3 rfl rfl
      show tSl _ _ _ _ _ (upd (upd H8 t (.tup [.str (kdS kd), .int (W : Nat)])) p3 (.lst [.ref t])) _
      generalize upd (upd H8 t (.tup [.str (kdS kd), .int (W : Nat)])) p3 (.lst [.ref t]) = H10 at St10 hp3 C10 ⊢
      refine ⟨_, rfl, _, rfl, _, rfl, ?_⟩
      unfold tNoPart
      refine sl_from (k := i + 1) St10.l (by omega) fun r nr H11 s11 hr11 => ?_
      have St11 := St10.same s11
      exact rcat_k (s11 _ _ hp3) (C10.same s11) hr11 (St11.c.drop _) (by simp; omega) fun z nz H12 s12 hz Cz => fin _ z _ (St11.same s12).off (St11.same s12).jar (jar_ne St11.jar nz) ⟨_, hz, Cz⟩ (by simp) (by simp; omega) (ct_app (ct_one wd1 wd2) (ct_drop hct _)) (fun n => same0 w1 w2 _ n)
    rintro _ H6 ⟨rfl, St6⟩
    clear St5
    -- 1: cut for fill, fill for cut
    obtain ⟨q0, k0, gv0, gc0, hq0⟩ := St6.c.at lpos
    have cm0 : Ct k0 := hct _ (List.mem_of_getElem? gc0)
    refine ⟨fun σ' H' => σ' = saS j a l D way W at_ ∧ SaSt j l D vs cs H H', ?_, ?_⟩
    · refine ⟨_, rfl, rfl, _, rfl, ite2 (fun c0 => ?_) (fun c0 => ite2 (fun z => absurd z (by decide)) (fun _ => ⟨rfl, St6⟩))⟩
      refine ⟨_, rfl, l, _, 0, .ref q0, rfl, rfl, SqL.of St6.l, (show atI _ ((0 : Nat) : Int) = _ from atI_nat gv0), q0, _, 0, _, rfl, rfl, SqT.of hq0, rfl, rfl, _, rfl, ite2 (fun c1 => ?_) (fun c1 => ⟨rfl, St6⟩)⟩
      obtain ⟨kd, ekd, kt, kt0⟩ : ∃ kd : Kd, valV swp (Sum.inr (kdS k0.1)) = some (.str (kdS kd)) ∧ kd ≠ .tail ∧ k0.1 ≠ .tail := by
        cases h : k0.1 with
        | cut => exact ⟨.fill, vv_cut, by decide, by decide⟩
        | fill => exact ⟨.cut, vv_fill, by decide, by decide⟩
        | tail =>
          rw [h] at c1
          exact absurd c1 (by decide +kernel)
      refine fun p np => ⟨upd_same, swp, rfl, by decide, ?_⟩
      rw [vv_mk]
      have St7 : SaSt j l D vs cs H (upd (upd H6 p (.dK [])) p (.dK swp)) := St6.same fun b o z => by rw [upd_ne (ne_of_none z np), upd_ne (ne_of_none z np)]; exact z
      have hp7 : (upd (upd H6 p (.dK [])) p (.dK swp)) p = some (.dK swp) := upd_same
      generalize upd (upd H6 p (.dK [])) p (.dK swp) = H7 at St7 hp7 ⊢
      obtain ⟨q1, k1, gv1, gc1, hq1⟩ := St7.c.at lpos
      obtain rfl : k1 = k0 := Option.some.inj (gc1.symm.trans gc0)
      have gt := DGet.k (k := Sum.inr (kdS k1.1)) hp7
      rw [ekd] at gt
      refine ⟨_, rfl, l, _, 0, .ref q1, rfl, rfl, SqL.of St7.l, (show atI _ ((0 : Nat) : Int) = _ from atI_nat gv1), q1, _, 0, _, rfl, rfl, SqT.of hq1, rfl, p, _, rfl, gt, ?_⟩
      refine ⟨_, rfl, l, _, 0, .ref q1, rfl, rfl, SqL.of St7.l, (show atI _ ((0 : Nat) : Int) = _ from atI_nat gv1), q1, _, 1, .int (k1.2 : Nat), rfl, rfl, SqT.of hq1, rfl, ?_⟩
      refine ⟨(by show 2 ≤ sizeLine; decide), fun t nt => ⟨(by show 1 ≤ sizeLine; decide), fun p3 np3 => ?_⟩⟩
      obtain ⟨St10, hp3, C10⟩ := one_facts St7 nt np3 rfl rfl
      show tSl _ _ _ _ _ (upd (upd H7 t (.tup [.str (kdS kd), .int (k1.2 : Nat)])) p3 (.lst [.ref t])) _
      generalize upd (upd H7 t (.tup [.str (kdS kd), .int (k1.2 : Nat)])) p3 (.lst [.ref t]) = H10 at St10 hp3 C10 ⊢
      refine ⟨_, rfl, _, rfl, ?_⟩
      unfold tNoPart
      refine sl_from (k := 1) St10.l rfl fun r nr H11 s11 hr11 => ?_
      have St11 := St10.same s11
      exact rcat_k (s11 _ _ hp3) (C10.same s11) hr11 (St11.c.drop _) (by simp; omega) fun z nz H12 s12 hz Cz => fin _ z _ (St11.same s12).off (St11.same s12).jar (jar_ne St11.jar nz) ⟨_, hz, Cz⟩ (by simp) (by simp; omega) (ct_app (ct_one cm0.1 cm0.2) (ct_drop hct _)) (fun n => same1 gc1 kt0 kt n)
    rintro _ H7 ⟨rfl, St7⟩
    clear St6 hq0 gv0
    -- 2: a tail before
    refine ⟨fun σ' H' => σ' = saS j a l D way W at_ ∧ SaSt j l D vs cs H H', ?_, ?_⟩
    · refine ⟨_, rfl, rfl, _, rfl, ite2 (fun c0 => ?_) (fun c0 => ite2 (fun z => absurd z (by decide)) (fun _ => ⟨rfl, St7⟩))⟩
      refine ⟨_, rfl, l, _, rfl, .inl (SqL.of St7.l), _, _, rfl, rfl, _, rfl, ite2 (fun c1 => ?_) (fun c1 => ⟨rfl, St7⟩)⟩
      have c2 : cs.length < 6 := by have := of_decide_eq_true c1; omega
      refine ⟨_, rfl, (by show 2 ≤ sizeLine; decide), fun t nt => ⟨(by show 1 ≤ sizeLine; decide), fun p3 np3 => ?_⟩⟩
      obtain ⟨St10, hp3, C10⟩ := one_facts (kd := .tail) St7 nt np3 rfl rfl
      show tVar _ _ (upd (upd H7 t (.tup [.str "tail", .int (W : Nat)])) p3 (.lst [.ref t])) _
      change SaSt j l D vs cs H (upd (upd H7 t (.tup [.str "tail", .int (W : Nat)])) p3 (.lst [.ref t])) at St10
      change (upd (upd H7 t (.tup [.str "tail", .int (W : Nat)])) p3 (.lst [.ref t])) p3 = _ at hp3
      change Cuts (upd (upd H7 t (.tup [.str "tail", .int (W : Nat)])) p3 (.lst [.ref t])) _ _ at C10
      generalize upd (upd H7 t (.tup [.str "tail", .int (W : Nat)])) p3 (.lst [.ref t]) = H10 at St10 hp3 C10 ⊢
      exact ⟨_, rfl, rcat_k hp3 C10 St10.l St10.c (by simp; omega) fun z nz H12 s12 hz Cz => fin _ z _ (St10.same s12).off (St10.same s12).jar (jar_ne St10.jar nz) ⟨_, hz, Cz⟩ (by simp) (by simp; omega) (ct_app (ct_one wd1 wd2) hct) (fun n => same2 cs W n)⟩
    rintro _ H8 ⟨rfl, St8⟩
    clear St7
    -- 3: a cut behind
    obtain ⟨q0, k1, gv1, gc1, hq1⟩ := St8.c.at hat
    have cm1 : Ct k1 := hct _ (List.mem_of_getElem? gc1)
    refine ⟨fun σ' H' => σ' = saS j a l D way W at_ ∧ SaSt j l D vs cs H H', ?_, ?_⟩
    · refine ⟨_, rfl, rfl, _, rfl, ite2 (fun c0 => ?_) (fun c0 => ite2 (fun z => absurd z (by decide)) (fun _ => ⟨rfl, St8⟩))⟩
      refine ⟨_, rfl, _, rfl, l, _, at_, .ref q0, rfl, rfl, SqL.of St8.l, atI_nat gv1, q0, _, 0, _, rfl, rfl, SqT.of hq1, rfl, rfl, _, rfl, ite2 (fun c1 => ?_) (fun c1 => ite2 (fun z => absurd z (by decide)) (fun _ => ⟨rfl, St8⟩))⟩
      refine ⟨_, rfl, l, _, rfl, .inl (SqL.of St8.l), _, _, rfl, rfl, _, rfl, ite2 (fun c2 => ?_) (fun c2 => ⟨rfl, St8⟩)⟩
      have c3 : cs.length < 6 := by have := of_decide_eq_true c2; omega
      refine ⟨_, rfl, _, rfl, _, _, rfl, rfl, _, rfl, ?_⟩
      refine sl_to (k := at_ + 1) St8.l (by omega) (by omega) fun r nr H9 s9 hr9 => ?_
      have St9 := St8.same s9
      have hq9 := s9 _ _ hq1
      refine ⟨_, rfl, _, rfl, l, _, at_, .ref q0, rfl, rfl, SqL.of St9.l, atI_nat gv1, q0, _, 1, .int (k1.2 : Nat), rfl, rfl, SqT.of hq9, rfl, ?_⟩
      refine ⟨_, rfl, _, rfl, _, rfl, l, _, at_, .ref q0, rfl, rfl, SqL.of St9.l, atI_nat gv1, q0, _, 1, .int (k1.2 : Nat), rfl, rfl, SqT.of hq9, rfl, _, _, rfl, rfl, ?_⟩
      have cm1a := cm1.1
      have cm1b := cm1.2
      refine ⟨j, _, rfl, St9.jar, by omega, by omega, fun H10 d d0 d1 o10 J10 => ⟨_, _, rfl, rfl, ?_⟩⟩
      obtain ⟨e, rfl⟩ := Int.eq_ofNat_of_zero_le d0
      have rj := jar_ne St8.jar nr
      have St10 := St9.off' lj Dj o10 J10
      have hr10 := o10 _ _ rj hr9
      refine ⟨(by show 2 ≤ sizeLine; decide), fun t nt => ⟨(by show 1 ≤ sizeLine; decide), fun p3 np3 => ?_⟩⟩
      obtain ⟨St11, hp3, C11⟩ := one_facts (kd := .cut) (m := k1.2 + e) St10 nt np3 rfl (by omega)
      have hr11 := same_new (o := .lst [.ref t]) np3 _ _ (same_new nt _ _ hr10)
      refine rcat_k hr11 (St11.c.take _) hp3 C11 (by simp; omega) fun z nz H12 s12 hz Cz => ?_
      have St12 := St11.same s12
      refine ⟨_, rfl, _, rfl, _, _, rfl, rfl, _, rfl, ?_⟩
      unfold tNoPart
      refine sl_from (k := at_ + 1) St12.l (by omega) fun r2 nr2 H13 s13 hr13 => ?_
      have St13 := St12.same s13
      exact rcat_k (s13 _ _ hz) (Cz.same s13) hr13 (St13.c.drop _) (by simp; omega) fun z nz H14 s14 hz Cz => fin _ z _ (St13.same s14).off (St13.same s14).jar (jar_ne St13.jar nz) ⟨_, hz, Cz⟩ (by simp) (by simp; omega) (ct_app (ct_app (ct_take hct _) (ct_one (by omega) (by omega))) (ct_drop hct _)) (fun n => same3 gc1 (fun z => by rw [z] at c1; exact absurd c1 (by decide +kernel)) cm1a n)
    rintro _ H9 ⟨rfl, St9⟩
    clear St8 hq1 gv1
    -- 4: a fill of twice the width, and a cut
    obtain ⟨q2, k2, gv2, gc2, hq2⟩ := St9.c.at hat
    have cm2 : Ct k2 := hct _ (List.mem_of_getElem? gc2)
    refine ⟨fun σ' H' => σ' = saS j a l D way W at_ ∧ SaSt j l D vs cs H H', ?_, ?_⟩
    · refine ⟨_, rfl, rfl, _, rfl, ite2 (fun c0 => ?_) (fun c0 => ite2 (fun z => absurd z (by decide)) (fun _ => ⟨rfl, St9⟩))⟩
      refine ⟨_, rfl, _, rfl, l, _, at_, .ref q2, rfl, rfl, SqL.of St9.l, atI_nat gv2, q2, _, 0, _, rfl, rfl, SqT.of hq2, rfl, rfl, _, rfl, ite2 (fun c1 => ?_) (fun c1 => ite2 (fun z => absurd z (by decide)) (fun _ => ⟨rfl, St9⟩))⟩
      refine ⟨_, rfl, _, rfl, l, _, at_, .ref q2, rfl, rfl, SqL.of St9.l, atI_nat gv2, q2, _, 1, .int (k2.2 : Nat), rfl, rfl, SqT.of hq2, rfl, _, _, rfl, rfl, _, rfl, ite2 (fun c2 => ?_) (fun c2 => ite2 (fun z => absurd z (by decide)) (fun _ => ⟨rfl, St9⟩))⟩
      refine ⟨_, rfl, l, _, rfl, .inl (SqL.of St9.l), _, _, rfl, rfl, _, rfl, ite2 (fun c4 => ?_) (fun c4 => ⟨rfl, St9⟩)⟩
      have c3 : cs.length < 6 := by have := of_decide_eq_true c4; omega
      have c5 : k2.2 < 7 := by have := of_decide_eq_true c2; omega
      have cm2a := cm2.1
      refine ⟨_, rfl, _, rfl, _, rfl, ?_⟩
      refine sl_to (k := at_) St9.l rfl (by omega) fun r nr H10 s10 hr10 => ?_
      have St10 := St9.same s10
      have hq10 := s10 _ _ hq2
      refine ⟨_, rfl, _, rfl, l, _, at_, .ref q2, rfl, rfl, SqL.of St10.l, atI_nat gv2, q2, _, 1, .int (k2.2 : Nat), rfl, rfl, SqT.of hq10, rfl, _, _, rfl, rfl, .inl (by decide), ?_⟩
      refine ⟨(by show 2 ≤ sizeLine; decide), fun t nt => ?_⟩
      have s11 := same_new (o := .tup [.str "fill", .int (2 * (k2.2 : Int))]) nt
      have ht11 : (upd H10 t (.tup [.str "fill", .int (2 * (k2.2 : Int))])) t = some (.tup [.str (kdS (Kd.fill, 2 * k2.2).1), .int (((Kd.fill, 2 * k2.2).2 : Nat) : Int)]) := by
        rw [upd_same, show (((Kd.fill, 2 * k2.2).2 : Nat) : Int) = 2 * (k2.2 : Int) by show ((2 * k2.2 : Nat) : Int) = _; omega]
        rfl
      have St11 := St10.same s11
      have hq11 := s11 _ _ hq10
      have hr11 := s11 _ _ hr10
      refine ⟨_, rfl, _, rfl, l, _, at_, .ref q2, rfl, rfl, SqL.of St11.l, atI_nat gv2, q2, _, 1, .int (k2.2 : Nat), rfl, rfl, SqT.of hq11, rfl, ?_⟩
      refine ⟨(by show 2 ≤ sizeLine; decide), fun t2 nt2 => ?_⟩
      refine ⟨(by show 2 ≤ sizeLine; decide), fun p3 np3 => ?_⟩
      have s12 := Same.trans (same_new (o := .tup [.str "cut", .int (k2.2 : Nat)]) nt2) (same_new (o := .lst [.ref t, .ref t2]) np3)
      have hp3 : (upd (upd (upd H10 t (.tup [.str "fill", .int (2 * (k2.2 : Int))])) t2 (.tup [.str "cut", .int (k2.2 : Nat)])) p3 (.lst [.ref t, .ref t2])) p3 = some (.lst [.ref t, .ref t2]) := upd_same
      have C12 : Cuts (upd (upd (upd H10 t (.tup [.str "fill", .int (2 * (k2.2 : Int))])) t2 (.tup [.str "cut", .int (k2.2 : Nat)])) p3 (.lst [.ref t, .ref t2])) [.ref t, .ref t2] [(.fill, 2 * k2.2), (.cut, k2.2)] :=
        .cons (s12 _ _ ht11) (.cons (same_new (o := .lst [.ref t, .ref t2]) np3 _ _ upd_same) .nil)
      have St12 := St11.same s12
      have hr12 := s12 _ _ hr11
      refine rcat_k hr12 (St12.c.take _) hp3 C12 (by simp; omega) fun z nz H13 s13 hz Cz => ?_
      have St13 := St12.same s13
      refine ⟨_, rfl, _, rfl, _, _, rfl, rfl, _, rfl, ?_⟩
      unfold tNoPart
      refine sl_from (k := at_ + 1) St13.l (by omega) fun r2 nr2 H14 s14 hr14 => ?_
      have St14 := St13.same s14
      exact rcat_k (s14 _ _ hz) (Cz.same s14) hr14 (St14.c.drop _) (by simp; omega) fun z nz H15 s15 hz Cz => fin _ z _ (St14.same s15).off (St14.same s15).jar (jar_ne St14.jar nz) ⟨_, hz, Cz⟩ (by simp) (by simp; omega) (ct_app (ct_app (ct_take hct _) (ct_app (cs := [(Kd.fill, 2 * k2.2)]) (ct_one (by omega) (by omega)) (ct_one (by omega) (by omega)))) (ct_drop hct _)) (fun n => same4 gc2 (by
        cases h : k2.1 with
        | fill => rfl
        | cut => rw [h] at c1; exact absurd c1 (by decide +kernel)
        | tail => rw [h] at c1; exact absurd c1 (by decide +kernel)) cm2a n)
    rintro _ H10 ⟨rfl, St10⟩
    clear St9 hq2 gv2
    -- 5: a tail of 1
    refine ⟨fun σ' H' => σ' = saS j a l D way W at_ ∧ SaSt j l D vs cs H H', ?_, ?_⟩
    · refine ⟨_, rfl, l, _, rfl, .inl (SqL.of St10.l), _, _, rfl, rfl, _, rfl, ite2 (fun c4 => ?_) (fun c4 => ⟨rfl, St10⟩)⟩
      have c3 : cs.length < 6 := by have := of_decide_eq_true c4; omega
      refine ⟨_, rfl, _, rfl, _, rfl, ?_⟩
      refine sl_to (k := at_) St10.l rfl (by omega) fun r nr H11 s11 hr11 => ?_
      have St11 := St10.same s11
      refine ⟨(by show 2 ≤ sizeLine; decide), fun t nt => ⟨(by show 1 ≤ sizeLine; decide), fun p3 np3 => ?_⟩⟩
      obtain ⟨St12, hp3, C12⟩ := one_facts (kd := .tail) (m := 1) St11 nt np3 rfl rfl
      have hr12 := same_new (o := .lst [.ref t]) np3 _ _ (same_new nt _ _ hr11)
      refine rcat_k hr12 (St12.c.take _) hp3 C12 (by simp; omega) fun z nz H13 s13 hz Cz => ?_
      have St13 := St12.same s13
      refine ⟨_, rfl, _, rfl, _, rfl, ?_⟩
      unfold tNoPart
      refine sl_from (k := at_) St13.l rfl fun r2 nr2 H14 s14 hr14 => ?_
      have St14 := St13.same s14
      exact rcat_k (s14 _ _ hz) (Cz.same s14) hr14 (St14.c.drop _) (by simp; omega) fun z nz H15 s15 hz Cz => fin _ z _ (St14.same s15).off (St14.same s15).jar (jar_ne St14.jar nz) ⟨_, hz, Cz⟩ (by simp) (by simp; omega) (ct_app (ct_app (ct_take hct _) (ct_one (by omega) (by omega))) (ct_drop hct _)) (fun n => same5 at_ n (pos_lens fun c hc => (ct_take hct at_ c hc).1))
    rintro _ H11 ⟨rfl, St11⟩
    exact ⟨_, rfl, fin _ l cs St11.off St11.jar lj ⟨_, St11.l, St11.c⟩ (List.length_pos_iff.mp lpos) ⟨lcs, Nat.le_succ _⟩ hct (fun _ => rfl)⟩
end
end My

/-! chains made, first_difference asked -/
namespace My
open PySem L2 Cm LM CH
abbrev sLCh : Stmt := top 33
section
variable {P : Program} {w : World} {K : PySem.W.Frag} {mg : Str → Option Value} {base : Heap}
/-! ### _law_chain -/
theorem mk_chain (T : TxA w K mg) {H : Hp} {t : Str} {E : XK} {R : Hp → Prop} {x dx : Addr} (g : goodC t = true) (bd : Bd t) (nx : H x = none) (ndx : H dx = none) (q : ∀ (H' : Hp), Same H H' → ChainAt T.C H' x t → R H') :
    spAI K T.C T.E.C [.ref x, .str t] (upd (upd H dx (.own x)) x (.ins T.C dx [])) (fun v H2 => v = .non ∧ R H2) E := by
  refine ⟨x, dx, _, rfl, upd_same, typed_str _, bd, fun t' et _ H5 o5 l5 => ⟨rfl, ?_⟩, fun z => absurd (g.symm.trans z) (by decide)⟩
  cases et
  exact q H5 (made_same nx ndx o5) l5
def spLCh (C : Addr) : Sp := fun vs H Q _ => ∃ (p : Addr) (cs : List (Kd × Nat)), vs = [.ref p] ∧ CutL H p cs ∧ cs ≠ [] ∧ cs.length ≤ 6 ∧ (∀ c ∈ cs, Ct c) ∧ ∀ (H' : Hp) (x : Addr), Same H H' → ChainAt C H' x (cline cs) → Q (.ref x) H'
theorem scLCh : FnScope ["_law_cutters_here"] ["_law_cutters_here"] (defScope sLCh) := ⟨rfl, rfl, rfl, by decide +kernel, rfl, by decide +kernel, by decide +kernel⟩
theorem ok_lch (A : TxA w K mg) (D : TxAd K mg) (ch : Df K mg "_law_chain" sLCh ["_law_cutters_here"]) : FnOk P w K mg base CX0 5 ch.f ch.fd ["_law_cutters_here"] (spLCh A.C) := by
  have GN : FnOk P w K mg base CX0 1 D.lin.f D.lin.fd ["_law_cutters_here"] spCLine := ok_cline D
  have GM : FnOk P w K mg base (L2.CX P w) 3 A.fI A.fdI ["self", "text"] (spAI K A.C A.E.C) := ok_ai A
  refine ch.F.ok scLCh (fun vs H Q E h => ?_) (fun cdv Aa outer s H vs Q E hr h => ?_)
  · obtain ⟨p, cs, rfl, _⟩ := h
    rfl
  · obtain ⟨p, cs, rfl, hL, ne, hl, hc, k⟩ := h
    have hr1 : Room 1 _ := hr.mono (by decide)
    refine ⟨_, (pss_one (ps_ret (pe_make A.MI GM hr rfl A.gC A.bI .nil pass_none (pa_cons (pe_call GN hr1 rfl D.lin.g D.lin.k D.lin.b .nil pass0 (pa_cons (pv 0) pa_nil)) pa_nil)))), ?_⟩
    refine ⟨_, rfl, p, cs, rfl, hL, by omega, hc, fun H1 s1 => ?_⟩
    refine fun x dx nx ndx nex => mk_chain A (line_good ne hc hl) (Nat.le_trans (line_len hc) (by omega)) nx ndx fun H2 s2 h2 => ?_
    exact k H2 x (Same.trans s1 s2) h2
theorem fd_of {CA CE o1 o2 : Addr} {t1 t2 : Str} {H : Hp} {Q : VK} {E : XK} (h1 : ChainAt CA H o1 t1) (h2 : ChainAt CA H o2 t2) (g1 : goodC t1 = true) (g2 : goodC t2 = true) (q : ∀ H', Same H H' → Q (optV (firstD (cuttersOf t1) (cuttersOf t2))) H') : spFD K CA CE [.ref o1, .ref o2] H Q E :=
  ⟨_, _, rfl, .inr ⟨o1, t1, rfl, h1, g1, .inr ⟨o2, t2, rfl, h2, g2, q⟩⟩⟩
theorem tnil_of {σ : L2.St} {H : Hp} {R : List V → Hp → Prop} (h : R [] H) : tNil σ H R := h
end
end My

/-! shown data as data: code points, lengths -/
namespace SkT
open PySem
theorem ok_of (s : String) : PyData.strOk (Str.ofString s) = true := by
  unfold PyData.strOk
  rw [Str.ofString_eq_toList, List.all_toArray, List.all_eq_true]
  intro n hn
  obtain ⟨c, _, rfl⟩ := List.mem_map.mp hn
  refine decide_eq_true ?_
  have := c.valid
  unfold Char.toNat
  rcases this with h | h
  · exact Nat.lt_trans h (by decide)
  · exact h.2
theorem ok_app {a b : Str} (h1 : PyData.strOk a = true) (h2 : PyData.strOk b = true) : PyData.strOk (a ++ b) = true := by
  unfold PyData.strOk at h1 h2 ⊢
  show (a.cps ++ b.cps).all _ = true
  rw [Array.all_append, h1, h2]
  rfl
theorem ok_join {sep : Str} (hs : PyData.strOk sep = true) : ∀ {ts : List Str}, (∀ t ∈ ts, PyData.strOk t = true) → PyData.strOk (Str.join sep ts) = true
  | [], _ => (by decide +kernel : PyData.strOk Str.empty = true)
  | [x], h => h x List.mem_cons_self
  | x :: y :: r, h => ok_app (ok_app (h x List.mem_cons_self) hs) (ok_join hs fun t ht => h t (List.mem_cons_of_mem _ ht))
theorem ok_from : ∀ {ts : List Str} {k : Nat} {acc : Str}, PyData.strOk acc = true → (∀ t ∈ ts, PyData.strOk t = true) → PyData.strOk (textFrom k acc ts) = true
  | [], _, _, ha, _ => ha
  | t :: r, k, acc, ha, h => by
    rw [textFrom]
    exact ok_from (ok_app (ok_app ha (ok_of _)) (h t List.mem_cons_self)) fun x hx => h x (List.mem_cons_of_mem _ hx)
theorem ok_list {ts : List Str} (h : ∀ t ∈ ts, PyData.strOk t = true) : PyData.strOk (listText ts) = true := ok_app (ok_from (ok_of _) h) (ok_of _)
theorem ok_tup {ts : List Str} (h : ∀ t ∈ ts, PyData.strOk t = true) : PyData.strOk (tupleText ts) = true := ok_app (ok_app (ok_of _) (ok_join (ok_of _) h)) (ok_of _)
theorem join_le : ∀ ts : List Str, (Str.join ", " ts).length ≤ (ts.map fun t => t.length + 2).sum
  | [] => Nat.le_refl _
  | [x] => by
    show x.length ≤ _
    simp
  | x :: y :: r => by
    show (x ++ ", " ++ Str.join ", " (y :: r)).length ≤ _
    rw [strLen_append, strLen_append, show (", " : Str).length = 2 by decide +kernel]
    have := join_le (y :: r)
    rw [List.map_cons, List.sum_cons]
    omega
theorem tup_le (ts : List Str) : (tupleText ts).length ≤ (ts.map fun t => t.length + 2).sum + 3 := by
  unfold tupleText
  rw [strLen_append, strLen_append, show ("(" : Str).length = 1 by decide +kernel]
  have := join_le ts
  have : (Str.ofString (if ts.length == 1 then ",)" else ")" : String)).length ≤ 2 := by
    split
    · decide +kernel
    · decide +kernel
  omega
theorem from_le : ∀ (ts : List Str) (k : Nat) (acc : Str), (textFrom k acc ts).length ≤ acc.length + (ts.map fun t => t.length + 2).sum
  | [], _, _ => by simp [textFrom]
  | t :: r, k, acc => by
    rw [textFrom]
    have ih := from_le r (k + 1) (acc ++ (if k > 0 then ", " else "" : String) ++ t)
    rw [strLen_append, strLen_append] at ih
    have : (Str.ofString (if k > 0 then ", " else "" : String)).length ≤ 2 := by
      split
      · decide +kernel
      · decide +kernel
    rw [List.map_cons, List.sum_cons]
    omega
theorem list_le (ts : List Str) : (listText ts).length ≤ (ts.map fun t => t.length + 2).sum + 2 := by
  unfold listText
  rw [strLen_append, show ("]" : Str).length = 1 by decide +kernel]
  have := from_le ts 0 "["
  rw [show ("[" : Str).length = 1 by decide +kernel] at this
  omega
/-- data that can be shown; n bounds its text, k its depth -/
structure Sw (n k : Nat) (d : PyData) : Prop where
  sh : d.showable = true
  dp : d.depth ≤ k
  ln : d.shown.length ≤ n
  ok : PyData.strOk d.shown = true
theorem Sw.mono {n m k j : Nat} {d : PyData} (h : Sw n k d) (a : n ≤ m) (b : k ≤ j) : Sw m j d := ⟨h.sh, Nat.le_trans h.dp b, Nat.le_trans h.ln a, h.ok⟩
theorem sw_all {n k : Nat} : ∀ {ds : List PyData}, (∀ x ∈ ds, Sw n k x) → PyData.showableAll ds = true ∧ PyData.depthAll ds ≤ k ∧ ((PyData.shownAll ds).map fun t => t.length + 2).sum ≤ (n + 2) * ds.length ∧ ∀ t ∈ PyData.shownAll ds, PyData.strOk t = true
  | [], _ => ⟨rfl, by simp [PyData.depthAll], by simp [PyData.shownAll], fun t h => by simp [PyData.shownAll] at h⟩
  | d :: r, h => by
    obtain ⟨a, b, c, e⟩ := sw_all (ds := r) fun x hx => h x (List.mem_cons_of_mem _ hx)
    have hd := h d List.mem_cons_self
    refine ⟨?_, ?_, ?_, ?_⟩
    · rw [PyData.showableAll, a, hd.sh]; rfl
    · rw [PyData.depthAll]; exact Nat.max_le.mpr ⟨hd.dp, b⟩
    · rw [PyData.shownAll, List.map_cons, List.sum_cons, List.length_cons, Nat.mul_succ]
      have := hd.ln
      omega
    · intro t ht
      rw [PyData.shownAll] at ht
      rcases List.mem_cons.mp ht with rfl | z
      · exact hd.ok
      · exact e t z
theorem sw_tup {n k : Nat} {ds : List PyData} (h : ∀ x ∈ ds, Sw n k x) : Sw ((n + 2) * ds.length + 3) (k + 1) (.tuple ds) := by
  obtain ⟨a, b, c, e⟩ := sw_all h
  refine ⟨by rw [PyData.showable]; exact a, by rw [PyData.depth]; omega, ?_, ?_⟩
  · rw [PyData.shown]
    exact Nat.le_trans (tup_le _) (by omega)
  · rw [PyData.shown]
    exact ok_tup e
theorem sw_lst {n k : Nat} {ds : List PyData} (h : ∀ x ∈ ds, Sw n k x) : Sw ((n + 2) * ds.length + 2) (k + 1) (.list ds) := by
  obtain ⟨a, b, c, e⟩ := sw_all h
  refine ⟨by rw [PyData.showable]; exact a, by rw [PyData.depth]; omega, ?_, ?_⟩
  · rw [PyData.shown]
    exact Nat.le_trans (list_le _) (by omega)
  · rw [PyData.shown]
    exact ok_list e
theorem log_nat {n : Nat} (h : n < 10 ^ 20) : (n : Nat).log2 < 1920 := by
  by_cases h0 : n = 0
  · rw [h0]; decide
  · exact Nat.lt_of_lt_of_le ((Nat.log2_lt h0).mpr (Nat.lt_of_lt_of_le h (show 10 ^ 20 ≤ 2 ^ 70 by decide))) (by decide)
theorem sw_int {i : Int} {n : Nat} (h : i.natAbs < 10 ^ 20) (hl : (PyData.shown (.int i)).length ≤ n) : Sw n 0 (.int i) := ⟨by simp only [PyData.showable, decide_eq_true_eq]; exact log_nat h, by simp [PyData.depth], hl, ok_of _⟩
theorem sw_bl (b : Bool) : Sw 5 0 (.bool b) := by cases b <;> exact ⟨rfl, by simp [PyData.depth], by decide +kernel, by decide +kernel⟩
theorem sw_non : Sw 4 0 .none := ⟨rfl, by simp [PyData.depth], by decide +kernel, by decide +kernel⟩
/-- two rows of two words as data -/
theorem shaped2 {a b : Str} (h1 : PyData.strOk a = true) (h2 : PyData.strOk b = true) : SeqAt.shaped (.list [.str a, .str b]) = true := by
  unfold SeqAt.shaped
  simp [PyData.canLay0, PyData.canLayAll0, h1, h2, PyData.depth, PyData.depthAll]
theorem shaped3 {a b : Str} {c : Bool} (h1 : PyData.strOk a = true) (h2 : PyData.strOk b = true) : SeqAt.shaped (.list [.str a, .str b, .bool c]) = true := by
  unfold SeqAt.shaped
  simp [PyData.canLay0, PyData.canLayAll0, h1, h2, PyData.depth, PyData.depthAll]
end SkT

/-! repr of any plain data, also behind a caught error; the types of plain data; slices of lists of counts -/
namespace RpA
open PySem L2 Gd
theorem ext_same {H H' : Hp} (s : Same H H') : LamX.ExtN H H' := fun b o e _ => s b o e
mutual
theorem dq_ext {H H' : Hp} (s : LamX.ExtN H H') : ∀ {v : V} {d : PyData}, Dq H v d → Dq H' v d
  | _, _, .non => .non
  | _, _, .bl b => .bl b
  | _, _, .int i => .int i
  | _, _, .str x => .str x
  | _, _, .lst ha hd => .lst (s _ _ ha (by intro ps z; cases z)) (dqa_ext s hd)
  | _, _, .tup ha hd => .tup (s _ _ ha (by intro ps z; cases z)) (dqa_ext s hd)
  | _, _, .dct ha => .dct (s _ _ ha (by intro ps z; cases z))
theorem dqa_ext {H H' : Hp} (s : LamX.ExtN H H') : ∀ {vs : List V} {ds : List PyData}, DqA H vs ds → DqA H' vs ds
  | _, _, .nil => .nil
  | _, _, .cons a b => .cons (dq_ext s a) (dqa_ext s b)
end
theorem dqa_app {H : Hp} : ∀ {vs ws : List V} {ds es : List PyData}, DqA H vs ds → DqA H ws es → DqA H (vs ++ ws) (ds ++ es)
  | _, _, _, _, .nil, b => b
  | _, _, _, _, .cons a t, b => .cons a (dqa_app t b)
theorem dqa_len {H : Hp} : ∀ {vs : List V} {ds : List PyData}, DqA H vs ds → vs.length = ds.length
  | _, _, .nil => rfl
  | _, _, .cons _ t => by rw [List.length_cons, List.length_cons, dqa_len t]
theorem dqa_mem {H : Hp} : ∀ {vs : List V} {ds : List PyData}, DqA H vs ds → ∀ x ∈ vs, ∃ d ∈ ds, Dq H x d
  | _, _, .nil, _, h => nomatch h
  | _, _, .cons a t, x, h => by
    rcases List.mem_cons.mp h with rfl | z
    · exact ⟨_, List.mem_cons_self, a⟩
    · obtain ⟨d, m, q⟩ := dqa_mem t x z
      exact ⟨d, List.mem_cons_of_mem _ m, q⟩
/-- the name of the type -/
def tyN : PyData → String
  | .none => "NoneType"
  | .bool _ => "bool"
  | .int _ => "int"
  | .str _ => "str"
  | .list _ => "list"
  | .tuple _ => "tuple"
  | .dict _ => "dict"
theorem dq_ty {K : PySem.W.Frag} {H : Hp} {v : V} {d : PyData} (q : Dq H v d) : TyX K H v (.type (tyN d)) := by
  cases q with
  | non => exact .base .non
  | bl b => exact .base (.bl b)
  | int i => exact .base (.int i)
  | str x => exact .base (.str x)
  | lst h _ => exact .base (.lst h)
  | tup h _ => exact .base (.tup h)
  | dct h => exact .base (.dK h)
/-- repr of such data -/
def rReprA : List V → Hp → VK → Prop := fun xs H Q => ∃ (v : V) (d : PyData) (n : Nat), xs = [v] ∧ Dq H v d ∧ SkT.Sw n 64 d ∧ n ≤ sizeLine ∧ Q (.str d.shown) H
theorem call_reprA {X : Cx} {ob : Obj} (hg : X.A.guards = some []) (hu : X.A.units + 66 < cLine) (sm : X.base.get? sysModules = some ob) : CallR X (.builtin "repr") rReprA := by
  intro pins s σ H xs us Q I r h
  obtain ⟨v, d, n, rfl, hd, hs, hn, q⟩ := h
  obtain ⟨u, rfl, ru⟩ := vals1 r
  have ref : ∀ a, v = .ref a → wpAny (model X.prog X.w) X.A (PySem.call (.builtin "repr") [u]) (fun u' s' => ∃ (v' : V) (H' : Hp), Inv X pins σ H' s' ∧ RelV v' u' ∧ Q v' H') X.xe s := fun a e => by
    subst e
    cases (show u = Value.ref a from ru)
    obtain ⟨as, h1, h2⟩ := hd.reads I (u := .ref a) rfl
    have no : sysModules ∉ as := fun hm => h2 _ hm (I.env0.bs _ _ sm).2
    have := hs.dp
    refine repr_of_reads' h1 hs.sh (fun _ => no) hg (by omega) (fun _ _ e => e) (fun h' u tk hk => ?_) (Nat.le_trans hs.ln hn)
    exact ⟨.str d.shown, H, I.kept (t' := tk) hk, ⟨_, rfl⟩, q⟩
  cases hd with
  | non =>
    cases ru
    exact PySem.P.repr_of_none ⟨.str _, H, I.tok _, ⟨_, rfl⟩, q⟩
  | bl b =>
    cases ru
    exact PySem.P.repr_of_bool ⟨.str _, H, I.tok _, ⟨_, rfl⟩, q⟩
  | int i =>
    obtain ⟨t, rfl⟩ := ru
    exact PySem.P.repr_of_int (by have := hs.sh; simpa [PyData.showable] using this) ⟨.str _, H, I.tok _, ⟨_, rfl⟩, q⟩
  | str x =>
    obtain ⟨t, rfl⟩ := ru
    exact PySem.P.repr_of_str ⟨.str _, H, I.tok _, ⟨_, rfl⟩, q⟩ (Nat.le_trans hs.ln hn)
  | lst ha hd => exact ref _ rfl
  | tup ha hd => exact ref _ rfl
  | dct ha => exact ref _ rfl
theorem sl_from {K : PySem.W.Frag} {Q : VK} {H : Hp} {l : Addr} {vs : List V} {n : Int} {k : Nat} (hl : H l = some (.lst vs)) (e : n = (k : Nat)) (h : ∀ z, H z = none → ∀ H', Same H H' → H' z = some (.lst (vs.drop k)) → Q (.ref z) H') : rSlL K (.ref l) (some n) none H Q := by
  refine ⟨l, vs, rfl, SqL.of hl, fun z nz => ?_⟩
  rw [e, Cm.cut_from]
  exact h z nz _ (fun b o q => by rw [upd_ne (ne_of_none q nz)]; exact q) upd_same
theorem sl_to {K : PySem.W.Frag} {Q : VK} {H : Hp} {l : Addr} {vs : List V} {n : Int} {k : Nat} (hl : H l = some (.lst vs)) (e : n = (k : Nat)) (hk : k ≤ vs.length) (h : ∀ z, H z = none → ∀ H', Same H H' → H' z = some (.lst (vs.take k)) → Q (.ref z) H') : rSlL K (.ref l) none (some n) H Q := by
  refine ⟨l, vs, rfl, SqL.of hl, fun z nz => ?_⟩
  rw [e, Cm.cut_to _ _ hk]
  exact h z nz _ (fun b o q => by rw [upd_ne (ne_of_none q nz)]; exact q) upd_same
theorem cat {Q : VK} {H : Hp} {p r : Addr} {xs ys : List V} (hp : H p = some (.lst xs)) (hr : H r = some (.lst ys)) (hl : xs.length + ys.length ≤ sizeLine) (k : ∀ z, H z = none → ∀ H', Same H H' → H' z = some (.lst (xs ++ ys)) → Q (.ref z) H') : rCat (.ref p) (.ref r) H Q :=
  ⟨p, r, xs, ys, rfl, rfl, hp, hr, hl, fun z nz => k z nz _ (fun b o q => by rw [upd_ne (ne_of_none q nz)]; exact q) upd_same⟩
end RpA

/-! how great counts are shown -/
namespace SH
open PySem L2
theorem log_nat {n : Nat} (h : n < 10 ^ 20) : (n : Nat).log2 < 1920 := by
  by_cases h0 : n = 0
  · rw [h0]; decide
  · exact Nat.lt_of_lt_of_le ((Nat.log2_lt h0).mpr (Nat.lt_of_lt_of_le h (show 10 ^ 20 ≤ 2 ^ 70 by decide))) (by decide)
theorem num_le {n : Nat} (h : n < 10 ^ 20) : (PyData.shown (.int (n : Int))).length ≤ 20 := by
  show (Str.ofString (toString ((n : Nat) : Int))).length ≤ 20
  rw [TL.len_tl, TL.tl_num]
  exact TL.numL_len (by decide) h
def pairD (a b : Nat) : PyData := .tuple [.int a, .int b]
theorem join_le : ∀ ts : List Str, (Str.join ", " ts).length ≤ (ts.map fun t => t.length + 2).sum
  | [] => Nat.le_refl _
  | [x] => by
    show x.length ≤ _
    simp
  | x :: y :: r => by
    show (x ++ ", " ++ Str.join ", " (y :: r)).length ≤ _
    rw [strLen_append, strLen_append, show (", " : Str).length = 2 by decide +kernel]
    have := join_le (y :: r)
    rw [List.map_cons, List.sum_cons]
    omega
theorem tup_le (ts : List Str) : (tupleText ts).length ≤ (ts.map fun t => t.length + 2).sum + 3 := by
  unfold tupleText
  rw [strLen_append, strLen_append, show ("(" : Str).length = 1 by decide +kernel]
  have := join_le ts
  have : (Str.ofString (if ts.length == 1 then ",)" else ")" : String)).length ≤ 2 := by
    split
    · decide +kernel
    · decide +kernel
  omega
theorem pair_ok {a b : Nat} (ha : a < 10 ^ 20) (hb : b < 10 ^ 20) : (pairD a b).showable = true ∧ (pairD a b).depth ≤ 64 ∧ (pairD a b).shown.length ≤ sizeLine := by
  refine ⟨?_, ?_, ?_⟩
  · simp only [pairD, PyData.showable, PyData.showableAll, Bool.and_true, Bool.and_eq_true, decide_eq_true_eq]
    exact ⟨by rw [Int.natAbs_natCast]; exact log_nat ha, by rw [Int.natAbs_natCast]; exact log_nat hb⟩
  · simp [pairD, PyData.depth, PyData.depthAll]
  · unfold pairD
    rw [PyData.shown]
    have := tup_le (PyData.shownAll [.int (a : Int), .int (b : Int)])
    have h1 := num_le ha
    have h2 := num_le hb
    simp only [PyData.shownAll, List.map_cons, List.map_nil, List.sum_cons, List.sum_nil] at this
    refine Nat.le_trans this (Nat.le_trans (show _ ≤ 100 by omega) (by decide))
end SH
namespace SH
open PySem L2
def tripD (a b c : Nat) : PyData := .list [.int a, .int b, .int c]
theorem from_le : ∀ (ts : List Str) (k : Nat) (acc : Str), (textFrom k acc ts).length ≤ acc.length + (ts.map fun t => t.length + 2).sum
  | [], _, _ => by simp [textFrom]
  | t :: r, k, acc => by
    rw [textFrom]
    have ih := from_le r (k + 1) (acc ++ (if k > 0 then ", " else "" : String) ++ t)
    rw [strLen_append, strLen_append] at ih
    have : (Str.ofString (if k > 0 then ", " else "" : String)).length ≤ 2 := by
      split
      · decide +kernel
      · decide +kernel
    rw [List.map_cons, List.sum_cons]
    omega
theorem list_le (ts : List Str) : (listText ts).length ≤ (ts.map fun t => t.length + 2).sum + 2 := by
  unfold listText
  rw [strLen_append, show ("]" : Str).length = 1 by decide +kernel]
  have := from_le ts 0 "["
  rw [show ("[" : Str).length = 1 by decide +kernel] at this
  omega
theorem trip_ok {a b c : Nat} (ha : a < 10 ^ 20) (hb : b < 10 ^ 20) (hc : c < 10 ^ 20) : (tripD a b c).showable = true ∧ (tripD a b c).depth ≤ 64 ∧ (tripD a b c).shown.length ≤ sizeLine := by
  refine ⟨?_, ?_, ?_⟩
  · simp only [tripD, PyData.showable, PyData.showableAll, Bool.and_true, Bool.and_eq_true, decide_eq_true_eq]
    exact ⟨by rw [Int.natAbs_natCast]; exact log_nat ha, by rw [Int.natAbs_natCast]; exact log_nat hb, by rw [Int.natAbs_natCast]; exact log_nat hc⟩
  · simp [tripD, PyData.depth, PyData.depthAll]
  · unfold tripD
    rw [PyData.shown]
    have := list_le (PyData.shownAll [.int (a : Int), .int (b : Int), .int (c : Int)])
    have h1 := num_le ha
    have h2 := num_le hb
    have h3 := num_le hc
    simp only [PyData.shownAll, List.map_cons, List.map_nil, List.sum_cons, List.sum_nil] at this
    refine Nat.le_trans this (Nat.le_trans (show _ ≤ 200 by omega) (by decide))
end SH

/-! pairs of chains with known differences -/
namespace My
open PySem L2 Cm LM CH
abbrev sKn : Stmt := top 35
/-! ### texts -/
def wdS : Kd → Str
  | .cut => "cut "
  | .fill => "fill "
  | .tail => "tail "
def wdC : Kd → Str
  | .cut => ", cut "
  | .fill => ", fill "
  | .tail => ", tail "
theorem wdS_is (k : Kd) : wdS k = kdS k ++ (" " : Str) := by cases k <;> decide +kernel
theorem wdC_is (k : Kd) : wdC k = (", " : Str) ++ (kdS k ++ (" " : Str)) := by cases k <;> decide +kernel
theorem wdS_len (k : Kd) : (wdS k).length ≤ 5 := by cases k <;> decide +kernel
theorem wdC_len (k : Kd) : (wdC k).length ≤ 7 := by cases k <;> decide +kernel
theorem tx1 (k : Kd) (w : Nat) : wdS k ++ nS w = cline [(k, w)] := by
  rw [wdS_is]
  rfl
theorem tx2 (k k2 : Kd) (w v : Nat) : wdS k ++ nS w ++ wdC k2 ++ nS v = cline [(k, w), (k2, v)] := by
  rw [show cline [(k, w), (k2, v)] = cutT (k, w) ++ (", " : Str) ++ cutT (k2, v) from rfl, wdS_is, wdC_is]
  show _ = (kdS k ++ (" " : Str) ++ nS w) ++ (", " : Str) ++ (kdS k2 ++ (" " : Str) ++ nS v)
  simp only [Str.append_assoc]
theorem tx3 (w : Nat) : wdS .tail ++ nS w ++ (", tail 3" : Str) = cline [(.tail, w), (.tail, 3)] := by
  rw [← tx2, show (", tail 3" : Str) = wdC .tail ++ nS 3 by decide +kernel, ← Str.append_assoc]
theorem nS_len {w : Nat} (h : w ≤ 12) : (nS w).length ≤ 2 := by
  have f : ∀ i ∈ List.range 13, (nS i).length ≤ 2 := by decide +kernel
  exact f w (List.mem_range.mpr (by omega))
/-! ### known differences -/
theorem ct1 {k : Kd} {w : Nat} (h1 : 1 ≤ w) (h2 : w ≤ 12) : ∀ c ∈ [(k, w)], Ct c := fun c hc => by
  rw [List.mem_singleton.mp hc]
  exact ⟨h1, h2⟩
theorem ct2 {k k2 : Kd} {w v : Nat} (h1 : 1 ≤ w) (h2 : w ≤ 12) (h3 : 1 ≤ v) (h4 : v ≤ 12) : ∀ c ∈ [(k, w), (k2, v)], Ct c := fun c hc => by
  rcases List.mem_cons.mp hc with rfl | hc
  · exact ⟨h1, h2⟩
  · rw [List.mem_singleton.mp hc]
    exact ⟨h3, h4⟩
section
variable {a b c : Nat} (a1 : 1 ≤ a) (ab : a < b) (b12 : b ≤ 12) (c1 : 1 ≤ c) (c12 : c ≤ 12)
include a1 ab b12 c1 c12
theorem in13 : a ∈ List.range 13 ∧ b ∈ List.range 13 ∧ c ∈ List.range 13 := ⟨List.mem_range.mpr (by omega), List.mem_range.mpr (by omega), List.mem_range.mpr (by omega)⟩
theorem kn1 : firstD [(.fill, a)] [(.cut, b)] = some (a + 1) := by
  refine firstD_some.mpr ⟨by omega, ?_, fun m hm => ?_⟩
  · rw [l_fill, l_cut]
    exact n1 a (in13 a1 ab b12 c1 c12).1 b (in13 a1 ab b12 c1 c12).2.1 a1 ab
  · rw [l_fill, l_cut, evenly_whole (by omega), evenly_whole (by omega)]
theorem kn2 : firstD [(.fill, c)] [(.fill, c), (.tail, b)] = some (c + 1) := by
  refine firstD_some.mpr ⟨by omega, ?_, fun m hm => ?_⟩
  · rw [l_fill, l_ftail]
    exact n2 c (in13 a1 ab b12 c1 c12).2.2 b (in13 a1 ab b12 c1 c12).2.1 c1 (by omega)
  · rw [l_fill, l_ftail, evenly_whole (by omega), tail_whole]
theorem kn3 : firstD [(.fill, c), (.tail, a)] [(.fill, c), (.tail, b)] = if a ≤ c then some (c + a) else none := by
  by_cases h : a ≤ c
  · rw [if_pos h]
    refine firstD_some.mpr ⟨by omega, ?_, fun m hm => ?_⟩
    · rw [l_ftail, l_ftail]
      exact n3 c (in13 a1 ab b12 c1 c12).2.2 a (in13 a1 ab b12 c1 c12).1 b (in13 a1 ab b12 c1 c12).2.1 a1 ab h
    · rw [l_ftail, l_ftail]
      exact tail_low h ab hm
  · rw [if_neg h]
    refine firstD_none.mpr fun m _ => ?_
    rw [l_ftail, l_ftail]
    exact tail_high (by omega) (by omega) (by omega)
theorem kn4 : firstD [(.fill, b), (.cut, a)] [(.cut, a)] = if b % a = 0 then none else some (b + 1) := by
  by_cases h : b % a = 0
  · rw [if_pos h]
    refine firstD_none.mpr fun m _ => ?_
    rw [l_fcut, l_cut]
    exact fill_cut_mult (by omega) (by omega) h m
  · rw [if_neg h]
    refine firstD_some.mpr ⟨by omega, ?_, fun m hm => ?_⟩
    · rw [l_fcut, l_cut]
      exact n4 a (in13 a1 ab b12 c1 c12).1 b (in13 a1 ab b12 c1 c12).2.1 a1 ab h
    · rw [l_fcut, l_cut]
      exact fill_cut_low (by omega)
theorem kn5 : firstD [(.cut, a), (.fill, b)] [(.fill, b)] = none := firstD_none.mpr fun m _ => by rw [l_cfill, l_fill]
theorem kn6 : firstD [(.tail, a)] [(.fill, c)] = some (c + 1) := by
  refine firstD_some.mpr ⟨by omega, ?_, fun m hm => ?_⟩
  · rw [l_tail, l_fill]
    exact n6 c (in13 a1 ab b12 c1 c12).2.2 c1
  · rw [l_tail, l_fill, evenly_whole (by omega)]
theorem kn7 : firstD [(.tail, a)] [(.tail, b), (.tail, 3)] = none := firstD_none.mpr fun m _ => by rw [l_tail, l_tails]
end
theorem firstD_swap (cs ds : List (Kd × Nat)) : firstD ds cs = firstD cs ds := by
  cases h : firstD cs ds with
  | none => exact firstD_none.mpr fun m hm => (firstD_none.mp h m hm).symm
  | some n =>
    obtain ⟨x, y, z⟩ := firstD_some.mp h
    exact firstD_some.mpr ⟨x, fun e => y e.symm, fun m hm => (z m hm).symm⟩
/-! ### shown -/
def optD : Option Nat → PyData
  | none => .none
  | some n => .int (n : Nat)
theorem opt_dq {H : Hp} : ∀ r : Option Nat, Gd.Dq H (optV r) (optD r)
  | none => .non
  | some n => .int _
theorem opt_sw {r : Option Nat} (h : ∀ n, r = some n → n ≤ 216) : SkT.Sw 20 64 (optD r) := by
  cases r with
  | none => exact SkT.sw_non.mono (by decide) (by decide)
  | some n => exact (SkT.sw_int (by rw [Int.natAbs_natCast]; have := h n rfl; omega) (SH.num_le (by have := h n rfl; omega))).mono (by decide) (by decide)
/-! ### the pairs -/
/-- a pair of chains with its difference, away from the list at l -/
structure Pr (C l : Addr) (H : Hp) (v : V) (cs ds : List (Kd × Nat)) : Prop where
  ex : ∃ p x y, v = .ref p ∧ p ≠ l ∧ H p = some (.lst [.ref x, .ref y, optV (firstD cs ds)]) ∧ ChainAt C H x (cline cs) ∧ ChainAt C H y (cline ds)
  n1 : cs ≠ []
  n2 : ds ≠ []
  l1 : cs.length ≤ 6
  l2 : ds.length ≤ 6
  c1 : ∀ c ∈ cs, Ct c
  c2 : ∀ c ∈ ds, Ct c
theorem ChainAt.offl {C o l : Addr} {H H' : Hp} {t : Str} (s : Off l H H') (hl : ∃ vs, H l = some (.lst vs)) (h : ChainAt C H o t) : ChainAt C H' o t := by
  obtain ⟨vs0, hl⟩ := hl
  have f : ∀ (p : Addr) (xs : List V), H p = some (.tup xs) → H' p = some (.tup xs) := fun p xs e => s _ _ (ne_of e hl (by intro z; cases z)) e
  obtain ⟨dx, p, vs, a, b, c⟩ := h
  exact ⟨dx, p, vs, s _ _ (ne_of a hl (by intro z; cases z)) a, f _ _ b, c.mono f⟩
theorem Pr.off {C l : Addr} {H H' : Hp} {v : V} {cs ds : List (Kd × Nat)} (s : Off l H H') (hl : ∃ vs, H l = some (.lst vs)) (h : Pr C l H v cs ds) : Pr C l H' v cs ds := by
  obtain ⟨p, x, y, e, pl, hp, hx, hy⟩ := h.ex
  exact ⟨⟨p, x, y, e, pl, s _ _ pl hp, hx.offl s hl, hy.offl s hl⟩, h.n1, h.n2, h.l1, h.l2, h.c1, h.c2⟩
/-- the list of the pairs at l, new since H0 -/
structure Ks (C l : Addr) (H0 H : Hp) (n : Nat) : Prop where
  s : Same H0 H
  nl : H0 l = none
  ex : ∃ vs, H l = some (.lst vs) ∧ vs.length = n ∧ ∀ v ∈ vs, ∃ cs ds, Pr C l H v cs ds
theorem Ks.same {C l : Addr} {H0 H H' : Hp} {n : Nat} (h : Ks C l H0 H n) (s : Same H H') : Ks C l H0 H' n := by
  obtain ⟨vs, a, b, c⟩ := h.ex
  exact ⟨Same.trans h.s s, h.nl, vs, s _ _ a, b, fun v hv => let ⟨cs, ds, p⟩ := c v hv; ⟨cs, ds, p.off (Same.off s) ⟨_, a⟩⟩⟩
theorem Ks.put {C l : Addr} {H0 H : Hp} {n : Nat} {vs : List V} {v : V} {cs ds : List (Kd × Nat)} (h : Ks C l H0 H n) (hl : H l = some (.lst vs)) (p : Pr C l H v cs ds) : Ks C l H0 (upd H l (.lst (vs ++ [v]))) (n + 1) := by
  obtain ⟨ws, a, b, c⟩ := h.ex
  rw [hl] at a
  obtain rfl : vs = ws := HO.lst.inj (Option.some.inj a)
  have o : Off l H (upd H l (.lst (vs ++ [v]))) := fun q u nq e => by rw [upd_ne nq]; exact e
  refine ⟨fun q u e => ?_, h.nl, _, upd_same, by rw [List.length_append, b]; rfl, fun y hy => ?_⟩
  · rw [upd_ne (ne_of_none e h.nl)]
    exact h.s _ _ e
  · rcases List.mem_append.mp hy with hy | hy
    · obtain ⟨cs', ds', p'⟩ := c y hy
      exact ⟨cs', ds', p'.off o ⟨_, hl⟩⟩
    · rw [List.mem_singleton.mp hy]
      exact ⟨cs, ds, p.off o ⟨_, hl⟩⟩
structure TxKn (w : World) (K : PySem.W.Frag) (mg : Str → Option Value) where
  F : TxF w K mg
  D : TxAd K mg
  repr : mg "repr" = none
  list : mg "list" = none
  ch : Df K mg "_law_chain" sLCh ["_law_cutters_here"]
  kn : Df K mg "_law_known_right" sKn ["_law_low", "_law_high", "_law_wide"]
abbrev NKn : List Str := ["_law_low", "_law_high", "_law_wide", "_law_fill_here", "_law_pairs", "_law_tails", "_law_due", "_law_one", "_law_two", "_law_each"]
theorem scKn : FnScope NKn ["_law_low", "_law_high", "_law_wide"] (defScope sKn) := ⟨rfl, rfl, rfl, by decide +kernel, rfl, by decide +kernel, by decide +kernel⟩
section
variable {P : Program} {w : World} {K : PySem.W.Frag} {mg : Str → Option Value} {base : Heap}
def spKn : Sp := fun vs H Q _ => ∃ a b c : Nat, vs = [.int (a : Nat), .int (b : Nat), .int (c : Nat)] ∧ 1 ≤ a ∧ a < b ∧ b ≤ 12 ∧ 1 ≤ c ∧ c ≤ 12 ∧ ∀ H', Same H H' → Q (.bl true) H'
theorem log12 {n : Nat} (h : n ≤ 12) : ((n : Nat) : Int).natAbs.log2 < 1920 := by
  rw [Int.natAbs_natCast]
  exact Nat.lt_of_le_of_lt (Nat.log2_le_self _) (by omega)
theorem sz1 (k : Kd) {n : Nat} (h : n ≤ 12) : (wdS k).length + (nS n).length ≤ sizeLine := szl (by have := wdS_len k; have := nS_len h; omega)
theorem sz2 (k k2 : Kd) {n : Nat} (h : n ≤ 12) : (wdS k ++ nS n).length + (wdC k2).length ≤ sizeLine := szl (by rw [strLen_append]; have := wdS_len k; have := wdC_len k2; have := nS_len h; omega)
theorem sz3 (k k2 : Kd) {n m : Nat} (h : n ≤ 12) (h2 : m ≤ 12) : (wdS k ++ nS n ++ wdC k2).length + (nS m).length ≤ sizeLine := szl (by rw [strLen_append, strLen_append]; have := wdS_len k; have := wdC_len k2; have := nS_len h; have := nS_len h2; omega)
theorem sz4 {n : Nat} (h : n ≤ 12) : (wdS .tail ++ nS n).length + (", tail 3" : Str).length ≤ sizeLine := szl (by rw [strLen_append, show (", tail 3" : Str).length = 8 by decide +kernel]; have := wdS_len .tail; have := nS_len h; omega)
section
variable (A : TxA w K mg) {H : Hp} {E : XK} {R : Hp → Prop} {x dx : Addr}
theorem chm {cs : List (Kd × Nat)} (ne : cs ≠ []) (hc : ∀ c ∈ cs, Ct c) (hl : cs.length ≤ 6) (nx : H x = none) (ndx : H dx = none) (q : ∀ (H' : Hp), Same H H' → ChainAt A.C H' x (cline cs) → R H') :
    spAI K A.C A.E.C [.ref x, .str (cline cs)] (upd (upd H dx (.own x)) x (.ins A.C dx [])) (fun v H2 => v = .non ∧ R H2) E := mk_chain A (line_good ne hc hl) (Nat.le_trans (line_len hc) (by omega)) nx ndx q
theorem ch1 (k : Kd) {n : Nat} (h1 : 1 ≤ n) (h2 : n ≤ 12) (nx : H x = none) (ndx : H dx = none) (q : ∀ (H' : Hp), Same H H' → ChainAt A.C H' x (cline [(k, n)]) → R H') :
    spAI K A.C A.E.C [.ref x, .str (wdS k ++ nS n)] (upd (upd H dx (.own x)) x (.ins A.C dx [])) (fun v H2 => v = .non ∧ R H2) E := by
  rw [tx1]
  exact chm A (by simp) (ct1 h1 h2) (by simp) nx ndx q
theorem ch2 (k k2 : Kd) {n m : Nat} (h1 : 1 ≤ n) (h2 : n ≤ 12) (h3 : 1 ≤ m) (h4 : m ≤ 12) (nx : H x = none) (ndx : H dx = none) (q : ∀ (H' : Hp), Same H H' → ChainAt A.C H' x (cline [(k, n), (k2, m)]) → R H') :
    spAI K A.C A.E.C [.ref x, .str (wdS k ++ nS n ++ wdC k2 ++ nS m)] (upd (upd H dx (.own x)) x (.ins A.C dx [])) (fun v H2 => v = .non ∧ R H2) E := by
  rw [tx2]
  exact chm A (by simp) (ct2 h1 h2 h3 h4) (by simp) nx ndx q
theorem ch3 {n : Nat} (h1 : 1 ≤ n) (h2 : n ≤ 12) (nx : H x = none) (ndx : H dx = none) (q : ∀ (H' : Hp), Same H H' → ChainAt A.C H' x (cline [(.tail, n), (.tail, 3)]) → R H') :
    spAI K A.C A.E.C [.ref x, .str (wdS .tail ++ nS n ++ (", tail 3" : Str))] (upd (upd H dx (.own x)) x (.ins A.C dx [])) (fun v H2 => v = .non ∧ R H2) E := by
  rw [tx3]
  exact chm A (by simp) (ct2 h1 h2 (by decide) (by decide)) (by simp) nx ndx q
end
theorem pr_new {C l x y p : Addr} {H : Hp} {v : V} {cs ds : List (Kd × Nat)} (hx : ChainAt C H x (cline cs)) (hy : ChainAt C H y (cline ds)) (np : H p = none) (pl : p ≠ l) (e : v = optV (firstD cs ds)) (n1 : cs ≠ []) (n2 : ds ≠ []) (l1 : cs.length ≤ 6) (l2 : ds.length ≤ 6) (c1 : ∀ c ∈ cs, Ct c) (c2 : ∀ c ∈ ds, Ct c) : Pr C l (upd H p (.lst [.ref x, .ref y, v])) (.ref p) cs ds := by
  have s := same_new (o := .lst [.ref x, .ref y, v]) np
  exact ⟨⟨p, x, y, rfl, pl, by rw [upd_same, e], hx.same s, hy.same s⟩, n1, n2, l1, l2, c1, c2⟩
theorem ks_one {C l : Addr} {H0 H : Hp} {v : V} {cs ds : List (Kd × Nat)} (s : Same H0 H) (nl : H l = none) (p : Pr C l H v cs ds) : Ks C l H0 (upd H l (.lst [v])) 1 :=
  ⟨Same.trans s (same_new nl), s.free nl, [v], upd_same, rfl, fun y hy => by
    rw [List.mem_singleton.mp hy]
    refine ⟨cs, ds, ?_⟩
    obtain ⟨q, x, y, e, pl, a, b, c⟩ := p.ex
    have u := same_new (o := .lst [v]) nl
    exact ⟨⟨q, x, y, e, pl, u _ _ a, b.same u, c.same u⟩, p.n1, p.n2, p.l1, p.l2, p.c1, p.c2⟩⟩
theorem ch_put {C o l : Addr} {H : Hp} {t : Str} {vs ws : List V} (hl : H l = some (.lst vs)) (h : ChainAt C H o t) : ChainAt C (upd H l (.lst ws)) o t := h.offl (fun q u nq e => by rw [upd_ne nq]; exact e) ⟨_, hl⟩
/-- the two tails -/
structure Tl (C l tl : Addr) (H : Hp) (a b c : Nat) : Prop where
  ne : tl ≠ l
  ex : ∃ x y, H tl = some (.lst [.ref x, .ref y]) ∧ ChainAt C H x (cline [(.fill, c), (.tail, a)]) ∧ ChainAt C H y (cline [(.fill, c), (.tail, b)])
theorem Tl.same {C l tl : Addr} {H H' : Hp} {a b c : Nat} (s : Same H H') (h : Tl C l tl H a b c) : Tl C l tl H' a b c := let ⟨x, y, p, q, r⟩ := h.ex; ⟨h.ne, x, y, s _ _ p, q.same s, r.same s⟩
theorem Tl.put {C l tl : Addr} {H : Hp} {a b c : Nat} {vs ws : List V} (hl : H l = some (.lst vs)) (h : Tl C l tl H a b c) : Tl C l tl (upd H l (.lst ws)) a b c := let ⟨x, y, p, q, r⟩ := h.ex; ⟨h.ne, x, y, by rw [upd_ne h.ne]; exact p, ch_put hl q, ch_put hl r⟩
theorem ok_kn (R : TxKn w K mg) (sm : ∃ ob, base.get? sysModules = some ob) : Gd.FnG P w K mg base CX0 9 R.kn.f R.kn.fd ["_law_low", "_law_high", "_law_wide"] spKn := by
  have GD : FnOk P w K mg base (L2.CX P w) 7 R.F.fd.f R.F.fd.fd ["chain", "other_chain"] (spFD K R.F.S.R.A.C R.F.S.eC.C) := ok_fd R.F
  have GM : FnOk P w K mg base (L2.CX P w) 3 R.F.S.R.A.fI R.F.S.R.A.fdI ["self", "text"] (spAI K R.F.S.R.A.C R.F.S.R.A.E.C) := ok_ai R.F.S.R.A
  obtain ⟨ob, sm⟩ := sm
  refine Gd.okG R.kn.F scKn (fun vs H Q E h => ?_) (fun cdv A outer s H vs Q E _ _ _ hgd hr h => ?_)
  · obtain ⟨a, b, c, rfl, _⟩ := h
    rfl
  · obtain ⟨a, b, c, rfl, a1, ab, b12, c1, c12, k⟩ := h
    have hr4 : Room 4 _ := hr.mono (by decide)
    have hr7 : Room 7 _ := hr.mono (by decide)
    have hu : ((cxOf CX0 P w K mg base NKn "_law_known_right" (defScope sKn) R.kn.f cdv A outer s H E).nox).A.units + 100 < cLine := by
      have := hr.un
      show (A.deeper _).units + 100 < cLine
      omega
    refine ⟨_, (C8.pss_cut (ps_set (i := 3) scKn.nd rfl (.inl rfl) (pe_make R.F.S.R.A.MI GM hr4 rfl R.F.S.R.A.gC R.F.S.R.A.bI .nil pass_none (pa_cons (pe_op op_add_str pe_str (pe_callTy call_str_int (by rfl) R.D.str (by decide +kernel) (pa_cons (pv 2) pa_nil))) pa_nil))) (C8.pss_cut (ps_set (i := 4) scKn.nd rfl (.inl rfl) (pe_lst (pa_cons (pe_lst (pa_cons (pe_make R.F.S.R.A.MI GM hr4 rfl R.F.S.R.A.gC R.F.S.R.A.bI .nil pass_none (pa_cons (pe_op op_add_str pe_str (pe_callTy call_str_int (by rfl) R.D.str (by decide +kernel) (pa_cons (pv 0) pa_nil))) pa_nil)) (pa_cons (pe_make R.F.S.R.A.MI GM hr4 rfl R.F.S.R.A.gC R.F.S.R.A.bI .nil pass_none (pa_cons (pe_op op_add_str pe_str (pe_callTy call_str_int (by rfl) R.D.str (by decide +kernel) (pa_cons (pv 1) pa_nil))) pa_nil)) (pa_cons (pe_op op_add (pv 0) pe_int) pa_nil)))) pa_nil))) (C8.pss_cut (ps_expr (pe_bm PySem.F.plainAttrs_list PySem.F.slot_list_append PySem.F.type_list_append mt_append (pv 4) (pa_cons (pe_lst (pa_cons (pv 3) (pa_cons (pe_make R.F.S.R.A.MI GM hr4 rfl R.F.S.R.A.gC R.F.S.R.A.bI .nil pass_none (pa_cons (pe_op op_add_str (pe_op op_add_str (pe_op op_add_str pe_str (pe_callTy call_str_int (by rfl) R.D.str (by decide +kernel) (pa_cons (pv 2) pa_nil))) pe_str) (pe_callTy call_str_int (by rfl) R.D.str (by decide +kernel) (pa_cons (pv 1) pa_nil))) pa_nil)) (pa_cons (pe_op op_add (pv 2) pe_int) pa_nil)))) pa_nil))) (C8.pss_cut (ps_setLc (i := 5) (own := [("_law_each", 9)]) (g := gName 9) (tt := tYes) rfl scKn.nd rfl rfl (sw_true rfl rfl rfl (by decide +kernel)) (pi_list (pe_lst (pa_cons (pv 0) (pa_cons (pv 1) pa_nil)))) (blkOk_by (own := [("_law_each", 9)]) (N := NKn) (sc := defScope sKn) (by decide +kernel)) (fun _ _ _ _ _ => pg_name (i := 9) scKn.nd rfl (Or.inl rfl)) (fun _ _ _ _ _ => pts_nil) (fun _ _ _ _ _ => (pe_make R.F.S.R.A.MI GM hr4 rfl R.F.S.R.A.gC R.F.S.R.A.bI .nil pass_none (pa_cons (pe_op op_add_str (pe_op op_add_str (pe_op op_add_str pe_str (pe_callTy call_str_int (by rfl) R.D.str (by decide +kernel) (pa_cons (pv 2) pa_nil))) pe_str) (pe_callTy call_str_int (by rfl) R.D.str (by decide +kernel) (pa_cons (pv 9) pa_nil))) pa_nil)))) (C8.pss_cut (ps_expr (pe_bm PySem.F.plainAttrs_list PySem.F.slot_list_append PySem.F.type_list_append mt_append (pv 4) (pa_cons (pe_lst (pa_cons (pe_ix ix_list (pv 5) pe_int (fun _ _ => rfl)) (pa_cons (pe_ix ix_list (pv 5) pe_int (fun _ _ => rfl)) (pa_cons (pe_ifExp (pt_cmpR op_le (pv 0) (pv 2) (nomark _)) (pe_op op_add (pv 2) (pv 0)) pe_non) pa_nil)))) pa_nil))) (C8.pss_cut (ps_set (i := 6) scKn.nd rfl (.inl rfl) (pe_ifExp (pt_cmpR op_eq (pe_op op_mod (pe_callTy call_int1 (by rfl) R.F.S.R.A.int (by decide +kernel) (pa_cons (pv 1) pa_nil)) (pv 0)) pe_int (nomark _)) pe_non (pe_op op_add (pv 1) pe_int))) (C8.pss_cut (ps_expr (pe_bm PySem.F.plainAttrs_list PySem.F.slot_list_append PySem.F.type_list_append mt_append (pv 4) (pa_cons (pe_lst (pa_cons (pe_make R.F.S.R.A.MI GM hr4 rfl R.F.S.R.A.gC R.F.S.R.A.bI .nil pass_none (pa_cons (pe_op op_add_str (pe_op op_add_str (pe_op op_add_str pe_str (pe_callTy call_str_int (by rfl) R.D.str (by decide +kernel) (pa_cons (pv 1) pa_nil))) pe_str) (pe_callTy call_str_int (by rfl) R.D.str (by decide +kernel) (pa_cons (pv 0) pa_nil))) pa_nil)) (pa_cons (pe_make R.F.S.R.A.MI GM hr4 rfl R.F.S.R.A.gC R.F.S.R.A.bI .nil pass_none (pa_cons (pe_op op_add_str pe_str (pe_callTy call_str_int (by rfl) R.D.str (by decide +kernel) (pa_cons (pv 0) pa_nil))) pa_nil)) (pa_cons (pv 6) pa_nil)))) pa_nil))) (C8.pss_cut (ps_expr (pe_bm PySem.F.plainAttrs_list PySem.F.slot_list_append PySem.F.type_list_append mt_append (pv 4) (pa_cons (pe_lst (pa_cons (pe_make R.F.S.R.A.MI GM hr4 rfl R.F.S.R.A.gC R.F.S.R.A.bI .nil pass_none (pa_cons (pe_op op_add_str (pe_op op_add_str (pe_op op_add_str pe_str (pe_callTy call_str_int (by rfl) R.D.str (by decide +kernel) (pa_cons (pv 0) pa_nil))) pe_str) (pe_callTy call_str_int (by rfl) R.D.str (by decide +kernel) (pa_cons (pv 1) pa_nil))) pa_nil)) (pa_cons (pe_make R.F.S.R.A.MI GM hr4 rfl R.F.S.R.A.gC R.F.S.R.A.bI .nil pass_none (pa_cons (pe_op op_add_str pe_str (pe_callTy call_str_int (by rfl) R.D.str (by decide +kernel) (pa_cons (pv 1) pa_nil))) pa_nil)) (pa_cons pe_non pa_nil)))) pa_nil))) (C8.pss_cut (ps_expr (pe_bm PySem.F.plainAttrs_list PySem.F.slot_list_append PySem.F.type_list_append mt_append (pv 4) (pa_cons (pe_lst (pa_cons (pe_make R.F.S.R.A.MI GM hr4 rfl R.F.S.R.A.gC R.F.S.R.A.bI .nil pass_none (pa_cons (pe_op op_add_str pe_str (pe_callTy call_str_int (by rfl) R.D.str (by decide +kernel) (pa_cons (pv 0) pa_nil))) pa_nil)) (pa_cons (pv 3) (pa_cons (pe_op op_add (pv 2) pe_int) pa_nil)))) pa_nil))) (C8.pss_cut (ps_expr (pe_bm PySem.F.plainAttrs_list PySem.F.slot_list_append PySem.F.type_list_append mt_append (pv 4) (pa_cons (pe_lst (pa_cons (pe_make R.F.S.R.A.MI GM hr4 rfl R.F.S.R.A.gC R.F.S.R.A.bI .nil pass_none (pa_cons (pe_op op_add_str pe_str (pe_callTy call_str_int (by rfl) R.D.str (by decide +kernel) (pa_cons (pv 0) pa_nil))) pa_nil)) (pa_cons (pe_make R.F.S.R.A.MI GM hr4 rfl R.F.S.R.A.gC R.F.S.R.A.bI .nil pass_none (pa_cons (pe_op op_add_str (pe_op op_add_str pe_str (pe_callTy call_str_int (by rfl) R.D.str (by decide +kernel) (pa_cons (pv 1) pa_nil))) pe_str) pa_nil)) (pa_cons pe_non pa_nil)))) pa_nil))) (pss_cons (ps_for PassesOwn.never rfl (pi_list (pv 4)) (pg_lst rfl (pgs_cons (pg_name (i := 7) scKn.nd rfl (.inl rfl)) (pgs_cons (pg_name (i := 8) scKn.nd rfl (.inl rfl)) (pgs_cons (pg_name (i := 6) scKn.nd rfl (.inl rfl)) pgs_nil)))) (pss_one (ps_if (PW.pt (pw_or (pt_cmpR op_ne (pe_callB (RpA.call_reprA hgd (by omega) sm) (by rfl) R.repr (by decide +kernel) (pa_cons (pe_call GD hr7 rfl R.F.fd.g R.F.fd.k R.F.fd.b .nil pass_none (pa_cons (pv 7) (pa_cons (pv 8) pa_nil))) pa_nil)) (pe_callB (RpA.call_reprA hgd (by omega) sm) (by rfl) R.repr (by decide +kernel) (pa_cons (pv 6) pa_nil)) (nomark _)) (pw_or1 (pt_cmpR op_ne (pe_callB (RpA.call_reprA hgd (by omega) sm) (by rfl) R.repr (by decide +kernel) (pa_cons (pe_call GD hr7 rfl R.F.fd.g R.F.fd.k R.F.fd.b .nil pass_none (pa_cons (pv 8) (pa_cons (pv 7) pa_nil))) pa_nil)) (pe_callB (RpA.call_reprA hgd (by omega) sm) (by rfl) R.repr (by decide +kernel) (pa_cons (pv 6) pa_nil)) (nomark _))))) (pss_one (ps_ret pe_bl)) pss_nil))) (pss_one (ps_ret pe_bl))))))))))))), ?_⟩
    -- the fill
    refine ⟨fun σ H' => ∃ f : Addr, σ = [some (.int (a : Nat)), some (.int (b : Nat)), some (.int (c : Nat)), some (.ref f), none, none, none, none, none, none] ∧ Same H H' ∧ ChainAt R.F.S.R.A.C H' f (cline [(.fill, c)]), ?_, ?_⟩
    · exact ⟨_, rfl, _, rfl, log12 (show c ≤ 12 by omega), _, _, rfl, rfl, sz1 .fill (show c ≤ 12 by omega), fun x dx nx ndx nex => ch1 R.F.S.R.A .fill (show 1 ≤ c by omega) (show c ≤ 12 by omega) nx ndx fun H1 sx hx => ⟨x, rfl, sx, hx⟩⟩
    rintro _ H1 ⟨f, rfl, s1, hf⟩
    -- the first pair
    refine ⟨fun σ H' => ∃ l : Addr, σ = [some (.int (a : Nat)), some (.int (b : Nat)), some (.int (c : Nat)), some (.ref f), some (.ref l), none, none, none, none, none] ∧ Ks R.F.S.R.A.C l H H' 1 ∧ ChainAt R.F.S.R.A.C H' f (cline [(.fill, c)]), ?_, ?_⟩
    · refine ⟨_, rfl, _, rfl, log12 (show a ≤ 12 by omega), _, _, rfl, rfl, sz1 .fill (show a ≤ 12 by omega), fun x dx nx ndx nex => ch1 R.F.S.R.A .fill (show 1 ≤ a by omega) (show a ≤ 12 by omega) nx ndx fun Hx sx hx => ⟨_, rfl, _, rfl, log12 (show b ≤ 12 by omega), _, _, rfl, rfl, sz1 .cut (show b ≤ 12 by omega), fun y dy ny ndy ney => ch1 R.F.S.R.A .cut (show 1 ≤ b by omega) (show b ≤ 12 by omega) ny ndy fun Hy sy hy => ⟨_, rfl, _, _, rfl, rfl, (by show 3 ≤ sizeLine; decide), fun p np => ⟨(by show 1 ≤ sizeLine; decide), fun l nl => ?_⟩⟩⟩⟩
      have pl : p ≠ l := ne_of_none upd_same nl
      have P := pr_new (l := l) (v := .int ((a : Int) + 1)) (hx.same sy) hy np pl (by rw [kn1 a1 ab b12 c1 c12]; rfl) (by simp) (by simp) (by simp) (by simp) (ct1 (show 1 ≤ a by omega) (show a ≤ 12 by omega)) (ct1 (show 1 ≤ b by omega) (show b ≤ 12 by omega))
      have sp := same_new (o := .lst [.ref x, .ref y, .int ((a : Int) + 1)]) np
      have s13 := Same.trans sx (Same.trans sy sp)
      exact ⟨l, rfl, ks_one (Same.trans s1 s13) nl P, (hf.same s13).same (same_new nl)⟩
    rintro _ H2 ⟨l, rfl, hK, hf⟩
    clear s1
    -- 2
    refine ⟨fun σ H' => σ = [some (.int (a : Nat)), some (.int (b : Nat)), some (.int (c : Nat)), some (.ref f), some (.ref l), none, none, none, none, none] ∧ Ks R.F.S.R.A.C l H H' 2 ∧ ChainAt R.F.S.R.A.C H' f (cline [(.fill, c)]), ?_, ?_⟩
    · obtain ⟨vs, hl, lv, _⟩ := id hK.ex
      refine ⟨_, rfl, .inl ⟨rfl, _, SqL.of hl⟩, _, rfl, _, rfl, _, rfl, log12 (show c ≤ 12 by omega), _, _, rfl, rfl, sz1 .fill (show c ≤ 12 by omega), _, _, rfl, rfl, sz2 .fill .tail (show c ≤ 12 by omega), _, rfl, _, rfl, log12 (show b ≤ 12 by omega), _, _, rfl, rfl, sz3 .fill .tail (show c ≤ 12 by omega) (show b ≤ 12 by omega), fun y dy ny ndy ney => ch2 R.F.S.R.A .fill .tail (show 1 ≤ c by omega) (show c ≤ 12 by omega) (show 1 ≤ b by omega) (show b ≤ 12 by omega) ny ndy fun Hy sy hy => ⟨_, rfl, _, _, rfl, rfl, (by show 3 ≤ sizeLine; decide), fun p np => ?_⟩⟩
      have sa : Same H2 _ := sy
      have pl : p ≠ l := (ne_of_none (sa _ _ hl) np).symm
      have P := pr_new (l := l) (v := .int ((c : Int) + 1)) (hf.same sy) hy np pl (by rw [kn2 a1 ab b12 c1 c12]; rfl) (by simp) (by simp) (by simp) (by simp) (ct1 (show 1 ≤ c by omega) (show c ≤ 12 by omega)) (ct2 (show 1 ≤ c by omega) (show c ≤ 12 by omega) (show 1 ≤ b by omega) (show b ≤ 12 by omega))
      have sp := same_new (o := .lst [.ref f, .ref y, .int ((c : Int) + 1)]) np
      have s2 := Same.trans sa sp
      exact ⟨l, vs, .ref p, rfl, rfl, s2 _ _ hl, szM (by omega), rfl, (hK.same s2).put (s2 _ _ hl) P, ch_put (s2 _ _ hl) (hf.same s2)⟩
    rintro _ H3 ⟨rfl, hK, hf⟩
    -- the tails
    refine ⟨fun σ H' => ∃ tl : Addr, σ = [some (.int (a : Nat)), some (.int (b : Nat)), some (.int (c : Nat)), some (.ref f), some (.ref l), some (.ref tl), none, none, none, none] ∧ Ks R.F.S.R.A.C l H H' 2 ∧ ChainAt R.F.S.R.A.C H' f (cline [(.fill, c)]) ∧ Tl R.F.S.R.A.C l tl H' a b c, ?_, ?_⟩
    · refine ⟨_, rfl, _, rfl, (by show 2 ≤ sizeLine; decide), fun q nq => ⟨q, rfl, ⟨_, SqL.of upd_same⟩, fun Dd nD => ?_⟩⟩
      have sq := same_new (o := .lst [.int (a : Nat), .int (b : Nat)]) nq
      have hq : (upd H3 q (.lst [.int (a : Nat), .int (b : Nat)])) q = some (.lst [.int (a : Nat), .int (b : Nat)]) := upd_same
      obtain ⟨vs, hl, lv, _⟩ := id hK.ex
      have Dl : Dd ≠ l := (ne_of_none (sq _ _ hl) nD).symm
      generalize upd H3 q (.lst [.int (a : Nat), .int (b : Nat)]) = H4 at sq hq nD ⊢
      refine lc_list (K := K) (a := q) (xs := [.int (a : Nat), .int (b : Nat)]) (fun i H' => Same H4 H' ∧ ∃ xs : List V, H' Dd = some (.lst xs) ∧ xs.length = i ∧ ∀ m v, xs[m]? = some v → ∃ x, v = .ref x ∧ ChainAt R.F.S.R.A.C H' x (cline [(.fill, c), (.tail, if m = 0 then a else b)])) ⟨same_new nD, [], upd_same, rfl, fun m v h => by simp at h⟩ (fun i H' _ ⟨s', _⟩ => SqL.of (s' _ _ hq)) ?_ ?_
      · rintro i y H' hy ⟨s', xs, hD, lx, hxs⟩
        obtain ⟨e, rfl, ee, e1, e12⟩ : ∃ e : Nat, y = .int (e : Nat) ∧ e = (if i = 0 then a else b) ∧ 1 ≤ e ∧ e ≤ 12 := by
          match i, hy with
          | 0, h => exact ⟨a, (Option.some.inj h).symm, rfl, by omega, by omega⟩
          | 1, h => exact ⟨b, (Option.some.inj h).symm, rfl, by omega, by omega⟩
          | n + 2, h => simp at h
        have i2 : i < 2 := by
          rcases Nat.lt_or_ge i 2 with z | z
          · exact z
          · rw [List.getElem?_eq_none (by simpa using z)] at hy; cases hy
        refine ⟨rfl, _, rfl, _, rfl, log12 c12, _, _, rfl, rfl, sz1 .fill c12, _, _, rfl, rfl, sz2 .fill .tail c12, _, rfl, _, rfl, log12 e12, _, _, rfl, rfl, sz3 .fill .tail c12 e12, fun x dx nx ndx nex => ch2 R.F.S.R.A .fill .tail c1 c12 e1 e12 nx ndx fun H5 s5 h5 => ⟨xs, s5 _ _ hD, szM (by omega), fun b' o' z => ?_, xs ++ [.ref x], upd_same, by rw [List.length_append, lx]; rfl, fun m v hm => ?_⟩⟩
        · rw [upd_ne (ne_of_none z nD)]
          exact s5 _ _ (s' _ _ z)
        · rcases Nat.lt_or_ge m xs.length with z | z
          · rw [List.getElem?_append_left z] at hm
            obtain ⟨x', rfl, hx'⟩ := hxs m v hm
            exact ⟨x', rfl, ch_put (s5 _ _ hD) (hx'.same s5)⟩
          · rw [List.getElem?_append_right z] at hm
            have em : m = i := by
              rcases Nat.lt_or_ge (m - xs.length) 1 with y | y
              · omega
              · rw [List.getElem?_eq_none (by simpa using y)] at hm; cases hm
            rw [em, lx, Nat.sub_self] at hm
            refine ⟨x, (Option.some.inj hm).symm, ?_⟩
            rw [em, ← ee]
            exact ch_put (s5 _ _ hD) h5
      · rintro H' ⟨s', xs, hD, lx, hxs⟩
        have lx : xs.length = 2 := lx
        match xs, lx with
        | [v1, v2], _ =>
          obtain ⟨x, rfl, hx⟩ := hxs 0 v1 rfl
          obtain ⟨y, rfl, hy⟩ := hxs 1 v2 rfl
          have s3 := Same.trans sq s'
          exact ⟨Dd, rfl, hK.same s3, hf.same s3, ⟨Dl, x, y, hD, hx, hy⟩⟩
    rintro _ H4 ⟨tl, rfl, hK, hf, hT⟩
    -- 3
    refine ⟨fun σ H' => σ = [some (.int (a : Nat)), some (.int (b : Nat)), some (.int (c : Nat)), some (.ref f), some (.ref l), some (.ref tl), none, none, none, none] ∧ Ks R.F.S.R.A.C l H H' 3 ∧ ChainAt R.F.S.R.A.C H' f (cline [(.fill, c)]) ∧ Tl R.F.S.R.A.C l tl H' a b c, ?_, ?_⟩
    · obtain ⟨vs, hl, lv, _⟩ := id hK.ex
      obtain ⟨x, y, ht, hx, hy⟩ := id hT.ex
      refine ⟨_, rfl, .inl ⟨rfl, _, SqL.of hl⟩, _, rfl, tl, _, 0, .ref x, rfl, rfl, SqL.of ht, rfl, _, rfl, tl, _, 1, .ref y, rfl, rfl, SqL.of ht, rfl, _, rfl, _, rfl, _, _, rfl, rfl, _, rfl, ?_⟩
      by_cases ac : a ≤ c
      · rw [decide_eq_true (show ((a : Nat) : Int) ≤ ((c : Nat) : Int) by omega)]
        refine iteT ⟨_, rfl, _, rfl, _, _, rfl, rfl, (by show 3 ≤ sizeLine; decide), fun p np => ?_⟩
        have sa : Same H4 _ := Same.refl _
        have pl : p ≠ l := (ne_of_none (sa _ _ hl) np).symm
        have P := pr_new (l := l) (v := .int ((c : Int) + (a : Int))) hx hy np pl (by rw [kn3 a1 ab b12 c1 c12, if_pos ac]; rfl) (by simp) (by simp) (by simp) (by simp) (ct2 (show 1 ≤ c by omega) (show c ≤ 12 by omega) (show 1 ≤ a by omega) (show a ≤ 12 by omega)) (ct2 (show 1 ≤ c by omega) (show c ≤ 12 by omega) (show 1 ≤ b by omega) (show b ≤ 12 by omega))
        have sp := same_new (o := .lst [.ref x, .ref y, .int ((c : Int) + (a : Int))]) np
        have s2 := Same.trans sa sp
        exact ⟨l, vs, .ref p, rfl, rfl, s2 _ _ hl, szM (by omega), rfl, (hK.same s2).put (s2 _ _ hl) P, ch_put (s2 _ _ hl) (hf.same s2), (hT.same s2).put (s2 _ _ hl)⟩
      · rw [decide_eq_false (show ¬ ((a : Nat) : Int) ≤ ((c : Nat) : Int) by omega)]
        refine iteF ⟨(by show 3 ≤ sizeLine; decide), fun p np => ?_⟩
        have sa : Same H4 _ := Same.refl _
        have pl : p ≠ l := (ne_of_none (sa _ _ hl) np).symm
        have P := pr_new (l := l) (v := .non) hx hy np pl (by rw [kn3 a1 ab b12 c1 c12, if_neg ac]; rfl) (by simp) (by simp) (by simp) (by simp) (ct2 (show 1 ≤ c by omega) (show c ≤ 12 by omega) (show 1 ≤ a by omega) (show a ≤ 12 by omega)) (ct2 (show 1 ≤ c by omega) (show c ≤ 12 by omega) (show 1 ≤ b by omega) (show b ≤ 12 by omega))
        have sp := same_new (o := .lst [.ref x, .ref y, .non]) np
        have s2 := Same.trans sa sp
        exact ⟨l, vs, .ref p, rfl, rfl, s2 _ _ hl, szM (by omega), rfl, (hK.same s2).put (s2 _ _ hl) P, ch_put (s2 _ _ hl) (hf.same s2), (hT.same s2).put (s2 _ _ hl)⟩
    rintro _ H5 ⟨rfl, hK, hf, hT⟩
    -- the due value
    refine ⟨fun σ H' => ∃ u : V, σ = [some (.int (a : Nat)), some (.int (b : Nat)), some (.int (c : Nat)), some (.ref f), some (.ref l), some (.ref tl), some u, none, none, none] ∧ H5 = H' ∧ u = optV (if b % a = 0 then none else some (b + 1)), ?_, ?_⟩
    · refine ⟨_, rfl, .inl ⟨_, rfl, _, rfl, _, _, rfl, rfl, (show (0 : Int) < (a : Int) by omega), rfl, _, rfl, ?_⟩⟩
      by_cases ba : b % a = 0
      · rw [decide_eq_true (show V.int ((b : Int) % (a : Int)) = V.int 0 by rw [show (b : Int) % (a : Int) = ((b % a : Nat) : Int) from rfl, ba]; rfl), if_pos ba]
        exact iteT ⟨_, rfl, rfl, rfl⟩
      · rw [decide_eq_false (show ¬ V.int ((b : Int) % (a : Int)) = V.int 0 from fun z => ba (by have z := V.int.inj z; omega)), if_neg ba]
        exact iteF ⟨_, rfl, _, _, rfl, rfl, _, rfl, rfl, rfl⟩
    rintro _ _ ⟨u, rfl, rfl, eu⟩
    -- 4
    refine ⟨fun σ H' => σ = [some (.int (a : Nat)), some (.int (b : Nat)), some (.int (c : Nat)), some (.ref f), some (.ref l), some (.ref tl), some u, none, none, none] ∧ Ks R.F.S.R.A.C l H H' 4 ∧ ChainAt R.F.S.R.A.C H' f (cline [(.fill, c)]) ∧ Tl R.F.S.R.A.C l tl H' a b c, ?_, ?_⟩
    · obtain ⟨vs, hl, lv, _⟩ := id hK.ex
      refine ⟨_, rfl, .inl ⟨rfl, _, SqL.of hl⟩, _, rfl, _, rfl, log12 (show b ≤ 12 by omega), _, _, rfl, rfl, sz1 .fill (show b ≤ 12 by omega), _, _, rfl, rfl, sz2 .fill .cut (show b ≤ 12 by omega), _, rfl, _, rfl, log12 (show a ≤ 12 by omega), _, _, rfl, rfl, sz3 .fill .cut (show b ≤ 12 by omega) (show a ≤ 12 by omega), fun x dx nx ndx nex => ch2 R.F.S.R.A .fill .cut (show 1 ≤ b by omega) (show b ≤ 12 by omega) (show 1 ≤ a by omega) (show a ≤ 12 by omega) nx ndx fun Hx sx hx => ⟨_, rfl, _, rfl, log12 (show a ≤ 12 by omega), _, _, rfl, rfl, sz1 .cut (show a ≤ 12 by omega), fun y dy ny ndy ney => ch1 R.F.S.R.A .cut (show 1 ≤ a by omega) (show a ≤ 12 by omega) ny ndy fun Hy sy hy => ⟨_, rfl, (by show 3 ≤ sizeLine; decide), fun p np => ?_⟩⟩⟩
      have sa : Same H5 _ := Same.trans sx sy
      have pl : p ≠ l := (ne_of_none (sa _ _ hl) np).symm
      have P := pr_new (l := l) (v := u) (hx.same sy) hy np pl (by rw [kn4 a1 ab b12 c1 c12]; exact eu) (by simp) (by simp) (by simp) (by simp) (ct2 (show 1 ≤ b by omega) (show b ≤ 12 by omega) (show 1 ≤ a by omega) (show a ≤ 12 by omega)) (ct1 (show 1 ≤ a by omega) (show a ≤ 12 by omega))
      have sp := same_new (o := .lst [.ref x, .ref y, u]) np
      have s2 := Same.trans sa sp
      exact ⟨l, vs, .ref p, rfl, rfl, s2 _ _ hl, szM (by omega), rfl, (hK.same s2).put (s2 _ _ hl) P, ch_put (s2 _ _ hl) (hf.same s2), (hT.same s2).put (s2 _ _ hl)⟩
    rintro _ H6 ⟨rfl, hK, hf, hT⟩
    -- 5
    refine ⟨fun σ H' => σ = [some (.int (a : Nat)), some (.int (b : Nat)), some (.int (c : Nat)), some (.ref f), some (.ref l), some (.ref tl), some u, none, none, none] ∧ Ks R.F.S.R.A.C l H H' 5 ∧ ChainAt R.F.S.R.A.C H' f (cline [(.fill, c)]) ∧ Tl R.F.S.R.A.C l tl H' a b c, ?_, ?_⟩
    · obtain ⟨vs, hl, lv, _⟩ := id hK.ex
      refine ⟨_, rfl, .inl ⟨rfl, _, SqL.of hl⟩, _, rfl, _, rfl, log12 (show a ≤ 12 by omega), _, _, rfl, rfl, sz1 .cut (show a ≤ 12 by omega), _, _, rfl, rfl, sz2 .cut .fill (show a ≤ 12 by omega), _, rfl, _, rfl, log12 (show b ≤ 12 by omega), _, _, rfl, rfl, sz3 .cut .fill (show a ≤ 12 by omega) (show b ≤ 12 by omega), fun x dx nx ndx nex => ch2 R.F.S.R.A .cut .fill (show 1 ≤ a by omega) (show a ≤ 12 by omega) (show 1 ≤ b by omega) (show b ≤ 12 by omega) nx ndx fun Hx sx hx => ⟨_, rfl, _, rfl, log12 (show b ≤ 12 by omega), _, _, rfl, rfl, sz1 .fill (show b ≤ 12 by omega), fun y dy ny ndy ney => ch1 R.F.S.R.A .fill (show 1 ≤ b by omega) (show b ≤ 12 by omega) ny ndy fun Hy sy hy => ⟨(by show 3 ≤ sizeLine; decide), fun p np => ?_⟩⟩⟩
      have sa : Same H6 _ := Same.trans sx sy
      have pl : p ≠ l := (ne_of_none (sa _ _ hl) np).symm
      have P := pr_new (l := l) (v := .non) (hx.same sy) hy np pl (by rw [kn5 a1 ab b12 c1 c12]; rfl) (by simp) (by simp) (by simp) (by simp) (ct2 (show 1 ≤ a by omega) (show a ≤ 12 by omega) (show 1 ≤ b by omega) (show b ≤ 12 by omega)) (ct1 (show 1 ≤ b by omega) (show b ≤ 12 by omega))
      have sp := same_new (o := .lst [.ref x, .ref y, .non]) np
      have s2 := Same.trans sa sp
      exact ⟨l, vs, .ref p, rfl, rfl, s2 _ _ hl, szM (by omega), rfl, (hK.same s2).put (s2 _ _ hl) P, ch_put (s2 _ _ hl) (hf.same s2), (hT.same s2).put (s2 _ _ hl)⟩
    rintro _ H7 ⟨rfl, hK, hf, hT⟩
    -- 6
    refine ⟨fun σ H' => σ = [some (.int (a : Nat)), some (.int (b : Nat)), some (.int (c : Nat)), some (.ref f), some (.ref l), some (.ref tl), some u, none, none, none] ∧ Ks R.F.S.R.A.C l H H' 6 ∧ ChainAt R.F.S.R.A.C H' f (cline [(.fill, c)]) ∧ Tl R.F.S.R.A.C l tl H' a b c, ?_, ?_⟩
    · obtain ⟨vs, hl, lv, _⟩ := id hK.ex
      refine ⟨_, rfl, .inl ⟨rfl, _, SqL.of hl⟩, _, rfl, _, rfl, log12 (show a ≤ 12 by omega), _, _, rfl, rfl, sz1 .tail (show a ≤ 12 by omega), fun x dx nx ndx nex => ch1 R.F.S.R.A .tail (show 1 ≤ a by omega) (show a ≤ 12 by omega) nx ndx fun Hx sx hx => ⟨_, rfl, _, rfl, _, _, rfl, rfl, (by show 3 ≤ sizeLine; decide), fun p np => ?_⟩⟩
      have sa : Same H7 _ := sx
      have pl : p ≠ l := (ne_of_none (sa _ _ hl) np).symm
      have P := pr_new (l := l) (v := .int ((c : Int) + 1)) hx (hf.same sx) np pl (by rw [kn6 a1 ab b12 c1 c12]; rfl) (by simp) (by simp) (by simp) (by simp) (ct1 (show 1 ≤ a by omega) (show a ≤ 12 by omega)) (ct1 (show 1 ≤ c by omega) (show c ≤ 12 by omega))
      have sp := same_new (o := .lst [.ref x, .ref f, .int ((c : Int) + 1)]) np
      have s2 := Same.trans sa sp
      exact ⟨l, vs, .ref p, rfl, rfl, s2 _ _ hl, szM (by omega), rfl, (hK.same s2).put (s2 _ _ hl) P, ch_put (s2 _ _ hl) (hf.same s2), (hT.same s2).put (s2 _ _ hl)⟩
    rintro _ H8 ⟨rfl, hK, hf, hT⟩
    -- 7
    refine ⟨fun σ H' => σ = [some (.int (a : Nat)), some (.int (b : Nat)), some (.int (c : Nat)), some (.ref f), some (.ref l), some (.ref tl), some u, none, none, none] ∧ Ks R.F.S.R.A.C l H H' 7 ∧ ChainAt R.F.S.R.A.C H' f (cline [(.fill, c)]) ∧ Tl R.F.S.R.A.C l tl H' a b c, ?_, ?_⟩
    · obtain ⟨vs, hl, lv, _⟩ := id hK.ex
      refine ⟨_, rfl, .inl ⟨rfl, _, SqL.of hl⟩, _, rfl, _, rfl, log12 (show a ≤ 12 by omega), _, _, rfl, rfl, sz1 .tail (show a ≤ 12 by omega), fun x dx nx ndx nex => ch1 R.F.S.R.A .tail (show 1 ≤ a by omega) (show a ≤ 12 by omega) nx ndx fun Hx sx hx => ⟨_, rfl, _, rfl, log12 (show b ≤ 12 by omega), _, _, rfl, rfl, sz1 .tail (show b ≤ 12 by omega), _, _, rfl, rfl, sz4 (show b ≤ 12 by omega), fun y dy ny ndy ney => ch3 R.F.S.R.A (show 1 ≤ b by omega) (show b ≤ 12 by omega) ny ndy fun Hy sy hy => ⟨(by show 3 ≤ sizeLine; decide), fun p np => ?_⟩⟩⟩
      have sa : Same H8 _ := Same.trans sx sy
      have pl : p ≠ l := (ne_of_none (sa _ _ hl) np).symm
      have P := pr_new (l := l) (v := .non) (hx.same sy) hy np pl (by rw [kn7 a1 ab b12 c1 c12]; rfl) (by simp) (by simp) (by simp) (by simp) (ct1 (show 1 ≤ a by omega) (show a ≤ 12 by omega)) (ct2 (show 1 ≤ b by omega) (show b ≤ 12 by omega) (by decide) (by decide))
      have sp := same_new (o := .lst [.ref x, .ref y, .non]) np
      have s2 := Same.trans sa sp
      exact ⟨l, vs, .ref p, rfl, rfl, s2 _ _ hl, szM (by omega), rfl, (hK.same s2).put (s2 _ _ hl) P, ch_put (s2 _ _ hl) (hf.same s2), (hT.same s2).put (s2 _ _ hl)⟩
    rintro _ H9 ⟨rfl, hK, hf, hT⟩
    -- each pair
    obtain ⟨vs, hl, lv, hP⟩ := id hK.ex
    refine ⟨_, rfl, l, rfl, ⟨_, SqL.of hl⟩, ?_⟩
    refine for_list (K := K) (a := l) (xs := vs) (fun i σ H' => (∃ u v7 v8, σ = [some (.int (a : Nat)), some (.int (b : Nat)), some (.int (c : Nat)), some (.ref f), some (.ref l), some (.ref tl), u, v7, v8, none]) ∧ Same H9 H') ⟨⟨_, _, _, rfl⟩, Same.refl _⟩ (fun i σ H' _ ⟨_, s'⟩ => SqL.of (s' _ _ hl)) ?_ ?_
    rotate_left
    · rintro σ H' ⟨⟨u, v7, v8, rfl⟩, s'⟩
      exact k _ (Same.trans hK.s s')
    rintro i y σ H10 hy ⟨⟨u', v7, v8, rfl⟩, s10⟩
    obtain ⟨cs, ds, P⟩ := hP y (List.mem_of_getElem? hy)
    obtain ⟨p, x, y', rfl, pl, hp, hx, hy'⟩ := (P.off (Same.off s10) ⟨_, hl⟩).ex
    have gc := line_good P.n1 P.c1 P.l1
    have gd := line_good P.n2 P.c2 P.l2
    have ec := line_cutters P.n1 P.c1
    have ed := line_cutters P.n2 P.c2
    have swo : SkT.Sw 20 64 (optD (firstD cs ds)) := opt_sw fun n e => (firstD_some.mp e).1
    have bl_ := szl (show 20 ≤ 1000 by decide)
    refine ⟨p, _, rfl, SqL.of hp, rfl, _, _, rfl, _, _, rfl, _, _, rfl, rfl, ?_⟩
    refine ⟨_, rfl, _, rfl, tnil_of (fd_of hx hy' gc gd fun H11 s11 => ?_)⟩
    rw [ec, ed]
    refine ⟨_, _, _, rfl, opt_dq _, swo, bl_, _, rfl, _, _, _, rfl, opt_dq _, swo, bl_, rfl, _, rfl, ?_⟩
    rw [decide_eq_true rfl]
    refine iteF ⟨_, rfl, _, rfl, tnil_of (fd_of (hy'.same s11) (hx.same s11) gd gc fun H12 s12 => ?_)⟩
    rw [ec, ed, firstD_swap cs ds]
    refine ⟨_, _, _, rfl, opt_dq _, swo, bl_, _, rfl, _, _, _, rfl, opt_dq _, swo, bl_, rfl, _, rfl, ?_⟩
    rw [decide_eq_true rfl]
    exact iteF ⟨⟨_, _, _, rfl⟩, Same.trans s10 (Same.trans s11 s12)⟩
end
end My

/-! the law's turn -/
namespace My
open PySem L2 Cm LM CH
abbrev sRight : Stmt := top 36
abbrev NR : List Str := ["_law_jar_here", "_law_turn", "_law_one", "_law_two", "_law_mine", "_law_mate", "_law_low"]
theorem scRight : FnScope NR ["_law_jar_here"] (defScope sRight) := ⟨rfl, rfl, rfl, by decide +kernel, rfl, by decide +kernel, by decide +kernel⟩
structure TxR (w : World) (K : PySem.W.Frag) (mg : Str → Option Value) where
  T : TxKn w K mg
  same : Df K mg "_law_same_chain" sSame ["_law_jar_here", "_law_cutters_here"]
section
variable {P : Program} {w : World} {K : PySem.W.Frag} {mg : Str → Option Value} {base : Heap}
def spRight : Sp := fun vs H Q _ => ∃ j : Addr, vs = [.ref j] ∧ Jar H j ∧ ∀ H', Off j H H' → Q (.bl true) H'
theorem ok_right {f : Addr} {fd : FuncData} (F : Fun K "_law_right" "_law_right" sRight f fd) (R : TxR w K mg) (sm : ∃ ob, base.get? sysModules = some ob) : Gd.FnG P w K mg base CX0 10 f fd ["_law_jar_here"] spRight := by
  have GS : FnOk P w K mg base CX0 1 R.T.D.sip.f R.T.D.sip.fd ["_law_jar_here", "_law_many"] spSip := ga_sip R.T.D
  have GC : FnOk P w K mg base CX0 3 R.T.D.cts.f R.T.D.cts.fd ["_law_jar_here", "_law_most"] spCuts := ok_cuts R.T.D
  have GM : FnOk P w K mg base CX0 3 R.same.f R.same.fd ["_law_jar_here", "_law_cutters_here"] spSame := ok_same R.T.D R.T.list R.same.F
  have GH : FnOk P w K mg base CX0 5 R.T.ch.f R.T.ch.fd ["_law_cutters_here"] (spLCh R.T.F.S.R.A.C) := ok_lch R.T.F.S.R.A R.T.D R.T.ch
  have GD : FnOk P w K mg base (L2.CX P w) 7 R.T.F.fd.f R.T.F.fd.fd ["chain", "other_chain"] (spFD K R.T.F.S.R.A.C R.T.F.S.eC.C) := ok_fd R.T.F
  have GP : Gd.FnG P w K mg base CX0 9 R.T.kn.f R.T.kn.fd ["_law_low", "_law_high", "_law_wide"] spKn := ok_kn R.T sm
  refine Gd.okG F scRight (fun vs H Q E h => ?_) (fun cdv A outer s H vs Q E _ _ _ hgd hr h => ?_)
  · obtain ⟨j, rfl, _⟩ := h
    rfl
  · obtain ⟨j, rfl, hJ, k⟩ := h
    have hr1 : Room 1 _ := hr.mono (by decide)
    have hr3 : Room 3 _ := hr.mono (by decide)
    have hr5 : Room 5 _ := hr.mono (by decide)
    have hr7 : Room 7 _ := hr.mono (by decide)
    refine ⟨_, (C8.pss_cut (ps_for PassesOwn.never rfl (pi_range1 rfl R.T.D.range (pa_cons pe_int pa_nil)) (pg_name (i := 1) scRight.nd rfl (.inl rfl)) (pss_cons (ps_set (i := 2) scRight.nd rfl (.inl rfl) (pe_call GC hr3 rfl R.T.D.cts.g R.T.D.cts.k R.T.D.cts.b .nil pass0 (pa_cons (pv 0) (pa_cons pe_int pa_nil)))) (pss_cons (ps_set (i := 3) scRight.nd rfl (.inl rfl) (pe_call GM hr3 rfl R.same.g R.same.k R.same.b .nil pass0 (pa_cons (pv 0) (pa_cons (pv 2) pa_nil)))) (C8.pss_cut (ps_par (i := 4) (j := 5) rfl scRight.nd rfl rfl (by decide) rfl rfl (pa_cons (pe_call GH hr5 rfl R.T.ch.g R.T.ch.k R.T.ch.b .nil pass0 (pa_cons (pv 2) pa_nil)) (pa_cons (pe_call GH hr5 rfl R.T.ch.g R.T.ch.k R.T.ch.b .nil pass0 (pa_cons (pe_call GM hr3 rfl R.same.g R.same.k R.same.b .nil pass0 (pa_cons (pv 0) (pa_cons (pv 3) pa_nil))) pa_nil)) pa_nil)) (by rfl)) (C8.pss_cut (ps_if (PW.pt (pw_or (pt_cmpR op_notN (pe_call GD hr7 rfl R.T.F.fd.g R.T.F.fd.k R.T.F.fd.b .nil pass_none (pa_cons (pv 4) (pa_cons (pv 5) pa_nil))) pe_non (nomark _)) (pw_or1 (pt_cmpR op_notN (pe_call GD hr7 rfl R.T.F.fd.g R.T.F.fd.k R.T.F.fd.b .nil pass_none (pa_cons (pv 5) (pa_cons (pv 4) pa_nil))) pe_non (nomark _))))) (pss_one (ps_ret pe_bl)) pss_nil) (pss_one (ps_if (PW.pt (pw_or (pt_cmpR op_notN (pe_call GD hr7 rfl R.T.F.fd.g R.T.F.fd.k R.T.F.fd.b .nil pass_none (pa_cons (pv 4) (pa_cons (pv 4) pa_nil))) pe_non (nomark _)) (pw_or1 (pt_cmpR op_notN (pe_call GD hr7 rfl R.T.F.fd.g R.T.F.fd.k R.T.F.fd.b .nil pass_none (pa_cons (pv 4) (pa_cons (pe_call GH hr5 rfl R.T.ch.g R.T.ch.k R.T.ch.b .nil pass0 (pa_cons (pv 2) pa_nil)) pa_nil))) pe_non (nomark _))))) (pss_one (ps_ret pe_bl)) pss_nil))))))) (pss_cons (ps_set (i := 6) scRight.nd rfl (.inl rfl) (pe_op op_add pe_int (pe_call GS hr1 rfl R.T.D.sip.g R.T.D.sip.k R.T.D.sip.b .nil pass0 (pa_cons (pv 0) (pa_cons pe_int pa_nil))))) (pss_one (ps_ret (Gd.pe_callG GP hgd hr rfl R.T.kn.g R.T.kn.k R.T.kn.b .nil pass0 (pa_cons (pv 6) (pa_cons (pe_op op_add (pe_op op_add (pv 6) pe_int) (pe_call GS hr1 rfl R.T.D.sip.g R.T.D.sip.k R.T.D.sip.b .nil pass0 (pa_cons (pv 0) (pa_cons (pe_op op_sub pe_int (pv 6)) pa_nil)))) (pa_cons (pe_op op_add pe_int (pe_call GS hr1 rfl R.T.D.sip.g R.T.D.sip.k R.T.D.sip.b .nil pass0 (pa_cons (pv 0) (pa_cons pe_int pa_nil)))) pa_nil)))))))), ?_⟩
    refine ⟨fun σ H' => (∃ v1 v2 v3 v4 v5 : Option V, σ = [some (.ref j), v1, v2, v3, v4, v5, none]) ∧ Off j H H' ∧ Jar H' j, ?_, ?_⟩
    · refine ⟨2, rfl, by decide, by decide, for_range (lo := 0) (n := 2) (fun i σ H' => (∃ v1 v2 v3 v4 v5 : Option V, σ = [some (.ref j), v1, v2, v3, v4, v5, none]) ∧ Off j H H' ∧ Jar H' j) ⟨⟨none, none, none, none, none, rfl⟩, Off.refl, hJ⟩ ?_ ?_⟩
      rotate_left
      · exact fun σ H' h => h
      rintro i σ H1 hi ⟨⟨v1, v2, v3, v4, v5, rfl⟩, o1, J1⟩
      refine ⟨_, rfl, j, 4, rfl, J1, by decide, by decide, fun H2 a cs o2 J2 na aj hA hne hlen hct => ?_⟩
      have N1 : CtN j H2 a cs := ⟨aj, hA, hne, by omega, hct⟩
      refine ⟨_, rfl, _, rfl, j, a, cs, rfl, J2, N1, fun H3 b ds o3 J3 N2 l2 e2 => ?_⟩
      have A3 := N1.off o3 J2
      -- mine, mate
      refine ⟨fun σ H' => ∃ (x y : Addr) (es : List (Kd × Nat)), σ = [some (.ref j), some (.int (0 + (i : Int))), some (.ref a), some (.ref b), some (.ref x), some (.ref y), none] ∧ Off j H H' ∧ Jar H' j ∧ CtN j H' a cs ∧ ChainAt R.T.F.S.R.A.C H' x (cline cs) ∧ ChainAt R.T.F.S.R.A.C H' y (cline es) ∧ es ≠ [] ∧ es.length ≤ 6 ∧ (∀ c ∈ es, Ct c) ∧ ∀ n, lens es n = lens cs n, ?_, ?_⟩
      · refine ⟨_, rfl, a, cs, rfl, A3.h, A3.ne, A3.l, A3.c, fun H4 x s4 hx => ?_⟩
        refine ⟨_, rfl, _, rfl, j, b, ds, rfl, J3.same s4, N2.same s4, fun H5 q es o5 J5 N5 l5 e5 => ?_⟩
        refine ⟨q, es, rfl, N5.h, N5.ne, N5.l, N5.c, fun H6 y s6 hy => ⟨_, _, rfl, ?_⟩⟩
        exact ⟨x, y, es, rfl, ((((o1.trans o2).trans o3).trans (Same.off s4)).trans o5).trans (Same.off s6), J5.same s6, (((A3.same s4).off o5 (J3.same s4)).same s6), ((hx.off o5 (J3.same s4)).same s6), hy, N5.ne, N5.l, N5.c, fun n => (e5 n).trans (e2 n)⟩
      rintro _ H4 ⟨x, y, es, rfl, o4, J4, A4, hx, hy, ene, el, ect, eq⟩
      have gc := line_good A4.ne A4.c A4.l
      have gd := line_good ene ect el
      have ec := line_cutters A4.ne A4.c
      have ed := line_cutters ene ect
      have d1 : firstD cs es = none := firstD_none.mpr fun m _ => (eq m).symm
      have d2 : firstD es cs = none := firstD_none.mpr fun m _ => eq m
      have d3 : firstD cs cs = none := firstD_none.mpr fun m _ => rfl
      refine ⟨fun σ H' => σ = [some (.ref j), some (.int (0 + (i : Int))), some (.ref a), some (.ref b), some (.ref x), some (.ref y), none] ∧ Same H4 H', ?_, ?_⟩
      · refine ⟨_, rfl, _, rfl, tnil_of (fd_of hx hy gc gd fun H5 s5 => ?_)⟩
        rw [ec, ed, d1]
        refine ⟨rfl, _, rfl, ?_⟩
        refine iteF ⟨_, rfl, _, rfl, tnil_of (fd_of (hy.same s5) (hx.same s5) gd gc fun H6 s6 => ?_)⟩
        rw [ec, ed, d2]
        refine ⟨rfl, _, rfl, ?_⟩
        exact iteF ⟨rfl, Same.trans s5 s6⟩
      rintro _ H5 ⟨rfl, s5⟩
      have hx5 := hx.same s5
      have A5 := A4.same s5
      refine ⟨_, rfl, _, rfl, tnil_of (fd_of hx5 hx5 gc gc fun H6 s6 => ?_)⟩
      rw [ec, d3]
      refine ⟨rfl, _, rfl, ?_⟩
      refine iteF ⟨_, rfl, _, rfl, a, cs, rfl, (A5.same s6).h, A5.ne, A5.l, A5.c, fun H7 z s7 hz => tnil_of (fd_of ((hx5.same s6).same s7) hz gc gc fun H8 s8 => ?_)⟩
      rw [ec, d3]
      refine ⟨rfl, _, rfl, ?_⟩
      have s48 := Same.trans s5 (Same.trans s6 (Same.trans s7 s8))
      exact iteF ⟨⟨_, _, _, _, _, rfl⟩, o4.trans (Same.off s48), J4.same s48⟩
    rintro _ H1 ⟨⟨v1, v2, v3, v4, v5, rfl⟩, o1, J1⟩
    -- the known pairs
    refine ⟨_, rfl, j, 11, rfl, J1, by decide, by decide, fun H2 e e0 e1 o2 J2 => ⟨_, _, rfl, rfl, ?_⟩⟩
    obtain ⟨n, rfl⟩ := Int.eq_ofNat_of_zero_le e0
    refine ⟨_, rfl, _, rfl, _, _, rfl, rfl, _, rfl, _, rfl, _, _, rfl, rfl, j, _, rfl, J2, by omega, by omega, fun H3 e' f0 f1 o3 J3 => ⟨_, _, rfl, rfl, ?_⟩⟩
    obtain ⟨m, rfl⟩ := Int.eq_ofNat_of_zero_le f0
    refine ⟨_, rfl, j, 12, rfl, J3, by decide, by decide, fun H4 e'' g0 g1 o4 J4 => ⟨_, _, rfl, rfl, ?_⟩⟩
    obtain ⟨q, rfl⟩ := Int.eq_ofNat_of_zero_le g0
    refine ⟨1 + n, 1 + n + 1 + m, 1 + q, ?_, by omega, by omega, by omega, by omega, by omega, fun H5 s5 => k H5 (((o1.trans o2).trans o3).trans (o4.trans (Same.off s5)))⟩
    rw [show ((1 + n : Nat) : Int) = 1 + (n : Int) by omega, show ((1 + n + 1 + m : Nat) : Int) = 1 + (n : Int) + 1 + (m : Int) by omega, show ((1 + q : Nat) : Int) = 1 + (q : Int) by omega]
    rfl
end
end My

namespace My
open PySem L2 Cm LM
abbrev sLaw : Stmt := top 37
def spLaw (K : PySem.W.Frag) : Sp := fun vs H Q _ => ∃ (a : Addr) (ns : List Int), vs = [.ref a] ∧ SqL K H a (ns.map V.int) ∧ ns.length ≤ 63 ∧ ∀ H', Q (.bl true) H'
theorem scLaw : FnScope ["_law_script", "_law_k"] ["_law_script"] (defScope sLaw) := ⟨rfl, rfl, rfl, by decide +kernel, rfl, by decide +kernel, by decide +kernel⟩
theorem all_true : ∀ n : Nat, (List.replicate n true).all id = true
  | 0 => rfl
  | n + 1 => all_true n
section
variable {P : Program} {w : World} {K : PySem.W.Frag} {mg : Str → Option Value} {base : Heap}
theorem ok_law {f fJ fR : Addr} {fd fdJ fdR : FuncData} (F : Fun K "law" "law" sLaw f fd) (TJ : TxtJ mg) (mrange : mg "range" = none) (mall : mg "all" = none) (kR9 : Nat) (GR : Gd.FnG P w K mg base CX0 kR9 fR fdR ["_law_jar_here"] spRight)
    (FJ : Fun K "_law_jar" "_law_jar" sJar fJ fdJ) (bJ : Binds K fdJ ["_law_script", "_law_k"] []) (gJ : mg "_law_jar" = some (.ref fJ)) (kJ : PySem.W.keepIn K (.ref fJ) = true) (k1 : 1 ≤ kR9)
    (bR : Binds K fdR ["_law_jar_here"] []) (gR : mg "_law_right" = some (.ref fR)) (kR : PySem.W.keepIn K (.ref fR) = true) (mmax : mg "max" = none) (mmin : mg "min" = none) :
    Gd.FnG P w K mg base CX0 (kR9 + 1) f fd ["_law_script"] (spLaw K) := by
  have GJ : FnOk P w K mg base CX0 1 fJ fdJ ["_law_script", "_law_k"] (spJar K) := ok_jar FJ TJ
  refine Gd.okG F scLaw (fun vs H Q E h => ?_) (fun cdv A outer s H vs Q E _ _ _ hgd hr h => ?_)
  · obtain ⟨a, ns, rfl, _⟩ := h
    rfl
  · obtain ⟨a, ns, rfl, hS, hl, k⟩ := h
    have hr1 : Room 1 _ := hr.mono k1
    refine ⟨_, pss_one (ps_ret (pe_callB (cr_all rfl) (by rfl) mall (by decide +kernel) (pa_cons (pe_lc (own := [("_law_k", 1)]) (g := gName 1) (tt := tYes) rfl scLaw.nd
      (pi_range1 rfl mrange (pa_cons (pe_callB (call_max2 rfl) (by rfl) mmax (by decide +kernel) (pa_cons pe_int (pa_cons (pe_callB (call_min2 rfl) (by rfl) mmin (by decide +kernel) (pa_cons (pe_callB call_len_seq (by rfl) TJ.len PySem.boot_len (pa_cons (pv 0) pa_nil)) (pa_cons pe_int pa_nil))) pa_nil))) pa_nil))
      (blkOk_by (own := [("_law_k", 1)]) (N := ["_law_script", "_law_k"]) (sc := defScope sLaw) (by decide +kernel)) (fun _ _ _ _ _ => pg_name (i := 1) scLaw.nd rfl (Or.inl rfl)) (fun _ _ _ _ _ => pts_nil)
      (fun _ _ _ _ _ => Gd.pe_callG GR hgd hr rfl gR kR bR .nil pass0 (pa_cons (pe_call GJ hr1 rfl gJ kJ bJ .nil pass0 (pa_cons (pv 0) (pa_cons (pv 1) pa_nil))) pa_nil))) pa_nil))), ?_⟩
    refine ⟨_, rfl, a, _, rfl, .inl hS, _, _, rfl, _, _, rfl, ?_⟩
    rw [List.length_map]
    have hm : ∃ n : Nat, (if (if (5 : Int) < (ns.length : Int) then 5 else (ns.length : Int)) > 2 then (if (5 : Int) < (ns.length : Int) then 5 else (ns.length : Int)) else 2) = (n : Int) ∧ n ≤ 5 := by
      by_cases h5 : (5 : Int) < (ns.length : Int)
      · rw [if_pos h5]
        exact ⟨5, rfl, Nat.le_refl _⟩
      · rw [if_neg h5]
        by_cases h2 : (ns.length : Int) > 2
        · rw [if_pos h2]
          exact ⟨ns.length, rfl, by omega⟩
        · rw [if_neg h2]
          exact ⟨2, rfl, by omega⟩
    obtain ⟨n, en, hn⟩ := hm
    refine ⟨_, rfl, by rw [en]; omega, by rw [en]; omega, fun D nD => ?_⟩
    rw [en]
    refine lc_range (lo := 0) (n := ((n : Int)).toNat) (fun i H' => Same H H' ∧ H' D = some (.lst ((List.replicate i true).map V.bl))) ⟨same_upd nD, upd_same⟩ ?_ ?_
    · rintro i H1 hi ⟨s1, hD⟩
      refine ⟨rfl, _, rfl, _, rfl, a, ns, i, by rw [Int.zero_add]; rfl, s1.seq hS, hl, fun H2 j s2 nj J2 => ?_⟩
      refine ⟨j, rfl, J2, fun H3 o3 => ?_⟩
      have s3 : Same H1 H3 := fun b o q => o3 b o (fun z => by rw [z, nj] at q; cases q) (s2 b o q)
      refine ⟨_, s3 _ _ hD, small1000 (by rw [List.length_map, List.length_replicate]; omega), fun b o q => ?_, ?_⟩
      · rw [upd_ne (ne_of_none q nD)]
        exact s3 _ _ (s1 _ _ q)
      · rw [upd_same, List.replicate_succ', List.map_append]
        rfl
    · rintro H1 ⟨s1, hD⟩
      refine ⟨D, List.replicate _ true, rfl, SqL.of hD, ?_⟩
      rw [all_true]
      exact k H1
end
theorem all_mk {l : PySem.W.OpenLaw} {w : World} {K : PySem.W.Frag} {h : Heap} {mg : Str → Option Value} {fa fcs fwr ffr fcr ftr CIT fIT dC fco CA fai CW fri fmn fro fiib CNC fNC frs fcc fasp ffd fsip ffrm fcts flin flch flkn fsame fjar frt flaw : Addr} (X : K.In h) (G : h.Ns mainGlobals mg) (hfa : mg "law" = some (.ref fa))
    {odcs ancs odwr anwr odfr anfr odcr ancr odtr antr odIT anIT odco anco odai anai odri anri odmn anmn odro anro odiib aniib odNC anNC odrs anrs odcc ancc odasp anasp odfd anfd odsip ansip odfrm anfrm odcts ancts odlin anlin odlch anlch odlkn anlkn odsame ansame odjar anjar odrt anrt odlaw anlaw : Option Addr}
    {slcs slwr slfr slcr sltr slIT slco slai slri slmn slro sliib slNC slrs slcc slasp slfd slsip slfrm slcts sllin sllch sllkn slsame sljar slrt sllaw : Array (Option Value)}
    {occs kVcs dccs pmcs cdcs ctcs ocwr kVwr dcwr pmwr cdwr ctwr ocfr kVfr dcfr pmfr cdfr ctfr occr kVcr dccr pmcr cdcr ctcr octr kVtr dctr pmtr cdtr cttr ocIT kVIT dcIT pmIT cdIT ctIT occo kVco dcco pmco cdco ctco ocai kVai dcai pmai cdai ctai ocri kVri dcri pmri cdri ctri ocmn kVmn dcmn pmmn cdmn ctmn ocro kVro dcro pmro cdro ctro ociib kViib dciib pmiib cdiib ctiib ocNC kVNC dcNC pmNC cdNC ctNC ocrs kVrs dcrs pmrs cdrs ctrs occc kVcc dccc pmcc cdcc ctcc ocasp kVasp dcasp pmasp cdasp ctasp ocfd kVfd dcfd pmfd cdfd ctfd ocsip kVsip dcsip pmsip cdsip ctsip ocfrm kVfrm dcfrm pmfrm cdfrm ctfrm occts kVcts dccts pmcts cdcts ctcts oclin kVlin dclin pmlin cdlin ctlin oclch kVlch dclch pmlch cdlch ctlch oclkn kVlkn dclkn pmlkn cdlkn ctlkn ocsame kVsame dcsame pmsame cdsame ctsame ocjar kVjar dcjar pmjar cdjar ctjar ocrt kVrt dcrt pmrt cdrt ctrt oclaw kVlaw dclaw pmlaw cdlaw ctlaw : Value}
    {tkMW tkMC tkMT : Tok}
    {nmIT qIT : Str} {NIT : Addr} {bsIT bmIT : List Value} {snIT : List Str} {subIT : List Value} {abIT : Bool} {colIT : Option Bool} {ddIT : Option Addr} {m0IT m1IT m2IT m3IT m5IT : Option Value}
    {nmNC qNC : Str} {NNC : Addr} {bsNC bmNC : List Value} {snNC : List Str} {subNC : List Value} {abNC : Bool} {colNC : Option Bool} {ddNC : Option Addr} {m0NC m1NC m2NC m3NC m5NC : Option Value}
    (acs : PySem.W.nsIn K mainGlobals "cut_sizes" = some (some (.ref fcs)))
    (lcs : K.lookup fcs = some ⟨occs, odcs, .func (PySem.W.fnOf "cut_sizes" "cut_sizes" (defArgs sCS) (defBody sCS) (defScope sCS) .none kVcs dccs pmcs ancs cdcs ctcs), slcs⟩)
    (ccs : PySem.W.codeIn K cdcs "cut_sizes" = true)
    (kcs : PySem.W.keepIn K (.ref fcs) = true)
    (awr : PySem.W.nsIn K mainGlobals "whole_row" = some (some (.ref fwr)))
    (lwr : K.lookup fwr = some ⟨ocwr, odwr, .func (PySem.W.fnOf "whole_row" "whole_row" (defArgs sWR) (defBody sWR) (defScope sWR) .none kVwr dcwr pmwr anwr cdwr ctwr), slwr⟩)
    (cwr : PySem.W.codeIn K cdwr "whole_row" = true)
    (kwr : PySem.W.keepIn K (.ref fwr) = true)
    (afr : PySem.W.nsIn K mainGlobals "fill_row" = some (some (.ref ffr)))
    (lfr : K.lookup ffr = some ⟨ocfr, odfr, .func (PySem.W.fnOf "fill_row" "fill_row" (defArgs sFR) (defBody sFR) (defScope sFR) .none kVfr dcfr pmfr anfr cdfr ctfr), slfr⟩)
    (cfr : PySem.W.codeIn K cdfr "fill_row" = true)
    (kfr : PySem.W.keepIn K (.ref ffr) = true)
    (acr : PySem.W.nsIn K mainGlobals "cut_row" = some (some (.ref fcr)))
    (lcr : K.lookup fcr = some ⟨occr, odcr, .func (PySem.W.fnOf "cut_row" "cut_row" (defArgs sCR) (defBody sCR) (defScope sCR) .none kVcr dccr pmcr ancr cdcr ctcr), slcr⟩)
    (ccr : PySem.W.codeIn K cdcr "cut_row" = true)
    (kcr : PySem.W.keepIn K (.ref fcr) = true)
    (atr : PySem.W.nsIn K mainGlobals "tail_row" = some (some (.ref ftr)))
    (ltr : K.lookup ftr = some ⟨octr, odtr, .func (PySem.W.fnOf "tail_row" "tail_row" (defArgs sTR) (defBody sTR) (defScope sTR) .none kVtr dctr pmtr antr cdtr cttr), sltr⟩)
    (ctr : PySem.W.codeIn K cdtr "tail_row" = true)
    (ktr : PySem.W.keepIn K (.ref ftr) = true)
    (aCIT : PySem.W.nsIn K mainGlobals "InvalidText" = some (some (.ref CIT)))
    (aIT : PySem.W.findIn K (.ref CIT) "__init__" = some (some (.ref fIT)))
    (iIT : PySem.W.isFn K (.ref fIT) = true)
    (lIT : K.lookup fIT = some ⟨ocIT, odIT, .func (PySem.W.fnOf "__init__" "InvalidText.__init__" (defArgs sEI) (defBody sEI) (defScope sEI) .none kVIT dcIT pmIT anIT cdIT ctIT), slIT⟩)
    (cIT : PySem.W.codeIn K cdIT "InvalidText.__init__" = true)
    (kIT : PySem.W.keepIn K (.ref fIT) = true)
    (xIT : K.lookup CIT = some (excClassObj nmIT qIT CIT NIT bsIT bmIT true snIT subIT abIT colIT ddIT m0IT m1IT m2IT m3IT m5IT "ValueError.__new__"))
    (xrIT : PySem.HandSPX.refsVE bmIT = true)
    (e1IT : PySem.W.findIn K (.ref CIT) "__setattr__" = some (some (.builtin "object.__setattr__")))
    (e2IT : PySem.W.subIn K (.ref CIT) (.type "BaseException") = some true)
    (e3IT : PySem.W.typeIn K (.ref CIT) = some (.type "type"))
    (e4IT : PySem.W.keepIn K (.ref CIT) = true)
    (e5IT : PySem.W.typeIn K (.ref fIT) = some (.type "function"))
    (e6IT : PySem.W.findIn K (.ref CIT) "value" = some none)
    (mMW : PySem.W.nsIn K mainGlobals "MOST_WIDTH" = some (some (.int 12 tkMW)))
    (mMC : PySem.W.nsIn K mainGlobals "MOST_CUTTERS" = some (some (.int 6 tkMC)))
    (gdC : PySem.W.nsIn K mainGlobals "CUTTERS" = some (some (.ref dC)))
    (nkcut : PySem.W.nsIn K dC "cut" = some (some (.ref fcr)))
    (nkfill : PySem.W.nsIn K dC "fill" = some (some (.ref ffr)))
    (nktail : PySem.W.nsIn K dC "tail" = some (some (.ref ftr)))
    (dwC : He.dicW K dC = some (He.keysIn w.params CH.kds))
    (aco : PySem.W.nsIn K mainGlobals "cutter_of" = some (some (.ref fco)))
    (lco : K.lookup fco = some ⟨occo, odco, .func (PySem.W.fnOf "cutter_of" "cutter_of" (defArgs sCO) (defBody sCO) (defScope sCO) .none kVco dcco pmco anco cdco ctco), slco⟩)
    (cco : PySem.W.codeIn K cdco "cutter_of" = true)
    (kco : PySem.W.keepIn K (.ref fco) = true)
    (aCA : PySem.W.nsIn K mainGlobals "Chain" = some (some (.ref CA)))
    (pgA : PySem.W.plainGet K CA Str.empty = true)
    (hdA : PySem.W.hasDictIn K CA = true)
    (poA : PySem.W.plainOver K CA = true)
    (saA : PySem.W.findIn K (.ref CA) "__setattr__" = some (some (.builtin "object.__setattr__")))
    (mkA : PySem.W.makesIn K CA = true)
    (kcA : PySem.W.keepIn K (.ref CA) = true)
    (nA0 : PySem.W.findIn K (.ref CA) "text" = some none)
    (nA1 : PySem.W.findIn K (.ref CA) "cutters" = some none)
    (aai : PySem.W.findIn K (.ref CA) "__init__" = some (some (.ref fai)))
    (iai : PySem.W.isFn K (.ref fai) = true)
    (lai : K.lookup fai = some ⟨ocai, odai, .func (PySem.W.fnOf "__init__" "Chain.__init__" (defArgs sAI) (defBody sAI) (defScope sAI) .none kVai dcai pmai anai cdai ctai), slai⟩)
    (cai : PySem.W.codeIn K cdai "Chain.__init__" = true)
    (kai : PySem.W.keepIn K (.ref fai) = true)
    (aCW : PySem.W.nsIn K mainGlobals "Row" = some (some (.ref CW)))
    (pgW : PySem.W.plainGet K CW Str.empty = true)
    (hdW : PySem.W.hasDictIn K CW = true)
    (poW : PySem.W.plainOver K CW = true)
    (saW : PySem.W.findIn K (.ref CW) "__setattr__" = some (some (.builtin "object.__setattr__")))
    (mkW : PySem.W.makesIn K CW = true)
    (kcW : PySem.W.keepIn K (.ref CW) = true)
    (nW0 : PySem.W.findIn K (.ref CW) "unit" = some none)
    (nW1 : PySem.W.findIn K (.ref CW) "times" = some none)
    (nW2 : PySem.W.findIn K (.ref CW) "last" = some none)
    (ari : PySem.W.findIn K (.ref CW) "__init__" = some (some (.ref fri)))
    (iri : PySem.W.isFn K (.ref fri) = true)
    (lri : K.lookup fri = some ⟨ocri, odri, .func (PySem.W.fnOf "__init__" "Row.__init__" (defArgs sRI) (defBody sRI) (defScope sRI) .none kVri dcri pmri anri cdri ctri), slri⟩)
    (cri : PySem.W.codeIn K cdri "Row.__init__" = true)
    (kri : PySem.W.keepIn K (.ref fri) = true)
    (amn : PySem.W.findIn K (.ref CW) "many" = some (some (.ref fmn)))
    (imn : PySem.W.isFn K (.ref fmn) = true)
    (lmn : K.lookup fmn = some ⟨ocmn, odmn, .func (PySem.W.fnOf "many" "Row.many" (defArgs sRM) (defBody sRM) (defScope sRM) .none kVmn dcmn pmmn anmn cdmn ctmn), slmn⟩)
    (cmn : PySem.W.codeIn K cdmn "Row.many" = true)
    (kmn : PySem.W.keepIn K (.ref fmn) = true)
    (aro : PySem.W.findIn K (.ref CA) "row_of" = some (some (.ref fro)))
    (iro : PySem.W.isFn K (.ref fro) = true)
    (lro : K.lookup fro = some ⟨ocro, odro, .func (PySem.W.fnOf "row_of" "Chain.row_of" (defArgs sRO) (defBody sRO) (defScope sRO) .none kVro dcro pmro anro cdro ctro), slro⟩)
    (cro : PySem.W.codeIn K cdro "Chain.row_of" = true)
    (kro : PySem.W.keepIn K (.ref fro) = true)
    (aiib : PySem.W.nsIn K mainGlobals "is_integer_between" = some (some (.ref fiib)))
    (liib : K.lookup fiib = some ⟨ociib, odiib, .func (PySem.W.fnOf "is_integer_between" "is_integer_between" (defArgs sIIB) (defBody sIIB) (defScope sIIB) .none kViib dciib pmiib aniib cdiib ctiib), sliib⟩)
    (ciib : PySem.W.codeIn K cdiib "is_integer_between" = true)
    (kiib : PySem.W.keepIn K (.ref fiib) = true)
    (aCNC : PySem.W.nsIn K mainGlobals "NotAChain" = some (some (.ref CNC)))
    (aNC : PySem.W.findIn K (.ref CNC) "__init__" = some (some (.ref fNC)))
    (iNC : PySem.W.isFn K (.ref fNC) = true)
    (lNC : K.lookup fNC = some ⟨ocNC, odNC, .func (PySem.W.fnOf "__init__" "NotAChain.__init__" (defArgs sENC) (defBody sENC) (defScope sENC) .none kVNC dcNC pmNC anNC cdNC ctNC), slNC⟩)
    (cNC : PySem.W.codeIn K cdNC "NotAChain.__init__" = true)
    (kNC : PySem.W.keepIn K (.ref fNC) = true)
    (xNC : K.lookup CNC = some (excClassObj nmNC qNC CNC NNC bsNC bmNC true snNC subNC abNC colNC ddNC m0NC m1NC m2NC m3NC m5NC "ValueError.__new__"))
    (xrNC : PySem.HandSPX.refsVE bmNC = true)
    (e1NC : PySem.W.findIn K (.ref CNC) "__setattr__" = some (some (.builtin "object.__setattr__")))
    (e2NC : PySem.W.subIn K (.ref CNC) (.type "BaseException") = some true)
    (e3NC : PySem.W.typeIn K (.ref CNC) = some (.type "type"))
    (e4NC : PySem.W.keepIn K (.ref CNC) = true)
    (e5NC : PySem.W.typeIn K (.ref fNC) = some (.type "function"))
    (e6NC : PySem.W.findIn K (.ref CNC) "value" = some none)
    (ars : PySem.W.findIn K (.ref CW) "sizes" = some (some (.ref frs)))
    (irs : PySem.W.isFn K (.ref frs) = true)
    (lrs : K.lookup frs = some ⟨ocrs, odrs, .func (PySem.W.fnOf "sizes" "Row.sizes" (defArgs sRS) (defBody sRS) (defScope sRS) .none kVrs dcrs pmrs anrs cdrs ctrs), slrs⟩)
    (crs : PySem.W.codeIn K cdrs "Row.sizes" = true)
    (krs : PySem.W.keepIn K (.ref frs) = true)
    (acc : PySem.W.nsIn K mainGlobals "check_chain" = some (some (.ref fcc)))
    (lcc : K.lookup fcc = some ⟨occc, odcc, .func (PySem.W.fnOf "check_chain" "check_chain" (defArgs sCC) (defBody sCC) (defScope sCC) .none kVcc dccc pmcc ancc cdcc ctcc), slcc⟩)
    (ccc : PySem.W.codeIn K cdcc "check_chain" = true)
    (kcc : PySem.W.keepIn K (.ref fcc) = true)
    (y1A : PySem.W.findIn K (.ref CA) "__class__" = some (some (.builtin "object.__class__")))
    (y2A : PySem.W.specialIn K (.builtin "object.__class__") "__get__" = some (some (.builtin "getset_descriptor.__get__")))
    (y3A : PySem.W.takesIn K (.builtin "object.__class__") = some true)
    (y4A : PySem.W.mroIn K CA (.type "object") = some true)
    (y5A : PySem.W.kitOne K (.ref CA) (.ref CA) = some true)
    (mMT : PySem.W.nsIn K mainGlobals "MOST_TELLING" = some (some (.int 216 tkMT)))
    (aasp : PySem.W.nsIn K mainGlobals "are_split" = some (some (.ref fasp)))
    (lasp : K.lookup fasp = some ⟨ocasp, odasp, .func (PySem.W.fnOf "are_split" "are_split" (defArgs sASp) (defBody sASp) (defScope sASp) .none kVasp dcasp pmasp anasp cdasp ctasp), slasp⟩)
    (casp : PySem.W.codeIn K cdasp "are_split" = true)
    (kasp : PySem.W.keepIn K (.ref fasp) = true)
    (afd : PySem.W.nsIn K mainGlobals "first_difference" = some (some (.ref ffd)))
    (lfd : K.lookup ffd = some ⟨ocfd, odfd, .func (PySem.W.fnOf "first_difference" "first_difference" (defArgs sFD) (defBody sFD) (defScope sFD) .none kVfd dcfd pmfd anfd cdfd ctfd), slfd⟩)
    (cfd : PySem.W.codeIn K cdfd "first_difference" = true)
    (kfd : PySem.W.keepIn K (.ref ffd) = true)
    (asip : PySem.W.nsIn K mainGlobals "_law_sip" = some (some (.ref fsip)))
    (lsip : K.lookup fsip = some ⟨ocsip, odsip, .func (PySem.W.fnOf "_law_sip" "_law_sip" (defArgs sSip) (defBody sSip) (defScope sSip) .none kVsip dcsip pmsip ansip cdsip ctsip), slsip⟩)
    (csip : PySem.W.codeIn K cdsip "_law_sip" = true)
    (ksip : PySem.W.keepIn K (.ref fsip) = true)
    (afrm : PySem.W.nsIn K mainGlobals "_law_from" = some (some (.ref ffrm)))
    (lfrm : K.lookup ffrm = some ⟨ocfrm, odfrm, .func (PySem.W.fnOf "_law_from" "_law_from" (defArgs sFrom) (defBody sFrom) (defScope sFrom) .none kVfrm dcfrm pmfrm anfrm cdfrm ctfrm), slfrm⟩)
    (cfrm : PySem.W.codeIn K cdfrm "_law_from" = true)
    (kfrm : PySem.W.keepIn K (.ref ffrm) = true)
    (acts : PySem.W.nsIn K mainGlobals "_law_cutters" = some (some (.ref fcts)))
    (lcts : K.lookup fcts = some ⟨occts, odcts, .func (PySem.W.fnOf "_law_cutters" "_law_cutters" (defArgs sCuts) (defBody sCuts) (defScope sCuts) .none kVcts dccts pmcts ancts cdcts ctcts), slcts⟩)
    (ccts : PySem.W.codeIn K cdcts "_law_cutters" = true)
    (kcts : PySem.W.keepIn K (.ref fcts) = true)
    (alin : PySem.W.nsIn K mainGlobals "_law_chain_line" = some (some (.ref flin)))
    (llin : K.lookup flin = some ⟨oclin, odlin, .func (PySem.W.fnOf "_law_chain_line" "_law_chain_line" (defArgs sCLine) (defBody sCLine) (defScope sCLine) .none kVlin dclin pmlin anlin cdlin ctlin), sllin⟩)
    (clin : PySem.W.codeIn K cdlin "_law_chain_line" = true)
    (klin : PySem.W.keepIn K (.ref flin) = true)
    (alch : PySem.W.nsIn K mainGlobals "_law_chain" = some (some (.ref flch)))
    (llch : K.lookup flch = some ⟨oclch, odlch, .func (PySem.W.fnOf "_law_chain" "_law_chain" (defArgs sLCh) (defBody sLCh) (defScope sLCh) .none kVlch dclch pmlch anlch cdlch ctlch), sllch⟩)
    (clch : PySem.W.codeIn K cdlch "_law_chain" = true)
    (klch : PySem.W.keepIn K (.ref flch) = true)
    (alkn : PySem.W.nsIn K mainGlobals "_law_known_right" = some (some (.ref flkn)))
    (llkn : K.lookup flkn = some ⟨oclkn, odlkn, .func (PySem.W.fnOf "_law_known_right" "_law_known_right" (defArgs sKn) (defBody sKn) (defScope sKn) .none kVlkn dclkn pmlkn anlkn cdlkn ctlkn), sllkn⟩)
    (clkn : PySem.W.codeIn K cdlkn "_law_known_right" = true)
    (klkn : PySem.W.keepIn K (.ref flkn) = true)
    (asame : PySem.W.nsIn K mainGlobals "_law_same_chain" = some (some (.ref fsame)))
    (lsame : K.lookup fsame = some ⟨ocsame, odsame, .func (PySem.W.fnOf "_law_same_chain" "_law_same_chain" (defArgs sSame) (defBody sSame) (defScope sSame) .none kVsame dcsame pmsame ansame cdsame ctsame), slsame⟩)
    (csame : PySem.W.codeIn K cdsame "_law_same_chain" = true)
    (ksame : PySem.W.keepIn K (.ref fsame) = true)
    (ajar : PySem.W.nsIn K mainGlobals "_law_jar" = some (some (.ref fjar)))
    (ljar : K.lookup fjar = some ⟨ocjar, odjar, .func (PySem.W.fnOf "_law_jar" "_law_jar" (defArgs sJar) (defBody sJar) (defScope sJar) .none kVjar dcjar pmjar anjar cdjar ctjar), sljar⟩)
    (cjar : PySem.W.codeIn K cdjar "_law_jar" = true)
    (kjar : PySem.W.keepIn K (.ref fjar) = true)
    (art : PySem.W.nsIn K mainGlobals "_law_right" = some (some (.ref frt)))
    (lrt : K.lookup frt = some ⟨ocrt, odrt, .func (PySem.W.fnOf "_law_right" "_law_right" (defArgs sRight) (defBody sRight) (defScope sRight) .none kVrt dcrt pmrt anrt cdrt ctrt), slrt⟩)
    (crt : PySem.W.codeIn K cdrt "_law_right" = true)
    (krt : PySem.W.keepIn K (.ref frt) = true)
    (alaw : PySem.W.nsIn K mainGlobals "law" = some (some (.ref flaw)))
    (llaw : K.lookup flaw = some ⟨oclaw, odlaw, .func (PySem.W.fnOf "law" "law" (defArgs sLaw) (defBody sLaw) (defScope sLaw) .none kVlaw dclaw pmlaw anlaw cdlaw ctlaw), sllaw⟩)
    (claw : PySem.W.codeIn K cdlaw "law" = true)
    (klaw : PySem.W.keepIn K (.ref flaw) = true)
    (z_len : PySem.W.nsIn K mainGlobals "len" = some none)
    (z_str : PySem.W.nsIn K mainGlobals "str" = some none)
    (z_int : PySem.W.nsIn K mainGlobals "int" = some none)
    (z_range : PySem.W.nsIn K mainGlobals "range" = some none)
    (z_tuple : PySem.W.nsIn K mainGlobals "tuple" = some none)
    (z_isinstance : PySem.W.nsIn K mainGlobals "isinstance" = some none)
    (z_sum : PySem.W.nsIn K mainGlobals "sum" = some none)
    (z_bool : PySem.W.nsIn K mainGlobals "bool" = some none)
    (z_abs : PySem.W.nsIn K mainGlobals "abs" = some none)
    (z_divmod : PySem.W.nsIn K mainGlobals "divmod" = some none)
    (z_repr : PySem.W.nsIn K mainGlobals "repr" = some none)
    (z_list : PySem.W.nsIn K mainGlobals "list" = some none)
    (z_all : PySem.W.nsIn K mainGlobals "all" = some none)
    (z_max : PySem.W.nsIn K mainGlobals "max" = some none)
    (z_min : PySem.W.nsIn K mainGlobals "min" = some none) :
    Gd.LawG l w K 11 63 "_law_script" mg fa h := by
  have e := hfa.symm.trans (PySem.W.mg_of X G alaw)
  cases e
  have Fcs := fun_mk (st := sCS) lcs ccs kcs
  have bcs := Fcs.binds (ps := ["sizes", "width"]) fun _ _ _ _ _ _ => Ln.len2 fun _ _  => rfl
  have Fwr := fun_mk (st := sWR) lwr cwr kwr
  have bwr := Fwr.binds (ps := ["items"]) fun _ _ _ _ _ _ => Ln.len1 fun _  => rfl
  have Ffr := fun_mk (st := sFR) lfr cfr kfr
  have bfr := Ffr.binds (ps := ["row", "width"]) fun _ _ _ _ _ _ => Ln.len2 fun _ _  => rfl
  have Fcr := fun_mk (st := sCR) lcr ccr kcr
  have bcr := Fcr.binds (ps := ["row", "width"]) fun _ _ _ _ _ _ => Ln.len2 fun _ _  => rfl
  have Ftr := fun_mk (st := sTR) ltr ctr ktr
  have btr := Ftr.binds (ps := ["row", "width"]) fun _ _ _ _ _ _ => Ln.len2 fun _ _  => rfl
  have FIT := fun_mk (st := sEI) lIT cIT kIT
  have bIT := FIT.binds (ps := ["self", "value"]) fun _ _ _ _ _ _ => Ln.len2 fun _ _  => rfl
  have Fco := fun_mk (st := sCO) lco cco kco
  have bco := Fco.binds (ps := ["text"]) fun _ _ _ _ _ _ => Ln.len1 fun _  => rfl
  have Fai := fun_mk (st := sAI) lai cai kai
  have bai := Fai.binds (ps := ["self", "text"]) fun _ _ _ _ _ _ => Ln.len2 fun _ _  => rfl
  let TA : TxA w K mg := ⟨⟨CIT, fIT, _, PySem.W.mg_of X G aCIT, ⟨⟨nmIT, qIT, NIT, bsIT, bmIT, snIT, subIT, abIT, colIT, ddIT, m0IT, m1IT, m2IT, m3IT, m5IT, xIT, xrIT⟩, e1IT, e2IT, e3IT, e4IT⟩, aIT, e5IT, e6IT, FIT, bIT⟩, PySem.W.mg_none_of X G z_len, PySem.W.mg_none_of X G z_str, PySem.W.mg_none_of X G z_int, PySem.W.mg_none_of X G z_range, PySem.W.mg_none_of X G z_tuple, PySem.W.mg_none_of X G z_isinstance, ⟨_, PySem.W.mg_of X G mMW⟩, ⟨_, PySem.W.mg_of X G mMC⟩, dC, PySem.W.mg_of X G gdC, dwC, fun k => (match k with | .cut => fcr | .fill => ffr | .tail => ftr), fun k => (match k with | .cut => nkcut | .fill => nkfill | .tail => nktail), ⟨fco, _, Fco, bco, PySem.W.mg_of X G aco, kco⟩, CA, PySem.W.mg_of X G aCA, ⟨pgA, hdA, poA, saA⟩, nA0, nA1, fai, _, Fai, bai, ⟨mkA, aai, iai, kcA⟩⟩
  have Fri := fun_mk (st := sRI) lri cri kri
  have bri := Fri.binds (ps := ["self", "unit", "times", "last"]) fun _ _ _ _ _ _ => Ln.len4 fun _ _ _ _  => rfl
  have Fmn := fun_mk (st := sRM) lmn cmn kmn
  have bmn := Fmn.binds (ps := ["self"]) fun _ _ _ _ _ _ => Ln.len1 fun _  => rfl
  have Fro := fun_mk (st := sRO) lro cro kro
  have bro := Fro.binds (ps := ["self", "items"]) fun _ _ _ _ _ _ => Ln.len2 fun _ _  => rfl
  let TRw : TxRw w K mg := ⟨TA, PySem.W.mg_none_of X G z_sum, CW, PySem.W.mg_of X G aCW, ⟨pgW, hdW, poW, saW⟩, nW0, nW1, nW2, fri, _, Fri, bri, ⟨mkW, ari, iri, kcW⟩, ⟨fmn, _, Fmn, bmn, ⟨amn, imn, kmn⟩⟩, ⟨fcs, _, Fcs, bcs, PySem.W.mg_of X G acs, kcs⟩, ⟨fwr, _, Fwr, bwr, PySem.W.mg_of X G awr, kwr⟩, ⟨ffr, _, Ffr, bfr, PySem.W.mg_of X G afr, kfr⟩, ⟨fcr, _, Fcr, bcr, PySem.W.mg_of X G acr, kcr⟩, ⟨ftr, _, Ftr, btr, PySem.W.mg_of X G atr, ktr⟩, ⟨fro, _, Fro, bro, ⟨aro, iro, kro⟩⟩, rfl, rfl, rfl⟩
  have Fiib := fun_mk (st := sIIB) liib ciib kiib
  have biib := Fiib.binds (ps := ["value", "low", "high"]) fun _ _ _ _ _ _ => Ln.len3 fun _ _ _  => rfl
  let TI : TxI K mg := ⟨PySem.W.mg_none_of X G z_isinstance, PySem.W.mg_none_of X G z_int, PySem.W.mg_none_of X G z_bool, ⟨fiib, _, Fiib, biib, PySem.W.mg_of X G aiib, kiib⟩⟩
  have FNC := fun_mk (st := sENC) lNC cNC kNC
  have bNC := FNC.binds (ps := ["self", "value"]) fun _ _ _ _ _ _ => Ln.len2 fun _ _  => rfl
  have Frs := fun_mk (st := sRS) lrs crs krs
  have brs := Frs.binds (ps := ["self"]) fun _ _ _ _ _ _ => Ln.len1 fun _  => rfl
  have Fcc := fun_mk (st := sCC) lcc ccc kcc
  have bcc := Fcc.binds (ps := ["chain"]) fun _ _ _ _ _ _ => Ln.len1 fun _  => rfl
  let TS : TxS w K mg := ⟨TRw, TI, ⟨y1A, y2A, y3A, y4A, y5A⟩, ⟨CNC, fNC, _, PySem.W.mg_of X G aCNC, ⟨⟨nmNC, qNC, NNC, bsNC, bmNC, snNC, subNC, abNC, colNC, ddNC, m0NC, m1NC, m2NC, m3NC, m5NC, xNC, xrNC⟩, e1NC, e2NC, e3NC, e4NC⟩, aNC, e5NC, e6NC, FNC, bNC⟩, ⟨frs, _, Frs, brs, ⟨ars, irs, krs⟩⟩, ⟨fcc, _, Fcc, bcc, PySem.W.mg_of X G acc, kcc⟩⟩
  have Fasp := fun_mk (st := sASp) lasp casp kasp
  have basp := Fasp.binds (ps := ["chain", "other_chain", "items"]) fun _ _ _ _ _ _ => Ln.len3 fun _ _ _  => rfl
  have Ffd := fun_mk (st := sFD) lfd cfd kfd
  have bfd := Ffd.binds (ps := ["chain", "other_chain"]) fun _ _ _ _ _ _ => Ln.len2 fun _ _  => rfl
  let TF : TxF w K mg := ⟨TS, ⟨_, PySem.W.mg_of X G mMT⟩, ⟨fasp, _, Fasp, basp, PySem.W.mg_of X G aasp, kasp⟩, ⟨ffd, _, Ffd, bfd, PySem.W.mg_of X G afd, kfd⟩⟩
  have Fsip := fun_mk (st := sSip) lsip csip ksip
  have bsip := Fsip.binds (ps := ["_law_jar_here", "_law_many"]) fun _ _ _ _ _ _ => Ln.len2 fun _ _  => rfl
  have Ffrm := fun_mk (st := sFrom) lfrm cfrm kfrm
  have bfrm := Ffrm.binds (ps := ["_law_jar_here", "_law_things"]) fun _ _ _ _ _ _ => Ln.len2 fun _ _  => rfl
  have Fcts := fun_mk (st := sCuts) lcts ccts kcts
  have bcts := Fcts.binds (ps := ["_law_jar_here", "_law_most"]) fun _ _ _ _ _ _ => Ln.len2 fun _ _  => rfl
  have Flin := fun_mk (st := sCLine) llin clin klin
  have blin := Flin.binds (ps := ["_law_cutters_here"]) fun _ _ _ _ _ _ => Ln.len1 fun _  => rfl
  let TAd : TxAd K mg := ⟨⟨PySem.W.mg_none_of X G z_len, PySem.W.mg_none_of X G z_int, PySem.W.mg_none_of X G z_abs, PySem.W.mg_none_of X G z_divmod⟩, PySem.W.mg_none_of X G z_range, PySem.W.mg_none_of X G z_str, ⟨fsip, _, Fsip, bsip, PySem.W.mg_of X G asip, ksip⟩, ⟨ffrm, _, Ffrm, bfrm, PySem.W.mg_of X G afrm, kfrm⟩, ⟨fcts, _, Fcts, bcts, PySem.W.mg_of X G acts, kcts⟩, ⟨flin, _, Flin, blin, PySem.W.mg_of X G alin, klin⟩⟩
  have Flch := fun_mk (st := sLCh) llch clch klch
  have blch := Flch.binds (ps := ["_law_cutters_here"]) fun _ _ _ _ _ _ => Ln.len1 fun _  => rfl
  have Flkn := fun_mk (st := sKn) llkn clkn klkn
  have blkn := Flkn.binds (ps := ["_law_low", "_law_high", "_law_wide"]) fun _ _ _ _ _ _ => Ln.len3 fun _ _ _  => rfl
  have Fsame := fun_mk (st := sSame) lsame csame ksame
  have bsame := Fsame.binds (ps := ["_law_jar_here", "_law_cutters_here"]) fun _ _ _ _ _ _ => Ln.len2 fun _ _  => rfl
  have Fjar := fun_mk (st := sJar) ljar cjar kjar
  have bjar := Fjar.binds (ps := ["_law_script", "_law_k"]) fun _ _ _ _ _ _ => Ln.len2 fun _ _  => rfl
  have Frt := fun_mk (st := sRight) lrt crt krt
  have brt := Frt.binds (ps := ["_law_jar_here"]) fun _ _ _ _ _ _ => Ln.len1 fun _  => rfl
  have Flaw := fun_mk (st := sLaw) llaw claw klaw
  let R : TxR w K mg := ⟨⟨TF, TAd, PySem.W.mg_none_of X G z_repr, PySem.W.mg_none_of X G z_list, ⟨flch, _, Flch, blch, PySem.W.mg_of X G alch, klch⟩, ⟨flkn, _, Flkn, blkn, PySem.W.mg_of X G alkn, klkn⟩⟩, ⟨fsame, _, Fsame, bsame, PySem.W.mg_of X G asame, ksame⟩⟩
  exact ⟨_, [], spLaw K, fun p hp => (nomatch hp), fun p hp => (nomatch hp), fun p hp => (nomatch hp), fun s v => .of_eq rfl, fun H a ns hl _ hS => ⟨a, ns, rfl, hS, hl, fun _ => rfl⟩, fun base _ _ sm _ => ok_law Flaw TAd.J TAd.range (PySem.W.mg_none_of X G z_all) 10 (ok_right Frt R sm) Fjar bjar (PySem.W.mg_of X G ajar) kjar (by decide) brt (PySem.W.mg_of X G art) krt (PySem.W.mg_none_of X G z_max) (PySem.W.mg_none_of X G z_min)⟩
end My
open PySem PySem.W PyProof.Rows in
set_option maxRecDepth 100000 in
set_option maxHeartbeats 0 in
theorem PySem.Challenge.cw_lastshort_k57_chains_written_otherwise_holds : PySem.Challenge.rw_lastshort_k57_chains_written_otherwise.Holds := by
  w_on; o_law; k_head; (case hw => w_witness2)
  k_fill
  refine Gd.walk_ofG (l := PySem.Challenge.rw_lastshort_k57_chains_written_otherwise) (n := 63) (k := 11) (x := "_law_script") rfl (by decide) rfl (by decide +kernel) ⟨rfl, by decide, by decide⟩ (fun w h Y => PySem.W.kIn_of Y) ?F
  case F =>
    intro w mg fa h Y KX G hmg
    refine' My.all_mk KX G hmg ?acs ?lcs ?ccs ?kcs ?awr ?lwr ?cwr ?kwr ?afr ?lfr ?cfr ?kfr ?acr ?lcr ?ccr ?kcr ?atr ?ltr ?ctr ?ktr ?aCIT ?aIT ?iIT ?lIT ?cIT ?kIT ?xIT ?xrIT ?e1IT ?e2IT ?e3IT ?e4IT ?e5IT ?e6IT ?mMW ?mMC ?gdC ?nkcut ?nkfill ?nktail ?dwC ?aco ?lco ?cco ?kco ?aCA ?pgA ?hdA ?poA ?saA ?mkA ?kcA ?nA0 ?nA1 ?aai ?iai ?lai ?cai ?kai ?aCW ?pgW ?hdW ?poW ?saW ?mkW ?kcW ?nW0 ?nW1 ?nW2 ?ari ?iri ?lri ?cri ?kri ?amn ?imn ?lmn ?cmn ?kmn ?aro ?iro ?lro ?cro ?kro ?aiib ?liib ?ciib ?kiib ?aCNC ?aNC ?iNC ?lNC ?cNC ?kNC ?xNC ?xrNC ?e1NC ?e2NC ?e3NC ?e4NC ?e5NC ?e6NC ?ars ?irs ?lrs ?crs ?krs ?acc ?lcc ?ccc ?kcc ?y1A ?y2A ?y3A ?y4A ?y5A ?mMT ?aasp ?lasp ?casp ?kasp ?afd ?lfd ?cfd ?kfd ?asip ?lsip ?csip ?ksip ?afrm ?lfrm ?cfrm ?kfrm ?acts ?lcts ?ccts ?kcts ?alin ?llin ?clin ?klin ?alch ?llch ?clch ?klch ?alkn ?llkn ?clkn ?klkn ?asame ?lsame ?csame ?ksame ?ajar ?ljar ?cjar ?kjar ?art ?lrt ?crt ?krt ?alaw ?llaw ?claw ?klaw ?z_len ?z_str ?z_int ?z_range ?z_tuple ?z_isinstance ?z_sum ?z_bool ?z_abs ?z_divmod ?z_repr ?z_list ?z_all ?z_max ?z_min
    (case acs => k_is)
    (case lcs => k_is)
    (case ccs => k_is)
    (case kcs => k_is)
    (case awr => k_is)
    (case lwr => k_is)
    (case cwr => k_is)
    (case kwr => k_is)
    (case afr => k_is)
    (case lfr => k_is)
    (case cfr => k_is)
    (case kfr => k_is)
    (case acr => k_is)
    (case lcr => k_is)
    (case ccr => k_is)
    (case kcr => k_is)
    (case atr => k_is)
    (case ltr => k_is)
    (case ctr => k_is)
    (case ktr => k_is)
    (case aCIT => k_is)
    (case aIT => k_is)
    (case iIT => k_is)
    (case lIT => k_is)
    (case cIT => k_is)
    (case kIT => k_is)
    (case xIT => k_is)
    (case xrIT => decide +kernel)
    (case e1IT => k_is)
    (case e2IT => k_is)
    (case e3IT => k_is)
    (case e4IT => k_is)
    (case e5IT => k_is)
    (case e6IT => k_is)
    (case mMW => k_is)
    (case mMC => k_is)
    (case gdC => k_is)
    (case nkcut => k_is)
    (case nkfill => k_is)
    (case nktail => k_is)
    (case dwC => kernel_rfl)
    (case aco => k_is)
    (case lco => k_is)
    (case cco => k_is)
    (case kco => k_is)
    (case aCA => k_is)
    (case pgA => k_is)
    (case hdA => k_is)
    (case poA => k_is)
    (case saA => k_is)
    (case mkA => k_is)
    (case kcA => k_is)
    (case nA0 => k_is)
    (case nA1 => k_is)
    (case aai => k_is)
    (case iai => k_is)
    (case lai => k_is)
    (case cai => k_is)
    (case kai => k_is)
    (case aCW => k_is)
    (case pgW => k_is)
    (case hdW => k_is)
    (case poW => k_is)
    (case saW => k_is)
    (case mkW => k_is)
    (case kcW => k_is)
    (case nW0 => k_is)
    (case nW1 => k_is)
    (case nW2 => k_is)
    (case ari => k_is)
    (case iri => k_is)
    (case lri => k_is)
    (case cri => k_is)
    (case kri => k_is)
    (case amn => k_is)
    (case imn => k_is)
    (case lmn => k_is)
    (case cmn => k_is)
    (case kmn => k_is)
    (case aro => k_is)
    (case iro => k_is)
    (case lro => k_is)
    (case cro => k_is)
    (case kro => k_is)
    (case aiib => k_is)
    (case liib => k_is)
    (case ciib => k_is)
    (case kiib => k_is)
    (case aCNC => k_is)
    (case aNC => k_is)
    (case iNC => k_is)
    (case lNC => k_is)
    (case cNC => k_is)
    (case kNC => k_is)
    (case xNC => k_is)
    (case xrNC => decide +kernel)
    (case e1NC => k_is)
    (case e2NC => k_is)
    (case e3NC => k_is)
    (case e4NC => k_is)
    (case e5NC => k_is)
    (case e6NC => k_is)
    (case ars => k_is)
    (case irs => k_is)
    (case lrs => k_is)
    (case crs => k_is)
    (case krs => k_is)
    (case acc => k_is)
    (case lcc => k_is)
    (case ccc => k_is)
    (case kcc => k_is)
    (case y1A => k_is)
    (case y2A => k_is)
    (case y3A => k_is)
    (case y4A => k_is)
    (case y5A => kernel_rfl)
    (case mMT => k_is)
    (case aasp => k_is)
    (case lasp => k_is)
    (case casp => k_is)
    (case kasp => k_is)
    (case afd => k_is)
    (case lfd => k_is)
    (case cfd => k_is)
    (case kfd => k_is)
    (case asip => k_is)
    (case lsip => k_is)
    (case csip => k_is)
    (case ksip => k_is)
    (case afrm => k_is)
    (case lfrm => k_is)
    (case cfrm => k_is)
    (case kfrm => k_is)
    (case acts => k_is)
    (case lcts => k_is)
    (case ccts => k_is)
    (case kcts => k_is)
    (case alin => k_is)
    (case llin => k_is)
    (case clin => k_is)
    (case klin => k_is)
    (case alch => k_is)
    (case llch => k_is)
    (case clch => k_is)
    (case klch => k_is)
    (case alkn => k_is)
    (case llkn => k_is)
    (case clkn => k_is)
    (case klkn => k_is)
    (case asame => k_is)
    (case lsame => k_is)
    (case csame => k_is)
    (case ksame => k_is)
    (case ajar => k_is)
    (case ljar => k_is)
    (case cjar => k_is)
    (case kjar => k_is)
    (case art => k_is)
    (case lrt => k_is)
    (case crt => k_is)
    (case krt => k_is)
    (case alaw => k_is)
    (case llaw => k_is)
    (case claw => k_is)
    (case klaw => k_is)
    (case z_len => k_is)
    (case z_str => k_is)
    (case z_int => k_is)
    (case z_range => k_is)
    (case z_tuple => k_is)
    (case z_isinstance => k_is)
    (case z_sum => k_is)
    (case z_bool => k_is)
    (case z_abs => k_is)
    (case z_divmod => k_is)
    (case z_repr => k_is)
    (case z_list => k_is)
    (case z_all => k_is)
    (case z_max => k_is)
    (case z_min => k_is)
