import PyProof.Rows.All
import Wide.All
import OpenK.AllK
import Wide.FinOn
import HandS.ForMost
import HandS.Codes
import PyProof.InstEq
import HandS.IsInst
import HandS.SlotsOwn
import KE.KCallOwn
import OpenK.KOps
import PyProof.ReprRoads
import HandS.Lambda
import HandS.ExcInit
import HandS.ExcField
import HandS.FStr
import HandS.WordsExc
import KE.KExcIs
import HandS.Style
import HandS.TupLe
import HandS.MakeKwOnly
import HandS.Deep
import PySem.Challenge.RW_lastshort_k01_sources_made
set_option Elab.async false
set_option linter.all false
set_option maxRecDepth 100000
set_option maxHeartbeats 8000000
/-! the draws of the law: jar, sip, from -/
namespace My
open PySem L2
def top (i : Nat) : Stmt := PySem.Challenge.pw_lastshort_k01_sources_made.main.body.getD i (.Pass ⟨0, 0, 0, 0⟩)
abbrev sJar : Stmt := top 11
abbrev sSip : Stmt := top 12
abbrev sFrom : Stmt := top 13
/-! ### heaps -/
/-- all but what stands at j is as it was -/
def Off (j : Addr) (H H' : Hp) : Prop := ∀ b o, b ≠ j → H b = some o → H' b = some o
theorem Off.refl {j : Addr} {H : Hp} : Off j H H := fun _ _ _ e => e
theorem Off.trans {j : Addr} {H H1 H2 : Hp} (a : Off j H H1) (b : Off j H1 H2) : Off j H H2 := fun c o n e => b c o n (a c o n e)
theorem Off.new {j p : Addr} {H H1 : Hp} {o : HO} (a : Off j H H1) (n : H1 p = none) : Off j H (upd H1 p o) := fun b u nb e => by
  rw [upd_ne (ne_of_none (a b u nb e) n)]
  exact a b u nb e
theorem Off.put {j : Addr} {H H1 : Hp} {o : HO} (a : Off j H H1) : Off j H (upd H1 j o) := fun b u nb e => by
  rw [upd_ne nb]
  exact a b u nb e
theorem Off.seq {K : PySem.W.Frag} {j a : Addr} {H H' : Hp} {xs : List V} (e : Off j H H') (n : a ≠ j) (h : SqL K H a xs) : SqL K H' a xs := by
  rcases h with (h | ⟨o, h⟩) | h
  · exact .inl (.inl (e _ _ n h))
  · exact .inl (.inr ⟨o, e _ _ n h⟩)
  · exact .inr h
theorem Off.set {K : PySem.W.Frag} {j a : Addr} {H H' : Hp} {xs : List V} (e : Off j H H') (n : a ≠ j) (h : SqT K H a xs) : SqT K H' a xs := by
  rcases h with (h | ⟨o, h⟩) | h
  · exact .inl (.inl (e _ _ n h))
  · exact .inl (.inr ⟨o, e _ _ n h⟩)
  · exact .inr h
theorem Off.same {j : Addr} {H0 H H' : Hp} (e : Off j H H') (s : Same H0 H) (n : H0 j = none) : Same H0 H' := fun b o q => e b o (fun z => by rw [z, n] at q; cases q) (s b o q)
theorem same_upd {H : Hp} {p : Addr} {o : HO} (h : H p = none) : Same H (upd H p o) := fun b x e => by
  rw [upd_ne (ne_of_none e h)]
  exact e
theorem Same.off {j : Addr} {H H' : Hp} (s : Same H H') : Off j H H' := fun b o _ e => s b o e
/-- a jar: three whole numbers -/
def Jar (H : Hp) (j : Addr) : Prop := ∃ a b c : Int, H j = some (.lst [.int a, .int b, .int c])
theorem Jar.new {H : Hp} {j p : Addr} {o : HO} (a : Jar H j) (n : H p = none) : Jar (upd H p o) j := by
  obtain ⟨x, y, z, h⟩ := a
  exact ⟨x, y, z, by rw [upd_ne (ne_of_none h n)]; exact h⟩
theorem Jar.same {H H' : Hp} {j : Addr} (a : Jar H j) (s : Same H H') : Jar H' j := by
  obtain ⟨x, y, z, h⟩ := a
  exact ⟨x, y, z, s _ _ h⟩
/-! ### promises -/
def spSip : Sp := fun vs H Q _ => ∃ (j : Addr) (m : Int), vs = [.ref j, .int m] ∧ Jar H j ∧ 0 < m ∧ m < 1073741824 ∧
  ∀ (H' : Hp) (d : Int), 0 ≤ d → d < m → Off j H H' → Jar H' j → Q (.int d) H'
def spFrom (K : PySem.W.Frag) : Sp := fun vs H Q _ => ∃ (j p : Addr) (xs : List V), vs = [.ref j, .ref p] ∧ Jar H j ∧ p ≠ j ∧ SqL K H p xs ∧ 0 < xs.length ∧ xs.length < 1073741824 ∧
  ∀ (H' : Hp) (i : Nat) (x : V), xs[i]? = some x → Off j H H' → Jar H' j → Q x H'
def spJar (K : PySem.W.Frag) : Sp := fun vs H Q _ => ∃ (a : Addr) (ns : List Int) (k : Nat), vs = [.ref a, .int k] ∧ SqL K H a (ns.map V.int) ∧ ns.length ≤ 63 ∧
  ∀ (H' : Hp) (j : Addr), Same H H' → H j = none → Jar H' j → Q (.ref j) H'
/-- the built-ins of the draws are still the built-ins -/
structure TxtJ (mg : Str → Option Value) : Prop where
  len : mg "len" = none
  int : mg "int" = none
  abs : mg "abs" = none
  divmod : mg "divmod" = none
section
variable {P : Program} {w : World} {K : PySem.W.Frag} {mg : Str → Option Value} {base : Heap}
theorem scSip : FnScope ["_law_jar_here", "_law_many", "_law_digit"] ["_law_jar_here", "_law_many"] (defScope sSip) := ⟨rfl, rfl, rfl, by decide +kernel, rfl, by decide +kernel, by decide +kernel⟩
theorem ok_sip {f : Addr} {fd : FuncData} (F : Fun K "_law_sip" "_law_sip" sSip f fd) (T : TxtJ mg) : FnOk P w K mg base CX0 1 f fd ["_law_jar_here", "_law_many"] spSip := by
  refine F.ok scSip (fun vs H Q E h => ?_) (fun cdv A outer s H vs Q E hr h => ?_)
  · obtain ⟨j, m, rfl, _⟩ := h
    rfl
  · obtain ⟨j, m, rfl, ⟨a, b, c, hj⟩, m0, m1, k⟩ := h
    refine ⟨_, pss_cons (ps_asg (pe_op op_add (pe_ix ix_list (pv 0) pe_int (fun _ _ => rfl)) pe_int) (pg_sub (pv 0) pe_int set_list))
      (pss_cons (ps_if (pt_cmpR op_gt (pe_ix ix_list (pv 0) pe_int (fun _ _ => rfl)) pe_int (nomark _))
        (pss_cons (ps_asg (pe_callB call_divmod (by rfl) T.divmod (by decide +kernel) (pa_cons (pe_callTy call_int1 (by rfl) T.int (by decide +kernel) (pa_cons (pe_ix ix_list (pv 0) pe_int (fun _ _ => rfl)) pa_nil)) (pa_cons (pv 1) pa_nil)))
            (pg_tup (by rfl) (pgs_cons (pg_sub (pv 0) pe_int set_list) (pgs_cons (pg_name (i := 2) scSip.nd rfl (.inl rfl)) pgs_nil))))
          (pss_one (ps_ret (pv 2)))) pss_nil)
      (pss_cons (ps_asg (pe_op op_mod (pe_callTy call_int1 (by rfl) T.int (by decide +kernel) (pa_cons (pe_op op_add (pe_op op_add (pe_op op_mul (pe_ix ix_list (pv 0) pe_int (fun _ _ => rfl)) pe_int) (pe_op op_mul (pe_ix ix_list (pv 0) pe_int (fun _ _ => rfl)) pe_int))
            (pe_op op_mul (pe_op op_fdiv (pe_ix ix_list (pv 0) pe_int (fun _ _ => rfl)) pe_int) pe_int)) pa_nil)) pe_int) (pg_sub (pv 0) pe_int set_list))
      (pss_one (ps_ret (pe_op op_mod (pe_callTy call_int1 (by rfl) T.int (by decide +kernel) (pa_cons (pe_op op_fdiv (pe_ix ix_list (pv 0) pe_int (fun _ _ => rfl)) pe_int) pa_nil)) (pv 1)))))), ?_⟩
    -- jar[2] = jar[2] + 1
    refine ⟨_, rfl, j, _, 2, _, rfl, rfl, SqL.of hj, rfl, _, _, rfl, rfl, _, rfl, j, _, 2, 2, rfl, rfl, hj, rfl, ?_⟩
    -- if jar[0] > 0
    refine ⟨_, rfl, j, _, 0, _, rfl, rfl, SqL.of upd_same, rfl, _, _, rfl, rfl, _, rfl, ?_⟩
    have o1 : Off j H (upd H j (.lst [.int a, .int b, .int (c + 1)])) := Off.put Off.refl
    refine ite2 (fun _ => ?_) (fun _ => ?_)
    · refine ⟨_, rfl, j, _, 0, _, rfl, rfl, SqL.of upd_same, rfl, .inl ⟨_, rfl, _, rfl, a, m, rfl, ⟨m0, m1⟩, fun p np => ?_⟩⟩
      have npj : p ≠ j := fun e => by
        rw [e, upd_same] at np
        cases np
      refine ⟨p, _, rfl, SqT.of upd_same, rfl, _, _, rfl, _, rfl, j, _, 0, 0, rfl, rfl, (by rw [upd_ne npj.symm]; exact upd_same), rfl, _, _, rfl, rfl, ?_⟩
      refine ⟨_, rfl, ?_⟩
      exact k _ _ (Int.emod_nonneg _ (by omega)) (Int.emod_lt_of_pos _ m0) (Off.put (Off.new o1 np)) ⟨_, _, _, upd_same⟩
    · refine ⟨_, rfl, j, _, 1, _, rfl, rfl, SqL.of upd_same, rfl, _, _, rfl, rfl, .inr (by decide), ?_⟩
      refine ⟨_, rfl, j, _, 2, _, rfl, rfl, SqL.of upd_same, rfl, _, _, rfl, rfl, .inr (by decide), _, _, rfl, rfl, ?_⟩
      refine ⟨_, rfl, j, _, 1, _, rfl, rfl, SqL.of upd_same, rfl, _, _, rfl, rfl, ⟨by decide, by decide⟩, _, _, rfl, rfl, .inr (by decide), _, _, rfl, rfl, .inl ⟨_, rfl, _, _, rfl, rfl, (by show (0 : Int) < 1999999927; decide), ?_⟩⟩
      refine ⟨_, rfl, j, _, 1, 1, rfl, rfl, upd_same, rfl, ?_⟩
      refine ⟨_, rfl, j, _, 1, _, rfl, rfl, SqL.of upd_same, rfl, _, _, rfl, rfl, ⟨by decide, by decide⟩, .inl ⟨_, rfl, _, rfl, _, _, rfl, rfl, m0, ?_⟩⟩
      exact k _ _ (Int.emod_nonneg _ (by omega)) (Int.emod_lt_of_pos _ m0) (Off.put o1) ⟨_, _, _, upd_same⟩

/-! ### from -/
structure TxtS (K : PySem.W.Frag) (mg : Str → Option Value) (fS : Addr) : Prop where
  g : mg "_law_sip" = some (.ref fS)
  k : PySem.W.keepIn K (.ref fS) = true
theorem scFrom : FnScope ["_law_jar_here", "_law_things"] ["_law_jar_here", "_law_things"] (defScope sFrom) := ⟨rfl, rfl, rfl, by decide +kernel, rfl, by decide +kernel, by decide +kernel⟩
theorem ok_from {f fS : Addr} {fd fdS : FuncData} (F : Fun K "_law_from" "_law_from" sFrom f fd) (T : TxtJ mg) (S : TxtS K mg fS) (FS : Fun K "_law_sip" "_law_sip" sSip fS fdS) (bS : Binds K fdS ["_law_jar_here", "_law_many"] []) :
    FnOk P w K mg base CX0 2 f fd ["_law_jar_here", "_law_things"] (spFrom K) := by
  have GS : FnOk P w K mg base CX0 1 fS fdS ["_law_jar_here", "_law_many"] spSip := ok_sip FS T
  refine F.ok scFrom (fun vs H Q E h => ?_) (fun cdv A outer s H vs Q E hr h => ?_)
  · obtain ⟨j, p, xs, rfl, _⟩ := h
    rfl
  · obtain ⟨j, p, xs, rfl, hJ, npj, hS, l0, l1, k⟩ := h
    refine ⟨_, pss_one (ps_ret (pe_ix ix_list (pv 1) (pe_call GS hr rfl S.g S.k bS .nil pass0 (pa_cons (pv 0) (pa_cons (pe_callB call_len_seq (by rfl) T.len PySem.boot_len (pa_cons (pv 1) pa_nil)) pa_nil))) (fun _ _ => rfl))), ?_⟩
    refine ⟨_, rfl, _, rfl, _, rfl, p, xs, rfl, .inl hS, j, _, rfl, hJ, by omega, by omega, fun H' d d0 d1 o J => ?_⟩
    obtain ⟨n, rfl⟩ := Int.eq_ofNat_of_zero_le d0
    have hn : n < xs.length := by omega
    exact ⟨p, xs, _, xs[n], rfl, rfl, o.seq npj hS, atI_nat (List.getElem?_eq_getElem hn), k H' n _ (List.getElem?_eq_getElem hn) o J⟩
/-! ### jar -/
theorem scJar : FnScope ["_law_script", "_law_k", "_law_own", "_law_mixed", "_law_entry"] ["_law_script", "_law_k"] (defScope sJar) := ⟨rfl, rfl, rfl, by decide +kernel, rfl, by decide +kernel, by decide +kernel⟩
theorem int_of_map {ns : List Int} {i : Nat} {y : V} (h : (ns.map V.int)[i]? = some y) : ∃ u, y = V.int u := by
  rw [List.getElem?_map] at h
  cases e : ns[i]? with
  | none =>
    rw [e] at h
    cases h
  | some u =>
    rw [e] at h
    exact ⟨u, (Option.some.inj h).symm⟩
theorem cut_map (ns : List Int) (lo hi : Option Int) : ∃ ms : List Int, cutV (ns.map V.int) lo hi = ms.map V.int :=
  ⟨(ns.drop (HT.sIx (ns.map V.int).length 0 lo)).take (HT.sIx (ns.map V.int).length (ns.map V.int).length hi - HT.sIx (ns.map V.int).length 0 lo), by
    unfold cutV
    rw [List.map_take, List.map_drop]⟩
theorem ok_jar {f : Addr} {fd : FuncData} (F : Fun K "_law_jar" "_law_jar" sJar f fd) (T : TxtJ mg) : FnOk P w K mg base CX0 1 f fd ["_law_script", "_law_k"] (spJar K) := by
  refine F.ok scJar (fun vs H Q E h => ?_) (fun cdv A outer s H vs Q E hr h => ?_)
  · obtain ⟨a, ns, k, rfl, _⟩ := h
    rfl
  · obtain ⟨a, ns, k, rfl, hS, hl, q⟩ := h
    refine ⟨_, C8.pss_cut (ps_set (i := 2) scJar.nd rfl (.inl rfl) (pe_ifExp (pt_cmpR op_lt (pv 1) (pe_callB call_len_seq (by rfl) T.len PySem.boot_len (pa_cons (pv 0) pa_nil)) (nomark _))
          (pe_callTy call_int1 (by rfl) T.int (by decide +kernel) (pa_cons (pe_ix ix_list (pv 0) (pv 1) (fun _ _ => rfl)) pa_nil)) (pe_op op_add (pe_op op_mul pe_int (pv 1)) pe_int)))
      (pss_cons (ps_set (i := 3) scJar.nd rfl (.inl rfl) (pe_op op_add pe_int (pe_op op_mul pe_int (pv 1))))
      (pss_cons (ps_for PassesOwn.never rfl (pi_list (pe_slice sl_list (pv 0) po_none (po_some pe_int))) (pg_name (i := 4) scJar.nd rfl (.inl rfl))
        (pss_one (ps_set (i := 3) scJar.nd rfl (.inl rfl) (pe_op op_mod (pe_callTy call_int1 (by rfl) T.int (by decide +kernel) (pa_cons (pe_op op_add (pe_op op_mul (pv 3) pe_int) (pe_op op_mod (pe_callTy call_int1 (by rfl) T.int (by decide +kernel) (pa_cons (pv 4) pa_nil)) pe_int)) pa_nil)) pe_int))))
      (pss_one (ps_ret (pe_lst (pa_cons (pe_ifExp (PW.pt (pw_or (pt_cmpR op_lt (pv 2) pe_int (nomark _)) (pw_or1 (pt_cmpR op_ge (pv 2) (pe_op op_pow pe_int pe_int) (nomark _))))) (pe_callB call_abs (by rfl) T.abs (by decide +kernel) (pa_cons (pv 2) pa_nil)) pe_int)
        (pa_cons (pe_op op_mod (pe_callTy call_int1 (by rfl) T.int (by decide +kernel) (pa_cons (pe_op op_add (pe_op op_mul (pv 3) pe_int) (pe_op op_mod (pv 2) pe_int)) pa_nil)) pe_int) (pa_cons pe_int pa_nil)))))))), ?_⟩
    refine ⟨fun σ H' => H = H' ∧ ∃ own : Int, σ = [some (.ref a), some (.int k), some (.int own), none, none], ?_, ?_⟩
    · refine ⟨_, rfl, _, rfl, a, _, rfl, .inl hS, _, _, rfl, rfl, _, rfl, ?_⟩
      refine ite2 (fun c => ?_) (fun c => ?_)
      · have hk : k < ns.length := by
          have c' := of_decide_eq_true c
          rw [List.length_map] at c'
          omega
        exact ⟨_, rfl, _, rfl, a, _, _, .int ns[k], rfl, rfl, hS, atI_nat (by rw [List.getElem?_map, List.getElem?_eq_getElem hk]; rfl), .inl ⟨_, rfl, rfl, _, rfl⟩⟩
      · exact ⟨_, rfl, _, _, rfl, rfl, .inl (by decide), _, _, rfl, rfl, rfl, _, rfl⟩
    · rintro _ _ ⟨rfl, own, rfl⟩
      refine ⟨_, rfl, _, _, rfl, rfl, .inl (by decide), _, _, rfl, rfl, ?_⟩
      refine ⟨_, rfl, 13, rfl, a, _, rfl, hS, fun p np => ?_⟩
      obtain ⟨ms, ems⟩ := cut_map ns none (some 13)
      rw [ems]
      refine ⟨p, rfl, ⟨_, SqL.of upd_same⟩, for_list (K := K) (a := p) (xs := ms.map V.int) (fun i σ H' => ∃ (mx : Int) (v : Option V), σ = [some (.ref a), some (.int k), some (.int own), some (.int mx), v] ∧ H' = upd H p (.lst (ms.map V.int)))
        ⟨_, none, rfl, rfl⟩ (fun i σ H' _ ⟨_, _, _, e⟩ => by rw [e]; exact SqL.of upd_same) ?_ ?_⟩
      · rintro i y σ H' hi ⟨mx, v, rfl, rfl⟩
        obtain ⟨u, rfl⟩ := int_of_map hi
        refine ⟨_, rfl, _, _, rfl, rfl, .inr (by decide), ?_⟩
        refine ⟨_, rfl, .inl ⟨_, rfl, _, _, rfl, rfl, (by show (0 : Int) < 1999999927; decide), _, _, rfl, rfl, .inl ⟨_, rfl, _, _, rfl, rfl, (by show (0 : Int) < 1999999927; decide), ?_⟩⟩⟩
        exact ⟨_, _, rfl, rfl⟩
      · rintro σ H' ⟨mx, v, rfl, rfl⟩
        have fin : ∀ (x : Int), tCons (tOp (rI (fun x j => 0 < j) fun i j => V.int (i % j)) (tCB (fun xs H Q => (∃ i, xs = [V.int i] ∧ Q (V.int i) H) ∨ ∃ k, xs = [V.bl k] ∧ Q (V.int (if k = true then 1 else 0)) H)
            (tCons (tOp (rI0 fun i j => V.int (i + j)) (tOp (rI CMul fun i j => V.int (i * j)) (tVar 3) (tC (V.int 5))) (tOp (rI (fun x j => 0 < j) fun i j => V.int (i % j)) (tVar 2) (tC (V.int 1999999927)))) tNil)) (tC (V.int 1999999927)))
          (tCons (tC (V.int 0)) tNil) [some (.ref a), some (.int k), some (.int own), some (.int mx), v] (upd H p (.lst (ms.map V.int))) (fun xs H1 => (V.int x :: xs).length ≤ sizeLine ∧ ∀ p, H1 p = none → Q (.ref p) (upd H1 p (.lst (V.int x :: xs)))) := by
          intro x
          refine ⟨_, rfl, _, _, rfl, rfl, .inr (by decide), _, rfl, _, _, rfl, rfl, (by show (0 : Int) < 1999999927; decide), _, _, rfl, rfl, .inl ⟨_, rfl, _, _, rfl, rfl, (by show (0 : Int) < 1999999927; decide), ?_⟩⟩
          refine ⟨(by show 3 ≤ sizeLine; decide), fun jj nj => ?_⟩
          exact q _ jj (Same.trans (same_upd np) (same_upd nj)) ((same_upd np).free nj) ⟨_, _, _, upd_same⟩
        refine ⟨_, rfl, _, _, rfl, rfl, _, rfl, ?_⟩
        refine ite2 (fun _ => ?_) (fun _ => ?_)
        · refine iteT ?_
          exact ⟨_, rfl, _, rfl, fin _⟩
        · refine ⟨_, rfl, _, _, rfl, rfl, ⟨by decide, by decide, by decide⟩, _, _, rfl, rfl, _, rfl, ?_⟩
          refine ite2 (fun _ => ?_) (fun _ => ?_)
          · exact ⟨_, rfl, _, rfl, fin _⟩
          · exact fin _
end
end My

/-! instances of own classes: ==, != by an own __eq__; str, repr by own defs; bool -/
namespace Own
open PySem PySem.Spec PyProof.Rows L2
section
variable {M : Model} {prog : Program} {w : World} {A : Around} {E : Value → Shared → Prop} {s : Shared} {K : PySem.W.Frag} {x C f : Addr} {ox : Obj} {od : Option Obj} {b tb : Value}
theorem bound_ne {args : List Value} {Q : Option Value → Shared → Prop} (X : K.In s.heap) (I : PySem.W.InstAt s.heap x ox C od) (hn : PySem.W.findIn K (.ref C) "__ne__" = some (some (.builtin "object.__ne__")))
    (h : wpAny M A (call (.builtin "object.__ne__") (.ref x :: args)) (fun v => Q (some v)) E s) : wpAny M A (callSpecialIfBound? (.ref x) "__ne__" args) Q E s := by
  simp only [callSpecialIfBound?, bindSpecialIfBound?]
  refine wpAny_holding (wpAny_bind (wpAny_bind (wpAny_bind (I.type.here ((PySem.W.looks_findIn X hn).here (wpAny_bind (wpAny_askSetting (wpAny_ite ?_))))))))
  have last : wpAny M A (call (.builtin "object.__ne__") ([.ref x] ++ args) >>= fun v => pure (some v)) Q E s := wpAny_bind (wpAny_mono h (fun _ _ z => wpAny_pure z) fun _ _ z => z)
  split
  next => exact wpAny_bind (wpAny_of_eq (F.cmp_object.ne.bind _) (wpAny_pure (by exact last)))
  next => exact wpAny_tryCatch (wpAny_bind (wpAny_of_eq (F.cmp_object.ne.bind _) (wpAny_pure (by exact last))))
/-- object.__ne__ asks the own __eq__ and turns the answer round -/
theorem ne_body {Q : Fin → Shared → Prop} (hu : A.units < cLine) (X : K.In s.heap) (I : PySem.W.InstAt s.heap x ox C od) (hs : PySem.W.findIn K (.ref C) "__eq__" = some (some (.ref f))) (hf : PySem.W.isFn K (.ref f) = true)
    (h : wpAny (model prog w) A (call (.ref f) [.ref x, b]) (fun v s2 => ∃ z, v = .bool z ∧ Q (.done (.ret (.bool (!z)))) s2) E s) : wpAny (model prog w) A (Builtin.«object.__ne__» ⟨[.ref x, b], []⟩) Q E s := by
  unfold Builtin.«object.__ne__»
  refine wpAny_bind (wpAny_of_eq (a := ((Value.ref x : Value), [b])) (by first | rfl | (simp only [slotArgs]; rfl)) ?_)
  refine wpAny_bind (wpAny_cRoomFor hu ?_)
  refine wpAny_bind (m := callSpecialIfBound? (.ref x) (Str.ofString "__eq__") [b]) (PySem.W.ifBound_K X I hs hf (wpAny_mono h (fun r s2 hr => ?_) fun _ _ z => z))
  obtain ⟨z, rfl, hq⟩ := hr
  exact wpAny_bind (m := truthy (.bool z)) (wpAny_truthy_bool (wpAny_pure hq))
theorem ne_rich {Q : Value → Shared → Prop} (hu : A.units + 1 < cLine) (X : K.In s.heap) (I : PySem.W.InstAt s.heap x ox C od) (hm : PySem.W.mroIn K C (.type "object") = some true) (hn : PySem.W.findIn K (.ref C) "__ne__" = some (some (.builtin "object.__ne__")))
    (hs : PySem.W.findIn K (.ref C) "__eq__" = some (some (.ref f))) (hf : PySem.W.isFn K (.ref f) = true) (hb : PySem.W.Looks (model prog w) s.heap (typeOf b) tb) (nf : PySem.W.notFirst K C tb = true)
    (h : wpAny (model prog w) A.in1 (call (.ref f) [.ref x, b]) (fun v s2 => ∃ z, v = .bool z ∧ Q (.bool (!z)) s2) E s) : wpAny (model prog w) A (richCompare .NotEq (.ref x) b) Q E s := by
  have go : wpAny (model prog w) A (tryCompare (.ref x) "__ne__" b) (fun r s2 => ∃ v, r = some v ∧ Q v s2) E s := by
    unfold tryCompare
    refine wpAny_bind (bound_ne X I hn (wpAny_call (codeAny_call_builtin F.cmp_object.ne.plain F.cmpEntry_ne (PySem.W.check_slot F.cmpKind_ne F.cmpSplit_ne (I.type.andThen (PySem.W.looks_mroIn X hm)) (F.cmpArgs_ne _ _) ?_))))
    refine ne_body (by show A.units + 1 < cLine; exact hu) X I hs hf (wpAny_mono h (fun v s2 hv => ?_) fun _ _ z => z)
    obtain ⟨z, rfl, hq⟩ := hv
    exact ⟨z, rfl, wpAny_pure ⟨_, rfl, hq⟩⟩
  unfold richCompare
  simp only [oneThing_ref]
  refine wpAny_holding (wpAny_bind (wpAny_cRoomFor (by omega) (wpAny_bind (I.type.here (wpAny_bind (hb.here ?_))))))
  rw [cmpInfo_NotEq]
  dsimp only
  split
  next q =>
    have e : PySem.W.subIn K tb (.ref C) = some false := (Bool.or_eq_true_iff.mp nf).elim (fun z => by rw [beq_iff_eq.mp z] at q; simp at q) fun z => beq_iff_eq.mp z
    refine wpAny_bind ((PySem.W.looks_subIn X e).here ?_)
    simp only [Bool.false_eq_true, if_false]
    exact wpAny_bind (wpAny_mono go (fun r s2 ⟨v, e1, hq⟩ => by subst e1; exact wpAny_pure hq) fun _ _ z => z)
  next =>
    refine wpAny_bind (wpAny_pure ?_)
    simp only [Bool.false_eq_true, if_false]
    exact wpAny_bind (wpAny_mono go (fun r s2 ⟨v, e1, hq⟩ => by subst e1; exact wpAny_pure hq) fun _ _ z => z)
end
/-- the class at C has its own __eq__ at g, and no more of the kind -/
structure EqC (K : PySem.W.Frag) (C g : Addr) : Prop where
  eq : PySem.W.findIn K (.ref C) "__eq__" = some (some (.ref g))
  ne : PySem.W.findIn K (.ref C) "__ne__" = some (some (.builtin "object.__ne__"))
  fn : PySem.W.isFn K (.ref g) = true
  ob : PySem.W.mroIn K C (.type "object") = some true
section
variable {X : Cx} {C g : Addr} {n : Nat} {sp : Sp}
theorem inst_of {pins : List (Addr × Obj)} {σ : L2.St} {H : Hp} {s : Shared} {a dx : Addr} {fs : List (Str × V)} (I : Inv X pins σ H s) (e : H a = some (.ins C dx fs)) : ∃ (ox : Obj) (od : Option Obj), PySem.W.InstAt s.heap a ox C od := by
  obtain ⟨mA, O, _⟩ := ins_get I.hok e
  obtain ⟨od, J, _⟩ := O.look
  exact ⟨_, _, J⟩
/-- x == y: x an instance of C, y of a class that is not below C -/
def rEqO (K : PySem.W.Frag) (C : Addr) (sp : Sp) : R2 := fun x y H Q => ∃ (a dx : Addr) (fs : List (Str × V)) (t : Value), x = .ref a ∧ H a = some (.ins C dx fs) ∧ TyX K H y t ∧ PySem.W.notFirst K C t = true ∧ sp [x, y] H Q fun _ _ _ => False
def rNeO (K : PySem.W.Frag) (C : Addr) (sp : Sp) : R2 := fun x y H Q => ∃ (a dx : Addr) (fs : List (Str × V)) (t : Value), x = .ref a ∧ H a = some (.ins C dx fs) ∧ TyX K H y t ∧ PySem.W.notFirst K C t = true ∧ sp [x, y] H (fun v H2 => ∃ b, v = .bl b ∧ Q (.bl (!b)) H2) fun _ _ _ => False
theorem op_eqO (c : EqC X.K C g) (F : FnR X.prog X.w X.K X.mg X.base CX0 n g sp) (hr : Room n X.A) : OpR X (compareOp .Eq) (rEqO X.K C sp) := by
  intro pins s σ H x y v u Q I rx ry h
  obtain ⟨a, dx, fs, t, rfl, ha, ty, nf, q⟩ := h
  cases (show v = Value.ref a from rx)
  obtain ⟨ox, od, J⟩ := inst_of I ha
  obtain ⟨m, fr⟩ := I.fr
  obtain ⟨PP, Z, pz, _⟩ := kit_of I ry ty
  show wpAny (model X.prog X.w) X.A (richCompare .Eq (.ref a) u) _ _ s
  refine PySem.W.cmp_K (op := .Eq) hr.units0 fr I.ok.mod.kin J (Z.ty _ _ I.kIn pz) nf c.eq c.fn ?_
  refine wpAny_mono (wpAny_call (run_fnR (us := [.ref a, u]) (vs := [.ref a, y]) F hr pass0 I (.cons rfl (.cons ry .nil)) q)) (fun z s2 hz => ?_) fun _ _ e => e
  obtain ⟨z2, H2, I2, rz, qz⟩ := hz
  exact SlX.cmpback rz ⟨z2, H2, I2, rz, qz⟩
theorem op_neO (c : EqC X.K C g) (F : FnR X.prog X.w X.K X.mg X.base CX0 n g sp) (hr : Room (n + 1) X.A) : OpR X (compareOp .NotEq) (rNeO X.K C sp) := by
  intro pins s σ H x y v u Q I rx ry h
  obtain ⟨a, dx, fs, t, rfl, ha, ty, nf, q⟩ := h
  cases (show v = Value.ref a from rx)
  obtain ⟨ox, od, J⟩ := inst_of I ha
  obtain ⟨PP, Z, pz, _⟩ := kit_of I ry ty
  show wpAny (model X.prog X.w) X.A (richCompare .NotEq (.ref a) u) _ _ s
  refine ne_rich (by have := hr.un; omega) I.kIn J c.ob c.ne c.eq c.fn (Z.ty _ _ I.kIn pz) nf ?_
  refine wpAny_mono (wpAny_call (SlX.run_at (us := [.ref a, u]) (ws := [.ref a, y]) F hr.in1 I.env0.in1 pass0 I (.cons rfl (.cons ry .nil)) q)) (fun z s2 hz => ?_) fun _ _ e => e
  obtain ⟨z2, H2, I2, rz, bb, rfl, qz⟩ := hz
  cases (show z = Value.bool bb from rz)
  exact ⟨bb, rfl, .bl (!bb), H2, I2, rfl, qz⟩
/-- str(x), repr(x): the own def's text -/
def rTxtO (C : Addr) (sp : Sp) : List V → Hp → VK → Prop := fun xs H Q => ∃ (a dx : Addr) (fs : List (Str × V)), xs = [.ref a] ∧ H a = some (.ins C dx fs) ∧ sp [.ref a] H (fun v H2 => ∃ z, v = .str z ∧ Q (.str z) H2) fun _ _ _ => False
theorem call_strO (hs : PySem.W.findIn X.K (.ref C) "__str__" = some (some (.ref g))) (hf : PySem.W.isFn X.K (.ref g) = true) (F : FnR X.prog X.w X.K X.mg X.base CX0 n g sp) (hr : Room (n + 2) X.A) : CallR X (.type "str") (rTxtO C sp) := by
  intro pins s σ H xs us Q I r h
  obtain ⟨a, dx, fs, rfl, ha, q⟩ := h
  obtain ⟨u, rfl, ru⟩ := vals1 r
  cases (show u = Value.ref a from ru)
  obtain ⟨ox, od, J⟩ := inst_of I ha
  have hr1 : Room (n + 1) X.A.in1 := hr.in1
  refine PySem.W.kso_call (by have := hr.un; show X.A.units + 1 + 1 < cLine; omega) I.kIn J hs hf ?_
  refine wpAny_mono (wpAny_call (SlX.run_at (us := [.ref a]) (ws := [.ref a]) F hr1.in1 I.env0.in1.in1 pass0 I (.cons rfl .nil) q)) (fun z s2 hz => ?_) fun _ _ e => e
  obtain ⟨z2, H2, I2, rz, t, rfl, qz⟩ := hz
  obtain ⟨tk, rfl⟩ := (show ∃ tk, z = Value.str t tk from rz)
  exact ⟨.str t, H2, I2, ⟨_, rfl⟩, qz⟩
theorem call_reprO (hs : PySem.W.findIn X.K (.ref C) "__repr__" = some (some (.ref g))) (hf : PySem.W.isFn X.K (.ref g) = true) (F : FnR X.prog X.w X.K X.mg X.base CX0 n g sp) (hr : Room (n + 1) X.A) : CallR X (.builtin "repr") (rTxtO C sp) := by
  intro pins s σ H xs us Q I r h
  obtain ⟨a, dx, fs, rfl, ha, q⟩ := h
  obtain ⟨u, rfl, ru⟩ := vals1 r
  cases (show u = Value.ref a from ru)
  obtain ⟨ox, od, J⟩ := inst_of I ha
  obtain ⟨m, fr⟩ := I.fr
  refine PySem.W.repr_K (by have := hr.un; show X.A.units + 1 < cLine; omega) fr I.ok.mod.kin J hs hf ?_
  refine wpAny_mono (wpAny_call (SlX.run_at (us := [.ref a]) (ws := [.ref a]) F hr.in1 I.env0.in1 pass0 I (.cons rfl .nil) q)) (fun z s2 hz => ?_) fun _ _ e => e
  obtain ⟨z2, H2, I2, rz, t, rfl, qz⟩ := hz
  obtain ⟨tk, rfl⟩ := (show ∃ tk, z = Value.str t tk from rz)
  exact ⟨.str t, H2, I2, ⟨_, rfl⟩, qz⟩
/-- bool(x): no __bool__, no __len__ -/
def rBoolO (C : Addr) : List V → Hp → VK → Prop := fun xs H Q => ∃ (a dx : Addr) (fs : List (Str × V)), xs = [.ref a] ∧ H a = some (.ins C dx fs) ∧ Q (.bl true) H
theorem call_boolO (hb : PySem.W.findIn X.K (.ref C) "__bool__" = some none) (hl : PySem.W.findIn X.K (.ref C) "__len__" = some none) : CallR X (.type "bool") (rBoolO C) := by
  intro pins s σ H xs us Q I r h
  obtain ⟨a, dx, fs, rfl, ha, q⟩ := h
  obtain ⟨u, rfl, ru⟩ := vals1 r
  cases (show u = Value.ref a from ru)
  obtain ⟨ox, od, J⟩ := inst_of I ha
  obtain ⟨m, fr⟩ := I.fr
  have mt : Meets (Builtin.«bool.__new__» ⟨[.type "bool", .ref a], []⟩) (fun _ R st => (∃ m, Fr X.base X.env.locals st.heap m) ∧ PySem.W.InstAt st.heap a ox C od ∧ R (.ok (.ret (.bool true))) st) :=
    Meets.of_wp fun pr wo Ar R st hh => by
      obtain ⟨⟨m2, fr2⟩, J2, hR⟩ := hh
      obtain ⟨hp, gg, dd, tk, os⟩ := st
      have f1 := PySem.F.conv_sub_bool
      repeat (any_goals (first | assumption | (with_reducible refine PySem.W.truthy_K0 fr2 I.ok.mod.kin J2 hb hl ?_) | wp_step))
      all_goals first | exact ⟨_, rfl, hR⟩ | exact hR | skip
  exact call_bool_1 mt ⟨⟨m, fr⟩, J, rfl, .bl true, H, I, rfl, q⟩
end
end Own

/-! defs that are called where no repr is running, and repr of plain data there -/
namespace Gd
open PySem PySem.Spec PyProof.Rows L2
/-- a def's promise, for callers around whom no guard stands -/
structure FnG (P : Program) (w : World) (K : PySem.W.Frag) (mg : Str → Option Value) (base : Heap) (CX : CXT) (k : Nat) (f : Addr) (fd : FuncData) (ps : List Str) (sp : Sp) : Prop where
  len : ∀ vs H Q E, sp vs H Q E → vs.length = ps.length
  run : ∀ (A : Around) (outer : List Env) (s : Shared) (H : Hp) (args : Args) (us : List Value) (vs : List V) (Q : VK) (E : XK), A.guards = some [] → Room k A → Env0 P w K mg base A outer s H → BindsTo s fd args (ps.zip us) → Vals vs us → sp vs H Q E →
    codeAny (model P w) A (.call (.ref f) args) (CR CX outer P w H s Q E) s
section
variable {P : Program} {w : World} {K : PySem.W.Frag} {mg : Str → Option Value} {base : Heap}
/-- the rule of a def, its guards told -/
theorem okG {x qual : Str} {st : Stmt} {f : Addr} {fd : FuncData} {N ps : List Str} {k : Nat} {sp : Sp} (F : Fun K x qual st f fd) (S : FnScope N ps (defScope st)) (len : ∀ vs H Q E, sp vs H Q E → vs.length = ps.length)
    (hbody : ∀ (cdv : Value) (A : Around) (outer : List Env) (s : Shared) (H : Hp) (vs : List V) (Q : VK) (E : XK), K.lookup f ≠ none → PySem.W.codeIn K cdv qual = true → fd.code = cdv → A.guards = some [] → Room k (A.deeper (envOfC qual (defScope st) s.heap.objs.size f cdv)) → sp vs H Q E →
      ∃ t, PSs (cxOf CX0 P w K mg base N qual (defScope st) f cdv A outer s H E).nox (defBody st) t ∧ t { nx := fun _ H' => Q .non H', rt := Q } (L2.start N vs) H) : FnG P w K mg base CX0 (k + 1) f fd ps sp := by
  obtain ⟨oc, od, kV, doc, pm, an, cdv, ct, osl, rfl, lk, hcd⟩ := F.ex
  refine ⟨len, fun A outer s H args us vs Q E hg hr e0 hb r h => ?_⟩
  refine LamX.run_ofS lk hcd S hr e0 hb r (len _ _ _ _ h) fun hr2 => ?_
  obtain ⟨t, h1, q⟩ := hbody cdv A outer s H vs Q E (by rw [lk]; simp) hcd rfl hg hr2 h
  exact ⟨t, h1.nox, q⟩
end
section
variable {X : Cx} {CX : CXT} {k : Nat} {f : Addr} {fd : FuncData} {ps : List Str} {sp : Sp} {E : XK} {x : Str} {p pos : Pos} {e : Expr} {es : List Expr} {t : TA} {ds : List Value} {dvs : List V}
/-- f(e, ..) -/
theorem pe_callG (F : FnG X.prog X.w X.K X.mg X.base CX k f fd ps sp) (hgd : X.A.guards = some []) (hr : Room k X.A) (hg : Gl X x) (hm : X.mg x = some (.ref f)) (hk : PySem.W.keepIn X.K (.ref f) = true) (hb : L2.Binds X.K fd ps ds) (hd : Vals dvs ds) (hx : Passes CX X E) (ha : PA X (e :: es) t)
    (hdb : (x == ("__debug__" : Str)) = false := by decide) (he : starEach (e :: es) X.env = (false, eval e X.env) :: starEach es X.env := by rfl) (hpl : (backTo pos (starEach es X.env)).any (·.1) = false := by rfl) :
    PE X (.Call (.Name x p) (e :: es) [] pos) (tCall sp dvs E t) := by
  refine ⟨fun pins s σ H Q I h => ?_⟩
  refine wpAny_Call_Name_kw (ld_glob I hg hm ?_ hdb)
  refine PySem.W.callWith_K (h₀ := X.base) I.ok.mod.kin hk (thn (ha.run pos pins s σ H _ I h) fun us s1 ⟨vs, H1, I1, r, q⟩ => ⟨I1.kIn, ?_⟩) he hpl
  have r2 : Vals (vs ++ dvs) (us ++ ds) := r.append hd
  have hl : (us ++ ds).length = ps.length := by
    rw [← r2.length]
    exact F.len _ _ _ _ q
  refine wpAny_call (codeAny_mono (F.run X.A X.stack s1 H1 ⟨us, []⟩ (us ++ ds) (vs ++ dvs) Q E hgd hr I1.env0 (hb s1 us I1.kIn hl) r2 q) fun rr s2 hq => ?_)
  match rr, hq with
  | .error er, hq => exact hx pins σ H1 s1 er s2 I1 hq
  | .ok (.ret u), hq => exact I1.after hq
end
/-! ### plain data, all of it tracked -/
mutual
inductive Dq (H : Hp) : V → PyData → Prop
  | non : Dq H .non .none
  | bl (b : Bool) : Dq H (.bl b) (.bool b)
  | int (i : Int) : Dq H (.int i) (.int i)
  | str (x : Str) : Dq H (.str x) (.str x)
  | lst {a : Addr} {xs : List V} {ds : List PyData} : H a = some (.lst xs) → DqA H xs ds → Dq H (.ref a) (.list ds)
  | tup {a : Addr} {xs : List V} {ds : List PyData} : H a = some (.tup xs) → DqA H xs ds → Dq H (.ref a) (.tuple ds)
  | dct {a : Addr} : H a = some (.dK []) → Dq H (.ref a) (.dict [])
inductive DqA (H : Hp) : List V → List PyData → Prop
  | nil : DqA H [] []
  | cons {v : V} {vs : List V} {d : PyData} {ds : List PyData} : Dq H v d → DqA H vs ds → DqA H (v :: vs) (d :: ds)
end
section
variable {X : Cx} {pins : List (Addr × Obj)} {σ : L2.St} {H : Hp} {s : Shared}
mutual
theorem Dq.reads (I : Inv X pins σ H s) : ∀ {v : V} {d : PyData} {u : Value}, Dq H v d → RelV v u → ∃ as, Reads s.heap u d as ∧ ∀ b ∈ as, H b ≠ none
  | _, _, _, .non, r => by
    cases r
    exact ⟨_, .none, fun b h => nomatch h⟩
  | _, _, _, .bl b, r => by
    cases r
    exact ⟨_, .bool b, fun b h => nomatch h⟩
  | _, _, _, .int i, r => by
    obtain ⟨t, rfl⟩ := r
    exact ⟨_, .int i t, fun b h => nomatch h⟩
  | _, _, _, .str x, r => by
    obtain ⟨t, rfl⟩ := r
    exact ⟨_, .str x t, fun b h => nomatch h⟩
  | _, _, _, .lst (a := a) (xs := xs) ha hd, r => by
    cases r
    obtain ⟨_, its, n, rv, e⟩ := (show ObjOk X.prog X.w H s.heap a (.lst xs) from I.hok a _ ha)
    obtain ⟨as, h1, h2⟩ := DqA.reads I hd rv
    refine ⟨_, .list e rfl rfl (by simpa using h1), fun b hb => ?_⟩
    rcases List.mem_cons.mp hb with rfl | hb
    · rw [ha]; simp
    · exact h2 b hb
  | _, _, _, .tup (a := a) (xs := xs) ha hd, r => by
    cases r
    obtain ⟨_, its, rv, o, e, c, n, hn⟩ := (show ObjOk X.prog X.w H s.heap a (.tup xs) from I.hok a _ ha)
    obtain ⟨as, h1, h2⟩ := DqA.reads I hd rv
    exact ⟨_, .tuple e c hn (by simpa using h1), h2⟩
  | _, _, _, .dct (a := a) ha, r => by
    cases r
    obtain ⟨_, _, vs, kv, o, es, ep, e, hx, hdt, _, hes, _⟩ := (show ObjOk X.prog X.w H s.heap a (.dK []) from I.hok a _ ha)
    cases kv
    have e0 : es.toList = [] := by
      generalize es.toList = zs at hes
      cases hes
      rfl
    refine ⟨_, .dict (kvs := []) e hx.1 hdt (by rw [e0]; exact .nil) (by rw [e0]; exact .nil), fun b hb => ?_⟩
    have : b = a := by simpa using hb
    rw [this, ha]; simp
theorem DqA.reads (I : Inv X pins σ H s) : ∀ {vs : List V} {ds : List PyData} {us : List Value}, DqA H vs ds → Vals vs us → ∃ as, ReadsAll s.heap us ds as ∧ ∀ b ∈ as, H b ≠ none
  | _, _, _, .nil, r => by
    cases r
    exact ⟨_, .nil, fun b h => nomatch h⟩
  | _, _, _, .cons hd ht, .cons r rt => by
    obtain ⟨as, h1, h2⟩ := Dq.reads I hd r
    obtain ⟨bs, h3, h4⟩ := DqA.reads I ht rt
    exact ⟨_, .cons h1 h3, fun b hb => (List.mem_append.mp hb).elim (h2 b) (h4 b)⟩
end
end
mutual
theorem Dq.same {H H' : Hp} (s : Same H H') : ∀ {v : V} {d : PyData}, Dq H v d → Dq H' v d
  | _, _, .non => .non
  | _, _, .bl b => .bl b
  | _, _, .int i => .int i
  | _, _, .str x => .str x
  | _, _, .lst ha hd => .lst (s _ _ ha) (DqA.same s hd)
  | _, _, .tup ha hd => .tup (s _ _ ha) (DqA.same s hd)
  | _, _, .dct ha => .dct (s _ _ ha)
theorem DqA.same {H H' : Hp} (s : Same H H') : ∀ {vs : List V} {ds : List PyData}, DqA H vs ds → DqA H' vs ds
  | _, _, .nil => .nil
  | _, _, .cons a b => .cons (Dq.same s a) (DqA.same s b)
end
/-- repr of a list, a tuple or an empty dict of such data -/
def rReprD : List V → Hp → VK → Prop := fun xs H Q => ∃ (a : Addr) (d : PyData), xs = [.ref a] ∧ Dq H (.ref a) d ∧ d.showable = true ∧ d.depth ≤ 64 ∧ d.shown.length ≤ sizeLine ∧ Q (.str d.shown) H
theorem call_reprD {X : Cx} {k : Nat} {ob : Obj} (hg : X.A.guards = some []) (hr : Room k X.A) (sm : X.base.get? sysModules = some ob) : CallR X (.builtin "repr") rReprD := by
  intro pins s σ H xs us Q I r h
  obtain ⟨a, d, rfl, hd, hs, hdep, hz, q⟩ := h
  obtain ⟨u, rfl, ru⟩ := vals1 r
  cases (show u = Value.ref a from ru)
  obtain ⟨as, h1, h2⟩ := hd.reads I (u := .ref a) rfl
  have no : sysModules ∉ as := fun hm => h2 _ hm (I.env0.bs _ _ sm).2
  have hu := hr.un
  refine repr_of_reads' h1 hs (fun _ => no) hg (by omega) (fun _ _ e => e) (fun h' u tk hk => ?_) hz
  exact ⟨.str d.shown, H, I.kept (t' := tk) hk, ⟨_, rfl⟩, q⟩
/-! ### the end of a law, from such a promise -/
/-- at the law's call: the tables, and the script unless the module itself holds it -/
def H0 (K : PySem.W.Frag) (tabs : List Addr) (a : Addr) (u : HO) : Hp := fun b => if b ∈ tabs then some (.tbl #[]) else if b = a ∧ K.lookup a = none then some u else none
theorem H0_tab {K : PySem.W.Frag} {tabs : List Addr} {a b : Addr} {u : HO} (h : b ∈ tabs) : H0 K tabs a u b = some (.tbl #[]) := if_pos h
theorem H0_cases {K : PySem.W.Frag} {tabs : List Addr} {a b : Addr} {u o : HO} (h : H0 K tabs a u b = some o) : (b ∈ tabs ∧ o = .tbl #[]) ∨ (b ∉ tabs ∧ b = a ∧ K.lookup a = none ∧ o = u) := by
  unfold H0 at h
  split at h
  next hb => exact .inl ⟨hb, (Option.some.inj h).symm⟩
  next hb =>
    split at h
    next hc => exact .inr ⟨hb, hc.1, hc.2, (Option.some.inj h).symm⟩
    next => cases h
theorem law_callG {P : Program} {w : World} {K : PySem.W.Frag} {mg mb : Str → Option Value} {k : Nat} {fa a : Addr} {cs : List (Addr × Addr)} {fd : FuncData} {x : Str} {sp : Sp} {st : Shared} {vs : List Value} {ns : List Int}
    (KX : K.In st.heap) (gNs : st.heap.Ns mainGlobals mg) (bNs : st.heap.Ns builtinsNs mb) (bEq : ∀ x : Str, x ≠ "__name__" → mb x = bootBuiltins x) (lim : st.heap.NoLimit) (noG : st.gens = #[])
    (isT : ∀ p ∈ cs, st.heap.get? p.2 = some { cls := .none, data := .fields #[] }) (nK : ∀ p ∈ cs, K.lookup p.2 = none) (isC : ∀ p ∈ cs, PySem.W.CodeHd st.heap p.1 p.2)
    (bMain : ∃ (bm : Addr) (ob : Obj), mg "__builtins__" = some (.ref bm) ∧ bm ≠ builtinsNs ∧ st.heap.get? bm = some ob ∧ ob.cls = .type "module" ∧ ob.dict = some builtinsNs ∧ ob.data = .plain)
    (scr : st.heap.get? a = some { cls := .type "list", data := .seq vs.toArray }) (intsA : IntsAre vs ns) (few : ns.length ≤ sizeLine) (room : Room k callerA)
    (mods : ∃ mm, st.heap.Ns sysModules mm)
    (F : ∀ base : Heap, K.In base → base.Ns mainGlobals mg → (∃ ob, base.get? sysModules = some ob) → (∀ p ∈ cs, LamX.TabB base mg p.1 p.2) → FnG P w K mg base CX0 k fa fd [x] sp) (bind : ∀ (s : Shared) (u : Value), BindsTo s fd ⟨[u], []⟩ [(x, u)])
    (hsp : ∀ H : Hp, (∀ p ∈ cs, H p.2 = some (.tbl #[])) → SqL K H a (ns.map V.int) → sp [.ref a] H (fun v _ => v = .bl true) fun _ _ _ => False) :
    codeAny (model P w) callerA (.call (.ref fa) ⟨[.ref a], []⟩) (fun r s2 => r = .ok (.ret (.bool true)) ∧ OldK st.heap s2.heap ∧ s2.os = st.os ∧ AllBare s2.gens) st := by
  have vals := vals_ints intsA
  have tabAt : ∀ b ∈ cs.map (·.2), st.heap.get? b = some { cls := .none, data := .fields #[] } := fun b hb => by
    obtain ⟨p, hp, rfl⟩ := List.mem_map.mp hb
    exact isT p hp
  generalize hu : (HO.frz { cls := .type "list", data := .seq vs.toArray } (.lst (ns.map V.int))) = u
  generalize hH : H0 K (cs.map (·.2)) a u = H
  have tabH : ∀ p ∈ cs, H p.2 = some (.tbl #[]) := fun p hp => by
    rw [← hH]
    exact H0_tab (List.mem_map.mpr ⟨p, hp, rfl⟩)
  have what : ∀ b o, H b = some o → (b ∈ cs.map (·.2) ∧ o = .tbl #[]) ∨ (b ∉ cs.map (·.2) ∧ b = a ∧ K.lookup a = none ∧ o = u) := fun b o e => by
    rw [← hH] at e
    exact H0_cases e
  have held : HOk P w H st.heap := fun b o e => by
    rcases what b o e with ⟨h1, rfl⟩ | ⟨_, rfl, _, rfl⟩
    · exact tabAt b h1
    · rw [← hu]
      exact ⟨scr, by rw [List.length_map]; exact few, vs, _, vals, scr⟩
  have seen : SqL K H a (ns.map V.int) := by
    cases hk : K.lookup a with
    | some o =>
      have e := KX a o hk
      rw [scr] at e
      cases e
      exact .inr ⟨_, vs.toArray, _, hk, rfl, rfl, rfl, by rw [List.size_toArray, intsA.length]; exact few, by simpa using vals⟩
    | none =>
      refine .inl (.inr ⟨{ cls := .type "list", data := .seq vs.toArray }, ?_⟩)
      have nt : a ∉ cs.map (·.2) := fun z => by
        have q := tabAt a z
        rw [scr] at q
        cases congrArg Obj.data (Option.some.inj q)
      rw [← hH, ← hu]
      exact (if_neg nt).trans (if_pos ⟨rfl, hk⟩)
  -- what is neither a list nor an empty table is not tracked
  have untracked : ∀ {b : Addr} {o : Obj}, st.heap.get? b = some o → (∀ us m, o.data ≠ .seq us m) → o.data ≠ .fields #[] → H b = none := fun {b o} e h1 h2 => by
    cases q : H b with
    | none => rfl
    | some z =>
      rcases what b z q with ⟨hb, _⟩ | ⟨_, rfl, _⟩
      · rw [tabAt b hb] at e
        exact absurd (congrArg Obj.data (Option.some.inj e)).symm h2
      · rw [scr] at e
        exact absurd (congrArg Obj.data (Option.some.inj e)).symm (h1 _ _)
  have stays : ∀ {b : Addr} {o : Obj}, st.heap.get? b = some o → (∀ us m, o.data ≠ .seq us m) → o.data ≠ .fields #[] → (hidT st.heap H).get? b = some o := fun e h1 h2 => hidT_get e (untracked e h1 h2)
  have names : ∀ {b : Addr} {m : Str → Option Value}, st.heap.Ns b m → (hidT st.heap H).Ns b m := fun ⟨o, es, ep, e, dt, r⟩ =>
    ⟨o, es, ep, stays e (fun _ _ z => by rw [dt] at z; cases z) (fun z => by rw [dt] at z; cases z), dt, r⟩
  have inB : K.In (hidT st.heap H) := fun b o e => hidT_get (KX b o e) (by
    cases q : H b with
    | none => rfl
    | some z =>
      rcases what b z q with ⟨hb, _⟩ | ⟨_, rfl, hn, _⟩
      · obtain ⟨p, hp, rfl⟩ := List.mem_map.mp hb
        rw [nK p hp] at e
        cases e
      · rw [hn] at e
        cases e)
  obtain ⟨mc, lim1, lim2⟩ := lim
  have modu : L2.Mod K mg (hidT st.heap H) := ⟨inB, names gNs, ⟨mb, names bNs, bEq⟩, ⟨mc, names lim1, lim2⟩⟩
  have tabB : ∀ p ∈ cs, LamX.TabB (hidT st.heap H) mg p.1 p.2 := fun p hp => by
    have atP := isT p hp
    refine { code := ?_, bm := ?_, gP := fun z => ?_ }
    · obtain ⟨o, us, file, tf, flags, tg, inF, text, tt, e1, r1, r2, r3, r4⟩ := isC p hp
      exact ⟨o, us, file, tf, flags, tg, inF, text, tt, stays e1 (fun _ _ z => by rw [r2] at z; cases z) (fun z => by rw [r2] at z; cases z; simp at r3), r1, r2, r3, r4⟩
    · obtain ⟨bm, ob, b1, b2, b3, b4, b5, b6⟩ := bMain
      refine ⟨bm, ob, b1, b2, fun z => ?_, fun z => ?_, stays b3 (fun _ _ z => by rw [b6] at z; cases z) (fun z => by rw [b6] at z; cases z), b4, b5, b6⟩
      · obtain ⟨o, es, ep, e, dt, _⟩ := gNs
        rw [z, e] at b3
        cases b3
        rw [dt] at b6
        cases b6
      · rw [z, atP] at b3
        cases b3
        cases b6
    · obtain ⟨o, es, ep, e, dt, _⟩ := gNs
      rw [z, atP] at e
      cases e
      cases dt
  have env : Env0 P w K mg (hidT st.heap H) callerA [] st H := ⟨rfl, modu, fun b o e => of_hidT e, Nat.le_of_eq (hidT_size _ _), trivial, (fun b hb => absurd (show b ∈ ([] : List Addr) from hb) (by simp)), held, .of_eq noG⟩
  have hm : ∃ ob, (hidT st.heap H).get? sysModules = some ob := by
    obtain ⟨mm, hm⟩ := mods
    obtain ⟨o, es, ep, e, _⟩ := names hm
    exact ⟨o, e⟩
  refine codeAny_mono ((F _ inB (names gNs) hm tabB).run callerA [] st H ⟨[.ref a], []⟩ [.ref a] [.ref a] _ _ rfl room env (bind st (.ref a)) (.cons rfl .nil) (hsp H tabH seen)) fun r s2 h => ?_
  match r, h with
  | .error e, h => exact (show False from h).elim
  | .ok (.ret z), h =>
    obtain ⟨v, H2, os2, bare, un, held2, rz, q⟩ := h
    cases (show v = .bl true from q)
    cases (show z = Value.bool true from rz)
    have kept : ∀ b o, b ∉ cs.map (·.2) → st.heap.get? b = some o → s2.heap.get? b = some o := fun b o nb e => by
      cases q : H b with
      | none => exact un.keep b o e q (fun z => absurd (show b ∈ ([] : List Addr) from z) (by simp)) (by simp)
      | some y =>
        rcases what b y q with ⟨hb, _⟩ | ⟨_, rfl, _, rfl⟩
        · exact absurd hb nb
        · rw [← hu] at q
          have e1 := (held2 _ _ (un.frzs _ _ _ q)).1
          rw [scr] at e
          cases e
          exact e1
    have grew : ∀ p ∈ cs, ∃ more : Array Value, s2.heap.get? p.2 = some { cls := .none, data := .fields more } := fun p hp => by
      obtain ⟨more, z⟩ := un.tbls p.2 #[] (tabH p hp)
      exact ⟨_, held2 p.2 _ z⟩
    refine ⟨rfl, ⟨fun b o e => ?_, fun b o e => ?_⟩, os2, bare⟩
    · by_cases hb : b ∈ cs.map (·.2)
      · obtain ⟨p, hp, rfl⟩ := List.mem_map.mp hb
        obtain ⟨more, hm⟩ := grew p hp
        rw [isT p hp] at e
        cases e
        exact .inr (.inl ⟨((isC p hp).tab (isT p hp)).isCodeTable, rfl, #[], more, rfl, by rw [Array.empty_append]; exact hm⟩)
      · exact .inl (kept b o hb e)
    · by_cases hb : b ∈ cs.map (·.2)
      · obtain ⟨p, hp, rfl⟩ := List.mem_map.mp hb
        obtain ⟨more, hm⟩ := grew p hp
        exact ⟨_, hm⟩
      · exact ⟨o, kept b o hb e⟩
/-- what the law's def promises where the head has ended -/
def LawG (l : PySem.W.OpenLaw) (w : World) (K : PySem.W.Frag) (k n : Nat) (x : Str) (mg : Str → Option Value) (fa : Addr) (h : Heap) : Prop :=
  ∃ (fd : FuncData) (cs : List (Addr × Addr)) (sp : Sp), (∀ p ∈ cs, h.get? p.2 = some { cls := .none, data := .fields #[] }) ∧ (∀ p ∈ cs, K.lookup p.2 = none) ∧ (∀ p ∈ cs, PySem.W.CodeHd h p.1 p.2) ∧ (∀ (s : Shared) (u : Value), BindsTo s fd ⟨[u], []⟩ [(x, u)]) ∧
    (∀ (H : Hp) (a : Addr) (ns : List Int), ns.length ≤ n → (∀ p ∈ cs, H p.2 = some (.tbl #[])) → SqL K H a (ns.map V.int) → sp [.ref a] H (fun v _ => v = .bl true) fun _ _ _ => False) ∧
    ∀ base : Heap, K.In base → base.Ns mainGlobals mg → (∃ ob, base.get? sysModules = some ob) → (∀ p ∈ cs, LamX.TabB base mg p.1 p.2) → FnG l.prog w K mg base CX0 k fa fd [x] sp
theorem walk_ofG {l : PySem.W.OpenLaw} {n k : Nat} {q : Program} {loose : List Str} {XP : (Str → Option Value) → Heap → Prop} {YP : World → Heap → Prop} {d : DefRec} {K : Params → PySem.W.Frag} {x : Str}
    (hn : l.most = some n) (hn2 : n ≤ sizeLine) (hdf : d.params.defaults = []) (hi : importsNone q = true) (hr : Room k callerA) (hY : ∀ (w : World) (h : Heap), YP w h → (K w.params).In h)
    (F : ∀ (w : World) (mg : Str → Option Value) (fa : Addr) (h : Heap), YP w h → (K w.params).In h → h.Ns mainGlobals mg → mg d.name = some (.ref fa) → LawG l w (K w.params) k n x mg fa h) :
    PySem.W.WalkO q loose XP YP l.row.toRowW d [] (fun f vs => PySem.call f vs) := by
  refine Att.attach_call hn hdf fun w t0 t1 mg mb fa o pm cd doc a vs ns gr y1 ho hd hcd hmg hobj hints hlen hgen => ?_
  obtain ⟨fd, cs, sp, c1, c2, c3, c4, c5, c6⟩ := F w mg fa _ y1 (hY w _ y1) gr.T.g hmg
  exact law_callG (hY w _ y1) gr.T.g gr.T.b gr.T.builtins gr.T.nolimit hgen c1 c2 c3 gr.T.bmain hobj hints (Nat.le_trans hlen hn2) hr (let ⟨mm, hm, _⟩ := (gr.T.seer hi).mods; ⟨mm, hm⟩) c6 c4 fun H tabs sq => c5 H a ns hlen tabs sq
end Gd

namespace My
open PySem L2
abbrev sEI : Stmt := inClass (top 3) 0
abbrev sCW : Stmt := top 8
abbrev sInit : Stmt := inClass (top 9) 0
abbrev sEq : Stmt := inClass (top 9) 1
abbrev sStr : Stmt := inClass (top 9) 2
abbrev sRepr : Stmt := inClass (top 9) 3
theorem dI (a b : Int) : decide (V.int a = V.int b) = decide (a = b) := decide_eq_decide.mpr ⟨fun z => by cases z; rfl, fun z => by rw [z]⟩
theorem dS (a b : Str) : decide (V.str a = V.str b) = decide (a = b) := decide_eq_decide.mpr ⟨fun z => by cases z; rfl, fun z => by rw [z]⟩
theorem dB (a b : Bool) : decide (V.bl a = V.bl b) = decide (a = b) := decide_eq_decide.mpr ⟨fun z => by cases z; rfl, fun z => by rw [z]⟩
/-! ### words and what is no word -/
def isS : V → Bool
  | .str _ => true
  | _ => false
/-- this value is one of these words -/
def okW (x : V) (xs : List V) : Bool := isS x && inV x xs
def wsA : List V := [.str "exact", .str "short"]
def wsP : List V := [.str "prompt", .str "waiting"]
def wsE : List V := [.str "empty", .str "with", .str "behind"]
/-- its type is told -/
def Typed (K : PySem.W.Frag) (H : Hp) (x : V) : Prop := ∃ t, TyX K H x t ∧ PySem.W.kitOne K t (.type "str") = some (isS x)
theorem TyX_same {K : PySem.W.Frag} {H H' : Hp} (s : Same H H') {x : V} {t : Value} (h : TyX K H x t) : TyX K H' x t := by
  cases h with
  | base b =>
    refine .base ?_
    cases b with
    | non => exact .non
    | bl x => exact .bl x
    | int i => exact .int i
    | str x => exact .str x
    | flt x => exact .flt x
    | lst e => exact .lst (s _ _ e)
    | frz e => exact .frz (s _ _ e)
    | tup e => exact .tup (s _ _ e)
    | dK e => exact .dK (s _ _ e)
    | dT e => exact .dT (s _ _ e)
    | ins e a b c d f => exact .ins (s _ _ e) a b c d f
  | byt b => exact .byt b
  | set e => exact .set (s _ _ e)
  | kList e c => exact .kList e c
  | kTuple e c => exact .kTuple e c
  | kDict e c => exact .kDict e c
  | fTuple e => exact .fTuple (s _ _ e)
  | fDict e => exact .fDict (s _ _ e)
theorem Typed.same {K : PySem.W.Frag} {H H' : Hp} (s : Same H H') {x : V} (h : Typed K H x) : Typed K H' x := let ⟨t, a, b⟩ := h; ⟨t, TyX_same s a, b⟩
/-! ### the error -/
/-- what the text says of InvalidWord, at CE, its __init__ at fE -/
structure TxtE (K : PySem.W.Frag) (mg : Str → Option Value) (CE fE : Addr) : Prop where
  g : mg "InvalidWord" = some (.ref CE)
  o : OexC K CE
  i : PySem.W.findIn K (.ref CE) "__init__" = some (some (.ref fE))
  t : PySem.W.typeIn K (.ref fE) = some (.type "function")
  n : PySem.W.findIn K (.ref CE) "value" = some none
section
variable {P : Program} {w : World} {K : PySem.W.Frag} {mg : Str → Option Value} {base : Heap} {CE fE : Addr}
def spEI (CE : Addr) : Sp := fun vs H Q _ => ∃ (a : Addr) (v : V), vs = [.ref a, v] ∧ H a = some (exo a CE none) ∧ ∀ dx, H dx = none → dx ≠ a → Q .non (upd (upd H dx (exd dx [("value", v)])) a (exo a CE (some dx)))
theorem scEI : FnScope ["self", "value"] ["self", "value"] (defScope sEI) := ⟨rfl, rfl, rfl, by decide +kernel, rfl, by decide +kernel, by decide +kernel⟩
theorem ok_ei {f : Addr} {fd : FuncData} (F : Fun K "__init__" "InvalidWord.__init__" sEI f fd) (T : TxtE K mg CE fE) : FnOk P w K mg base CX0 1 f fd ["self", "value"] (spEI CE) := by
  refine F.ok scEI (fun vs H Q E h => ?_) (fun cdv A outer s H vs Q E hr h => ?_)
  · obtain ⟨a, v, rfl, _⟩ := h
    rfl
  · obtain ⟨a, v, rfl, ha, k⟩ := h
    refine ⟨_, pss_one (ps_ost (pv 0) (pv 1)), ?_⟩
    exact ⟨_, rfl, _, rfl, a, CE, rfl, T.o, T.n, .inl ⟨ha, fun dx n ne => k dx n ne⟩⟩
/-- raise InvalidWord(x), as its making is read -/
theorem mk_word {ta : TA} {σ : St} {H : Hp} {Q : XK} {x : V} (h : ta σ H fun vs H1 => vs = [x] ∧ H1 = H) (mono : ∀ {R R' : List V → Hp → Prop}, ta σ H R → (∀ v H1, R v H1 → R' v H1) → ta σ H R')
    (q : ∀ d, H d = none → Q (.ref CE) (some d) (upd H d (.xd [("value", x)]))) : tMkO CE (spEI CE) [] ta σ H Q := by
  refine mono h fun vs H1 hh => ?_
  obtain ⟨rfl, rfl⟩ := hh
  refine ⟨by show 1 ≤ 1000; decide, fun a na => ⟨a, x, rfl, upd_same, fun dx ndx nda => ⟨rfl, dx, [("value", x)], upd_same, ?_, ?_, ?_⟩⟩⟩
  · rw [upd_ne nda, upd_same]
  · rw [upd_ne nda] at ndx
    exact ndx
  · have e : upd (del (upd (upd (upd H1 a (exo a CE none)) dx (exd dx [("value", x)])) a (exo a CE (some dx))) a) dx (.xd [("value", x)]) = upd H1 dx (.xd [("value", x)]) := by
      funext b
      by_cases h1 : b = dx
      · rw [h1, upd_same, upd_same]
      · rw [upd_ne h1, upd_ne h1]
        by_cases h2 : b = a
        · rw [h2, del_same, na]
        · rw [del_ne h2, upd_ne h2, upd_ne h1, upd_ne h2]
    rw [e]
    rw [upd_ne nda] at ndx
    exact q dx ndx
/-! ### check_word -/
structure TxtW (K : PySem.W.Frag) (mg : Str → Option Value) (C pA pP pE fCW : Addr) : Prop where
  isi : mg "isinstance" = none
  str : mg "str" = none
  gA : mg "AMOUNTS" = some (.ref pA)
  gP : mg "PATIENCES" = some (.ref pP)
  gE : mg "ENDS" = some (.ref pE)
  lA : ∀ H, SqT K H pA wsA
  lP : ∀ H, SqT K H pP wsP
  lE : ∀ H, SqT K H pE wsE
  gCW : mg "check_word" = some (.ref fCW)
  kCW : PySem.W.keepIn K (.ref fCW) = true
  gC : mg "Source" = some (.ref C)
  cl : Cls K C
  nA : NoAttr K C "amount"
  nP : NoAttr K C "patience"
  nE : NoAttr K C "end"
  c1 : PySem.W.findIn K (.ref C) "__class__" = some (some (.builtin "object.__class__"))
  c2 : PySem.W.specialIn K (.builtin "object.__class__") "__get__" = some (some (.builtin "getset_descriptor.__get__"))
  c3 : PySem.W.takesIn K (.builtin "object.__class__") = some true
  c4 : PySem.W.mroIn K C (.type "object") = some true
  k1 : PySem.W.kitOne K (.ref C) (.ref C) = some true
  k2 : PySem.W.kitOne K (.type "str") (.ref C) = some false
  k3 : PySem.W.kitOne K (.type "tuple") (.ref C) = some false
  s2 : PySem.W.subIn K (.type "str") (.ref C) = some false
  s3 : PySem.W.subIn K (.type "tuple") (.ref C) = some false
variable {C pA pP pE fCW : Addr}
def spCW (K : PySem.W.Frag) (CE : Addr) : Sp := fun vs H Q E => ∃ (x : V) (p : Addr) (xs : List V), vs = [x, .ref p] ∧ SqT K H p xs ∧ xs.all flatV = true ∧ Typed K H x ∧
  (okW x xs = true → Q .non H) ∧ (okW x xs = false → ∀ d, H d = none → E (.ref CE) (some d) (upd H d (.xd [("value", x)])))
theorem scCW : FnScope ["word", "words"] ["word", "words"] (defScope sCW) := ⟨rfl, rfl, rfl, by decide +kernel, rfl, by decide +kernel, by decide +kernel⟩
theorem ok_cw {f : Addr} {fd fdE : FuncData} (F : Fun K "check_word" "check_word" sCW f fd) (T : TxtW K mg C pA pP pE fCW) (TE : TxtE K mg CE fE) (FE : Fun K "__init__" "InvalidWord.__init__" sEI fE fdE) (bE : Binds K fdE ["self", "value"] []) :
    FnOk P w K mg base (L2.CX P w) 3 f fd ["word", "words"] (spCW K CE) := by
  have GE : FnOk P w K mg base CX0 1 fE fdE ["self", "value"] (spEI CE) := ok_ei FE TE
  refine F.okX scCW (fun vs H Q E h => ?_) (fun cdv A outer s H vs Q E hr h => ?_)
  · obtain ⟨x, p, xs, rfl, _⟩ := h
    rfl
  · obtain ⟨x, p, xs, rfl, hp, hf, ⟨t, ty, kt⟩, k1, k2⟩ := h
    refine ⟨_, pss_one (ps_if (PW.pt (pw_or (pt_not (pt_val (pe_callB call_isi (by rfl) T.isi (by decide +kernel) (pa_cons (pv 0) (pa_cons (pe_bltn (v := .ty "str") (by rfl) T.str (by decide +kernel) rfl) pa_nil)))))
          (pw_or1 (pt_cmpR op_notIn_seq (pv 0) (pv 1) (by rfl))))) (pss_one (ps_raise rfl (takes_of rfl rfl rfl rfl) (pmk_oex TE.o TE.i TE.t GE hr bE .nil pass0 rfl TE.g (pa_cons (pv 0) pa_nil)))) pss_nil), ?_⟩
    have way : okW x xs = false → tMkO CE (spEI CE) [] (tCons (tVar 0) tNil) (L2.start ["word", "words"] [x, .ref p]) H (fun cls d H' => E cls d H') := fun e =>
      mk_word (x := x) ⟨x, rfl, rfl, rfl⟩ (fun {R R'} ⟨v, e1, q⟩ f => ⟨v, e1, f _ _ q⟩) (k2 e)
    refine ⟨_, rfl, _, _, _, _, isS x, rfl, .ty "str", ty, kt, _, rfl, ?_⟩
    cases hx : isS x with
    | false =>
      refine iteT (iteT ?_)
      exact way (by unfold okW; rw [hx]; rfl)
    | true =>
      refine iteF ?_
      have fx : flatV x = true := by
        cases x <;> first | rfl | cases hx
      refine ⟨_, rfl, _, rfl, p, xs, rfl, .inr hp, fx, hf, _, rfl, ?_⟩
      cases hi : inV x xs with
      | true => exact iteF (k1 (by unfold okW; rw [hx, hi]; rfl))
      | false => exact iteT (way (by unfold okW; rw [hx, hi]; rfl))
end
end My

namespace My
open PySem L2
/-! ### the fields -/
def sf (A B E : V) : List (Str × V) := putF "end" E (putF "patience" B (putF "amount" A []))
theorem sf_am (A B E : V) : (sf A B E).lookup ("amount" : Str) = some A := by
  unfold sf
  rw [lookup_putF, if_neg (by decide +kernel), lookup_putF, if_neg (by decide +kernel), lookup_putF, if_pos rfl]
theorem sf_pa (A B E : V) : (sf A B E).lookup ("patience" : Str) = some B := by
  unfold sf
  rw [lookup_putF, if_neg (by decide +kernel), lookup_putF, if_pos rfl]
theorem sf_en (A B E : V) : (sf A B E).lookup ("end" : Str) = some E := by
  unfold sf
  rw [lookup_putF, if_pos rfl]
theorem putF_len (f : Str) (v : V) : ∀ fs : List (Str × V), (putF f v fs).length ≤ fs.length + 1
  | [] => Nat.le_refl _
  | (g, x) :: r => by
    unfold putF
    by_cases h : g = f
    · rw [if_pos h]
      exact Nat.le_succ _
    · rw [if_neg h]
      exact Nat.succ_le_succ (putF_len f v r)
/-- a kind of sources with these three words stands at o -/
def Src (C : Addr) (H : Hp) (o : Addr) (A B E : Str) : Prop := ∃ dx, H o = some (.ins C dx (sf (.str A) (.str B) (.str E)))
theorem Src.same {C : Addr} {H H' : Hp} {o : Addr} {A B E : Str} (s : Same H H') (h : Src C H o A B E) : Src C H' o A B E := let ⟨dx, e⟩ := h; ⟨dx, s _ _ e⟩
section
variable {P : Program} {w : World} {K : PySem.W.Frag} {mg : Str → Option Value} {base : Heap} {CE fE C pA pP pE fCW : Addr}
/-! ### __init__ -/
def spInit (K : PySem.W.Frag) (C CE : Addr) : Sp := fun vs H Q E => ∃ (x dx : Addr) (a b e : V), vs = [.ref x, a, b, e] ∧ H x = some (.ins C dx []) ∧ Typed K H a ∧ Typed K H b ∧ Typed K H e ∧
  (okW a wsA = true → okW b wsP = true → okW e wsE = true → ∀ H' : Hp, (∀ z o, z ≠ x → H z = some o → H' z = some o) → H' x = some (.ins C dx (sf a b e)) → Q .non H') ∧
  (okW a wsA = false → ∀ d, H d = none → E (.ref CE) (some d) (upd H d (.xd [("value", a)]))) ∧
  (okW a wsA = true → okW b wsP = false → ∀ d, H d = none → E (.ref CE) (some d) (upd H d (.xd [("value", b)]))) ∧
  (okW a wsA = true → okW b wsP = true → okW e wsE = false → ∀ d, H d = none → E (.ref CE) (some d) (upd H d (.xd [("value", e)])))
theorem scInit : FnScope ["self", "amount", "patience", "end"] ["self", "amount", "patience", "end"] (defScope sInit) := ⟨rfl, rfl, rfl, by decide +kernel, rfl, by decide +kernel, by decide +kernel⟩
theorem ok_init {f : Addr} {fd fd1 fdE : FuncData} (F : Fun K "__init__" "Source.__init__" sInit f fd) (T : TxtW K mg C pA pP pE fCW) (TE : TxtE K mg CE fE) (F1 : Fun K "check_word" "check_word" sCW fCW fd1) (b1 : Binds K fd1 ["word", "words"] []) (FE : Fun K "__init__" "InvalidWord.__init__" sEI fE fdE) (bE : Binds K fdE ["self", "value"] []) :
    FnOk P w K mg base (L2.CX P w) 4 f fd ["self", "amount", "patience", "end"] (spInit K C CE) := by
  have G1 : FnOk P w K mg base (L2.CX P w) 3 fCW fd1 ["word", "words"] (spCW K CE) := ok_cw F1 T TE FE bE
  refine F.okX scInit (fun vs H Q E h => ?_) (fun cdv A outer s H vs Q E hr h => ?_)
  · obtain ⟨x, dx, a, b, e, rfl, _⟩ := h
    rfl
  · obtain ⟨x, dx, a, b, e, rfl, hx, ta, tb, te, k0, k1, k2, k3⟩ := h
    refine ⟨_, pss_cons (ps_expr (pe_call (E := E) G1 hr rfl T.gCW T.kCW b1 .nil (passes_call (takes_of rfl rfl rfl rfl) fun _ _ _ _ z => z) (pa_cons (pv 1) (pa_cons (pe_glob (v := .ref pA) rfl T.gA rfl) pa_nil))))
      (pss_cons (ps_expr (pe_call (E := E) G1 hr rfl T.gCW T.kCW b1 .nil (passes_call (takes_of rfl rfl rfl rfl) fun _ _ _ _ z => z) (pa_cons (pv 2) (pa_cons (pe_glob (v := .ref pP) rfl T.gP rfl) pa_nil))))
      (pss_cons (ps_expr (pe_call (E := E) G1 hr rfl T.gCW T.kCW b1 .nil (passes_call (takes_of rfl rfl rfl rfl) fun _ _ _ _ z => z) (pa_cons (pv 3) (pa_cons (pe_glob (v := .ref pE) rfl T.gE rfl) pa_nil))))
      (pss_cons (ps_fld (pv 0) (pv 1) rfl) (pss_cons (ps_fld (pv 0) (pv 2) rfl) (pss_one (ps_fld (pv 0) (pv 3) rfl)))))), ?_⟩
    refine ⟨_, rfl, a, pA, wsA, rfl, T.lA _, rfl, ta, fun o1 => ?_, k1⟩
    refine ⟨_, rfl, b, pP, wsP, rfl, T.lP _, rfl, tb, fun o2 => ?_, k2 o1⟩
    refine ⟨_, rfl, e, pE, wsE, rfl, T.lE _, rfl, te, fun o3 => ?_, k3 o1 o2⟩
    refine ⟨_, rfl, _, rfl, x, C, dx, _, rfl, hx, T.cl, T.nA, (by show 0 < 1000; decide), ?_⟩
    refine ⟨_, rfl, _, rfl, x, C, dx, _, rfl, upd_same, T.cl, T.nP, (by show 1 < 1000; decide), ?_⟩
    refine ⟨_, rfl, _, rfl, x, C, dx, _, rfl, upd_same, T.cl, T.nE, ?_, ?_⟩
    · exact Nat.lt_of_le_of_lt (putF_len _ _ _) (Nat.lt_of_le_of_lt (Nat.add_le_add_right (putF_len _ _ _) 1) (by decide))
    · refine k0 o1 o2 o3 _ (fun z o nz q => ?_) upd_same
      rw [upd_ne nz, upd_ne nz, upd_ne nz]
      exact q
/-! ### __eq__ -/
/-- other is a source with these words, or of another type -/
def spEq (K : PySem.W.Frag) (C : Addr) : Sp := fun vs H Q _ => ∃ (o : Addr) (A B E : Str) (y : V), vs = [.ref o, y] ∧ Src C H o A B E ∧
  ((∃ (o2 : Addr) (A2 B2 E2 : Str), y = .ref o2 ∧ Src C H o2 A2 B2 E2 ∧ Q (.bl (decide (A = A2) && (decide (B = B2) && decide (E = E2)))) H) ∨ ∃ t, TyX K H y t ∧ PySem.W.kitOne K t (.ref C) = some false ∧ Q (.bl false) H)
theorem scEq : FnScope ["self", "other"] ["self", "other"] (defScope sEq) := ⟨rfl, rfl, rfl, by decide +kernel, rfl, by decide +kernel, by decide +kernel⟩
theorem src_ty (T : TxtW K mg C pA pP pE fCW) {H : Hp} {o : Addr} {A B E : Str} (h : Src C H o A B E) : TyX K H (.ref o) (.ref C) := by
  obtain ⟨dx, e⟩ := h
  exact .base (.ins e T.cl T.c1 T.c2 T.c3 T.c4)
theorem ok_eq {f : Addr} {fd : FuncData} (F : Fun K "__eq__" "Source.__eq__" sEq f fd) (T : TxtW K mg C pA pP pE fCW) : FnOk P w K mg base CX0 1 f fd ["self", "other"] (spEq K C) := by
  refine F.ok scEq (fun vs H Q E h => ?_) (fun cdv A outer s H vs Q E hr h => ?_)
  · obtain ⟨o, A, B, E, y, rfl, _⟩ := h
    rfl
  · obtain ⟨o, A, B, E, y, rfl, hO, k⟩ := h
    refine ⟨_, pss_one (ps_ret (pe_and (pe_callB call_isi (by rfl) T.isi (by decide +kernel) (pa_cons (pv 1) (pa_cons (pe_glob (v := .ref C) rfl T.gC rfl) pa_nil)))
      (pe_and (pe_cmpR op_eq (pe_fld (pv 0) rfl) (pe_fld (pv 1) rfl) (nomark _)) (pe_and (pe_cmpR op_eq (pe_fld (pv 0) rfl) (pe_fld (pv 1) rfl) (nomark _)) (pe_one (pe_cmpR op_eq (pe_fld (pv 0) rfl) (pe_fld (pv 1) rfl) (nomark _))))))), ?_⟩
    rcases k with ⟨o2, A2, B2, E2, rfl, hO2, k⟩ | ⟨t, ty, kt, k⟩
    · obtain ⟨dx, e1⟩ := id hO
      obtain ⟨dx2, e2⟩ := id hO2
      refine ⟨_, rfl, _, _, _, _, true, rfl, .own C, src_ty T hO2, T.k1, true, rfl, iteT ?_⟩
      refine ⟨_, rfl, o, C, dx, _, _, rfl, e1, T.cl, T.nA, sf_am _ _ _, _, rfl, o2, C, dx2, _, _, rfl, e2, T.cl, T.nA, sf_am _ _ _, rfl, _, rfl, ?_⟩
      rw [dS]
      by_cases hA : A = A2
      · rw [decide_eq_true hA] at k ⊢
        refine iteT ⟨_, rfl, o, C, dx, _, _, rfl, e1, T.cl, T.nP, sf_pa _ _ _, _, rfl, o2, C, dx2, _, _, rfl, e2, T.cl, T.nP, sf_pa _ _ _, rfl, _, rfl, ?_⟩
        rw [dS]
        by_cases hB : B = B2
        · rw [decide_eq_true hB] at k ⊢
          refine iteT ⟨_, rfl, o, C, dx, _, _, rfl, e1, T.cl, T.nE, sf_en _ _ _, _, rfl, o2, C, dx2, _, _, rfl, e2, T.cl, T.nE, sf_en _ _ _, rfl, ?_⟩
          rw [dS]
          simpa using k
        · rw [decide_eq_false hB] at k ⊢
          exact iteF k
      · rw [decide_eq_false hA] at k ⊢
        exact iteF k
    · exact ⟨_, rfl, _, _, _, _, false, rfl, .own C, ty, kt, false, rfl, iteF k⟩
/-! ### __str__, __repr__ -/
def line (A B E : Str) : Str := A ++ " " ++ B ++ " " ++ E
def sh (A B E : Str) : Prop := A.length ≤ 10 ∧ B.length ≤ 10 ∧ E.length ≤ 10
def spStr (C : Addr) : Sp := fun vs H Q _ => ∃ (o : Addr) (A B E : Str), vs = [.ref o] ∧ Src C H o A B E ∧ sh A B E ∧ Q (.str (Str.empty ++ A ++ " " ++ B ++ " " ++ E)) H
def spRepr (C : Addr) : Sp := fun vs H Q _ => ∃ (o : Addr) (A B E : Str), vs = [.ref o] ∧ Src C H o A B E ∧ sh A B E ∧ Q (.str (Str.empty ++ "Source(" ++ A ++ " " ++ B ++ " " ++ E ++ ")")) H
theorem scStr : FnScope ["self"] ["self"] (defScope sStr) := ⟨rfl, rfl, rfl, by decide +kernel, rfl, by decide +kernel, by decide +kernel⟩
theorem scRepr : FnScope ["self"] ["self"] (defScope sRepr) := ⟨rfl, rfl, rfl, by decide +kernel, rfl, by decide +kernel, by decide +kernel⟩
theorem szl {n : Nat} (h : n ≤ 1000) : n ≤ sizeLine := Nat.le_of_lt (small1000 h)
theorem ok_str {f : Addr} {fd : FuncData} (F : Fun K "__str__" "Source.__str__" sStr f fd) (T : TxtW K mg C pA pP pE fCW) : FnOk P w K mg base CX0 1 f fd ["self"] (spStr C) := by
  refine F.ok scStr (fun vs H Q E h => ?_) (fun cdv A outer s H vs Q E hr h => ?_)
  · obtain ⟨o, A, B, E, rfl, _⟩ := h
    rfl
  · obtain ⟨o, A, B, E, rfl, ⟨dx, e⟩, ⟨s1, s2, s3⟩, k⟩ := h
    refine ⟨_, pss_one (ps_ret (pe_joined (.cons (pe_fmt (pe_fld (pv 0) rfl)) (.cons pe_str (.cons (pe_fmt (pe_fld (pv 0) rfl)) (.cons pe_str (.cons (pe_fmt (pe_fld (pv 0) rfl)) .nil))))))), ?_⟩
    have l0 : (Str.empty).length = 0 := rfl
    have l1 : (" " : Str).length = 1 := rfl
    refine ⟨_, rfl, o, C, dx, _, _, rfl, e, T.cl, T.nA, sf_am _ _ _, .inl ⟨A, rfl, szl (by omega), A, rfl, szl (by rw [strLen_append]; omega), ?_⟩⟩
    refine ⟨_, rfl, szl (by rw [strLen_append, strLen_append]; omega), ?_⟩
    refine ⟨_, rfl, o, C, dx, _, _, rfl, e, T.cl, T.nP, sf_pa _ _ _, .inl ⟨B, rfl, szl (by omega), B, rfl, szl (by rw [strLen_append, strLen_append, strLen_append]; omega), ?_⟩⟩
    refine ⟨_, rfl, szl (by rw [strLen_append, strLen_append, strLen_append, strLen_append]; omega), ?_⟩
    exact ⟨_, rfl, o, C, dx, _, _, rfl, e, T.cl, T.nE, sf_en _ _ _, .inl ⟨E, rfl, szl (by omega), E, rfl, szl (by rw [strLen_append, strLen_append, strLen_append, strLen_append, strLen_append]; omega), k⟩⟩
theorem ok_repr {f : Addr} {fd : FuncData} (F : Fun K "__repr__" "Source.__repr__" sRepr f fd) (T : TxtW K mg C pA pP pE fCW) : FnOk P w K mg base CX0 1 f fd ["self"] (spRepr C) := by
  refine F.ok scRepr (fun vs H Q E h => ?_) (fun cdv A outer s H vs Q E hr h => ?_)
  · obtain ⟨o, A, B, E, rfl, _⟩ := h
    rfl
  · obtain ⟨o, A, B, E, rfl, ⟨dx, e⟩, ⟨s1, s2, s3⟩, k⟩ := h
    refine ⟨_, pss_one (ps_ret (pe_joined (.cons pe_str (.cons (pe_fmt (pe_fld (pv 0) rfl)) (.cons pe_str (.cons (pe_fmt (pe_fld (pv 0) rfl)) (.cons pe_str (.cons (pe_fmt (pe_fld (pv 0) rfl)) (.cons pe_str .nil))))))))), ?_⟩
    have l0 : (Str.empty).length = 0 := rfl
    have l1 : (" " : Str).length = 1 := rfl
    have l2 : ("Source(" : Str).length = 7 := rfl
    have l3 : (")" : Str).length = 1 := rfl
    refine ⟨_, rfl, szl (by rw [strLen_append]; omega), ?_⟩
    refine ⟨_, rfl, o, C, dx, _, _, rfl, e, T.cl, T.nA, sf_am _ _ _, .inl ⟨A, rfl, szl (by omega), A, rfl, szl (by rw [strLen_append, strLen_append]; omega), ?_⟩⟩
    refine ⟨_, rfl, szl (by rw [strLen_append, strLen_append, strLen_append]; omega), ?_⟩
    refine ⟨_, rfl, o, C, dx, _, _, rfl, e, T.cl, T.nP, sf_pa _ _ _, .inl ⟨B, rfl, szl (by omega), B, rfl, szl (by rw [strLen_append, strLen_append, strLen_append, strLen_append]; omega), ?_⟩⟩
    refine ⟨_, rfl, szl (by rw [strLen_append, strLen_append, strLen_append, strLen_append, strLen_append]; omega), ?_⟩
    refine ⟨_, rfl, o, C, dx, _, _, rfl, e, T.cl, T.nE, sf_en _ _ _, .inl ⟨E, rfl, szl (by omega), E, rfl, szl (by rw [strLen_append, strLen_append, strLen_append, strLen_append, strLen_append, strLen_append]; omega), ?_⟩⟩
    exact ⟨_, rfl, szl (by rw [strLen_append, strLen_append, strLen_append, strLen_append, strLen_append, strLen_append, strLen_append]; omega), k⟩
end
end My

namespace My
open PySem L2
abbrev sCame : Stmt := top 14
/-! ### isinstance of a caught error that bears a field -/
structure XiC (K : PySem.W.Frag) (D : Addr) : Prop where
  xf : XfC K D
  ic : (PySem.W.clsIn K D).isSome = true
  c1 : PySem.W.findIn K (.ref D) "__class__" = some (some (.builtin "object.__class__"))
  c2 : PySem.W.specialIn K (.builtin "object.__class__") "__get__" = some (some (.builtin "getset_descriptor.__get__"))
  c3 : PySem.W.takesIn K (.builtin "object.__class__") = some true
  c4 : PySem.W.mroIn K D (.type "object") = some true
def rIsX (K : PySem.W.Frag) (D a : Addr) (cls : Value) (d : Option Addr) : List V → Hp → VK → Prop := fun xs H Q => ∃ (c : V) (cv : Value) (b : Bool) (dd : Addr) (fs : List (Str × V)), xs = [.ref a, c] ∧ (∀ u, RelV c u → u = cv) ∧ cls = .ref D ∧ d = some dd ∧ H dd = some (.xd fs) ∧ PySem.W.kitOne K (.ref D) cv = some b ∧ Q (.bl b) H
theorem call_isX {X : Cx} {a D : Addr} {oe : Obj} {cls : Value} {d : Option Addr} {pn : List (Addr × Obj)} (C : XiC X.K D) (hz : Zc cls d oe) (hf : ∃ vs, oe.data = .fields vs) : CallR (X.suite a ((a, oe) :: pn)) (.builtin "isinstance") (rIsX X.K D a cls d) := by
  intro pins s σ H xs us Q I r h
  obtain ⟨c, cv, b, dd, fs, rfl, hcv, rfl, rfl, hdd, e, q⟩ := h
  cases r with
  | cons rx rr =>
    cases rr with
    | cons rt rr =>
      cases rr
      cases rx
      cases hcv _ rt
      obtain ⟨hget, _⟩ := I.pin (a, oe) (List.mem_append.mpr (.inl List.mem_cons_self))
      obtain ⟨vs, hv⟩ := hf
      have hx : ObjOk X.prog X.w H s.heap dd (.xd fs) := I.hok dd _ hdd
      obtain ⟨mA, hns, _⟩ := hx
      obtain ⟨od, ho, _⟩ := lookIn_ns hns
      have J : PySem.W.InstAt s.heap a oe D (some od) := ⟨hget, hz.1, by unfold PySem.W.notCls; rw [hv] <;> rfl, by rw [hz.2]; exact ho⟩
      exact PySem.W.kia_one (PySem.W.kitx_exc (gt := none) C.ic C.xf.ga C.xf.gg C.xf.exC C.c1 C.c2 C.c3 C.c4) I.kIn J e (fun z => nomatch z) fun tk => ⟨.bl b, H, I.kept (t' := tk) fun _ _ z => z, rfl, q⟩
/-- what the text says for _law_came -/
structure TxtC (K : PySem.W.Frag) (mg : Str → Option Value) (CE CI fCame : Addr) : Prop where
  isi : mg "isinstance" = none
  ve : mg "ValueError" = none
  gE : mg "InvalidWord" = some (.ref CE)
  gI : mg "InputError" = some (.ref CI)
  x : XiC K CE
  nV : PySem.W.findIn K (.ref CE) "value" = some none
  te : PySem.W.exmOne K (.ref CE) (.ref CE) = some true
  k1 : PySem.W.kitOne K (.ref CE) (.ref CI) = some true
  k2 : PySem.W.kitOne K (.ref CE) (.type "ValueError") = some true
  g : mg "_law_came" = some (.ref fCame)
  k : PySem.W.keepIn K (.ref fCame) = true
theorem scCame : FnScope ["_law_ask", "_law_given", "e"] ["_law_ask"] (defScope sCame) := ⟨rfl, rfl, rfl, by decide +kernel, rfl, by decide +kernel, by decide +kernel⟩
/-- what _law_came makes of a call that always raises InvalidWord -/
def TCame (CE : Addr) : (XK → Hp → VK → Prop) → Hp → VK → Prop := fun tl H Q =>
  tl (fun cls d H' => cls = .ref CE ∧ ∃ (dd : Addr) (v : V), d = some dd ∧ H' dd = some (.xd [("value", v)]) ∧ ∀ p, H' p = none → Q (.ref p) (upd H' p (.lst [.str "InvalidWord", v, .bl true]))) H (fun _ _ => False)
/-- the slots are as many as the names -/
theorem takes_len {X : Cx} {W : WX} (tk : Takes X W) : Takes X (fun cls d σ H => σ.length = X.N.length → W cls d σ H) := fun u s2 ⟨a, B, sI, pins, σ, H, cls, d, e, I, nb, up, sky, na, os, ag, h⟩ =>
  tk u s2 ⟨a, B, sI, pins, σ, H, cls, d, e, I, nb, up, sky, na, os, ag, h I.len⟩
theorem len3 {σ : St} (h : σ.length = 3) : ∃ a b c, σ = [a, b, c] := by
  match σ, h with
  | [a, b, c], _ => exact ⟨a, b, c, rfl⟩
theorem came_gives {X : Cx} {g CE CI : Addr} {cdg : Value} {q : Str} (T : TxtC X.K X.mg CE CI g) : LamX.GivesTo X ["_law_ask", "_law_given", "e"] "_law_came" (defScope sCame) g cdg (defBody sCame) "_law_ask" q (TCame CE) := by
  intro f c' s H Q tl act hc h
  refine ⟨_, pss_cons (ps_try_as (X := (cxOf C8.CX0 X.prog X.w X.K X.mg X.base ["_law_ask", "_law_given", "e"] "_law_came" (defScope sCame) g cdg X.A X.stack s H C8.E0).nox) (i := 2) (c := .ref CE)
      (tb := fun W D σ H => ∃ Ech : XK, (∀ (cls : Value) (d : Option Addr) (σ' : St) (H' : Hp), Ech cls d H' → σ'.length = 3 → W cls d σ' H') ∧ σ[0]? = some (some (.ref f)) ∧ H c' = some (LamX.CodeO c' q) ∧ tl Ech H fun v H2 => gName 1 v σ H2 D.nx)
      (Wout := fun _ _ _ _ => False) rfl rfl scCame.nd rfl rfl ⟨rfl, by decide, .inl T.gE⟩ LamX.takes0 (fun W pn xe tk _ => ?_)
      (fun a oe cls d pn hz hf => pss_one (ps_ret (pe_lst (pa_cons pe_str (pa_cons (pe_xf T.x.xf T.nV hz hf (pv 2)) (pa_cons (pe_and (pe_callB (call_isX T.x hz hf) (by rfl) T.isi (by decide +kernel) (pa_cons (pv 2) (pa_cons (pe_glob (v := .ref CI) rfl T.gI rfl) pa_nil)))
        (pe_one (pe_callB (call_isX T.x hz hf) (by rfl) T.isi (by decide +kernel) (pa_cons (pv 2) (pa_cons (pe_bltn (v := .ty "ValueError") (by rfl) T.ve (by decide +kernel) rfl) pa_nil))))) pa_nil)))))))
    (pss_one ps_never), ?_⟩
  · refine ⟨fun pins s2 σ H2 D I hh => ?_⟩
    obtain ⟨Ech, hW, h1, h2, h3⟩ := hh
    have hp := fun p1 p2 => act _ pn xe Ech p1 p2 (takes_len tk) (fun cls d σ' H' z => hW cls d σ' H' z)
    exact (pss_one (ps_set (i := 1) scCame.nd rfl (.inl rfl) (hp _ _))).run pins s2 σ H2 D I ⟨h1, h2, h3⟩
  · refine ⟨_, fun cls d σ' H' hh hl => ?_, rfl, hc, h⟩
    obtain ⟨rfl, dd, v, rfl, hdd, k⟩ := hh
    obtain ⟨x0, x1, x2, rfl⟩ := len3 hl
    refine ⟨true, T.te, fun _ a na => ?_, fun z => Bool.noConfusion z⟩
    refine ⟨_, rfl, rfl, rfl, dd, _, v, rfl, hdd, by simp [List.lookup], ?_⟩
    refine ⟨_, rfl, .ref CI, .ref CI, true, dd, _, rfl, fun u z => z, rfl, rfl, hdd, T.k1, true, rfl, iteT ?_⟩
    refine ⟨_, rfl, .ty "ValueError", .type "ValueError", true, dd, _, rfl, fun u z => z, rfl, rfl, hdd, T.k2, ?_⟩
    exact ⟨by show 3 ≤ sizeLine; decide, k⟩
end My

/-! small lemmas for what the law draws and compares -/
namespace My
open PySem L2
def isAm (A : Str) : Prop := A = "exact" ∨ A = "short"
def isPa (B : Str) : Prop := B = "prompt" ∨ B = "waiting"
def isEn (E : Str) : Prop := E = "empty" ∨ E = "with" ∨ E = "behind"
theorem jar_ne {H : Hp} {j p : Addr} (a : Jar H j) (n : H p = none) : p ≠ j := fun z => by
  obtain ⟨_, _, _, q⟩ := a
  rw [z, q] at n
  cases n
/-- the words drawn so far -/
def Wd : Nat → List V → Prop
  | 0, xs => xs = []
  | 1, xs => ∃ A, isAm A ∧ xs = [.str A]
  | 2, xs => ∃ A B, isAm A ∧ isPa B ∧ xs = [.str A, .str B]
  | _, xs => ∃ A B E, isAm A ∧ isPa B ∧ isEn E ∧ xs = [.str A, .str B, .str E]
theorem wd_step {i : Nat} {acc : List V} {ws : List V} {n : Nat} {y : V} (hw : Wd i acc) (h : ([wsA, wsP, wsE] : List (List V))[i]? = some ws) (hy : ws[n]? = some y) : Wd (i + 1) (acc ++ [y]) := by
  match i, h with
  | 0, h =>
    cases (Option.some.inj h)
    cases hw
    match n, hy with
    | 0, hy => exact ⟨_, .inl rfl, by cases (Option.some.inj hy); rfl⟩
    | 1, hy => exact ⟨_, .inr rfl, by cases (Option.some.inj hy); rfl⟩
  | 1, h =>
    cases (Option.some.inj h)
    obtain ⟨A, hA, rfl⟩ := hw
    match n, hy with
    | 0, hy => exact ⟨_, _, hA, .inl rfl, by cases (Option.some.inj hy); rfl⟩
    | 1, hy => exact ⟨_, _, hA, .inr rfl, by cases (Option.some.inj hy); rfl⟩
  | 2, h =>
    cases (Option.some.inj h)
    obtain ⟨A, B, hA, hB, rfl⟩ := hw
    match n, hy with
    | 0, hy => exact ⟨_, _, _, hA, hB, .inl rfl, by cases (Option.some.inj hy); rfl⟩
    | 1, hy => exact ⟨_, _, _, hA, hB, .inr (.inl rfl), by cases (Option.some.inj hy); rfl⟩
    | 2, hy => exact ⟨_, _, _, hA, hB, .inr (.inr rfl), by cases (Option.some.inj hy); rfl⟩
theorem wd_len {i : Nat} {acc : List V} (h : Wd i acc) (hi : i ≤ 3) : acc.length ≤ 3 := by
  match i, h with
  | 0, h => rw [show acc = [] from h]; decide
  | 1, ⟨_, _, e⟩ => rw [e]; exact (by show 1 ≤ 3; decide)
  | 2, ⟨_, _, _, _, e⟩ => rw [e]; exact (by show 2 ≤ 3; decide)
  | 3, ⟨_, _, _, _, _, _, e⟩ => rw [e]; exact (by show 3 ≤ 3; decide)
/-- [_law_from(jar, words) for words in lists] -/
theorem words_lc {K : PySem.W.Frag} {σ : St} {H1 : Hp} {D j L l1 l2 l3 : Addr} {Qd : Hp → Prop} (hj : (wipe σ [11])[0]? = some (some (.ref j))) (h11 : ∀ v, ((wipe σ [11]).set 11 (some v))[0]? = some (some (.ref j)) ∧ ((wipe σ [11]).set 11 (some v))[11]? = some (some v) ∧ wipe ((wipe σ [11]).set 11 (some v)) [11] = wipe σ [11])
    (J1 : Jar H1 j) (hL : H1 L = some (.lst [.ref l1, .ref l2, .ref l3])) (e1 : H1 l1 = some (.lst wsA)) (e2 : H1 l2 = some (.lst wsP)) (e3 : H1 l3 = some (.lst wsE)) (nD : H1 D = none)
    (hd : ∀ (H' : Hp) (A B E : Str), isAm A → isPa B → isEn E → Off j H1 H' → Jar H' j → H' D = some (.lst [.str A, .str B, .str E]) → Qd H') :
    ∃ W : Nat → Nat → Hp → Prop, (∃ m, W 0 m (upd H1 D (.lst []))) ∧ ∀ (i m : Nat) (H : Hp), W i m H →
      ((Itl K L).stop i H ∧ Qd H) ∨ ((Itl K L).go i H ∧ ∃ Nx : Hp → Prop, (∀ H', Nx H' → ∃ m', m' < m ∧ W (i + 1) m' H') ∧ ∀ (x : V) (H' : Hp), (Itl K L).yld i H x H' → gName 11 x (wipe σ [11]) H' fun σ2 H2 => wipe σ2 [11] = wipe σ [11] ∧ tYes σ2 H2 fun b H3 =>
        if b = true then tCall (spFrom K) [] E0 (tCons (tVar 0) (tCons (tVar 11) tNil)) σ2 H3 fun y H4 => ∃ acc, H4 D = some (.lst acc) ∧ acc.length < sizeLine ∧ Nx (upd H4 D (.lst (acc ++ [y]))) else Nx H3) := by
  have nDj := jar_ne J1 nD
  have nj : ∀ {p : Addr} {xs : List V}, H1 p = some (.lst xs) → (∀ a b c : Int, xs ≠ [.int a, .int b, .int c]) → p ≠ j := fun {p xs} h n z => by
    obtain ⟨a, b, c, q⟩ := J1
    rw [z, q] at h
    cases h
    exact n a b c rfl
  refine lc_list (K := K) (a := L) (xs := [.ref l1, .ref l2, .ref l3]) (fun i H' => Off j H1 H' ∧ Jar H' j ∧ ∃ acc, H' D = some (.lst acc) ∧ Wd i acc) ⟨Off.new Off.refl nD, J1.new nD, [], upd_same, rfl⟩ (fun i H' _ ⟨o, _⟩ => SqL.of (o _ _ (nj hL (by intro a b c z; cases z)) hL)) ?_ ?_
  · rintro i x H' hx ⟨o, J, acc, hD, wd⟩
    obtain ⟨l, ws, hw, rfl, hl, nl⟩ : ∃ (l : Addr) (ws : List V), ([wsA, wsP, wsE] : List (List V))[i]? = some ws ∧ x = .ref l ∧ H1 l = some (.lst ws) ∧ 0 < ws.length ∧ ws.length < 1073741824 ∧ ∀ a b c : Int, ws ≠ [.int a, .int b, .int c] := by
      match i, hx with
      | 0, hx => exact ⟨l1, wsA, rfl, (Option.some.inj hx).symm, e1, by decide, by decide, by intro a b c z; cases z⟩
      | 1, hx => exact ⟨l2, wsP, rfl, (Option.some.inj hx).symm, e2, by decide, by decide, by intro a b c z; cases z⟩
      | 2, hx => exact ⟨l3, wsE, rfl, (Option.some.inj hx).symm, e3, by decide, by decide, by intro a b c z; cases z⟩
    have nlj := nj hl nl.2.2
    obtain ⟨z0, z11, zw⟩ := h11 (.ref l)
    refine ⟨zw, _, z0, _, z11, j, l, ws, rfl, J, nlj, SqL.of (o _ _ nlj hl), nl.1, nl.2.1, fun H2 n y hy o2 J2 => ?_⟩
    have hi : i < 3 := (List.getElem?_eq_some_iff.mp hx).1
    have la := wd_len wd (by omega)
    refine ⟨acc, o2 _ _ nDj hD, small1000 (by omega), fun b u nb e => ?_, ?_, _, upd_same, wd_step wd hw hy⟩
    · rw [upd_ne (ne_of_none e nD)]
      exact o2 _ _ nb (o _ _ nb e)
    · obtain ⟨a, b, c, q⟩ := J2
      exact ⟨a, b, c, by rw [upd_ne nDj.symm]; exact q⟩
  · rintro H' ⟨o, J, acc, hD, A, B, E, hA, hB, hE, rfl⟩
    exact hd H' A B E hA hB hE o J hD
/-! ### frames that let the tables grow -/
theorem ext_same {H H' : Hp} (s : Same H H') : LamX.ExtN H H' := fun b o e _ => s b o e
mutual
theorem dq_ext {H H' : Hp} (s : LamX.ExtN H H') : ∀ {v : V} {d : PyData}, Gd.Dq H v d → Gd.Dq H' v d
  | _, _, .non => .non
  | _, _, .bl b => .bl b
  | _, _, .int i => .int i
  | _, _, .str x => .str x
  | _, _, .lst ha hd => .lst (s _ _ ha (by intro ps z; cases z)) (dqa_ext s hd)
  | _, _, .tup ha hd => .tup (s _ _ ha (by intro ps z; cases z)) (dqa_ext s hd)
  | _, _, .dct ha => .dct (s _ _ ha (by intro ps z; cases z))
theorem dqa_ext {H H' : Hp} (s : LamX.ExtN H H') : ∀ {vs : List V} {ds : List PyData}, Gd.DqA H vs ds → Gd.DqA H' vs ds
  | _, _, .nil => .nil
  | _, _, .cons a b => .cons (dq_ext s a) (dqa_ext s b)
end
/-- a value that is plain data, small, and its type told -/
structure Fine (K : PySem.W.Frag) (H : Hp) (v : V) (d : PyData) : Prop where
  dq : Gd.Dq H v d
  ty : Typed K H v
  sh : d.showable = true
  dp : d.depth ≤ 2
  ln : d.shown.length ≤ 20
theorem typed_ext {K : PySem.W.Frag} {H H' : Hp} (s : LamX.ExtN H H') {v : V} {d : PyData} (q : Gd.Dq H v d) : Typed K H' v := by
  cases q with
  | non => exact ⟨_, .base .non, kit_ty (show kitB "NoneType" "str" = some false by decide +kernel)⟩
  | bl b => exact ⟨_, .base (.bl b), kit_ty (show kitB "bool" "str" = some false by decide +kernel)⟩
  | int i => exact ⟨_, .base (.int i), kit_ty (show kitB "int" "str" = some false by decide +kernel)⟩
  | str x => exact ⟨_, .base (.str x), kit_ty (show kitB "str" "str" = some true by decide +kernel)⟩
  | lst h _ => exact ⟨_, .base (.lst (s _ _ h (by intro ps z; cases z))), kit_ty (show kitB "list" "str" = some false by decide +kernel)⟩
  | tup h _ => exact ⟨_, .base (.tup (s _ _ h (by intro ps z; cases z))), kit_ty (show kitB "tuple" "str" = some false by decide +kernel)⟩
  | dct h => exact ⟨_, .base (.dK (s _ _ h (by intro ps z; cases z))), kit_ty (show kitB "dict" "str" = some false by decide +kernel)⟩
theorem Fine.ext {K : PySem.W.Frag} {H H' : Hp} (s : LamX.ExtN H H') {v : V} {d : PyData} (h : Fine K H v d) : Fine K H' v d := ⟨dq_ext s h.dq, typed_ext s h.dq, h.sh, h.dp, h.ln⟩
theorem fine_of {K : PySem.W.Frag} {H : Hp} {v : V} {d : PyData} (q : Gd.Dq H v d) (sh : d.showable = true) (dp : d.depth ≤ 2) (ln : d.shown.length ≤ 20) : Fine K H v d := ⟨q, typed_ext (LamX.ExtN.refl H) q, sh, dp, ln⟩
theorem fine_str {K : PySem.W.Frag} {H : Hp} {x : Str} (ln : (PyData.shown (.str x)).length ≤ 20) : Fine K H (.str x) (.str x) := fine_of (.str x) (by simp [PyData.showable]) (by simp [PyData.depth]) ln
/-! ### the rows that the law compares -/
inductive Rows (H : Hp) : List V → List V → Prop
  | nil : Rows H [] []
  | cons {q : Addr} {v : V} {xs vs : List V} (h : H q = some (.lst [.str "InvalidWord", v, .bl true])) (t : Rows H xs vs) : Rows H (.ref q :: xs) (v :: vs)
theorem Rows.ext {H H' : Hp} (s : LamX.ExtN H H') : ∀ {xs vs}, Rows H xs vs → Rows H' xs vs
  | _, _, .nil => .nil
  | _, _, .cons h t => .cons (s _ _ h (by intro ps z; cases z)) (t.ext s)
theorem Rows.len {H : Hp} : ∀ {xs vs}, Rows H xs vs → xs.length = vs.length
  | _, _, .nil => rfl
  | _, _, .cons _ t => congrArg (· + 1) t.len
theorem Rows.snoc {H : Hp} {q : Addr} {v : V} (h : H q = some (.lst [.str "InvalidWord", v, .bl true])) : ∀ {xs vs}, Rows H xs vs → Rows H (xs ++ [.ref q]) (vs ++ [v])
  | _, _, .nil => .cons h .nil
  | _, _, .cons a t => .cons a (t.snoc h)
theorem Rows.ne {H : Hp} {D q : Addr} {acc as : List V} {v : V} (hD : H D = some (.lst acc)) (ha : Rows H acc as) (h : H q = some (.lst [.str "InvalidWord", v, .bl true])) : q ≠ D := fun z => by
  rw [z, hD] at h
  cases h
  cases ha
theorem Rows.put {H : Hp} {D : Addr} {acc as ys : List V} (hD : H D = some (.lst acc)) (ha : Rows H acc as) : ∀ {xs vs}, Rows H xs vs → Rows (upd H D (.lst ys)) xs vs
  | _, _, .nil => .nil
  | _, _, .cons h t => .cons (by rw [upd_ne (Rows.ne hD ha h)]; exact h) (Rows.put hD ha t)
def rowD (d : PyData) : PyData := .list [.str "InvalidWord", d, .bool true]
inductive Fines (K : PySem.W.Frag) (H : Hp) : List V → List PyData → Prop
  | nil : Fines K H [] []
  | cons {v : V} {d : PyData} {vs : List V} {ds : List PyData} (h : Fine K H v d) (t : Fines K H vs ds) : Fines K H (v :: vs) (d :: ds)
theorem Rows.dq {K : PySem.W.Frag} {H : Hp} : ∀ {xs vs ds}, Rows H xs vs → Fines K H vs ds → Gd.DqA H xs (ds.map rowD)
  | _, _, _, .nil, .nil => .nil
  | _, _, _, .cons h t, .cons f fs => .cons (.lst h (.cons (.str _) (.cons f.dq (.cons (.bl _) .nil)))) (t.dq fs)
theorem textFrom_up : ∀ (ts : List Str) (k : Nat) (acc : Str), (textFrom k acc ts).length ≤ acc.length + piled ts
  | [], k, acc => Nat.le_add_right _ _
  | t :: r, k, acc => by
    have h := textFrom_up r (k + 1) (acc ++ (if k > 0 then ", " else "" : String) ++ t)
    have e : (acc ++ (if k > 0 then ", " else "" : String) ++ t).length ≤ acc.length + 2 + t.length := by
      rw [strLen_append, strLen_append]
      by_cases hk : k > 0
      · rw [if_pos hk]
        exact Nat.le_refl _
      · rw [if_neg hk]
        show acc.length + 0 + t.length ≤ _
        omega
    rw [piled_cons]
    show (textFrom (k + 1) _ r).length ≤ _
    omega
theorem listText_up (ts : List Str) : (listText ts).length ≤ piled ts + 2 := by
  unfold listText
  rw [strLen_append]
  have h := textFrom_up ts 0 ("[" : Str)
  have l1 : (("[" : String) : Str).length = 1 := rfl
  have l2 : (("]" : String) : Str).length = 1 := rfl
  rw [l1] at h
  rw [l2]
  omega
theorem row_len {d : PyData} (h : d.shown.length ≤ 20) : (rowD d).shown.length ≤ 100 := by
  unfold rowD
  simp only [PyData.shown, PyData.shownAll]
  refine Nat.le_trans (listText_up _) ?_
  rw [piled_cons, piled_cons, piled_cons, piled_nil]
  have e1 : (reprText ("InvalidWord" : Str)).length = 13 := by decide +kernel
  rw [e1, if_pos True.intro]
  have e3 : (("True" : String) : Str).length = 4 := rfl
  rw [e3]
  omega
theorem rows_shown {K : PySem.W.Frag} {H : Hp} : ∀ {vs ds}, Fines K H vs ds → piled (PyData.shownAll (ds.map rowD)) ≤ 102 * ds.length
  | _, _, .nil => by simp [PyData.shownAll, piled_nil]
  | _, _, .cons f t => by
    have h1 := rows_shown t
    have h2 := row_len f.ln
    simp only [List.map_cons, PyData.shownAll, piled_cons, List.length_cons]
    omega
theorem rows_ok {K : PySem.W.Frag} {H : Hp} : ∀ {vs ds}, Fines K H vs ds → PyData.showableAll (ds.map rowD) = true ∧ PyData.depthAll (ds.map rowD) ≤ 3
  | _, _, .nil => by simp [PyData.showableAll, PyData.depthAll]
  | _, _, .cons f t => by
    obtain ⟨h1, h2⟩ := rows_ok t
    have h3 := f.sh
    have h4 := f.dp
    constructor
    · simp only [List.map_cons, PyData.showableAll, rowD, PyData.showable, h3, h1, Bool.and_self]
    · simp only [List.map_cons, PyData.depthAll, rowD, PyData.depth]
      omega
theorem rows_fit {K : PySem.W.Frag} {H : Hp} {vs : List V} {ds : List PyData} (f : Fines K H vs ds) (h : ds.length ≤ 5) : (PyData.list (ds.map rowD)).showable = true ∧ (PyData.list (ds.map rowD)).depth ≤ 64 ∧ (PyData.list (ds.map rowD)).shown.length ≤ sizeLine := by
  obtain ⟨h1, h2⟩ := rows_ok f
  refine ⟨by simpa [PyData.showable] using h1, by simp only [PyData.depth]; omega, ?_⟩
  have h3 := rows_shown f
  simp only [PyData.shown]
  refine Nat.le_of_lt (small1000 (Nat.le_trans (listText_up _) (by omega)))
end My

namespace My
open PySem L2
abbrev sRight : Stmt := top 15
theorem hu64 {A : Around} {k : Nat} (hr : Room k A) : A.units + 64 < cLine := by
  have := hr.un
  omega
/-- an error that nobody lets out does not pass -/
theorem pass_none {P : Program} {w : World} {X : Cx} : Passes (L2.CX P w) X (fun _ _ _ => False) := fun pins σ H s e s2 I h => by
  obtain ⟨_, _, _, _, _, _, _, _, _, _, _, _, z⟩ := h
  exact z.elim
/-- C(end=.., amount=.., patience=..) -/
def gKw (us ws : List Value) : List Value := match us, ws with | [s], [e, a, p] => [s, a, p, e] | _, _ => []
def gKwV (us ws : List V) : List V := match us, ws with | [s], [e, a, p] => [s, a, p, e] | _, _ => []
def qLam : Str := ("_law_right" : Str) ++ ".<locals>." ++ "<lambda>"
structure TxtR (K : PySem.W.Frag) (mg : Str → Option Value) (fF : Addr) : Prop where
  str : mg "str" = none
  repr : mg "repr" = none
  bool : mg "bool" = none
  tuple : mg "tuple" = none
  gF : mg "_law_from" = some (.ref fF)
  kF : PySem.W.keepIn K (.ref fF) = true
structure FnR1 (K : PySem.W.Frag) (C CE fE fCW fI fEq fStr fRepr fF fS fCame : Addr) (fdE fdCW fdI fdEq fdStr fdRepr fdF fdS fdCame : FuncData) : Prop where
  FE : Fun K "__init__" "InvalidWord.__init__" sEI fE fdE
  bE : Binds K fdE ["self", "value"] []
  FW : Fun K "check_word" "check_word" sCW fCW fdCW
  bW : Binds K fdCW ["word", "words"] []
  FI : Fun K "__init__" "Source.__init__" sInit fI fdI
  bI : Binds K fdI ["self", "amount", "patience", "end"] []
  MI : Mk K C fI
  KI : KBn K fdI ["self", "amount", "patience", "end"] 1 ["end", "amount", "patience"] gKw gKwV
  FQ : Fun K "__eq__" "Source.__eq__" sEq fEq fdEq
  bQ : Binds K fdEq ["self", "other"] []
  cQ : Own.EqC K C fEq
  FT : Fun K "__str__" "Source.__str__" sStr fStr fdStr
  bT : Binds K fdStr ["self"] []
  iT : PySem.W.findIn K (.ref C) "__str__" = some (some (.ref fStr))
  jT : PySem.W.isFn K (.ref fStr) = true
  FP : Fun K "__repr__" "Source.__repr__" sRepr fRepr fdRepr
  bP : Binds K fdRepr ["self"] []
  iP : PySem.W.findIn K (.ref C) "__repr__" = some (some (.ref fRepr))
  jP : PySem.W.isFn K (.ref fRepr) = true
  nB : PySem.W.findIn K (.ref C) "__bool__" = some none
  nL : PySem.W.findIn K (.ref C) "__len__" = some none
  FF : Fun K "_law_from" "_law_from" sFrom fF fdF
  bF : Binds K fdF ["_law_jar_here", "_law_things"] []
  FS : Fun K "_law_sip" "_law_sip" sSip fS fdS
  bS : Binds K fdS ["_law_jar_here", "_law_many"] []
  FC : Fun K "_law_came" "_law_came" sCame fCame fdCame
  bC : Binds K fdCame ["_law_ask"] []
abbrev NR : List Str := ["_law_jar_here", "_law_lists", "_law_two", "_law_made", "_law_mate", "_law_line", "_law_seen", "_law_due", "_law_bad", "_law_odd", "_law_one", "_law_words_here", "_law_each"]
theorem scRight : FnScope NR ["_law_jar_here"] (defScope sRight) := ⟨rfl, rfl, rfl, by decide +kernel, rfl, by decide +kernel, by decide +kernel⟩
section
variable {P : Program} {w : World} {K : PySem.W.Frag} {mg : Str → Option Value} {base : Heap} {CE fE C CI pA pP pE fCW fI fEq fStr fRepr fF fS fCame cR PR : Addr} {fdE fdCW fdI fdEq fdStr fdRepr fdF fdS fdCame : FuncData}
/-- all but the jar and the tables is as it was -/
def OffN (j : Addr) (H H' : Hp) : Prop := ∀ b o, b ≠ j → (∀ ps, o ≠ .tbl ps) → H b = some o → H' b = some o
def spRight (PR : Addr) : Sp := fun vs H Q _ => ∃ j : Addr, vs = [.ref j] ∧ Jar H j ∧ LamX.Tabs [(PR, qLam)] H ∧ ∀ H', OffN j H H' → LamX.Tabs [(PR, qLam)] H' → Q (.bl true) H'
/-- one call that is refused -/
theorem lam_word {T : List (Addr × Str)} {targs : TA} {σ : St} {H : Hp} {Q : VK} {a b e v : V} {da db de : PyData} (hT : LamX.Tabs T H) (fa : Fine K H a da) (fb : Fine K H b db) (fe : Fine K H e de)
    (args : ∀ H1, LamX.ExtN H H1 → ∀ R : List V → Hp → Prop, R [a, b, e] H1 → targs σ H1 R)
    (bad : (okW a wsA = false ∧ v = a) ∨ (okW a wsA = true ∧ okW b wsP = false ∧ v = b) ∨ (okW a wsA = true ∧ okW b wsP = true ∧ okW e wsE = false ∧ v = e))
    (q : ∀ (H1 : Hp) (p : Addr), LamX.ExtN H H1 → LamX.Tabs T H1 → H1 p = some (.lst [.str "InvalidWord", v, .bl true]) → Q (.ref p) H1) :
    LamX.tLam T (TCame CE) (fun E => tMake C (spInit K C CE) [] E targs) σ H Q := by
  refine ⟨hT, fun H1 e1 T1 => ?_⟩
  refine args H1 e1 _ fun x dx nx ndx nex => ?_
  have s1 : Same H1 (upd (upd H1 dx (.own x)) x (.ins C dx [])) := fun z o h => by
    rw [upd_ne (ne_of_none h nx), upd_ne (ne_of_none h ndx)]
    exact h
  have x2 := e1.trans (ext_same s1)
  have T2 := T1.ext s1
  have fin : ∀ d, (upd (upd H1 dx (.own x)) x (.ins C dx [])) d = none → ∀ p, (upd (upd (upd H1 dx (.own x)) x (.ins C dx [])) d (.xd [("value", v)])) p = none →
      Q (.ref p) (upd (upd (upd (upd H1 dx (.own x)) x (.ins C dx [])) d (.xd [("value", v)])) p (.lst [.str "InvalidWord", v, .bl true])) := fun d nd p np => by
    have s2 := Same.trans (same_upd (o := .xd [("value", v)]) nd) (same_upd (o := .lst [.str "InvalidWord", v, .bl true]) np)
    exact q _ p (x2.trans (ext_same s2)) (T2.ext s2) upd_same
  refine ⟨x, dx, a, b, e, rfl, upd_same, typed_ext x2 fa.dq, typed_ext x2 fb.dq, typed_ext x2 fe.dq, fun h1 h2 h3 => ?_, fun h1 d nd => ?_, fun h1 h2 d nd => ?_, fun h1 h2 h3 d nd => ?_⟩
  · rcases bad with ⟨z, _⟩ | ⟨_, z, _⟩ | ⟨_, _, z, _⟩
    · rw [h1] at z; cases z
    · rw [h2] at z; cases z
    · rw [h3] at z; cases z
  · rcases bad with ⟨_, rfl⟩ | ⟨z, _⟩ | ⟨z, _⟩
    · exact ⟨rfl, d, _, rfl, upd_same, fun p np => fin d nd p np⟩
    · rw [h1] at z; cases z
    · rw [h1] at z; cases z
  · rcases bad with ⟨z, _⟩ | ⟨_, _, rfl⟩ | ⟨_, z, _⟩
    · rw [h1] at z; cases z
    · exact ⟨rfl, d, _, rfl, upd_same, fun p np => fin d nd p np⟩
    · rw [h2] at z; cases z
  · rcases bad with ⟨z, _⟩ | ⟨_, z, _⟩ | ⟨_, _, _, rfl⟩
    · rw [h1] at z; cases z
    · rw [h2] at z; cases z
    · exact ⟨rfl, d, _, rfl, upd_same, fun p np => fin d nd p np⟩
theorem okA {A : Str} (h : isAm A) : okW (.str A) wsA = true ∧ okW (.str A) wsP = false := by rcases h with rfl | rfl <;> decide +kernel
theorem okP {B : Str} (h : isPa B) : okW (.str B) wsP = true ∧ okW (.str B) wsA = false := by rcases h with rfl | rfl <;> decide +kernel
theorem okE {E : Str} (h : isEn E) : okW (.str E) wsE = true ∧ okW (.str E) wsP = false := by rcases h with rfl | rfl | rfl <;> decide +kernel
theorem tyS {K : PySem.W.Frag} {H : Hp} (x : Str) : Typed K H (.str x) := ⟨_, .base (.str x), kit_ty (show kitB "str" "str" = some true by decide +kernel)⟩
theorem sh_of {A B E : Str} (hA : isAm A) (hB : isPa B) (hE : isEn E) : sh A B E := by
  refine ⟨?_, ?_, ?_⟩
  · rcases hA with rfl | rfl <;> decide +kernel
  · rcases hB with rfl | rfl <;> decide +kernel
  · rcases hE with rfl | rfl | rfl <;> decide +kernel
theorem join_is {A B E : Str} (hA : isAm A) (hB : isPa B) (hE : isEn E) : Str.empty ++ A ++ " " ++ B ++ " " ++ E = Txt.join " " [A, B, E] := by
  rcases hA with rfl | rfl <;> rcases hB with rfl | rfl <;> rcases hE with rfl | rfl | rfl <;> decide +kernel
def dWords (A B E : Str) : PyData := .list [.str A, .str B, .str E]
def dSeen (A B E : Str) : PyData := .list [.str A, .str B, .str E, .str (Txt.join " " [A, B, E]), .str (("Source(" : Str) ++ Txt.join " " [A, B, E] ++ ")"), .bool true]
theorem words_ok {A B E : Str} (hA : isAm A) (hB : isPa B) (hE : isEn E) : SeqAt.shaped (dWords A B E) = true ∧ SeqAt.shaped (dSeen A B E) = true ∧ PyData.eqv (dSeen A B E) (dSeen A B E) = true ∧ (Txt.join " " [A, B, E]).length ≤ 40 := by
  rcases hA with rfl | rfl <;> rcases hB with rfl | rfl <;> rcases hE with rfl | rfl | rfl <;> decide +kernel
theorem words_eqv (A B E A2 B2 E2 : Str) : PyData.eqv (dWords A B E) (dWords A2 B2 E2) = (decide (A = A2) && (decide (B = B2) && decide (E = E2))) := by
  unfold dWords
  simp only [PyData.eqv, PyData.eqvAll, Bool.and_true]
  have e : ∀ x y : Str, (x == y) = decide (x = y) := fun x y => by
    by_cases h : x = y
    · rw [decide_eq_true h, h]
      simp
    · rw [decide_eq_false h]
      simpa using h
  rw [e, e, e]
theorem join_is2 {A B E : Str} (hA : isAm A) (hB : isPa B) (hE : isEn E) : Str.empty ++ "Source(" ++ A ++ " " ++ B ++ " " ++ E ++ ")" = ("Source(" : Str) ++ Txt.join " " [A, B, E] ++ ")" := by
  rcases hA with rfl | rfl <;> rcases hB with rfl | rfl <;> rcases hE with rfl | rfl | rfl <;> decide +kernel
/-! ### what is drawn to be refused -/
theorem bad_fine {K : PySem.W.Frag} {H : Hp} {t dd : Addr} {i : Nat} {x : V} (ht : H t = some (.tup [.str "short"])) (hd : H dd = some (.dK [])) (hx : ([.non, .str "", .str "exactly", .int 5, .bl true, .ref t, .str "empty ", .str "Exact", .ref dd] : List V)[i]? = some x) :
    ∃ d, Fine K H x d ∧ okW x wsA = false := by
  match i, hx with
  | 0, hx => cases (Option.some.inj hx); exact ⟨_, fine_of .non (by decide +kernel) (by decide +kernel) (by decide +kernel), by decide +kernel⟩
  | 1, hx => cases (Option.some.inj hx); exact ⟨_, fine_str (by decide +kernel), by decide +kernel⟩
  | 2, hx => cases (Option.some.inj hx); exact ⟨_, fine_str (by decide +kernel), by decide +kernel⟩
  | 3, hx => cases (Option.some.inj hx); exact ⟨_, fine_of (.int 5) (by decide +kernel) (by decide +kernel) (by decide +kernel), by decide +kernel⟩
  | 4, hx => cases (Option.some.inj hx); exact ⟨_, fine_of (.bl true) (by decide +kernel) (by decide +kernel) (by decide +kernel), by decide +kernel⟩
  | 5, hx => cases (Option.some.inj hx); exact ⟨_, fine_of (.tup ht (.cons (.str _) .nil)) (by decide +kernel) (by decide +kernel) (by decide +kernel), rfl⟩
  | 6, hx => cases (Option.some.inj hx); exact ⟨_, fine_str (by decide +kernel), by decide +kernel⟩
  | 7, hx => cases (Option.some.inj hx); exact ⟨_, fine_str (by decide +kernel), by decide +kernel⟩
  | 8, hx => cases (Option.some.inj hx); exact ⟨_, fine_of (.dct hd) (by decide +kernel) (by decide +kernel) (by decide +kernel), rfl⟩
theorem odd_fine {K : PySem.W.Frag} {H : Hp} {t : Addr} {i : Nat} {x : V} (ht : H t = some (.lst [])) (hx : ([.int 0, .str "with it", .ref t, .str "eMPTY"] : List V)[i]? = some x) :
    ∃ d, Fine K H x d ∧ okW x wsP = false ∧ okW x wsE = false := by
  match i, hx with
  | 0, hx => cases (Option.some.inj hx); exact ⟨_, fine_of (.int 0) (by decide +kernel) (by decide +kernel) (by decide +kernel), by decide +kernel, by decide +kernel⟩
  | 1, hx => cases (Option.some.inj hx); exact ⟨_, fine_str (by decide +kernel), by decide +kernel, by decide +kernel⟩
  | 2, hx => cases (Option.some.inj hx); exact ⟨_, fine_of (.lst ht .nil) (by decide +kernel) (by decide +kernel) (by decide +kernel), rfl, rfl⟩
  | 3, hx => cases (Option.some.inj hx); exact ⟨_, fine_str (by decide +kernel), by decide +kernel, by decide +kernel⟩
theorem wordF {K : PySem.W.Frag} {H : Hp} {A : Str} (h : isAm A ∨ isPa A ∨ isEn A) : Fine K H (.str A) (.str A) := by
  refine fine_str ?_
  rcases h with (rfl | rfl) | (rfl | rfl) | rfl | rfl | rfl <;> decide +kernel
theorem tabs_put {T : List (Addr × Str)} {H : Hp} {q : Addr} {ys zs : List V} (hq : H q = some (.lst ys)) (h : LamX.Tabs T H) : LamX.Tabs T (upd H q (.lst zs)) := fun p hp => by
  obtain ⟨ps, a1, a2, a3⟩ := h p hp
  refine ⟨ps, by rw [upd_ne (ne_of a1 hq (by intro z; cases z))]; exact a1, a2, fun pos cv hcv => ?_⟩
  obtain ⟨c, e, hc⟩ := a3 pos cv hcv
  exact ⟨c, e, by rw [upd_ne (ne_of hc hq (by intro z; unfold LamX.CodeO at z; cases z))]; exact hc⟩
/-- the list of what came, so far -/
structure Seen (T : List (Addr × Str)) (Ha H : Hp) (sq : Addr) (xs vs : List V) : Prop where
  ext : LamX.ExtN Ha H
  tab : LamX.Tabs T H
  at_ : H sq = some (.lst xs)
  row : Rows H xs vs
theorem Seen.step {T : List (Addr × Str)} {Ha H H1 : Hp} {sq p : Addr} {xs vs : List V} {v : V} (s : Seen T Ha H sq xs vs) (nq : ∀ b o, Ha b = some o → (∀ ps, o ≠ .tbl ps) → b ≠ sq) (e1 : LamX.ExtN H H1) (T1 : LamX.Tabs T H1) (hp : H1 p = some (.lst [.str "InvalidWord", v, .bl true])) :
    H1 sq = some (.lst xs) ∧ Seen T Ha (upd H1 sq (.lst (xs ++ [.ref p]))) sq (xs ++ [.ref p]) (vs ++ [v]) := by
  have h1 : H1 sq = some (.lst xs) := e1 _ _ s.at_ (by intro ps z; cases z)
  have r1 := s.row.ext e1
  refine ⟨h1, fun b o h n => ?_, tabs_put h1 T1, upd_same, ?_⟩
  · rw [upd_ne (nq b o h n)]
    exact e1 _ _ (s.ext b o h n) n
  · exact Rows.snoc (by rw [upd_ne (Rows.ne h1 r1 hp)]; exact hp) (Rows.put h1 r1 r1)
theorem ok_right {f : Addr} {fd : FuncData} (F : Fun K "_law_right" "_law_right" sRight f fd) (TJ : TxtJ mg) (S : TxtS K mg fS) (T : TxtW K mg C pA pP pE fCW) (TE : TxtE K mg CE fE) (TC : TxtC K mg CE CI fCame) (R : TxtR K mg fF)
    (N : FnR1 K C CE fE fCW fI fEq fStr fRepr fF fS fCame fdE fdCW fdI fdEq fdStr fdRepr fdF fdS fdCame) (hcd : fd.code = .ref cR) (sm : ∃ ob, base.get? sysModules = some ob) (TB : LamX.TabB base mg cR PR) : Gd.FnG P w K mg base CX0 9 f fd ["_law_jar_here"] (spRight PR) := by
  have GF : FnOk P w K mg base CX0 2 fF fdF ["_law_jar_here", "_law_things"] (spFrom K) := ok_from N.FF TJ S N.FS N.bS
  have GI : FnOk P w K mg base (L2.CX P w) 4 fI fdI ["self", "amount", "patience", "end"] (spInit K C CE) := ok_init N.FI T TE N.FW N.bW N.FE N.bE
  have GQ : FnR P w K mg base CX0 1 fEq (fun vs H Q E => spEq K C (vs ++ []) H Q E) := (ok_eq N.FQ T).raw N.bQ .nil
  have GT : FnR P w K mg base CX0 1 fStr (fun vs H Q E => spStr C (vs ++ []) H Q E) := (ok_str N.FT T).raw N.bT .nil
  have GP : FnR P w K mg base CX0 1 fRepr (fun vs H Q E => spRepr C (vs ++ []) H Q E) := (ok_repr N.FP T).raw N.bP .nil
  obtain ⟨ob, sm⟩ := sm
  obtain ⟨oc, od, kV, doc, pm, an, cdv0, ct, osl, efd, lkC, hcgC⟩ := N.FC.ex
  refine Gd.okG F scRight (fun vs H Q E h => ?_) (fun cdv A outer s H vs Q E _ _ ecd hgd hr h => ?_)
  · obtain ⟨j, rfl, _⟩ := h
    rfl
  · obtain ⟨j, rfl, hJ, hT, k⟩ := h
    have ec : cdv = .ref cR := ecd.symm.trans hcd
    subst ec
    have hr2 : Room 2 _ := hr.mono (by decide)
    have hr3 : Room 3 _ := hr.mono (by decide)
    have hr5 : Room 5 _ := hr.mono (by decide)
    have hr7 : Room 7 _ := hr.mono (by decide)
    have hr1 : Room 1 _ := hr.mono (by decide)
    subst efd
    have lam : ∀ {X : Cx} {params : Arguments} {body : Expr} {scope : Scope} {t : XK → L2.TE} {p lpos pos : Pos} (eX : X = (cxOf CX0 P w K mg base NR "_law_right" (defScope sRight) f (.ref cR) A outer s H E).nox) (L : LamX.LamS X.env.scope scope) (hdef : defaultsOf params X.env = ([], []))
        (hbind : ∀ (q : Str) (cl : List (Str × Addr)) (pm cv ctv : Value), bindArgs (PySem.W.kla_fn "<lambda>" q params body scope cl pm cv ctv) ⟨[], []⟩ = pure [])
        (hbody : ∀ (A : Around) (outer : List Env) (s : Shared) (H : Hp) (E : XK) (f c' : Addr), Room 5 (A.deeper (LamX.lamEnv X scope s.heap.objs.size f c')) → PE (LamX.lamCx X A outer s H E scope f c') body (t E)),
        PE X (.Call (.Name "_law_came" p) [.Lambda params body scope lpos] [] pos) (LamX.tLam [(PR, qLam)] (TCame CE) t) := by
      intro X params body scope t p lpos pos eX L hdef hbind hbody
      subst eX
      exact LamX.pe_lamcall (k := 5) rfl TC.g TC.k lkC hcgC N.bC scCame rfl (.inl rfl) (came_gives TC) TB rfl (List.mem_singleton.mpr rfl) (fun q hq _ => by rw [List.mem_singleton.mp hq]; rfl) hr7 L hdef hbind hbody
    refine ⟨_, pss_cons (ps_set (i := 1) scRight.nd rfl (.inl rfl) (pe_lst (pa_cons (pe_lst (pa_cons pe_str (pa_cons pe_str pa_nil))) (pa_cons (pe_lst (pa_cons pe_str (pa_cons pe_str pa_nil))) (pa_cons (pe_lst (pa_cons pe_str (pa_cons pe_str (pa_cons pe_str pa_nil)))) pa_nil)))))
      (pss_cons (ps_set (i := 10) scRight.nd rfl (.inr rfl) (pe_lc (own := [("_law_words_here", 11)]) (g := gName 11) (tt := tYes) rfl scRight.nd (pi_list (pv 1)) (blkOk_by (own := [("_law_words_here", 11)]) (N := NR) (sc := defScope sRight) (by decide +kernel))
          (fun _ _ _ _ _ => pg_name (i := 11) scRight.nd rfl (.inl rfl)) (fun _ _ _ _ _ => pts_nil) (fun _ _ _ _ _ => pe_call GF hr2 rfl R.gF R.kF N.bF .nil pass0 (pa_cons (pv 0) (pa_cons (pv 11) pa_nil)))))
      (pss_cons (ps_setLc (i := 2) (own := [("_law_words_here", 11)]) (g := gName 11) (tt := tYes) rfl scRight.nd rfl rfl (sw_true rfl rfl rfl (by decide +kernel)) (pi_list (pv 1)) (blkOk_by (own := [("_law_words_here", 11)]) (N := NR) (sc := defScope sRight) (by decide +kernel))
          (fun _ _ _ _ _ => pg_name (i := 11) scRight.nd rfl (.inl rfl)) (fun _ _ _ _ _ => pts_nil) (fun _ _ _ _ _ => pe_call GF hr2 rfl R.gF R.kF N.bF .nil pass0 (pa_cons (pv 0) (pa_cons (pv 11) pa_nil))))
      -- made, mate, line
      (pss_cons (ps_par3 (i := 3) (j := 4) (l := 5) rfl scRight.nd rfl rfl rfl (by decide) (by decide) (by decide) rfl rfl rfl (pa_cons (pe_make N.MI GI hr5 rfl T.gC N.bI .nil pass_none (pa_cons (pe_ix ix_list (pv 10) pe_int (fun _ _ => rfl)) (pa_cons (pe_ix ix_list (pv 10) pe_int (fun _ _ => rfl)) (pa_cons (pe_ix ix_list (pv 10) pe_int (fun _ _ => rfl)) pa_nil))))
          (pa_cons (pe_makeK0 N.MI GI hr5 rfl T.gC N.KI pass_none (pk_cons (pe_ix ix_list (pv 2) pe_int (fun _ _ => rfl)) (pk_cons (pe_ix ix_list (pv 2) pe_int (fun _ _ => rfl)) (pk_cons (pe_ix ix_list (pv 2) pe_int (fun _ _ => rfl)) pk_nil)))) (pa_cons (pe_join pe_str (pv 10)) pa_nil))) (by rfl))
      (pss_cons (ps_set (i := 6) scRight.nd rfl (.inl rfl) (pe_lst (pa_cons (pe_fld (pv 3) rfl) (pa_cons (pe_fld (pv 3) rfl) (pa_cons (pe_fld (pv 3) rfl) (pa_cons (pe_callTy (Own.call_strO N.iT N.jT GT hr3) (by rfl) R.str (by decide +kernel) (pa_cons (pv 3) pa_nil))
          (pa_cons (pe_callB (Own.call_reprO N.iP N.jP GP hr2) (by rfl) R.repr (by decide +kernel) (pa_cons (pv 3) pa_nil)) (pa_cons (pe_callTy (Own.call_boolO N.nB N.nL) (by rfl) R.bool (by decide +kernel) (pa_cons (pv 3) pa_nil)) pa_nil))))))))
      (pss_cons (ps_if (PW.pt (pw_or (pt_cmpR (op_neD (hu64 hr)) (pv 6) (pe_op op_cat (pv 10) (pe_lst (pa_cons (pv 5) (pa_cons (pe_op op_add_str (pe_op op_add_str pe_str (pv 5)) pe_str) (pa_cons pe_bl pa_nil))))) (nomark _))
          (pw_or1 (pt_cmpR op_ne (pe_cmpR (Own.op_eqO N.cQ GQ hr1) (pv 3) (pv 4) (nomark _)) (pe_cmpR (op_eqD (hu64 hr)) (pv 10) (pv 2) (nomark _)) (nomark _))))) (pss_one (ps_ret pe_bl)) pss_nil)
      (pss_cons (ps_if (PW.pt (pw_or (pt_cmpR (Own.op_eqO N.cQ GQ hr1) (pv 3) (pv 5) (nomark _)) (pw_or (pt_cmpR (Own.op_eqO N.cQ GQ hr1) (pv 3) (pe_callTy call_tuple_of (by rfl) R.tuple (by decide +kernel) (pa_cons (pv 10) pa_nil)) (nomark _))
          (pw_or1 (pt_cmpR op_ne (pe_cmpR (Own.op_neO N.cQ GQ hr2) (pv 3) (pv 4) (nomark _)) (pe_cmpR (op_neD (hu64 hr)) (pv 10) (pv 2) (nomark _)) (nomark _)))))) (pss_one (ps_ret pe_bl)) pss_nil)
      -- bad, odd
      (pss_cons (ps_set (i := 8) scRight.nd rfl (.inr rfl) (pe_call GF hr2 rfl R.gF R.kF N.bF .nil pass0 (pa_cons (pv 0) (pa_cons (pe_lst (pa_cons pe_non (pa_cons pe_str (pa_cons pe_str (pa_cons pe_int (pa_cons pe_bl (pa_cons (pe_tup (pa_cons pe_str pa_nil)) (pa_cons pe_str (pa_cons pe_str (pa_cons pe_dnewK pa_nil)))))))))) pa_nil))))
      (pss_cons (ps_set (i := 9) scRight.nd rfl (.inr rfl) (pe_call GF hr2 rfl R.gF R.kF N.bF .nil pass0 (pa_cons (pv 0) (pa_cons (pe_lst (pa_cons pe_int (pa_cons pe_str (pa_cons (pe_lst pa_nil) (pa_cons pe_str pa_nil))))) pa_nil))))
      -- what came
      (pss_cons (ps_set (i := 6) scRight.nd rfl (.inl rfl) (pe_lst (pa_cons (lam (t := fun E => tMake C (spInit K C CE) [] E (tCons (tVar 8) (tCons (tVar 9) (tCons (tVar 9) tNil)))) rfl (LamX.lamS_by (sc := defScope sRight) (by decide +kernel)) rfl (fun _ _ _ _ _ => rfl) (fun A outer s H E f c' hrl => pe_make N.MI GI hrl rfl T.gC N.bI .nil (passes_call (takes_of rfl rfl rfl rfl) fun _ _ _ _ z => z) (pa_cons (pv 8) (pa_cons (pv 9) (pa_cons (pv 9) pa_nil))))) pa_nil)))
      (pss_cons (ps_expr (pe_bm PySem.F.plainAttrs_list PySem.F.slot_list_append PySem.F.type_list_append mt_append (pv 6) (pa_cons (lam (t := fun E => tMake C (spInit K C CE) [] E (tCons (tOp (rIxL K) (tVar 10) (tC (.int 0))) (tCons (tVar 9) (tCons (tVar 8) tNil)))) rfl (LamX.lamS_by (sc := defScope sRight) (by decide +kernel)) rfl (fun _ _ _ _ _ => rfl) (fun A outer s H E f c' hrl => pe_make N.MI GI hrl rfl T.gC N.bI .nil (passes_call (takes_of rfl rfl rfl rfl) fun _ _ _ _ z => z) (pa_cons (pe_ix ix_list (pv 10) pe_int (fun _ _ => rfl)) (pa_cons (pv 9) (pa_cons (pv 8) pa_nil))))) pa_nil)))
      (pss_cons (ps_expr (pe_bm PySem.F.plainAttrs_list PySem.F.slot_list_append PySem.F.type_list_append mt_append (pv 6) (pa_cons (lam (t := fun E => tMake C (spInit K C CE) [] E (tCons (tOp (rIxL K) (tVar 10) (tC (.int 0))) (tCons (tOp (rIxL K) (tVar 10) (tC (.int 1))) (tCons (tVar 9) tNil)))) rfl (LamX.lamS_by (sc := defScope sRight) (by decide +kernel)) rfl (fun _ _ _ _ _ => rfl) (fun A outer s H E f c' hrl => pe_make N.MI GI hrl rfl T.gC N.bI .nil (passes_call (takes_of rfl rfl rfl rfl) fun _ _ _ _ z => z) (pa_cons (pe_ix ix_list (pv 10) pe_int (fun _ _ => rfl)) (pa_cons (pe_ix ix_list (pv 10) pe_int (fun _ _ => rfl)) (pa_cons (pv 9) pa_nil))))) pa_nil)))
      (pss_cons (ps_expr (pe_bm PySem.F.plainAttrs_list PySem.F.slot_list_append PySem.F.type_list_append mt_append (pv 6) (pa_cons (lam (t := fun E => tMake C (spInit K C CE) [] E (tCons (tOp (rIxL K) (tVar 10) (tC (.int 1))) (tCons (tOp (rIxL K) (tVar 10) (tC (.int 0))) (tCons (tOp (rIxL K) (tVar 10) (tC (.int 2))) tNil)))) rfl (LamX.lamS_by (sc := defScope sRight) (by decide +kernel)) rfl (fun _ _ _ _ _ => rfl) (fun A outer s H E f c' hrl => pe_make N.MI GI hrl rfl T.gC N.bI .nil (passes_call (takes_of rfl rfl rfl rfl) fun _ _ _ _ z => z) (pa_cons (pe_ix ix_list (pv 10) pe_int (fun _ _ => rfl)) (pa_cons (pe_ix ix_list (pv 10) pe_int (fun _ _ => rfl)) (pa_cons (pe_ix ix_list (pv 10) pe_int (fun _ _ => rfl)) pa_nil))))) pa_nil)))
      (pss_cons (ps_expr (pe_bm PySem.F.plainAttrs_list PySem.F.slot_list_append PySem.F.type_list_append mt_append (pv 6) (pa_cons (lam (t := fun E => tMake C (spInit K C CE) [] E (tCons (tOp (rIxL K) (tVar 10) (tC (.int 0))) (tCons (tOp (rIxL K) (tVar 10) (tC (.int 2))) (tCons (tOp (rIxL K) (tVar 10) (tC (.int 1))) tNil)))) rfl (LamX.lamS_by (sc := defScope sRight) (by decide +kernel)) rfl (fun _ _ _ _ _ => rfl) (fun A outer s H E f c' hrl => pe_make N.MI GI hrl rfl T.gC N.bI .nil (passes_call (takes_of rfl rfl rfl rfl) fun _ _ _ _ z => z) (pa_cons (pe_ix ix_list (pv 10) pe_int (fun _ _ => rfl)) (pa_cons (pe_ix ix_list (pv 10) pe_int (fun _ _ => rfl)) (pa_cons (pe_ix ix_list (pv 10) pe_int (fun _ _ => rfl)) pa_nil))))) pa_nil)))
      (pss_cons (ps_setLc (i := 7) (own := [("_law_each", 12)]) (g := gName 12) (tt := tYes) rfl scRight.nd rfl rfl (sw_true rfl rfl rfl (by decide +kernel)) (pi_list (pe_lst (pa_cons (pv 8) (pa_cons (pv 9) (pa_cons (pv 9) (pa_cons (pe_ix ix_list (pv 10) pe_int (fun _ _ => rfl)) (pa_cons (pe_ix ix_list (pv 10) pe_int (fun _ _ => rfl)) pa_nil))))))) (blkOk_by (own := [("_law_each", 12)]) (N := NR) (sc := defScope sRight) (by decide +kernel))
          (fun _ _ _ _ _ => pg_name (i := 12) scRight.nd rfl (.inl rfl)) (fun _ _ _ _ _ => pts_nil) (fun _ _ _ _ _ => pe_lst (pa_cons pe_str (pa_cons (pv 12) (pa_cons pe_bl pa_nil)))))
      (pss_one (ps_ret (pe_cmpR op_eq (pe_callB (Gd.call_reprD hgd hr sm) (by rfl) R.repr (by decide +kernel) (pa_cons (pv 6) pa_nil)) (pe_callB (Gd.call_reprD hgd hr sm) (by rfl) R.repr (by decide +kernel) (pa_cons (pv 7) pa_nil)) (nomark _)))))))))))))))))), ?_⟩
    -- lists
    refine ⟨(by show 2 ≤ sizeLine; decide), fun l1 n1 => ⟨(by show 2 ≤ sizeLine; decide), fun l2 n2 => ⟨(by show 3 ≤ sizeLine; decide), fun l3 n3 => ⟨(by show 3 ≤ sizeLine; decide), fun L nL => ?_⟩⟩⟩⟩
    have t1 := same_upd (o := .lst wsA) n1
    have t2 := same_upd (o := .lst wsP) n2
    have t3 := same_upd (o := .lst wsE) n3
    have t4 := same_upd (o := .lst [.ref l1, .ref l2, .ref l3]) nL
    have s1 : Same H (upd (upd (upd (upd H l1 (.lst wsA)) l2 (.lst wsP)) l3 (.lst wsE)) L (.lst [.ref l1, .ref l2, .ref l3])) := Same.trans t1 (Same.trans t2 (Same.trans t3 t4))
    have e1 : (upd (upd (upd (upd H l1 (.lst wsA)) l2 (.lst wsP)) l3 (.lst wsE)) L (.lst [.ref l1, .ref l2, .ref l3])) l1 = some (.lst wsA) := t4 _ _ (t3 _ _ (t2 _ _ upd_same))
    have e2 : (upd (upd (upd (upd H l1 (.lst wsA)) l2 (.lst wsP)) l3 (.lst wsE)) L (.lst [.ref l1, .ref l2, .ref l3])) l2 = some (.lst wsP) := t4 _ _ (t3 _ _ upd_same)
    have e3 : (upd (upd (upd (upd H l1 (.lst wsA)) l2 (.lst wsP)) l3 (.lst wsE)) L (.lst [.ref l1, .ref l2, .ref l3])) l3 = some (.lst wsE) := t4 _ _ upd_same
    have eL : (upd (upd (upd (upd H l1 (.lst wsA)) l2 (.lst wsP)) l3 (.lst wsE)) L (.lst [.ref l1, .ref l2, .ref l3])) L = some (.lst [.ref l1, .ref l2, .ref l3]) := upd_same
    show tSeq _ _ _ _ (upd (upd (upd (upd H l1 (.lst wsA)) l2 (.lst wsP)) l3 (.lst wsE)) L (.lst [.ref l1, .ref l2, .ref l3]))
    generalize upd (upd (upd (upd H l1 (.lst wsA)) l2 (.lst wsP)) l3 (.lst wsE)) L (.lst [.ref l1, .ref l2, .ref l3]) = H1 at s1 e1 e2 e3 eL ⊢
    clear t1 t2 t3 t4 n1 n2 n3 nL
    have J1 := hJ.same s1
    have T1 := hT.ext s1
    -- one
    refine ⟨_, rfl, L, rfl, ⟨_, SqL.of eL⟩, fun D nD => words_lc (K := K) (j := j) (L := L) rfl (fun v => ⟨rfl, rfl, rfl⟩) J1 eL e1 e2 e3 nD fun H2 A B E0' hA hB hE o2 J2 hD => ?_⟩
    -- two
    have nl : ∀ {p : Addr} {xs : List V}, H1 p = some (.lst xs) → (∀ a b c : Int, xs ≠ [.int a, .int b, .int c]) → p ≠ j := fun {p xs} h n z => by
      obtain ⟨a, b, c, q⟩ := J1
      rw [z, q] at h
      cases h
      exact n a b c rfl
    have eL2 := o2 _ _ (nl eL (by intro a b c z; cases z)) eL
    refine ⟨_, rfl, L, rfl, ⟨_, SqL.of eL2⟩, fun D2 nD2 => words_lc (K := K) (j := j) (L := L) rfl (fun v => ⟨rfl, rfl, rfl⟩) J2 eL2 (o2 _ _ (nl e1 (by intro a b c z; cases z)) e1) (o2 _ _ (nl e2 (by intro a b c z; cases z)) e2) (o2 _ _ (nl e3 (by intro a b c z; cases z)) e3) nD2 fun H3 A2 B2 E2 hA2 hB2 hE2 o3 J3 hD2 => ?_⟩
    have nDj : D ≠ j := jar_ne J1 nD
    have hD3 := o3 _ _ nDj hD
    have o13 : Off j H1 H3 := o2.trans o3
    have T3 : LamX.Tabs [(PR, qLam)] H3 := fun p hp => by
      obtain ⟨ps, a1, a2, a3⟩ := T1 p hp
      refine ⟨ps, o13 _ _ (fun z => ?_) a1, a2, fun pos cv hcv => ?_⟩
      · obtain ⟨a, b, c, q⟩ := J1
        rw [z, q] at a1
        cases a1
      · obtain ⟨c, e, h⟩ := a3 pos cv hcv
        refine ⟨c, e, o13 _ _ (fun z => ?_) h⟩
        obtain ⟨a, b, c, q⟩ := J1
        rw [z, q] at h
        cases h
    -- made
    refine ⟨_, rfl, D, _, 0, _, rfl, rfl, SqL.of hD3, rfl, _, rfl, D, _, 1, _, rfl, rfl, SqL.of hD3, rfl, _, rfl, D, _, 2, _, rfl, rfl, SqL.of hD3, rfl, ?_⟩
    intro x dx nx ndx nex
    refine ⟨x, dx, .str A, .str B, .str E0', rfl, upd_same, tyS A, tyS B, tyS E0', fun _ _ _ H4 f4 h4 => ⟨rfl, ?_⟩, fun z => absurd ((okA hA).1.symm.trans z) (by decide), fun _ z => absurd ((okP hB).1.symm.trans z) (by decide), fun _ _ z => absurd ((okE hE).1.symm.trans z) (by decide)⟩
    have s34 : Same H3 H4 := fun b o e => f4 b o (ne_of_none e nx) (by rw [upd_ne (ne_of_none e nx), upd_ne (ne_of_none e ndx)]; exact e)
    have hD4 := s34 _ _ hD3
    have hD24 := s34 _ _ hD2
    -- mate
    refine ⟨_, rfl, D2, _, 2, _, rfl, rfl, SqL.of hD24, rfl, _, rfl, D2, _, 0, _, rfl, rfl, SqL.of hD24, rfl, _, rfl, D2, _, 1, _, rfl, rfl, SqL.of hD24, rfl, rfl, rfl, ?_⟩
    intro y dy ny ndy ney
    refine ⟨y, dy, .str A2, .str B2, .str E2, rfl, upd_same, tyS A2, tyS B2, tyS E2, fun _ _ _ H5 f5 h5 => ⟨rfl, ?_⟩, fun z => absurd ((okA hA2).1.symm.trans z) (by decide), fun _ z => absurd ((okP hB2).1.symm.trans z) (by decide), fun _ _ z => absurd ((okE hE2).1.symm.trans z) (by decide)⟩
    have s45 : Same H4 H5 := fun b o e => f5 b o (ne_of_none e ny) (by rw [upd_ne (ne_of_none e ny), upd_ne (ne_of_none e ndy)]; exact e)
    have hD5 := s45 _ _ hD4
    have hD25 := s45 _ _ hD24
    have hO : Src C H5 x A B E0' := ⟨dx, s45 _ _ h4⟩
    have hO2 : Src C H5 y A2 B2 E2 := ⟨dy, h5⟩
    have sh1 := sh_of hA hB hE
    -- line
    refine ⟨⟨_, rfl⟩, _, rfl, " ", D, [A, B, E0'], rfl, rfl, .inl (SqL.of hD5), ?_, _, _, _, rfl, ?_⟩
    · obtain ⟨q1, q2, q3⟩ := sh1
      have q4 : (" " : Str).length = 1 := rfl
      simp only [List.map_cons, List.map_nil, List.sum_cons, List.sum_nil, List.length_cons, List.length_nil, q4]
      omega
    -- seen
    obtain ⟨dx', hOx⟩ := id hO
    refine ⟨_, rfl, x, C, dx', _, _, rfl, hOx, T.cl, T.nA, sf_am _ _ _, _, rfl, x, C, dx', _, _, rfl, hOx, T.cl, T.nP, sf_pa _ _ _, _, rfl, x, C, dx', _, _, rfl, hOx, T.cl, T.nE, sf_en _ _ _, ?_⟩
    refine ⟨_, rfl, x, dx', _, rfl, hOx, x, A, B, E0', rfl, hO, sh1, _, rfl, ?_⟩
    refine ⟨_, rfl, x, dx', _, rfl, hOx, x, A, B, E0', rfl, hO, sh1, _, rfl, ?_⟩
    refine ⟨_, rfl, x, dx', _, rfl, hOx, (by show 6 ≤ sizeLine; decide), fun sn nsn => ?_⟩
    rw [join_is hA hB hE, join_is2 hA hB hE]
    obtain ⟨w1, w2, w3, w4⟩ := words_ok hA hB hE
    obtain ⟨w5, _, _, _⟩ := words_ok hA2 hB2 hE2
    have t6 := same_upd (o := .lst [.str A, .str B, .str E0', .str (Txt.join " " [A, B, E0']), .str (("Source(" : Str) ++ Txt.join " " [A, B, E0'] ++ ")"), .bl true]) nsn
    have hsn : (upd H5 sn (.lst [.str A, .str B, .str E0', .str (Txt.join " " [A, B, E0']), .str (("Source(" : Str) ++ Txt.join " " [A, B, E0'] ++ ")"), .bl true])) sn = some (.lst [.str A, .str B, .str E0', .str (Txt.join " " [A, B, E0']), .str (("Source(" : Str) ++ Txt.join " " [A, B, E0'] ++ ")"), .bl true]) := upd_same
    show tSeq _ _ _ _ (upd H5 sn (.lst [.str A, .str B, .str E0', .str (Txt.join " " [A, B, E0']), .str (("Source(" : Str) ++ Txt.join " " [A, B, E0'] ++ ")"), .bl true]))
    generalize upd H5 sn (.lst [.str A, .str B, .str E0', .str (Txt.join " " [A, B, E0']), .str (("Source(" : Str) ++ Txt.join " " [A, B, E0'] ++ ")"), .bl true]) = H6 at t6 hsn ⊢
    have hD6 := t6 _ _ hD5
    have hD26 := t6 _ _ hD25
    have hO6 := hO.same t6
    have hO26 := hO2.same t6
    have q7 : ("Source(" : Str).length = 7 := rfl
    have q1 : (")" : Str).length = 1 := rfl
    -- if seen != .. or ..
    refine ⟨_, rfl, _, rfl, _, rfl, _, rfl, _, _, rfl, rfl, szl (by omega), _, _, rfl, rfl, szl (by rw [strLen_append]; omega), (by show 3 ≤ sizeLine; decide), fun lc nlc => ?_⟩
    refine ⟨D, lc, _, _, rfl, rfl, same_upd nlc _ _ hD6, upd_same, (by show 3 + 3 ≤ sizeLine; decide), fun cc ncc => ?_⟩
    have t7 := Same.trans (same_upd (o := .lst [.str (Txt.join " " [A, B, E0']), .str (("Source(" : Str) ++ Txt.join " " [A, B, E0'] ++ ")"), .bl true]) nlc) (same_upd (o := .lst ([.str A, .str B, .str E0'] ++ [.str (Txt.join " " [A, B, E0']), .str (("Source(" : Str) ++ Txt.join " " [A, B, E0'] ++ ")"), .bl true])) ncc)
    refine ⟨dSeen A B E0', dSeen A B E0', .lst (SqL.of (t7 _ _ hsn)) (.cons (.str _) (.cons (.str _) (.cons (.str _) (.cons (.str _) (.cons (.str _) (.cons (.bl _) .nil)))))), .lst (SqL.of upd_same) (.cons (.str _) (.cons (.str _) (.cons (.str _) (.cons (.str _) (.cons (.str _) (.cons (.bl _) .nil)))))), w2, w2, _, rfl, ?_⟩
    rw [w3]
    refine iteF ?_
    have hD7 := t7 _ _ hD6
    have hD27 := t7 _ _ hD26
    have hO7 := hO6.same t7
    have hO27 := hO26.same t7
    have t67 := t7
    generalize upd (upd H6 lc (.lst [.str (Txt.join " " [A, B, E0']), .str (("Source(" : Str) ++ Txt.join " " [A, B, E0'] ++ ")"), .bl true])) cc (.lst ([.str A, .str B, .str E0'] ++ [.str (Txt.join " " [A, B, E0']), .str (("Source(" : Str) ++ Txt.join " " [A, B, E0'] ++ ")"), .bl true])) = H7 at t7 t67 hD7 hD27 hO7 hO27 ⊢
    obtain ⟨dx7, hx7⟩ := id hO7
    have nfC : PySem.W.notFirst K C (.ref C) = true := by
      unfold PySem.W.notFirst
      simp
    refine ⟨_, rfl, _, rfl, x, dx7, _, .ref C, rfl, hx7, src_ty T hO27, nfC, x, A, B, E0', .ref y, rfl, hO7, .inl ⟨y, A2, B2, E2, rfl, hO27, ?_⟩⟩
    refine ⟨_, rfl, _, rfl, dWords A B E0', dWords A2 B2 E2, .lst (SqL.of hD7) (.cons (.str _) (.cons (.str _) (.cons (.str _) .nil))), .lst (SqL.of hD27) (.cons (.str _) (.cons (.str _) (.cons (.str _) .nil))), w1, w5, rfl, _, rfl, ?_⟩
    rw [words_eqv, decide_eq_true rfl]
    refine iteF ?_
    -- if made == line or made == tuple(one) or ..
    have nfS : PySem.W.notFirst K C (.type "str") = true := by
      unfold PySem.W.notFirst
      rw [T.s2]
      simp
    have nfT : PySem.W.notFirst K C (.type "tuple") = true := by
      unfold PySem.W.notFirst
      rw [T.s3]
      simp
    refine ⟨_, rfl, _, rfl, x, dx7, _, .type "str", rfl, hx7, .base (.str _), nfS, x, A, B, E0', _, rfl, hO7, .inr ⟨.type "str", .base (.str _), T.k2, _, rfl, iteF ?_⟩⟩
    refine ⟨_, rfl, _, rfl, D, _, rfl, .inl ⟨SqL.of hD7, fun tt ntt => ?_⟩⟩
    have t8 := same_upd (o := .tup [.str A, .str B, .str E0']) ntt
    refine ⟨x, dx7, _, .type "tuple", rfl, t8 _ _ hx7, .base (.tup upd_same), nfT, x, A, B, E0', .ref tt, rfl, hO7.same t8, .inr ⟨.type "tuple", .base (.tup upd_same), T.k3, _, rfl, iteF ?_⟩⟩
    have t68 := Same.trans t67 t8
    have hD8 := t8 _ _ hD7
    have hD28 := t8 _ _ hD27
    have hO8 := hO7.same t8
    have hO28 := hO27.same t8
    generalize upd H7 tt (.tup [.str A, .str B, .str E0']) = H8 at t8 t68 hD8 hD28 hO8 hO28 ⊢
    obtain ⟨dx8, hx8⟩ := id hO8
    refine ⟨_, rfl, _, rfl, x, dx8, _, .ref C, rfl, hx8, src_ty T hO28, nfC, x, A, B, E0', .ref y, rfl, hO8, .inl ⟨y, A2, B2, E2, rfl, hO28, _, rfl, ?_⟩⟩
    refine ⟨_, rfl, _, rfl, dWords A B E0', dWords A2 B2 E2, .lst (SqL.of hD8) (.cons (.str _) (.cons (.str _) (.cons (.str _) .nil))), .lst (SqL.of hD28) (.cons (.str _) (.cons (.str _) (.cons (.str _) .nil))), w1, w5, rfl, _, rfl, ?_⟩
    rw [words_eqv, decide_eq_true rfl]
    refine iteF ?_
    -- bad
    have s8 : Same H3 H8 := Same.trans s34 (Same.trans s45 (Same.trans t6 t68))
    have J8 := J3.same s8
    have T8 := T3.ext s8
    have o8 : Off j H H8 := (Same.off s1).trans (o13.trans (Same.off s8))
    refine ⟨_, rfl, (by show 1 ≤ sizeLine; decide), fun tb ntb dd ndd => ⟨(by show 9 ≤ sizeLine; decide), fun Lb nLb => ?_⟩⟩
    have u1 := same_upd (o := .tup [.str "short"]) ntb
    have u2 := same_upd (o := .dK []) ndd
    have u3 := same_upd (o := .lst [.non, .str "", .str "exactly", .int 5, .bl true, .ref tb, .str "empty ", .str "Exact", .ref dd]) nLb
    refine ⟨j, Lb, _, rfl, J8.same (Same.trans u1 (Same.trans u2 u3)), jar_ne (J8.same (Same.trans u1 u2)) nLb, SqL.of upd_same, (by show 0 < 9; decide), (by show 9 < 1073741824; decide), fun H9 ib bad hbad o9 J9 => ?_⟩
    have ntj : tb ≠ j := jar_ne J8 ntb
    have ndj : dd ≠ j := jar_ne (J8.same u1) ndd
    have htb : H9 tb = some (.tup [.str "short"]) := o9 _ _ ntj (u3 _ _ (u2 _ _ upd_same))
    have hdd : H9 dd = some (.dK []) := o9 _ _ ndj (u3 _ _ upd_same)
    have o89 : Off j H8 H9 := (Same.off (Same.trans u1 (Same.trans u2 u3))).trans o9
    -- odd
    refine ⟨_, rfl, Nat.zero_le _, fun te nte => ⟨(by show 4 ≤ sizeLine; decide), fun Lo nLo => ?_⟩⟩
    have u4 := same_upd (o := .lst []) nte
    have u5 := same_upd (o := .lst [.int 0, .str "with it", .ref te, .str "eMPTY"]) nLo
    refine ⟨j, Lo, _, rfl, J9.same (Same.trans u4 u5), jar_ne (J9.same u4) nLo, SqL.of upd_same, (by show 0 < 4; decide), (by show 4 < 1073741824; decide), fun Ha io odd hodd oa Ja => ?_⟩
    have o9a : Off j H9 Ha := (Same.off (Same.trans u4 u5)).trans oa
    have hte : Ha te = some (.lst []) := oa _ _ (jar_ne J9 nte) (u5 _ _ upd_same)
    obtain ⟨db, fb, kb⟩ := bad_fine (K := K) (o9a _ _ ntj htb) (o9a _ _ ndj hdd) hbad
    obtain ⟨dod, fo, ko, ke⟩ := odd_fine (K := K) hte hodd
    have oHa : Off j H Ha := o8.trans (o89.trans o9a)
    have o8a : Off j H8 Ha := o89.trans o9a
    have Ta : LamX.Tabs [(PR, qLam)] Ha := fun p hp => by
      obtain ⟨ps, a1, a2, a3⟩ := T8 p hp
      refine ⟨ps, o8a _ _ (fun z => ?_) a1, a2, fun pos cv hcv => ?_⟩
      · obtain ⟨a, b, c, q⟩ := J8
        rw [z, q] at a1
        cases a1
      · obtain ⟨c, e, h⟩ := a3 pos cv hcv
        refine ⟨c, e, o8a _ _ (fun z => ?_) h⟩
        obtain ⟨a, b, c, q⟩ := J8
        rw [z, q] at h
        cases h
    have hDa : Ha D = some (.lst [.str A, .str B, .str E0']) := o8a _ _ nDj hD8
    have fA : ∀ {Hx : Hp}, Fine K Hx (.str A) (.str A) := fun {Hx} => wordF (.inl hA)
    have fB : ∀ {Hx : Hp}, Fine K Hx (.str B) (.str B) := fun {Hx} => wordF (.inr (.inl hB))
    have fE' : ∀ {Hx : Hp}, Fine K Hx (.str E0') (.str E0') := fun {Hx} => wordF (.inr (.inr hE))
    -- what came
    refine lam_word Ta fb fo fo (fun H1 _ R r => ⟨_, rfl, _, rfl, _, rfl, r⟩) (.inl ⟨kb, rfl⟩) fun Hb p1 xb Tb hp1 => ?_
    refine ⟨(by show 1 ≤ sizeLine; decide), fun sq nsq => ?_⟩
    have nq : ∀ b o, Ha b = some o → (∀ ps, o ≠ .tbl ps) → b ≠ sq := fun b o h n => ne_of_none (xb b o h n) nsq
    have st1 : Seen [(PR, qLam)] Ha (upd Hb sq (.lst [.ref p1])) sq [.ref p1] [bad] := ⟨xb.trans (ext_same (same_upd nsq)), Tb.ext (same_upd nsq), upd_same, .cons (same_upd nsq _ _ hp1) .nil⟩
    show tSeq _ _ _ _ (upd Hb sq (.lst [.ref p1]))
    generalize upd Hb sq (.lst [.ref p1]) = Hc at st1 ⊢
    have atD : ∀ {Hx Hy : Hp} {xs vs : List V}, Seen [(PR, qLam)] Ha Hx sq xs vs → LamX.ExtN Hx Hy → SqL K Hy D [.str A, .str B, .str E0'] := fun st e => SqL.of (e _ _ (st.ext _ _ hDa (by intro ps z; cases z)) (by intro ps z; cases z))
    refine ⟨_, rfl, .inl ⟨rfl, _, SqL.of st1.at_⟩, ?_⟩
    refine lam_word st1.tab fA (fo.ext st1.ext) (fb.ext st1.ext) (fun H1 e R r => ⟨_, rfl, D, _, 0, _, rfl, rfl, atD st1 e, rfl, _, rfl, _, rfl, r⟩) (.inr (.inl ⟨(okA hA).1, ko, rfl⟩)) fun Hd p2 xd Td hp2 => ?_
    obtain ⟨a2, st2⟩ := st1.step nq xd Td hp2
    refine ⟨sq, _, _, rfl, rfl, a2, small1000 (by show 1 ≤ 1000; decide), ?_⟩
    refine ⟨_, rfl, .inl ⟨rfl, _, SqL.of st2.at_⟩, ?_⟩
    refine lam_word st2.tab fA fB (fo.ext st2.ext) (fun H1 e R r => ⟨_, rfl, D, _, 0, _, rfl, rfl, atD st2 e, rfl, _, rfl, D, _, 1, _, rfl, rfl, atD st2 e, rfl, _, rfl, r⟩) (.inr (.inr ⟨(okA hA).1, (okP hB).1, ke, rfl⟩)) fun He p3 xe Te hp3 => ?_
    obtain ⟨a3, st3⟩ := st2.step nq xe Te hp3
    refine ⟨sq, _, _, rfl, rfl, a3, small1000 (by show 2 ≤ 1000; decide), ?_⟩
    refine ⟨_, rfl, .inl ⟨rfl, _, SqL.of st3.at_⟩, ?_⟩
    refine lam_word st3.tab fB fA fE' (fun H1 e R r => ⟨_, rfl, D, _, 1, _, rfl, rfl, atD st3 e, rfl, _, rfl, D, _, 0, _, rfl, rfl, atD st3 e, rfl, _, rfl, D, _, 2, _, rfl, rfl, atD st3 e, rfl, r⟩) (.inl ⟨(okP hB).2, rfl⟩) fun Hf p4 xf Tf hp4 => ?_
    obtain ⟨a4, st4⟩ := st3.step nq xf Tf hp4
    refine ⟨sq, _, _, rfl, rfl, a4, small1000 (by show 3 ≤ 1000; decide), ?_⟩
    refine ⟨_, rfl, .inl ⟨rfl, _, SqL.of st4.at_⟩, ?_⟩
    refine lam_word st4.tab fA fE' fB (fun H1 e R r => ⟨_, rfl, D, _, 0, _, rfl, rfl, atD st4 e, rfl, _, rfl, D, _, 2, _, rfl, rfl, atD st4 e, rfl, _, rfl, D, _, 1, _, rfl, rfl, atD st4 e, rfl, r⟩) (.inr (.inl ⟨(okA hA).1, (okE hE).2, rfl⟩)) fun Hg p5 xg Tg hp5 => ?_
    obtain ⟨a5, st5⟩ := st4.step nq xg Tg hp5
    refine ⟨sq, _, _, rfl, rfl, a5, small1000 (by show 4 ≤ 1000; decide), ?_⟩
    have st5' : Seen [(PR, qLam)] Ha (upd Hg sq (.lst ((([V.ref p1] ++ [.ref p2]) ++ [.ref p3]) ++ [.ref p4] ++ [.ref p5]))) sq [.ref p1, .ref p2, .ref p3, .ref p4, .ref p5] [bad, odd, odd, .str B, .str E0'] := st5
    show tSeq _ _ _ _ (upd Hg sq (.lst ((([V.ref p1] ++ [.ref p2]) ++ [.ref p3]) ++ [.ref p4] ++ [.ref p5])))
    generalize upd Hg sq (.lst ((([V.ref p1] ++ [.ref p2]) ++ [.ref p3]) ++ [.ref p4] ++ [.ref p5])) = Hh at st5' ⊢
    clear st5 st4 st3 st2 st1
    have hDh := atD st5' (LamX.ExtN.refl Hh)
    -- due
    refine ⟨_, rfl, _, rfl, _, rfl, _, rfl, D, _, 1, _, rfl, rfl, hDh, rfl, _, rfl, D, _, 2, _, rfl, rfl, hDh, rfl, (by show 5 ≤ sizeLine; decide), fun Ld nLd => ?_⟩
    have u6 := same_upd (o := .lst [bad, odd, odd, .str B, .str E0']) nLd
    have hLd : (upd Hh Ld (.lst [bad, odd, odd, .str B, .str E0'])) Ld = some (.lst [bad, odd, odd, .str B, .str E0']) := upd_same
    generalize upd Hh Ld (.lst [bad, odd, odd, .str B, .str E0']) = Hi at u6 hLd ⊢
    refine ⟨Ld, rfl, ⟨_, SqL.of hLd⟩, fun D3 nD3 => ?_⟩
    refine lc_list (K := K) (a := Ld) (xs := [bad, odd, odd, .str B, .str E0']) (fun n H' => Same Hi H' ∧ ∃ xs, H' D3 = some (.lst xs) ∧ Rows H' xs ([bad, odd, odd, .str B, .str E0'].take n)) ⟨same_upd nD3, [], upd_same, .nil⟩ (fun n H' _ ⟨sm', _⟩ => SqL.of (sm' _ _ hLd)) ?_ ?_
    · rintro n v H' hv ⟨sm', xs, h3, rw3⟩
      refine ⟨rfl, _, rfl, (by show 3 ≤ sizeLine; decide), fun qq nqq => ?_⟩
      have u7 := same_upd (o := .lst [.str "InvalidWord", v, .bl true]) nqq
      have h3' := u7 _ _ h3
      have r3 := rw3.ext (ext_same u7)
      have hn : n < 5 := (List.getElem?_eq_some_iff.mp hv).1
      refine ⟨xs, h3', small1000 (by rw [rw3.len, List.length_take]; omega), fun b o h => ?_, _, upd_same, ?_⟩
      · rw [upd_ne (ne_of_none h nD3)]
        exact u7 _ _ (sm' _ _ h)
      · have et : [bad, odd, odd, .str B, .str E0'].take (n + 1) = [bad, odd, odd, .str B, .str E0'].take n ++ [v] := by
          rw [List.take_add_one, hv]
          rfl
        rw [et]
        exact Rows.snoc (by rw [upd_ne (Rows.ne h3' r3 upd_same)]; exact upd_same) (Rows.put h3' r3 r3)
    · rintro Hj ⟨sj, xs, h3, r3⟩
      have xj : LamX.ExtN Hh Hj := ext_same (Same.trans u6 sj)
      have xaj := st5'.ext.trans xj
      have ff : Fines K Hj [bad, odd, odd, .str B, .str E0'] [db, dod, dod, .str B, .str E0'] := .cons (fb.ext xaj) (.cons (fo.ext xaj) (.cons (fo.ext xaj) (.cons fB (.cons fE' .nil))))
      obtain ⟨g1, g2, g3⟩ := rows_fit ff (by show 5 ≤ 5; decide)
      refine ⟨_, rfl, sq, _, rfl, .lst (xj _ _ st5'.at_ (by intro ps z; cases z)) ((st5'.row.ext xj).dq ff), g1, g2, g3, ?_⟩
      refine ⟨_, rfl, D3, _, rfl, .lst h3 (Rows.dq (by simpa using r3) ff), g1, g2, g3, rfl, ?_⟩
      rw [decide_eq_true rfl]
      exact k _ (fun b o nb nt h => xaj _ _ (oHa _ _ nb h) nt) ((st5'.tab).ext (Same.trans u6 sj))
end
end My

namespace My
open PySem L2
abbrev sLaw : Stmt := top 16
theorem gKw_rel {vs zs : List V} {us ws : List Value} (h1 : Vals vs us) (h2 : Vals zs ws) : Vals (gKwV vs zs) (gKw us ws) := by
  cases h1 with
  | nil => exact .nil
  | cons a t1 =>
    cases t1 with
    | cons _ _ => exact .nil
    | nil =>
      cases h2 with
      | nil => exact .nil
      | cons b t2 =>
        cases t2 with
        | nil => exact .nil
        | cons c t3 =>
          cases t3 with
          | nil => exact .nil
          | cons d t4 =>
            cases t4 with
            | cons _ _ => exact .nil
            | nil => exact .cons a (.cons c (.cons d (.cons b .nil)))
def spLaw (K : PySem.W.Frag) (PR : Addr) : Sp := fun vs H Q _ => ∃ (a : Addr) (ns : List Int), vs = [.ref a] ∧ SqL K H a (ns.map V.int) ∧ ns.length ≤ 63 ∧ LamX.Tabs [(PR, qLam)] H ∧ ∀ H', Q (.bl true) H'
theorem scLaw : FnScope ["_law_script", "_law_k"] ["_law_script"] (defScope sLaw) := ⟨rfl, rfl, rfl, by decide +kernel, rfl, by decide +kernel, by decide +kernel⟩
theorem all_true : ∀ n : Nat, (List.replicate n true).all id = true
  | 0 => rfl
  | n + 1 => all_true n
theorem extN_sq {K : PySem.W.Frag} {a : Addr} {H H' : Hp} {xs : List V} (e : LamX.ExtN H H') (h : SqL K H a xs) : SqL K H' a xs := by
  rcases h with (h | ⟨o, h⟩) | h
  · exact .inl (.inl (e _ _ h (by intro ps z; cases z)))
  · exact .inl (.inr ⟨o, e _ _ h (by intro ps z; cases z)⟩)
  · exact .inr h
section
variable {P : Program} {w : World} {K : PySem.W.Frag} {mg : Str → Option Value} {base : Heap} {CE fE C CI pA pP pE fCW fI fEq fStr fRepr fF fS fCame cR PR : Addr} {fdE fdCW fdI fdEq fdStr fdRepr fdF fdS fdCame : FuncData}
theorem ok_law {f fJ fR : Addr} {fd fdJ fdR : FuncData} (F : Fun K "law" "law" sLaw f fd) (TJ : TxtJ mg) (S : TxtS K mg fS) (T : TxtW K mg C pA pP pE fCW) (TE : TxtE K mg CE fE) (TC : TxtC K mg CE CI fCame) (R : TxtR K mg fF)
    (N : FnR1 K C CE fE fCW fI fEq fStr fRepr fF fS fCame fdE fdCW fdI fdEq fdStr fdRepr fdF fdS fdCame)
    (FJ : Fun K "_law_jar" "_law_jar" sJar fJ fdJ) (bJ : Binds K fdJ ["_law_script", "_law_k"] []) (gJ : mg "_law_jar" = some (.ref fJ)) (kJ : PySem.W.keepIn K (.ref fJ) = true)
    (FR : Fun K "_law_right" "_law_right" sRight fR fdR) (hcd : fdR.code = .ref cR) (sm : ∃ ob, base.get? sysModules = some ob) (TB : LamX.TabB base mg cR PR) (bR : Binds K fdR ["_law_jar_here"] []) (gR : mg "_law_right" = some (.ref fR)) (kR : PySem.W.keepIn K (.ref fR) = true) (mall : mg "all" = none) (mmax : mg "max" = none) (mmin : mg "min" = none) (mrange : mg "range" = none) :
    Gd.FnG P w K mg base CX0 10 f fd ["_law_script"] (spLaw K PR) := by
  have GJ : FnOk P w K mg base CX0 1 fJ fdJ ["_law_script", "_law_k"] (spJar K) := ok_jar FJ TJ
  have GR : Gd.FnG P w K mg base CX0 9 fR fdR ["_law_jar_here"] (spRight PR) := ok_right FR TJ S T TE TC R N hcd sm TB
  refine Gd.okG F scLaw (fun vs H Q E h => ?_) (fun cdv A outer s H vs Q E _ _ _ hgd hr h => ?_)
  · obtain ⟨a, ns, rfl, _⟩ := h
    rfl
  · obtain ⟨a, ns, rfl, hS, hl, hT, k⟩ := h
    have hr1 : Room 1 _ := hr.mono (by decide)
    refine ⟨_, pss_one (ps_ret (pe_callB (cr_all rfl) (by rfl) mall (by decide +kernel) (pa_cons (pe_lc (own := [("_law_k", 1)]) (g := gName 1) (tt := tYes) rfl scLaw.nd
      (pi_range1 rfl mrange (pa_cons (pe_callB (call_max2 rfl) (by rfl) mmax (by decide +kernel) (pa_cons pe_int (pa_cons (pe_callB (call_min2 rfl) (by rfl) mmin (by decide +kernel) (pa_cons (pe_callB call_len_seq (by rfl) TJ.len PySem.boot_len (pa_cons (pv 0) pa_nil)) (pa_cons pe_int pa_nil))) pa_nil))) pa_nil))
      (blkOk_by (own := [("_law_k", 1)]) (N := ["_law_script", "_law_k"]) (sc := defScope sLaw) (by decide +kernel)) (fun _ _ _ _ _ => pg_name (i := 1) scLaw.nd rfl (Or.inl rfl)) (fun _ _ _ _ _ => pts_nil)
      (fun _ _ _ _ _ => Gd.pe_callG GR hgd hr rfl gR kR bR .nil pass0 (pa_cons (pe_call GJ hr1 rfl gJ kJ bJ .nil pass0 (pa_cons (pv 0) (pa_cons (pv 1) pa_nil))) pa_nil))) pa_nil))), ?_⟩
    refine ⟨_, rfl, a, _, rfl, .inl hS, _, _, rfl, _, _, rfl, ?_⟩
    rw [List.length_map]
    have hm : ∃ n : Nat, (if (if (5 : Int) < (ns.length : Int) then 5 else (ns.length : Int)) > 2 then (if (5 : Int) < (ns.length : Int) then 5 else (ns.length : Int)) else 2) = (n : Int) ∧ n ≤ 5 := by
      by_cases h5 : (5 : Int) < (ns.length : Int)
      · rw [if_pos h5]
        exact ⟨5, rfl, Nat.le_refl _⟩
      · rw [if_neg h5]
        by_cases h2 : (ns.length : Int) > 2
        · rw [if_pos h2]
          exact ⟨ns.length, rfl, by omega⟩
        · rw [if_neg h2]
          exact ⟨2, rfl, by omega⟩
    obtain ⟨n, en, hn⟩ := hm
    refine ⟨_, rfl, by rw [en]; omega, by rw [en]; omega, fun D nD => ?_⟩
    rw [en]
    refine lc_range (lo := 0) (n := ((n : Int)).toNat) (fun i H' => LamX.ExtN H H' ∧ LamX.Tabs [(PR, qLam)] H' ∧ H' D = some (.lst ((List.replicate i true).map V.bl))) ⟨LamX.ExtN.of (same_upd nD), hT.ext (same_upd nD), upd_same⟩ ?_ ?_
    · rintro i H1 hi ⟨x1, T1, hD⟩
      refine ⟨rfl, _, rfl, _, rfl, a, ns, i, by rw [Int.zero_add]; rfl, extN_sq x1 hS, hl, fun H2 j s2 nj J2 => ?_⟩
      refine ⟨j, rfl, J2, T1.ext s2, fun H3 o3 T3 => ?_⟩
      have x3 : LamX.ExtN H1 H3 := fun b o q n => o3 b o (fun z => by rw [z, nj] at q; cases q) n (s2 b o q)
      have hD3 := x3 _ _ hD (by intro ps z; cases z)
      refine ⟨_, hD3, small1000 (by rw [List.length_map, List.length_replicate]; omega), fun b o q n => ?_, tabs_put hD3 T3, ?_⟩
      · rw [upd_ne (ne_of_none q nD)]
        exact x3 _ _ (x1 _ _ q n) n
      · rw [upd_same, List.replicate_succ', List.map_append]
        rfl
    · rintro H1 ⟨x1, _, hD⟩
      refine ⟨D, List.replicate _ true, rfl, SqL.of hD, ?_⟩
      rw [all_true]
      exact k H1
end
theorem all_mk {l : PySem.W.OpenLaw} {w : World} {K : PySem.W.Frag} {h : Heap} {mg : Str → Option Value} {fa C CE CI cR PR f1 f2 f3 f4 f5 f6 f7 f8 f9 f10 f11 f12 pA pP pE : Addr} (X : K.In h) (G : h.Ns mainGlobals mg) (hfa : mg "law" = some (.ref fa))
    {odC od1 an1 od2 an2 od3 an3 od4 an4 od5 an5 od6 an6 od7 an7 od8 an8 od9 an9 od10 an10 od11 an11 od12 an12 odA odP odE : Option Addr} {slC sl1 sl2 sl3 sl4 sl5 sl6 sl7 sl8 sl9 sl10 sl11 sl12 slA slP slE : Array (Option Value)} {ocC oc1 kV1 dc1 pm1 cd1 ct1 oc2 kV2 dc2 pm2 cd2 ct2 oc3 kV3 dc3 pm3 cd3 ct3 oc4 kV4 dc4 pm4 cd4 ct4 oc5 kV5 dc5 pm5 cd5 ct5 oc6 kV6 dc6 pm6 cd6 ct6 oc7 kV7 dc7 pm7 cd7 ct7 oc8 kV8 dc8 pm8 cd8 ct8 oc9 kV9 dc9 pm9 cd9 ct9 oc10 kV10 dc10 pm10 cd10 ct10 oc11 kV11 dc11 pm11 ct11 oc12 kV12 dc12 pm12 cd12 ct12 : Value} {tkA0 tkA1 tkP0 tkP1 tkE0 tkE1 tkE2 : Tok} {nA nP nE : Nat}
    {nm q : Str} {N : Addr} {bs bm : List Value} {sn : List Str} {sub : List Value} {ab : Bool} {col : Option Bool} {dd : Option Addr} {m0 m1 m2 m3 m5 : Option Value} {vsC : Array Value}
    (aC : PySem.W.nsIn K mainGlobals "Source" = some (some (.ref C)))
    (aE : PySem.W.nsIn K mainGlobals "InvalidWord" = some (some (.ref CE)))
    (aI : PySem.W.nsIn K mainGlobals "InputError" = some (some (.ref CI)))
    (a1 : PySem.W.findIn K (.ref CE) "__init__" = some (some (.ref f1)))
    (i1 : PySem.W.isFn K (.ref f1) = true)
    (l1 : K.lookup f1 = some ⟨oc1, od1, .func (PySem.W.fnOf "__init__" "InvalidWord.__init__" (defArgs sEI) (defBody sEI) (defScope sEI) .none kV1 dc1 pm1 an1 cd1 ct1), sl1⟩)
    (c1 : PySem.W.codeIn K cd1 "InvalidWord.__init__" = true)
    (k1 : PySem.W.keepIn K (.ref f1) = true)
    (a2 : PySem.W.nsIn K mainGlobals "check_word" = some (some (.ref f2)))
    (l2 : K.lookup f2 = some ⟨oc2, od2, .func (PySem.W.fnOf "check_word" "check_word" (defArgs sCW) (defBody sCW) (defScope sCW) .none kV2 dc2 pm2 an2 cd2 ct2), sl2⟩)
    (c2 : PySem.W.codeIn K cd2 "check_word" = true)
    (k2 : PySem.W.keepIn K (.ref f2) = true)
    (a3 : PySem.W.findIn K (.ref C) "__init__" = some (some (.ref f3)))
    (i3 : PySem.W.isFn K (.ref f3) = true)
    (l3 : K.lookup f3 = some ⟨oc3, od3, .func (PySem.W.fnOf "__init__" "Source.__init__" (defArgs sInit) (defBody sInit) (defScope sInit) .none kV3 dc3 pm3 an3 cd3 ct3), sl3⟩)
    (c3 : PySem.W.codeIn K cd3 "Source.__init__" = true)
    (k3 : PySem.W.keepIn K (.ref f3) = true)
    (a4 : PySem.W.findIn K (.ref C) "__eq__" = some (some (.ref f4)))
    (i4 : PySem.W.isFn K (.ref f4) = true)
    (l4 : K.lookup f4 = some ⟨oc4, od4, .func (PySem.W.fnOf "__eq__" "Source.__eq__" (defArgs sEq) (defBody sEq) (defScope sEq) .none kV4 dc4 pm4 an4 cd4 ct4), sl4⟩)
    (c4 : PySem.W.codeIn K cd4 "Source.__eq__" = true)
    (k4 : PySem.W.keepIn K (.ref f4) = true)
    (a5 : PySem.W.findIn K (.ref C) "__str__" = some (some (.ref f5)))
    (i5 : PySem.W.isFn K (.ref f5) = true)
    (l5 : K.lookup f5 = some ⟨oc5, od5, .func (PySem.W.fnOf "__str__" "Source.__str__" (defArgs sStr) (defBody sStr) (defScope sStr) .none kV5 dc5 pm5 an5 cd5 ct5), sl5⟩)
    (c5 : PySem.W.codeIn K cd5 "Source.__str__" = true)
    (k5 : PySem.W.keepIn K (.ref f5) = true)
    (a6 : PySem.W.findIn K (.ref C) "__repr__" = some (some (.ref f6)))
    (i6 : PySem.W.isFn K (.ref f6) = true)
    (l6 : K.lookup f6 = some ⟨oc6, od6, .func (PySem.W.fnOf "__repr__" "Source.__repr__" (defArgs sRepr) (defBody sRepr) (defScope sRepr) .none kV6 dc6 pm6 an6 cd6 ct6), sl6⟩)
    (c6 : PySem.W.codeIn K cd6 "Source.__repr__" = true)
    (k6 : PySem.W.keepIn K (.ref f6) = true)
    (a7 : PySem.W.nsIn K mainGlobals "_law_jar" = some (some (.ref f7)))
    (l7 : K.lookup f7 = some ⟨oc7, od7, .func (PySem.W.fnOf "_law_jar" "_law_jar" (defArgs sJar) (defBody sJar) (defScope sJar) .none kV7 dc7 pm7 an7 cd7 ct7), sl7⟩)
    (c7 : PySem.W.codeIn K cd7 "_law_jar" = true)
    (k7 : PySem.W.keepIn K (.ref f7) = true)
    (a8 : PySem.W.nsIn K mainGlobals "_law_sip" = some (some (.ref f8)))
    (l8 : K.lookup f8 = some ⟨oc8, od8, .func (PySem.W.fnOf "_law_sip" "_law_sip" (defArgs sSip) (defBody sSip) (defScope sSip) .none kV8 dc8 pm8 an8 cd8 ct8), sl8⟩)
    (c8 : PySem.W.codeIn K cd8 "_law_sip" = true)
    (k8 : PySem.W.keepIn K (.ref f8) = true)
    (a9 : PySem.W.nsIn K mainGlobals "_law_from" = some (some (.ref f9)))
    (l9 : K.lookup f9 = some ⟨oc9, od9, .func (PySem.W.fnOf "_law_from" "_law_from" (defArgs sFrom) (defBody sFrom) (defScope sFrom) .none kV9 dc9 pm9 an9 cd9 ct9), sl9⟩)
    (c9 : PySem.W.codeIn K cd9 "_law_from" = true)
    (k9 : PySem.W.keepIn K (.ref f9) = true)
    (a10 : PySem.W.nsIn K mainGlobals "_law_came" = some (some (.ref f10)))
    (l10 : K.lookup f10 = some ⟨oc10, od10, .func (PySem.W.fnOf "_law_came" "_law_came" (defArgs sCame) (defBody sCame) (defScope sCame) .none kV10 dc10 pm10 an10 cd10 ct10), sl10⟩)
    (c10 : PySem.W.codeIn K cd10 "_law_came" = true)
    (k10 : PySem.W.keepIn K (.ref f10) = true)
    (a11 : PySem.W.nsIn K mainGlobals "_law_right" = some (some (.ref f11)))
    (l11 : K.lookup f11 = some ⟨oc11, od11, .func (PySem.W.fnOf "_law_right" "_law_right" (defArgs sRight) (defBody sRight) (defScope sRight) .none kV11 dc11 pm11 an11 (.ref cR) ct11), sl11⟩)
    (c11 : PySem.W.codeIn K (.ref cR) "_law_right" = true)
    (k11 : PySem.W.keepIn K (.ref f11) = true)
    (a12 : PySem.W.nsIn K mainGlobals "law" = some (some (.ref f12)))
    (l12 : K.lookup f12 = some ⟨oc12, od12, .func (PySem.W.fnOf "law" "law" (defArgs sLaw) (defBody sLaw) (defScope sLaw) .none kV12 dc12 pm12 an12 cd12 ct12), sl12⟩)
    (c12 : PySem.W.codeIn K cd12 "law" = true)
    (k12 : PySem.W.keepIn K (.ref f12) = true)
    (gA : PySem.W.nsIn K mainGlobals "AMOUNTS" = some (some (.ref pA)))
    (tA : K.lookup pA = some ⟨.type "tuple", odA, .seq #[.str "exact" tkA0, .str "short" tkA1] nA, slA⟩)
    (gP : PySem.W.nsIn K mainGlobals "PATIENCES" = some (some (.ref pP)))
    (tP : K.lookup pP = some ⟨.type "tuple", odP, .seq #[.str "prompt" tkP0, .str "waiting" tkP1] nP, slP⟩)
    (gE : PySem.W.nsIn K mainGlobals "ENDS" = some (some (.ref pE)))
    (tE : K.lookup pE = some ⟨.type "tuple", odE, .seq #[.str "empty" tkE0, .str "with" tkE1, .str "behind" tkE2] nE, slE⟩)
    (pg : PySem.W.plainGet K C Str.empty = true)
    (hd : PySem.W.hasDictIn K C = true)
    (po : PySem.W.plainOver K C = true)
    (sa : PySem.W.findIn K (.ref C) "__setattr__" = some (some (.builtin "object.__setattr__")))
    (mk : PySem.W.makesIn K C = true)
    (kc : PySem.W.keepIn K (.ref C) = true)
    (nA : PySem.W.findIn K (.ref C) "amount" = some none)
    (nP : PySem.W.findIn K (.ref C) "patience" = some none)
    (nE : PySem.W.findIn K (.ref C) "end" = some none)
    (nB : PySem.W.findIn K (.ref C) "__bool__" = some none)
    (nL : PySem.W.findIn K (.ref C) "__len__" = some none)
    (w1 : PySem.W.findIn K (.ref C) "__class__" = some (some (.builtin "object.__class__")))
    (w2 : PySem.W.specialIn K (.builtin "object.__class__") "__get__" = some (some (.builtin "getset_descriptor.__get__")))
    (w3 : PySem.W.takesIn K (.builtin "object.__class__") = some true)
    (w4 : PySem.W.mroIn K C (.type "object") = some true)
    (w5 : PySem.W.kitOne K (.ref C) (.ref C) = some true)
    (w6 : PySem.W.kitOne K (.type "str") (.ref C) = some false)
    (w7 : PySem.W.kitOne K (.type "tuple") (.ref C) = some false)
    (w8 : PySem.W.subIn K (.type "str") (.ref C) = some false)
    (w9 : PySem.W.subIn K (.type "tuple") (.ref C) = some false)
    (ne : PySem.W.findIn K (.ref C) "__ne__" = some (some (.builtin "object.__ne__")))
    (xL : K.lookup CE = some (excClassObj nm q CE N bs bm true sn sub ab col dd m0 m1 m2 m3 m5 "ValueError.__new__"))
    (xR : PySem.HandSPX.refsVE bm = true)
    (e1 : PySem.W.findIn K (.ref CE) "__setattr__" = some (some (.builtin "object.__setattr__")))
    (e2 : PySem.W.subIn K (.ref CE) (.type "BaseException") = some true)
    (e3 : PySem.W.typeIn K (.ref CE) = some (.type "type"))
    (e4 : PySem.W.keepIn K (.ref CE) = true)
    (e5 : PySem.W.typeIn K (.ref f1) = some (.type "function"))
    (e6 : PySem.W.findIn K (.ref CE) "value" = some none)
    (e7 : PySem.W.findIn K (.ref CE) "__getattribute__" = some (some (.builtin "BaseException.__getattribute__")))
    (e8 : PySem.W.findIn K (.ref CE) "__getattr__" = some none)
    (e9 : PySem.W.hasDictIn K CE = true)
    (eA : (PySem.W.clsIn K CE).isSome = true)
    (eB : PySem.W.findIn K (.ref CE) "__class__" = some (some (.builtin "object.__class__")))
    (eC : PySem.W.mroIn K CE (.type "object") = some true)
    (eD : PySem.W.exmOne K (.ref CE) (.ref CE) = some true)
    (eE : PySem.W.kitOne K (.ref CE) (.ref CI) = some true)
    (eF : PySem.W.kitOne K (.ref CE) (.type "ValueError") = some true)
    (q1 : K.lookup cR = some ⟨ocC, odC, .fields vsC, slC⟩)
    (q2 : vsC[11]? = some (.ref PR))
    (q3 : PySem.W.codeHdIn K cR PR = true)
    (q4 : K.lookup PR = none)
    (q5 : h.get? PR = some { cls := .none, data := .fields #[] })
    (z_isinstance : PySem.W.nsIn K mainGlobals "isinstance" = some none)
    (z_ValueError : PySem.W.nsIn K mainGlobals "ValueError" = some none)
    (z_str : PySem.W.nsIn K mainGlobals "str" = some none)
    (z_repr : PySem.W.nsIn K mainGlobals "repr" = some none)
    (z_bool : PySem.W.nsIn K mainGlobals "bool" = some none)
    (z_tuple : PySem.W.nsIn K mainGlobals "tuple" = some none)
    (z_len : PySem.W.nsIn K mainGlobals "len" = some none)
    (z_int : PySem.W.nsIn K mainGlobals "int" = some none)
    (z_abs : PySem.W.nsIn K mainGlobals "abs" = some none)
    (z_divmod : PySem.W.nsIn K mainGlobals "divmod" = some none)
    (z_all : PySem.W.nsIn K mainGlobals "all" = some none)
    (z_max : PySem.W.nsIn K mainGlobals "max" = some none)
    (z_min : PySem.W.nsIn K mainGlobals "min" = some none)
    (z_range : PySem.W.nsIn K mainGlobals "range" = some none) :
    Gd.LawG l w K 10 63 "_law_script" mg fa h := by
  have e := hfa.symm.trans (PySem.W.mg_of X G a12)
  cases e
  have F1 := fun_mk (st := sEI) l1 c1 k1
  have b1 := F1.binds (ps := ["self", "value"]) fun _ _ _ _ _ _ us hl => match us, hl with | [_, _], _ => rfl
  have F2 := fun_mk (st := sCW) l2 c2 k2
  have b2 := F2.binds (ps := ["word", "words"]) fun _ _ _ _ _ _ us hl => match us, hl with | [_, _], _ => rfl
  have F3 := fun_mk (st := sInit) l3 c3 k3
  have b3 := F3.binds (ps := ["self", "amount", "patience", "end"]) fun _ _ _ _ _ _ us hl => match us, hl with | [_, _, _, _], _ => rfl
  have F4 := fun_mk (st := sEq) l4 c4 k4
  have b4 := F4.binds (ps := ["self", "other"]) fun _ _ _ _ _ _ us hl => match us, hl with | [_, _], _ => rfl
  have F5 := fun_mk (st := sStr) l5 c5 k5
  have b5 := F5.binds (ps := ["self"]) fun _ _ _ _ _ _ us hl => match us, hl with | [_], _ => rfl
  have F6 := fun_mk (st := sRepr) l6 c6 k6
  have b6 := F6.binds (ps := ["self"]) fun _ _ _ _ _ _ us hl => match us, hl with | [_], _ => rfl
  have F7 := fun_mk (st := sJar) l7 c7 k7
  have b7 := F7.binds (ps := ["_law_script", "_law_k"]) fun _ _ _ _ _ _ us hl => match us, hl with | [_, _], _ => rfl
  have F8 := fun_mk (st := sSip) l8 c8 k8
  have b8 := F8.binds (ps := ["_law_jar_here", "_law_many"]) fun _ _ _ _ _ _ us hl => match us, hl with | [_, _], _ => rfl
  have F9 := fun_mk (st := sFrom) l9 c9 k9
  have b9 := F9.binds (ps := ["_law_jar_here", "_law_things"]) fun _ _ _ _ _ _ us hl => match us, hl with | [_, _], _ => rfl
  have F10 := fun_mk (st := sCame) l10 c10 k10
  have b10 := F10.binds (ps := ["_law_ask"]) fun _ _ _ _ _ _ us hl => match us, hl with | [_], _ => rfl
  have F11 := fun_mk (st := sRight) l11 c11 k11
  have b11 := F11.binds (ps := ["_law_jar_here"]) fun _ _ _ _ _ _ us hl => match us, hl with | [_], _ => rfl
  have F12 := fun_mk (st := sLaw) l12 c12 k12
  have cl : Cls K C := ⟨pg, hd, po, sa⟩
  have T : TxtW K mg C pA pP pE f2 := ⟨PySem.W.mg_none_of X G z_isinstance, PySem.W.mg_none_of X G z_str, PySem.W.mg_of X G gA, PySem.W.mg_of X G gP, PySem.W.mg_of X G gE, fun H => .inr ⟨_, _, _, tA, rfl, rfl, (by show 2 ≤ sizeLine; decide), .cons ⟨_, rfl⟩ (.cons ⟨_, rfl⟩ (.nil))⟩, fun H => .inr ⟨_, _, _, tP, rfl, rfl, (by show 2 ≤ sizeLine; decide), .cons ⟨_, rfl⟩ (.cons ⟨_, rfl⟩ (.nil))⟩, fun H => .inr ⟨_, _, _, tE, rfl, rfl, (by show 3 ≤ sizeLine; decide), .cons ⟨_, rfl⟩ (.cons ⟨_, rfl⟩ (.cons ⟨_, rfl⟩ (.nil)))⟩, PySem.W.mg_of X G a2, k2, PySem.W.mg_of X G aC, cl, nA, nP, nE, w1, w2, w3, w4, w5, w6, w7, w8, w9⟩
  have TE : TxtE K mg CE f1 := ⟨PySem.W.mg_of X G aE, ⟨⟨nm, q, N, bs, bm, sn, sub, ab, col, dd, m0, m1, m2, m3, m5, xL, xR⟩, e1, e2, e3, e4⟩, a1, e5, e6⟩
  have TC : TxtC K mg CE CI f10 := ⟨PySem.W.mg_none_of X G z_isinstance, PySem.W.mg_none_of X G z_ValueError, PySem.W.mg_of X G aE, PySem.W.mg_of X G aI, ⟨⟨e7, e8, e2, e9⟩, eA, eB, w2, w3, eC⟩, e6, eD, eE, eF, PySem.W.mg_of X G a10, k10⟩
  have TJ : TxtJ mg := ⟨PySem.W.mg_none_of X G z_len, PySem.W.mg_none_of X G z_int, PySem.W.mg_none_of X G z_abs, PySem.W.mg_none_of X G z_divmod⟩
  have TS : TxtS K mg f8 := ⟨PySem.W.mg_of X G a8, k8⟩
  have R : TxtR K mg f9 := ⟨PySem.W.mg_none_of X G z_str, PySem.W.mg_none_of X G z_repr, PySem.W.mg_none_of X G z_bool, PySem.W.mg_none_of X G z_tuple, PySem.W.mg_of X G a9, k9⟩
  have KI : KBn K (PySem.W.fnOf "__init__" "Source.__init__" (defArgs sInit) (defBody sInit) (defScope sInit) .none kV3 dc3 pm3 an3 cd3 ct3) ["self", "amount", "patience", "end"] 1 ["end", "amount", "patience"] gKw gKwV := ⟨fun s us ws _ h1 h2 => by
      match us, ws, h1, h2 with
      | [_], [_, _, _], _, _ => exact .of_eq rfl, fun h1 h2 => gKw_rel h1 h2⟩
  have N : FnR1 K C CE f1 f2 f3 f4 f5 f6 f9 f8 f10 _ _ _ _ _ _ _ _ _ := ⟨F1, b1, F2, b2, F3, b3, ⟨mk, a3, i3, kc⟩, KI, F4, b4, ⟨a4, ne, i4, w4⟩, F5, b5, a5, i5, F6, b6, a6, i6, nB, nL, F9, b9, F8, b8, F10, b10⟩
  refine ⟨_, [(cR, PR)], spLaw K PR, fun p hp => ?_, fun p hp => ?_, fun p hp => ?_, fun s v => .of_eq rfl, fun H a ns hl hT hS => ?_, fun base _ _ sm hB => ok_law F12 TJ TS T TE TC R N F7 b7 (PySem.W.mg_of X G a7) k7 F11 rfl sm (hB (cR, PR) (List.mem_singleton.mpr rfl)) b11 (PySem.W.mg_of X G a11) k11 (PySem.W.mg_none_of X G z_all) (PySem.W.mg_none_of X G z_max) (PySem.W.mg_none_of X G z_min) (PySem.W.mg_none_of X G z_range)⟩
  · cases List.mem_singleton.mp hp
    exact q5
  · cases List.mem_singleton.mp hp
    exact q4
  · cases List.mem_singleton.mp hp
    exact PySem.W.codeHd_of_K X q3
  · refine ⟨a, ns, rfl, hS, hl, fun p hp => ?_, fun _ => rfl⟩
    cases List.mem_singleton.mp hp
    exact LamX.TabS.nil (hT (cR, PR) (List.mem_singleton.mpr rfl))
end My

open PySem PySem.W PyProof.Rows in
set_option maxRecDepth 100000 in
set_option maxHeartbeats 0 in
theorem PySem.Challenge.cw_lastshort_k01_sources_made_holds : PySem.Challenge.rw_lastshort_k01_sources_made.Holds := by
  w_on; o_law; k_head; (case hw => w_witness2)
  k_fill
  refine Gd.walk_ofG (l := PySem.Challenge.rw_lastshort_k01_sources_made) (n := 63) (k := 10) (x := "_law_script") rfl (by decide) rfl (by decide +kernel) ⟨rfl, by decide, by decide⟩ (fun w h Y => PySem.W.km_in_of Y) ?F
  case F =>
    intro w mg fa h Y KX G hmg
    refine' My.all_mk KX G hmg ?aC ?aE ?aI ?a1 ?i1 ?l1 ?c1 ?k1 ?a2 ?l2 ?c2 ?k2 ?a3 ?i3 ?l3 ?c3 ?k3 ?a4 ?i4 ?l4 ?c4 ?k4 ?a5 ?i5 ?l5 ?c5 ?k5 ?a6 ?i6 ?l6 ?c6 ?k6 ?a7 ?l7 ?c7 ?k7 ?a8 ?l8 ?c8 ?k8 ?a9 ?l9 ?c9 ?k9 ?a10 ?l10 ?c10 ?k10 ?a11 ?l11 ?c11 ?k11 ?a12 ?l12 ?c12 ?k12 ?gA ?tA ?gP ?tP ?gE ?tE ?pg ?hd ?po ?sa ?mk ?kc ?nA ?nP ?nE ?nB ?nL ?w1 ?w2 ?w3 ?w4 ?w5 ?w6 ?w7 ?w8 ?w9 ?ne ?xL ?xR ?e1 ?e2 ?e3 ?e4 ?e5 ?e6 ?e7 ?e8 ?e9 ?eA ?eB ?eC ?eD ?eE ?eF ?q1 ?q2 ?q3 ?q4 ?q5 ?z_isinstance ?z_ValueError ?z_str ?z_repr ?z_bool ?z_tuple ?z_len ?z_int ?z_abs ?z_divmod ?z_all ?z_max ?z_min ?z_range
    (case aC => k_is)
    (case aE => k_is)
    (case aI => k_is)
    (case a1 => k_is)
    (case i1 => k_is)
    (case l1 => k_is)
    (case c1 => k_is)
    (case k1 => k_is)
    (case a2 => k_is)
    (case l2 => k_is)
    (case c2 => k_is)
    (case k2 => k_is)
    (case a3 => k_is)
    (case i3 => k_is)
    (case l3 => k_is)
    (case c3 => k_is)
    (case k3 => k_is)
    (case a4 => k_is)
    (case i4 => k_is)
    (case l4 => k_is)
    (case c4 => k_is)
    (case k4 => k_is)
    (case a5 => k_is)
    (case i5 => k_is)
    (case l5 => k_is)
    (case c5 => k_is)
    (case k5 => k_is)
    (case a6 => k_is)
    (case i6 => k_is)
    (case l6 => k_is)
    (case c6 => k_is)
    (case k6 => k_is)
    (case a7 => k_is)
    (case l7 => k_is)
    (case c7 => k_is)
    (case k7 => k_is)
    (case a8 => k_is)
    (case l8 => k_is)
    (case c8 => k_is)
    (case k8 => k_is)
    (case a9 => k_is)
    (case l9 => k_is)
    (case c9 => k_is)
    (case k9 => k_is)
    (case a10 => k_is)
    (case l10 => k_is)
    (case c10 => k_is)
    (case k10 => k_is)
    (case a11 => k_is)
    (case l11 => k_is)
    (case c11 => k_is)
    (case k11 => k_is)
    (case a12 => k_is)
    (case l12 => k_is)
    (case c12 => k_is)
    (case k12 => k_is)
    (case gA => k_is)
    (case tA => k_is)
    (case gP => k_is)
    (case tP => k_is)
    (case gE => k_is)
    (case tE => k_is)
    (case pg => k_is)
    (case hd => k_is)
    (case po => k_is)
    (case sa => k_is)
    (case mk => k_is)
    (case kc => k_is)
    (case nA => k_is)
    (case nP => k_is)
    (case nE => k_is)
    (case nB => k_is)
    (case nL => k_is)
    (case w1 => k_is)
    (case w2 => k_is)
    (case w3 => k_is)
    (case w4 => k_is)
    (case w5 => kernel_rfl)
    (case w6 => kernel_rfl)
    (case w7 => kernel_rfl)
    (case w8 => kernel_rfl)
    (case w9 => kernel_rfl)
    (case ne => k_is)
    (case xL => k_is)
    (case xR => decide +kernel)
    (case e1 => k_is)
    (case e2 => k_is)
    (case e3 => k_is)
    (case e4 => k_is)
    (case e5 => k_is)
    (case e6 => k_is)
    (case e7 => k_is)
    (case e8 => k_is)
    (case e9 => k_is)
    (case eA => kernel_rfl)
    (case eB => k_is)
    (case eC => k_is)
    (case eD => kernel_rfl)
    (case eE => kernel_rfl)
    (case eF => kernel_rfl)
    (case q1 => k_is)
    (case q2 => rfl)
    (case q3 => kernel_rfl)
    (case q4 => kernel_rfl)
    (case q5 => exact PySem.W.km_tabs_of Y _ (by decide))
    (case z_isinstance => k_is)
    (case z_ValueError => k_is)
    (case z_str => k_is)
    (case z_repr => k_is)
    (case z_bool => k_is)
    (case z_tuple => k_is)
    (case z_len => k_is)
    (case z_int => k_is)
    (case z_abs => k_is)
    (case z_divmod => k_is)
    (case z_all => k_is)
    (case z_max => k_is)
    (case z_min => k_is)
    (case z_range => k_is)
