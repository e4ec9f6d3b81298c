import PyProof.Rows.All
import Wide.All
import OpenK.AllK
import Wide.FinOn
import HandS.ForMost
import HandS.Codes
import KE.GoesEnum
import HandS.IsInst
import HandS.Deep
import HandS.Style
import HandS.TupLe
import PySem.Challenge.RW_lastshort_k03_whole_replies_allowed
set_option Elab.async false
set_option linter.all false
set_option maxRecDepth 100000
set_option maxHeartbeats 8000000
/-! the draws of the law: jar, sip, from -/
namespace My
open PySem L2
def top (i : Nat) : Stmt := PySem.Challenge.pw_lastshort_k03_whole_replies_allowed.main.body.getD i (.Pass ⟨0, 0, 0, 0⟩)
abbrev sJar : Stmt := top 21
abbrev sSip : Stmt := top 22
abbrev sFrom : Stmt := top 23
/-! ### heaps -/
/-- all but what stands at j is as it was -/
def Off (j : Addr) (H H' : Hp) : Prop := ∀ b o, b ≠ j → H b = some o → H' b = some o
theorem Off.refl {j : Addr} {H : Hp} : Off j H H := fun _ _ _ e => e
theorem Off.trans {j : Addr} {H H1 H2 : Hp} (a : Off j H H1) (b : Off j H1 H2) : Off j H H2 := fun c o n e => b c o n (a c o n e)
theorem Off.new {j p : Addr} {H H1 : Hp} {o : HO} (a : Off j H H1) (n : H1 p = none) : Off j H (upd H1 p o) := fun b u nb e => by
  rw [upd_ne (ne_of_none (a b u nb e) n)]
  exact a b u nb e
theorem Off.put {j : Addr} {H H1 : Hp} {o : HO} (a : Off j H H1) : Off j H (upd H1 j o) := fun b u nb e => by
  rw [upd_ne nb]
  exact a b u nb e
theorem Off.seq {K : PySem.W.Frag} {j a : Addr} {H H' : Hp} {xs : List V} (e : Off j H H') (n : a ≠ j) (h : SqL K H a xs) : SqL K H' a xs := by
  rcases h with (h | ⟨o, h⟩) | h
  · exact .inl (.inl (e _ _ n h))
  · exact .inl (.inr ⟨o, e _ _ n h⟩)
  · exact .inr h
theorem Off.set {K : PySem.W.Frag} {j a : Addr} {H H' : Hp} {xs : List V} (e : Off j H H') (n : a ≠ j) (h : SqT K H a xs) : SqT K H' a xs := by
  rcases h with (h | ⟨o, h⟩) | h
  · exact .inl (.inl (e _ _ n h))
  · exact .inl (.inr ⟨o, e _ _ n h⟩)
  · exact .inr h
theorem Off.same {j : Addr} {H0 H H' : Hp} (e : Off j H H') (s : Same H0 H) (n : H0 j = none) : Same H0 H' := fun b o q => e b o (fun z => by rw [z, n] at q; cases q) (s b o q)
theorem same_upd {H : Hp} {p : Addr} {o : HO} (h : H p = none) : Same H (upd H p o) := fun b x e => by
  rw [upd_ne (ne_of_none e h)]
  exact e
theorem Same.off {j : Addr} {H H' : Hp} (s : Same H H') : Off j H H' := fun b o _ e => s b o e
/-- a jar: three whole numbers -/
def Jar (H : Hp) (j : Addr) : Prop := ∃ a b c : Int, H j = some (.lst [.int a, .int b, .int c])
theorem Jar.new {H : Hp} {j p : Addr} {o : HO} (a : Jar H j) (n : H p = none) : Jar (upd H p o) j := by
  obtain ⟨x, y, z, h⟩ := a
  exact ⟨x, y, z, by rw [upd_ne (ne_of_none h n)]; exact h⟩
theorem Jar.same {H H' : Hp} {j : Addr} (a : Jar H j) (s : Same H H') : Jar H' j := by
  obtain ⟨x, y, z, h⟩ := a
  exact ⟨x, y, z, s _ _ h⟩
/-! ### promises -/
def spSip : Sp := fun vs H Q _ => ∃ (j : Addr) (m : Int), vs = [.ref j, .int m] ∧ Jar H j ∧ 0 < m ∧ m < 1073741824 ∧
  ∀ (H' : Hp) (d : Int), 0 ≤ d → d < m → Off j H H' → Jar H' j → Q (.int d) H'
def spFrom (K : PySem.W.Frag) : Sp := fun vs H Q _ => ∃ (j p : Addr) (xs : List V), vs = [.ref j, .ref p] ∧ Jar H j ∧ p ≠ j ∧ SqL K H p xs ∧ 0 < xs.length ∧ xs.length < 1073741824 ∧
  ∀ (H' : Hp) (i : Nat) (x : V), xs[i]? = some x → Off j H H' → Jar H' j → Q x H'
def spJar (K : PySem.W.Frag) : Sp := fun vs H Q _ => ∃ (a : Addr) (ns : List Int) (k : Nat), vs = [.ref a, .int k] ∧ SqL K H a (ns.map V.int) ∧ ns.length ≤ 63 ∧
  ∀ (H' : Hp) (j : Addr), Same H H' → H j = none → Jar H' j → Q (.ref j) H'
/-- the built-ins of the draws are still the built-ins -/
structure TxtJ (mg : Str → Option Value) : Prop where
  len : mg "len" = none
  int : mg "int" = none
  abs : mg "abs" = none
  divmod : mg "divmod" = none
section
variable {P : Program} {w : World} {K : PySem.W.Frag} {mg : Str → Option Value} {base : Heap}
theorem scSip : FnScope ["_law_jar_here", "_law_many", "_law_digit"] ["_law_jar_here", "_law_many"] (defScope sSip) := ⟨rfl, rfl, rfl, by decide +kernel, rfl, by decide +kernel, by decide +kernel⟩
theorem ok_sip {f : Addr} {fd : FuncData} (F : Fun K "_law_sip" "_law_sip" sSip f fd) (T : TxtJ mg) : FnOk P w K mg base CX0 1 f fd ["_law_jar_here", "_law_many"] spSip := by
  refine F.ok scSip (fun vs H Q E h => ?_) (fun cdv A outer s H vs Q E hr h => ?_)
  · obtain ⟨j, m, rfl, _⟩ := h
    rfl
  · obtain ⟨j, m, rfl, ⟨a, b, c, hj⟩, m0, m1, k⟩ := h
    refine ⟨_, pss_cons (ps_asg (pe_op op_add (pe_ix ix_list (pv 0) pe_int (fun _ _ => rfl)) pe_int) (pg_sub (pv 0) pe_int set_list))
      (pss_cons (ps_if (pt_cmpR op_gt (pe_ix ix_list (pv 0) pe_int (fun _ _ => rfl)) pe_int (nomark _))
        (pss_cons (ps_asg (pe_callB call_divmod (by rfl) T.divmod (by decide +kernel) (pa_cons (pe_callTy call_int1 (by rfl) T.int (by decide +kernel) (pa_cons (pe_ix ix_list (pv 0) pe_int (fun _ _ => rfl)) pa_nil)) (pa_cons (pv 1) pa_nil)))
            (pg_tup (by rfl) (pgs_cons (pg_sub (pv 0) pe_int set_list) (pgs_cons (pg_name (i := 2) scSip.nd rfl (.inl rfl)) pgs_nil))))
          (pss_one (ps_ret (pv 2)))) pss_nil)
      (pss_cons (ps_asg (pe_op op_mod (pe_callTy call_int1 (by rfl) T.int (by decide +kernel) (pa_cons (pe_op op_add (pe_op op_add (pe_op op_mul (pe_ix ix_list (pv 0) pe_int (fun _ _ => rfl)) pe_int) (pe_op op_mul (pe_ix ix_list (pv 0) pe_int (fun _ _ => rfl)) pe_int))
            (pe_op op_mul (pe_op op_fdiv (pe_ix ix_list (pv 0) pe_int (fun _ _ => rfl)) pe_int) pe_int)) pa_nil)) pe_int) (pg_sub (pv 0) pe_int set_list))
      (pss_one (ps_ret (pe_op op_mod (pe_callTy call_int1 (by rfl) T.int (by decide +kernel) (pa_cons (pe_op op_fdiv (pe_ix ix_list (pv 0) pe_int (fun _ _ => rfl)) pe_int) pa_nil)) (pv 1)))))), ?_⟩
    -- jar[2] = jar[2] + 1
    refine ⟨_, rfl, j, _, 2, _, rfl, rfl, SqL.of hj, rfl, _, _, rfl, rfl, _, rfl, j, _, 2, 2, rfl, rfl, hj, rfl, ?_⟩
    -- if jar[0] > 0
    refine ⟨_, rfl, j, _, 0, _, rfl, rfl, SqL.of upd_same, rfl, _, _, rfl, rfl, _, rfl, ?_⟩
    have o1 : Off j H (upd H j (.lst [.int a, .int b, .int (c + 1)])) := Off.put Off.refl
    refine ite2 (fun _ => ?_) (fun _ => ?_)
    · refine ⟨_, rfl, j, _, 0, _, rfl, rfl, SqL.of upd_same, rfl, .inl ⟨_, rfl, _, rfl, a, m, rfl, ⟨m0, m1⟩, fun p np => ?_⟩⟩
      have npj : p ≠ j := fun e => by
        rw [e, upd_same] at np
        cases np
      refine ⟨p, _, rfl, SqT.of upd_same, rfl, _, _, rfl, _, rfl, j, _, 0, 0, rfl, rfl, (by rw [upd_ne npj.symm]; exact upd_same), rfl, _, _, rfl, rfl, ?_⟩
      refine ⟨_, rfl, ?_⟩
      exact k _ _ (Int.emod_nonneg _ (by omega)) (Int.emod_lt_of_pos _ m0) (Off.put (Off.new o1 np)) ⟨_, _, _, upd_same⟩
    · refine ⟨_, rfl, j, _, 1, _, rfl, rfl, SqL.of upd_same, rfl, _, _, rfl, rfl, .inr (by decide), ?_⟩
      refine ⟨_, rfl, j, _, 2, _, rfl, rfl, SqL.of upd_same, rfl, _, _, rfl, rfl, .inr (by decide), _, _, rfl, rfl, ?_⟩
      refine ⟨_, rfl, j, _, 1, _, rfl, rfl, SqL.of upd_same, rfl, _, _, rfl, rfl, ⟨by decide, by decide⟩, _, _, rfl, rfl, .inr (by decide), _, _, rfl, rfl, .inl ⟨_, rfl, _, _, rfl, rfl, (by show (0 : Int) < 1999999927; decide), ?_⟩⟩
      refine ⟨_, rfl, j, _, 1, 1, rfl, rfl, upd_same, rfl, ?_⟩
      refine ⟨_, rfl, j, _, 1, _, rfl, rfl, SqL.of upd_same, rfl, _, _, rfl, rfl, ⟨by decide, by decide⟩, .inl ⟨_, rfl, _, rfl, _, _, rfl, rfl, m0, ?_⟩⟩
      exact k _ _ (Int.emod_nonneg _ (by omega)) (Int.emod_lt_of_pos _ m0) (Off.put o1) ⟨_, _, _, upd_same⟩

/-! ### from -/
structure TxtS (K : PySem.W.Frag) (mg : Str → Option Value) (fS : Addr) : Prop where
  g : mg "_law_sip" = some (.ref fS)
  k : PySem.W.keepIn K (.ref fS) = true
theorem scFrom : FnScope ["_law_jar_here", "_law_things"] ["_law_jar_here", "_law_things"] (defScope sFrom) := ⟨rfl, rfl, rfl, by decide +kernel, rfl, by decide +kernel, by decide +kernel⟩
theorem ok_from {f fS : Addr} {fd fdS : FuncData} (F : Fun K "_law_from" "_law_from" sFrom f fd) (T : TxtJ mg) (S : TxtS K mg fS) (FS : Fun K "_law_sip" "_law_sip" sSip fS fdS) (bS : Binds K fdS ["_law_jar_here", "_law_many"] []) :
    FnOk P w K mg base CX0 2 f fd ["_law_jar_here", "_law_things"] (spFrom K) := by
  have GS : FnOk P w K mg base CX0 1 fS fdS ["_law_jar_here", "_law_many"] spSip := ok_sip FS T
  refine F.ok scFrom (fun vs H Q E h => ?_) (fun cdv A outer s H vs Q E hr h => ?_)
  · obtain ⟨j, p, xs, rfl, _⟩ := h
    rfl
  · obtain ⟨j, p, xs, rfl, hJ, npj, hS, l0, l1, k⟩ := h
    refine ⟨_, pss_one (ps_ret (pe_ix ix_list (pv 1) (pe_call GS hr rfl S.g S.k bS .nil pass0 (pa_cons (pv 0) (pa_cons (pe_callB call_len_seq (by rfl) T.len PySem.boot_len (pa_cons (pv 1) pa_nil)) pa_nil))) (fun _ _ => rfl))), ?_⟩
    refine ⟨_, rfl, _, rfl, _, rfl, p, xs, rfl, .inl hS, j, _, rfl, hJ, by omega, by omega, fun H' d d0 d1 o J => ?_⟩
    obtain ⟨n, rfl⟩ := Int.eq_ofNat_of_zero_le d0
    have hn : n < xs.length := by omega
    exact ⟨p, xs, _, xs[n], rfl, rfl, o.seq npj hS, atI_nat (List.getElem?_eq_getElem hn), k H' n _ (List.getElem?_eq_getElem hn) o J⟩
/-! ### jar -/
theorem scJar : FnScope ["_law_script", "_law_k", "_law_own", "_law_mixed", "_law_entry"] ["_law_script", "_law_k"] (defScope sJar) := ⟨rfl, rfl, rfl, by decide +kernel, rfl, by decide +kernel, by decide +kernel⟩
theorem int_of_map {ns : List Int} {i : Nat} {y : V} (h : (ns.map V.int)[i]? = some y) : ∃ u, y = V.int u := by
  rw [List.getElem?_map] at h
  cases e : ns[i]? with
  | none =>
    rw [e] at h
    cases h
  | some u =>
    rw [e] at h
    exact ⟨u, (Option.some.inj h).symm⟩
theorem cut_map (ns : List Int) (lo hi : Option Int) : ∃ ms : List Int, cutV (ns.map V.int) lo hi = ms.map V.int :=
  ⟨(ns.drop (HT.sIx (ns.map V.int).length 0 lo)).take (HT.sIx (ns.map V.int).length (ns.map V.int).length hi - HT.sIx (ns.map V.int).length 0 lo), by
    unfold cutV
    rw [List.map_take, List.map_drop]⟩
theorem ok_jar {f : Addr} {fd : FuncData} (F : Fun K "_law_jar" "_law_jar" sJar f fd) (T : TxtJ mg) : FnOk P w K mg base CX0 1 f fd ["_law_script", "_law_k"] (spJar K) := by
  refine F.ok scJar (fun vs H Q E h => ?_) (fun cdv A outer s H vs Q E hr h => ?_)
  · obtain ⟨a, ns, k, rfl, _⟩ := h
    rfl
  · obtain ⟨a, ns, k, rfl, hS, hl, q⟩ := h
    refine ⟨_, C8.pss_cut (ps_set (i := 2) scJar.nd rfl (.inl rfl) (pe_ifExp (pt_cmpR op_lt (pv 1) (pe_callB call_len_seq (by rfl) T.len PySem.boot_len (pa_cons (pv 0) pa_nil)) (nomark _))
          (pe_callTy call_int1 (by rfl) T.int (by decide +kernel) (pa_cons (pe_ix ix_list (pv 0) (pv 1) (fun _ _ => rfl)) pa_nil)) (pe_op op_add (pe_op op_mul pe_int (pv 1)) pe_int)))
      (pss_cons (ps_set (i := 3) scJar.nd rfl (.inl rfl) (pe_op op_add pe_int (pe_op op_mul pe_int (pv 1))))
      (pss_cons (ps_for PassesOwn.never rfl (pi_list (pe_slice sl_list (pv 0) po_none (po_some pe_int))) (pg_name (i := 4) scJar.nd rfl (.inl rfl))
        (pss_one (ps_set (i := 3) scJar.nd rfl (.inl rfl) (pe_op op_mod (pe_callTy call_int1 (by rfl) T.int (by decide +kernel) (pa_cons (pe_op op_add (pe_op op_mul (pv 3) pe_int) (pe_op op_mod (pe_callTy call_int1 (by rfl) T.int (by decide +kernel) (pa_cons (pv 4) pa_nil)) pe_int)) pa_nil)) pe_int))))
      (pss_one (ps_ret (pe_lst (pa_cons (pe_ifExp (PW.pt (pw_or (pt_cmpR op_lt (pv 2) pe_int (nomark _)) (pw_or1 (pt_cmpR op_ge (pv 2) (pe_op op_pow pe_int pe_int) (nomark _))))) (pe_callB call_abs (by rfl) T.abs (by decide +kernel) (pa_cons (pv 2) pa_nil)) pe_int)
        (pa_cons (pe_op op_mod (pe_callTy call_int1 (by rfl) T.int (by decide +kernel) (pa_cons (pe_op op_add (pe_op op_mul (pv 3) pe_int) (pe_op op_mod (pv 2) pe_int)) pa_nil)) pe_int) (pa_cons pe_int pa_nil)))))))), ?_⟩
    refine ⟨fun σ H' => H = H' ∧ ∃ own : Int, σ = [some (.ref a), some (.int k), some (.int own), none, none], ?_, ?_⟩
    · refine ⟨_, rfl, _, rfl, a, _, rfl, .inl hS, _, _, rfl, rfl, _, rfl, ?_⟩
      refine ite2 (fun c => ?_) (fun c => ?_)
      · have hk : k < ns.length := by
          have c' := of_decide_eq_true c
          rw [List.length_map] at c'
          omega
        exact ⟨_, rfl, _, rfl, a, _, _, .int ns[k], rfl, rfl, hS, atI_nat (by rw [List.getElem?_map, List.getElem?_eq_getElem hk]; rfl), .inl ⟨_, rfl, rfl, _, rfl⟩⟩
      · exact ⟨_, rfl, _, _, rfl, rfl, .inl (by decide), _, _, rfl, rfl, rfl, _, rfl⟩
    · rintro _ _ ⟨rfl, own, rfl⟩
      refine ⟨_, rfl, _, _, rfl, rfl, .inl (by decide), _, _, rfl, rfl, ?_⟩
      refine ⟨_, rfl, 13, rfl, a, _, rfl, hS, fun p np => ?_⟩
      obtain ⟨ms, ems⟩ := cut_map ns none (some 13)
      rw [ems]
      refine ⟨p, rfl, ⟨_, SqL.of upd_same⟩, for_list (K := K) (a := p) (xs := ms.map V.int) (fun i σ H' => ∃ (mx : Int) (v : Option V), σ = [some (.ref a), some (.int k), some (.int own), some (.int mx), v] ∧ H' = upd H p (.lst (ms.map V.int)))
        ⟨_, none, rfl, rfl⟩ (fun i σ H' _ ⟨_, _, _, e⟩ => by rw [e]; exact SqL.of upd_same) ?_ ?_⟩
      · rintro i y σ H' hi ⟨mx, v, rfl, rfl⟩
        obtain ⟨u, rfl⟩ := int_of_map hi
        refine ⟨_, rfl, _, _, rfl, rfl, .inr (by decide), ?_⟩
        refine ⟨_, rfl, .inl ⟨_, rfl, _, _, rfl, rfl, (by show (0 : Int) < 1999999927; decide), _, _, rfl, rfl, .inl ⟨_, rfl, _, _, rfl, rfl, (by show (0 : Int) < 1999999927; decide), ?_⟩⟩⟩
        exact ⟨_, _, rfl, rfl⟩
      · rintro σ H' ⟨mx, v, rfl, rfl⟩
        have fin : ∀ (x : Int), tCons (tOp (rI (fun x j => 0 < j) fun i j => V.int (i % j)) (tCB (fun xs H Q => (∃ i, xs = [V.int i] ∧ Q (V.int i) H) ∨ ∃ k, xs = [V.bl k] ∧ Q (V.int (if k = true then 1 else 0)) H)
            (tCons (tOp (rI0 fun i j => V.int (i + j)) (tOp (rI CMul fun i j => V.int (i * j)) (tVar 3) (tC (V.int 5))) (tOp (rI (fun x j => 0 < j) fun i j => V.int (i % j)) (tVar 2) (tC (V.int 1999999927)))) tNil)) (tC (V.int 1999999927)))
          (tCons (tC (V.int 0)) tNil) [some (.ref a), some (.int k), some (.int own), some (.int mx), v] (upd H p (.lst (ms.map V.int))) (fun xs H1 => (V.int x :: xs).length ≤ sizeLine ∧ ∀ p, H1 p = none → Q (.ref p) (upd H1 p (.lst (V.int x :: xs)))) := by
          intro x
          refine ⟨_, rfl, _, _, rfl, rfl, .inr (by decide), _, rfl, _, _, rfl, rfl, (by show (0 : Int) < 1999999927; decide), _, _, rfl, rfl, .inl ⟨_, rfl, _, _, rfl, rfl, (by show (0 : Int) < 1999999927; decide), ?_⟩⟩
          refine ⟨(by show 3 ≤ sizeLine; decide), fun jj nj => ?_⟩
          exact q _ jj (Same.trans (same_upd np) (same_upd nj)) ((same_upd np).free nj) ⟨_, _, _, upd_same⟩
        refine ⟨_, rfl, _, _, rfl, rfl, _, rfl, ?_⟩
        refine ite2 (fun _ => ?_) (fun _ => ?_)
        · refine iteT ?_
          exact ⟨_, rfl, _, rfl, fin _⟩
        · refine ⟨_, rfl, _, _, rfl, rfl, ⟨by decide, by decide, by decide⟩, _, _, rfl, rfl, _, rfl, ?_⟩
          refine ite2 (fun _ => ?_) (fun _ => ?_)
          · exact ⟨_, rfl, _, rfl, fin _⟩
          · exact fin _
end
end My

/-! enumerate of a tuple, as a walk of the hand layer -/
namespace ETup
open PySem PySem.Spec PyProof.Rows L2
open Sem (wp)
/-- what enumerate(v) makes: the inner iterator, then itself -/
abbrev eo (n : Addr) : Obj := { cls := .type "enumerate", data := .fields #[.none, .bool false, .ref n, rawInt 0, .none, .none] }
theorem new1 {v : Value} {ob : Obj} {HP : Heap → Prop} (B : Begins v ob HP) :
    Meets (Builtin.«enumerate.__new__» ⟨[.type "enumerate", v], []⟩) (fun _ R st => HP st.heap ∧
      R (.ok (.ret (.ref (st.heap.push ob).objs.size))) { st with heap := (st.heap.push ob).push (eo st.heap.objs.size) }) :=
  .of_wp fun pr wo Ar R st hh => by
    obtain ⟨hp, g, dd, tk, os⟩ := st; obtain ⟨a1, a2⟩ := hh
    have subE := sub_enumerate
    have run : ∀ {A2 : Around} {E2 : Value → Shared → Prop} {Q2 : Value → Shared → Prop}, Q2 (.ref hp.objs.size) ⟨hp.push ob, g, dd, tk, os⟩ →
        wpAny (model pr wo) A2 (pyIter v) Q2 E2 ⟨hp, g, dd, tk, os⟩ := fun z => B.iter pr wo _ _ ⟨hp, g, dd, tk, os⟩ _ a1 z
    wp_walk using run
    refine wpAny_stack_any fun stk => wpAny_pure ?_
    split
    next c _ _ _ _ _ =>
      cases (c == Value.type "enumerate") <;> (wp_walk using run; exact ⟨_, rfl, a2⟩)
    next => wp_walk using run; exact ⟨_, rfl, a2⟩
section
variable {prog : Program} {w : World} {A : Around} {E : Value → Shared → Prop} {s : Shared}
theorem made {v : Value} {ob : Obj} {HP : Heap → Prop} {Q : Value → Shared → Prop} (B : Begins v ob HP) (h1 : HP s.heap)
    (k : ∀ hn, IsEnum hn (s.heap.objs.size + 1) s.heap.objs.size 0 .none → hn.get? s.heap.objs.size = some ob → (∀ b u, s.heap.get? b = some u → hn.get? b = some u) → Q (.ref (s.heap.objs.size + 1)) { s with heap := hn }) :
    wpAny (model prog w) A (call (.type "enumerate") [v]) Q E s := by
  refine callType_new F.called_enumerate (by decide) (F.typeCall_enumerate_1 _) (F.newCall_enumerate_1 _) (fun ob2 => F.args_object_init_2 ob2 _) F.entry_enumerate_new (new1 B) ⟨h1, ?_⟩
  have sz : (s.heap.push ob).objs.size = s.heap.objs.size + 1 := Heap.size_push ..
  show _ ∧ _
  rw [sz]
  have isE : IsEnum ((s.heap.push ob).push (eo s.heap.objs.size)) (s.heap.objs.size + 1) s.heap.objs.size 0 .none := by
    have g1 := Heap.get?_push_size (s.heap.push ob) (o := eo s.heap.objs.size) rfl
    rw [sz] at g1
    exact g1
  exact ⟨⟨_, isE, rfl⟩, k _ isE (Heap.get?_push_of_some _ (Heap.get?_push_size _ B.free)) fun b u x => Heap.get?_push_of_some _ (Heap.get?_push_of_some _ x)⟩
end
/-- the tuple at a, each item in a new pair with its place -/
def Itu (K : PySem.W.Frag) (a : Addr) : It :=
  ⟨fun i H => ∃ (xs : List V) (x : V), SqT K H a xs ∧ xs[i]? = some x,
   fun i H v H' => ∃ T x, v = .ref T ∧ H T = none ∧ H' = upd H T (.tup [.int (i : Nat), x]) ∧ ∀ xs, SqT K H a xs → xs[i]? = some x,
   fun i H => ∃ xs : List V, SqT K H a xs ∧ xs.length ≤ i⟩
theorem turn {P : Program} {w : World} {K : PySem.W.Frag} {elts : List Expr} {kk : Nat} {tpos : Pos} (a e it : Addr) :
    Turn P w K (.Tuple elts kk tpos) (Itu K a) [e, it] e (fun i h => (∃ old, IsEnum h e it ((i : Nat) : Int) old) ∧ h.IsTupleIter it a i ∧ e ≠ it ∧ a ≠ it ∧ e ≠ a) where
  mem := by simp
  obj := fun i h st b hb => by
    obtain ⟨⟨old, isE⟩, ⟨ob, ho, hc, hd⟩, _⟩ := st
    have two : b = e ∨ b = it := by simpa using hb
    rcases two with rfl | rfl
    · exact ⟨_, isE, fun v q => nomatch q⟩
    · exact ⟨ob, ho, fun v q => by rw [hd] at q; cases q⟩
  keep := fun i h h2 st k => let ⟨⟨old, isE⟩, isT, r⟩ := st; ⟨⟨old, k e (by simp) _ isE⟩, isT.at fun ob q => k it (by simp) ob q, r⟩
  item := by
    intro X hP hw hK hcalm i pins s σ H E I fpo st hg
    subst hP hw hK
    obtain ⟨⟨old, isE⟩, isT, nei, nai, nea⟩ := st
    obtain ⟨xs, x, hq, hx⟩ := hg
    obtain ⟨its, rv, tp, hz⟩ := I.tuple hq
    obtain ⟨u, hu, ru⟩ := rv.get hx
    have ltE : e < s.heap.objs.size := Heap.lt_size isE
    have ltI : it < s.heap.objs.size := by obtain ⟨_, q, _⟩ := isT; exact Heap.lt_size q
    have hsz : i < its.toArray.size := by
      have z := (List.getElem?_eq_some_iff.mp hu).1
      simpa using z
    have D := Draws.tuple (prog := X.prog) (w := X.w) (A := X.A.in1) (show X.A.in1.handled = none from I.ok.hd hcalm) it a nai its.toArray
    refine wpAny_pyNext_enum_itemD D isE ⟨isT, tp⟩ hsz nei (by simp [nei, nea]) fun y h2 tk hy ho st2 hT hsz2 hk => ?_
    have ey : y = u := by
      have z : its[i]? = some y := by simpa using hy
      rw [hu] at z
      exact (Option.some.inj z).symm
    subst ey
    refine ⟨_, rfl, wpAny_letOwnedTupleGo_enum (s := { s with heap := h2, toks := tk + 1 }) ho fun h3 isE3 sb => ?_⟩
    have hT3 : h3.get? s.heap.objs.size = some { cls := .type "tuple", data := .seq #[.int i tk, y] } := (sb.2 _ (Nat.ne_of_gt ltE)).trans hT
    have ok : ObjOk X.prog X.w (upd H s.heap.objs.size (.tup [.int (i : Nat), x])) h3 s.heap.objs.size (.tup [.int (i : Nat), x]) :=
      ⟨by show 2 ≤ sizeLine; decide, [.int i tk, y], .cons ⟨_, rfl⟩ (.cons ru .nil), ⟨_, hT3, rfl, _, rfl⟩⟩
    have J : Inv X pins σ (upd H s.heap.objs.size (.tup [.int (i : Nat), x])) { s with heap := h3, toks := tk + 1 } :=
      I.turnedNew (ch := [e, it]) (fun b ob hb q => (sb.2 b (fun z => hb (by simp [z]))).trans (hk b ob (fun z => hb (by simp [z])) (fun z => hb (by simp [z])) q)) fpo (Nat.le_refl _) ok
    refine ⟨.ref s.heap.objs.size, _, J, rfl, ⟨_, x, rfl, I.hok.fresh (Nat.le_refl _), rfl, fun ys hy => by rw [I.tuple_inj hy hq]; exact hx⟩, ⟨⟨y, ?_⟩, st2.1.at fun ob q => (sb.2 it (Ne.symm nei)).trans q, nei, nai, nea⟩, fun b hb => ?_⟩
    · have e1 : ((i + 1 : Nat) : Int) = (i : Int) + 1 := by omega
      rw [e1]
      exact isE3
    · have lt2 : b < s.heap.objs.size := by
        have two : b = e ∨ b = it := by simpa using hb
        rcases two with rfl | rfl
        · exact ltE
        · exact ltI
      rw [upd_ne (Nat.ne_of_lt lt2)]
      exact (fpo b hb).1
  done := by
    intro X hP hw hK hcalm i pins s σ H E I fpo st hg
    subst hP hw hK
    obtain ⟨⟨old, isE⟩, isT, nei, nai, nea⟩ := st
    obtain ⟨xs, hq, hx⟩ := hg
    obtain ⟨its, rv, tp, hz⟩ := I.tuple hq
    obtain ⟨f0, f1, f2, f3, f4, f5⟩ := fpo it (by simp)
    have hl := rv.length
    have hT : s.TypeIs (.ref e) "enumerate" := ⟨_, isE, rfl⟩
    unfold pyNext
    refine wpAny_bind (wpAny_attempt (wpAny_callSpecial?_slot (name := Str.ofString "__next__") hT F.slot_enumerate_next
      (wpAny_call_entry F.slot_enumerate_next hT F.entry_enumerate_next ?_ (F.args_enumerate_next_1 _))))
    show wpAny (model X.prog X.w) _ (field (Value.ref e) 2 >>= _) _ _ s
    refine wpAny_bind (wpAny_field isE rfl (x := .ref it) rfl ?_)
    refine wpAny_bind (wpAny_nextOf_tuple_end (show X.A.in1.handled = none from I.ok.hd hcalm) isT tp (by simp; omega) fun h2 x eb hx2 => ?_)
    obtain ⟨ob, ho, hc⟩ := hx2
    refine wpAny_bind (wpAny_isInstance (T := "StopIteration") (b := true) ⟨ob, ho, hc⟩ isSubtype_stop ?_)
    exact wpAny_pure ⟨rfl, I.turned (t' := s.toks) (fun b ob hb q => eb b ob hb q) f0 f1 f3 f4 f5⟩
  self := fun A i s Q E st h => let ⟨⟨_, isE⟩, _⟩ := st; wpAny_pyIter_enum isE h
def iEnumT (K : PySem.W.Frag) (ta : TA) : TI := fun σ H R => ta σ H fun vs H1 => ∃ a xs, vs = [.ref a] ∧ SqT K H1 a xs ∧ R (Itu K a) H1
/-- for i, x in enumerate(t), t a tuple -/
theorem pi_enumT {X : Cx} {e : Expr} {ta : TA} {p pos tpos : Pos} {elts : List Expr} {kk : Nat} (hg : Gl X "enumerate") (hm : X.mg "enumerate" = none) (ha : PA X [e] ta) (hs : starEach [e] X.env = [(false, eval e X.env)] := by rfl) :
    PI X (.Tuple elts kk tpos) (.Call (.Name "enumerate" p) [e] [] pos) (iEnumT X.K ta) := by
  refine ⟨fun pins s σ H R I h => ?_⟩
  refine Call_ (ld_blt I hg hm boot_enumerate (PyProof.Rows.callWith_type1 (thn (ha.run pos pins s σ H _ I h) fun us s1 ⟨vs, H1, I1, r1, q1⟩ => ?_) hs rfl))
  obtain ⟨a, xs, ex, hq, q⟩ := q1
  subst ex
  cases r1 with
  | cons r rr =>
    cases rr
    cases r
    obtain ⟨its, rv, tp, hz⟩ := I1.tuple hq
    have lta : a < s1.heap.objs.size := by obtain ⟨_, z, _⟩ := tp; exact Heap.lt_size z
    refine made (begins_tuple a its.toArray) tp fun hn isE isT hk => wpAny_pyIter_enum isE ?_
    have I2 : Inv X pins σ H1 { s1 with heap := hn } := I1.kept (t' := s1.toks) hk
    refine ⟨s1.heap.objs.size + 1, [s1.heap.objs.size + 1, s1.heap.objs.size], _, _, H1, rfl, I2, turn a (s1.heap.objs.size + 1) s1.heap.objs.size,
      ⟨⟨.none, isE⟩, ⟨_, isT, rfl, rfl⟩, Nat.succ_ne_self _, Nat.ne_of_lt lta, Nat.ne_of_gt (Nat.lt_succ_of_lt lta)⟩, fun b hb => ?_, q⟩
    have two : b = s1.heap.objs.size + 1 ∨ b = s1.heap.objs.size := by simpa using hb
    have hle : s1.heap.objs.size ≤ b := by rcases two with rfl | rfl <;> omega
    exact I1.fpOk hle (I1.hok.fresh hle)
/-- the loop's word -/
theorem for_enumT {K : PySem.W.Frag} {a : Addr} {xs : List V} {g : TG} {tb : TS} {D : Ends} {σ : L2.St} {H : Hp} (Pv : Nat → L2.St → Hp → Prop) (h0 : Pv 0 σ H) (hl : ∀ i σ H, i ≤ xs.length → Pv i σ H → SqT K H a xs)
    (hs : ∀ i x σ H T, xs[i]? = some x → Pv i σ H → H T = none → g (.ref T) σ (upd H T (.tup [.int (i : Nat), x])) fun σ2 H2 => tb { D with nx := Pv (i + 1), ct := Pv (i + 1), bk := D.nx } σ2 H2) (hd : ∀ σ H, Pv xs.length σ H → D.nx σ H) :
    ∃ W : Nat → Nat → L2.St → Hp → Prop, (∃ m, W 0 m σ H) ∧ ∀ i m σ H, W i m σ H →
      ((Itu K a).stop i H ∧ D.nx σ H) ∨ ((Itu K a).go i H ∧ ∃ N : L2.St → Hp → Prop, (∀ σ' H', N σ' H' → ∃ m', m' < m ∧ W (i + 1) m' σ' H') ∧ ∀ x H', (Itu K a).yld i H x H' → g x σ H' fun σ2 H2 => tb { D with nx := N, ct := N, bk := D.nx } σ2 H2) := by
  refine ⟨fun i m σ H => m = xs.length - i ∧ i ≤ xs.length ∧ Pv i σ H, ⟨xs.length, by simp, Nat.zero_le _, h0⟩, ?_⟩
  rintro i m σ H ⟨rfl, hi, p⟩
  have q := hl i σ H hi p
  rcases Nat.lt_or_ge i xs.length with lt | ge
  · refine .inr ⟨⟨xs, xs[i], q, by simp [lt]⟩, Pv (i + 1), fun σ2 H2 p2 => ⟨xs.length - (i + 1), by omega, rfl, lt, p2⟩, fun x H2 y => ?_⟩
    obtain ⟨T, z, rfl, nT, rfl, hz⟩ := y
    exact hs i z σ H T (hz xs q) p nT
  · obtain rfl : i = xs.length := by omega
    exact .inl ⟨⟨xs, q, Nat.le_refl _⟩, hd σ H p⟩
end ETup

namespace My
open PySem L2
abbrev sIIB : Stmt := top 9
abbrev sIR : Stmt := top 10
abbrev sCI : Stmt := top 11
abbrev sCS : Stmt := top 12
abbrev sCR : Stmt := top 13
abbrev sCW : Stmt := top 18
abbrev sInit : Stmt := inClass (top 19) 0
abbrev sAllows : Stmt := inClass (top 19) 4
abbrev sCan : Stmt := inClass (top 19) 5
abbrev sMust : Stmt := inClass (top 19) 6
/-! ### the mirror -/
def canH (A B : Str) (left size count : Int) : Bool :=
  if count = 0 then (if left = 0 then true else decide (B = "waiting")) else if A = "exact" then decide (count = if left < size then left else size) else decide (count ≤ if left < size then left else size)
def mustT (E : Str) (left count : Int) : Bool := if E = "empty" then false else if E = "behind" then decide (left = 0) else decide (count = left)
def allowsM (A B E : Str) (size : Int) : Int → List (Int × Bool) → Bool
  | _, [] => true
  | left, (c, t) :: r => if canH A B left size c = true ∧ t = mustT E left c then allowsM A B E size (left - c) r else false
/-! ### the data -/
def sf (A B E : Str) : List (Str × V) := putF "end" (.str E) (putF "patience" (.str B) (putF "amount" (.str A) []))
theorem sf_am (A B E : Str) : (sf A B E).lookup ("amount" : Str) = some (.str A) := by
  unfold sf
  rw [lookup_putF, if_neg (by decide +kernel), lookup_putF, if_neg (by decide +kernel), lookup_putF, if_pos rfl]
theorem sf_pa (A B E : Str) : (sf A B E).lookup ("patience" : Str) = some (.str B) := by
  unfold sf
  rw [lookup_putF, if_neg (by decide +kernel), lookup_putF, if_pos rfl]
theorem sf_en (A B E : Str) : (sf A B E).lookup ("end" : Str) = some (.str E) := by
  unfold sf
  rw [lookup_putF, if_pos rfl]
theorem sf_no (A B E : Str) {m : Str} (h1 : ¬ m = "end") (h2 : ¬ m = "patience") (h3 : ¬ m = "amount") : (sf A B E).lookup m = none := by
  unfold sf
  rw [lookup_putF, if_neg h1, lookup_putF, if_neg h2, lookup_putF, if_neg h3]
  rfl
/-- a kind of sources stands at o -/
def Src (C : Addr) (H : Hp) (o : Addr) (A B E : Str) : Prop := ∃ dx, H o = some (.ins C dx (sf A B E))
theorem Src.same {C : Addr} {H H' : Hp} {o : Addr} {A B E : Str} (s : Same H H') (h : Src C H o A B E) : Src C H' o A B E := let ⟨dx, e⟩ := h; ⟨dx, s _ _ e⟩
/-- a reply as a value -/
def Rep (H : Hp) (x : V) (r : Int × Bool) : Prop := ∃ t, x = .ref t ∧ H t = some (.tup [.int r.1, .bl r.2])
theorem Rep.same {H H' : Hp} {x : V} {r : Int × Bool} (s : Same H H') (h : Rep H x r) : Rep H' x r := let ⟨t, e, q⟩ := h; ⟨t, e, s _ _ q⟩
inductive Reps (H : Hp) : List V → List (Int × Bool) → Prop where
  | nil : Reps H [] []
  | cons {x : V} {r : Int × Bool} {xs : List V} {rs : List (Int × Bool)} (h : Rep H x r) (t : Reps H xs rs) : Reps H (x :: xs) (r :: rs)
theorem Reps.mono {H H' : Hp} (f : ∀ x r, Rep H x r → Rep H' x r) : ∀ {xs rs}, Reps H xs rs → Reps H' xs rs
  | _, _, .nil => .nil
  | _, _, .cons h t => .cons (f _ _ h) (t.mono f)
theorem Reps.same {H H' : Hp} (s : Same H H') {xs rs} (h : Reps H xs rs) : Reps H' xs rs := h.mono fun _ _ q => q.same s
theorem Reps.len {H : Hp} : ∀ {xs rs}, Reps H xs rs → xs.length = rs.length
  | _, _, .nil => rfl
  | _, _, .cons _ t => congrArg (· + 1) t.len
theorem Reps.get {H : Hp} : ∀ {xs rs} {i : Nat} {x : V}, Reps H xs rs → xs[i]? = some x → ∃ r, rs[i]? = some r ∧ Rep H x r
  | _, _, i, x, .nil, h => by simp at h
  | _, _, 0, x, .cons h _, e => ⟨_, rfl, by cases (Option.some.inj e); exact h⟩
  | _, _, i + 1, x, .cons _ t, e => t.get (i := i) e
theorem Same.set {K : PySem.W.Frag} {H H' : Hp} {a : Addr} {xs : List V} (e : Same H H') (h : SqT K H a xs) : SqT K H' a xs := by
  rcases h with (h | ⟨o, h⟩) | h
  · exact .inl (.inl (e _ _ h))
  · exact .inl (.inr ⟨o, e _ _ h⟩)
  · exact .inr h
/-! ### the text -/
structure TxtP (K : PySem.W.Frag) (mg : Str → Option Value) (C pA pP pE fIIB fIR fCI fCS fCR fCW : Addr) : Prop where
  isi : mg "isinstance" = none
  int : mg "int" = none
  bool : mg "bool" = none
  tuple : mg "tuple" = none
  str : mg "str" = none
  len : mg "len" = none
  min : mg "min" = none
  enum : mg "enumerate" = none
  mr : ∃ t, mg "MOST_REPLIES" = some (.int 100 t)
  mi : ∃ t, mg "MOST_ITEMS" = some (.int 1000 t)
  gA : mg "AMOUNTS" = some (.ref pA)
  gP : mg "PATIENCES" = some (.ref pP)
  gE : mg "ENDS" = some (.ref pE)
  lA : ∀ H, SqT K H pA [.str "exact", .str "short"]
  lP : ∀ H, SqT K H pP [.str "prompt", .str "waiting"]
  lE : ∀ H, SqT K H pE [.str "empty", .str "with", .str "behind"]
  gIIB : mg "is_integer_between" = some (.ref fIIB)
  kIIB : PySem.W.keepIn K (.ref fIIB) = true
  gIR : mg "is_reply" = some (.ref fIR)
  kIR : PySem.W.keepIn K (.ref fIR) = true
  gCI : mg "check_items" = some (.ref fCI)
  kCI : PySem.W.keepIn K (.ref fCI) = true
  gCS : mg "check_size" = some (.ref fCS)
  kCS : PySem.W.keepIn K (.ref fCS) = true
  gCR : mg "check_replies" = some (.ref fCR)
  kCR : PySem.W.keepIn K (.ref fCR) = true
  gCW : mg "check_word" = some (.ref fCW)
  kCW : PySem.W.keepIn K (.ref fCW) = true
  gC : mg "Source" = some (.ref C)
  cl : Cls K C
  nA : NoAttr K C "amount"
  nP : NoAttr K C "patience"
  nE : NoAttr K C "end"
section
variable {P : Program} {w : World} {K : PySem.W.Frag} {mg : Str → Option Value} {base : Heap} {C pA pP pE fIIB fIR fCI fCS fCR fCW : Addr}
/-! ### is_integer_between -/
def spIIB : Sp := fun vs H Q _ => ∃ v lo hi : Int, vs = [.int v, .int lo, .int hi] ∧ Q (.bl (decide (lo ≤ v ∧ v ≤ hi))) H
theorem scIIB : FnScope ["value", "low", "high"] ["value", "low", "high"] (defScope sIIB) := ⟨rfl, rfl, rfl, by decide +kernel, rfl, by decide +kernel, by decide +kernel⟩
theorem ok_iib {f : Addr} {fd : FuncData} (F : Fun K "is_integer_between" "is_integer_between" sIIB f fd) (T : TxtP K mg C pA pP pE fIIB fIR fCI fCS fCR fCW) : FnOk P w K mg base CX0 1 f fd ["value", "low", "high"] spIIB := by
  refine F.ok scIIB (fun vs H Q E h => ?_) (fun cdv A outer s H vs Q E hr h => ?_)
  · obtain ⟨v, lo, hi, rfl, _⟩ := h
    rfl
  · obtain ⟨v, lo, hi, rfl, k⟩ := h
    refine ⟨_, pss_one (ps_ret (pe_and (pe_callB call_isi (by rfl) T.isi (by decide +kernel) (pa_cons (pv 0) (pa_cons (pe_bltn (v := .ty "int") (by rfl) T.int (by decide +kernel) rfl) pa_nil)))
      (pe_and (pe_not (pe_callB call_isi (by rfl) T.isi (by decide +kernel) (pa_cons (pv 0) (pa_cons (pe_bltn (v := .ty "bool") (by rfl) T.bool (by decide +kernel) rfl) pa_nil))))
        (pe_one (pe_chain op_le op_le (pv 1) (pv 0) (pv 2)))))), ?_⟩
    refine ⟨_, rfl, _, _, _, _, true, rfl, .ty "int", .base (.int v), kit_ty (by decide +kernel), true, rfl, iteT ?_⟩
    refine ⟨_, rfl, _, _, _, _, false, rfl, .ty "bool", .base (.int v), kit_ty (by decide +kernel), false, rfl, true, rfl, iteT ?_⟩
    refine ⟨_, rfl, _, rfl, _, _, rfl, rfl, _, rfl, ?_⟩
    refine ite2 (fun c => ?_) (fun c => ?_)
    · refine ⟨_, rfl, _, _, rfl, rfl, ?_⟩
      have c1 : lo ≤ v := of_decide_eq_true c
      have e : decide (lo ≤ v ∧ v ≤ hi) = decide (v ≤ hi) := decide_eq_decide.mpr ⟨fun z => z.2, fun z => ⟨c1, z⟩⟩
      rw [e] at k
      exact k
    · have c1 : ¬ lo ≤ v := fun z => c (decide_eq_true z)
      rw [show decide (lo ≤ v ∧ v ≤ hi) = false from decide_eq_false fun z => c1 z.1] at k
      exact k
/-! ### check_items, check_size -/
def spCI : Sp := fun vs H Q _ => ∃ v : Int, vs = [.int v] ∧ 0 ≤ v ∧ v ≤ 1000 ∧ Q .non H
def spCS : Sp := fun vs H Q _ => ∃ v : Int, vs = [.int v] ∧ 1 ≤ v ∧ v ≤ 1000 ∧ Q .non H
theorem scCI : FnScope ["items"] ["items"] (defScope sCI) := ⟨rfl, rfl, rfl, by decide +kernel, rfl, by decide +kernel, by decide +kernel⟩
theorem scCS : FnScope ["size"] ["size"] (defScope sCS) := ⟨rfl, rfl, rfl, by decide +kernel, rfl, by decide +kernel, by decide +kernel⟩
theorem ok_ci {f : Addr} {fd fd1 : FuncData} (F : Fun K "check_items" "check_items" sCI f fd) (T : TxtP K mg C pA pP pE fIIB fIR fCI fCS fCR fCW) (F1 : Fun K "is_integer_between" "is_integer_between" sIIB fIIB fd1) (b1 : Binds K fd1 ["value", "low", "high"] []) :
    FnOk P w K mg base CX0 2 f fd ["items"] spCI := by
  have G1 : FnOk P w K mg base CX0 1 fIIB fd1 ["value", "low", "high"] spIIB := ok_iib F1 T
  obtain ⟨t, mi⟩ := T.mi
  refine F.ok scCI (fun vs H Q E h => ?_) (fun cdv A outer s H vs Q E hr h => ?_)
  · obtain ⟨v, rfl, _⟩ := h
    rfl
  · obtain ⟨v, rfl, h1, h2, k⟩ := h
    refine ⟨_, pss_one (ps_if (pt_not (pt_val (pe_call G1 hr rfl T.gIIB T.kIIB b1 .nil pass0 (pa_cons (pv 0) (pa_cons pe_int (pa_cons (pe_glob (v := .int 1000) rfl mi ⟨_, rfl⟩) pa_nil)))))) (pss_one ps_never) pss_nil), ?_⟩
    refine ⟨_, rfl, v, 0, 1000, rfl, true, ?_, ?_⟩
    · rw [decide_eq_true (show (0 : Int) ≤ v ∧ v ≤ 1000 from ⟨h1, h2⟩)]
    · exact k
theorem ok_cs {f : Addr} {fd fd1 : FuncData} (F : Fun K "check_size" "check_size" sCS f fd) (T : TxtP K mg C pA pP pE fIIB fIR fCI fCS fCR fCW) (F1 : Fun K "is_integer_between" "is_integer_between" sIIB fIIB fd1) (b1 : Binds K fd1 ["value", "low", "high"] []) :
    FnOk P w K mg base CX0 2 f fd ["size"] spCS := by
  have G1 : FnOk P w K mg base CX0 1 fIIB fd1 ["value", "low", "high"] spIIB := ok_iib F1 T
  obtain ⟨t, mi⟩ := T.mi
  refine F.ok scCS (fun vs H Q E h => ?_) (fun cdv A outer s H vs Q E hr h => ?_)
  · obtain ⟨v, rfl, _⟩ := h
    rfl
  · obtain ⟨v, rfl, h1, h2, k⟩ := h
    refine ⟨_, pss_one (ps_if (pt_not (pt_val (pe_call G1 hr rfl T.gIIB T.kIIB b1 .nil pass0 (pa_cons (pv 0) (pa_cons pe_int (pa_cons (pe_glob (v := .int 1000) rfl mi ⟨_, rfl⟩) pa_nil)))))) (pss_one ps_never) pss_nil), ?_⟩
    refine ⟨_, rfl, v, 1, 1000, rfl, true, ?_, ?_⟩
    · rw [decide_eq_true (show (1 : Int) ≤ v ∧ v ≤ 1000 from ⟨h1, h2⟩)]
    · exact k
/-! ### is_reply -/
def spIR : Sp := fun vs H Q _ => ∃ (t : Addr) (c m : Int) (b : Bool), vs = [.ref t, .int m] ∧ H t = some (.tup [.int c, .bl b]) ∧ 0 ≤ c ∧ c ≤ m ∧ Q (.bl true) H
theorem scIR : FnScope ["value", "most", "count", "told"] ["value", "most"] (defScope sIR) := ⟨rfl, rfl, rfl, by decide +kernel, rfl, by decide +kernel, by decide +kernel⟩
theorem ok_ir {f : Addr} {fd fd1 : FuncData} (F : Fun K "is_reply" "is_reply" sIR f fd) (T : TxtP K mg C pA pP pE fIIB fIR fCI fCS fCR fCW) (F1 : Fun K "is_integer_between" "is_integer_between" sIIB fIIB fd1) (b1 : Binds K fd1 ["value", "low", "high"] []) :
    FnOk P w K mg base CX0 2 f fd ["value", "most"] spIR := by
  have G1 : FnOk P w K mg base CX0 1 fIIB fd1 ["value", "low", "high"] spIIB := ok_iib F1 T
  refine F.ok scIR (fun vs H Q E h => ?_) (fun cdv A outer s H vs Q E hr h => ?_)
  · obtain ⟨t, c, m, b, rfl, _⟩ := h
    rfl
  · obtain ⟨t, c, m, b, rfl, ht, c0, c1, k⟩ := h
    refine ⟨_, pss_cons (ps_if (PW.pt (pw_or (pt_not (pt_val (pe_callB call_isi (by rfl) T.isi (by decide +kernel) (pa_cons (pv 0) (pa_cons (pe_bltn (v := .ty "tuple") (by rfl) T.tuple (by decide +kernel) rfl) pa_nil)))))
          (pw_or1 (pt_cmpR op_ne (pe_callB call_len_seq (by rfl) T.len PySem.boot_len (pa_cons (pv 0) pa_nil)) pe_int (nomark _))))) (pss_one ps_never) pss_nil)
      (pss_cons (ps_asg (pv 0) (pg_tup rfl (pgs_cons (pg_name (i := 2) scIR.nd rfl (.inl rfl)) (pgs_cons (pg_name (i := 3) scIR.nd rfl (.inl rfl)) pgs_nil))))
      (pss_one (ps_ret (pe_and (pe_call G1 hr rfl T.gIIB T.kIIB b1 .nil pass0 (pa_cons (pv 2) (pa_cons pe_int (pa_cons (pv 1) pa_nil))))
        (pe_one (pe_callB call_isi (by rfl) T.isi (by decide +kernel) (pa_cons (pv 3) (pa_cons (pe_bltn (v := .ty "bool") (by rfl) T.bool (by decide +kernel) rfl) pa_nil)))))))), ?_⟩
    refine ⟨_, rfl, _, _, _, _, true, rfl, .ty "tuple", .base (.tup ht), kit_ty (by decide +kernel), true, rfl, iteF ?_⟩
    refine ⟨_, rfl, t, _, rfl, .inr (SqT.of ht), rfl, _, rfl, iteF ?_⟩
    refine ⟨_, rfl, t, _, rfl, SqT.of ht, rfl, _, _, rfl, _, _, rfl, rfl, ?_⟩
    refine ⟨_, rfl, _, rfl, c, 0, m, rfl, true, ?_, iteT ?_⟩
    · rw [decide_eq_true (show (0 : Int) ≤ c ∧ c ≤ m from ⟨c0, c1⟩)]
    · exact ⟨_, rfl, _, _, _, _, true, rfl, .ty "bool", .base (.bl b), kit_ty (by decide +kernel), k⟩
/-! ### check_replies -/
def Okr (m : Int) (rs : List (Int × Bool)) : Prop := ∀ r ∈ rs, 0 ≤ r.1 ∧ r.1 ≤ m
def spCR (K : PySem.W.Frag) : Sp := fun vs H Q _ => ∃ (p : Addr) (m : Int) (xs : List V) (rs : List (Int × Bool)), vs = [.ref p, .int m] ∧ H p = some (.tup xs) ∧ Reps H xs rs ∧ rs.length ≤ 100 ∧ Okr m rs ∧ ∀ H', Same H H' → Q .non H'
theorem scCR : FnScope ["replies", "most", "index", "reply"] ["replies", "most"] (defScope sCR) := ⟨rfl, rfl, rfl, by decide +kernel, rfl, by decide +kernel, by decide +kernel⟩
theorem ok_cr {f : Addr} {fd fd1 fd2 : FuncData} (F : Fun K "check_replies" "check_replies" sCR f fd) (T : TxtP K mg C pA pP pE fIIB fIR fCI fCS fCR fCW) (F1 : Fun K "is_integer_between" "is_integer_between" sIIB fIIB fd1) (b1 : Binds K fd1 ["value", "low", "high"] [])
    (F2 : Fun K "is_reply" "is_reply" sIR fIR fd2) (b2 : Binds K fd2 ["value", "most"] []) : FnOk P w K mg base CX0 3 f fd ["replies", "most"] (spCR K) := by
  have G2 : FnOk P w K mg base CX0 2 fIR fd2 ["value", "most"] spIR := ok_ir F2 T F1 b1
  obtain ⟨t, mr⟩ := T.mr
  refine F.ok scCR (fun vs H Q E h => ?_) (fun cdv A outer s H vs Q E hr h => ?_)
  · obtain ⟨p, m, xs, rs, rfl, _⟩ := h
    rfl
  · obtain ⟨p, m, xs, rs, rfl, hp, hR, hl, hok, k⟩ := h
    refine ⟨_, pss_cons (ps_if (PW.pt (pw_or (pt_not (pt_val (pe_callB call_isi (by rfl) T.isi (by decide +kernel) (pa_cons (pv 0) (pa_cons (pe_bltn (v := .ty "tuple") (by rfl) T.tuple (by decide +kernel) rfl) pa_nil)))))
          (pw_or1 (pt_cmpR op_gt (pe_callB call_len_seq (by rfl) T.len PySem.boot_len (pa_cons (pv 0) pa_nil)) (pe_glob (v := .int 100) rfl mr ⟨_, rfl⟩) (nomark _))))) (pss_one ps_never) pss_nil)
      (pss_one (ps_for PassesOwn.never rfl (ETup.pi_enumT (by rfl) T.enum (pa_cons (pv 0) pa_nil)) (pg_tup rfl (pgs_cons (pg_name (i := 2) scCR.nd rfl (.inl rfl)) (pgs_cons (pg_name (i := 3) scCR.nd rfl (.inl rfl)) pgs_nil)))
        (pss_one (ps_if (pt_not (pt_val (pe_call G2 hr rfl T.gIR T.kIR b2 .nil pass0 (pa_cons (pv 3) (pa_cons (pv 1) pa_nil))))) (pss_one ps_never) pss_nil)))), ?_⟩
    refine ⟨_, rfl, _, _, _, _, true, rfl, .ty "tuple", .base (.tup hp), kit_ty (by decide +kernel), true, rfl, iteF ?_⟩
    refine ⟨_, rfl, p, _, rfl, .inr (SqT.of hp), _, _, rfl, rfl, _, rfl, ?_⟩
    have hlx := hR.len
    rw [decide_eq_false (show ¬ (100 : Int) < (xs.length : Int) by omega)]
    refine iteF ?_
    refine ⟨_, rfl, p, xs, rfl, SqT.of hp, ETup.for_enumT (K := K) (a := p) (xs := xs) (fun i σ H' => Same H H' ∧ ∃ v v', σ = [some (.ref p), some (.int m), v, v']) ⟨Same.refl _, none, none, rfl⟩ (fun i σ H' _ ⟨s', _⟩ => SqT.of (s' _ _ hp)) ?_ ?_⟩
    · rintro i x σ H' T' hx ⟨s', v, v', rfl⟩ nT
      obtain ⟨r, hr1, t0, rfl, ht0⟩ := hR.get hx
      have s2 : Same H (upd H' T' (.tup [.int (i : Nat), .ref t0])) := Same.trans s' (same_upd nT)
      have hb := hok r (List.mem_of_getElem? hr1)
      refine ⟨T', _, rfl, SqT.of upd_same, rfl, _, _, rfl, _, _, rfl, rfl, ?_⟩
      exact ⟨_, rfl, _, rfl, t0, r.1, m, r.2, rfl, s2 _ _ ht0, hb.1, hb.2, true, rfl, s2, _, _, rfl⟩
    · rintro σ H' ⟨s', v, v', rfl⟩
      exact k H' s'
end
end My

namespace My
open PySem L2
theorem dI (a b : Int) : decide (V.int a = V.int b) = decide (a = b) := decide_eq_decide.mpr ⟨fun z => by cases z; rfl, fun z => by rw [z]⟩
theorem dS (a b : Str) : decide (V.str a = V.str b) = decide (a = b) := decide_eq_decide.mpr ⟨fun z => by cases z; rfl, fun z => by rw [z]⟩
theorem dB (a b : Bool) : decide (V.bl a = V.bl b) = decide (a = b) := decide_eq_decide.mpr ⟨fun z => by cases z; rfl, fun z => by rw [z]⟩
section
variable {P : Program} {w : World} {K : PySem.W.Frag} {mg : Str → Option Value} {base : Heap} {C pA pP pE fIIB fIR fCI fCS fCR fCW : Addr}
/-! ### check_word -/
def spCW (K : PySem.W.Frag) : Sp := fun vs H Q _ => ∃ (x : Str) (p : Addr) (xs : List V), vs = [.str x, .ref p] ∧ SqT K H p xs ∧ xs.all flatV = true ∧ inV (.str x) xs = true ∧ Q .non H
theorem scCW : FnScope ["word", "words"] ["word", "words"] (defScope sCW) := ⟨rfl, rfl, rfl, by decide +kernel, rfl, by decide +kernel, by decide +kernel⟩
theorem ok_cw {f : Addr} {fd : FuncData} (F : Fun K "check_word" "check_word" sCW f fd) (T : TxtP K mg C pA pP pE fIIB fIR fCI fCS fCR fCW) : FnOk P w K mg base CX0 1 f fd ["word", "words"] (spCW K) := by
  refine F.ok scCW (fun vs H Q E h => ?_) (fun cdv A outer s H vs Q E hr h => ?_)
  · obtain ⟨x, p, xs, rfl, _⟩ := h
    rfl
  · obtain ⟨x, p, xs, rfl, hp, hf, hi, k⟩ := h
    refine ⟨_, pss_one (ps_if (PW.pt (pw_or (pt_not (pt_val (pe_callB call_isi (by rfl) T.isi (by decide +kernel) (pa_cons (pv 0) (pa_cons (pe_bltn (v := .ty "str") (by rfl) T.str (by decide +kernel) rfl) pa_nil)))))
          (pw_or1 (pt_cmpR op_notIn_seq (pv 0) (pv 1) (by rfl))))) (pss_one ps_never) pss_nil), ?_⟩
    refine ⟨_, rfl, _, _, _, _, true, rfl, .ty "str", .base (.str x), kit_ty (by decide +kernel), true, rfl, iteF ?_⟩
    refine ⟨_, rfl, _, rfl, p, xs, rfl, .inr hp, rfl, hf, _, rfl, ?_⟩
    rw [hi]
    exact iteF k
/-! ### Source -/
def isAm (A : Str) : Prop := A = "exact" ∨ A = "short"
def isPa (B : Str) : Prop := B = "prompt" ∨ B = "waiting"
def isEn (E : Str) : Prop := E = "empty" ∨ E = "with" ∨ E = "behind"
def spInit (C : Addr) : Sp := fun vs H Q _ => ∃ (x dx : Addr) (A B E : Str), vs = [.ref x, .str A, .str B, .str E] ∧ isAm A ∧ isPa B ∧ isEn E ∧ H x = some (.ins C dx []) ∧
  ∀ H' : Hp, (∀ b o, b ≠ x → H b = some o → H' b = some o) → H' x = some (.ins C dx (sf A B E)) → Q .non H'
theorem scInit : FnScope ["self", "amount", "patience", "end"] ["self", "amount", "patience", "end"] (defScope sInit) := ⟨rfl, rfl, rfl, by decide +kernel, rfl, by decide +kernel, by decide +kernel⟩
theorem putF_len (f : Str) (v : V) : ∀ fs : List (Str × V), (putF f v fs).length ≤ fs.length + 1
  | [] => Nat.le_refl _
  | (g, x) :: r => by
    unfold putF
    by_cases h : g = f
    · rw [if_pos h]
      exact Nat.le_succ _
    · rw [if_neg h]
      exact Nat.succ_le_succ (putF_len f v r)
theorem ok_init {f : Addr} {fd fd1 : FuncData} (F : Fun K "__init__" "Source.__init__" sInit f fd) (T : TxtP K mg C pA pP pE fIIB fIR fCI fCS fCR fCW) (F1 : Fun K "check_word" "check_word" sCW fCW fd1) (b1 : Binds K fd1 ["word", "words"] []) :
    FnOk P w K mg base CX0 2 f fd ["self", "amount", "patience", "end"] (spInit C) := by
  have G1 : FnOk P w K mg base CX0 1 fCW fd1 ["word", "words"] (spCW K) := ok_cw F1 T
  refine F.ok scInit (fun vs H Q E h => ?_) (fun cdv A outer s H vs Q E hr h => ?_)
  · obtain ⟨x, dx, A, B, E, rfl, _⟩ := h
    rfl
  · obtain ⟨x, dx, A, B, E, rfl, hA, hB, hE, hx, k⟩ := h
    refine ⟨_, pss_cons (ps_expr (pe_call G1 hr rfl T.gCW T.kCW b1 .nil pass0 (pa_cons (pv 1) (pa_cons (pe_glob (v := .ref pA) rfl T.gA rfl) pa_nil))))
      (pss_cons (ps_expr (pe_call G1 hr rfl T.gCW T.kCW b1 .nil pass0 (pa_cons (pv 2) (pa_cons (pe_glob (v := .ref pP) rfl T.gP rfl) pa_nil))))
      (pss_cons (ps_expr (pe_call G1 hr rfl T.gCW T.kCW b1 .nil pass0 (pa_cons (pv 3) (pa_cons (pe_glob (v := .ref pE) rfl T.gE rfl) pa_nil))))
      (pss_cons (ps_fld (pv 0) (pv 1) rfl) (pss_cons (ps_fld (pv 0) (pv 2) rfl) (pss_one (ps_fld (pv 0) (pv 3) rfl)))))), ?_⟩
    refine ⟨_, rfl, A, pA, _, rfl, T.lA _, rfl, ?_, ?_⟩
    · rcases hA with rfl | rfl <;> decide +kernel
    refine ⟨_, rfl, B, pP, _, rfl, T.lP _, rfl, ?_, ?_⟩
    · rcases hB with rfl | rfl <;> decide +kernel
    refine ⟨_, rfl, E, pE, _, rfl, T.lE _, rfl, ?_, ?_⟩
    · rcases hE with rfl | rfl | rfl <;> decide +kernel
    refine ⟨_, rfl, _, rfl, x, C, dx, _, rfl, hx, T.cl, T.nA, (by show 0 < 1000; decide), ?_⟩
    refine ⟨_, rfl, _, rfl, x, C, dx, _, rfl, upd_same, T.cl, T.nP, (by show 1 < 1000; decide), ?_⟩
    refine ⟨_, rfl, _, rfl, x, C, dx, _, rfl, upd_same, T.cl, T.nE, ?_, ?_⟩
    · exact Nat.lt_of_le_of_lt (putF_len _ _ _) (Nat.lt_of_le_of_lt (Nat.add_le_add_right (putF_len _ _ _) 1) (by decide))
    · refine k _ (fun b o nb e => ?_) upd_same
      rw [upd_ne nb, upd_ne nb, upd_ne nb]
      exact e
/-! ### can_hand_out, must_tell -/
def spCan (C : Addr) : Sp := fun vs H Q _ => ∃ (o : Addr) (A B E : Str) (left size count : Int), vs = [.ref o, .int left, .int size, .int count] ∧ Src C H o A B E ∧ Q (.bl (canH A B left size count)) H
def mustE (E : Str) (before after : Int) : Bool := if E = "empty" then false else if E = "behind" then decide (before = 0) else decide (after = 0)
theorem mustE_eq (E : Str) (l c : Int) : mustE E l (l - c) = mustT E l c := by
  unfold mustE mustT
  have h : (l - c = 0) ↔ (c = l) := ⟨fun h => by omega, fun h => by omega⟩
  simp only [h]
def spMust (C : Addr) : Sp := fun vs H Q _ => ∃ (o : Addr) (A B E : Str) (before after : Int), vs = [.ref o, .int before, .int after] ∧ Src C H o A B E ∧ Q (.bl (mustE E before after)) H
theorem scCan : FnScope ["self", "left", "size", "count"] ["self", "left", "size", "count"] (defScope sCan) := ⟨rfl, rfl, rfl, by decide +kernel, rfl, by decide +kernel, by decide +kernel⟩
theorem scMust : FnScope ["self", "before", "after"] ["self", "before", "after"] (defScope sMust) := ⟨rfl, rfl, rfl, by decide +kernel, rfl, by decide +kernel, by decide +kernel⟩
theorem ok_can {f : Addr} {fd : FuncData} (F : Fun K "can_hand_out" "Source.can_hand_out" sCan f fd) (T : TxtP K mg C pA pP pE fIIB fIR fCI fCS fCR fCW) : FnOk P w K mg base CX0 1 f fd ["self", "left", "size", "count"] (spCan C) := by
  refine F.ok scCan (fun vs H Q E h => ?_) (fun cdv A outer s H vs Q E hr h => ?_)
  · obtain ⟨o, A, B, E, l, z, c, rfl, _⟩ := h
    rfl
  · obtain ⟨o, A, B, E, l, z, c, rfl, ⟨dx, ho⟩, k⟩ := h
    refine ⟨_, pss_cons (ps_if (pt_cmpR op_eq (pv 3) pe_int (nomark _)) (pss_one (ps_ret (pe_or (pe_cmpR op_eq (pv 1) pe_int (nomark _)) (pe_one (pe_cmpR op_eq (pe_fld (pv 0) rfl) pe_str (nomark _)))))) pss_nil)
      (pss_cons (ps_if (pt_cmpR op_eq (pe_fld (pv 0) rfl) pe_str (nomark _)) (pss_one (ps_ret (pe_cmpR op_eq (pv 3) (pe_callB (call_min2 rfl) (by rfl) T.min (by decide +kernel) (pa_cons (pv 2) (pa_cons (pv 1) pa_nil))) (nomark _)))) pss_nil)
      (pss_one (ps_ret (pe_cmpR op_le (pv 3) (pe_callB (call_min2 rfl) (by rfl) T.min (by decide +kernel) (pa_cons (pv 2) (pa_cons (pv 1) pa_nil))) (nomark _))))), ?_⟩
    unfold canH at k
    refine ⟨_, rfl, rfl, _, rfl, ?_⟩
    rw [dI]
    refine ite2 (fun c1 => ?_) (fun c1 => ?_)
    · rw [if_pos (of_decide_eq_true c1)] at k
      refine ⟨_, rfl, rfl, _, rfl, ?_⟩
      rw [dI]
      refine ite2 (fun c2 => ?_) (fun c2 => ?_)
      · rw [if_pos (of_decide_eq_true c2)] at k
        exact k
      · rw [if_neg (fun e => c2 (decide_eq_true e))] at k
        refine ⟨_, rfl, o, C, dx, _, _, rfl, ho, T.cl, T.nP, sf_pa _ _ _, rfl, ?_⟩
        rw [dS]
        exact k
    · rw [if_neg (fun e => c1 (decide_eq_true e))] at k
      refine ⟨_, rfl, o, C, dx, _, _, rfl, ho, T.cl, T.nA, sf_am _ _ _, rfl, _, rfl, ?_⟩
      rw [dS]
      refine ite2 (fun c2 => ?_) (fun c2 => ?_)
      · rw [if_pos (of_decide_eq_true c2)] at k
        refine ⟨_, rfl, _, rfl, _, rfl, z, l, rfl, rfl, ?_⟩
        rw [dI]
        exact k
      · rw [if_neg (fun e => c2 (decide_eq_true e))] at k
        exact ⟨_, rfl, _, rfl, _, rfl, z, l, rfl, _, _, rfl, rfl, k⟩
theorem ok_must {f : Addr} {fd : FuncData} (F : Fun K "must_tell" "Source.must_tell" sMust f fd) (T : TxtP K mg C pA pP pE fIIB fIR fCI fCS fCR fCW) : FnOk P w K mg base CX0 1 f fd ["self", "before", "after"] (spMust C) := by
  refine F.ok scMust (fun vs H Q E h => ?_) (fun cdv A outer s H vs Q E hr h => ?_)
  · obtain ⟨o, A, B, E, l, c, rfl, _⟩ := h
    rfl
  · obtain ⟨o, A, B, E, l, c, rfl, ⟨dx, ho⟩, k⟩ := h
    refine ⟨_, pss_cons (ps_if (pt_cmpR op_eq (pe_fld (pv 0) rfl) pe_str (nomark _)) (pss_one (ps_ret pe_bl)) pss_nil)
      (pss_cons (ps_if (pt_cmpR op_eq (pe_fld (pv 0) rfl) pe_str (nomark _)) (pss_one (ps_ret (pe_cmpR op_eq (pv 1) pe_int (nomark _)))) pss_nil)
      (pss_one (ps_ret (pe_cmpR op_eq (pv 2) pe_int (nomark _))))), ?_⟩
    unfold mustE at k
    refine ⟨_, rfl, o, C, dx, _, _, rfl, ho, T.cl, T.nE, sf_en _ _ _, rfl, _, rfl, ?_⟩
    rw [dS]
    refine ite2 (fun c1 => ?_) (fun c1 => ?_)
    · rw [if_pos (of_decide_eq_true c1)] at k
      exact k
    · rw [if_neg (fun e => c1 (decide_eq_true e))] at k
      refine ⟨_, rfl, o, C, dx, _, _, rfl, ho, T.cl, T.nE, sf_en _ _ _, rfl, _, rfl, ?_⟩
      rw [dS]
      refine ite2 (fun c2 => ?_) (fun c2 => ?_)
      · rw [if_pos (of_decide_eq_true c2)] at k
        refine ⟨_, rfl, rfl, ?_⟩
        rw [dI]
        exact k
      · rw [if_neg (fun e => c2 (decide_eq_true e))] at k
        refine ⟨_, rfl, rfl, ?_⟩
        rw [dI]
        exact k
/-! ### allows -/
def spAllows (C : Addr) : Sp := fun vs H Q _ => ∃ (o p : Addr) (A B E : Str) (n z : Int) (xs : List V) (rs : List (Int × Bool)), vs = [.ref o, .int n, .int z, .ref p] ∧ Src C H o A B E ∧ 0 ≤ n ∧ n ≤ 1000 ∧ 1 ≤ z ∧ z ≤ 1000 ∧
  H p = some (.tup xs) ∧ Reps H xs rs ∧ rs.length ≤ 100 ∧ Okr 1000 rs ∧ ∀ H', Same H H' → Q (.bl (allowsM A B E z n rs)) H'
theorem scAl : FnScope ["self", "items", "size", "replies", "left", "count", "told"] ["self", "items", "size", "replies"] (defScope sAllows) := ⟨rfl, rfl, rfl, by decide +kernel, rfl, by decide +kernel, by decide +kernel⟩
structure FnP (K : PySem.W.Frag) (C fIIB fIR fCI fCS fCR fCW fI fCan fMust : Addr) (fd1 fd2 fd3 fd4 fd5 fd6 fd7 fd8 fd9 : FuncData) : Prop where
  F1 : Fun K "is_integer_between" "is_integer_between" sIIB fIIB fd1
  b1 : Binds K fd1 ["value", "low", "high"] []
  F2 : Fun K "is_reply" "is_reply" sIR fIR fd2
  b2 : Binds K fd2 ["value", "most"] []
  F3 : Fun K "check_items" "check_items" sCI fCI fd3
  b3 : Binds K fd3 ["items"] []
  F4 : Fun K "check_size" "check_size" sCS fCS fd4
  b4 : Binds K fd4 ["size"] []
  F5 : Fun K "check_replies" "check_replies" sCR fCR fd5
  b5 : Binds K fd5 ["replies", "most"] []
  F6 : Fun K "check_word" "check_word" sCW fCW fd6
  b6 : Binds K fd6 ["word", "words"] []
  F7 : Fun K "__init__" "Source.__init__" sInit fI fd7
  b7 : Binds K fd7 ["self", "amount", "patience", "end"] []
  M7 : Mk K C fI
  F8 : Fun K "can_hand_out" "Source.can_hand_out" sCan fCan fd8
  b8 : Binds K fd8 ["self", "left", "size", "count"] []
  m8 : Meth K C "can_hand_out" fCan
  F9 : Fun K "must_tell" "Source.must_tell" sMust fMust fd9
  b9 : Binds K fd9 ["self", "before", "after"] []
  m9 : Meth K C "must_tell" fMust
variable {fI fCan fMust : Addr} {fd1 fd2 fd3 fd4 fd5 fd6 fd7 fd8 fd9 : FuncData}
theorem ok_al {f : Addr} {fd : FuncData} (F : Fun K "allows" "Source.allows" sAllows f fd) (T : TxtP K mg C pA pP pE fIIB fIR fCI fCS fCR fCW) (N : FnP K C fIIB fIR fCI fCS fCR fCW fI fCan fMust fd1 fd2 fd3 fd4 fd5 fd6 fd7 fd8 fd9) :
    FnOk P w K mg base CX0 4 f fd ["self", "items", "size", "replies"] (spAllows C) := by
  have G3 : FnOk P w K mg base CX0 2 fCI fd3 ["items"] spCI := ok_ci N.F3 T N.F1 N.b1
  have G4 : FnOk P w K mg base CX0 2 fCS fd4 ["size"] spCS := ok_cs N.F4 T N.F1 N.b1
  have G5 : FnOk P w K mg base CX0 3 fCR fd5 ["replies", "most"] (spCR K) := ok_cr N.F5 T N.F1 N.b1 N.F2 N.b2
  have G8 : FnOk P w K mg base CX0 1 fCan fd8 ["self", "left", "size", "count"] (spCan C) := ok_can N.F8 T
  have G9 : FnOk P w K mg base CX0 1 fMust fd9 ["self", "before", "after"] (spMust C) := ok_must N.F9 T
  obtain ⟨t, mi⟩ := T.mi
  refine F.ok scAl (fun vs H Q E h => ?_) (fun cdv A outer s H vs Q E hr h => ?_)
  · obtain ⟨o, p, A, B, E, n, z, xs, rs, rfl, _⟩ := h
    rfl
  · obtain ⟨o, p, A, B, E, n, z, xs, rs, rfl, hO, n0, n1, z0, z1, hp, hR, hl, hok, k⟩ := h
    have hr2 : Room 2 _ := hr.mono (by decide)
    have hr1 : Room 1 _ := hr.mono (by decide)
    refine ⟨_, pss_cons (ps_expr (pe_call G3 hr2 rfl T.gCI T.kCI N.b3 .nil pass0 (pa_cons (pv 1) pa_nil)))
      (pss_cons (ps_expr (pe_call G4 hr2 rfl T.gCS T.kCS N.b4 .nil pass0 (pa_cons (pv 2) pa_nil)))
      (pss_cons (ps_expr (pe_call G5 hr rfl T.gCR T.kCR N.b5 .nil pass0 (pa_cons (pv 3) (pa_cons (pe_glob (v := .int 1000) rfl mi ⟨_, rfl⟩) pa_nil))))
      (pss_cons (ps_set (i := 4) scAl.nd rfl (.inl rfl) (pv 1))
      (pss_cons (ps_for PassesOwn.never rfl (pi_tup (pv 3)) (pg_tup rfl (pgs_cons (pg_name (i := 5) scAl.nd rfl (.inl rfl)) (pgs_cons (pg_name (i := 6) scAl.nd rfl (.inl rfl)) pgs_nil)))
        (pss_cons (ps_if (PW.pt (pw_or (pt_not (pt_val (pe_meth (pv 0) T.cl N.m8 G8 hr1 N.b8 .nil pass0 (pa_cons (pv 4) (pa_cons (pv 2) (pa_cons (pv 5) pa_nil))))))
            (pw_or1 (pt_cmpR op_ne (pv 6) (pe_meth (pv 0) T.cl N.m9 G9 hr1 N.b9 .nil pass0 (pa_cons (pv 4) (pa_cons (pe_op op_sub (pv 4) (pv 5)) pa_nil))) (nomark _))))) (pss_one (ps_ret pe_bl)) pss_nil)
          (pss_one (ps_aug (i := 4) scAl.nd rfl (.inl rfl) (pv 5) ip_sub))))
      (pss_one (ps_ret pe_bl)))))), ?_⟩
    refine ⟨_, rfl, n, rfl, n0, n1, ?_⟩
    refine ⟨_, rfl, z, rfl, z0, z1, ?_⟩
    refine ⟨_, rfl, p, 1000, xs, rs, rfl, hp, hR, hl, hok, fun H1 s1 => ?_⟩
    refine ⟨_, rfl, ?_⟩
    refine ⟨_, rfl, p, rfl, ⟨_, SqT.of (s1 _ _ hp)⟩, for_tup (K := K) (a := p) (xs := xs) (fun i σ H' => Same H H' ∧ ∃ (left : Int) (v v' : Option V), σ = [some (.ref o), some (.int n), some (.int z), some (.ref p), some (.int left), v, v'] ∧ allowsM A B E z n rs = allowsM A B E z left (rs.drop i))
      ⟨s1, n, none, none, rfl, rfl⟩ (fun i σ H' _ ⟨s', _⟩ => SqT.of (s' _ _ hp)) ?_ ?_⟩
    · rintro i x σ H' hx ⟨s', left, v, v', rfl, e⟩
      obtain ⟨r, hr0, t0, rfl, ht0⟩ := hR.get hx
      obtain ⟨c, td⟩ := r
      have hO' := hO.same s'
      obtain ⟨dx, hdx⟩ := id hO'
      have ed : rs.drop i = (c, td) :: rs.drop (i + 1) := by
        obtain ⟨hi, hg⟩ := List.getElem?_eq_some_iff.mp hr0
        rw [List.drop_eq_getElem_cons hi, hg]
      rw [ed] at e
      refine ⟨t0, _, rfl, SqT.of (s' _ _ ht0), rfl, _, _, rfl, _, _, rfl, rfl, ?_⟩
      refine ⟨_, rfl, o, dx, _, rfl, hdx, sf_no _ _ _ (by decide +kernel) (by decide +kernel) (by decide +kernel), _, rfl, _, rfl, _, rfl, o, A, B, E, left, z, c, rfl, hO', _, rfl, ?_⟩
      have e2 : allowsM A B E z left ((c, td) :: rs.drop (i + 1)) = if canH A B left z c = true ∧ td = mustT E left c then allowsM A B E z (left - c) (rs.drop (i + 1)) else false := rfl
      cases hc : canH A B left z c with
      | false =>
        refine iteT (iteT ?_)
        rw [e2, if_neg (by rw [hc]; intro q; exact Bool.false_ne_true q.1)] at e
        rw [e] at k
        exact k H' s'
      | true =>
        refine iteF ?_
        refine ⟨_, rfl, _, rfl, o, dx, _, rfl, hdx, sf_no _ _ _ (by decide +kernel) (by decide +kernel) (by decide +kernel), _, rfl, _, rfl, _, rfl, left, c, rfl, rfl, o, A, B, E, left, left - c, rfl, hO', rfl, _, rfl, ?_⟩
        rw [dB, mustE_eq]
        by_cases ht : td = mustT E left c
        · rw [decide_eq_true ht]
          refine iteF ?_
          rw [e2, if_pos ⟨hc, ht⟩] at e
          exact ⟨_, rfl, _, rfl, _, _, rfl, rfl, s', _, _, _, rfl, e⟩
        · rw [decide_eq_false ht]
          refine iteT ?_
          rw [e2, if_neg (fun q => ht q.2)] at e
          rw [e] at k
          exact k H' s'
    · rintro σ H' ⟨s', left, v, v', rfl, e⟩
      rw [hR.len, List.drop_length] at e
      rw [e] at k
      exact k H' s'
end
end My

/-! the mathematics: what the law's own walk lets is what the program lets -/
namespace My
open PySem L2
def mn (a b : Int) : Int := if b < a then b else a
def optL (A E : Str) (left most : Int) : Nat → List (Int × Bool)
  | 0 => []
  | n + 1 => optL A E left most n ++ (if A = "short" ∨ (n : Int) + 1 = most then [((n : Int) + 1, decide (E = "with") && decide ((n : Int) + 1 = left))] else [])
def optM (A B E : Str) (left wide : Int) : List (Int × Bool) :=
  if left = 0 then [(0, !decide (E = "empty"))] else (if B = "waiting" then [(0, false)] else []) ++ optL A E left (mn left wide) (mn left wide).toNat
def dueM (A B E : Str) (wide : Int) : Int → List (Int × Bool) → Bool
  | _, [] => true
  | many, r :: rs => if r ∈ optM A B E many wide then dueM A B E wide (many - r.1) rs else false
theorem nsw : ¬ (("short" : Str) = "exact") := by decide +kernel
theorem nes : ¬ (("exact" : Str) = "short") := by decide +kernel
theorem mem_optL (A E : Str) (left most : Int) : ∀ (n : Nat) (c : Int) (t : Bool), (c, t) ∈ optL A E left most n ↔ 1 ≤ c ∧ c ≤ n ∧ (A = "short" ∨ c = most) ∧ t = (decide (E = "with") && decide (c = left))
  | 0, c, t => by
    constructor
    · intro h
      cases h
    · rintro ⟨h1, h2, _⟩
      omega
  | n + 1, c, t => by
    unfold optL
    rw [List.mem_append, mem_optL A E left most n c t]
    by_cases h : A = "short" ∨ (n : Int) + 1 = most
    · rw [if_pos h, List.mem_singleton, Prod.mk.injEq]
      constructor
      · rintro (⟨h1, h2, h3⟩ | ⟨rfl, rfl⟩)
        · exact ⟨h1, by omega, h3⟩
        · exact ⟨by omega, by omega, h, rfl⟩
      · rintro ⟨h1, h2, h3, h4⟩
        by_cases e : c = (n : Int) + 1
        · subst e
          exact .inr ⟨rfl, h4⟩
        · exact .inl ⟨h1, by omega, h3, h4⟩
    · rw [if_neg h]
      constructor
      · rintro (⟨h1, h2, h3⟩ | z)
        · exact ⟨h1, by omega, h3⟩
        · cases z
      · rintro ⟨h1, h2, h3, h4⟩
        by_cases e : c = (n : Int) + 1
        · subst e
          exact absurd h3 h
        · exact .inl ⟨h1, by omega, h3, h4⟩
theorem mn_le (a b : Int) : mn a b ≤ a ∧ mn a b ≤ b := by
  unfold mn
  split <;> omega
theorem mn_eq (a b : Int) : (if a < b then a else b) = mn a b := by
  unfold mn
  split <;> split <;> omega
theorem mem_opt {A B E : Str} {left wide c : Int} {t : Bool} (hA : isAm A) (hB : isPa B) (hE : isEn E) (l0 : 0 ≤ left) (w0 : 1 ≤ wide) (c0 : 0 ≤ c) :
    (c, t) ∈ optM A B E left wide ↔ canH A B left wide c = true ∧ t = mustT E left c := by
  unfold optM canH mustT
  rw [mn_eq]
  by_cases hl : left = 0
  · subst hl
    have m0 : mn 0 wide = 0 := by
      unfold mn
      rw [if_neg (by omega)]
    rw [if_pos rfl, m0, List.mem_singleton, Prod.mk.injEq]
    by_cases hc : c = 0
    · subst hc
      rw [if_pos rfl, if_pos rfl]
      rcases hE with rfl | rfl | rfl
      · rw [if_pos rfl]; simp
      · rw [if_neg (by decide +kernel), if_neg (by decide +kernel)]
        simp only [decide_true, true_and]
        rw [decide_eq_false (by decide +kernel)]
        rfl
      · rw [if_neg (by decide +kernel), if_pos rfl]
        simp only [decide_true, true_and]
        rw [decide_eq_false (by decide +kernel)]
        rfl
    · rw [if_neg hc]
      constructor
      · rintro ⟨h, _⟩
        exact absurd h hc
      · rintro ⟨h, _⟩
        exfalso
        rcases hA with rfl | rfl
        · rw [if_pos rfl] at h
          exact hc (of_decide_eq_true h)
        · rw [if_neg nsw] at h
          have := of_decide_eq_true h
          omega
  · rw [if_neg hl, List.mem_append, mem_optL]
    have hm := mn_le left wide
    have hm1 : 1 ≤ mn left wide := by
      unfold mn
      split <;> omega
    by_cases hc : c = 0
    · subst hc
      rw [if_pos rfl, if_neg hl]
      have e1 : (if E = "empty" then false else if E = "behind" then decide (left = 0) else decide ((0 : Int) = left)) = false := by
        rw [decide_eq_false hl, decide_eq_false (fun z => hl z.symm)]
        simp
      rw [e1]
      constructor
      · rintro (h | ⟨h, _⟩)
        · by_cases hb : B = "waiting"
          · rw [if_pos hb, List.mem_singleton, Prod.mk.injEq] at h
            exact ⟨decide_eq_true hb, h.2⟩
          · rw [if_neg hb] at h
            cases h
        · omega
      · rintro ⟨h1, h2⟩
        rw [if_pos (of_decide_eq_true h1), h2]
        exact .inl (List.mem_singleton.mpr rfl)
    · rw [if_neg hc]
      have e1 : (if E = "empty" then false else if E = "behind" then decide (left = 0) else decide (c = left)) = (decide (E = "with") && decide (c = left)) := by
        rcases hE with rfl | rfl | rfl
        · rw [if_pos rfl, decide_eq_false (by decide +kernel)]; rfl
        · rw [if_neg (by decide +kernel), if_neg (by decide +kernel), decide_eq_true (show ("with" : Str) = "with" from rfl), Bool.true_and]
        · rw [if_neg (by decide +kernel), if_pos rfl, decide_eq_false hl, decide_eq_false (by decide +kernel)]; rfl
      rw [e1]
      have e2 : ((if A = "exact" then decide (c = mn left wide) else decide (c ≤ mn left wide)) = true) ↔ c ≤ mn left wide ∧ (A = "short" ∨ c = mn left wide) := by
        rcases hA with rfl | rfl
        · rw [if_pos rfl, decide_eq_true_iff]
          exact ⟨fun h => ⟨by omega, .inr h⟩, fun h => h.2.resolve_left nes⟩
        · rw [if_neg nsw, decide_eq_true_iff]
          exact ⟨fun h => ⟨h, .inl rfl⟩, fun h => h.1⟩
      rw [e2]
      constructor
      · rintro (h | ⟨h1, h2, h3, h4⟩)
        · split at h
          · rw [List.mem_singleton, Prod.mk.injEq] at h
            exact absurd h.1 hc
          · cases h
        · exact ⟨⟨by omega, h3⟩, h4⟩
      · rintro ⟨⟨h1, h2⟩, h3⟩
        exact .inr ⟨by omega, by omega, h2, h3⟩
theorem can_le {A B : Str} {left wide c : Int} (hA : isAm A) (l0 : 0 ≤ left) (h : canH A B left wide c = true) : c ≤ left := by
  unfold canH at h
  rw [mn_eq] at h
  have hm := mn_le left wide
  by_cases hc : c = 0
  · omega
  · rw [if_neg hc] at h
    rcases hA with rfl | rfl
    · rw [if_pos rfl] at h
      have := of_decide_eq_true h
      omega
    · rw [if_neg nsw] at h
      have := of_decide_eq_true h
      omega
theorem due_eq {A B E : Str} {wide : Int} (hA : isAm A) (hB : isPa B) (hE : isEn E) (w0 : 1 ≤ wide) : ∀ (rs : List (Int × Bool)) (left : Int), 0 ≤ left → (∀ r ∈ rs, 0 ≤ r.1) → dueM A B E wide left rs = allowsM A B E wide left rs
  | [], _, _, _ => rfl
  | (c, t) :: rs, left, l0, h => by
    have c0 : 0 ≤ c := h (c, t) (List.mem_cons_self ..)
    have key := mem_opt (t := t) hA hB hE l0 w0 c0
    show (if (c, t) ∈ optM A B E left wide then dueM A B E wide (left - c) rs else false) = if canH A B left wide c = true ∧ t = mustT E left c then allowsM A B E wide (left - c) rs else false
    by_cases hm : (c, t) ∈ optM A B E left wide
    · rw [if_pos hm, if_pos (key.mp hm)]
      have := can_le hA l0 (key.mp hm).1
      exact due_eq hA hB hE w0 rs _ (by omega) fun r hr => h r (List.mem_cons_of_mem _ hr)
    · rw [if_neg hm, if_neg fun z => hm (key.mpr z)]
/-- a row of replies that are each among those possible -/
inductive Walk (A B E : Str) (wide : Int) : Int → List (Int × Bool) → Int → Prop where
  | nil (left : Int) : Walk A B E wide left [] left
  | snoc {a b : Int} {rs : List (Int × Bool)} {r : Int × Bool} (w : Walk A B E wide a rs b) (h : r ∈ optM A B E b wide) : Walk A B E wide a (rs ++ [r]) (b - r.1)
theorem opt_nonneg {A B E : Str} {left wide : Int} {r : Int × Bool} (hl : 0 ≤ left) (w0 : 1 ≤ wide) (h : r ∈ optM A B E left wide) : 0 ≤ r.1 ∧ r.1 ≤ left := by
  obtain ⟨c, t⟩ := r
  have hm := mn_le left wide
  unfold optM at h
  split at h
  · rw [List.mem_singleton, Prod.mk.injEq] at h
    exact ⟨by show 0 ≤ c; omega, by show c ≤ left; omega⟩
  · rw [List.mem_append] at h
    rcases h with h | h
    · split at h
      · rw [List.mem_singleton, Prod.mk.injEq] at h
        exact ⟨by show 0 ≤ c; omega, by show c ≤ left; omega⟩
      · cases h
    · have z := (mem_optL A E left (mn left wide) _ c t).mp h
      exact ⟨by show 0 ≤ c; omega, by show c ≤ left; omega⟩
theorem al_app {A B E : Str} {wide : Int} : ∀ (rs : List (Int × Bool)) (a b : Int) (r : Int × Bool), (allowsM A B E wide a rs = true ∧ b = a - (rs.map (·.1)).sum) → canH A B b wide r.1 = true → r.2 = mustT E b r.1 → allowsM A B E wide a (rs ++ [r]) = true
  | [], a, b, (c, t), ⟨_, hb⟩, h1, h2 => by
    obtain rfl : b = a := by simpa using hb
    show (if canH A B b wide c = true ∧ t = mustT E b c then true else false) = true
    rw [if_pos ⟨h1, h2⟩]
  | (c, t) :: rs, a, b, r, ⟨h, hb⟩, h1, h2 => by
    have h' : (if canH A B a wide c = true ∧ t = mustT E a c then allowsM A B E wide (a - c) rs else false) = true := h
    by_cases hc : canH A B a wide c = true ∧ t = mustT E a c
    · rw [if_pos hc] at h'
      show (if canH A B a wide c = true ∧ t = mustT E a c then allowsM A B E wide (a - c) (rs ++ [r]) else false) = true
      rw [if_pos hc]
      refine al_app rs (a - c) b r ⟨h', ?_⟩ h1 h2
      rw [hb, List.map_cons, List.sum_cons]
      show a - (c + _) = a - c - _
      omega
    · rw [if_neg hc] at h'
      cases h'
theorem walk_al {A B E : Str} {wide : Int} (hA : isAm A) (hB : isPa B) (hE : isEn E) (w0 : 1 ≤ wide) {a b : Int} {rs : List (Int × Bool)} (a0 : 0 ≤ a) (h : Walk A B E wide a rs b) :
    allowsM A B E wide a rs = true ∧ b = a - (rs.map (·.1)).sum ∧ 0 ≤ b ∧ b ≤ a ∧ ∀ r ∈ rs, 0 ≤ r.1 ∧ r.1 ≤ a := by
  induction h with
  | nil => exact ⟨rfl, by simp, a0, Int.le_refl _, fun r h => nomatch h⟩
  | @snoc b rs r w hr ih =>
    obtain ⟨i1, i2, i3, i4, i5⟩ := ih
    have z := opt_nonneg i3 w0 hr
    have m := (mem_opt hA hB hE i3 w0 z.1 (t := r.2)).mp hr
    refine ⟨al_app rs a b r ⟨i1, i2⟩ m.1 m.2, ?_, by omega, by omega, fun r' h' => ?_⟩
    · rw [List.map_append, List.sum_append, i2]
      simp
      omega
    · rw [List.mem_append, List.mem_singleton] at h'
      rcases h' with h' | rfl
      · exact i5 r' h'
      · exact ⟨z.1, by omega⟩
/-- the long rows of empty replies -/
theorem al_zero {A B E : Str} {wide : Int} (hE : isEn E) : ∀ n, allowsM A B E wide 0 (List.replicate n (0, !decide (E = "empty"))) = true
  | 0 => rfl
  | n + 1 => by
    show (if canH A B 0 wide 0 = true ∧ (!decide (E = "empty")) = mustT E 0 0 then allowsM A B E wide (0 - 0) (List.replicate n (0, !decide (E = "empty"))) else false) = true
    have h1 : canH A B 0 wide 0 = true := rfl
    have h2 : (!decide (E = "empty")) = mustT E 0 0 := by
      rcases hE with rfl | rfl | rfl <;> decide +kernel
    rw [if_pos ⟨h1, h2⟩]
    exact al_zero hE n
theorem al_one {A B E : Str} {wide : Int} (hB : isPa B) (hE : isEn E) : ∀ n, allowsM A B E wide 1 (List.replicate (n + 1) (0, !decide (E = "empty"))) = (decide (B = "waiting") && decide (E = "empty"))
  | 0 => by
    show (if (if (1 : Int) = 0 then true else decide (B = "waiting")) = true ∧ (!decide (E = "empty")) = mustT E 1 0 then true else false) = _
    rcases hB with rfl | rfl <;> rcases hE with rfl | rfl | rfl <;> decide +kernel
  | n + 1 => by
    show (if (if (1 : Int) = 0 then true else decide (B = "waiting")) = true ∧ (!decide (E = "empty")) = mustT E 1 0 then allowsM A B E wide (1 - 0) (List.replicate (n + 1) (0, !decide (E = "empty"))) else false) = _
    rw [show (1 : Int) - 0 = 1 from rfl, al_one hB hE n]
    rcases hB with rfl | rfl <;> rcases hE with rfl | rfl | rfl <;> decide +kernel
end My

/-! o.m(k = v, ..): a method called by keywords alone -/
namespace MKw
open PySem L2
/-- o, then the keywords' values, then the promise -/
def tMethK (C : Addr) (m : Str) (sp : Sp) (gV : List V → List V → List V) (E : XK) (ta : TE) (tk : TA) : TE := fun σ H Q => ta σ H fun x H1 => ∃ a dx fs, x = .ref a ∧ H1 a = some (.ins C dx fs) ∧ fs.lookup m = none ∧ tk σ H1 fun zs H2 => sp (gV [.ref a] zs) H2 Q E
theorem pe_methK {X : Cx} {CX : CXT} {k : Nat} {f C : Addr} {fd : FuncData} {ps ks : List Str} {sp : Sp} {E : XK} {m : Str} {pos apos : Pos} {o : Expr} {kws : List Keyword} {ta : TE} {tk : TA} {g : List Value → List Value → List Value} {gV : List V → List V → List V} {pl : Sem Bool}
    (ho : PE X o ta) (c : Cls X.K C) (hm : Meth X.K C m f) (F : FnOk X.prog X.w X.K X.mg X.base CX k f fd ps sp) (hr : Room k X.A) (hb : KBinds X.K fd ps ks g gV) (hx : Passes CX X E) (hkw : PK X kws tk)
    (hall : (backToKw pos (keywordEach kws X.env)).all (·.1.isSome) = true := by rfl) (hks : (backToKw pos (keywordEach kws X.env)).filterMap (·.1) = ks := by rfl)
    (hpl : ((backTo pos (starEach [] X.env)).any (·.1) || (backToKw pos (keywordEach kws X.env)).any (·.1.isNone)) = false := by rfl)
    (hev : eval (.Call (.Attribute o m apos) [] kws pos) X.env = (do
      let recv ← eval o X.env
      standAt apos.atName
      let (fn, firstOnes) ← holding [recv] (getMethod recv m pl)
      callWith pos fn firstOnes (backTo pos (starEach [] X.env)) (backToKw pos (keywordEach kws X.env))) := by rfl) :
    PE X (.Call (.Attribute o m apos) [] kws pos) (tMethK C m sp gV E ta tk) := by
  refine ⟨fun pins s σ H Q I h => ?_⟩
  refine PySem.W.methodCall_KW (pl := pl) (thn (ho.run pins s σ H _ I h) fun u s1 ⟨x, H1, I1, rx, a, dx, fs, ex, ea, l, q⟩ => ?_) hev
  subst ex
  obtain rfl : u = Value.ref a := rx
  refine getmeth_ok I1 ea c hm l ?_
  refine PySem.W.callWith_KW0 (first := [.ref a]) (h₀ := X.base) I.ok.mod.kin hm.kp hall ?_ hpl
  refine thn (hkw.run pos pins s1 σ H1 _ I1 q) fun ws s2 ⟨zs, H2, I2, rz, q2⟩ => ⟨I2.kIn, ?_⟩
  rw [hks]
  exact run_fnk (us := [.ref a]) (vs := [.ref a]) F hr hb hx I2 (.cons rfl .nil) rz q2
end MKw

namespace My
open PySem L2
abbrev sKind : Stmt := top 24
abbrev sOpt : Stmt := top 25
abbrev sDue : Stmt := top 26
/-! ### heaps once more -/
theorem Rep.off {j : Addr} {H H' : Hp} {x : V} {r : Int × Bool} (s : Off j H H') (hj : Jar H j) (h : Rep H x r) : Rep H' x r := by
  obtain ⟨t, e, q⟩ := h
  obtain ⟨a, b, c, hj⟩ := hj
  exact ⟨t, e, s _ _ (ne_of q hj (by intro z; cases z)) q⟩
theorem Reps.off {j : Addr} {H H' : Hp} {xs : List V} {rs : List (Int × Bool)} (s : Off j H H') (hj : Jar H j) (h : Reps H xs rs) : Reps H' xs rs := h.mono fun _ _ q => q.off s hj
theorem Reps.snoc {H : Hp} {x : V} {r : Int × Bool} : ∀ {xs rs}, Reps H xs rs → Rep H x r → Reps H (xs ++ [x]) (rs ++ [r])
  | _, _, .nil, h => .cons h .nil
  | _, _, .cons a t, h => .cons a (t.snoc h)
/-- what the list F holds may change, else all as it was -/
theorem Rep.put {H : Hp} {F : Addr} {xs ys : List V} {x : V} {r : Int × Bool} (hF : H F = some (.lst xs)) (h : Rep H x r) : Rep (upd H F (.lst ys)) x r := by
  obtain ⟨t, e, q⟩ := h
  exact ⟨t, e, by rw [upd_ne (ne_of q hF (by intro z; cases z))]; exact q⟩
def repD (r : Int × Bool) : PyData := .tuple [.int r.1, .bool r.2]
theorem Rep.dp {K : PySem.W.Frag} {H : Hp} {x : V} {r : Int × Bool} (h : Rep H x r) : Dp K H x (repD r) := by
  obtain ⟨t, rfl, q⟩ := h
  exact .tup (SqT.of q) (.cons (.int _) (.cons (.bl _) .nil))
theorem Reps.dp {K : PySem.W.Frag} {H : Hp} : ∀ {xs rs}, Reps H xs rs → DpAll K H xs (rs.map repD)
  | _, _, .nil => .nil
  | _, _, .cons h t => .cons h.dp t.dp
theorem repD_lay (r : Int × Bool) : (repD r).canLay0 = true := by simp [repD, PyData.canLay0, PyData.canLayAll0]
theorem repD_depth (r : Int × Bool) : (repD r).depth ≤ 2 := by simp [repD, PyData.depth, PyData.depthAll]
theorem repDs_lay : ∀ rs : List (Int × Bool), PyData.canLayAll0 (rs.map repD) = true
  | [] => by simp [PyData.canLayAll0]
  | z :: zs => by simp [PyData.canLayAll0, repD_lay z, repDs_lay zs]
theorem repDs_depth : ∀ rs : List (Int × Bool), PyData.depthAll (rs.map repD) ≤ 2
  | [] => by simp [PyData.depthAll]
  | z :: zs => by
    have h1 := repDs_depth zs
    have h2 := repD_depth z
    simp only [List.map_cons, PyData.depthAll]
    omega
theorem repD_shaped (r : Int × Bool) : SeqAt.shaped (repD r) = true := by
  have h := repD_depth r
  exact Bool.and_eq_true_iff.mpr ⟨repD_lay r, decide_eq_true (by omega)⟩
theorem repDs_shaped (rs : List (Int × Bool)) : SeqAt.shaped (.list (rs.map repD)) = true := by
  have h1 := repDs_depth rs
  refine Bool.and_eq_true_iff.mpr ⟨by simp only [PyData.canLay0]; exact repDs_lay rs, decide_eq_true ?_⟩
  simp only [PyData.depth]
  omega
theorem repD_eqv (r q : Int × Bool) : PyData.eqv (repD r) (repD q) = decide (r = q) := by
  obtain ⟨a, b⟩ := r
  obtain ⟨c, d⟩ := q
  have e : PyData.eqv (repD (a, b)) (repD (c, d)) = ((a == c) && ((b == d) && true)) := by simp only [repD, PyData.eqv, PyData.eqvAll]
  rw [e]
  by_cases h : a = c
  · by_cases h2 : b = d
    · subst h; subst h2
      simp
    · rw [decide_eq_false (fun z => h2 (congrArg Prod.snd z)), beq_eq_false_iff_ne.mpr h2]
      simp
  · rw [decide_eq_false (fun z => h (congrArg Prod.fst z)), beq_eq_false_iff_ne.mpr h]
    simp
theorem any_eqv (r : Int × Bool) : ∀ rs : List (Int × Bool), ((rs.map repD).any fun z => PyData.eqv z (repD r)) = decide (r ∈ rs)
  | [] => by simp
  | q :: rs => by
    rw [List.map_cons, List.any_cons, any_eqv r rs, repD_eqv]
    by_cases h : q = r
    · subst h
      simp
    · rw [decide_eq_false h, Bool.false_or]
      exact decide_eq_decide.mpr ⟨fun z => List.mem_cons_of_mem _ z, fun z => by
        rcases List.mem_cons.mp z with z | z
        · exact absurd z.symm h
        · exact z⟩
/-! ### the texts -/
structure TxtL (K : PySem.W.Frag) (mg : Str → Option Value) (fS fF fK fO fD : Addr) : Prop where
  min : mg "min" = none
  range : mg "range" = none
  S : TxtS K mg fS
  gF : mg "_law_from" = some (.ref fF)
  kF : PySem.W.keepIn K (.ref fF) = true
  gK : mg "_law_kind" = some (.ref fK)
  kK : PySem.W.keepIn K (.ref fK) = true
  gO : mg "_law_options" = some (.ref fO)
  kO : PySem.W.keepIn K (.ref fO) = true
  gD : mg "_law_due" = some (.ref fD)
  kD : PySem.W.keepIn K (.ref fD) = true
section
variable {P : Program} {w : World} {K : PySem.W.Frag} {mg : Str → Option Value} {base : Heap} {fS fF fK fO fD : Addr}
/-! ### kind -/
def KindAt (H : Hp) (q : Addr) (A B E : Str) : Prop := H q = some (.lst [.str A, .str B, .str E])
def spKind : Sp := fun vs H Q _ => ∃ j : Addr, vs = [.ref j] ∧ Jar H j ∧ ∀ (H' : Hp) (p : Addr) (A B E : Str), isAm A → isPa B → isEn E → Off j H H' → Jar H' j → H p = none → KindAt H' p A B E → Q (.ref p) H'
theorem scKind : FnScope ["_law_jar_here", "_law_ends_here", "_law_first"] ["_law_jar_here"] (defScope sKind) := ⟨rfl, rfl, rfl, by decide +kernel, rfl, by decide +kernel, by decide +kernel⟩
theorem free_off {j p : Addr} {H H' : Hp} (s : Off j H H') (hj : Jar H' j) (h : H' p = none) : H p = none := by
  cases e : H p with
  | none => rfl
  | some o =>
    obtain ⟨a, b, c, q⟩ := hj
    have n : p ≠ j := (ne_of_none q h).symm
    rw [s p o n e] at h
    cases h
theorem ok_kind {f : Addr} {fd fdS fdF : FuncData} (F : Fun K "_law_kind" "_law_kind" sKind f fd) (T : TxtJ mg) (L : TxtL K mg fS fF fK fO fD) (FS : Fun K "_law_sip" "_law_sip" sSip fS fdS) (bS : Binds K fdS ["_law_jar_here", "_law_many"] [])
    (FF : Fun K "_law_from" "_law_from" sFrom fF fdF) (bF : Binds K fdF ["_law_jar_here", "_law_things"] []) : FnOk P w K mg base CX0 3 f fd ["_law_jar_here"] spKind := by
  have GF : FnOk P w K mg base CX0 2 fF fdF ["_law_jar_here", "_law_things"] (spFrom K) := ok_from FF T L.S FS bS
  refine F.ok scKind (fun vs H Q E h => ?_) (fun cdv A outer s H vs Q E hr h => ?_)
  · obtain ⟨j, rfl, _⟩ := h
    rfl
  · obtain ⟨j, rfl, hJ, k⟩ := h
    refine ⟨_, pss_cons (ps_set (i := 1) scKind.nd rfl (.inl rfl) (pe_lst (pa_cons pe_str (pa_cons pe_str (pa_cons pe_str pa_nil)))))
      (pss_cons (ps_set (i := 2) scKind.nd rfl (.inl rfl) (pe_call GF hr rfl L.gF L.kF bF .nil pass0 (pa_cons (pv 0) (pa_cons (pe_lst (pa_cons pe_str (pa_cons pe_str pa_nil))) pa_nil))))
      (pss_one (ps_ret (pe_lst (pa_cons (pv 2) (pa_cons (pe_call GF hr rfl L.gF L.kF bF .nil pass0 (pa_cons (pv 0) (pa_cons (pe_lst (pa_cons pe_str (pa_cons pe_str (pa_cons pe_str pa_nil)))) pa_nil)))
        (pa_cons (pe_call GF hr rfl L.gF L.kF bF .nil pass0 (pa_cons (pv 0) (pa_cons (pv 1) pa_nil))) pa_nil))))))), ?_⟩
    refine ⟨(by show 3 ≤ sizeLine; decide), fun e ne => ?_⟩
    have oJ : ∀ {H1 : Hp} {p : Addr}, Jar H1 j → H1 p = none → p ≠ j := fun a n z => by
      obtain ⟨_, _, _, q⟩ := a
      rw [z, q] at n
      cases n
    have nej := oJ hJ ne
    have o1 : Off j H (upd H e (.lst [.str "empty", .str "with", .str "behind"])) := Off.new Off.refl ne
    have J1 := hJ.new (o := .lst [.str "empty", .str "with", .str "behind"]) ne
    refine ⟨_, rfl, (by show 2 ≤ sizeLine; decide), fun p np => ?_⟩
    have npj := oJ J1 np
    refine ⟨j, p, _, rfl, J1.new np, npj, SqL.of upd_same, by decide, by decide, fun H2 i x hx o2 J2 => ?_⟩
    obtain ⟨A, hA, rfl⟩ : ∃ A, isAm A ∧ x = .str A := by
      match i, hx with
      | 0, hx => exact ⟨_, .inl rfl, (Option.some.inj hx).symm⟩
      | 1, hx => exact ⟨_, .inr rfl, (Option.some.inj hx).symm⟩
    have o3 : Off j H H2 := (o1.new np).trans o2
    have hE2 : H2 e = some (.lst [.str "empty", .str "with", .str "behind"]) := o2 _ _ nej (by rw [upd_ne (ne_of_none upd_same np)]; exact upd_same)
    refine ⟨_, rfl, ?_⟩
    refine ⟨_, rfl, (by show 3 ≤ sizeLine; decide), fun p' np' => ?_⟩
    have npj' := oJ J2 np'
    refine ⟨j, p', _, rfl, J2.new np', npj', SqL.of upd_same, by decide, by decide, fun H4 i4 x4 hx4 o4 J4 => ?_⟩
    obtain ⟨B, hB, rfl⟩ : ∃ B, isPa B ∧ x4 = .str B := by
      match i4, hx4 with
      | 0, hx => exact ⟨_, .inl rfl, (Option.some.inj hx).symm⟩
      | 1, hx => exact ⟨_, .inl rfl, (Option.some.inj hx).symm⟩
      | 2, hx => exact ⟨_, .inr rfl, (Option.some.inj hx).symm⟩
    have hE4 : H4 e = some (.lst [.str "empty", .str "with", .str "behind"]) := o4 _ _ nej (by rw [upd_ne (ne_of_none hE2 np')]; exact hE2)
    have o5 : Off j H H4 := (o3.new np').trans o4
    refine ⟨_, rfl, _, rfl, j, e, _, rfl, J4, nej, SqL.of hE4, by decide, by decide, fun H6 i6 x6 hx6 o6 J6 => ?_⟩
    obtain ⟨E', hE', rfl⟩ : ∃ E, isEn E ∧ x6 = .str E := by
      match i6, hx6 with
      | 0, hx => exact ⟨_, .inl rfl, (Option.some.inj hx).symm⟩
      | 1, hx => exact ⟨_, .inr (.inl rfl), (Option.some.inj hx).symm⟩
      | 2, hx => exact ⟨_, .inr (.inr rfl), (Option.some.inj hx).symm⟩
    have o7 : Off j H H6 := o5.trans o6
    refine ⟨(by show 3 ≤ sizeLine; decide), fun z nz => ?_⟩
    exact k _ z A B E' hA hB hE' (o7.new nz) (J6.new nz) (free_off o7 J6 nz) upd_same
/-! ### options -/
def spOpt : Sp := fun vs H Q _ => ∃ (q : Addr) (A B E : Str) (left wide : Int), vs = [.ref q, .int left, .int wide] ∧ KindAt H q A B E ∧ 0 ≤ left ∧ left ≤ 100 ∧ 1 ≤ wide ∧ wide ≤ 100 ∧
  ∀ (H' : Hp) (p : Addr) (xs : List V), Same H H' → H p = none → H' p = some (.lst xs) → Reps H' xs (optM A B E left wide) → Q (.ref p) H'
theorem scOpt : FnScope ["_law_kind_here", "_law_left", "_law_wide", "_law_most", "_law_found", "_law_many"] ["_law_kind_here", "_law_left", "_law_wide"] (defScope sOpt) := ⟨rfl, rfl, rfl, by decide +kernel, rfl, by decide +kernel, by decide +kernel⟩
theorem optL_len (A E : Str) (left most : Int) : ∀ n, (optL A E left most n).length ≤ n
  | 0 => Nat.le_refl _
  | n + 1 => by
    unfold optL
    rw [List.length_append]
    have := optL_len A E left most n
    split <;> simp <;> omega
theorem ok_opt {f : Addr} {fd : FuncData} (F : Fun K "_law_options" "_law_options" sOpt f fd) (L : TxtL K mg fS fF fK fO fD) : FnOk P w K mg base CX0 1 f fd ["_law_kind_here", "_law_left", "_law_wide"] spOpt := by
  refine F.ok scOpt (fun vs H Q E h => ?_) (fun cdv A outer s H vs Q E hr h => ?_)
  · obtain ⟨q, A, B, E, l, w, rfl, _⟩ := h
    rfl
  · obtain ⟨q, A, B, E, l, w, rfl, hq, l0, l1, w0, w1, k⟩ := h
    have hm := mn_le l w
    have hm0 : 0 ≤ mn l w := by
      unfold mn
      split <;> omega
    refine ⟨_, pss_cons (ps_if (pt_cmpR op_eq (pv 1) pe_int (nomark _)) (pss_one (ps_ret (pe_lst (pa_cons (pe_tup (pa_cons pe_int (pa_cons (pe_cmpR op_ne (pe_ix ix_list (pv 0) pe_int (fun _ _ => rfl)) pe_str (nomark _)) pa_nil))) pa_nil)))) pss_nil)
      (pss_cons (ps_set (i := 3) scOpt.nd rfl (.inl rfl) (pe_callB (call_min2 rfl) (by rfl) L.min (by decide +kernel) (pa_cons (pv 1) (pa_cons (pv 2) pa_nil))))
      (C8.pss_cut (ps_set (i := 4) scOpt.nd rfl (.inl rfl) (pe_ifExp (pt_cmpR op_eq (pe_ix ix_list (pv 0) pe_int (fun _ _ => rfl)) pe_str (nomark _)) (pe_lst (pa_cons (pe_tup (pa_cons pe_int (pa_cons pe_bl pa_nil))) pa_nil)) (pe_lst pa_nil)))
      (pss_cons (ps_for PassesOwn.never rfl (pi_range2 (by rfl) L.range (pa_cons pe_int (pa_cons (pe_op op_add (pv 3) pe_int) pa_nil))) (pg_name (i := 5) scOpt.nd rfl (.inl rfl))
        (pss_one (ps_if (PW.pt (pw_or (pt_cmpR op_eq (pe_ix ix_list (pv 0) pe_int (fun _ _ => rfl)) pe_str (nomark _)) (pw_or1 (pt_cmpR op_eq (pv 5) (pv 3) (nomark _)))))
          (pss_one (ps_expr (pe_bm PySem.F.plainAttrs_list PySem.F.slot_list_append PySem.F.type_list_append mt_append (pv 4) (pa_cons (pe_tup (pa_cons (pv 5) (pa_cons (pe_and (pe_cmpR op_eq (pe_ix ix_list (pv 0) pe_int (fun _ _ => rfl)) pe_str (nomark _)) (pe_one (pe_cmpR op_eq (pv 5) (pv 1) (nomark _)))) pa_nil))) pa_nil))))
          pss_nil)))
      (pss_one (ps_ret (pv 4)))))), ?_⟩
    refine ⟨_, rfl, rfl, _, rfl, ?_⟩
    rw [dI]
    refine ite2 (fun c1 => ?_) (fun c1 => ?_)
    · have e0 : l = 0 := of_decide_eq_true c1
      refine ⟨_, rfl, q, _, 2, _, rfl, rfl, SqL.of hq, rfl, rfl, (by show 2 ≤ sizeLine; decide), fun t nt => ⟨(by show 1 ≤ sizeLine; decide), fun p np => ?_⟩⟩
      rw [dS] at np ⊢
      refine k _ p [.ref t] (Same.trans (same_upd nt) (same_upd np)) ((same_upd nt).free np) upd_same ?_
      unfold optM
      rw [if_pos e0]
      exact .cons ⟨t, rfl, by rw [upd_ne (ne_of_none upd_same np)]; exact upd_same⟩ .nil
    · have e0 : l ≠ 0 := fun z => c1 (decide_eq_true z)
      refine ⟨_, rfl, _, rfl, l, w, rfl, ?_⟩
      rw [show (if w < l then w else l) = mn l w from rfl]
      refine ⟨fun σ H' => ∃ (F : Addr) (xs : List V), σ = [some (.ref q), some (.int l), some (.int w), some (.int (mn l w)), some (.ref F), none] ∧ Same H H' ∧ H F = none ∧ H' F = some (.lst xs) ∧ Reps H' xs (if B = "waiting" then [(0, false)] else []), ?_, ?_⟩
      · refine ⟨_, rfl, q, _, 1, _, rfl, rfl, SqL.of hq, rfl, rfl, _, rfl, ?_⟩
        rw [dS]
        refine ite2 (fun c2 => ?_) (fun c2 => ?_)
        · refine ⟨(by show 2 ≤ sizeLine; decide), fun t nt => ⟨(by show 1 ≤ sizeLine; decide), fun p np => ?_⟩⟩
          refine ⟨p, [.ref t], rfl, Same.trans (same_upd nt) (same_upd np), (same_upd nt).free np, upd_same, ?_⟩
          rw [if_pos (of_decide_eq_true c2)]
          exact .cons ⟨t, rfl, by rw [upd_ne (ne_of_none upd_same np)]; exact upd_same⟩ .nil
        · refine ⟨Nat.zero_le _, fun p np => ?_⟩
          refine ⟨p, [], rfl, same_upd np, np, upd_same, ?_⟩
          rw [if_neg (fun z => c2 (decide_eq_true z))]
          exact .nil
      · rintro _ H1 ⟨F0, xs0, rfl, s1, nF, hF, hR⟩
        refine ⟨_, rfl, _, _, rfl, rfl, 1, _, rfl, ⟨by decide, by decide, by omega, by omega⟩, ?_⟩
        refine for_range (lo := 1) (n := (mn l w + 1 - 1).toNat) (fun i σ H' => ∃ (v : Option V) (xs : List V), σ = [some (.ref q), some (.int l), some (.int w), some (.int (mn l w)), some (.ref F0), v] ∧ Same H H' ∧ H' F0 = some (.lst xs) ∧ Reps H' xs ((if B = "waiting" then [(0, false)] else []) ++ optL A E l (mn l w) i))
          ⟨none, xs0, rfl, s1, hF, by rw [show optL A E l (mn l w) 0 = [] from rfl, List.append_nil]; exact hR⟩ ?_ ?_
        · rintro i σ H' hi ⟨v, xs, rfl, s2, hF2, hR2⟩
          have hq2 := s2 _ _ hq
          have hlen : xs.length < sizeLine := by
            rw [hR2.len, List.length_append]
            have := optL_len A E l (mn l w) i
            have : (if B = "waiting" then [((0 : Int), false)] else []).length ≤ 1 := by split <;> simp
            exact small1000 (by omega)
          refine ⟨_, rfl, q, _, 0, _, rfl, rfl, SqL.of hq2, rfl, rfl, _, rfl, ?_⟩
          rw [dS]
          have app : ∀ b : Bool, b = (decide (E = "with") && decide ((i : Int) + 1 = l)) → (A = "short" ∨ (i : Int) + 1 = mn l w) → ∀ t : Addr, H' t = none →
              ∃ (v : Option V) (ys : List V), ([some (.ref q), some (.int l), some (.int w), some (.int (mn l w)), some (.ref F0), some (.int (1 + (i : Int)))] : St) = [some (.ref q), some (.int l), some (.int w), some (.int (mn l w)), some (.ref F0), v] ∧
                Same H (upd (upd H' t (.tup [.int (1 + (i : Int)), .bl b])) F0 (.lst (xs ++ [.ref t]))) ∧ (upd (upd H' t (.tup [.int (1 + (i : Int)), .bl b])) F0 (.lst (xs ++ [.ref t]))) F0 = some (.lst ys) ∧
                Reps (upd (upd H' t (.tup [.int (1 + (i : Int)), .bl b])) F0 (.lst (xs ++ [.ref t]))) ys ((if B = "waiting" then [(0, false)] else []) ++ optL A E l (mn l w) (i + 1)) := by
            intro b hb hc t nt
            have hFt : (upd H' t (.tup [.int (1 + (i : Int)), .bl b])) F0 = some (.lst xs) := by
              rw [upd_ne (ne_of_none hF2 nt)]
              exact hF2
            refine ⟨_, _, rfl, fun b' o e => ?_, upd_same, ?_⟩
            · rw [upd_ne (ne_of_none e nF)]
              exact same_upd nt _ _ (s2 _ _ e)
            · unfold optL
              rw [if_pos hc, ← List.append_assoc]
              refine Reps.snoc ?_ ?_
              · exact (hR2.same (same_upd nt)).mono fun x r h => h.put hFt
              · refine Rep.put hFt ⟨t, rfl, ?_⟩
                rw [upd_same, hb]
                show some (HO.tup [V.int (1 + (i : Int)), _]) = some (HO.tup [V.int ((i : Int) + 1), _])
                rw [Int.add_comm]
          refine ite2 (fun c2 => ?_) (fun c2 => ?_)
          · have hc : A = "short" ∨ (i : Int) + 1 = mn l w := .inl (of_decide_eq_true c2)
            refine iteT ?_
            refine ⟨_, rfl, .inl ⟨rfl, _, SqL.of hF2⟩, _, rfl, _, rfl, q, _, 2, _, rfl, rfl, SqL.of hq2, rfl, rfl, _, rfl, ?_⟩
            rw [dS]
            by_cases hw : E = "with"
            · rw [decide_eq_true hw]
              refine iteT ⟨_, rfl, _, rfl, rfl, (by show 2 ≤ sizeLine; decide), fun t nt => ⟨F0, xs, _, rfl, rfl, by rw [upd_ne (ne_of_none hF2 nt)]; exact hF2, hlen, ?_⟩⟩
              rw [dI]
              exact app _ (by rw [decide_eq_true hw, Bool.true_and, Int.add_comm]) hc t nt
            · rw [decide_eq_false hw]
              refine iteF ⟨(by show 2 ≤ sizeLine; decide), fun t nt => ⟨F0, xs, _, rfl, rfl, by rw [upd_ne (ne_of_none hF2 nt)]; exact hF2, hlen, ?_⟩⟩
              exact app _ (by rw [decide_eq_false hw, Bool.false_and]) hc t nt
          · refine ⟨_, rfl, _, rfl, rfl, _, rfl, ?_⟩
            rw [dI]
            refine ite2 (fun c3 => ?_) (fun c3 => ?_)
            · have hc : A = "short" ∨ (i : Int) + 1 = mn l w := .inr (by have := of_decide_eq_true c3; omega)
              refine ⟨_, rfl, .inl ⟨rfl, _, SqL.of hF2⟩, _, rfl, _, rfl, q, _, 2, _, rfl, rfl, SqL.of hq2, rfl, rfl, _, rfl, ?_⟩
              rw [dS]
              by_cases hw : E = "with"
              · rw [decide_eq_true hw]
                refine iteT ⟨_, rfl, _, rfl, rfl, (by show 2 ≤ sizeLine; decide), fun t nt => ⟨F0, xs, _, rfl, rfl, by rw [upd_ne (ne_of_none hF2 nt)]; exact hF2, hlen, ?_⟩⟩
                rw [dI]
                exact app _ (by rw [decide_eq_true hw, Bool.true_and, Int.add_comm]) hc t nt
              · rw [decide_eq_false hw]
                refine iteF ⟨(by show 2 ≤ sizeLine; decide), fun t nt => ⟨F0, xs, _, rfl, rfl, by rw [upd_ne (ne_of_none hF2 nt)]; exact hF2, hlen, ?_⟩⟩
                exact app _ (by rw [decide_eq_false hw, Bool.false_and]) hc t nt
            · have hc : ¬ (A = "short" ∨ (i : Int) + 1 = mn l w) := by
                rintro (z | z)
                · exact c2 (decide_eq_true z)
                · exact c3 (decide_eq_true (by omega))
              refine ⟨_, xs, rfl, s2, hF2, ?_⟩
              unfold optL
              rw [if_neg hc, List.append_nil]
              exact hR2
        · rintro σ H' ⟨v, xs, rfl, s2, hF2, hR2⟩
          refine ⟨_, rfl, ?_⟩
          refine k H' F0 xs s2 nF hF2 ?_
          unfold optM
          rw [if_neg e0]
          have e9 : mn l w + 1 - 1 = mn l w := by omega
          rw [e9] at hR2
          exact hR2
end
end My

namespace My
open PySem L2
theorem hu65 {A : Around} {k : Nat} (hr : Room k A) : A.units + 65 < cLine := by
  have := hr.un
  omega
theorem hu64 {A : Around} {k : Nat} (hr : Room k A) : A.units + 64 < cLine := by
  have := hr.un
  omega
/-- repr of a bool -/
def rReprB : List V → Hp → VK → Prop := fun xs H Q => ∃ b : Bool, xs = [.bl b] ∧ Q (.str (if b then "True" else "False")) H
theorem call_reprB {X : Cx} : CallR X (.builtin "repr") rReprB := by
  intro pins s σ H xs us Q I r h
  obtain ⟨b, rfl, q⟩ := h
  obtain ⟨u, rfl, ru⟩ := vals1 r
  cases (show u = Value.bool b from ru)
  exact PySem.P.repr_of_bool ⟨.str _, H, I.tok _, ⟨_, rfl⟩, q⟩
theorem optM_ne {A B E : Str} {left wide : Int} (l0 : 0 ≤ left) (w0 : 1 ≤ wide) : 0 < (optM A B E left wide).length ∧ (optM A B E left wide).length ≤ left.toNat + 2 := by
  unfold optM
  have hm := mn_le left wide
  by_cases h : left = 0
  · rw [if_pos h]
    exact ⟨by simp, by simp⟩
  · rw [if_neg h, List.length_append]
    have h1 : 1 ≤ mn left wide := by
      unfold mn
      split <;> omega
    have hl := optL_len A E left (mn left wide) (mn left wide).toNat
    have hmem := (mem_optL A E left (mn left wide) (mn left wide).toNat (mn left wide) _).mpr ⟨h1, by omega, .inr rfl, rfl⟩
    have hp := List.length_pos_of_mem hmem
    have hb : (if B = "waiting" then [((0 : Int), false)] else []).length ≤ 1 := by split <;> simp
    exact ⟨by omega, by omega⟩
section
variable {P : Program} {w : World} {K : PySem.W.Frag} {mg : Str → Option Value} {base : Heap} {fS fF fK fO fD : Addr}
/-! ### due -/
def spDue : Sp := fun vs H Q _ => ∃ (q p : Addr) (A B E : Str) (many wide : Int) (xs : List V) (rs : List (Int × Bool)), vs = [.ref q, .int many, .int wide, .ref p] ∧ KindAt H q A B E ∧ isAm A ∧ isPa B ∧ isEn E ∧ 0 ≤ many ∧ many ≤ 100 ∧ 1 ≤ wide ∧ wide ≤ 100 ∧
  H p = some (.lst xs) ∧ Reps H xs rs ∧ (∀ r ∈ rs, 0 ≤ r.1) ∧ ∀ H', Same H H' → Q (.bl (dueM A B E wide many rs)) H'
theorem scDue : FnScope ["_law_kind_here", "_law_many", "_law_wide", "_law_some", "_law_reply"] ["_law_kind_here", "_law_many", "_law_wide", "_law_some"] (defScope sDue) := ⟨rfl, rfl, rfl, by decide +kernel, rfl, by decide +kernel, by decide +kernel⟩
theorem ok_due {f : Addr} {fd fdO : FuncData} (F : Fun K "_law_due" "_law_due" sDue f fd) (L : TxtL K mg fS fF fK fO fD) (FO : Fun K "_law_options" "_law_options" sOpt fO fdO) (bO : Binds K fdO ["_law_kind_here", "_law_left", "_law_wide"] []) :
    FnOk P w K mg base CX0 2 f fd ["_law_kind_here", "_law_many", "_law_wide", "_law_some"] spDue := by
  have GO : FnOk P w K mg base CX0 1 fO fdO ["_law_kind_here", "_law_left", "_law_wide"] spOpt := ok_opt FO L
  refine F.ok scDue (fun vs H Q E h => ?_) (fun cdv A outer s H vs Q E hr h => ?_)
  · obtain ⟨q, p, A, B, E, n, z, xs, rs, rfl, _⟩ := h
    rfl
  · obtain ⟨q, p, A, B, E, n, z, xs, rs, rfl, hq, hA, hB, hE, n0, n1, z0, z1, hp, hR, hn, k⟩ := h
    refine ⟨_, pss_cons (ps_for PassesOwn.never rfl (pi_list (pv 3)) (pg_name (i := 4) scDue.nd rfl (.inl rfl))
        (pss_cons (ps_if (pt_cmpR (op_notInD (hu65 hr)) (pv 4) (pe_call GO hr rfl L.gO L.kO bO .nil pass0 (pa_cons (pv 0) (pa_cons (pv 1) (pa_cons (pv 2) pa_nil)))) (by rfl)) (pss_one (ps_ret pe_bl)) pss_nil)
          (pss_one (ps_set (i := 1) scDue.nd rfl (.inl rfl) (pe_op op_sub (pv 1) (pe_ix ix_tup (pv 4) pe_int (fun _ _ => rfl)))))))
      (pss_one (ps_ret pe_bl)), ?_⟩
    refine ⟨_, rfl, p, rfl, ⟨_, SqL.of hp⟩, for_list (K := K) (a := p) (xs := xs) (fun i σ H' => Same H H' ∧ ∃ (left : Int) (v : Option V), σ = [some (.ref q), some (.int left), some (.int z), some (.ref p), v] ∧ 0 ≤ left ∧ left ≤ 100 ∧ dueM A B E z n rs = dueM A B E z left (rs.drop i))
      ⟨Same.refl _, n, none, rfl, n0, n1, rfl⟩ (fun i σ H' _ ⟨s', _⟩ => SqL.of (s' _ _ hp)) ?_ ?_⟩
    · rintro i x σ H' hx ⟨s', left, v, rfl, l0, l1, e⟩
      obtain ⟨r, hr0, hrep⟩ := hR.get hx
      have ed : rs.drop i = r :: rs.drop (i + 1) := by
        obtain ⟨hi, hg⟩ := List.getElem?_eq_some_iff.mp hr0
        rw [List.drop_eq_getElem_cons hi, hg]
      rw [ed] at e
      have e2 : dueM A B E z left (r :: rs.drop (i + 1)) = if r ∈ optM A B E left z then dueM A B E z (left - r.1) (rs.drop (i + 1)) else false := rfl
      refine ⟨_, rfl, _, rfl, _, rfl, _, rfl, q, A, B, E, left, z, rfl, s' _ _ hq, l0, l1, z0, z1, fun H2 p2 ys s2 np2 hp2 hR2 => ?_⟩
      have s3 := Same.trans s' s2
      refine ⟨repD r, (optM A B E left z).map repD, (hrep.same s3).dp, .lst (SqL.of hp2) hR2.dp, repD_shaped _, repDs_shaped _, _, rfl, ?_⟩
      rw [any_eqv]
      by_cases hm : r ∈ optM A B E left z
      · rw [decide_eq_true hm]
        refine iteF ?_
        obtain ⟨t, rfl, ht⟩ := hrep.same s3
        have zz := opt_nonneg l0 z0 hm
        rw [e2, if_pos hm] at e
        exact ⟨_, rfl, _, rfl, t, _, 0, _, rfl, rfl, SqT.of ht, rfl, _, _, rfl, rfl, s3, _, _, rfl, by omega, by omega, e⟩
      · rw [decide_eq_false hm]
        refine iteT ?_
        rw [e2, if_neg hm] at e
        rw [e] at k
        exact k H2 s3
    · rintro σ H' ⟨s', left, v, rfl, l0, l1, e⟩
      rw [hR.len, List.drop_length] at e
      rw [e] at k
      exact k H' s'
end
end My

namespace My
open PySem L2
abbrev sRight : Stmt := top 27
/-! ### small things -/
theorem KindAt.off {j q : Addr} {H H' : Hp} {A B E : Str} (s : Off j H H') (hj : Jar H j) (h : KindAt H q A B E) : KindAt H' q A B E := by
  obtain ⟨a, b, c, hj⟩ := hj
  exact s _ _ (ne_of h hj (by intro z; cases z)) h
theorem Src.off {C j o : Addr} {H H' : Hp} {A B E : Str} (s : Off j H H') (hj : Jar H j) (h : Src C H o A B E) : Src C H' o A B E := by
  obtain ⟨a, b, c, hj⟩ := hj
  obtain ⟨dx, h⟩ := h
  exact ⟨dx, s _ _ (ne_of h hj (by intro z; cases z)) h⟩
theorem jar_ne {H : Hp} {j p : Addr} (a : Jar H j) (n : H p = none) : p ≠ j := fun z => by
  obtain ⟨_, _, _, q⟩ := a
  rw [z, q] at n
  cases n
theorem Reps.app {H : Hp} : ∀ {xs rs ys qs}, Reps H xs rs → Reps H ys qs → Reps H (xs ++ ys) (rs ++ qs)
  | _, _, _, _, .nil, h => h
  | _, _, _, _, .cons a t, h => .cons a (t.app h)
theorem Reps.take {H : Hp} : ∀ {xs rs} (n : Nat), Reps H xs rs → Reps H (xs.take n) (rs.take n)
  | _, _, 0, _ => by simpa using Reps.nil
  | _, _, n + 1, .nil => .nil
  | _, _, n + 1, .cons a t => .cons a (t.take n)
theorem Reps.drop {H : Hp} : ∀ {xs rs} (n : Nat), Reps H xs rs → Reps H (xs.drop n) (rs.drop n)
  | _, _, 0, h => h
  | _, _, n + 1, .nil => .nil
  | _, _, n + 1, .cons a t => t.drop n
theorem Reps.rep {H : Hp} {x : V} {r : Int × Bool} (h : Rep H x r) : ∀ n, Reps H (List.replicate n x) (List.replicate n r)
  | 0 => .nil
  | n + 1 => .cons h (Reps.rep h n)
theorem cut_to (xs : List V) (k : Nat) (h : k ≤ xs.length) : cutV xs none (some (k : Int)) = xs.take k := by
  unfold cutV
  rw [HT.sIx_none, HT.sIx_nat, Nat.min_eq_left h]
  rfl
theorem cut_from (xs : List V) (k : Nat) : cutV xs (some (k : Int)) none = xs.drop k := by
  unfold cutV
  rw [HT.sIx_none, HT.sIx_nat]
  by_cases h : k ≤ xs.length
  · rw [Nat.min_eq_left h]
    exact List.take_of_length_le (by rw [List.length_drop]; omega)
  · rw [Nat.min_eq_right (by omega), List.drop_length, List.drop_eq_nil_of_le (by omega)]
    simp
theorem flat_one {α : Type} (x : α) : ∀ n, (List.replicate n [x]).flatten = List.replicate n x
  | 0 => rfl
  | n + 1 => by
    rw [List.replicate_succ, List.flatten_cons, flat_one x n]
    rfl
structure TxtR (K : PySem.W.Frag) (mg : Str → Option Value) : Prop where
  range : mg "range" = none
  tuple : mg "tuple" = none
  len : mg "len" = none
  max : mg "max" = none
  repr : mg "repr" = none
section
variable {P : Program} {w : World} {K : PySem.W.Frag} {mg : Str → Option Value} {base : Heap} {fS fF fK fO fD : Addr} {C pA pP pE fIIB fIR fCI fCS fCR fCW fI fCan fMust fAl : Addr} {fd1 fd2 fd3 fd4 fd5 fd6 fd7 fd8 fd9 fdA fdS fdF fdK fdO fdD : FuncData}
/-- how allows is called by keywords -/
def gAl (us ws : List Value) : List Value := match us, ws with | [s], [r, z, n] => [s, n, z, r] | _, _ => []
def gAlV (us ws : List V) : List V := match us, ws with | [s], [r, z, n] => [s, n, z, r] | _, _ => []
def spRight : Sp := fun vs H Q _ => ∃ j : Addr, vs = [.ref j] ∧ Jar H j ∧ ∀ H', Off j H H' → Q (.bl true) H'
theorem scRight : FnScope ["_law_jar_here", "_law_turn", "_law_kind_here", "_law_many", "_law_wide", "_law_tap", "_law_some", "_law_left", "_law_again", "_law_told_here", "_law_at", "_law_reply", "_law_bent", "_law_last", "_law_due_here"] ["_law_jar_here"] (defScope sRight) := ⟨rfl, rfl, rfl, by decide +kernel, rfl, by decide +kernel, by decide +kernel⟩
structure FnL (K : PySem.W.Frag) (C fS fF fK fO fD fAl : Addr) (fdS fdF fdK fdO fdD fdA : FuncData) : Prop where
  FS : Fun K "_law_sip" "_law_sip" sSip fS fdS
  bS : Binds K fdS ["_law_jar_here", "_law_many"] []
  FF : Fun K "_law_from" "_law_from" sFrom fF fdF
  bF : Binds K fdF ["_law_jar_here", "_law_things"] []
  FK : Fun K "_law_kind" "_law_kind" sKind fK fdK
  bK : Binds K fdK ["_law_jar_here"] []
  FO : Fun K "_law_options" "_law_options" sOpt fO fdO
  bO : Binds K fdO ["_law_kind_here", "_law_left", "_law_wide"] []
  FD : Fun K "_law_due" "_law_due" sDue fD fdD
  bD : Binds K fdD ["_law_kind_here", "_law_many", "_law_wide", "_law_some"] []
  FA : Fun K "allows" "Source.allows" sAllows fAl fdA
  bA : Binds K fdA ["self", "items", "size", "replies"] []
  mA : Meth K C "allows" fAl
  kA : KBinds K fdA ["self", "items", "size", "replies"] ["replies", "size", "items"] gAl gAlV
theorem ok_right {f : Addr} {fd : FuncData} (F : Fun K "_law_right" "_law_right" sRight f fd) (TJ : TxtJ mg) (L : TxtL K mg fS fF fK fO fD) (T : TxtP K mg C pA pP pE fIIB fIR fCI fCS fCR fCW) (R : TxtR K mg)
    (N : FnP K C fIIB fIR fCI fCS fCR fCW fI fCan fMust fd1 fd2 fd3 fd4 fd5 fd6 fd7 fd8 fd9) (M : FnL K C fS fF fK fO fD fAl fdS fdF fdK fdO fdD fdA) : FnOk P w K mg base CX0 5 f fd ["_law_jar_here"] spRight := by
  have GS : FnOk P w K mg base CX0 1 fS fdS ["_law_jar_here", "_law_many"] spSip := ok_sip M.FS TJ
  have GF : FnOk P w K mg base CX0 2 fF fdF ["_law_jar_here", "_law_things"] (spFrom K) := ok_from M.FF TJ L.S M.FS M.bS
  have GK : FnOk P w K mg base CX0 3 fK fdK ["_law_jar_here"] spKind := ok_kind M.FK TJ L M.FS M.bS M.FF M.bF
  have GO : FnOk P w K mg base CX0 1 fO fdO ["_law_kind_here", "_law_left", "_law_wide"] spOpt := ok_opt M.FO L
  have GD : FnOk P w K mg base CX0 2 fD fdD ["_law_kind_here", "_law_many", "_law_wide", "_law_some"] spDue := ok_due M.FD L M.FO M.bO
  have GI : FnOk P w K mg base CX0 2 fI fd7 ["self", "amount", "patience", "end"] (spInit C) := ok_init N.F7 T N.F6 N.b6
  have GA : FnOk P w K mg base CX0 4 fAl fdA ["self", "items", "size", "replies"] (spAllows C) := ok_al M.FA T N
  refine F.ok scRight (fun vs H Q E h => ?_) (fun cdv A outer s H vs Q E hr h => ?_)
  · obtain ⟨j, rfl, _⟩ := h
    rfl
  · obtain ⟨j, rfl, hJ, k⟩ := h
    have hr3 : Room 3 _ := hr.mono (by decide)
    have hr2 : Room 2 _ := hr.mono (by decide)
    have hr1 : Room 1 _ := hr.mono (by decide)
    refine ⟨_, pss_cons (ps_for PassesOwn.never rfl (pi_range1 rfl R.range (pa_cons pe_int pa_nil)) (pg_name (i := 1) scRight.nd rfl (Or.inl rfl))
      -- kind, many, wide
      (C8.pss_cut (ps_par3 (i := 2) (j := 3) (l := 4) rfl scRight.nd rfl rfl rfl (by decide) (by decide) (by decide) rfl rfl rfl (pa_cons (pe_call GK hr3 rfl L.gK L.kK M.bK .nil pass0 (pa_cons (pv 0) pa_nil))
          (pa_cons (pe_call GS hr1 rfl L.S.g L.S.k M.bS .nil pass0 (pa_cons (pv 0) (pa_cons (pe_call GF hr2 rfl L.gF L.kF M.bF .nil pass0 (pa_cons (pv 0) (pa_cons (pe_lst (pa_cons pe_int (pa_cons pe_int (pa_cons pe_int pa_nil)))) pa_nil))) pa_nil)))
          (pa_cons (pe_op op_add pe_int (pe_call GS hr1 rfl L.S.g L.S.k M.bS .nil pass0 (pa_cons (pv 0) (pa_cons pe_int pa_nil)))) pa_nil))) (by rfl))
      -- tap, some, left
      (C8.pss_cut (ps_par3 (i := 5) (j := 6) (l := 7) rfl scRight.nd rfl rfl rfl (by decide) (by decide) (by decide) rfl rfl rfl (pa_cons (pe_make N.M7 GI hr3 rfl T.gC N.b7 .nil pass0 (pa_cons (pe_ix ix_list (pv 2) pe_int (fun _ _ => rfl)) (pa_cons (pe_ix ix_list (pv 2) pe_int (fun _ _ => rfl)) (pa_cons (pe_ix ix_list (pv 2) pe_int (fun _ _ => rfl)) pa_nil))))
          (pa_cons (pe_lst pa_nil) (pa_cons (pv 3) pa_nil))) (by rfl))
      -- the draws
      (C8.pss_cut (ps_for PassesOwn.never rfl (pi_range1 rfl R.range (pa_cons (pe_call GS hr1 rfl L.S.g L.S.k M.bS .nil pass0 (pa_cons (pv 0) (pa_cons pe_int pa_nil))) pa_nil)) (pg_name (i := 8) scRight.nd rfl (Or.inl rfl))
        (pss_cons (ps_expr (pe_bm PySem.F.plainAttrs_list PySem.F.slot_list_append PySem.F.type_list_append mt_append (pv 6) (pa_cons (pe_call GF hr2 rfl L.gF L.kF M.bF .nil pass0 (pa_cons (pv 0) (pa_cons (pe_call GO hr1 rfl L.gO L.kO M.bO .nil pass0 (pa_cons (pv 2) (pa_cons (pv 7) (pa_cons (pv 4) pa_nil)))) pa_nil))) pa_nil)))
          (pss_one (ps_set (i := 7) scRight.nd rfl (Or.inl rfl) (pe_op op_sub (pv 7) (pe_ix ix_tup (pe_ix ix_list (pv 6) (pe_un un_neg pe_int) (fun _ _ => rfl)) pe_int (fun _ _ => rfl)))))))
      -- allowed
      (pss_cons (ps_set (i := 9) scRight.nd rfl (Or.inl rfl) (pe_lst (pa_cons (pe_meth (pv 5) T.cl M.mA GA hr M.bA .nil pass0 (pa_cons (pv 3) (pa_cons (pv 4) (pa_cons (pe_callTy call_tuple_of (by rfl) R.tuple (by decide +kernel) (pa_cons (pv 6) pa_nil)) pa_nil))))
          (pa_cons (MKw.pe_methK (pv 5) T.cl M.mA GA hr M.kA pass0 (pk_cons (pe_callTy call_tuple_of (by rfl) R.tuple (by decide +kernel) (pa_cons (pv 6) pa_nil)) (pk_cons (pv 4) (pk_cons (pv 3) pk_nil)))) pa_nil))))
      (pss_cons (ps_if (pt_cmpR (op_neD (hu64 hr)) (pv 9) (pe_lst (pa_cons pe_bl (pa_cons pe_bl pa_nil))) (nomark _)) (pss_one (ps_ret pe_bl)) pss_nil)
      -- one reply changed
      (C8.pss_cut (ps_if (pt_cmpR (op_neD (hu64 hr)) (pv 6) (pe_lst pa_nil) (nomark _))
        (pss_cons (ps_set (i := 10) scRight.nd rfl (Or.inl rfl) (pe_call GS hr1 rfl L.S.g L.S.k M.bS .nil pass0 (pa_cons (pv 0) (pa_cons (pe_callB call_len_seq (by rfl) R.len PySem.boot_len (pa_cons (pv 6) pa_nil)) pa_nil))))
        (pss_cons (ps_set (i := 11) scRight.nd rfl (Or.inl rfl) (pe_tup (pa_cons (pe_callB (call_max2 rfl) (by rfl) R.max (by decide +kernel) (pa_cons pe_int (pa_cons (pe_op op_add (pe_ix ix_tup (pe_ix ix_list (pv 6) (pv 10) (fun _ _ => rfl)) pe_int (fun _ _ => rfl))
            (pe_call GF hr2 rfl L.gF L.kF M.bF .nil pass0 (pa_cons (pv 0) (pa_cons (pe_lst (pa_cons (pe_un un_neg pe_int) (pa_cons pe_int (pa_cons pe_int pa_nil)))) pa_nil)))) pa_nil)))
          (pa_cons (pe_cmpR op_eq (pe_call GS hr1 rfl L.S.g L.S.k M.bS .nil pass0 (pa_cons (pv 0) (pa_cons pe_int pa_nil))) pe_int (nomark _)) pa_nil))))
        (pss_cons (ps_set (i := 12) scRight.nd rfl (Or.inl rfl) (pe_op op_cat (pe_op op_cat (pe_slice sl_list (pv 6) po_none (po_some (pv 10))) (pe_lst (pa_cons (pv 11) pa_nil)))
            (pe_slice sl_list (pv 6) (po_some (pe_op op_add (pv 10) (pe_call GS hr1 rfl L.S.g L.S.k M.bS .nil pass0 (pa_cons (pv 0) (pa_cons pe_int pa_nil))))) po_none)))
        (pss_one (ps_if (pt_cmpR op_ne (pe_callB call_reprB (by rfl) R.repr (by decide +kernel) (pa_cons (pe_meth (pv 5) T.cl M.mA GA hr M.bA .nil pass0 (pa_cons (pv 3) (pa_cons (pv 4) (pa_cons (pe_callTy call_tuple_of (by rfl) R.tuple (by decide +kernel) (pa_cons (pv 12) pa_nil)) pa_nil)))) pa_nil))
            (pe_callB call_reprB (by rfl) R.repr (by decide +kernel) (pa_cons (pe_call GD hr2 rfl L.gD L.kD M.bD .nil pass0 (pa_cons (pv 2) (pa_cons (pv 3) (pa_cons (pv 4) (pa_cons (pv 12) pa_nil))))) pa_nil)) (nomark _)) (pss_one (ps_ret pe_bl)) pss_nil))))) pss_nil)
      -- rows of empty replies
      (pss_cons (ps_set (i := 13) scRight.nd rfl (Or.inl rfl) (pe_op op_rep (pe_lst (pa_cons (pe_tup (pa_cons pe_int (pa_cons (pe_cmpR op_ne (pe_ix ix_list (pv 2) pe_int (fun _ _ => rfl)) pe_str (nomark _)) pa_nil))) pa_nil)) pe_int))
      (pss_cons (ps_set (i := 14) scRight.nd rfl (Or.inl rfl) (pe_cmpR (op_eqD (hu64 hr)) (pe_slice sl_list (pv 2) (po_some pe_int) po_none) (pe_lst (pa_cons pe_str (pa_cons pe_str pa_nil))) (nomark _)))
      (pss_one (ps_if (PW.pt (pw_or (pt_cmpR op_isnot_bl (pe_meth (pv 5) T.cl M.mA GA hr M.bA .nil pass0 (pa_cons pe_int (pa_cons (pv 4) (pa_cons (pe_callTy call_tuple_of (by rfl) R.tuple (by decide +kernel) (pa_cons (pv 13) pa_nil)) pa_nil)))) pe_bl (nomark _))
          (pw_or1 (pt_cmpR op_ne (pe_meth (pv 5) T.cl M.mA GA hr M.bA .nil pass0 (pa_cons pe_int (pa_cons (pv 4) (pa_cons (pe_callTy call_tuple_of (by rfl) R.tuple (by decide +kernel) (pa_cons (pv 13) pa_nil)) pa_nil)))) (pv 14) (nomark _)))))
        (pss_one (ps_ret pe_bl)) pss_nil)))))))))))
      (pss_one (ps_ret pe_bl)), ?_⟩
    refine ⟨6, rfl, by decide, by decide, for_range (lo := 0) (n := 6) (fun i σ H' => (∃ v1 v2 v3 v4 v5 v6 v7 v8 v9 v10 v11 v12 v13 v14 : Option V, σ = [some (.ref j), v1, v2, v3, v4, v5, v6, v7, v8, v9, v10, v11, v12, v13, v14]) ∧ Off j H H' ∧ Jar H' j)
      ⟨⟨none, none, none, none, none, none, none, none, none, none, none, none, none, none, rfl⟩, Off.refl, hJ⟩ ?_ ?_⟩
    · rintro i σ H1 hi ⟨⟨v1, v2, v3, v4, v5, v6, v7, v8, v9, v10, v11, v12, v13, v14, rfl⟩, o1, J1⟩
      -- kind, many, wide
      refine ⟨fun σ H' => ∃ (q : Addr) (A B E : Str) (many wide : Int), σ = [some (.ref j), some (.int (0 + (i : Int))), some (.ref q), some (.int many), some (.int wide), v5, v6, v7, v8, v9, v10, v11, v12, v13, v14] ∧ Off j H H' ∧ Jar H' j ∧ KindAt H' q A B E ∧ isAm A ∧ isPa B ∧ isEn E ∧ 0 ≤ many ∧ many ≤ 40 ∧ 1 ≤ wide ∧ wide ≤ 9, ?_, ?_⟩
      · refine ⟨_, rfl, j, rfl, J1, fun H2 q A B E hA hB hE o2 J2 nq hq => ?_⟩
        refine ⟨_, rfl, _, rfl, (by show 3 ≤ sizeLine; decide), fun p np => ?_⟩
        refine ⟨j, p, _, rfl, J2.new np, jar_ne J2 np, SqL.of upd_same, by decide, by decide, fun H3 i3 x hx o3 J3 => ?_⟩
        have o23 : Off j H2 H3 := (Off.new Off.refl np).trans o3
        obtain ⟨m, hm0, hm1, rfl⟩ : ∃ m : Int, 0 < m ∧ m ≤ 41 ∧ x = .int m := by
          match i3, hx with
          | 0, hx => exact ⟨4, by decide, by decide, (Option.some.inj hx).symm⟩
          | 1, hx => exact ⟨12, by decide, by decide, (Option.some.inj hx).symm⟩
          | 2, hx => exact ⟨41, by decide, by decide, (Option.some.inj hx).symm⟩
        refine ⟨j, m, rfl, J3, hm0, by omega, fun H4 d d0 d1 o4 J4 => ?_⟩
        refine ⟨_, rfl, j, 9, rfl, J4, by decide, by decide, fun H5 e e0 e1 o5 J5 => ?_⟩
        refine ⟨_, _, rfl, rfl, _, _, _, rfl, ?_⟩
        have oo : Off j H2 H5 := (o23.trans o4).trans o5
        exact ⟨q, A, B, E, d, 1 + e, rfl, (o1.trans o2).trans oo, J5, hq.off oo J2, hA, hB, hE, d0, by omega, by omega, by omega⟩
      rintro _ H2 ⟨q, A, B, E, many, wide, rfl, o2, J2, hq, hA, hB, hE, n0, n1, w0, w1⟩
      -- tap, some, left
      refine ⟨fun σ H' => ∃ (o s0 : Addr) (H3 : Hp), σ = [some (.ref j), some (.int (0 + (i : Int))), some (.ref q), some (.int many), some (.int wide), some (.ref o), some (.ref s0), some (.int many), v8, v9, v10, v11, v12, v13, v14] ∧ Off j H H3 ∧ Jar H3 j ∧ KindAt H3 q A B E ∧ Src C H3 o A B E ∧ H3 s0 = none ∧ H' = upd H3 s0 (.lst []), ?_, ?_⟩
      · refine ⟨_, rfl, q, _, 0, _, rfl, rfl, SqL.of hq, rfl, _, rfl, q, _, 1, _, rfl, rfl, SqL.of hq, rfl, _, rfl, q, _, 2, _, rfl, rfl, SqL.of hq, rfl, ?_⟩
        intro x dx nx ndx nex
        refine ⟨x, dx, A, B, E, rfl, hA, hB, hE, upd_same, fun H3 f3 h3 => ⟨rfl, ?_⟩⟩
        have s3 : Same H2 H3 := fun b o e => f3 b o (ne_of_none e nx) (by rw [upd_ne (ne_of_none e nx), upd_ne (ne_of_none e ndx)]; exact e)
        refine ⟨Nat.zero_le _, fun s0 ns0 => ?_⟩
        exact ⟨_, rfl, _, _, _, rfl, x, s0, H3, rfl, o2.trans (Same.off s3), J2.same s3, s3 _ _ hq, ⟨dx, h3⟩, ns0, rfl⟩
      rintro _ _ ⟨o, s0, H3, rfl, o3, J3, hq3, hO3, ns0, rfl⟩
      clear hq J2 o2 o1 J1
      -- the draws
      refine ⟨fun σ H' => ∃ (v8 : Option V) (left : Int) (xs : List V) (rs : List (Int × Bool)), σ = [some (.ref j), some (.int (0 + (i : Int))), some (.ref q), some (.int many), some (.int wide), some (.ref o), some (.ref s0), some (.int left), v8, v9, v10, v11, v12, v13, v14] ∧
          Off j H3 H' ∧ Jar H' j ∧ H' s0 = some (.lst xs) ∧ Reps H' xs rs ∧ rs.length ≤ 14 ∧ Walk A B E wide many rs left, ?_, ?_⟩
      · refine ⟨_, rfl, j, 14, rfl, J3.new ns0, by decide, by decide, fun H4 d d0 d1 o4 J4 => ?_⟩
        refine ⟨d, rfl, by omega, by omega, ?_⟩
        refine for_range (lo := 0) (n := d.toNat) (fun i4 σ H' => ∃ (v8 : Option V) (left : Int) (xs : List V) (rs : List (Int × Bool)), σ = [some (.ref j), some (.int (0 + (i : Int))), some (.ref q), some (.int many), some (.int wide), some (.ref o), some (.ref s0), some (.int left), v8, v9, v10, v11, v12, v13, v14] ∧
          Off j H3 H' ∧ Jar H' j ∧ H' s0 = some (.lst xs) ∧ Reps H' xs rs ∧ rs.length = i4 ∧ Walk A B E wide many rs left) ?_ ?_ ?_
        · exact ⟨v8, many, [], [], rfl, (Off.new Off.refl ns0).trans o4, J4, o4 _ _ (jar_ne J3 ns0) upd_same, .nil, rfl, .nil _⟩
        · rintro i4 σ H5 hi4 ⟨v8', left, xs, rs, rfl, o5, J5, hs5, hR5, hl5, hW5⟩
          obtain ⟨_, _, l0, l1, _⟩ := walk_al hA hB hE w0 n0 hW5
          have hq5 := hq3.off o5 J3
          refine ⟨_, rfl, .inl ⟨rfl, _, SqL.of hs5⟩, _, rfl, _, rfl, _, rfl, _, rfl, q, A, B, E, left, wide, rfl, hq5, l0, by omega, w0, by omega, fun H6 p6 ys s6 np6 hp6 hR6 => ?_⟩
          have J6 := J5.same s6
          have ln := optM_ne (A := A) (B := B) (E := E) l0 w0
          have ly := hR6.len
          refine ⟨j, p6, ys, rfl, J6, jar_ne J5 np6, SqL.of hp6, by omega, by omega, fun H7 i7 x hx o7 J7 => ?_⟩
          obtain ⟨r, hr7, hrep⟩ := hR6.get hx
          have hs7 : H7 s0 = some (.lst xs) := o7 _ _ (jar_ne J3 ns0) (s6 _ _ hs5)
          have hr8 := hrep.off o7 J6
          have lx := hR5.len
          refine ⟨s0, xs, x, rfl, rfl, hs7, small1000 (by omega), ?_⟩
          have o8 : Off j H3 (upd H7 s0 (.lst (xs ++ [x]))) := fun b u nb e => by
            rw [upd_ne (ne_of_none e ns0)]
            exact o7 _ _ nb (s6 _ _ (o5 _ _ nb e))
          have J8 : Jar (upd H7 s0 (.lst (xs ++ [x]))) j := by
            obtain ⟨a, b, c, z⟩ := J7
            exact ⟨a, b, c, by rw [upd_ne (jar_ne J3 ns0).symm]; exact z⟩
          have hR8 : Reps (upd H7 s0 (.lst (xs ++ [x]))) (xs ++ [x]) (rs ++ [r]) := Reps.snoc ((hR5.same s6).off o7 J6 |>.mono fun _ _ z => z.put hs7) (hr8.put hs7)
          obtain ⟨t, rfl, ht⟩ := hr8.put (ys := xs ++ [x]) hs7
          refine ⟨_, rfl, _, rfl, _, rfl, s0, _, -1, _, rfl, rfl, SqL.of upd_same, atI_last _ _, t, _, 0, _, rfl, rfl, SqT.of ht, rfl, _, _, rfl, rfl, ?_⟩
          exact ⟨_, _, _, rs ++ [r], rfl, o8, J8, upd_same, hR8, by rw [List.length_append]; simp; omega, .snoc hW5 (List.mem_of_getElem? hr7)⟩
        · rintro σ H5 ⟨v8', left, xs, rs, rfl, o5, J5, hs5, hR5, hl5, hW5⟩
          exact ⟨v8', left, xs, rs, rfl, o5, J5, hs5, hR5, by omega, hW5⟩
      rintro _ H4 ⟨v8', left, xs, rs, rfl, o4, J4, hs4, hR4, hl4, hW⟩
      clear v8
      obtain ⟨al, _, l0, l1, hb⟩ := walk_al hA hB hE w0 n0 hW
      have okr : Okr 1000 rs := fun r h => ⟨(hb r h).1, by have := (hb r h).2; omega⟩
      have ns0j : s0 ≠ j := jar_ne J3 ns0
      have lx := hR4.len
      have noA : ∀ (A B E : Str), (sf A B E).lookup ("allows" : Str) = none := fun _ _ _ => sf_no _ _ _ (by decide +kernel) (by decide +kernel) (by decide +kernel)
      -- allowed, by place and by name
      have hO4 := hO3.off o4 J3
      obtain ⟨dx, hdx⟩ := id hO4
      refine ⟨_, rfl, o, dx, _, rfl, hdx, noA _ _ _, _, rfl, _, rfl, _, rfl, s0, xs, rfl, .inl ⟨SqL.of hs4, fun t nt => ?_⟩⟩
      refine ⟨o, t, A, B, E, many, wide, xs, rs, rfl, hO4.same (same_upd nt), n0, by omega, w0, by omega, upd_same, hR4.same (same_upd nt), by omega, okr, fun H5 s5 => ?_⟩
      have s45 : Same H4 H5 := Same.trans (same_upd nt) s5
      refine ⟨_, rfl, o, dx, _, rfl, s45 _ _ hdx, noA _ _ _, _, rfl, s0, xs, rfl, .inl ⟨SqL.of (s45 _ _ hs4), fun t2 nt2 => ⟨_, rfl, _, rfl, ?_⟩⟩⟩
      have s46 := Same.trans s45 (same_upd (o := .tup xs) nt2)
      refine ⟨o, t2, A, B, E, many, wide, xs, rs, rfl, hO4.same s46, n0, by omega, w0, by omega, upd_same, hR4.same s46, by omega, okr, fun H6 s6 => ?_⟩
      have s47 := Same.trans s46 s6
      rw [al]
      refine ⟨(by show 2 ≤ sizeLine; decide), fun L nL => ?_⟩
      have s48 := Same.trans s47 (same_upd (o := .lst [.bl true, .bl true]) nL)
      refine ⟨_, rfl, (by show 2 ≤ sizeLine; decide), fun L2 nL2 => ?_⟩
      have s49 := Same.trans s48 (same_upd (o := .lst [.bl true, .bl true]) nL2)
      refine ⟨.list [.bool true, .bool true], .list [.bool true, .bool true], .lst (SqL.of (same_upd nL2 _ _ upd_same)) (.cons (.bl _) (.cons (.bl _) .nil)), .lst (SqL.of upd_same) (.cons (.bl _) (.cons (.bl _) .nil)), by decide, by decide, _, rfl, ?_⟩
      rw [show PyData.eqv (.list [.bool true, .bool true]) (.list [.bool true, .bool true]) = true by decide]
      refine iteF ?_
      generalize hH7 : upd (upd H6 L (.lst [.bl true, .bl true])) L2 (.lst [.bl true, .bl true]) = H7
      rw [hH7] at s49
      clear hH7
      have o7 : Off j H3 H7 := o4.trans (Same.off s49)
      have J7 := J4.same s49
      have hs7 := s49 _ _ hs4
      have hR7 := hR4.same s49
      clear hR4 hs4 J4 hO4 hdx al
      -- one reply changed
      refine ⟨fun σ H' => (∃ v7 v8 v9 v10 v11 v12 : Option V, σ = [some (.ref j), some (.int (0 + (i : Int))), some (.ref q), some (.int many), some (.int wide), some (.ref o), some (.ref s0), v7, v8, v9, v10, v11, v12, v13, v14]) ∧ Off j H3 H' ∧ Jar H' j, ?_, ?_⟩
      · refine ⟨_, rfl, Nat.zero_le _, fun e ne => ?_⟩
        refine ⟨.list (rs.map repD), .list [], .lst (SqL.of (same_upd ne _ _ hs7)) (hR7.same (same_upd ne)).dp, .lst (SqL.of upd_same) .nil, repDs_shaped _, by decide, _, rfl, ?_⟩
        have o8 : Off j H3 (upd H7 e (.lst [])) := o7.new ne
        have J8 := J7.new (o := .lst []) ne
        have hs8 := same_upd (o := .lst []) ne _ _ hs7
        have hR8 := hR7.same (same_upd (o := .lst []) ne)
        generalize upd H7 e (.lst []) = H8 at o8 J8 hs8 hR8
        by_cases hrs : rs = []
        · rw [hrs]
          refine iteF ?_
          exact ⟨⟨_, _, _, _, _, _, rfl⟩, o8, J8⟩
        · have e1 : PyData.eqv (.list (rs.map repD)) (.list []) = false := by
            cases rs with
            | nil => exact absurd rfl hrs
            | cons r rs' => simp [PyData.eqv, PyData.eqvAll]
          rw [e1]
          refine iteT ?_
          have lpos : 0 < rs.length := List.length_pos_iff.mpr hrs
          -- at
          refine ⟨_, rfl, _, rfl, s0, xs, rfl, .inl (SqL.of hs8), j, _, rfl, J8, by omega, by omega, fun H9 d d0 d1 o9 J9 => ?_⟩
          obtain ⟨n, rfl⟩ := Int.eq_ofNat_of_zero_le d0
          have hn : n < xs.length := by omega
          have oA : Off j H3 H9 := o8.trans o9
          have hs9 := o9 _ _ ns0j hs8
          have hR9 := hR8.off o9 J8
          obtain ⟨r, hr0, t0, ht0, ht1⟩ := hR9.get (List.getElem?_eq_getElem hn)
          have hbr := hb r (List.mem_of_getElem? hr0)
          -- reply
          refine ⟨_, rfl, _, rfl, s0, xs, _, .ref t0, rfl, rfl, SqL.of hs9, atI_nat (by rw [List.getElem?_eq_getElem hn, ht0]), t0, _, 0, _, rfl, rfl, SqT.of ht1, rfl, _, rfl, _, rfl, (by show 3 ≤ sizeLine; decide), fun pm npm => ?_⟩
          refine ⟨j, pm, _, rfl, J9.new npm, jar_ne J9 npm, SqL.of upd_same, by decide, by decide, fun Ha ia xa hxa oa Ja => ?_⟩
          have o9a : Off j H9 Ha := (Off.new Off.refl npm).trans oa
          obtain ⟨dd, hdd0, hdd1, rfl⟩ : ∃ m : Int, -1 ≤ m ∧ m ≤ 1 ∧ xa = .int m := by
            match ia, hxa with
            | 0, hx => exact ⟨-1, by decide, by decide, (Option.some.inj hx).symm⟩
            | 1, hx => exact ⟨0, by decide, by decide, (Option.some.inj hx).symm⟩
            | 2, hx => exact ⟨1, by decide, by decide, (Option.some.inj hx).symm⟩
          refine ⟨_, _, rfl, rfl, 0, _, rfl, ?_⟩
          refine ⟨_, rfl, j, 2, rfl, Ja, by decide, by decide, fun Hb b b0 b1 ob Jb => ?_⟩
          refine ⟨rfl, (by show 2 ≤ sizeLine; decide), fun tr ntr => ?_⟩
          have rc0 : 0 ≤ (if r.1 + dd > 0 then r.1 + dd else 0) ∧ (if r.1 + dd > 0 then r.1 + dd else 0) ≤ 1000 := by
            have := hbr.1
            have := hbr.2
            split <;> omega
          generalize (if r.1 + dd > 0 then r.1 + dd else 0) = rc at ntr rc0 ⊢
          generalize decide (V.int b = V.int 0) = rt at ntr ⊢
          have o9b : Off j H9 Hb := o9a.trans ob
          have hsb := o9b _ _ ns0j hs9
          have hRb := hR9.off o9b J9
          have oc : Off j H9 (upd Hb tr (.tup [.int rc, .bl rt])) := o9b.new ntr
          have Jc := Jb.new (o := .tup [.int rc, .bl rt]) ntr
          have hsc := same_upd (o := .tup [.int rc, .bl rt]) ntr _ _ hsb
          have hRc := hRb.same (same_upd (o := .tup [.int rc, .bl rt]) ntr)
          have hrc : Rep (upd Hb tr (.tup [.int rc, .bl rt])) (.ref tr) (rc, rt) := ⟨tr, rfl, upd_same⟩
          generalize upd Hb tr (.tup [.int rc, .bl rt]) = Hc at oc Jc hsc hRc hrc
          -- bent
          refine ⟨_, rfl, _, rfl, _, rfl, s0, xs, rfl, SqL.of hsc, fun p1 np1 => ⟨_, rfl, (by show 1 ≤ sizeLine; decide), fun p2 np2 => ?_⟩⟩
          rw [cut_to xs n (by omega)] at np2 ⊢
          have sz1 : (xs.take n).length ≤ 14 := by rw [List.length_take]; omega
          refine ⟨p1, p2, _, _, rfl, rfl, same_upd np2 _ _ upd_same, upd_same, small1000 (by rw [List.length_singleton]; omega) |> Nat.le_of_lt, fun p3 np3 => ?_⟩
          have sd := Same.trans (same_upd (o := .lst (xs.take n)) np1) (Same.trans (same_upd (o := .lst [.ref tr]) np2) (same_upd (o := .lst (xs.take n ++ [.ref tr])) np3))
          have h3d : (upd (upd (upd Hc p1 (.lst (xs.take n))) p2 (.lst [.ref tr])) p3 (.lst (xs.take n ++ [.ref tr]))) p3 = some (.lst (xs.take n ++ [.ref tr])) := upd_same
          have n3j : p3 ≠ j := jar_ne (Jc.same (Same.trans (same_upd (o := .lst (xs.take n)) np1) (same_upd (o := .lst [.ref tr]) np2))) np3
          generalize upd (upd (upd Hc p1 (.lst (xs.take n))) p2 (.lst [.ref tr])) p3 (.lst (xs.take n ++ [.ref tr])) = Hd at sd h3d
          clear np1 np2 np3
          have Jd := Jc.same sd
          refine ⟨_, rfl, _, rfl, _, rfl, j, 2, rfl, Jd, by decide, by decide, fun He e2 e20 e21 oe Je => ?_⟩
          obtain ⟨m, rfl⟩ := Int.eq_ofNat_of_zero_le e20
          have hse := oe _ _ ns0j (sd _ _ hsc)
          have h3e := oe _ _ n3j h3d
          have oce : Off j Hc He := (Same.off sd).trans oe
          refine ⟨_, _, rfl, rfl, ((n + m : Nat) : Int), by simp, s0, xs, rfl, SqL.of hse, fun p4 np4 => ?_⟩
          rw [cut_from]
          have sz2 : (xs.drop (n + m)).length ≤ 14 := by rw [List.length_drop]; omega
          refine ⟨p3, p4, _, _, rfl, rfl, same_upd np4 _ _ h3e, upd_same, small1000 (by rw [List.length_append, List.length_singleton]; omega) |> Nat.le_of_lt, fun p5 np5 => ?_⟩
          have sf0 := Same.trans (same_upd (o := .lst (xs.drop (n + m))) np4) (same_upd (o := .lst ((xs.take n ++ [.ref tr]) ++ xs.drop (n + m))) np5)
          have h5 : (upd (upd He p4 (.lst (xs.drop (n + m)))) p5 (.lst ((xs.take n ++ [.ref tr]) ++ xs.drop (n + m)))) p5 = some (.lst ((xs.take n ++ [.ref tr]) ++ xs.drop (n + m))) := upd_same
          generalize upd (upd He p4 (.lst (xs.drop (n + m)))) p5 (.lst ((xs.take n ++ [.ref tr]) ++ xs.drop (n + m))) = Hf at sf0 h5
          clear np4 np5
          have ocf : Off j Hc Hf := oce.trans (Same.off sf0)
          have o3f : Off j H3 Hf := (oA.trans oc).trans ocf
          have Jf := Je.same sf0
          have hRf := hRc.off ocf Jc
          have hbent : Reps Hf ((xs.take n ++ [.ref tr]) ++ xs.drop (n + m)) ((rs.take n ++ [(rc, rt)]) ++ rs.drop (n + m)) := ((hRf.take n).app (.cons (hrc.off ocf Jc) .nil)).app (hRf.drop (n + m))
          have lbent : ((rs.take n ++ [(rc, rt)]) ++ rs.drop (n + m)).length ≤ 100 := by
            rw [List.length_append, List.length_append, List.length_take, List.length_drop, List.length_singleton]
            omega
          have okb : Okr 1000 ((rs.take n ++ [(rc, rt)]) ++ rs.drop (n + m)) := fun r' h => by
            rw [List.mem_append, List.mem_append, List.mem_singleton] at h
            rcases h with (h | rfl) | h
            · exact okr r' (List.mem_of_mem_take h)
            · exact rc0
            · exact okr r' (List.mem_of_mem_drop h)
          generalize (xs.take n ++ [.ref tr]) ++ xs.drop (n + m) = ys at h5 hbent
          generalize (rs.take n ++ [(rc, rt)]) ++ rs.drop (n + m) = bs at hbent lbent okb
          have hOf := hO3.off o3f J3
          have hqf := hq3.off o3f J3
          obtain ⟨dx, hdx⟩ := id hOf
          -- both answers
          refine ⟨_, rfl, o, dx, _, rfl, hdx, noA _ _ _, _, rfl, _, rfl, _, rfl, p5, ys, rfl, .inl ⟨SqL.of h5, fun t nt => ?_⟩⟩
          refine ⟨o, t, A, B, E, many, wide, ys, bs, rfl, hOf.same (same_upd nt), n0, by omega, w0, by omega, upd_same, hbent.same (same_upd nt), lbent, okb, fun Hg sg => ⟨_, rfl, ?_⟩⟩
          have sfg := Same.trans (same_upd (o := .tup ys) nt) sg
          refine ⟨_, rfl, _, rfl, _, rfl, _, rfl, q, p5, A, B, E, many, wide, ys, bs, rfl, sfg _ _ hqf, hA, hB, hE, n0, by omega, w0, by omega, sfg _ _ h5, hbent.same sfg, fun r' h => (okb r' h).1, fun Hh sh => ⟨_, rfl, rfl, _, rfl, ?_⟩⟩
          rw [due_eq hA hB hE w0 bs many n0 fun r' h => (okb r' h).1]
          rw [decide_eq_true (rfl : V.str (if allowsM A B E wide many bs = true then "True" else "False") = V.str (if allowsM A B E wide many bs = true then "True" else "False"))]
          refine iteF ?_
          have sfh := Same.trans sfg sh
          exact ⟨⟨_, _, _, _, _, _, rfl⟩, o3f.trans (Same.off sfh), Jf.same sfh⟩
      rintro _ H8 ⟨⟨v7, v8, v9', v10', v11', v12', rfl⟩, o8, J8⟩
      -- rows of empty replies
      have hq8 := hq3.off o8 J3
      have hO8 := hO3.off o8 J3
      refine ⟨_, rfl, q, _, 2, _, rfl, rfl, SqL.of hq8, rfl, rfl, (by show 2 ≤ sizeLine; decide), fun t nt => ⟨(by show 1 ≤ sizeLine; decide), fun l nl => ?_⟩⟩
      refine ⟨l, 60, _, rfl, rfl, upd_same, by decide, by decide, (by show 1 * 60 ≤ sizeLine; decide), fun p np => ?_⟩
      have st := same_upd (o := .tup [.int 0, .bl (!decide (V.str E = V.str "empty"))]) nt
      have sl := same_upd (o := .lst [.ref t]) nl
      have sp := same_upd (o := .lst (List.replicate (60 : Int).toNat [V.ref t]).flatten) np
      have s89 := Same.trans st (Same.trans sl sp)
      have hl9 : Reps (upd (upd (upd H8 t (.tup [.int 0, .bl (!decide (V.str E = V.str "empty"))])) l (.lst [.ref t])) p (.lst (List.replicate (60 : Int).toNat [V.ref t]).flatten)) (List.replicate (60 : Int).toNat [V.ref t]).flatten (List.replicate 60 (0, !decide (E = "empty"))) := by
        rw [flat_one]
        refine Reps.rep ⟨t, rfl, ?_⟩ 60
        rw [← dS]
        exact sp _ _ (sl _ _ upd_same)
      have hp9 : (upd (upd (upd H8 t (.tup [.int 0, .bl (!decide (V.str E = V.str "empty"))])) l (.lst [.ref t])) p (.lst (List.replicate (60 : Int).toNat [V.ref t]).flatten)) p = some (.lst (List.replicate (60 : Int).toNat [V.ref t]).flatten) := upd_same
      generalize upd (upd (upd H8 t (.tup [.int 0, .bl (!decide (V.str E = V.str "empty"))])) l (.lst [.ref t])) p (.lst (List.replicate (60 : Int).toNat [V.ref t]).flatten) = H9 at s89 hl9 hp9
      clear sl sp st nl np nt
      refine ⟨_, rfl, 1, rfl, q, _, rfl, SqL.of (s89 _ _ hq8), fun c nc => ⟨(by show 2 ≤ sizeLine; decide), fun c2 nc2 => ?_⟩⟩
      rw [show cutV [.str A, .str B, .str E] (some 1) none = [.str B, .str E] from cut_from _ 1] at nc2 ⊢
      refine ⟨.list [.str B, .str E], .list [.str "waiting", .str "empty"], .lst (SqL.of (same_upd nc2 _ _ upd_same)) (.cons (.str _) (.cons (.str _) .nil)), .lst (SqL.of upd_same) (.cons (.str _) (.cons (.str _) .nil)), by rcases hB with rfl | rfl <;> rcases hE with rfl | rfl | rfl <;> decide +kernel, by decide +kernel, ?_⟩
      have ev : PyData.eqv (.list [.str B, .str E]) (.list [.str "waiting", .str "empty"]) = (decide (B = "waiting") && decide (E = "empty")) := by
        rcases hB with rfl | rfl <;> rcases hE with rfl | rfl | rfl <;> decide +kernel
      rw [ev]
      have s8a := Same.trans s89 (Same.trans (same_upd (o := .lst [.str B, .str E]) nc) (same_upd (o := .lst [.str "waiting", .str "empty"]) nc2))
      have s9a := Same.trans (same_upd (o := .lst [.str B, .str E]) nc) (same_upd (o := .lst [.str "waiting", .str "empty"]) nc2)
      generalize upd (upd H9 c (.lst [.str B, .str E])) c2 (.lst [.str "waiting", .str "empty"]) = Ha at s8a s9a
      have hOa := hO8.same s8a
      obtain ⟨dx2, hdx2⟩ := id hOa
      have hRa := hl9.same s9a
      have hpa := s9a _ _ hp9
      generalize (List.replicate (60 : Int).toNat [V.ref t]).flatten = zs at hRa hpa
      have okz : Okr 1000 (List.replicate 60 ((0 : Int), !decide (E = "empty"))) := fun r h => by
        rw [List.eq_of_mem_replicate h]
        exact ⟨Int.le_refl 0, by show (0 : Int) ≤ 1000; decide⟩
      refine ⟨_, rfl, o, dx2, _, rfl, hdx2, noA _ _ _, _, rfl, _, rfl, p, zs, rfl, .inl ⟨SqL.of hpa, fun t3 nt3 => ?_⟩⟩
      refine ⟨o, t3, A, B, E, 0, wide, zs, _, rfl, hOa.same (same_upd nt3), by decide, by decide, w0, by omega, upd_same, hRa.same (same_upd nt3), by rw [List.length_replicate]; decide, okz, fun Hb sb => ?_⟩
      rw [al_zero hE 60]
      refine ⟨_, _, rfl, rfl, _, rfl, iteF ?_⟩
      have sab := Same.trans (same_upd (o := .tup zs) nt3) sb
      refine ⟨_, rfl, o, dx2, _, rfl, sab _ _ hdx2, noA _ _ _, _, rfl, _, rfl, p, zs, rfl, .inl ⟨SqL.of (sab _ _ hpa), fun t4 nt4 => ?_⟩⟩
      have sac := Same.trans sab (same_upd (o := .tup zs) nt4)
      refine ⟨o, t4, A, B, E, 1, wide, zs, _, rfl, hOa.same sac, by decide, by decide, w0, by omega, upd_same, hRa.same sac, by rw [List.length_replicate]; decide, okz, fun Hd sd => ?_⟩
      rw [al_one hB hE 59]
      refine ⟨_, rfl, rfl, _, rfl, ?_⟩
      rw [decide_eq_true (rfl : V.bl (decide (B = "waiting") && decide (E = "empty")) = V.bl (decide (B = "waiting") && decide (E = "empty")))]
      refine iteF ?_
      have s8d := Same.trans s8a (Same.trans sac sd)
      exact ⟨⟨_, _, _, _, _, _, _, _, _, _, _, _, _, _, rfl⟩, (o3.trans o8).trans (Same.off s8d), J8.same s8d⟩
    · rintro σ H1 ⟨⟨v1, v2, v3, v4, v5, v6, v7, v8, v9, v10, v11, v12, v13, v14, rfl⟩, o1, J1⟩
      exact k H1 o1
end
end My

namespace My
open PySem L2
abbrev sLaw : Stmt := top 28
theorem gAl_rel {vs zs : List V} {us ws : List Value} (h1 : Vals vs us) (h2 : Vals zs ws) : Vals (gAlV vs zs) (gAl us ws) := by
  cases h1 with
  | nil => exact .nil
  | cons a t1 =>
    cases t1 with
    | cons _ _ => exact .nil
    | nil =>
      cases h2 with
      | nil => exact .nil
      | cons b t2 =>
        cases t2 with
        | nil => exact .nil
        | cons c t3 =>
          cases t3 with
          | nil => exact .nil
          | cons d t4 =>
            cases t4 with
            | cons _ _ => exact .nil
            | nil => exact .cons a (.cons d (.cons c (.cons b .nil)))
def spLaw (K : PySem.W.Frag) : Sp := fun vs H Q _ => ∃ (a : Addr) (ns : List Int), vs = [.ref a] ∧ SqL K H a (ns.map V.int) ∧ ns.length ≤ 63 ∧ ∀ H', Q (.bl true) H'
theorem scLaw : FnScope ["_law_script", "_law_k"] ["_law_script"] (defScope sLaw) := ⟨rfl, rfl, rfl, by decide +kernel, rfl, by decide +kernel, by decide +kernel⟩
theorem all_true : ∀ n : Nat, (List.replicate n true).all id = true
  | 0 => rfl
  | n + 1 => all_true n
section
variable {P : Program} {w : World} {K : PySem.W.Frag} {mg : Str → Option Value} {base : Heap} {fS fF fK fO fD : Addr} {C pA pP pE fIIB fIR fCI fCS fCR fCW fI fCan fMust fAl : Addr} {fd1 fd2 fd3 fd4 fd5 fd6 fd7 fd8 fd9 fdA fdS fdF fdK fdO fdD : FuncData}
theorem ok_law {f fJ fR : Addr} {fd fdJ fdR : FuncData} (F : Fun K "law" "law" sLaw f fd) (TJ : TxtJ mg) (L : TxtL K mg fS fF fK fO fD) (T : TxtP K mg C pA pP pE fIIB fIR fCI fCS fCR fCW) (R : TxtR K mg)
    (N : FnP K C fIIB fIR fCI fCS fCR fCW fI fCan fMust fd1 fd2 fd3 fd4 fd5 fd6 fd7 fd8 fd9) (M : FnL K C fS fF fK fO fD fAl fdS fdF fdK fdO fdD fdA)
    (FJ : Fun K "_law_jar" "_law_jar" sJar fJ fdJ) (bJ : Binds K fdJ ["_law_script", "_law_k"] []) (gJ : mg "_law_jar" = some (.ref fJ)) (kJ : PySem.W.keepIn K (.ref fJ) = true)
    (FR : Fun K "_law_right" "_law_right" sRight fR fdR) (bR : Binds K fdR ["_law_jar_here"] []) (gR : mg "_law_right" = some (.ref fR)) (kR : PySem.W.keepIn K (.ref fR) = true) (mall : mg "all" = none) (mmax : mg "max" = none) (mmin : mg "min" = none) :
    FnOk P w K mg base CX0 6 f fd ["_law_script"] (spLaw K) := by
  have GJ : FnOk P w K mg base CX0 1 fJ fdJ ["_law_script", "_law_k"] (spJar K) := ok_jar FJ TJ
  have GR : FnOk P w K mg base CX0 5 fR fdR ["_law_jar_here"] spRight := ok_right FR TJ L T R N M
  refine F.ok scLaw (fun vs H Q E h => ?_) (fun cdv A outer s H vs Q E hr h => ?_)
  · obtain ⟨a, ns, rfl, _⟩ := h
    rfl
  · obtain ⟨a, ns, rfl, hS, hl, k⟩ := h
    have hr1 : Room 1 _ := hr.mono (by decide)
    refine ⟨_, pss_one (ps_ret (pe_callB (cr_all rfl) (by rfl) mall (by decide +kernel) (pa_cons (pe_lc (own := [("_law_k", 1)]) (g := gName 1) (tt := tYes) rfl scLaw.nd
      (pi_range1 rfl L.range (pa_cons (pe_callB (call_max2 rfl) (by rfl) mmax (by decide +kernel) (pa_cons pe_int (pa_cons (pe_callB (call_min2 rfl) (by rfl) mmin (by decide +kernel) (pa_cons (pe_callB call_len_seq (by rfl) TJ.len PySem.boot_len (pa_cons (pv 0) pa_nil)) (pa_cons pe_int pa_nil))) pa_nil))) pa_nil))
      (blkOk_by (own := [("_law_k", 1)]) (N := ["_law_script", "_law_k"]) (sc := defScope sLaw) (by decide +kernel)) (fun _ _ _ _ _ => pg_name (i := 1) scLaw.nd rfl (Or.inl rfl)) (fun _ _ _ _ _ => pts_nil)
      (fun _ _ _ _ _ => pe_call GR hr rfl gR kR bR .nil pass0 (pa_cons (pe_call GJ hr1 rfl gJ kJ bJ .nil pass0 (pa_cons (pv 0) (pa_cons (pv 1) pa_nil))) pa_nil))) pa_nil))), ?_⟩
    refine ⟨_, rfl, a, _, rfl, .inl hS, _, _, rfl, _, _, rfl, ?_⟩
    rw [List.length_map]
    have hm : ∃ n : Nat, (if (if (5 : Int) < (ns.length : Int) then 5 else (ns.length : Int)) > 2 then (if (5 : Int) < (ns.length : Int) then 5 else (ns.length : Int)) else 2) = (n : Int) ∧ n ≤ 5 := by
      by_cases h5 : (5 : Int) < (ns.length : Int)
      · rw [if_pos h5]
        exact ⟨5, rfl, Nat.le_refl _⟩
      · rw [if_neg h5]
        by_cases h2 : (ns.length : Int) > 2
        · rw [if_pos h2]
          exact ⟨ns.length, rfl, by omega⟩
        · rw [if_neg h2]
          exact ⟨2, rfl, by omega⟩
    obtain ⟨n, en, hn⟩ := hm
    refine ⟨_, rfl, by rw [en]; omega, by rw [en]; omega, fun D nD => ?_⟩
    rw [en]
    refine lc_range (lo := 0) (n := ((n : Int)).toNat) (fun i H' => Same H H' ∧ H' D = some (.lst ((List.replicate i true).map V.bl))) ⟨same_upd nD, upd_same⟩ ?_ ?_
    · rintro i H1 hi ⟨s1, hD⟩
      refine ⟨rfl, _, rfl, _, rfl, a, ns, i, by rw [Int.zero_add]; rfl, s1.seq hS, hl, fun H2 j s2 nj J2 => ?_⟩
      refine ⟨j, rfl, J2, fun H3 o3 => ?_⟩
      have s3 : Same H1 H3 := fun b o q => o3 b o (fun z => by rw [z, nj] at q; cases q) (s2 b o q)
      refine ⟨_, s3 _ _ hD, small1000 (by rw [List.length_map, List.length_replicate]; omega), fun b o q => ?_, ?_⟩
      · rw [upd_ne (ne_of_none q nD)]
        exact s3 _ _ (s1 _ _ q)
      · rw [upd_same, List.replicate_succ', List.map_append]
        rfl
    · rintro H1 ⟨s1, hD⟩
      refine ⟨D, List.replicate _ true, rfl, SqL.of hD, ?_⟩
      rw [all_true]
      exact k H1
end
theorem all_mk {l : PySem.W.OpenLaw} {w : World} {K : PySem.W.Frag} {h : Heap} {mg : Str → Option Value} {fa C f1 f2 f3 f4 f5 f6 f7 f8 f9 f10 f11 f12 f13 f14 f15 f16 f17 f18 pA pP pE : Addr} (X : K.In h) (G : h.Ns mainGlobals mg) (hfa : mg "law" = some (.ref fa))
    {od1 an1 od2 an2 od3 an3 od4 an4 od5 an5 od6 an6 od7 an7 od8 an8 od9 an9 od10 an10 od11 an11 od12 an12 od13 an13 od14 an14 od15 an15 od16 an16 od17 an17 od18 an18 odA odP odE : Option Addr} {sl1 sl2 sl3 sl4 sl5 sl6 sl7 sl8 sl9 sl10 sl11 sl12 sl13 sl14 sl15 sl16 sl17 sl18 slA slP slE : Array (Option Value)} {oc1 kV1 dc1 pm1 cd1 ct1 oc2 kV2 dc2 pm2 cd2 ct2 oc3 kV3 dc3 pm3 cd3 ct3 oc4 kV4 dc4 pm4 cd4 ct4 oc5 kV5 dc5 pm5 cd5 ct5 oc6 kV6 dc6 pm6 cd6 ct6 oc7 kV7 dc7 pm7 cd7 ct7 oc8 kV8 dc8 pm8 cd8 ct8 oc9 kV9 dc9 pm9 cd9 ct9 oc10 kV10 dc10 pm10 cd10 ct10 oc11 kV11 dc11 pm11 cd11 ct11 oc12 kV12 dc12 pm12 cd12 ct12 oc13 kV13 dc13 pm13 cd13 ct13 oc14 kV14 dc14 pm14 cd14 ct14 oc15 kV15 dc15 pm15 cd15 ct15 oc16 kV16 dc16 pm16 cd16 ct16 oc17 kV17 dc17 pm17 cd17 ct17 oc18 kV18 dc18 pm18 cd18 ct18 : Value} {tkA0 tkA1 tkP0 tkP1 tkE0 tkE1 tkE2 tkR tkI : Tok} {nA nP nE : Nat}
    (aC : PySem.W.nsIn K mainGlobals "Source" = some (some (.ref C)))
    (a1 : PySem.W.nsIn K mainGlobals "is_integer_between" = some (some (.ref f1)))
    (l1 : K.lookup f1 = some ⟨oc1, od1, .func (PySem.W.fnOf "is_integer_between" "is_integer_between" (defArgs sIIB) (defBody sIIB) (defScope sIIB) .none kV1 dc1 pm1 an1 cd1 ct1), sl1⟩)
    (c1 : PySem.W.codeIn K cd1 "is_integer_between" = true)
    (k1 : PySem.W.keepIn K (.ref f1) = true)
    (a2 : PySem.W.nsIn K mainGlobals "is_reply" = some (some (.ref f2)))
    (l2 : K.lookup f2 = some ⟨oc2, od2, .func (PySem.W.fnOf "is_reply" "is_reply" (defArgs sIR) (defBody sIR) (defScope sIR) .none kV2 dc2 pm2 an2 cd2 ct2), sl2⟩)
    (c2 : PySem.W.codeIn K cd2 "is_reply" = true)
    (k2 : PySem.W.keepIn K (.ref f2) = true)
    (a3 : PySem.W.nsIn K mainGlobals "check_items" = some (some (.ref f3)))
    (l3 : K.lookup f3 = some ⟨oc3, od3, .func (PySem.W.fnOf "check_items" "check_items" (defArgs sCI) (defBody sCI) (defScope sCI) .none kV3 dc3 pm3 an3 cd3 ct3), sl3⟩)
    (c3 : PySem.W.codeIn K cd3 "check_items" = true)
    (k3 : PySem.W.keepIn K (.ref f3) = true)
    (a4 : PySem.W.nsIn K mainGlobals "check_size" = some (some (.ref f4)))
    (l4 : K.lookup f4 = some ⟨oc4, od4, .func (PySem.W.fnOf "check_size" "check_size" (defArgs sCS) (defBody sCS) (defScope sCS) .none kV4 dc4 pm4 an4 cd4 ct4), sl4⟩)
    (c4 : PySem.W.codeIn K cd4 "check_size" = true)
    (k4 : PySem.W.keepIn K (.ref f4) = true)
    (a5 : PySem.W.nsIn K mainGlobals "check_replies" = some (some (.ref f5)))
    (l5 : K.lookup f5 = some ⟨oc5, od5, .func (PySem.W.fnOf "check_replies" "check_replies" (defArgs sCR) (defBody sCR) (defScope sCR) .none kV5 dc5 pm5 an5 cd5 ct5), sl5⟩)
    (c5 : PySem.W.codeIn K cd5 "check_replies" = true)
    (k5 : PySem.W.keepIn K (.ref f5) = true)
    (a6 : PySem.W.nsIn K mainGlobals "check_word" = some (some (.ref f6)))
    (l6 : K.lookup f6 = some ⟨oc6, od6, .func (PySem.W.fnOf "check_word" "check_word" (defArgs sCW) (defBody sCW) (defScope sCW) .none kV6 dc6 pm6 an6 cd6 ct6), sl6⟩)
    (c6 : PySem.W.codeIn K cd6 "check_word" = true)
    (k6 : PySem.W.keepIn K (.ref f6) = true)
    (a7 : PySem.W.findIn K (.ref C) "__init__" = some (some (.ref f7)))
    (i7 : PySem.W.isFn K (.ref f7) = true)
    (l7 : K.lookup f7 = some ⟨oc7, od7, .func (PySem.W.fnOf "__init__" "Source.__init__" (defArgs sInit) (defBody sInit) (defScope sInit) .none kV7 dc7 pm7 an7 cd7 ct7), sl7⟩)
    (c7 : PySem.W.codeIn K cd7 "Source.__init__" = true)
    (k7 : PySem.W.keepIn K (.ref f7) = true)
    (a8 : PySem.W.findIn K (.ref C) "can_hand_out" = some (some (.ref f8)))
    (i8 : PySem.W.isFn K (.ref f8) = true)
    (l8 : K.lookup f8 = some ⟨oc8, od8, .func (PySem.W.fnOf "can_hand_out" "Source.can_hand_out" (defArgs sCan) (defBody sCan) (defScope sCan) .none kV8 dc8 pm8 an8 cd8 ct8), sl8⟩)
    (c8 : PySem.W.codeIn K cd8 "Source.can_hand_out" = true)
    (k8 : PySem.W.keepIn K (.ref f8) = true)
    (a9 : PySem.W.findIn K (.ref C) "must_tell" = some (some (.ref f9)))
    (i9 : PySem.W.isFn K (.ref f9) = true)
    (l9 : K.lookup f9 = some ⟨oc9, od9, .func (PySem.W.fnOf "must_tell" "Source.must_tell" (defArgs sMust) (defBody sMust) (defScope sMust) .none kV9 dc9 pm9 an9 cd9 ct9), sl9⟩)
    (c9 : PySem.W.codeIn K cd9 "Source.must_tell" = true)
    (k9 : PySem.W.keepIn K (.ref f9) = true)
    (a10 : PySem.W.findIn K (.ref C) "allows" = some (some (.ref f10)))
    (i10 : PySem.W.isFn K (.ref f10) = true)
    (l10 : K.lookup f10 = some ⟨oc10, od10, .func (PySem.W.fnOf "allows" "Source.allows" (defArgs sAllows) (defBody sAllows) (defScope sAllows) .none kV10 dc10 pm10 an10 cd10 ct10), sl10⟩)
    (c10 : PySem.W.codeIn K cd10 "Source.allows" = true)
    (k10 : PySem.W.keepIn K (.ref f10) = true)
    (a11 : PySem.W.nsIn K mainGlobals "_law_jar" = some (some (.ref f11)))
    (l11 : K.lookup f11 = some ⟨oc11, od11, .func (PySem.W.fnOf "_law_jar" "_law_jar" (defArgs sJar) (defBody sJar) (defScope sJar) .none kV11 dc11 pm11 an11 cd11 ct11), sl11⟩)
    (c11 : PySem.W.codeIn K cd11 "_law_jar" = true)
    (k11 : PySem.W.keepIn K (.ref f11) = true)
    (a12 : PySem.W.nsIn K mainGlobals "_law_sip" = some (some (.ref f12)))
    (l12 : K.lookup f12 = some ⟨oc12, od12, .func (PySem.W.fnOf "_law_sip" "_law_sip" (defArgs sSip) (defBody sSip) (defScope sSip) .none kV12 dc12 pm12 an12 cd12 ct12), sl12⟩)
    (c12 : PySem.W.codeIn K cd12 "_law_sip" = true)
    (k12 : PySem.W.keepIn K (.ref f12) = true)
    (a13 : PySem.W.nsIn K mainGlobals "_law_from" = some (some (.ref f13)))
    (l13 : K.lookup f13 = some ⟨oc13, od13, .func (PySem.W.fnOf "_law_from" "_law_from" (defArgs sFrom) (defBody sFrom) (defScope sFrom) .none kV13 dc13 pm13 an13 cd13 ct13), sl13⟩)
    (c13 : PySem.W.codeIn K cd13 "_law_from" = true)
    (k13 : PySem.W.keepIn K (.ref f13) = true)
    (a14 : PySem.W.nsIn K mainGlobals "_law_kind" = some (some (.ref f14)))
    (l14 : K.lookup f14 = some ⟨oc14, od14, .func (PySem.W.fnOf "_law_kind" "_law_kind" (defArgs sKind) (defBody sKind) (defScope sKind) .none kV14 dc14 pm14 an14 cd14 ct14), sl14⟩)
    (c14 : PySem.W.codeIn K cd14 "_law_kind" = true)
    (k14 : PySem.W.keepIn K (.ref f14) = true)
    (a15 : PySem.W.nsIn K mainGlobals "_law_options" = some (some (.ref f15)))
    (l15 : K.lookup f15 = some ⟨oc15, od15, .func (PySem.W.fnOf "_law_options" "_law_options" (defArgs sOpt) (defBody sOpt) (defScope sOpt) .none kV15 dc15 pm15 an15 cd15 ct15), sl15⟩)
    (c15 : PySem.W.codeIn K cd15 "_law_options" = true)
    (k15 : PySem.W.keepIn K (.ref f15) = true)
    (a16 : PySem.W.nsIn K mainGlobals "_law_due" = some (some (.ref f16)))
    (l16 : K.lookup f16 = some ⟨oc16, od16, .func (PySem.W.fnOf "_law_due" "_law_due" (defArgs sDue) (defBody sDue) (defScope sDue) .none kV16 dc16 pm16 an16 cd16 ct16), sl16⟩)
    (c16 : PySem.W.codeIn K cd16 "_law_due" = true)
    (k16 : PySem.W.keepIn K (.ref f16) = true)
    (a17 : PySem.W.nsIn K mainGlobals "_law_right" = some (some (.ref f17)))
    (l17 : K.lookup f17 = some ⟨oc17, od17, .func (PySem.W.fnOf "_law_right" "_law_right" (defArgs sRight) (defBody sRight) (defScope sRight) .none kV17 dc17 pm17 an17 cd17 ct17), sl17⟩)
    (c17 : PySem.W.codeIn K cd17 "_law_right" = true)
    (k17 : PySem.W.keepIn K (.ref f17) = true)
    (a18 : PySem.W.nsIn K mainGlobals "law" = some (some (.ref f18)))
    (l18 : K.lookup f18 = some ⟨oc18, od18, .func (PySem.W.fnOf "law" "law" (defArgs sLaw) (defBody sLaw) (defScope sLaw) .none kV18 dc18 pm18 an18 cd18 ct18), sl18⟩)
    (c18 : PySem.W.codeIn K cd18 "law" = true)
    (k18 : PySem.W.keepIn K (.ref f18) = true)
    (gA : PySem.W.nsIn K mainGlobals "AMOUNTS" = some (some (.ref pA)))
    (tA : K.lookup pA = some ⟨.type "tuple", odA, .seq #[.str "exact" tkA0, .str "short" tkA1] nA, slA⟩)
    (gP : PySem.W.nsIn K mainGlobals "PATIENCES" = some (some (.ref pP)))
    (tP : K.lookup pP = some ⟨.type "tuple", odP, .seq #[.str "prompt" tkP0, .str "waiting" tkP1] nP, slP⟩)
    (gE : PySem.W.nsIn K mainGlobals "ENDS" = some (some (.ref pE)))
    (tE : K.lookup pE = some ⟨.type "tuple", odE, .seq #[.str "empty" tkE0, .str "with" tkE1, .str "behind" tkE2] nE, slE⟩)
    (mR : PySem.W.nsIn K mainGlobals "MOST_REPLIES" = some (some (.int 100 tkR)))
    (mI : PySem.W.nsIn K mainGlobals "MOST_ITEMS" = some (some (.int 1000 tkI)))
    (pg : PySem.W.plainGet K C Str.empty = true)
    (hd : PySem.W.hasDictIn K C = true)
    (po : PySem.W.plainOver K C = true)
    (sa : PySem.W.findIn K (.ref C) "__setattr__" = some (some (.builtin "object.__setattr__")))
    (mk : PySem.W.makesIn K C = true)
    (kc : PySem.W.keepIn K (.ref C) = true)
    (nA : PySem.W.findIn K (.ref C) "amount" = some none)
    (nP : PySem.W.findIn K (.ref C) "patience" = some none)
    (nE : PySem.W.findIn K (.ref C) "end" = some none)
    (z_isinstance : PySem.W.nsIn K mainGlobals "isinstance" = some none)
    (z_int : PySem.W.nsIn K mainGlobals "int" = some none)
    (z_bool : PySem.W.nsIn K mainGlobals "bool" = some none)
    (z_tuple : PySem.W.nsIn K mainGlobals "tuple" = some none)
    (z_str : PySem.W.nsIn K mainGlobals "str" = some none)
    (z_len : PySem.W.nsIn K mainGlobals "len" = some none)
    (z_min : PySem.W.nsIn K mainGlobals "min" = some none)
    (z_max : PySem.W.nsIn K mainGlobals "max" = some none)
    (z_enumerate : PySem.W.nsIn K mainGlobals "enumerate" = some none)
    (z_range : PySem.W.nsIn K mainGlobals "range" = some none)
    (z_abs : PySem.W.nsIn K mainGlobals "abs" = some none)
    (z_divmod : PySem.W.nsIn K mainGlobals "divmod" = some none)
    (z_repr : PySem.W.nsIn K mainGlobals "repr" = some none)
    (z_all : PySem.W.nsIn K mainGlobals "all" = some none) :
    ∃ fd : FuncData, (∀ (s : Shared) (v : Value), BindsTo s fd ⟨[v], []⟩ [("_law_script", v)]) ∧ ∀ base : Heap, K.In base → base.Ns mainGlobals mg → FnOk l.prog w K mg base CX0 6 fa fd ["_law_script"] (spLaw K) := by
  have e := hfa.symm.trans (PySem.W.mg_of X G a18)
  cases e
  have F1 := fun_mk (st := sIIB) l1 c1 k1
  have b1 := F1.binds (ps := ["value", "low", "high"]) fun _ _ _ _ _ _ us hl => match us, hl with | [_, _, _], _ => rfl
  have F2 := fun_mk (st := sIR) l2 c2 k2
  have b2 := F2.binds (ps := ["value", "most"]) fun _ _ _ _ _ _ us hl => match us, hl with | [_, _], _ => rfl
  have F3 := fun_mk (st := sCI) l3 c3 k3
  have b3 := F3.binds (ps := ["items"]) fun _ _ _ _ _ _ us hl => match us, hl with | [_], _ => rfl
  have F4 := fun_mk (st := sCS) l4 c4 k4
  have b4 := F4.binds (ps := ["size"]) fun _ _ _ _ _ _ us hl => match us, hl with | [_], _ => rfl
  have F5 := fun_mk (st := sCR) l5 c5 k5
  have b5 := F5.binds (ps := ["replies", "most"]) fun _ _ _ _ _ _ us hl => match us, hl with | [_, _], _ => rfl
  have F6 := fun_mk (st := sCW) l6 c6 k6
  have b6 := F6.binds (ps := ["word", "words"]) fun _ _ _ _ _ _ us hl => match us, hl with | [_, _], _ => rfl
  have F7 := fun_mk (st := sInit) l7 c7 k7
  have b7 := F7.binds (ps := ["self", "amount", "patience", "end"]) fun _ _ _ _ _ _ us hl => match us, hl with | [_, _, _, _], _ => rfl
  have F8 := fun_mk (st := sCan) l8 c8 k8
  have b8 := F8.binds (ps := ["self", "left", "size", "count"]) fun _ _ _ _ _ _ us hl => match us, hl with | [_, _, _, _], _ => rfl
  have F9 := fun_mk (st := sMust) l9 c9 k9
  have b9 := F9.binds (ps := ["self", "before", "after"]) fun _ _ _ _ _ _ us hl => match us, hl with | [_, _, _], _ => rfl
  have F10 := fun_mk (st := sAllows) l10 c10 k10
  have b10 := F10.binds (ps := ["self", "items", "size", "replies"]) fun _ _ _ _ _ _ us hl => match us, hl with | [_, _, _, _], _ => rfl
  have F11 := fun_mk (st := sJar) l11 c11 k11
  have b11 := F11.binds (ps := ["_law_script", "_law_k"]) fun _ _ _ _ _ _ us hl => match us, hl with | [_, _], _ => rfl
  have F12 := fun_mk (st := sSip) l12 c12 k12
  have b12 := F12.binds (ps := ["_law_jar_here", "_law_many"]) fun _ _ _ _ _ _ us hl => match us, hl with | [_, _], _ => rfl
  have F13 := fun_mk (st := sFrom) l13 c13 k13
  have b13 := F13.binds (ps := ["_law_jar_here", "_law_things"]) fun _ _ _ _ _ _ us hl => match us, hl with | [_, _], _ => rfl
  have F14 := fun_mk (st := sKind) l14 c14 k14
  have b14 := F14.binds (ps := ["_law_jar_here"]) fun _ _ _ _ _ _ us hl => match us, hl with | [_], _ => rfl
  have F15 := fun_mk (st := sOpt) l15 c15 k15
  have b15 := F15.binds (ps := ["_law_kind_here", "_law_left", "_law_wide"]) fun _ _ _ _ _ _ us hl => match us, hl with | [_, _, _], _ => rfl
  have F16 := fun_mk (st := sDue) l16 c16 k16
  have b16 := F16.binds (ps := ["_law_kind_here", "_law_many", "_law_wide", "_law_some"]) fun _ _ _ _ _ _ us hl => match us, hl with | [_, _, _, _], _ => rfl
  have F17 := fun_mk (st := sRight) l17 c17 k17
  have b17 := F17.binds (ps := ["_law_jar_here"]) fun _ _ _ _ _ _ us hl => match us, hl with | [_], _ => rfl
  have F18 := fun_mk (st := sLaw) l18 c18 k18
  have T : TxtP K mg C pA pP pE f1 f2 f3 f4 f5 f6 := ⟨PySem.W.mg_none_of X G z_isinstance, PySem.W.mg_none_of X G z_int, PySem.W.mg_none_of X G z_bool, PySem.W.mg_none_of X G z_tuple, PySem.W.mg_none_of X G z_str, PySem.W.mg_none_of X G z_len, PySem.W.mg_none_of X G z_min, PySem.W.mg_none_of X G z_enumerate, ⟨_, PySem.W.mg_of X G mR⟩, ⟨_, PySem.W.mg_of X G mI⟩, PySem.W.mg_of X G gA, PySem.W.mg_of X G gP, PySem.W.mg_of X G gE, fun H => .inr ⟨_, _, _, tA, rfl, rfl, (by show 2 ≤ sizeLine; decide), .cons ⟨_, rfl⟩ (.cons ⟨_, rfl⟩ (.nil))⟩, fun H => .inr ⟨_, _, _, tP, rfl, rfl, (by show 2 ≤ sizeLine; decide), .cons ⟨_, rfl⟩ (.cons ⟨_, rfl⟩ (.nil))⟩, fun H => .inr ⟨_, _, _, tE, rfl, rfl, (by show 3 ≤ sizeLine; decide), .cons ⟨_, rfl⟩ (.cons ⟨_, rfl⟩ (.cons ⟨_, rfl⟩ (.nil)))⟩, PySem.W.mg_of X G a1, k1, PySem.W.mg_of X G a2, k2, PySem.W.mg_of X G a3, k3, PySem.W.mg_of X G a4, k4, PySem.W.mg_of X G a5, k5, PySem.W.mg_of X G a6, k6, PySem.W.mg_of X G aC, ⟨pg, hd, po, sa⟩, nA, nP, nE⟩
  have TJ : TxtJ mg := ⟨PySem.W.mg_none_of X G z_len, PySem.W.mg_none_of X G z_int, PySem.W.mg_none_of X G z_abs, PySem.W.mg_none_of X G z_divmod⟩
  have L : TxtL K mg f12 f13 f14 f15 f16 := ⟨PySem.W.mg_none_of X G z_min, PySem.W.mg_none_of X G z_range, ⟨PySem.W.mg_of X G a12, k12⟩, PySem.W.mg_of X G a13, k13, PySem.W.mg_of X G a14, k14, PySem.W.mg_of X G a15, k15, PySem.W.mg_of X G a16, k16⟩
  have R : TxtR K mg := ⟨PySem.W.mg_none_of X G z_range, PySem.W.mg_none_of X G z_tuple, PySem.W.mg_none_of X G z_len, PySem.W.mg_none_of X G z_max, PySem.W.mg_none_of X G z_repr⟩
  have N : FnP K C f1 f2 f3 f4 f5 f6 f7 f8 f9 _ _ _ _ _ _ _ _ _ := ⟨F1, b1, F2, b2, F3, b3, F4, b4, F5, b5, F6, b6, F7, b7, ⟨mk, a7, i7, kc⟩, F8, b8, ⟨a8, i8, k8⟩, F9, b9, ⟨a9, i9, k9⟩⟩
  have kA : KBinds K (PySem.W.fnOf "allows" "Source.allows" (defArgs sAllows) (defBody sAllows) (defScope sAllows) .none kV10 dc10 pm10 an10 cd10 ct10) ["self", "items", "size", "replies"] ["replies", "size", "items"] gAl gAlV := ⟨fun s us ws _ hl => by
      match us, ws, hl with
      | [_], [_, _, _], _ => exact .of_eq rfl, fun h1 h2 => gAl_rel h1 h2⟩
  have M : FnL K C f12 f13 f14 f15 f16 f10 _ _ _ _ _ _ := ⟨F12, b12, F13, b13, F14, b14, F15, b15, F16, b16, F10, b10, ⟨a10, i10, k10⟩, kA⟩
  exact ⟨_, fun s v => .of_eq rfl, fun base _ _ => ok_law F18 TJ L T R N M F11 b11 (PySem.W.mg_of X G a11) k11 F17 b17 (PySem.W.mg_of X G a17) k17 (PySem.W.mg_none_of X G z_all) (PySem.W.mg_none_of X G z_max) (PySem.W.mg_none_of X G z_min)⟩
theorem walk {l : PySem.W.OpenLaw} {q : Program} {loose : List Str} {XP : (Str → Option Value) → Heap → Prop} {YP : World → Heap → Prop} {d : DefRec} {K : Params → PySem.W.Frag} (hn : l.most = some 63) (hdf : d.params.defaults = [])
    (hY : ∀ (w : World) (h : Heap), YP w h → (K w.params).In h)
    (F : ∀ (w : World) (mg : Str → Option Value) (fa : Addr) (h : Heap), (K w.params).In h → h.Ns mainGlobals mg → mg d.name = some (.ref fa) →
      ∃ fd : FuncData, (∀ (s : Shared) (u : Value), BindsTo s fd ⟨[u], []⟩ [("_law_script", u)]) ∧ ∀ base : Heap, (K w.params).In base → base.Ns mainGlobals mg → FnOk l.prog w (K w.params) mg base CX0 6 fa fd ["_law_script"] (spLaw (K w.params))) :
    PySem.W.WalkO q loose XP YP l.row.toRowW d [] (fun f vs => PySem.call f vs) :=
  L2.walk_of (n := 63) (k := 6) (x := "_law_script") (CX := fun _ => CX0) (sp := fun w => spLaw (K w.params)) hn (by decide) hdf ⟨rfl, by decide, by decide⟩ hY F (fun _ _ a ns hl _ hS => ⟨a, ns, rfl, hS, hl, fun _ => rfl⟩) fun _ _ _ _ _ z => z
end My

open PySem PySem.W PyProof.Rows in
set_option maxRecDepth 100000 in
set_option maxHeartbeats 0 in
theorem PySem.Challenge.cw_lastshort_k03_whole_replies_allowed_holds : PySem.Challenge.rw_lastshort_k03_whole_replies_allowed.Holds := by
  w_on; o_law; k_head; (case hw => w_witness2)
  k_fill
  refine My.walk (l := PySem.Challenge.rw_lastshort_k03_whole_replies_allowed) rfl rfl (fun w h Y => PySem.W.kIn_of Y) ?F
  case F =>
    intro w mg fa h KX G hmg
    refine' My.all_mk KX G hmg ?aC ?a1 ?l1 ?c1 ?k1 ?a2 ?l2 ?c2 ?k2 ?a3 ?l3 ?c3 ?k3 ?a4 ?l4 ?c4 ?k4 ?a5 ?l5 ?c5 ?k5 ?a6 ?l6 ?c6 ?k6 ?a7 ?i7 ?l7 ?c7 ?k7 ?a8 ?i8 ?l8 ?c8 ?k8 ?a9 ?i9 ?l9 ?c9 ?k9 ?a10 ?i10 ?l10 ?c10 ?k10 ?a11 ?l11 ?c11 ?k11 ?a12 ?l12 ?c12 ?k12 ?a13 ?l13 ?c13 ?k13 ?a14 ?l14 ?c14 ?k14 ?a15 ?l15 ?c15 ?k15 ?a16 ?l16 ?c16 ?k16 ?a17 ?l17 ?c17 ?k17 ?a18 ?l18 ?c18 ?k18 ?gA ?tA ?gP ?tP ?gE ?tE ?mR ?mI ?pg ?hd ?po ?sa ?mk ?kc ?nA ?nP ?nE ?z_isinstance ?z_int ?z_bool ?z_tuple ?z_str ?z_len ?z_min ?z_max ?z_enumerate ?z_range ?z_abs ?z_divmod ?z_repr ?z_all
    (case aC => k_is)
    (case a1 => k_is)
    (case l1 => k_is)
    (case c1 => k_is)
    (case k1 => k_is)
    (case a2 => k_is)
    (case l2 => k_is)
    (case c2 => k_is)
    (case k2 => k_is)
    (case a3 => k_is)
    (case l3 => k_is)
    (case c3 => k_is)
    (case k3 => k_is)
    (case a4 => k_is)
    (case l4 => k_is)
    (case c4 => k_is)
    (case k4 => k_is)
    (case a5 => k_is)
    (case l5 => k_is)
    (case c5 => k_is)
    (case k5 => k_is)
    (case a6 => k_is)
    (case l6 => k_is)
    (case c6 => k_is)
    (case k6 => k_is)
    (case a7 => k_is)
    (case i7 => k_is)
    (case l7 => k_is)
    (case c7 => k_is)
    (case k7 => k_is)
    (case a8 => k_is)
    (case i8 => k_is)
    (case l8 => k_is)
    (case c8 => k_is)
    (case k8 => k_is)
    (case a9 => k_is)
    (case i9 => k_is)
    (case l9 => k_is)
    (case c9 => k_is)
    (case k9 => k_is)
    (case a10 => k_is)
    (case i10 => k_is)
    (case l10 => k_is)
    (case c10 => k_is)
    (case k10 => k_is)
    (case a11 => k_is)
    (case l11 => k_is)
    (case c11 => k_is)
    (case k11 => k_is)
    (case a12 => k_is)
    (case l12 => k_is)
    (case c12 => k_is)
    (case k12 => k_is)
    (case a13 => k_is)
    (case l13 => k_is)
    (case c13 => k_is)
    (case k13 => k_is)
    (case a14 => k_is)
    (case l14 => k_is)
    (case c14 => k_is)
    (case k14 => k_is)
    (case a15 => k_is)
    (case l15 => k_is)
    (case c15 => k_is)
    (case k15 => k_is)
    (case a16 => k_is)
    (case l16 => k_is)
    (case c16 => k_is)
    (case k16 => k_is)
    (case a17 => k_is)
    (case l17 => k_is)
    (case c17 => k_is)
    (case k17 => k_is)
    (case a18 => k_is)
    (case l18 => k_is)
    (case c18 => k_is)
    (case k18 => k_is)
    (case gA => k_is)
    (case tA => k_is)
    (case gP => k_is)
    (case tP => k_is)
    (case gE => k_is)
    (case tE => k_is)
    (case mR => k_is)
    (case mI => k_is)
    (case pg => k_is)
    (case hd => k_is)
    (case po => k_is)
    (case sa => k_is)
    (case mk => k_is)
    (case kc => k_is)
    (case nA => k_is)
    (case nP => k_is)
    (case nE => k_is)
    (case z_isinstance => k_is)
    (case z_int => k_is)
    (case z_bool => k_is)
    (case z_tuple => k_is)
    (case z_str => k_is)
    (case z_len => k_is)
    (case z_min => k_is)
    (case z_max => k_is)
    (case z_enumerate => k_is)
    (case z_range => k_is)
    (case z_abs => k_is)
    (case z_divmod => k_is)
    (case z_repr => k_is)
    (case z_all => k_is)
