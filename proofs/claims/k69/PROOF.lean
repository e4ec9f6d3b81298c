import PyProof.Rows.All
import Wide.All
import OpenK.AllK
import Wide.FinOn
import HandS.ForMost
import HandS.Codes
import HandS.IsInst
import HandS.TupAny
import HandS.SlotsOwn
import HandS.ExcInit
import HandS.ExcField
import HandS.WordsExc
import KE.KCallOwn
import OpenK.KOps
import HandS.FStr
import HandS.RaiseMore
import PyProof.Rows.ChunkEnd
import HandS.Conv
import HandS.Small
import KE.GoesEnum
import PyProof.ReprReads
import HandS.Walk
import HandS.Comp
import PyProof.ReprRoads
import HandS.Lambda
import HandS.Deep
import HandS.TupMul
import HandS.CallLocal
import HandS.TryMany
import KE.KExcIs
import HandS.ExcIs
import HandS.HeadHook3
import HandS.TryOnly
import HandS.Style
import PySem.Challenge.RW_lastshort_k69_whole_papers_of_faults_jud
set_option Elab.async false
set_option linter.all false
set_option maxRecDepth 100000
set_option maxHeartbeats 8000000
/-! lists of a known length: smaller than a match in the place -/
namespace Ln
theorem len0 {α : Type} {p : List α → Prop} (h : Unit → p []) : ∀ us : List α, us.length = 0 → p us
  | [], _ => h ()
theorem len1 {α : Type} {p : List α → Prop} (h : ∀ a0, p [a0]) : ∀ us : List α, us.length = 1 → p us
  | [a0], _ => h a0
theorem len2 {α : Type} {p : List α → Prop} (h : ∀ a0 a1, p [a0, a1]) : ∀ us : List α, us.length = 2 → p us
  | [a0, a1], _ => h a0 a1
theorem len3 {α : Type} {p : List α → Prop} (h : ∀ a0 a1 a2, p [a0, a1, a2]) : ∀ us : List α, us.length = 3 → p us
  | [a0, a1, a2], _ => h a0 a1 a2
theorem len4 {α : Type} {p : List α → Prop} (h : ∀ a0 a1 a2 a3, p [a0, a1, a2, a3]) : ∀ us : List α, us.length = 4 → p us
  | [a0, a1, a2, a3], _ => h a0 a1 a2 a3
theorem len5 {α : Type} {p : List α → Prop} (h : ∀ a0 a1 a2 a3 a4, p [a0, a1, a2, a3, a4]) : ∀ us : List α, us.length = 5 → p us
  | [a0, a1, a2, a3, a4], _ => h a0 a1 a2 a3 a4
theorem len6 {α : Type} {p : List α → Prop} (h : ∀ a0 a1 a2 a3 a4 a5, p [a0, a1, a2, a3, a4, a5]) : ∀ us : List α, us.length = 6 → p us
  | [a0, a1, a2, a3, a4, a5], _ => h a0 a1 a2 a3 a4 a5
theorem len7 {α : Type} {p : List α → Prop} (h : ∀ a0 a1 a2 a3 a4 a5 a6, p [a0, a1, a2, a3, a4, a5, a6]) : ∀ us : List α, us.length = 7 → p us
  | [a0, a1, a2, a3, a4, a5, a6], _ => h a0 a1 a2 a3 a4 a5 a6
theorem len8 {α : Type} {p : List α → Prop} (h : ∀ a0 a1 a2 a3 a4 a5 a6 a7, p [a0, a1, a2, a3, a4, a5, a6, a7]) : ∀ us : List α, us.length = 8 → p us
  | [a0, a1, a2, a3, a4, a5, a6, a7], _ => h a0 a1 a2 a3 a4 a5 a6 a7
theorem len9 {α : Type} {p : List α → Prop} (h : ∀ a0 a1 a2 a3 a4 a5 a6 a7 a8, p [a0, a1, a2, a3, a4, a5, a6, a7, a8]) : ∀ us : List α, us.length = 9 → p us
  | [a0, a1, a2, a3, a4, a5, a6, a7, a8], _ => h a0 a1 a2 a3 a4 a5 a6 a7 a8
end Ln

/-! the trees of the stages get no twins: their names are taken -/
def PySem.W.Fast.tw17407416133684794998 : Unit := ()
def PySem.W.Fast.tw18284699644869504952 : Unit := ()
def PySem.W.Fast.tw17700108703845560654 : Unit := ()
def PySem.W.Fast.tw13680952533996089133 : Unit := ()
def PySem.W.Fast.tw15638967243977984357 : Unit := ()
def PySem.W.Fast.tw17674004619843674320 : Unit := ()
def PySem.W.Fast.tw12584667541340233114 : Unit := ()
def PySem.W.Fast.tw7133780184893214186 : Unit := ()
def PySem.W.Fast.tw17555019932135174751 : Unit := ()
def PySem.W.Fast.tw7201011210224098252 : Unit := ()
def PySem.W.Fast.tw1111216406793093729 : Unit := ()
def PySem.W.Fast.tw6665337965504786383 : Unit := ()
def PySem.W.Fast.tw9077022132036119492 : Unit := ()
def PySem.W.Fast.tw8418648701437337731 : Unit := ()
def PySem.W.Fast.tw6809115799402541787 : Unit := ()
def PySem.W.Fast.tw17401030826573950621 : Unit := ()
def PySem.W.Fast.tw12426011364773386413 : Unit := ()
def PySem.W.Fast.tw6183649804089475175 : Unit := ()
def PySem.W.Fast.tw15365307266982517935 : Unit := ()
def PySem.W.Fast.tw13712732794456999756 : Unit := ()
def PySem.W.Fast.tw15340458470079251463 : Unit := ()
def PySem.W.Fast.tw13766643356643091732 : Unit := ()
def PySem.W.Fast.tw16269470280857576972 : Unit := ()
def PySem.W.Fast.tw14060371303466992064 : Unit := ()
def PySem.W.Fast.tw4206397025368023291 : Unit := ()
def PySem.W.Fast.tw12141390786008337380 : Unit := ()
def PySem.W.Fast.tw1837933642256413015 : Unit := ()
def PySem.W.Fast.tw15106922066426013987 : Unit := ()
def PySem.W.Fast.tw6370772648438010338 : Unit := ()
def PySem.W.Fast.tw1506748244356378764 : Unit := ()
open PySem PySem.W PyProof.Rows in
open_top Hd69 for PySem.Challenge.rw_lastshort_k69_whole_papers_of_faults_jud

/-! the draws of the law: jar, sip, from -/
namespace My
open PySem L2
def top (i : Nat) : Stmt := PySem.Challenge.pw_lastshort_k69_whole_papers_of_faults_jud.main.body.getD i (.Pass ⟨0, 0, 0, 0⟩)
abbrev sJar : Stmt := top 118
abbrev sSip : Stmt := top 119
abbrev sFrom : Stmt := top 120
/-! ### heaps -/
/-- all but what stands at j is as it was -/
def Off (j : Addr) (H H' : Hp) : Prop := ∀ b o, b ≠ j → H b = some o → H' b = some o
theorem Off.refl {j : Addr} {H : Hp} : Off j H H := fun _ _ _ e => e
theorem Off.trans {j : Addr} {H H1 H2 : Hp} (a : Off j H H1) (b : Off j H1 H2) : Off j H H2 := fun c o n e => b c o n (a c o n e)
theorem Off.new {j p : Addr} {H H1 : Hp} {o : HO} (a : Off j H H1) (n : H1 p = none) : Off j H (upd H1 p o) := fun b u nb e => by
  rw [upd_ne (ne_of_none (a b u nb e) n)]
  exact a b u nb e
theorem Off.put {j : Addr} {H H1 : Hp} {o : HO} (a : Off j H H1) : Off j H (upd H1 j o) := fun b u nb e => by
  rw [upd_ne nb]
  exact a b u nb e
theorem Off.seq {K : PySem.W.Frag} {j a : Addr} {H H' : Hp} {xs : List V} (e : Off j H H') (n : a ≠ j) (h : SqL K H a xs) : SqL K H' a xs := by
  rcases h with (h | ⟨o, h⟩) | h
  · exact .inl (.inl (e _ _ n h))
  · exact .inl (.inr ⟨o, e _ _ n h⟩)
  · exact .inr h
theorem Off.set {K : PySem.W.Frag} {j a : Addr} {H H' : Hp} {xs : List V} (e : Off j H H') (n : a ≠ j) (h : SqT K H a xs) : SqT K H' a xs := by
  rcases h with (h | ⟨o, h⟩) | h
  · exact .inl (.inl (e _ _ n h))
  · exact .inl (.inr ⟨o, e _ _ n h⟩)
  · exact .inr h
theorem Off.same {j : Addr} {H0 H H' : Hp} (e : Off j H H') (s : Same H0 H) (n : H0 j = none) : Same H0 H' := fun b o q => e b o (fun z => by rw [z, n] at q; cases q) (s b o q)
theorem same_upd {H : Hp} {p : Addr} {o : HO} (h : H p = none) : Same H (upd H p o) := fun b x e => by
  rw [upd_ne (ne_of_none e h)]
  exact e
theorem Same.off {j : Addr} {H H' : Hp} (s : Same H H') : Off j H H' := fun b o _ e => s b o e
/-- a jar: three whole numbers -/
def Jar (H : Hp) (j : Addr) : Prop := ∃ a b c : Int, H j = some (.lst [.int a, .int b, .int c])
theorem Jar.new {H : Hp} {j p : Addr} {o : HO} (a : Jar H j) (n : H p = none) : Jar (upd H p o) j := by
  obtain ⟨x, y, z, h⟩ := a
  exact ⟨x, y, z, by rw [upd_ne (ne_of_none h n)]; exact h⟩
theorem Jar.same {H H' : Hp} {j : Addr} (a : Jar H j) (s : Same H H') : Jar H' j := by
  obtain ⟨x, y, z, h⟩ := a
  exact ⟨x, y, z, s _ _ h⟩
/-! ### promises -/
def spSip : Sp := fun vs H Q _ => ∃ (j : Addr) (m : Int), vs = [.ref j, .int m] ∧ Jar H j ∧ 0 < m ∧ m < 1073741824 ∧
  ∀ (H' : Hp) (d : Int), 0 ≤ d → d < m → Off j H H' → Jar H' j → Q (.int d) H'
def spFrom (K : PySem.W.Frag) : Sp := fun vs H Q _ => ∃ (j p : Addr) (xs : List V), vs = [.ref j, .ref p] ∧ Jar H j ∧ p ≠ j ∧ SqL K H p xs ∧ 0 < xs.length ∧ xs.length < 1073741824 ∧
  ∀ (H' : Hp) (i : Nat) (x : V), xs[i]? = some x → Off j H H' → Jar H' j → Q x H'
def spJar (K : PySem.W.Frag) : Sp := fun vs H Q _ => ∃ (a : Addr) (ns : List Int) (k : Nat), vs = [.ref a, .int k] ∧ SqL K H a (ns.map V.int) ∧ ns.length ≤ 63 ∧
  ∀ (H' : Hp) (j : Addr), Same H H' → H j = none → Jar H' j → Q (.ref j) H'
/-- the built-ins of the draws are still the built-ins -/
structure TxtJ (mg : Str → Option Value) : Prop where
  len : mg "len" = none
  int : mg "int" = none
  abs : mg "abs" = none
  divmod : mg "divmod" = none
section
variable {P : Program} {w : World} {K : PySem.W.Frag} {mg : Str → Option Value} {base : Heap}
theorem scSip : FnScope ["_law_jar_here", "_law_many", "_law_digit"] ["_law_jar_here", "_law_many"] (defScope sSip) := ⟨rfl, rfl, rfl, by decide +kernel, rfl, by decide +kernel, by decide +kernel⟩
theorem ok_sip {f : Addr} {fd : FuncData} (F : Fun K "_law_sip" "_law_sip" sSip f fd) (T : TxtJ mg) : FnOk P w K mg base CX0 1 f fd ["_law_jar_here", "_law_many"] spSip := by
  refine F.ok scSip (fun vs H Q E h => ?_) (fun cdv A outer s H vs Q E hr h => ?_)
  · obtain ⟨j, m, rfl, _⟩ := h
    rfl
  · obtain ⟨j, m, rfl, ⟨a, b, c, hj⟩, m0, m1, k⟩ := h
    refine ⟨_, pss_cons (ps_asg (pe_op op_add (pe_ix ix_list (pv 0) pe_int (fun _ _ => rfl)) pe_int) (pg_sub (pv 0) pe_int set_list))
      (pss_cons (ps_if (pt_cmpR op_gt (pe_ix ix_list (pv 0) pe_int (fun _ _ => rfl)) pe_int (nomark _))
        (pss_cons (ps_asg (pe_callB call_divmod (by rfl) T.divmod (by decide +kernel) (pa_cons (pe_callTy call_int1 (by rfl) T.int (by decide +kernel) (pa_cons (pe_ix ix_list (pv 0) pe_int (fun _ _ => rfl)) pa_nil)) (pa_cons (pv 1) pa_nil)))
            (pg_tup (by rfl) (pgs_cons (pg_sub (pv 0) pe_int set_list) (pgs_cons (pg_name (i := 2) scSip.nd rfl (.inl rfl)) pgs_nil))))
          (pss_one (ps_ret (pv 2)))) pss_nil)
      (pss_cons (ps_asg (pe_op op_mod (pe_callTy call_int1 (by rfl) T.int (by decide +kernel) (pa_cons (pe_op op_add (pe_op op_add (pe_op op_mul (pe_ix ix_list (pv 0) pe_int (fun _ _ => rfl)) pe_int) (pe_op op_mul (pe_ix ix_list (pv 0) pe_int (fun _ _ => rfl)) pe_int))
            (pe_op op_mul (pe_op op_fdiv (pe_ix ix_list (pv 0) pe_int (fun _ _ => rfl)) pe_int) pe_int)) pa_nil)) pe_int) (pg_sub (pv 0) pe_int set_list))
      (pss_one (ps_ret (pe_op op_mod (pe_callTy call_int1 (by rfl) T.int (by decide +kernel) (pa_cons (pe_op op_fdiv (pe_ix ix_list (pv 0) pe_int (fun _ _ => rfl)) pe_int) pa_nil)) (pv 1)))))), ?_⟩
    -- jar[2] = jar[2] + 1
    refine ⟨_, rfl, j, _, 2, _, rfl, rfl, SqL.of hj, rfl, _, _, rfl, rfl, _, rfl, j, _, 2, 2, rfl, rfl, hj, rfl, ?_⟩
    -- if jar[0] > 0
    refine ⟨_, rfl, j, _, 0, _, rfl, rfl, SqL.of upd_same, rfl, _, _, rfl, rfl, _, rfl, ?_⟩
    have o1 : Off j H (upd H j (.lst [.int a, .int b, .int (c + 1)])) := Off.put Off.refl
    refine ite2 (fun _ => ?_) (fun _ => ?_)
    · refine ⟨_, rfl, j, _, 0, _, rfl, rfl, SqL.of upd_same, rfl, .inl ⟨_, rfl, _, rfl, a, m, rfl, ⟨m0, m1⟩, fun p np => ?_⟩⟩
      have npj : p ≠ j := fun e => by
        rw [e, upd_same] at np
        cases np
      refine ⟨p, _, rfl, SqT.of upd_same, rfl, _, _, rfl, _, rfl, j, _, 0, 0, rfl, rfl, (by rw [upd_ne npj.symm]; exact upd_same), rfl, _, _, rfl, rfl, ?_⟩
      refine ⟨_, rfl, ?_⟩
      exact k _ _ (Int.emod_nonneg _ (by omega)) (Int.emod_lt_of_pos _ m0) (Off.put (Off.new o1 np)) ⟨_, _, _, upd_same⟩
    · refine ⟨_, rfl, j, _, 1, _, rfl, rfl, SqL.of upd_same, rfl, _, _, rfl, rfl, .inr (by decide), ?_⟩
      refine ⟨_, rfl, j, _, 2, _, rfl, rfl, SqL.of upd_same, rfl, _, _, rfl, rfl, .inr (by decide), _, _, rfl, rfl, ?_⟩
      refine ⟨_, rfl, j, _, 1, _, rfl, rfl, SqL.of upd_same, rfl, _, _, rfl, rfl, ⟨by decide, by decide⟩, _, _, rfl, rfl, .inr (by decide), _, _, rfl, rfl, .inl ⟨_, rfl, _, _, rfl, rfl, (by show (0 : Int) < 1999999927; decide), ?_⟩⟩
      refine ⟨_, rfl, j, _, 1, 1, rfl, rfl, upd_same, rfl, ?_⟩
      refine ⟨_, rfl, j, _, 1, _, rfl, rfl, SqL.of upd_same, rfl, _, _, rfl, rfl, ⟨by decide, by decide⟩, .inl ⟨_, rfl, _, rfl, _, _, rfl, rfl, m0, ?_⟩⟩
      exact k _ _ (Int.emod_nonneg _ (by omega)) (Int.emod_lt_of_pos _ m0) (Off.put o1) ⟨_, _, _, upd_same⟩

/-! ### from -/
structure TxtS (K : PySem.W.Frag) (mg : Str → Option Value) (fS : Addr) : Prop where
  g : mg "_law_sip" = some (.ref fS)
  k : PySem.W.keepIn K (.ref fS) = true
theorem scFrom : FnScope ["_law_jar_here", "_law_things"] ["_law_jar_here", "_law_things"] (defScope sFrom) := ⟨rfl, rfl, rfl, by decide +kernel, rfl, by decide +kernel, by decide +kernel⟩
theorem ok_from {f fS : Addr} {fd fdS : FuncData} (F : Fun K "_law_from" "_law_from" sFrom f fd) (T : TxtJ mg) (S : TxtS K mg fS) (FS : Fun K "_law_sip" "_law_sip" sSip fS fdS) (bS : Binds K fdS ["_law_jar_here", "_law_many"] []) :
    FnOk P w K mg base CX0 2 f fd ["_law_jar_here", "_law_things"] (spFrom K) := by
  have GS : FnOk P w K mg base CX0 1 fS fdS ["_law_jar_here", "_law_many"] spSip := ok_sip FS T
  refine F.ok scFrom (fun vs H Q E h => ?_) (fun cdv A outer s H vs Q E hr h => ?_)
  · obtain ⟨j, p, xs, rfl, _⟩ := h
    rfl
  · obtain ⟨j, p, xs, rfl, hJ, npj, hS, l0, l1, k⟩ := h
    refine ⟨_, pss_one (ps_ret (pe_ix ix_list (pv 1) (pe_call GS hr rfl S.g S.k bS .nil pass0 (pa_cons (pv 0) (pa_cons (pe_callB call_len_seq (by rfl) T.len PySem.boot_len (pa_cons (pv 1) pa_nil)) pa_nil))) (fun _ _ => rfl))), ?_⟩
    refine ⟨_, rfl, _, rfl, _, rfl, p, xs, rfl, .inl hS, j, _, rfl, hJ, by omega, by omega, fun H' d d0 d1 o J => ?_⟩
    obtain ⟨n, rfl⟩ := Int.eq_ofNat_of_zero_le d0
    have hn : n < xs.length := by omega
    exact ⟨p, xs, _, xs[n], rfl, rfl, o.seq npj hS, atI_nat (List.getElem?_eq_getElem hn), k H' n _ (List.getElem?_eq_getElem hn) o J⟩
/-! ### jar -/
theorem scJar : FnScope ["_law_script", "_law_k", "_law_own", "_law_mixed", "_law_entry"] ["_law_script", "_law_k"] (defScope sJar) := ⟨rfl, rfl, rfl, by decide +kernel, rfl, by decide +kernel, by decide +kernel⟩
theorem int_of_map {ns : List Int} {i : Nat} {y : V} (h : (ns.map V.int)[i]? = some y) : ∃ u, y = V.int u := by
  rw [List.getElem?_map] at h
  cases e : ns[i]? with
  | none =>
    rw [e] at h
    cases h
  | some u =>
    rw [e] at h
    exact ⟨u, (Option.some.inj h).symm⟩
theorem cut_map (ns : List Int) (lo hi : Option Int) : ∃ ms : List Int, cutV (ns.map V.int) lo hi = ms.map V.int :=
  ⟨(ns.drop (HT.sIx (ns.map V.int).length 0 lo)).take (HT.sIx (ns.map V.int).length (ns.map V.int).length hi - HT.sIx (ns.map V.int).length 0 lo), by
    unfold cutV
    rw [List.map_take, List.map_drop]⟩
theorem ok_jar {f : Addr} {fd : FuncData} (F : Fun K "_law_jar" "_law_jar" sJar f fd) (T : TxtJ mg) : FnOk P w K mg base CX0 1 f fd ["_law_script", "_law_k"] (spJar K) := by
  refine F.ok scJar (fun vs H Q E h => ?_) (fun cdv A outer s H vs Q E hr h => ?_)
  · obtain ⟨a, ns, k, rfl, _⟩ := h
    rfl
  · obtain ⟨a, ns, k, rfl, hS, hl, q⟩ := h
    refine ⟨_, C8.pss_cut (ps_set (i := 2) scJar.nd rfl (.inl rfl) (pe_ifExp (pt_cmpR op_lt (pv 1) (pe_callB call_len_seq (by rfl) T.len PySem.boot_len (pa_cons (pv 0) pa_nil)) (nomark _))
          (pe_callTy call_int1 (by rfl) T.int (by decide +kernel) (pa_cons (pe_ix ix_list (pv 0) (pv 1) (fun _ _ => rfl)) pa_nil)) (pe_op op_add (pe_op op_mul pe_int (pv 1)) pe_int)))
      (pss_cons (ps_set (i := 3) scJar.nd rfl (.inl rfl) (pe_op op_add pe_int (pe_op op_mul pe_int (pv 1))))
      (pss_cons (ps_for PassesOwn.never rfl (pi_list (pe_slice sl_list (pv 0) po_none (po_some pe_int))) (pg_name (i := 4) scJar.nd rfl (.inl rfl))
        (pss_one (ps_set (i := 3) scJar.nd rfl (.inl rfl) (pe_op op_mod (pe_callTy call_int1 (by rfl) T.int (by decide +kernel) (pa_cons (pe_op op_add (pe_op op_mul (pv 3) pe_int) (pe_op op_mod (pe_callTy call_int1 (by rfl) T.int (by decide +kernel) (pa_cons (pv 4) pa_nil)) pe_int)) pa_nil)) pe_int))))
      (pss_one (ps_ret (pe_lst (pa_cons (pe_ifExp (PW.pt (pw_or (pt_cmpR op_lt (pv 2) pe_int (nomark _)) (pw_or1 (pt_cmpR op_ge (pv 2) (pe_op op_pow pe_int pe_int) (nomark _))))) (pe_callB call_abs (by rfl) T.abs (by decide +kernel) (pa_cons (pv 2) pa_nil)) pe_int)
        (pa_cons (pe_op op_mod (pe_callTy call_int1 (by rfl) T.int (by decide +kernel) (pa_cons (pe_op op_add (pe_op op_mul (pv 3) pe_int) (pe_op op_mod (pv 2) pe_int)) pa_nil)) pe_int) (pa_cons pe_int pa_nil)))))))), ?_⟩
    refine ⟨fun σ H' => H = H' ∧ ∃ own : Int, σ = [some (.ref a), some (.int k), some (.int own), none, none], ?_, ?_⟩
    · refine ⟨_, rfl, _, rfl, a, _, rfl, .inl hS, _, _, rfl, rfl, _, rfl, ?_⟩
      refine ite2 (fun c => ?_) (fun c => ?_)
      · have hk : k < ns.length := by
          have c' := of_decide_eq_true c
          rw [List.length_map] at c'
          omega
        exact ⟨_, rfl, _, rfl, a, _, _, .int ns[k], rfl, rfl, hS, atI_nat (by rw [List.getElem?_map, List.getElem?_eq_getElem hk]; rfl), .inl ⟨_, rfl, rfl, _, rfl⟩⟩
      · exact ⟨_, rfl, _, _, rfl, rfl, .inl (by decide), _, _, rfl, rfl, rfl, _, rfl⟩
    · rintro _ _ ⟨rfl, own, rfl⟩
      refine ⟨_, rfl, _, _, rfl, rfl, .inl (by decide), _, _, rfl, rfl, ?_⟩
      refine ⟨_, rfl, 13, rfl, a, _, rfl, hS, fun p np => ?_⟩
      obtain ⟨ms, ems⟩ := cut_map ns none (some 13)
      rw [ems]
      refine ⟨p, rfl, ⟨_, SqL.of upd_same⟩, for_list (K := K) (a := p) (xs := ms.map V.int) (fun i σ H' => ∃ (mx : Int) (v : Option V), σ = [some (.ref a), some (.int k), some (.int own), some (.int mx), v] ∧ H' = upd H p (.lst (ms.map V.int)))
        ⟨_, none, rfl, rfl⟩ (fun i σ H' _ ⟨_, _, _, e⟩ => by rw [e]; exact SqL.of upd_same) ?_ ?_⟩
      · rintro i y σ H' hi ⟨mx, v, rfl, rfl⟩
        obtain ⟨u, rfl⟩ := int_of_map hi
        refine ⟨_, rfl, _, _, rfl, rfl, .inr (by decide), ?_⟩
        refine ⟨_, rfl, .inl ⟨_, rfl, _, _, rfl, rfl, (by show (0 : Int) < 1999999927; decide), _, _, rfl, rfl, .inl ⟨_, rfl, _, _, rfl, rfl, (by show (0 : Int) < 1999999927; decide), ?_⟩⟩⟩
        exact ⟨_, _, rfl, rfl⟩
      · rintro σ H' ⟨mx, v, rfl, rfl⟩
        have fin : ∀ (x : Int), tCons (tOp (rI (fun x j => 0 < j) fun i j => V.int (i % j)) (tCB (fun xs H Q => (∃ i, xs = [V.int i] ∧ Q (V.int i) H) ∨ ∃ k, xs = [V.bl k] ∧ Q (V.int (if k = true then 1 else 0)) H)
            (tCons (tOp (rI0 fun i j => V.int (i + j)) (tOp (rI CMul fun i j => V.int (i * j)) (tVar 3) (tC (V.int 5))) (tOp (rI (fun x j => 0 < j) fun i j => V.int (i % j)) (tVar 2) (tC (V.int 1999999927)))) tNil)) (tC (V.int 1999999927)))
          (tCons (tC (V.int 0)) tNil) [some (.ref a), some (.int k), some (.int own), some (.int mx), v] (upd H p (.lst (ms.map V.int))) (fun xs H1 => (V.int x :: xs).length ≤ sizeLine ∧ ∀ p, H1 p = none → Q (.ref p) (upd H1 p (.lst (V.int x :: xs)))) := by
          intro x
          refine ⟨_, rfl, _, _, rfl, rfl, .inr (by decide), _, rfl, _, _, rfl, rfl, (by show (0 : Int) < 1999999927; decide), _, _, rfl, rfl, .inl ⟨_, rfl, _, _, rfl, rfl, (by show (0 : Int) < 1999999927; decide), ?_⟩⟩
          refine ⟨(by show 3 ≤ sizeLine; decide), fun jj nj => ?_⟩
          exact q _ jj (Same.trans (same_upd np) (same_upd nj)) ((same_upd np).free nj) ⟨_, _, _, upd_same⟩
        refine ⟨_, rfl, _, _, rfl, rfl, _, rfl, ?_⟩
        refine ite2 (fun _ => ?_) (fun _ => ?_)
        · refine iteT ?_
          exact ⟨_, rfl, _, rfl, fin _⟩
        · refine ⟨_, rfl, _, _, rfl, rfl, ⟨by decide, by decide, by decide⟩, _, _, rfl, rfl, _, rfl, ?_⟩
          refine ite2 (fun _ => ?_) (fun _ => ?_)
          · exact ⟨_, rfl, _, rfl, fin _⟩
          · exact fin _
end
end My

/-! what every proof about a program of several defs wants -/
namespace Cm
open PySem PySem.Spec PyProof.Rows L2
/-- a def of the module -/
structure Df (K : PySem.W.Frag) (mg : Str → Option Value) (x : Str) (st : Stmt) (ps : List Str) where
  f : Addr
  fd : FuncData
  F : Fun K x x st f fd
  b : Binds K fd ps []
  g : mg x = some (.ref f)
  k : PySem.W.keepIn K (.ref f) = true
/-- a method of the class at C -/
structure Mt (K : PySem.W.Frag) (C : Addr) (x q : Str) (st : Stmt) (ps : List Str) where
  f : Addr
  fd : FuncData
  F : Fun K x q st f fd
  b : Binds K fd ps []
  m : Meth K C x f
theorem dI (a b : Int) : decide (V.int a = V.int b) = decide (a = b) := decide_eq_decide.mpr ⟨fun z => by cases z; rfl, fun z => by rw [z]⟩
theorem dS (a b : Str) : decide (V.str a = V.str b) = decide (a = b) := decide_eq_decide.mpr ⟨fun z => by cases z; rfl, fun z => by rw [z]⟩
theorem dB (a b : Bool) : decide (V.bl a = V.bl b) = decide (a = b) := decide_eq_decide.mpr ⟨fun z => by cases z; rfl, fun z => by rw [z]⟩
theorem putF_len (f : Str) (v : V) : ∀ fs : List (Str × V), (putF f v fs).length ≤ fs.length + 1
  | [] => Nat.le_refl _
  | (g, x) :: r => by
    unfold putF
    by_cases h : g = f
    · rw [if_pos h]
      exact Nat.le_succ _
    · rw [if_neg h]
      exact Nat.succ_le_succ (putF_len f v r)
theorem szl {n : Nat} (h : n ≤ 1000) : n ≤ sizeLine := Nat.le_of_lt (small1000 h)
theorem szM {n : Nat} (h : n ≤ 1000000) : n < sizeLine := Nat.lt_of_le_of_lt h (by decide)
theorem Same.set {K : PySem.W.Frag} {H H' : Hp} {a : Addr} {xs : List V} (e : Same H H') (h : SqT K H a xs) : SqT K H' a xs := by
  rcases h with (h | ⟨o, h⟩) | h
  · exact .inl (.inl (e _ _ h))
  · exact .inl (.inr ⟨o, e _ _ h⟩)
  · exact .inr h
theorem same_new {H : Hp} {p : Addr} {o : HO} (h : H p = none) : Same H (upd H p o) := fun b x e => by
  rw [upd_ne (ne_of_none e h)]
  exact e
theorem pass_none {P : Program} {w : World} {X : Cx} : Passes (L2.CX P w) X (fun _ _ _ => False) := fun pins σ H s e s2 I h => by
  obtain ⟨_, _, _, _, _, _, _, _, _, _, _, _, h⟩ := h
  exact h.elim
/-! ### len and truth of an instance with an own __len__ -/
section
variable {X : Cx} {C g : Addr} {n : Nat} {sp : Sp}
theorem inst_of {pins : List (Addr × Obj)} {σ : L2.St} {H : Hp} {s : Shared} {a dx : Addr} {fs : List (Str × V)} (I : Inv X pins σ H s) (e : H a = some (.ins C dx fs)) : ∃ (ox : Obj) (od : Option Obj), PySem.W.InstAt s.heap a ox C od := by
  obtain ⟨mA, O, _⟩ := ins_get I.hok e
  obtain ⟨od, J, _⟩ := O.look
  exact ⟨_, _, J⟩
def rLenO (C : Addr) (sp : Sp) : List V → Hp → VK → Prop := fun xs H Q => ∃ (a dx : Addr) (fs : List (Str × V)), xs = [.ref a] ∧ H a = some (.ins C dx fs) ∧ sp [.ref a] H (fun v H2 => ∃ k : Nat, v = .int k ∧ k ≤ 1000000 ∧ Q (.int k) H2) fun _ _ _ => False
theorem call_lenO (hs : PySem.W.findIn X.K (.ref C) "__len__" = some (some (.ref g))) (hf : PySem.W.isFn X.K (.ref g) = true) (F : FnR X.prog X.w X.K X.mg X.base CX0 n g sp) (hr : Room (n + 1) X.A) : CallR X (.builtin "len") (rLenO C sp) := by
  intro pins s σ H xs us Q I r h
  obtain ⟨a, dx, fs, rfl, ha, q⟩ := h
  obtain ⟨u, rfl, ru⟩ := vals1 r
  cases (show u = Value.ref a from ru)
  obtain ⟨ox, od, J⟩ := inst_of I ha
  obtain ⟨m, fr⟩ := I.fr
  refine PySem.W.len_K fr I.ok.mod.kin J hs hf ?_
  refine wpAny_mono (wpAny_call (SlX.run_at (us := [.ref a]) (ws := [.ref a]) F hr.in1 I.env0.in1 pass0 I (.cons rfl .nil) q)) (fun z s2 hz => ?_) fun _ _ e => e
  obtain ⟨z2, H2, I2, rz, k, rfl, hk, qz⟩ := hz
  obtain ⟨tk, rfl⟩ := (show ∃ tk, z = Value.int k tk from rz)
  exact ⟨⟨by omega, by omega⟩, .int k, H2, I2.tok _, ⟨_, rfl⟩, qz⟩
end
/-! ### bool of an instance with an own __len__ -/
section
variable {prog : Program} {w : World} {A : Around} {E : Value → Shared → Prop} {s : Shared} {K : PySem.W.Frag} {x C f : Addr} {ox : Obj} {od : Option Obj}
theorem len_bodyK {Q : Value → Shared → Prop} (X : K.In s.heap) (I : PySem.W.InstAt s.heap x ox C od) (hs : PySem.W.findIn K (.ref C) "__len__" = some (some (.ref f))) (hf : PySem.W.isFn K (.ref f) = true)
    (h : wpAny (model prog w) A (call (.ref f) [.ref x]) (PySem.W.LenBack Q) E s) : wpAny (model prog w) A (Builtin.«len» ⟨[.ref x], []⟩) (fun fin s' => ∃ r, fin = .done (.ret r) ∧ Q r s') E s := by
  unfold Builtin.«len»
  refine wpAny_bind (m := oneArg "len" _) (wpAny_pure ?_)
  refine wpAny_bind (m := callSpecial? (.ref x) (Str.ofString "__len__")) (PySem.W.special_fn X I hs (beq_iff_eq.mp hf) (wpAny_mono h (fun r s' hr => ?_) fun _ _ y => y))
  cases r <;> first | exact hr.elim | skip
  rename_i n u
  obtain ⟨⟨h0, h1⟩, hq⟩ := hr
  refine wpAny_bind (wpAny_holding (wpAny_pure ?_))
  refine wpAny_bind (wpAny_letGo ?_)
  show wpAny _ _ (if n < 0 then _ else _) _ _ _
  rw [if_neg (by omega)]
  show wpAny _ _ (if n ≥ 2 ^ 63 then _ else _) _ _ _
  rw [if_neg (by omega)]
  exact wpAny_bind (wpAny_mkInt (wpAny_pure ⟨_, rfl, hq⟩))
theorem truthy_KL {Q : Bool → Shared → Prop} (X : K.In s.heap) (I : PySem.W.InstAt s.heap x ox C od) (hb : PySem.W.findIn K (.ref C) "__bool__" = some none) (hl : PySem.W.findIn K (.ref C) "__len__" = some (some (.ref f))) (hf : PySem.W.isFn K (.ref f) = true)
    (h : wpAny (model prog w) A.in1 (call (.ref f) [.ref x]) (PySem.W.LenBack fun v s' => ∃ n t, v = .int n t ∧ Q (n != 0) s') E s) : wpAny (model prog w) A (truthy (.ref x)) Q E s := by
  have key : wpAny (model prog w) A (runValue (.builtin "len" ⟨[.ref x], []⟩)) (fun r s' => ∃ n t, r = .int n t ∧ Q (n != 0) s') E s := by
    refine wpAny_runValue (codeAny_builtin entry_len ?_)
    rw [Around.under_plainId plain_len _]
    exact wpAny_mono (len_bodyK X I hl hf h) (fun fin s' h' => by obtain ⟨r, rfl, hq⟩ := h'; exact hq) fun _ _ e => e
  unfold truthy
  refine wpAny_bind (m := callSpecial? (.ref x) (Str.ofString "__bool__")) (wpAny_bind (wpAny_bind (I.type.here ((PySem.W.looks_findIn X hb).here (wpAny_pure ?_)))))
  refine wpAny_bind (wpAny_bind (I.type.here ((PySem.W.looks_findIn X hl).here ?_)))
  exact wpAny_bind (wpAny_mono key (fun r s' h' => by obtain ⟨n, t, rfl, hq⟩ := h'; exact wpAny_pure hq) fun _ _ e => e)
theorem bool_KL {Q : Value → Shared → Prop} (X : K.In s.heap) (I : PySem.W.InstAt s.heap x ox C od) (hb : PySem.W.findIn K (.ref C) "__bool__" = some none) (hl : PySem.W.findIn K (.ref C) "__len__" = some (some (.ref f))) (hf : PySem.W.isFn K (.ref f) = true)
    (h : wpAny (model prog w) A.in1.in1.in1 (call (.ref f) [.ref x]) (PySem.W.LenBack fun v s' => ∃ n t, v = .int n t ∧ Q (.bool (n != 0)) s') E s) : wpAny (model prog w) A (call (.type "bool") [.ref x]) Q E s := by
  refine callType_codes (T := "bool") (Bi := Builtin.«object.__init__») (Q₁ := fun r s₁ => ∃ b, r = .bool b ∧ Q r s₁) PySem.F.called_bool (PySem.F.typeCall_bool_1 _) PySem.F.entry_object_init ?_ ?_
  · refine codeAny_of_tree ?_
    show wpAny _ A.in1.in1 (do checkBuiltinCall "bool.__new__" ⟨[.type "bool", .ref x], []⟩; again (.builtin "bool.__new__" ⟨[.type "bool", .ref x], []⟩)) _ _ s
    refine wpAny_bind (wpAny_of_eq (PySem.F.newCall_bool_1 _) (wpAny_pure ⟨plainId_quiet (by decide +kernel) _, codeAny_builtin PySem.F.entry_bool_new ?_⟩))
    rw [Around.under_plainId (by decide +kernel) _]
    have f1 := PySem.F.conv_sub_bool
    have key : wpAny (model prog w) A.in1.in1 (truthy (.ref x)) (fun b s1 => Q (.bool b) s1) E s := truthy_KL X I hb hl hf (wpAny_mono h (fun v s1 hv => by
      cases v <;> first | exact hv.elim | skip
      obtain ⟨h01, n, t, e, hq⟩ := hv
      cases e
      exact ⟨h01, _, _, rfl, hq⟩) fun _ _ z => z)
    unfold Builtin.«bool.__new__»
    show wpAny _ _ (isType (.type "bool") >>= _) _ _ s
    refine wpAny_bind (wpAny_pure ?_)
    refine wpAny_bind (wpAny_of_eq f1 ?_)
    refine wpAny_bind (wpAny_pure ?_)
    exact wpAny_bind (wpAny_mono key (fun b s1 hb1 => wpAny_pure ⟨_, rfl, hb1⟩) fun _ _ z => z)
  · rintro obj s₁ ⟨b, rfl, hq⟩
    exact ⟨rfl, PySem.F.args_object_init_2 _ _, object_init_meets PySem.F.called_bool.init.lookup PySem.F.called_bool.made (by decide) prog w A.in1 _ s₁ ⟨rfl, rfl, hq⟩⟩
end
section
variable {X : Cx} {C g : Addr} {n : Nat} {sp : Sp}
def rBoolL (C : Addr) (sp : Sp) : List V → Hp → VK → Prop := fun xs H Q => ∃ (a dx : Addr) (fs : List (Str × V)), xs = [.ref a] ∧ H a = some (.ins C dx fs) ∧ sp [.ref a] H (fun v H2 => ∃ k : Nat, v = .int k ∧ k ≤ 1000000 ∧ Q (.bl ((k : Int) != 0)) H2) fun _ _ _ => False
theorem call_boolLO (hb : PySem.W.findIn X.K (.ref C) "__bool__" = some none) (hs : PySem.W.findIn X.K (.ref C) "__len__" = some (some (.ref g))) (hf : PySem.W.isFn X.K (.ref g) = true) (F : FnR X.prog X.w X.K X.mg X.base CX0 n g sp) (hr : Room (n + 3) X.A) : CallR X (.type "bool") (rBoolL C sp) := by
  intro pins s σ H xs us Q I r h
  obtain ⟨a, dx, fs, rfl, ha, q⟩ := h
  obtain ⟨u, rfl, ru⟩ := vals1 r
  cases (show u = Value.ref a from ru)
  obtain ⟨ox, od, J⟩ := inst_of I ha
  have hr2 : Room (n + 2) X.A.in1 := hr.in1
  have hr1 : Room (n + 1) X.A.in1.in1 := hr2.in1
  refine bool_KL I.kIn J hb hs hf ?_
  refine wpAny_mono (wpAny_call (SlX.run_at (us := [.ref a]) (ws := [.ref a]) F hr1.in1 I.env0.in1.in1.in1 pass0 I (.cons rfl .nil) q)) (fun z s2 hz => ?_) fun _ _ e => e
  obtain ⟨z2, H2, I2, rz, k, rfl, hk, qz⟩ := hz
  obtain ⟨tk, rfl⟩ := (show ∃ tk, z = Value.int k tk from rz)
  exact ⟨⟨by omega, by omega⟩, _, _, rfl, .bl _, H2, I2.tok _, rfl, qz⟩
end
/-! ### tuples cut and put together -/
theorem cut_to (xs : List V) (k : Nat) (h : k ≤ xs.length) : cutV xs none (some (k : Int)) = xs.take k := by
  unfold cutV
  rw [HT.sIx_none, HT.sIx_nat, Nat.min_eq_left h]
  rfl
theorem cut_from (xs : List V) (k : Nat) : cutV xs (some (k : Int)) none = xs.drop k := by
  unfold cutV
  rw [HT.sIx_none, HT.sIx_nat]
  by_cases h : k ≤ xs.length
  · rw [Nat.min_eq_left h]
    exact List.take_of_length_le (by rw [List.length_drop]; omega)
  · rw [Nat.min_eq_right (by omega), List.drop_length, List.drop_eq_nil_of_le (by omega)]
    simp
section
variable {X : Cx}
def rSlS (K : PySem.W.Frag) : V → Option Int → Option Int → Hp → VK → Prop := fun x lo hi H Q => ∃ a xs, x = .ref a ∧ SqT K H a xs ∧ ∀ (H' : Hp) (q : Addr), Same H H' → SqT K H' q (cutV xs lo hi) → Q (.ref q) H'
theorem sl_tupS : SlR X (rSlS X.K) := by
  intro pins s σ H x v vl vu lo hi sl Q I rx hs pl pu h
  obtain ⟨a, xs, rfl, hx, q⟩ := h
  refine sl_tupA pins s σ H _ v vl vu lo hi sl Q I rx hs pl pu ⟨a, xs, rfl, hx, fun z => ?_, fun _ p np => q _ p (same_new np) (SqT.of upd_same)⟩
  refine q H a (Same.refl _) ?_
  have e : cutV xs lo hi = xs := by
    unfold cutV
    rw [z.1, z.2]
    simp
  rw [e]
  exact hx
def rCatS (K : PySem.W.Frag) : R2 := fun x y H Q => ∃ a b xs ys, x = .ref a ∧ y = .ref b ∧ SqT K H a xs ∧ SqT K H b ys ∧ xs.length + ys.length ≤ sizeLine ∧ ∀ (H' : Hp) (q : Addr), Same H H' → SqT K H' q (xs ++ ys) → Q (.ref q) H'
theorem op_catS : OpR X (binaryOp .Add) (rCatS X.K) := by
  intro pins s σ H x y v u Q I rx ry h
  obtain ⟨a, b, xs, ys, rfl, rfl, ha, hb, hz, q⟩ := h
  refine op_catA pins s σ H _ _ v u Q I rx ry ⟨a, b, xs, ys, rfl, rfl, ha, hb, hz, fun z => ?_, fun _ z => ?_, fun _ _ p np => q _ p (same_new np) (SqT.of upd_same)⟩
  · refine q H b (Same.refl _) ?_
    rw [z]
    exact hb
  · refine q H a (Same.refl _) ?_
    rw [z, List.append_nil]
    exact ha
end
/-! ### a reading may be asked for more -/
section
variable {X : Cx} {e : Expr} {es : List Expr} {st : Stmt} {sts : List Stmt}
theorem pe_imp {t t' : TE} (h : PE X e t) (k : ∀ σ H Q, t' σ H Q → t σ H Q) : PE X e t' := ⟨fun pins s σ H Q I q => h.run pins s σ H Q I (k σ H Q q)⟩
theorem pa_imp {t t' : TA} (h : PA X es t) (k : ∀ σ H Q, t' σ H Q → t σ H Q) : PA X es t' := ⟨fun pos pins s σ H Q I q => h.run pos pins s σ H Q I (k σ H Q q)⟩
theorem pt_imp {t t' : TT} (h : PT X e t) (k : ∀ σ H Q, t' σ H Q → t σ H Q) : PT X e t' := ⟨fun pins s σ H Q I q => h.run pins s σ H Q I (k σ H Q q)⟩
theorem ps_imp {t t' : TS} (h : PS X st t) (k : ∀ D σ H, t' D σ H → t D σ H) : PS X st t' := ⟨fun pins s σ H D I q => h.run pins s σ H D I (k D σ H q)⟩
theorem pss_imp {t t' : TS} (h : PSs X sts t) (k : ∀ D σ H, t' D σ H → t D σ H) : PSs X sts t' := ⟨fun pins s σ H D I q => h.run pins s σ H D I (k D σ H q)⟩
end
theorem hu64 {A : Around} {k : Nat} (hr : Room k A) : A.units + 64 < cLine := by
  have := hr.un
  omega
/-! ### the same, for tuples that are tracked -/
section
variable {X : Cx}
def rSlH : V → Option Int → Option Int → Hp → VK → Prop := fun x lo hi H Q => ∃ a xs, x = .ref a ∧ H a = some (.tup xs) ∧ ∀ (H' : Hp) (q : Addr), Same H H' → H' q = some (.tup (cutV xs lo hi)) → Q (.ref q) H'
theorem sl_tupH : SlR X rSlH := by
  intro pins s σ H x v vl vu lo hi sl Q I rx hs pl pu h
  obtain ⟨a, xs, rfl, hx, q⟩ := h
  refine sl_tupA pins s σ H _ v vl vu lo hi sl Q I rx hs pl pu ⟨a, xs, rfl, SqT.of hx, fun z => ?_, fun _ p np => q _ p (same_new np) upd_same⟩
  refine q H a (Same.refl _) ?_
  have e : cutV xs lo hi = xs := by
    unfold cutV
    rw [z.1, z.2]
    simp
  rw [e]
  exact hx
def rCatH : R2 := fun x y H Q => ∃ a b xs ys, x = .ref a ∧ y = .ref b ∧ H a = some (.tup xs) ∧ H b = some (.tup ys) ∧ xs.length + ys.length ≤ sizeLine ∧ ∀ (H' : Hp) (q : Addr), Same H H' → H' q = some (.tup (xs ++ ys)) → Q (.ref q) H'
theorem op_catH : OpR X (binaryOp .Add) rCatH := by
  intro pins s σ H x y v u Q I rx ry h
  obtain ⟨a, b, xs, ys, rfl, rfl, ha, hb, hz, q⟩ := h
  refine op_catA pins s σ H _ _ v u Q I rx ry ⟨a, b, xs, ys, rfl, rfl, SqT.of ha, SqT.of hb, hz, fun z => ?_, fun _ z => ?_, fun _ _ p np => q _ p (same_new np) upd_same⟩
  · refine q H b (Same.refl _) ?_
    rw [z]
    exact hb
  · refine q H a (Same.refl _) ?_
    rw [z, List.append_nil]
    exact ha
end
theorem cut_mid (xs : List V) (a b : Nat) (h1 : a ≤ b) (h2 : b ≤ xs.length) : cutV xs (some (a : Int)) (some (b : Int)) = (xs.drop a).take (b - a) := by
  unfold cutV
  rw [HT.sIx_nat, HT.sIx_nat, Nat.min_eq_left h2, Nat.min_eq_left (by omega)]
end Cm

/-! texts of loops: what their words are, and when they are right -/
namespace LM
open PySem L2 TL
def tests : List Str := ["empty", "some", "short", "full", "told", "open", "rest", "bare"]
def rsteps : List Str := ["add", "hand", "cut", "flush", "stop", "again"]
def esteps : List Str := ["hand", "cut", "flush"]
def wordsR (t : Str) : List Str := Txt.split (Txt.partition t " | ").1 " "
def wordsE (t : Str) : List Str := if (Txt.partition t " | ").2.1.length != 0 then Txt.split (Txt.partition t " | ").2.2 " " else []
def orderOf (w : Str) : Str × Str := if (Txt.partition w ":").2.1.length != 0 then ((Txt.partition w ":").1, (Txt.partition w ":").2.2) else ("", w)
def isWord (w : Str) (ss : List Str) : Bool := if (Txt.partition w ":").2.1.length != 0 then decide ((Txt.partition w ":").1 ∈ tests) && decide ((Txt.partition w ":").2.2 ∈ ss) else decide (w ∈ ss)
def areWords (ws ss : List Str) : Bool := ws.all fun w => isWord w ss
def isAdd (w : Str) : Bool := decide ((orderOf w).2 = "add")
def isRound (ws : List Str) : Bool := decide (ws.head? = some "ask") && (decide (ws.length ≤ 12) && (decide ((ws.filter isAdd).length ≤ 1) && areWords ws.tail rsteps))
def isEnding (ws : List Str) : Bool := decide (ws.length ≤ 6) && areWords ws esteps
def goodText (t : Str) : Bool := isRound (wordsR t) && isEnding (wordsE t)
def svs (ws : List Str) : List V := ws.map V.str
theorem svs_flat : ∀ ws : List Str, (svs ws).all flatV = true
  | [] => rfl
  | _ :: r => svs_flat r
theorem inV_svs (w : Str) : ∀ ws : List Str, inV (.str w) (svs ws) = decide (w ∈ ws)
  | [] => by simp [inV, svs]
  | x :: r => by
    have ih := inV_svs w r
    show (eqV (.str x) (.str w) || inV (.str w) (svs r)) = _
    rw [ih]
    show ((x == w) || decide (w ∈ r)) = _
    by_cases h : x = w
    · subst h
      simp
    · have h2 : (x == w) = false := by
        cases hh : (x == w) with
        | false => rfl
        | true => exact absurd (eq_of_beq hh) h
      rw [h2, Bool.false_or]
      refine decide_eq_decide.mpr ⟨fun z => List.mem_cons_of_mem _ z, fun z => ?_⟩
      rcases List.mem_cons.mp z with z | z
      · exact absurd z.symm h
      · exact z
theorem split_ne (x y : Str) : Txt.split x y ≠ [] := by
  unfold Txt.split
  split
  · simp
  · split
    · simp
    · rw [PySem.StrLaws.partsBetween_eq]
      cases Builtin.Str.occurrences x y 0 x.length (x.length + 1) <;> simp [PySem.StrLaws.partsFrom]
/-! ### drawn words -/
/-- a step of these, or a test before it -/
def Wd (ss : List Str) (w : Str) : Prop := ∃ s ∈ ss, w = s ∨ ∃ t ∈ tests, w = t ++ (":" : Str) ++ s
def allWd (ss : List Str) : List Str := ss ++ (tests.map fun t : Str => ss.map fun s : Str => t ++ (":" : Str) ++ s).flatten
theorem Wd.mem {ss : List Str} {w : Str} (h : Wd ss w) : w ∈ allWd ss := by
  obtain ⟨s, hs, rfl | ⟨t, ht, rfl⟩⟩ := h
  · exact List.mem_append.mpr (.inl hs)
  · exact List.mem_append.mpr (.inr (List.mem_flatten.mpr ⟨_, List.mem_map.mpr ⟨t, ht, rfl⟩, List.mem_map.mpr ⟨s, hs, rfl⟩⟩))
theorem Wd.mono {ss zs : List Str} {w : Str} (f : ∀ s ∈ ss, s ∈ zs) (h : Wd ss w) : Wd zs w := let ⟨s, hs, q⟩ := h; ⟨s, f s hs, q⟩
/-- what is known of a word -/
def wdOk (w : Str) : Bool := isWord w rsteps && (decide (32 ∉ tl w) && (decide (124 ∉ tl w) && decide (w.length ≤ 11)))
theorem wd_ok : ∀ w ∈ allWd rsteps, wdOk w = true := by decide +kernel
theorem wd_end : ∀ w ∈ allWd esteps, isWord w esteps = true := by decide +kernel
theorem wd_noadd : ∀ w ∈ allWd ["hand", "cut", "flush", "stop", "again"], isAdd w = false := by decide +kernel
/-! ### lines -/
def line (B E : List Str) : Str := if E = [] then Txt.join " " B else Txt.join " " (B ++ [("|" : Str)] ++ E)
def textOf (B E : List Str) : Str := if E = [] then Txt.join " " B else Txt.join " " B ++ " | " ++ Txt.join " " E
/-- no space and no bar is in it -/
def Fre (w : Str) : Prop := 32 ∉ tl w ∧ 124 ∉ tl w
theorem tlSp : tl (" " : Str) = [32] := by decide +kernel
theorem tlBar : tl (" | " : Str) = [32, 124, 32] := by decide +kernel
theorem tlB1 : tl ("|" : Str) = [124] := by decide +kernel
theorem joinL_app (S : List Nat) : ∀ (a b : List (List Nat)), a ≠ [] → b ≠ [] → joinL S (a ++ b) = joinL S a ++ (S ++ joinL S b)
  | [], _, h, _ => absurd rfl h
  | [p], b, _, hb => by
    cases b with
    | nil => exact absurd rfl hb
    | cons q r => rfl
  | p :: q :: r, b, _, hb => by
    show p ++ (S ++ joinL S (q :: r ++ b)) = p ++ (S ++ joinL S (q :: r)) ++ (S ++ joinL S b)
    rw [joinL_app S (q :: r) b (by simp) hb]
    simp [List.append_assoc]
theorem joinL_mem {S : List Nat} {c : Nat} : ∀ {a : List (List Nat)}, c ∈ joinL S a → c ∈ S ∨ ∃ p ∈ a, c ∈ p
  | [], h => nomatch h
  | [p], h => .inr ⟨p, List.mem_singleton.mpr rfl, h⟩
  | p :: q :: r, h => by
    rcases List.mem_append.mp (show c ∈ p ++ (S ++ joinL S (q :: r)) from h) with h | h
    · exact .inr ⟨p, List.mem_cons_self .., h⟩
    · rcases List.mem_append.mp h with h | h
      · exact .inl h
      · rcases joinL_mem h with h | ⟨z, hz, hc⟩
        · exact .inl h
        · exact .inr ⟨z, List.mem_cons_of_mem _ hz, hc⟩
theorem tl_joinSp (B : List Str) : tl (Txt.join " " B) = joinL [32] (B.map tl) := by rw [join_eq, tl_join, tlSp]
theorem nobar {B : List Str} (h : ∀ w ∈ B, Fre w) : 124 ∉ tl (Txt.join " " B) := by
  rw [tl_joinSp]
  intro hm
  rcases joinL_mem hm with hm | ⟨p, hp, hc⟩
  · exact absurd hm (by decide)
  · obtain ⟨w, hw, rfl⟩ := List.mem_map.mp hp
    exact (h w hw).2 hc
theorem line_text {B E : List Str} (hB : B ≠ []) : line B E = textOf B E := by
  unfold line textOf
  by_cases hE : E = []
  · rw [if_pos hE, if_pos hE]
  · rw [if_neg hE, if_neg hE]
    refine ext_tl ?_
    rw [tl_append, tl_append, tl_joinSp, tl_joinSp, tl_joinSp, tlBar, List.map_append, List.map_append, joinL_app _ _ _ (by simp) (by simpa using hE), joinL_app _ _ _ (by simpa using hB) (by simp)]
    simp [joinL, tlB1]
theorem pre_bar {l : List Nat} (h : pre [32, 124, 32] l = true) : ∃ r, l = 32 :: 124 :: 32 :: r := by
  have e : l.take 3 = [32, 124, 32] := eq_of_beq h
  match l, e with
  | a :: b :: c :: r, e =>
    simp at e
    obtain ⟨rfl, rfl, rfl⟩ := e
    exact ⟨r, rfl⟩
theorem no_bar {p q : List Nat} (h : 124 ∉ p) (hq : q = [] ∨ ∃ r, q = 32 :: r) : ∀ i, i < p.length → pre [32, 124, 32] ((p ++ q).drop i) = false := by
  intro i hi
  cases hp : pre [32, 124, 32] ((p ++ q).drop i) with
  | false => rfl
  | true =>
    obtain ⟨r, e⟩ := pre_bar hp
    have e1 : (p ++ q)[i + 1]? = some 124 := by
      have : ((p ++ q).drop i)[1]? = some 124 := by rw [e]; rfl
      rw [List.getElem?_drop] at this
      exact this
    by_cases h1 : i + 1 < p.length
    · rw [List.getElem?_append_left h1] at e1
      exact absurd (List.mem_of_getElem? e1) h
    · rw [List.getElem?_append_right (by omega)] at e1
      rcases hq with rfl | ⟨r, rfl⟩
      · simp at e1
      · have : i + 1 - p.length = 0 := by omega
        rw [this] at e1
        simp at e1
theorem part_no {x : Str} (h : 124 ∉ tl x) : Txt.partition x " | " = (x, Str.empty, Str.empty) := by
  rw [partition_par _ _ (by rw [tlBar]; simp), tlBar, par_none]
  intro i hi
  have := no_bar (q := []) h (.inl rfl) i hi
  rwa [List.append_nil] at this
theorem part_yes {x y : Str} (h : 124 ∉ tl x) : Txt.partition (x ++ " | " ++ y) " | " = (x, (" | " : Str), y) := by
  rw [partition_par _ _ (by rw [tlBar]; simp), tl_append, tl_append, List.append_assoc, tlBar, par_part (by simp) (no_bar h (.inr ⟨_, rfl⟩))]
  show ((⟨([] ++ tl x).toArray⟩ : Str), _, (⟨(tl y).toArray⟩ : Str)) = _
  rw [List.nil_append, mk_tl, mk_tl]
theorem split_words {B : List Str} (hB : B ≠ []) (h : ∀ w ∈ B, Fre w) : Txt.split (Txt.join " " B) " " = B :=
  split_join (s := 32) (S := []) tlSp (by decide +kernel) hB fun p hp => (h p hp).1
theorem words_text {B E : List Str} (hB : B ≠ []) (h1 : ∀ w ∈ B, Fre w) (h2 : ∀ w ∈ E, Fre w) : wordsR (textOf B E) = B ∧ wordsE (textOf B E) = E := by
  unfold wordsR wordsE textOf
  by_cases hE : E = []
  · rw [if_pos hE, part_no (nobar h1)]
    refine ⟨split_words hB h1, ?_⟩
    rw [hE]
    rfl
  · rw [if_neg hE, part_yes (nobar h1)]
    refine ⟨split_words hB h1, ?_⟩
    exact (if_pos (show ((" | " : Str).length != 0) = true by decide +kernel)).trans (split_words hE h2)
theorem words_line {B E : List Str} (hB : B ≠ []) (h1 : ∀ w ∈ B, Fre w) (h2 : ∀ w ∈ E, Fre w) : wordsR (line B E) = B ∧ wordsE (line B E) = E := by
  rw [line_text hB]
  exact words_text hB h1 h2
/-! ### lengths -/
theorem sum_le {n : Nat} : ∀ {B : List Str}, (∀ w ∈ B, w.length ≤ n) → (B.map (·.length)).sum ≤ n * B.length
  | [], _ => Nat.zero_le _
  | w :: r, h => by
    have a := h w (List.mem_cons_self ..)
    have b := sum_le (B := r) fun z hz => h z (List.mem_cons_of_mem _ hz)
    rw [List.map_cons, List.sum_cons, List.length_cons, Nat.mul_succ]
    omega
theorem join_len : ∀ B : List Str, (Txt.join " " B).length ≤ (B.map (·.length)).sum + B.length := by
  intro B
  rw [len_tl, tl_joinSp]
  induction B with
  | nil => simp [joinL]
  | cons w r ih =>
    cases r with
    | nil =>
      show (tl w).length ≤ _
      rw [← len_tl]
      simp
    | cons x r =>
      show (tl w ++ ([32] ++ joinL [32] ((x :: r).map tl))).length ≤ _
      rw [List.length_append, List.length_append, ← len_tl]
      simp only [List.map_cons, List.sum_cons, List.length_cons, List.length_nil] at ih ⊢
      omega
/-- short words, not many -/
def Sht (n : Nat) (B : List Str) : Prop := (∀ w ∈ B, w.length ≤ 11) ∧ B.length ≤ n
theorem Sht.sum {n : Nat} {B : List Str} (h : Sht n B) : (B.map (·.length)).sum + B.length * 1 ≤ 12 * n := by
  have := sum_le h.1
  have := h.2
  omega
theorem Sht.join {n : Nat} {B : List Str} (h : Sht n B) : (Txt.join " " B).length ≤ 12 * n := by
  have := h.sum
  have := join_len B
  omega
/-! ### bounds of what is cut -/
theorem spl_len (S : List Nat) : ∀ (k : Nat) (acc l : List Nat), (spl S k acc l).length ≤ l.length + 1
  | k, acc, [] => by rw [spl_nil]; simp
  | 0, acc, c :: r => by
    cases h : pre S (c :: r) with
    | true =>
      rw [spl_hit h, List.length_cons, List.length_cons]
      have := spl_len S (S.length - 1) [] r
      omega
    | false =>
      rw [spl_miss h, List.length_cons]
      have := spl_len S 0 (acc ++ [c]) r
      omega
  | k + 1, acc, _ :: r => by
    show (spl S k acc r).length ≤ _
    have := spl_len S k acc r
    rw [List.length_cons]
    omega
theorem spl_word (S : List Nat) : ∀ (k : Nat) (acc l : List Nat), ∀ p ∈ spl S k acc l, p.length ≤ acc.length + l.length
  | k, acc, [], p, hp => by
    rw [spl_nil] at hp
    rw [List.mem_singleton.mp hp]
    omega
  | 0, acc, c :: r, p, hp => by
    cases h : pre S (c :: r) with
    | true =>
      rw [spl_hit h] at hp
      rcases List.mem_cons.mp hp with rfl | hp
      · omega
      · have := spl_word S (S.length - 1) [] r p hp
        simp at this ⊢
        omega
    | false =>
      rw [spl_miss h] at hp
      have := spl_word S 0 (acc ++ [c]) r p hp
      simp at this ⊢
      omega
  | k + 1, acc, _ :: r, p, hp => by
    have := spl_word S k acc r p hp
    simp at this ⊢
    omega
theorem split_sp (x : Str) : (Txt.split x " ").map tl = spl [32] 0 [] (tl x) := by
  have := split_spl x " " (by rw [tlSp]; simp) (kind_ok (by decide +kernel))
  rwa [tlSp] at this
theorem split_len (x : Str) : (Txt.split x " ").length ≤ x.length + 1 := by
  have := spl_len [32] 0 [] (tl x)
  rw [← split_sp, List.length_map, ← len_tl] at this
  exact this
theorem split_word {x w : Str} (h : w ∈ Txt.split x " ") : w.length ≤ x.length := by
  have := spl_word [32] 0 [] (tl x) (tl w) (by rw [← split_sp]; exact List.mem_map.mpr ⟨w, h, rfl⟩)
  rw [← len_tl, ← len_tl] at this
  simpa using this
theorem part_len (x y : Str) : (Txt.partition x y).1.length ≤ x.length ∧ (Txt.partition x y).2.1.length ≤ y.length ∧ (Txt.partition x y).2.2.length ≤ x.length := by
  rcases PyProof.Rows.partition_whole x y with ⟨e, _⟩ | ⟨i, e, _, _⟩
  · rw [e]
    exact ⟨Nat.le_refl _, Nat.zero_le _, Nat.zero_le _⟩
  · rw [e]
    refine ⟨?_, Nat.le_refl _, ?_⟩
    · rw [len_tl, tl_strSub, List.length_take, List.length_drop, ← len_tl]
      omega
    · rw [len_tl, tl_strSub_end, List.length_drop, ← len_tl]
      omega
/-- the words of a text of at most n signs -/
theorem wordsR_len (t : Str) : (wordsR t).length ≤ t.length + 1 := by
  have := split_len (Txt.partition t " | ").1
  have := (part_len t " | ").1
  unfold wordsR
  omega
theorem wordsE_len (t : Str) : (wordsE t).length ≤ t.length + 1 := by
  unfold wordsE
  split
  · have := split_len (Txt.partition t " | ").2.2
    have := (part_len t " | ").2.2
    omega
  · simp
theorem wordsR_word {t w : Str} (h : w ∈ wordsR t) : w.length ≤ t.length := Nat.le_trans (split_word h) (part_len t " | ").1
theorem wordsE_word {t w : Str} (h : w ∈ wordsE t) : w.length ≤ t.length := by
  unfold wordsE at h
  split at h
  · exact Nat.le_trans (split_word h) (part_len t " | ").2.2
  · exact nomatch h
theorem wordsR_ne (t : Str) : wordsR t ≠ [] := split_ne _ _
end LM

/-! what many parts want: the error about texts, small lemmas -/
namespace My
open PySem L2 Cm LM
abbrev sEI : Stmt := inClass (top 6) 0
theorem nz (n : Nat) : ((n : Int) != 0) = (n != 0) := by
  cases n with
  | zero => rfl
  | succ k => simp; omega
/-- no text is longer -/
def Bd (t : Str) : Prop := t.length ≤ 100000
theorem Bd.part {t : Str} (y : Str) (h : Bd t) : Bd (Txt.partition t y).1 ∧ Bd (Txt.partition t y).2.2 := ⟨Nat.le_trans (part_len t y).1 h, Nat.le_trans (part_len t y).2.2 h⟩
theorem Bd.line {t : Str} (h : Bd t) : t.length ≤ sizeLine := Nat.le_of_lt (szM (Nat.le_trans h (by decide)))
theorem Bd.line2 {t : Str} (h : Bd t) : t.length + 2 ≤ sizeLine := Nat.le_of_lt (szM (by unfold Bd at h; omega))
theorem svs_get {ws : List Str} {i : Nat} {x : V} (h : (svs ws)[i]? = some x) : ∃ z, ws[i]? = some z ∧ x = .str z := by
  unfold svs at h
  rw [List.getElem?_map] at h
  cases e : ws[i]? with
  | none => rw [e] at h; cases h
  | some z =>
    rw [e] at h
    exact ⟨z, rfl, (Option.some.inj h).symm⟩
theorem take_snoc {α : Type} {xs : List α} {i : Nat} {x : α} (h : xs[i]? = some x) : xs.take (i + 1) = xs.take i ++ [x] := by
  rw [List.take_succ, h]
  rfl
theorem lt_of_get {α : Type} {xs : List α} {i : Nat} {x : α} (h : xs[i]? = some x) : i < xs.length := (List.getElem?_eq_some_iff.mp h).1
/-- not many words, none too long -/
def BdW (ws : List Str) : Prop := (∀ z ∈ ws, Bd z) ∧ ws.length ≤ 100001
theorem made_same {H H' : Hp} {x dx C : Addr} (nx : H x = none) (ndx : H dx = none) (o : Off x (upd (upd H dx (.own x)) x (.ins C dx [])) H') : Same H H' := fun b u e => o b u (ne_of_none e nx) (by rw [upd_ne (ne_of_none e nx), upd_ne (ne_of_none e ndx)]; exact e)
/-- a special method of the class at C -/
structure Sm (K : PySem.W.Frag) (C : Addr) (x q : Str) (st : Stmt) (ps : List Str) where
  f : Addr
  fd : FuncData
  F : Fun K x q st f fd
  b : Binds K fd ps []
  i : PySem.W.findIn K (.ref C) x = some (some (.ref f))
  fn : PySem.W.isFn K (.ref f) = true
theorem TyX_same {K : PySem.W.Frag} {H H' : Hp} (s : Same H H') {x : V} {t : Value} (h : TyX K H x t) : TyX K H' x t := by
  cases h with
  | base b =>
    refine .base ?_
    cases b with
    | non => exact .non
    | bl x => exact .bl x
    | int i => exact .int i
    | str x => exact .str x
    | flt x => exact .flt x
    | lst e => exact .lst (s _ _ e)
    | frz e => exact .frz (s _ _ e)
    | tup e => exact .tup (s _ _ e)
    | dK e => exact .dK (s _ _ e)
    | dT e => exact .dT (s _ _ e)
    | ins e a b c d f => exact .ins (s _ _ e) a b c d f
  | byt b => exact .byt b
  | set e => exact .set (s _ _ e)
  | kList e c => exact .kList e c
  | kTuple e c => exact .kTuple e c
  | kDict e c => exact .kDict e c
  | fTuple e => exact .fTuple (s _ _ e)
  | fDict e => exact .fDict (s _ _ e)
theorem jar_ne {H : Hp} {j p : Addr} (a : Jar H j) (n : H p = none) : p ≠ j := fun z => by
  obtain ⟨_, _, _, q⟩ := a
  rw [z, q] at n
  cases n
theorem Jar.put {H : Hp} {j p : Addr} {o : HO} (a : Jar H j) (n : p ≠ j) : Jar (upd H p o) j := by
  obtain ⟨x, y, z, q⟩ := a
  exact ⟨x, y, z, by rw [upd_ne n.symm]; exact q⟩
/-- a store to what was not there at first -/
theorem Off.put2 {j q : Addr} {H H1 : Hp} {o : HO} (a : Off j H H1) (n : H q = none) : Off j H (upd H1 q o) := fun b u nb e => by
  rw [upd_ne (ne_of_none e n)]
  exact a b u nb e
/-- tuples that stand stay, if what is written is no tuple -/
theorem tup_stays {H : Hp} {x : Addr} {o o' : HO} (hx : H x = some o) (n : ∀ xs, o ≠ .tup xs) : ∀ (p : Addr) (xs : List V), H p = some (.tup xs) → (upd H x o') p = some (.tup xs) := fun p xs e => by
  rw [upd_ne]
  · exact e
  · intro z
    rw [z, hx] at e
    exact n xs (Option.some.inj e)
def isS : V → Bool
  | .str _ => true
  | _ => false
/-- its type is told -/
def Typed (K : PySem.W.Frag) (H : Hp) (x : V) : Prop := ∃ t, TyX K H x t ∧ PySem.W.kitOne K t (.type "str") = some (isS x)
theorem typed_str {K : PySem.W.Frag} {H : Hp} (x : Str) : Typed K H (.str x) := ⟨_, .base (.str x), kit_ty (show kitB "str" "str" = some true by decide +kernel)⟩
/-! ### the error -/
structure TxE (K : PySem.W.Frag) (mg : Str → Option Value) where
  C : Addr
  f : Addr
  fd : FuncData
  g : mg "InvalidText" = some (.ref C)
  o : OexC K C
  i : PySem.W.findIn K (.ref C) "__init__" = some (some (.ref f))
  t : PySem.W.typeIn K (.ref f) = some (.type "function")
  n : PySem.W.findIn K (.ref C) "value" = some none
  F : Fun K "__init__" "InvalidText.__init__" sEI f fd
  b : Binds K fd ["self", "value"] []
section
variable {P : Program} {w : World} {K : PySem.W.Frag} {mg : Str → Option Value} {base : Heap}
def spEI (CE : Addr) : Sp := fun vs H Q _ => ∃ (a : Addr) (v : V), vs = [.ref a, v] ∧ H a = some (exo a CE none) ∧ ∀ dx, H dx = none → dx ≠ a → Q .non (upd (upd H dx (exd dx [("value", v)])) a (exo a CE (some dx)))
theorem scEI : FnScope ["self", "value"] ["self", "value"] (defScope sEI) := ⟨rfl, rfl, rfl, by decide +kernel, rfl, by decide +kernel, by decide +kernel⟩
theorem ok_ei (T : TxE K mg) : FnOk P w K mg base CX0 1 T.f T.fd ["self", "value"] (spEI T.C) := by
  refine T.F.ok scEI (fun vs H Q E h => ?_) (fun cdv A outer s H vs Q E hr h => ?_)
  · obtain ⟨a, v, rfl, _⟩ := h
    rfl
  · obtain ⟨a, v, rfl, ha, k⟩ := h
    refine ⟨_, pss_one (ps_ost (pv 0) (pv 1)), ?_⟩
    exact ⟨_, rfl, _, rfl, a, T.C, rfl, T.o, T.n, .inl ⟨ha, fun dx n ne => k dx n ne⟩⟩
/-- raise X(x), as its making is read -/
theorem mk_err {CE : Addr} {ta : TA} {σ : St} {H : Hp} {Q : XK} {x : V} (h : ta σ H fun vs H1 => vs = [x] ∧ H1 = H) (mono : ∀ {R R' : List V → Hp → Prop}, ta σ H R → (∀ v H1, R v H1 → R' v H1) → ta σ H R')
    (q : ∀ d, H d = none → Q (.ref CE) (some d) (upd H d (.xd [("value", x)]))) : tMkO CE (spEI CE) [] ta σ H Q := by
  refine mono h fun vs H1 hh => ?_
  obtain ⟨rfl, rfl⟩ := hh
  refine ⟨by show 1 ≤ 1000; decide, fun a na => ⟨a, x, rfl, upd_same, fun dx ndx nda => ⟨rfl, dx, [("value", x)], upd_same, ?_, ?_, ?_⟩⟩⟩
  · rw [upd_ne nda, upd_same]
  · rw [upd_ne nda] at ndx
    exact ndx
  · have e : upd (del (upd (upd (upd H1 a (exo a CE none)) dx (exd dx [("value", x)])) a (exo a CE (some dx))) a) dx (.xd [("value", x)]) = upd H1 dx (.xd [("value", x)]) := by
      funext b
      by_cases h1 : b = dx
      · rw [h1, upd_same, upd_same]
      · rw [upd_ne h1, upd_ne h1]
        by_cases h2 : b = a
        · rw [h2, del_same, na]
        · rw [del_ne h2, upd_ne h2, upd_ne h1, upd_ne h2]
    rw [e]
    rw [upd_ne nda] at ndx
    exact q dx ndx
end
end My

/-! the defs about texts of loops -/
namespace My
open PySem L2 Cm LM
abbrev sWO : Stmt := top 49
abbrev sOO : Stmt := top 51
abbrev sIW : Stmt := top 52
abbrev sAW : Stmt := top 53
abbrev sIR : Stmt := top 54
abbrev sIE : Stmt := top 55
/-- what the module's top has for these defs -/
structure TxL (K : PySem.W.Frag) (mg : Str → Option Value) where
  tuple : mg "tuple" = none
  len : mg "len" = none
  all : mg "all" = none
  bar : ∃ t, mg "BAR" = some (.str " | " t)
  mr : ∃ t, mg "MOST_ROUND" = some (.int 12 t)
  me : ∃ t, mg "MOST_ENDING" = some (.int 6 t)
  pT : Addr
  pR : Addr
  pE : Addr
  gT : mg "TESTS" = some (.ref pT)
  gR : mg "ROUND_STEPS" = some (.ref pR)
  gE : mg "ENDING_STEPS" = some (.ref pE)
  lT : ∀ H, SqT K H pT (svs tests)
  lR : ∀ H, SqT K H pR (svs rsteps)
  lE : ∀ H, SqT K H pE (svs esteps)
  wo : Df K mg "words_of" sWO ["text"]
  oo : Df K mg "order_of" sOO ["word"]
  iw : Df K mg "is_word" sIW ["word", "steps"]
  aw : Df K mg "are_words" sAW ["words", "steps"]
  ir : Df K mg "is_round" sIR ["words"]
  ie : Df K mg "is_ending" sIE ["words"]
section
variable {P : Program} {w : World} {K : PySem.W.Frag} {mg : Str → Option Value} {base : Heap}
/-! ### words_of -/
def spWO : Sp := fun vs H Q _ => ∃ t : Str, vs = [.str t] ∧ Bd t ∧ ∀ (H' : Hp) (p a b : Addr), Same H H' → H' p = some (.tup [.ref a, .ref b]) → H' a = some (.tup (svs (wordsR t))) → H' b = some (.tup (svs (wordsE t))) → Q (.ref p) H'
theorem scWO : FnScope ["text", "head", "bar", "tail"] ["text"] (defScope sWO) := ⟨rfl, rfl, rfl, by decide +kernel, rfl, by decide +kernel, by decide +kernel⟩
theorem ok_wo (T : TxL K mg) : FnOk P w K mg base CX0 1 T.wo.f T.wo.fd ["text"] spWO := by
  obtain ⟨tb, hb⟩ := T.bar
  refine T.wo.F.ok scWO (fun vs H Q E h => ?_) (fun cdv A outer s H vs Q E hr h => ?_)
  · obtain ⟨t, rfl, _⟩ := h
    rfl
  · obtain ⟨t, rfl, bd, k⟩ := h
    refine ⟨_, pss_cons (ps_asg (pe_partition (pv 0) (pe_glob (v := .str " | ") rfl hb ⟨_, rfl⟩)) (pg_tup rfl (pgs_cons (pg_name (i := 1) scWO.nd rfl (.inl rfl)) (pgs_cons (pg_name (i := 2) scWO.nd rfl (.inl rfl)) (pgs_cons (pg_name (i := 3) scWO.nd rfl (.inl rfl)) pgs_nil)))))
      (pss_one (ps_ret (pe_tup (pa_cons (pe_callTy call_tuple_of (by rfl) T.tuple (by decide +kernel) (pa_cons (pe_split (pv 1) pe_str) pa_nil))
        (pa_cons (pe_ifExp (pt_truth (pv 2) (by intro _; rfl)) (pe_callTy call_tuple_of (by rfl) T.tuple (by decide +kernel) (pa_cons (pe_split (pv 3) pe_str) pa_nil)) (pe_tup pa_nil)) pa_nil))))), ?_⟩
    have bp := Bd.part " | " bd
    refine ⟨_, rfl, ⟨_, rfl⟩, t, " | ", rfl, rfl, by decide +kernel, bd.line, fun q nq => ?_⟩
    refine ⟨q, _, rfl, SqT.of upd_same, rfl, _, _, rfl, _, _, rfl, _, _, rfl, rfl, ?_⟩
    have s1 : Same H (upd H q (.tup [.str (Txt.partition t " | ").1, .str (Txt.partition t " | ").2.1, .str (Txt.partition t " | ").2.2])) := same_new nq
    generalize upd H q (.tup [.str (Txt.partition t " | ").1, .str (Txt.partition t " | ").2.1, .str (Txt.partition t " | ").2.2]) = H1 at s1 ⊢
    refine ⟨_, rfl, ⟨_, rfl⟩, _, " ", rfl, rfl, by decide +kernel, bp.1.line2, fun l nl => ?_⟩
    refine ⟨l, _, rfl, .inl ⟨SqL.of upd_same, fun a na => ?_⟩⟩
    have s2 : Same H1 (upd (upd H1 l (.lst (svs (wordsR t)))) a (.tup (svs (wordsR t)))) := Same.trans (same_new nl) (same_new na)
    have ha : (upd (upd H1 l (.lst (svs (wordsR t)))) a (.tup (svs (wordsR t)))) a = some (.tup (svs (wordsR t))) := upd_same
    show tCons _ _ _ (upd (upd H1 l (.lst (svs (wordsR t)))) a (.tup (svs (wordsR t)))) _
    generalize upd (upd H1 l (.lst (svs (wordsR t)))) a (.tup (svs (wordsR t))) = H2 at s2 ha ⊢
    refine ⟨_, rfl, _, ⟨Nat.le_trans (part_len t " | ").2.1 (by decide +kernel), rfl⟩, ?_⟩
    rw [nz]
    cases hc : ((Txt.partition t " | ").2.1.length != 0) with
    | true =>
      have e : wordsE t = Txt.split (Txt.partition t " | ").2.2 " " := by unfold wordsE; rw [if_pos hc]
      refine iteT ?_
      refine ⟨_, rfl, ⟨_, rfl⟩, _, " ", rfl, rfl, by decide +kernel, bp.2.line2, fun l2 nl2 => ?_⟩
      rw [← e]
      refine ⟨l2, _, rfl, .inl ⟨SqL.of upd_same, fun b nb => ?_⟩⟩
      refine ⟨(by show 2 ≤ sizeLine; decide), fun p np => ?_⟩
      exact k _ p a b (Same.trans s1 (Same.trans s2 (Same.trans (same_new nl2) (Same.trans (same_new nb) (same_new np))))) upd_same (same_new np _ _ (same_new nb _ _ (same_new nl2 _ _ ha))) (same_new np _ _ upd_same)
    | false =>
      have e : wordsE t = [] := by unfold wordsE; rw [if_neg (by rw [hc]; exact Bool.false_ne_true)]
      refine iteF ?_
      refine ⟨Nat.zero_le _, fun b nb => ?_⟩
      refine ⟨(by show 2 ≤ sizeLine; decide), fun p np => ?_⟩
      refine k _ p a b (Same.trans s1 (Same.trans s2 (Same.trans (same_new nb) (same_new np)))) upd_same (same_new np _ _ (same_new nb _ _ ha)) ?_
      rw [e]
      exact same_new np _ _ upd_same
/-! ### order_of -/
def spOO : Sp := fun vs H Q _ => ∃ t : Str, vs = [.str t] ∧ Bd t ∧ ∀ (H' : Hp) (p : Addr), Same H H' → H p = none → H' p = some (.tup [.str (orderOf t).1, .str (orderOf t).2]) → Q (.ref p) H'
theorem scOO : FnScope ["word", "test", "colon", "step"] ["word"] (defScope sOO) := ⟨rfl, rfl, rfl, by decide +kernel, rfl, by decide +kernel, by decide +kernel⟩
theorem ok_oo (T : TxL K mg) : FnOk P w K mg base CX0 1 T.oo.f T.oo.fd ["word"] spOO := by
  refine T.oo.F.ok scOO (fun vs H Q E h => ?_) (fun cdv A outer s H vs Q E hr h => ?_)
  · obtain ⟨t, rfl, _⟩ := h
    rfl
  · obtain ⟨t, rfl, bd, k⟩ := h
    refine ⟨_, pss_cons (ps_asg (pe_partition (pv 0) pe_str) (pg_tup rfl (pgs_cons (pg_name (i := 1) scOO.nd rfl (.inl rfl)) (pgs_cons (pg_name (i := 2) scOO.nd rfl (.inl rfl)) (pgs_cons (pg_name (i := 3) scOO.nd rfl (.inl rfl)) pgs_nil)))))
      (pss_one (ps_ret (pe_ifExp (pt_truth (pv 2) (by intro _; rfl)) (pe_tup (pa_cons (pv 1) (pa_cons (pv 3) pa_nil))) (pe_tup (pa_cons pe_str (pa_cons (pv 0) pa_nil)))))), ?_⟩
    refine ⟨_, rfl, ⟨_, rfl⟩, t, ":", rfl, rfl, by decide +kernel, bd.line, fun q nq => ?_⟩
    refine ⟨q, _, rfl, SqT.of upd_same, rfl, _, _, rfl, _, _, rfl, _, _, rfl, rfl, ?_⟩
    have s1 : Same H (upd H q (.tup [.str (Txt.partition t ":").1, .str (Txt.partition t ":").2.1, .str (Txt.partition t ":").2.2])) := same_new nq
    generalize upd H q (.tup [.str (Txt.partition t ":").1, .str (Txt.partition t ":").2.1, .str (Txt.partition t ":").2.2]) = H1 at s1 ⊢
    refine ⟨_, rfl, _, ⟨Nat.le_trans (part_len t ":").2.1 (by decide +kernel), rfl⟩, ?_⟩
    rw [nz]
    unfold orderOf at k
    cases hc : ((Txt.partition t ":").2.1.length != 0) with
    | true =>
      rw [if_pos hc] at k
      refine iteT ?_
      refine ⟨_, rfl, _, rfl, (by show 2 ≤ sizeLine; decide), fun p np => ?_⟩
      exact k _ p (Same.trans s1 (same_new np)) (s1.free np) upd_same
    | false =>
      rw [if_neg (by rw [hc]; exact Bool.false_ne_true)] at k
      refine iteF ?_
      refine ⟨_, rfl, (by show 2 ≤ sizeLine; decide), fun p np => ?_⟩
      exact k _ p (Same.trans s1 (same_new np)) (s1.free np) upd_same
/-! ### is_word -/
def spIW (K : PySem.W.Frag) : Sp := fun vs H Q _ => ∃ (t : Str) (p : Addr) (ss : List Str), vs = [.str t, .ref p] ∧ Bd t ∧ SqT K H p (svs ss) ∧ ∀ H' : Hp, Same H H' → Q (.bl (isWord t ss)) H'
theorem scIW : FnScope ["word", "steps", "test", "colon", "step"] ["word", "steps"] (defScope sIW) := ⟨rfl, rfl, rfl, by decide +kernel, rfl, by decide +kernel, by decide +kernel⟩
theorem ok_iw (T : TxL K mg) : FnOk P w K mg base CX0 1 T.iw.f T.iw.fd ["word", "steps"] (spIW K) := by
  refine T.iw.F.ok scIW (fun vs H Q E h => ?_) (fun cdv A outer s H vs Q E hr h => ?_)
  · obtain ⟨t, p, ss, rfl, _⟩ := h
    rfl
  · obtain ⟨t, p, ss, rfl, bd, hp, k⟩ := h
    refine ⟨_, pss_cons (ps_asg (pe_partition (pv 0) pe_str) (pg_tup rfl (pgs_cons (pg_name (i := 2) scIW.nd rfl (.inl rfl)) (pgs_cons (pg_name (i := 3) scIW.nd rfl (.inl rfl)) (pgs_cons (pg_name (i := 4) scIW.nd rfl (.inl rfl)) pgs_nil)))))
      (pss_one (ps_ret (pe_ifExp (pt_truth (pv 3) (by intro _; rfl)) (pe_and (pe_cmpR op_in_seq (pv 2) (pe_glob (v := .ref T.pT) rfl T.gT rfl) (by rfl)) (pe_one (pe_cmpR op_in_seq (pv 4) (pv 1) (by rfl)))) (pe_cmpR op_in_seq (pv 0) (pv 1) (by rfl))))), ?_⟩
    refine ⟨_, rfl, ⟨_, rfl⟩, t, ":", rfl, rfl, by decide +kernel, bd.line, fun q nq => ?_⟩
    refine ⟨q, _, rfl, SqT.of upd_same, rfl, _, _, rfl, _, _, rfl, _, _, rfl, rfl, ?_⟩
    have s1 : Same H (upd H q (.tup [.str (Txt.partition t ":").1, .str (Txt.partition t ":").2.1, .str (Txt.partition t ":").2.2])) := same_new nq
    generalize upd H q (.tup [.str (Txt.partition t ":").1, .str (Txt.partition t ":").2.1, .str (Txt.partition t ":").2.2]) = H1 at s1 ⊢
    refine ⟨_, rfl, _, ⟨Nat.le_trans (part_len t ":").2.1 (by decide +kernel), rfl⟩, ?_⟩
    rw [nz]
    have k1 := k H1 s1
    unfold isWord at k1
    cases hc : ((Txt.partition t ":").2.1.length != 0) with
    | true =>
      rw [if_pos hc] at k1
      refine iteT ?_
      refine ⟨_, rfl, T.pT, _, rfl, .inr (T.lT _), rfl, svs_flat _, _, rfl, ?_⟩
      show if (inV _ (svs tests)) = true then _ else _
      rw [inV_svs]
      by_cases h1 : (Txt.partition t ":").1 ∈ tests
      · rw [decide_eq_true h1] at k1 ⊢
        refine iteT ⟨_, rfl, _, rfl, p, _, rfl, .inr (Cm.Same.set s1 hp), rfl, svs_flat _, ?_⟩
        show _
        rw [Bool.true_and] at k1
        have := inV_svs (Txt.partition t ":").2.2 ss
        rw [← this] at k1
        exact k1
      · rw [decide_eq_false h1] at k1 ⊢
        exact iteF k1
    | false =>
      rw [if_neg (by rw [hc]; exact Bool.false_ne_true)] at k1
      refine iteF ?_
      refine ⟨_, rfl, _, rfl, p, _, rfl, .inr (Cm.Same.set s1 hp), rfl, svs_flat _, ?_⟩
      rw [← inV_svs] at k1
      exact k1
end
end My

namespace My
open PySem L2 Cm LM
section
variable {P : Program} {w : World} {K : PySem.W.Frag} {mg : Str → Option Value} {base : Heap}
/-! ### are_words -/
def spAW (K : PySem.W.Frag) : Sp := fun vs H Q _ => ∃ (a p : Addr) (ws ss : List Str), vs = [.ref a, .ref p] ∧ BdW ws ∧ SqT K H a (svs ws) ∧ SqT K H p (svs ss) ∧ ∀ H' : Hp, Same H H' → Q (.bl (areWords ws ss)) H'
theorem scAW : FnScope ["words", "steps", "word"] ["words", "steps"] (defScope sAW) := ⟨rfl, rfl, rfl, by decide +kernel, rfl, by decide +kernel, by decide +kernel⟩
theorem ok_aw (T : TxL K mg) : FnOk P w K mg base CX0 2 T.aw.f T.aw.fd ["words", "steps"] (spAW K) := by
  have G1 : FnOk P w K mg base CX0 1 T.iw.f T.iw.fd ["word", "steps"] (spIW K) := ok_iw T
  refine T.aw.F.ok scAW (fun vs H Q E h => ?_) (fun cdv A outer s H vs Q E hr h => ?_)
  · obtain ⟨a, p, ws, ss, rfl, _⟩ := h
    rfl
  · obtain ⟨a, p, ws, ss, rfl, bd, ha, hp, k⟩ := h
    refine ⟨_, pss_one (ps_ret (pe_callB (cr_all rfl) (by rfl) T.all (by decide +kernel) (pa_cons (pe_lc (own := [("word", 2)]) (g := gName 2) (tt := tYes) (te := tCall (spIW K) [] E0 (tCons (tVar 2) (tCons (tVar 1) tNil))) rfl scAW.nd (pi_tup (pv 0))
      (blkOk_by (own := [("word", 2)]) (N := ["words", "steps", "word"]) (sc := defScope sAW) (by decide +kernel)) (fun _ _ _ _ _ => pg_name (i := 2) scAW.nd rfl (Or.inl rfl)) (fun _ _ _ _ _ => pts_nil)
      (fun _ _ _ _ _ => by exact pe_call G1 hr rfl T.iw.g T.iw.k T.iw.b .nil pass0 (pa_cons (pv 2) (pa_cons (pv 1) pa_nil)))) pa_nil))), ?_⟩
    refine ⟨_, rfl, a, rfl, ⟨_, ha⟩, fun D nD => lc_tup (K := K) (a := a) (xs := svs ws) (fun i H' => Same H H' ∧ H' D = some (.lst (((ws.take i).map fun z => isWord z ss).map V.bl))) ⟨same_new nD, upd_same⟩ (fun i H' _ ⟨s', _⟩ => Cm.Same.set s' ha) ?_ ?_⟩
    · rintro i x H' hx ⟨s', hD⟩
      obtain ⟨z, hz, rfl⟩ := svs_get hx
      refine ⟨rfl, _, rfl, _, rfl, z, p, ss, rfl, bd.1 z (List.mem_of_getElem? hz), Cm.Same.set s' hp, fun H2 s2 => ?_⟩
      refine ⟨_, s2 _ _ hD, szM ?_, fun b o q => ?_, ?_⟩
      · rw [List.length_map, List.length_map, List.length_take]
        have := bd.2
        omega
      · rw [upd_ne (ne_of_none q nD)]
        exact s2 _ _ (s' _ _ q)
      · rw [upd_same, take_snoc hz]
        simp
    · rintro H' ⟨s', hD⟩
      have e : (svs ws).length = ws.length := List.length_map ..
      rw [e, List.take_length] at hD
      refine ⟨D, ws.map fun z => isWord z ss, rfl, SqL.of hD, ?_⟩
      have k1 := k H' s'
      unfold areWords at k1
      rw [List.all_map]
      exact k1
/-! ### is_round -/
def spIR (K : PySem.W.Frag) : Sp := fun vs H Q _ => ∃ (a : Addr) (ws : List Str), vs = [.ref a] ∧ ws ≠ [] ∧ BdW ws ∧ SqT K H a (svs ws) ∧ ∀ H' : Hp, Same H H' → Q (.bl (isRound ws)) H'
theorem scIR : FnScope ["words", "adding", "word"] ["words"] (defScope sIR) := ⟨rfl, rfl, rfl, by decide +kernel, rfl, by decide +kernel, by decide +kernel⟩
def ttAdd (K : PySem.W.Frag) : TT := tTest (tOp rEq (tOp (rIxT K) (tCall spOO [] E0 (tCons (tVar 2) tNil)) (tC (.int 1))) (tC (.str "add")))
theorem ok_ir (T : TxL K mg) : FnOk P w K mg base CX0 3 T.ir.f T.ir.fd ["words"] (spIR K) := by
  have GO : FnOk P w K mg base CX0 1 T.oo.f T.oo.fd ["word"] spOO := ok_oo T
  have GA : FnOk P w K mg base CX0 2 T.aw.f T.aw.fd ["words", "steps"] (spAW K) := ok_aw T
  obtain ⟨tm, mr⟩ := T.mr
  refine T.ir.F.ok scIR (fun vs H Q E h => ?_) (fun cdv A outer s H vs Q E hr h => ?_)
  · obtain ⟨a, ws, rfl, _⟩ := h
    rfl
  · obtain ⟨a, ws, rfl, ne, bd, ha, k⟩ := h
    have hr1 : Room 1 _ := hr.mono (by decide)
    refine ⟨_, pss_cons (ps_if (PW.pt (pw_or (pt_cmpR op_ne (pe_ix ix_tup (pv 0) pe_int (fun _ _ => rfl)) pe_str (nomark _)) (pw_or1 (pt_cmpR op_gt (pe_callB call_len_seq (by rfl) T.len PySem.boot_len (pa_cons (pv 0) pa_nil)) (pe_glob (v := .int 12) rfl mr ⟨_, rfl⟩) (nomark _))))) (pss_one (ps_ret pe_bl)) pss_nil)
      (pss_cons (ps_setLc (i := 1) (own := [("word", 2)]) (g := gName 2) (tt := ttAdd K) (te := tVar 2) rfl scIR.nd rfl rfl (sw_true rfl rfl rfl (by decide +kernel)) (pi_tup (pv 0)) (blkOk_by (own := [("word", 2)]) (N := ["words", "adding", "word"]) (sc := defScope sIR) (by decide +kernel)) (fun _ _ _ _ _ => pg_name (i := 2) scIR.nd rfl (Or.inl rfl))
          (fun _ _ _ _ _ => by exact pts_one (pt_cmpR op_eq (pe_ix ix_tup (pe_call (E := E0) GO hr1 rfl T.oo.g T.oo.k T.oo.b .nil pass0 (pa_cons (pv 2) pa_nil)) pe_int (fun _ _ => rfl)) pe_str (nomark _))) (fun _ _ _ _ _ => pv 2))
      (pss_one (ps_ret (pe_and (pe_cmpR op_le (pe_callB call_len_seq (by rfl) T.len PySem.boot_len (pa_cons (pv 1) pa_nil)) pe_int (nomark _)) (pe_one (pe_call GA hr rfl T.aw.g T.aw.k T.aw.b .nil pass0 (pa_cons (pe_slice sl_tupA (pv 0) (po_some pe_int) po_none) (pa_cons (pe_glob (v := .ref T.pR) rfl T.gR rfl) pa_nil))))))))
      , ?_⟩
    obtain ⟨w0, r, rfl⟩ : ∃ w0 r, ws = w0 :: r := by
      cases ws with
      | nil => exact absurd rfl ne
      | cons w0 r => exact ⟨w0, r, rfl⟩
    refine ⟨_, rfl, a, _, 0, .str w0, rfl, rfl, ha, (show atI (svs (w0 :: r)) ((0 : Nat) : Int) = some (V.str w0) from atI_nat rfl), rfl, _, rfl, ?_⟩
    unfold isRound at k
    rw [dS]
    by_cases h0 : w0 = "ask"
    · subst h0
      rw [show decide ((("ask" : Str) :: r).head? = some "ask") = true from decide_eq_true rfl, Bool.true_and] at k
      rw [decide_eq_true rfl]
      refine iteF ?_
      refine ⟨_, rfl, a, _, rfl, .inr ha, _, _, rfl, rfl, _, rfl, ?_⟩
      have el : (svs ((("ask" : Str)) :: r)).length = ((("ask" : Str)) :: r).length := List.length_map ..
      rw [el]
      by_cases h12 : ((("ask" : Str)) :: r).length ≤ 12
      · rw [decide_eq_false (show ¬ ((12 : Int) < ((("ask" : Str) :: r).length : Int)) by omega)]
        rw [decide_eq_true h12, Bool.true_and] at k
        refine iteF ?_
        refine ⟨_, rfl, a, rfl, ⟨_, ha⟩, fun D nD => lc_tup (K := K) (a := a) (xs := svs (("ask" : Str) :: r)) (fun i H' => Same H H' ∧ H' D = some (.lst (svs (((("ask" : Str) :: r).take i).filter isAdd)))) ⟨same_new nD, upd_same⟩ (fun i H' _ ⟨s', _⟩ => Cm.Same.set s' ha) ?_ ?_⟩
        · rintro i x H' hx ⟨s', hD⟩
          obtain ⟨z, hz, rfl⟩ := svs_get hx
          refine ⟨rfl, _, rfl, z, rfl, bd.1 z (List.mem_of_getElem? hz), fun H2 p s2 np hp => ?_⟩
          refine ⟨p, _, 1, _, rfl, rfl, SqT.of hp, rfl, rfl, _, rfl, ?_⟩
          rw [dS]
          have ed : decide ((orderOf z).2 = "add") = isAdd z := rfl
          rw [ed]
          rw [take_snoc hz, List.filter_append]
          cases hc : isAdd z with
          | true =>
            refine iteT ?_
            refine ⟨_, rfl, _, s2 _ _ hD, szM ?_, fun b o q => ?_, ?_⟩
            · rw [show (svs (List.filter isAdd (List.take i (("ask" : Str) :: r)))).length = _ from List.length_map ..]
              have := List.length_filter_le isAdd (List.take i (("ask" : Str) :: r))
              rw [List.length_take] at this
              have := bd.2
              omega
            · rw [upd_ne (ne_of_none q nD)]
              exact s2 _ _ (s' _ _ q)
            · rw [upd_same]
              simp [svs, hc]
          | false =>
            refine iteF ?_
            refine ⟨Same.trans s' s2, ?_⟩
            rw [s2 _ _ hD]
            simp [hc]
        · rintro H' ⟨s', hD⟩
          rw [el, List.take_length] at hD
          refine ⟨_, rfl, D, _, rfl, .inl (SqL.of hD), _, _, rfl, rfl, _, rfl, ?_⟩
          have ef : (svs (List.filter isAdd (("ask" : Str) :: r))).length = (List.filter isAdd (("ask" : Str) :: r)).length := List.length_map ..
          rw [ef]
          by_cases h1 : (List.filter isAdd (("ask" : Str) :: r)).length ≤ 1
          · rw [decide_eq_true (show (((List.filter isAdd (("ask" : Str) :: r)).length : Int) ≤ 1) by omega)]
            rw [decide_eq_true h1, Bool.true_and] at k
            refine iteT ?_
            have cut : cutV (svs (("ask" : Str) :: r)) (some 1) none = svs r := by
              unfold cutV
              rw [HT.sIx_none, show (some (1 : Int)) = some ((1 : Nat) : Int) from rfl, HT.sIx_nat, el]
              simp [svs]
              exact List.take_of_length_le (by simp)
            refine ⟨_, rfl, 1, rfl, a, _, rfl, Cm.Same.set s' ha, fun z => ?_, fun _ p np => ?_⟩
            · exfalso
              have := z.1
              rw [show (some (1 : Int)) = some ((1 : Nat) : Int) from rfl, HT.sIx_nat, el] at this
              simp at this
            · rw [cut]
              refine ⟨p, T.pR, r, rsteps, rfl, ⟨fun z hz => bd.1 z (List.mem_cons_of_mem _ hz), ?_⟩, SqT.of upd_same, T.lR _, fun H2 s2 => ?_⟩
              · have := bd.2
                rw [List.length_cons] at this
                omega
              · exact k _ (Same.trans s' (Same.trans (same_new np) s2))
          · rw [decide_eq_false (show ¬ (((List.filter isAdd (("ask" : Str) :: r)).length : Int) ≤ 1) by omega)]
            rw [decide_eq_false h1, Bool.false_and] at k
            exact iteF (k H' s')
      · rw [decide_eq_true (show ((12 : Int) < ((("ask" : Str) :: r).length : Int)) by omega)]
        rw [decide_eq_false h12, Bool.false_and] at k
        exact iteT (k H (Same.refl _))
    · rw [decide_eq_false h0]
      rw [show decide ((w0 :: r).head? = some "ask") = false from decide_eq_false (fun z => h0 (Option.some.inj z)), Bool.false_and] at k
      exact iteT (iteT (k H (Same.refl _)))
/-! ### is_ending -/
def spIE (K : PySem.W.Frag) : Sp := fun vs H Q _ => ∃ (a : Addr) (ws : List Str), vs = [.ref a] ∧ BdW ws ∧ SqT K H a (svs ws) ∧ ∀ H' : Hp, Same H H' → Q (.bl (isEnding ws)) H'
theorem scIE : FnScope ["words"] ["words"] (defScope sIE) := ⟨rfl, rfl, rfl, by decide +kernel, rfl, by decide +kernel, by decide +kernel⟩
theorem ok_ie (T : TxL K mg) : FnOk P w K mg base CX0 3 T.ie.f T.ie.fd ["words"] (spIE K) := by
  have GA : FnOk P w K mg base CX0 2 T.aw.f T.aw.fd ["words", "steps"] (spAW K) := ok_aw T
  obtain ⟨tm, me⟩ := T.me
  refine T.ie.F.ok scIE (fun vs H Q E h => ?_) (fun cdv A outer s H vs Q E hr h => ?_)
  · obtain ⟨a, ws, rfl, _⟩ := h
    rfl
  · obtain ⟨a, ws, rfl, bd, ha, k⟩ := h
    refine ⟨_, pss_one (ps_ret (pe_and (pe_cmpR op_le (pe_callB call_len_seq (by rfl) T.len PySem.boot_len (pa_cons (pv 0) pa_nil)) (pe_glob (v := .int 6) rfl me ⟨_, rfl⟩) (nomark _)) (pe_one (pe_call GA hr rfl T.aw.g T.aw.k T.aw.b .nil pass0 (pa_cons (pv 0) (pa_cons (pe_glob (v := .ref T.pE) rfl T.gE rfl) pa_nil)))))), ?_⟩
    refine ⟨_, rfl, a, _, rfl, .inr ha, _, _, rfl, rfl, _, rfl, ?_⟩
    have el : (svs ws).length = ws.length := List.length_map ..
    rw [el]
    unfold isEnding at k
    by_cases h6 : ws.length ≤ 6
    · rw [decide_eq_true (show ((ws.length : Int) ≤ 6) by omega)]
      rw [decide_eq_true h6, Bool.true_and] at k
      exact iteT ⟨_, rfl, a, T.pE, ws, esteps, rfl, bd, ha, T.lE _, k⟩
    · rw [decide_eq_false (show ¬ ((ws.length : Int) ≤ 6) by omega)]
      rw [decide_eq_false h6, Bool.false_and] at k
      exact iteF (k H (Same.refl _))
end
end My

/-! the class Loop: its making -/
namespace My
open PySem L2 Cm LM
abbrev sLI : Stmt := inClass (top 57) 0
section
variable {P : Program} {w : World} {K : PySem.W.Frag} {mg : Str → Option Value} {base : Heap}
/-! ### loops as objects -/
def lf (t : Str) (pr pe po pq : Addr) : List (Str × V) := putF "ending_orders" (.ref pq) (putF "round_orders" (.ref po) (putF "ending" (.ref pe) (putF "round" (.ref pr) (putF "text" (.str t) []))))
theorem lf_text (t : Str) (pr pe po pq : Addr) : (lf t pr pe po pq).lookup ("text" : Str) = some (.str t) := by
  unfold lf
  rw [lookup_putF, if_neg (by decide +kernel), lookup_putF, if_neg (by decide +kernel), lookup_putF, if_neg (by decide +kernel), lookup_putF, if_neg (by decide +kernel), lookup_putF, if_pos rfl]
theorem lf_round (t : Str) (pr pe po pq : Addr) : (lf t pr pe po pq).lookup ("round" : Str) = some (.ref pr) := by
  unfold lf
  rw [lookup_putF, if_neg (by decide +kernel), lookup_putF, if_neg (by decide +kernel), lookup_putF, if_neg (by decide +kernel), lookup_putF, if_pos rfl]
theorem lf_ending (t : Str) (pr pe po pq : Addr) : (lf t pr pe po pq).lookup ("ending" : Str) = some (.ref pe) := by
  unfold lf
  rw [lookup_putF, if_neg (by decide +kernel), lookup_putF, if_neg (by decide +kernel), lookup_putF, if_pos rfl]
theorem lf_ro (t : Str) (pr pe po pq : Addr) : (lf t pr pe po pq).lookup ("round_orders" : Str) = some (.ref po) := by
  unfold lf
  rw [lookup_putF, if_neg (by decide +kernel), lookup_putF, if_pos rfl]
theorem lf_eo (t : Str) (pr pe po pq : Addr) : (lf t pr pe po pq).lookup ("ending_orders" : Str) = some (.ref pq) := by
  unfold lf
  rw [lookup_putF, if_pos rfl]
theorem lf_no (t : Str) (pr pe po pq : Addr) {m : Str} (h1 : ¬ m = "ending_orders") (h2 : ¬ m = "round_orders") (h3 : ¬ m = "ending") (h4 : ¬ m = "round") (h5 : ¬ m = "text") : (lf t pr pe po pq).lookup m = none := by
  unfold lf
  rw [lookup_putF, if_neg h1, lookup_putF, if_neg h2, lookup_putF, if_neg h3, lookup_putF, if_neg h4, lookup_putF, if_neg h5]
  rfl
/-- rows of pairs of texts -/
inductive Prs (H : Hp) : List V → List (Str × Str) → Prop
  | nil : Prs H [] []
  | cons {p : Addr} {o : Str × Str} {xs : List V} {os : List (Str × Str)} (h : H p = some (.tup [.str o.1, .str o.2])) (t : Prs H xs os) : Prs H (.ref p :: xs) (o :: os)
theorem Prs.mono {H H' : Hp} (f : ∀ (p : Addr) (xs : List V), H p = some (.tup xs) → H' p = some (.tup xs)) : ∀ {xs os}, Prs H xs os → Prs H' xs os
  | _, _, .nil => .nil
  | _, _, .cons h t => .cons (f _ _ h) (t.mono f)
theorem Prs.same {H H' : Hp} (s : Same H H') {xs os} (h : Prs H xs os) : Prs H' xs os := h.mono fun _ _ q => s _ _ q
theorem Prs.snoc {H : Hp} {p : Addr} {o : Str × Str} (h : H p = some (.tup [.str o.1, .str o.2])) : ∀ {xs os}, Prs H xs os → Prs H (xs ++ [.ref p]) (os ++ [o])
  | _, _, .nil => .cons h .nil
  | _, _, .cons a t => .cons a (t.snoc h)
theorem Prs.len {H : Hp} : ∀ {xs os}, Prs H xs os → xs.length = os.length
  | _, _, .nil => rfl
  | _, _, .cons _ t => congrArg (· + 1) t.len
def Ords (H : Hp) (p : Addr) (ws : List Str) : Prop := ∃ xs, H p = some (.tup xs) ∧ Prs H xs (ws.map orderOf)
/-- a loop of this text stands at o -/
def LoopAt (C : Addr) (H : Hp) (o : Addr) (t : Str) : Prop := ∃ dx pr pe po pq, H o = some (.ins C dx (lf t pr pe po pq)) ∧ H pr = some (.tup (svs (wordsR t))) ∧ H pe = some (.tup (svs (wordsE t))) ∧ Ords H po (wordsR t) ∧ Ords H pq (wordsE t)
theorem Ords.mono {H H' : Hp} (f : ∀ (p : Addr) (xs : List V), H p = some (.tup xs) → H' p = some (.tup xs)) {p : Addr} {ws : List Str} (h : Ords H p ws) : Ords H' p ws := let ⟨xs, e, q⟩ := h; ⟨xs, f _ _ e, q.mono f⟩
theorem LoopAt.same {C : Addr} {H H' : Hp} {o : Addr} {t : Str} (s : Same H H') (h : LoopAt C H o t) : LoopAt C H' o t := let ⟨dx, pr, pe, po, pq, a, b, c, d, e⟩ := h; ⟨dx, pr, pe, po, pq, s _ _ a, s _ _ b, s _ _ c, d.mono fun _ _ z => s _ _ z, e.mono fun _ _ z => s _ _ z⟩
theorem LoopAt.off {C j : Addr} {H H' : Hp} {o : Addr} {t : Str} (s : Off j H H') (hj : Jar H j) (h : LoopAt C H o t) : LoopAt C H' o t := by
  obtain ⟨x, y, z, hj⟩ := hj
  have f : ∀ (p : Addr) (xs : List V), H p = some (.tup xs) → H' p = some (.tup xs) := fun p xs e => s _ _ (ne_of e hj (by intro z; cases z)) e
  obtain ⟨dx, pr, pe, po, pq, a, b, c, d, e⟩ := h
  exact ⟨dx, pr, pe, po, pq, s _ _ (ne_of a hj (by intro z; cases z)) a, f _ _ b, f _ _ c, d.mono f, e.mono f⟩
/-! ### the text of the class -/
structure TxC (K : PySem.W.Frag) (mg : Str → Option Value) where
  L : TxL K mg
  E : TxE K mg
  isi : mg "isinstance" = none
  str : mg "str" = none
  C : Addr
  gC : mg "Loop" = some (.ref C)
  cl : Cls K C
  nT : NoAttr K C "text"
  nR : NoAttr K C "round"
  nE : NoAttr K C "ending"
  nO : NoAttr K C "round_orders"
  nQ : NoAttr K C "ending_orders"
  fI : Addr
  fdI : FuncData
  FI : Fun K "__init__" "Loop.__init__" sLI fI fdI
  bI : Binds K fdI ["self", "text"] []
  MI : Mk K C fI
/-- v makes a loop -/
def good : V → Bool
  | .str t => goodText t
  | _ => false
def BdV : V → Prop
  | .str t => Bd t
  | _ => True
def spLI (K : PySem.W.Frag) (C CE : Addr) : Sp := fun vs H Q E => ∃ (x dx : Addr) (v : V), vs = [.ref x, v] ∧ H x = some (.ins C dx []) ∧ Typed K H v ∧ BdV v ∧
  (∀ t, v = .str t → goodText t = true → ∀ H' : Hp, Off x H H' → LoopAt C H' x t → Q .non H') ∧
  (good v = false → ∀ (H' : Hp) (d : Addr), Same H H' → H' d = none → E (.ref CE) (some d) (upd H' d (.xd [("value", v)])))
theorem scLI : FnScope ["self", "text", "first_words", "last_words", "word"] ["self", "text"] (defScope sLI) := ⟨rfl, rfl, rfl, by decide +kernel, rfl, by decide +kernel, by decide +kernel⟩
/-- [order_of(word) for word in words] -/
theorem ords_lc {K : PySem.W.Frag} {σ : St} {H1 : Hp} {D a : Addr} {ws : List Str} {Qd : Hp → Prop} (h4 : ∀ v, ((wipe σ [4]).set 4 (some v))[4]? = some (some v) ∧ wipe ((wipe σ [4]).set 4 (some v)) [4] = wipe σ [4])
    (ha : H1 a = some (.tup (svs ws))) (bd : BdW ws) (nD : H1 D = none) (hd : ∀ (H' : Hp) (xs : List V), Same H1 H' → H' D = some (.lst xs) → Prs H' xs (ws.map orderOf) → Qd H') :
    ∃ W : Nat → Nat → Hp → Prop, (∃ m, W 0 m (upd H1 D (.lst []))) ∧ ∀ (i m : Nat) (H : Hp), W i m H →
      ((Itt K a).stop i H ∧ Qd H) ∨ ((Itt K a).go i H ∧ ∃ Nx : Hp → Prop, (∀ H', Nx H' → ∃ m', m' < m ∧ W (i + 1) m' H') ∧ ∀ (x : V) (H' : Hp), (Itt K a).yld i H x H' → gName 4 x (wipe σ [4]) H' fun σ2 H2 => wipe σ2 [4] = wipe σ [4] ∧ tYes σ2 H2 fun b H3 =>
        if b = true then tCall spOO [] E0 (tCons (tVar 4) tNil) σ2 H3 fun y H4 => ∃ acc, H4 D = some (.lst acc) ∧ acc.length < sizeLine ∧ Nx (upd H4 D (.lst (acc ++ [y]))) else Nx H3) := by
  refine lc_tup (K := K) (a := a) (xs := svs ws) (fun i H' => Same H1 H' ∧ ∃ acc, H' D = some (.lst acc) ∧ Prs H' acc ((ws.take i).map orderOf)) ⟨same_new nD, [], upd_same, .nil⟩ (fun i H' _ ⟨s, _⟩ => SqT.of (s _ _ ha)) ?_ ?_
  · rintro i x H' hx ⟨s, acc, hD, hP⟩
    obtain ⟨z, hz, rfl⟩ := svs_get hx
    obtain ⟨z4, zw⟩ := h4 (.str z)
    refine ⟨zw, _, z4, z, rfl, bd.1 z (List.mem_of_getElem? hz), fun H2 p s2 np hp => ?_⟩
    have hD2 := s2 _ _ hD
    have st := tup_stays (o' := .lst (acc ++ [.ref p])) hD2 (by intro xs z; cases z)
    have la := hP.len
    rw [List.length_map, List.length_take] at la
    have := bd.2
    refine ⟨acc, hD2, szM (by omega), fun b o q => ?_, _, upd_same, ?_⟩
    · rw [upd_ne (ne_of_none q nD)]
      exact s2 _ _ (s _ _ q)
    · rw [take_snoc hz, List.map_append]
      exact Prs.snoc (st _ _ hp) ((hP.same s2).mono st)
  · rintro H' ⟨s, acc, hD, hP⟩
    have e : (svs ws).length = ws.length := List.length_map ..
    rw [e, List.take_length] at hP
    exact hd H' acc s hD hP
theorem ok_li (T : TxC K mg) : FnOk P w K mg base (L2.CX P w) 4 T.fI T.fdI ["self", "text"] (spLI K T.C T.E.C) := by
  have GW : FnOk P w K mg base CX0 1 T.L.wo.f T.L.wo.fd ["text"] spWO := ok_wo T.L
  have GO : FnOk P w K mg base CX0 1 T.L.oo.f T.L.oo.fd ["word"] spOO := ok_oo T.L
  have GR : FnOk P w K mg base CX0 3 T.L.ir.f T.L.ir.fd ["words"] (spIR K) := ok_ir T.L
  have GN : FnOk P w K mg base CX0 3 T.L.ie.f T.L.ie.fd ["words"] (spIE K) := ok_ie T.L
  have GE : FnOk P w K mg base CX0 1 T.E.f T.E.fd ["self", "value"] (spEI T.E.C) := ok_ei T.E
  refine T.FI.okX scLI (fun vs H Q E h => ?_) (fun cdv A outer s H vs Q E hr h => ?_)
  · obtain ⟨x, dx, v, rfl, _⟩ := h
    rfl
  · obtain ⟨x, dx, v, rfl, hx, ⟨t, ty, kt⟩, bd, kg, kb⟩ := h
    have hr1 : Room 1 _ := hr.mono (by decide)
    have hr2 : Room 2 _ := hr.mono (by decide)
    have ps : Bool := true
    refine ⟨_, pss_cons (ps_if (pt_not (pt_val (pe_callB call_isi (by rfl) T.isi (by decide +kernel) (pa_cons (pv 1) (pa_cons (pe_bltn (v := .ty "str") (by rfl) T.str (by decide +kernel) rfl) pa_nil))))) (pss_one (ps_raise rfl (takes_of rfl rfl rfl rfl) (pmk_oex T.E.o T.E.i T.E.t GE hr2 T.E.b .nil pass0 rfl T.E.g (pa_cons (pv 1) pa_nil)))) pss_nil)
      (pss_cons (ps_asg (pe_call GW hr1 rfl T.L.wo.g T.L.wo.k T.L.wo.b .nil pass0 (pa_cons (pv 1) pa_nil)) (pg_tup rfl (pgs_cons (pg_name (i := 2) scLI.nd rfl (.inl rfl)) (pgs_cons (pg_name (i := 3) scLI.nd rfl (.inl rfl)) pgs_nil))))
      (pss_cons (ps_if (PW.pt (pw_or (pt_not (pt_val (pe_call GR hr rfl T.L.ir.g T.L.ir.k T.L.ir.b .nil pass0 (pa_cons (pv 2) pa_nil)))) (pw_or1 (pt_not (pt_val (pe_call GN hr rfl T.L.ie.g T.L.ie.k T.L.ie.b .nil pass0 (pa_cons (pv 3) pa_nil)))))))
          (pss_one (ps_raise rfl (takes_of rfl rfl rfl rfl) (pmk_oex T.E.o T.E.i T.E.t GE hr2 T.E.b .nil pass0 rfl T.E.g (pa_cons (pv 1) pa_nil)))) pss_nil)
      (pss_cons (ps_fld (pv 0) (pv 1) rfl) (pss_cons (ps_fld (pv 0) (pv 2) rfl) (pss_cons (ps_fld (pv 0) (pv 3) rfl)
      (pss_cons (ps_fld (pv 0) (pe_callTy call_tuple_of (by rfl) T.L.tuple (by decide +kernel) (pa_cons (pe_lc (own := [("word", 4)]) (g := gName 4) (tt := tYes) (te := tCall spOO [] E0 (tCons (tVar 4) tNil)) rfl scLI.nd (pi_tup (pv 2)) (blkOk_by (own := [("word", 4)]) (N := ["self", "text", "first_words", "last_words", "word"]) (sc := defScope sLI) (by decide +kernel))
          (fun _ _ _ _ _ => pg_name (i := 4) scLI.nd rfl (Or.inl rfl)) (fun _ _ _ _ _ => pts_nil) (fun _ _ _ _ _ => by exact pe_call GO hr1 rfl T.L.oo.g T.L.oo.k T.L.oo.b .nil pass0 (pa_cons (pv 4) pa_nil))) pa_nil)) rfl)
      (pss_one (ps_fld (pv 0) (pe_callTy call_tuple_of (by rfl) T.L.tuple (by decide +kernel) (pa_cons (pe_lc (own := [("word", 4)]) (g := gName 4) (tt := tYes) (te := tCall spOO [] E0 (tCons (tVar 4) tNil)) rfl scLI.nd (pi_tup (pv 3)) (blkOk_by (own := [("word", 4)]) (N := ["self", "text", "first_words", "last_words", "word"]) (sc := defScope sLI) (by decide +kernel))
          (fun _ _ _ _ _ => pg_name (i := 4) scLI.nd rfl (Or.inl rfl)) (fun _ _ _ _ _ => pts_nil) (fun _ _ _ _ _ => by exact pe_call GO hr1 rfl T.L.oo.g T.L.oo.k T.L.oo.b .nil pass0 (pa_cons (pv 4) pa_nil))) pa_nil)) rfl)))))))), ?_⟩
    refine ⟨_, rfl, _, _, _, _, isS v, rfl, .ty "str", ty, kt, _, rfl, ?_⟩
    cases hs : isS v with
    | false =>
      refine iteT ?_
      have gv : good v = false := by
        cases v <;> first | rfl | cases hs
      exact mk_err (x := v) ⟨v, rfl, rfl, rfl⟩ (fun {R R'} ⟨v, e1, q⟩ f => ⟨v, e1, f _ _ q⟩) (kb gv H · (Same.refl _))
    | true =>
      obtain ⟨t, rfl⟩ : ∃ t, v = .str t := by
        cases v <;> first | exact ⟨_, rfl⟩ | cases hs
      have bd : Bd t := bd
      have kg := kg t rfl
      refine iteF ?_
      refine ⟨_, rfl, t, rfl, bd, fun H1 p a b s1 hp ha hb => ?_⟩
      refine ⟨p, _, rfl, SqT.of hp, rfl, _, _, rfl, _, _, rfl, rfl, ?_⟩
      have bR : BdW (wordsR t) := ⟨fun z hz => Nat.le_trans (wordsR_word hz) bd, Nat.le_trans (wordsR_len t) (by unfold Bd at bd; omega)⟩
      have bE : BdW (wordsE t) := ⟨fun z hz => Nat.le_trans (wordsE_word hz) bd, Nat.le_trans (wordsE_len t) (by unfold Bd at bd; omega)⟩
      refine ⟨_, rfl, a, wordsR t, rfl, wordsR_ne t, bR, SqT.of ha, fun H2 s2 => ?_⟩
      have gt : goodText t = (isRound (wordsR t) && isEnding (wordsE t)) := rfl
      have gv : good (.str t) = goodText t := rfl
      rw [gv] at kb
      refine ⟨_, rfl, ?_⟩
      cases h1 : isRound (wordsR t) with
      | false =>
        rw [gt, h1] at kb
        refine iteT (iteT ?_)
        exact mk_err (x := .str t) ⟨.str t, rfl, rfl, rfl⟩ (fun {R R'} ⟨v, e1, q⟩ f => ⟨v, e1, f _ _ q⟩) (kb rfl H2 · (Same.trans s1 s2))
      | true =>
        refine iteF ?_
        refine ⟨_, rfl, b, wordsE t, rfl, bE, SqT.of (s2 _ _ hb), fun H3 s3 => ?_⟩
        refine ⟨_, rfl, ?_⟩
        have s13 := Same.trans s1 (Same.trans s2 s3)
        cases h2 : isEnding (wordsE t) with
        | false =>
          rw [gt, h1, h2] at kb
          refine iteT ?_
          exact mk_err (x := .str t) ⟨.str t, rfl, rfl, rfl⟩ (fun {R R'} ⟨v, e1, q⟩ f => ⟨v, e1, f _ _ q⟩) (kb rfl H3 · s13)
        | true =>
          have kg := kg (by rw [gt, h1, h2]; rfl)
          refine iteF ?_
          have hx3 := s13 _ _ hx
          have ha3 := s3 _ _ (s2 _ _ ha)
          have hb3 := s3 _ _ (s2 _ _ hb)
          have o3 : Off x H H3 := Same.off s13
          clear s1 s2 s3 hp ha hb hx kb s13
          -- text
          refine ⟨_, rfl, _, rfl, x, T.C, dx, _, rfl, hx3, T.cl, T.nT, (by show 0 < 1000; decide), ?_⟩
          have st := tup_stays (o' := .ins T.C dx (putF "text" (.str t) [])) hx3 (by intro xs z; cases z)
          have hx4 : (upd H3 x (.ins T.C dx (putF "text" (.str t) []))) x = some (.ins T.C dx (putF "text" (.str t) [])) := upd_same
          have ha4 := st _ _ ha3
          have hb4 := st _ _ hb3
          have o4 : Off x H (upd H3 x (.ins T.C dx (putF "text" (.str t) []))) := o3.put
          generalize upd H3 x (.ins T.C dx (putF "text" (.str t) [])) = H4 at hx4 ha4 hb4 o4 ⊢
          clear st ha3 hb3 o3 hx3
          -- round
          refine ⟨_, rfl, _, rfl, x, T.C, dx, _, rfl, hx4, T.cl, T.nR, (by show 1 < 1000; decide), ?_⟩
          have st := tup_stays (o' := .ins T.C dx (putF "round" (.ref a) (putF "text" (.str t) []))) hx4 (by intro xs z; cases z)
          have hx5 : (upd H4 x (.ins T.C dx (putF "round" (.ref a) (putF "text" (.str t) [])))) x = some (.ins T.C dx (putF "round" (.ref a) (putF "text" (.str t) []))) := upd_same
          have ha5 := st _ _ ha4
          have hb5 := st _ _ hb4
          have o5 : Off x H (upd H4 x (.ins T.C dx (putF "round" (.ref a) (putF "text" (.str t) [])))) := o4.put
          generalize upd H4 x (.ins T.C dx (putF "round" (.ref a) (putF "text" (.str t) []))) = H5 at hx5 ha5 hb5 o5 ⊢
          clear st ha4 hb4 o4 hx4
          -- ending
          refine ⟨_, rfl, _, rfl, x, T.C, dx, _, rfl, hx5, T.cl, T.nE, Nat.lt_of_le_of_lt (putF_len _ _ _) (Nat.lt_of_le_of_lt (Nat.add_le_add_right (putF_len _ _ _) 1) (by decide)), ?_⟩
          have st := tup_stays (o' := .ins T.C dx (putF "ending" (.ref b) (putF "round" (.ref a) (putF "text" (.str t) [])))) hx5 (by intro xs z; cases z)
          have hx6 : (upd H5 x (.ins T.C dx (putF "ending" (.ref b) (putF "round" (.ref a) (putF "text" (.str t) []))))) x = some (.ins T.C dx (putF "ending" (.ref b) (putF "round" (.ref a) (putF "text" (.str t) [])))) := upd_same
          have ha6 := st _ _ ha5
          have hb6 := st _ _ hb5
          have o6 : Off x H (upd H5 x (.ins T.C dx (putF "ending" (.ref b) (putF "round" (.ref a) (putF "text" (.str t) []))))) := o5.put
          generalize upd H5 x (.ins T.C dx (putF "ending" (.ref b) (putF "round" (.ref a) (putF "text" (.str t) [])))) = H6 at hx6 ha6 hb6 o6 ⊢
          clear st ha5 hb5 o5 hx5
          -- round_orders
          refine ⟨_, rfl, a, rfl, ⟨_, SqT.of ha6⟩, fun D nD => ords_lc (K := K) (a := a) (ws := wordsR t) (fun v => ⟨rfl, rfl⟩) ha6 bR nD fun H7 os s7 hD hP => ?_⟩
          refine ⟨D, os, rfl, .inl ⟨SqL.of hD, fun po npo => ?_⟩⟩
          have s8 : Same H6 (upd H7 po (.tup os)) := Same.trans s7 (same_new npo)
          have hpo : (upd H7 po (.tup os)) po = some (.tup os) := upd_same
          have hP8 := hP.same (same_new (o := .tup os) npo)
          refine ⟨_, rfl, x, T.C, dx, _, rfl, s8 _ _ hx6, T.cl, T.nO, Nat.lt_of_le_of_lt (putF_len _ _ _) (Nat.lt_of_le_of_lt (Nat.add_le_add_right (putF_len _ _ _) 1) (Nat.lt_of_le_of_lt (Nat.add_le_add_right (Nat.add_le_add_right (putF_len _ _ _) 1) 1) (by decide))), ?_⟩
          generalize upd H7 po (.tup os) = H8 at s8 hpo hP8 ⊢
          have hx8 := s8 _ _ hx6
          have o8 : Off x H H8 := o6.trans (Same.off s8)
          have ha8 := s8 _ _ ha6
          have hb8 := s8 _ _ hb6
          clear ha6 hb6 o6 hx6 s8 hD hP npo s7 nD
          have st := tup_stays (o' := .ins T.C dx (putF "round_orders" (.ref po) (putF "ending" (.ref b) (putF "round" (.ref a) (putF "text" (.str t) []))))) hx8 (by intro xs z; cases z)
          have hx9 : (upd H8 x (.ins T.C dx (putF "round_orders" (.ref po) (putF "ending" (.ref b) (putF "round" (.ref a) (putF "text" (.str t) [])))))) x = some (.ins T.C dx (putF "round_orders" (.ref po) (putF "ending" (.ref b) (putF "round" (.ref a) (putF "text" (.str t) []))))) := upd_same
          have ha9 := st _ _ ha8
          have hb9 := st _ _ hb8
          have hpo9 : Ords _ po (wordsR t) := ⟨os, st _ _ hpo, hP8.mono st⟩
          have o9 : Off x H (upd H8 x (.ins T.C dx (putF "round_orders" (.ref po) (putF "ending" (.ref b) (putF "round" (.ref a) (putF "text" (.str t) [])))))) := o8.put
          generalize upd H8 x (.ins T.C dx (putF "round_orders" (.ref po) (putF "ending" (.ref b) (putF "round" (.ref a) (putF "text" (.str t) []))))) = H9 at hx9 ha9 hb9 o9 hpo9 ⊢
          clear st ha8 hb8 o8 hx8 hpo hP8
          -- ending_orders
          refine ⟨_, rfl, b, rfl, ⟨_, SqT.of hb9⟩, fun D nD => ords_lc (K := K) (a := b) (ws := wordsE t) (fun v => ⟨rfl, rfl⟩) hb9 bE nD fun H10 os2 s10 hD hP => ?_⟩
          refine ⟨D, os2, rfl, .inl ⟨SqL.of hD, fun pq npq => ?_⟩⟩
          have s11 : Same H9 (upd H10 pq (.tup os2)) := Same.trans s10 (same_new npq)
          have hpq : (upd H10 pq (.tup os2)) pq = some (.tup os2) := upd_same
          have hP11 := hP.same (same_new (o := .tup os2) npq)
          refine ⟨_, rfl, x, T.C, dx, _, rfl, s11 _ _ hx9, T.cl, T.nQ, Nat.lt_of_le_of_lt (putF_len _ _ _) (Nat.lt_of_le_of_lt (Nat.add_le_add_right (putF_len _ _ _) 1) (Nat.lt_of_le_of_lt (Nat.add_le_add_right (Nat.add_le_add_right (putF_len _ _ _) 1) 1) (Nat.lt_of_le_of_lt (Nat.add_le_add_right (Nat.add_le_add_right (Nat.add_le_add_right (putF_len _ _ _) 1) 1) 1) (by decide)))), ?_⟩
          generalize upd H10 pq (.tup os2) = H11 at s11 hpq hP11 ⊢
          have hx11 := s11 _ _ hx9
          have st := tup_stays (o' := .ins T.C dx (lf t a b po pq)) hx11 (by intro xs z; cases z)
          refine kg _ (Off.put (o9.trans (Same.off s11))) ⟨dx, a, b, po, pq, upd_same, st _ _ (s11 _ _ ha9), st _ _ (s11 _ _ hb9), (hpo9.mono fun _ _ z => s11 _ _ z).mono st, os2, st _ _ hpq, hP11.mono st⟩
end
end My

/-! what a loop does with a reply -/
namespace EM
open PySem L2
def ivs (xs : List Int) : List V := xs.map V.int
theorem ivs_len (xs : List Int) : (ivs xs).length = xs.length := List.length_map ..
/-- what the words of a round change -/
structure RP where
  rest : List Int
  pieces : List (List Int)
def passM (size : Nat) (held : List Int) (told : Bool) (t : Str) (rest : List Int) : Bool :=
  if t = "" then true
  else if t = "told" ∨ t = "open" then told == decide (t = "told")
  else if t = "rest" ∨ t = "bare" then decide (0 < rest.length) == decide (t = "rest")
  else if t = "empty" ∨ t = "some" then decide (0 < held.length) == decide (t = "some")
  else decide (held.length < size) == decide (t = "short")
def cutN (size : Nat) (rest : List Int) (n : Nat) : List (List Int) := (List.range n).map fun k => (rest.drop (k * size)).take size
def perfM (size : Nat) (held : List Int) (s : Str) (x : RP) : RP :=
  if s = "add" then ⟨x.rest ++ held, x.pieces⟩
  else if s = "hand" then ⟨x.rest, x.pieces ++ [held]⟩
  else if s = "cut" then ⟨x.rest.drop (x.rest.length / size * size), x.pieces ++ cutN size x.rest (x.rest.length / size)⟩
  else if s = "flush" then ⟨[], x.pieces ++ [x.rest]⟩
  else x
def runW (size : Nat) (held : List Int) (told : Bool) : List (Str × Str) → RP → RP × Bool
  | [], x => (x, false)
  | (t, s) :: r, x => if passM size held told t x.rest = true then (if s = "again" then (x, false) else if s = "stop" then (x, true) else runW size held told r (perfM size held s x)) else runW size held told r x
def endW (size : Nat) (held : List Int) (told : Bool) : List (Str × Str) → RP → RP
  | [], x => x
  | (t, s) :: r, x => endW size held told r (if passM size held told t x.rest = true then perfM size held s x else x)
def ansM (size : Nat) (ro eo : List (Str × Str)) (held : List Int) (told : Bool) (x : RP) : RP × Bool :=
  if (runW size held told ro x).2 = true then (endW size held told eo (runW size held told ro x).1, true) else ((runW size held told ro x).1, false)
/-! ### bounds -/
/-- the rest has at most k sizes of items, and there are at most c pieces -/
def Few (size k c : Nat) (x : RP) : Prop := x.rest.length ≤ k * size ∧ x.pieces.length ≤ c
theorem Few.mono {size k c k' c' : Nat} {x : RP} (h : Few size k c x) (hk : k ≤ k') (hc : c ≤ c') : Few size k' c' x := ⟨Nat.le_trans h.1 (Nat.mul_le_mul_right _ hk), Nat.le_trans h.2 hc⟩
theorem few_perf {size k c : Nat} {held : List Int} {s : Str} {x : RP} (hs : 1 ≤ size) (hh : held.length ≤ size) (h : Few size k c x) : Few size (k + 1) (c + (k + 1)) (perfM size held s x) := by
  have e : (k + 1) * size = k * size + size := Nat.succ_mul k size
  have q : x.rest.length / size ≤ k := by
    have := Nat.div_le_div_right (c := size) h.1
    rwa [Nat.mul_div_cancel _ (by omega)] at this
  obtain ⟨h1, h2⟩ := h
  unfold perfM Few
  split
  · refine ⟨?_, by show x.pieces.length ≤ _; omega⟩
    show (x.rest ++ held).length ≤ _
    rw [List.length_append]
    omega
  · split
    · refine ⟨by show x.rest.length ≤ _; omega, ?_⟩
      show (x.pieces ++ [held]).length ≤ _
      rw [List.length_append]
      show x.pieces.length + 1 ≤ _
      omega
    · split
      · refine ⟨?_, ?_⟩
        · show (x.rest.drop _).length ≤ _
          rw [List.length_drop]
          omega
        · show (x.pieces ++ cutN size x.rest (x.rest.length / size)).length ≤ _
          rw [List.length_append, cutN, List.length_map, List.length_range]
          omega
      · split
        · refine ⟨Nat.zero_le _, ?_⟩
          show (x.pieces ++ [x.rest]).length ≤ _
          rw [List.length_append]
          show x.pieces.length + 1 ≤ _
          omega
        · exact ⟨by omega, by omega⟩
theorem few_run {size : Nat} {held : List Int} {told : Bool} (hs : 1 ≤ size) (hh : held.length ≤ size) : ∀ (ro : List (Str × Str)) (k c : Nat) (x : RP), Few size k c x → Few size (k + ro.length) (c + ro.length * (k + ro.length)) (runW size held told ro x).1
  | [], k, c, x, h => by simpa [runW] using h
  | (t, s) :: r, k, c, x, h => by
    have m : Few size (k + (r.length + 1)) (c + (r.length + 1) * (k + (r.length + 1))) x := h.mono (by omega) (by omega)
    unfold runW
    rw [List.length_cons]
    split
    · split
      · exact m
      · split
        · exact m
        · have ih := few_run (told := told) hs hh r (k + 1) (c + (k + 1)) _ (few_perf (s := s) hs hh h)
          refine ih.mono (by omega) ?_
          rw [Nat.succ_mul]
          have e1 : k + 1 + r.length = k + (r.length + 1) := by omega
          rw [e1]
          omega
    · have ih := few_run (told := told) hs hh r k c x h
      refine ih.mono (by omega) ?_
      have : r.length * (k + r.length) ≤ (r.length + 1) * (k + (r.length + 1)) := Nat.mul_le_mul (by omega) (by omega)
      omega
theorem few_end {size : Nat} {held : List Int} {told : Bool} (hs : 1 ≤ size) (hh : held.length ≤ size) : ∀ (eo : List (Str × Str)) (k c : Nat) (x : RP), Few size k c x → Few size (k + eo.length) (c + eo.length * (k + eo.length)) (endW size held told eo x)
  | [], k, c, x, h => by simpa [endW] using h
  | (t, s) :: r, k, c, x, h => by
    unfold endW
    rw [List.length_cons]
    have h2 : Few size (k + 1) (c + (k + 1)) (if passM size held told t x.rest = true then perfM size held s x else x) := by
      split
      · exact few_perf hs hh h
      · exact h.mono (by omega) (by omega)
    have ih := few_end (told := told) hs hh r (k + 1) (c + (k + 1)) _ h2
    refine ih.mono (by omega) ?_
    rw [Nat.succ_mul]
    have e1 : k + 1 + r.length = k + (r.length + 1) := by omega
    rw [e1]
    omega
/-- after one reply -/
theorem few_ans {size : Nat} {ro eo : List (Str × Str)} {held : List Int} {told : Bool} {k c : Nat} {x : RP} (hs : 1 ≤ size) (hh : held.length ≤ size) (l1 : ro.length ≤ 12) (l2 : eo.length ≤ 6) (h : Few size k c x) :
    Few size (k + 18) (c + 18 * (k + 18)) (ansM size ro eo held told x).1 := by
  have a := few_run (told := told) hs hh ro k c x h
  have a1 : Few size (k + 12) (c + 12 * (k + 12)) (runW size held told ro x).1 := a.mono (by omega) (Nat.add_le_add_left (Nat.mul_le_mul l1 (by omega)) _)
  unfold ansM
  split
  · have b := few_end (told := told) hs hh eo _ _ _ a1
    refine b.mono (by omega) ?_
    have : eo.length * (k + 12 + eo.length) ≤ 6 * (k + 18) := Nat.mul_le_mul l2 (by omega)
    omega
  · exact a1.mono (by omega) (by omega)
end EM

/-! the class Execution -/
namespace My
open PySem L2 Cm LM EM
abbrev sXI : Stmt := inClass (top 43) 0
abbrev sXA : Stmt := inClass (top 43) 1
abbrev sXF : Stmt := inClass (top 43) 3
abbrev sXP : Stmt := inClass (top 43) 4
abbrev sXR : Stmt := inClass (top 43) 5
abbrev sXC : Stmt := inClass (top 43) 6
/-! ### the data -/
def xf (ro eo : Addr) (ak sz : Nat) (h : Addr) (t : Bool) (r p : Addr) (st : Bool) : List (Str × V) := [("round_orders", .ref ro), ("ending_orders", .ref eo), ("size", .int sz), ("held", .ref h), ("told", .bl t), ("kept", .ref r), ("handed", .ref p), ("asked", .int ak), ("over", .bl st)]
section
variable (ro eo h r p h' : Addr) (ak ak' sz : Nat) (t st b : Bool)
theorem xf_ro : (xf ro eo ak sz h t r p st).lookup ("round_orders" : Str) = some (.ref ro) := by kernel_rfl
theorem xf_eo : (xf ro eo ak sz h t r p st).lookup ("ending_orders" : Str) = some (.ref eo) := by kernel_rfl
theorem xf_sz : (xf ro eo ak sz h t r p st).lookup ("size" : Str) = some (.int sz) := by kernel_rfl
theorem xf_h : (xf ro eo ak sz h t r p st).lookup ("held" : Str) = some (.ref h) := by kernel_rfl
theorem xf_t : (xf ro eo ak sz h t r p st).lookup ("told" : Str) = some (.bl t) := by kernel_rfl
theorem xf_r : (xf ro eo ak sz h t r p st).lookup ("kept" : Str) = some (.ref r) := by kernel_rfl
theorem xf_p : (xf ro eo ak sz h t r p st).lookup ("handed" : Str) = some (.ref p) := by kernel_rfl
theorem xf_st : (xf ro eo ak sz h t r p st).lookup ("over" : Str) = some (.bl st) := by kernel_rfl
theorem put_h : putF "held" (.ref h') (xf ro eo ak sz h t r p st) = xf ro eo ak sz h' t r p st := by kernel_rfl
theorem put_t : putF "told" (.bl b) (xf ro eo ak sz h t r p st) = xf ro eo ak sz h b r p st := by kernel_rfl
theorem put_r : putF "kept" (.ref h') (xf ro eo ak sz h t r p st) = xf ro eo ak sz h t h' p st := by kernel_rfl
theorem xf_ak : (xf ro eo ak sz h t r p st).lookup ("asked" : Str) = some (.int ak) := by kernel_rfl
theorem put_ak : putF "asked" (.int ak') (xf ro eo ak sz h t r p st) = xf ro eo ak' sz h t r p st := by kernel_rfl
theorem put_st : putF "over" (.bl b) (xf ro eo ak sz h t r p st) = xf ro eo ak sz h t r p b := by kernel_rfl
theorem xf_mk : putF "over" (.bl st) (putF "asked" (.int ak) (putF "handed" (.ref p) (putF "kept" (.ref r) (putF "told" (.bl t) (putF "held" (.ref h) (putF "size" (.int sz) (putF "ending_orders" (.ref eo) (putF "round_orders" (.ref ro) [])))))))) = xf ro eo ak sz h t r p st := by kernel_rfl
theorem xf_len : (xf ro eo ak sz h t r p st).length = 9 := rfl
theorem xf_noA : (xf ro eo ak sz h t r p st).lookup ("answer" : Str) = none ∧ (xf ro eo ak sz h t r p st).lookup ("finish" : Str) = none ∧ (xf ro eo ak sz h t r p st).lookup ("passes" : Str) = none ∧ (xf ro eo ak sz h t r p st).lookup ("perform" : Str) = none ∧ (xf ro eo ak sz h t r p st).lookup ("cut_off" : Str) = none ∧ (xf ro eo ak sz h t r p st).lookup ("answer_nothing" : Str) = none := ⟨by kernel_rfl, by kernel_rfl, by kernel_rfl, by kernel_rfl, by kernel_rfl, by kernel_rfl⟩
end
/-- rows of pieces -/
inductive Pcs (H : Hp) : List V → List (List Int) → Prop
  | nil : Pcs H [] []
  | cons {q : Addr} {x : List Int} {vs : List V} {xs : List (List Int)} (h : H q = some (.tup (ivs x))) (t : Pcs H vs xs) : Pcs H (.ref q :: vs) (x :: xs)
theorem Pcs.mono {H H' : Hp} (f : ∀ (p : Addr) (xs : List V), H p = some (.tup xs) → H' p = some (.tup xs)) : ∀ {vs xs}, Pcs H vs xs → Pcs H' vs xs
  | _, _, .nil => .nil
  | _, _, .cons h t => .cons (f _ _ h) (t.mono f)
theorem Pcs.snoc {H : Hp} {q : Addr} {x : List Int} (h : H q = some (.tup (ivs x))) : ∀ {vs xs}, Pcs H vs xs → Pcs H (vs ++ [.ref q]) (xs ++ [x])
  | _, _, .nil => .cons h .nil
  | _, _, .cons a t => .cons a (t.snoc h)
theorem Pcs.len {H : Hp} : ∀ {vs xs}, Pcs H vs xs → vs.length = xs.length
  | _, _, .nil => rfl
  | _, _, .cons _ t => congrArg (· + 1) t.len
/-- tuples stay -/
def TS (H H' : Hp) : Prop := ∀ (p : Addr) (xs : List V), H p = some (.tup xs) → H' p = some (.tup xs)
theorem TS.refl {H : Hp} : TS H H := fun _ _ e => e
theorem TS.trans {H H1 H2 : Hp} (a : TS H H1) (b : TS H1 H2) : TS H H2 := fun p xs e => b p xs (a p xs e)
theorem Same.ts {H H' : Hp} (s : Same H H') : TS H H' := fun _ _ e => s _ _ e
/-- an execution stands at o, its pieces at p -/
structure ExAt (C : Addr) (H : Hp) (o dx ro eo p : Addr) (ak sz : Nat) (held : List Int) (told : Bool) (x : RP) (st : Bool) : Prop where
  ex : ∃ h r vs, H o = some (.ins C dx (xf ro eo ak sz h told r p st)) ∧ H h = some (.tup (ivs held)) ∧ H r = some (.tup (ivs x.rest)) ∧ H p = some (.lst vs) ∧ Pcs H vs x.pieces
theorem ExAt.same {C : Addr} {H H' : Hp} {o dx ro eo p : Addr} {ak sz : Nat} {held : List Int} {told : Bool} {x : RP} {st : Bool} (s : Same H H') (h : ExAt C H o dx ro eo p ak sz held told x st) : ExAt C H' o dx ro eo p ak sz held told x st := by
  obtain ⟨h', r, vs, a, b, c, d, e⟩ := h.ex
  exact ⟨h', r, vs, s _ _ a, s _ _ b, s _ _ c, s _ _ d, e.mono fun _ _ q => s _ _ q⟩
/-- all but what stands at o and at p is as it was -/
def Off2 (o p : Addr) (H H' : Hp) : Prop := ∀ b u, b ≠ o → b ≠ p → H b = some u → H' b = some u
theorem Off2.refl {o p : Addr} {H : Hp} : Off2 o p H H := fun _ _ _ _ e => e
theorem Off2.trans {o p : Addr} {H H1 H2 : Hp} (a : Off2 o p H H1) (b : Off2 o p H1 H2) : Off2 o p H H2 := fun c u n m e => b c u n m (a c u n m e)
theorem Off2.same {o p : Addr} {H H1 H2 : Hp} (a : Off2 o p H H1) (s : Same H1 H2) : Off2 o p H H2 := fun c u n m e => s _ _ (a c u n m e)
theorem Off2.putO {o p : Addr} {H H1 : Hp} {u : HO} (a : Off2 o p H H1) : Off2 o p H (upd H1 o u) := fun c u n m e => by
  rw [upd_ne n]
  exact a c u n m e
theorem Off2.putP {o p : Addr} {H H1 : Hp} {u : HO} (a : Off2 o p H H1) : Off2 o p H (upd H1 p u) := fun c u n m e => by
  rw [upd_ne m]
  exact a c u n m e
structure TxX (K : PySem.W.Frag) (mg : Str → Option Value) where
  len : mg "len" = none
  range : mg "range" = none
  C : Addr
  gC : mg "Execution" = some (.ref C)
  cl : Cls K C
  nRo : NoAttr K C "round_orders"
  nEo : NoAttr K C "ending_orders"
  nSz : NoAttr K C "size"
  nH : NoAttr K C "held"
  nT : NoAttr K C "told"
  nR : NoAttr K C "kept"
  nP : NoAttr K C "handed"
  nA : NoAttr K C "asked"
  nSt : NoAttr K C "over"
  fI : Addr
  fdI : FuncData
  FI : Fun K "__init__" "Execution.__init__" sXI fI fdI
  bI : Binds K fdI ["self", "round_orders", "ending_orders", "size", "kept"] []
  MI : Mk K C fI
  an : Mt K C "answer" "Execution.answer" sXA ["self", "held", "told"]
  fi : Mt K C "finish" "Execution.finish" sXF ["self"]
  ps : Mt K C "passes" "Execution.passes" sXP ["self", "test"]
  pf : Mt K C "perform" "Execution.perform" sXR ["self", "step"]
  co : Mt K C "cut_off" "Execution.cut_off" sXC ["self"]
section
variable {P : Program} {w : World} {K : PySem.W.Frag} {mg : Str → Option Value} {base : Heap}
/-! ### __init__ -/
def spXI (C : Addr) : Sp := fun vs H Q _ => ∃ (o dx ro eo r : Addr) (sz : Nat) (rest : List Int), vs = [.ref o, .ref ro, .ref eo, .int sz, .ref r] ∧ H o = some (.ins C dx []) ∧ H r = some (.tup (ivs rest)) ∧
  ∀ (H' : Hp) (p : Addr), Off o H H' → H p = none → ExAt C H' o dx ro eo p 0 sz [] false ⟨rest, []⟩ false → Q .non H'
theorem scXI : FnScope ["self", "round_orders", "ending_orders", "size", "kept"] ["self", "round_orders", "ending_orders", "size", "kept"] (defScope sXI) := ⟨rfl, rfl, rfl, by decide +kernel, rfl, by decide +kernel, by decide +kernel⟩
theorem small8 {fs : List (Str × V)} (h : fs.length ≤ 8) : fs.length < 1000 := by omega
theorem putF8 {f : Str} {v : V} {fs : List (Str × V)} {n : Nat} (h : fs.length ≤ n) : (putF f v fs).length ≤ n + 1 := Nat.le_trans (putF_len f v fs) (by omega)
theorem ok_xi (T : TxX K mg) : FnOk P w K mg base CX0 1 T.fI T.fdI ["self", "round_orders", "ending_orders", "size", "kept"] (spXI T.C) := by
  refine T.FI.ok scXI (fun vs H Q E h => ?_) (fun cdv A outer s H vs Q E hr h => ?_)
  · obtain ⟨o, dx, ro, eo, r, sz, rest, rfl, _⟩ := h
    rfl
  · obtain ⟨o, dx, ro, eo, r, sz, rest, rfl, ho, hr', k⟩ := h
    refine ⟨_, pss_cons (ps_fld (pv 0) (pv 1) rfl) (pss_cons (ps_fld (pv 0) (pv 2) rfl) (pss_cons (ps_fld (pv 0) (pv 3) rfl) (pss_cons (ps_fld (pv 0) (pe_tup pa_nil) rfl) (pss_cons (ps_fld (pv 0) pe_bl rfl) (pss_cons (ps_fld (pv 0) (pv 4) rfl)
      (pss_cons (ps_fld (pv 0) (pe_lst pa_nil) rfl) (pss_cons (ps_fld (pv 0) pe_int rfl) (pss_one (ps_fld (pv 0) pe_bl rfl))))))))), ?_⟩
    have l0 : ([] : List (Str × V)).length ≤ 0 := Nat.le_refl _
    refine ⟨_, rfl, _, rfl, o, T.C, dx, _, rfl, ho, T.cl, T.nRo, by decide, ?_⟩
    refine ⟨_, rfl, _, rfl, o, T.C, dx, _, rfl, upd_same, T.cl, T.nEo, Nat.lt_of_le_of_lt (putF8 l0) (by decide), ?_⟩
    refine ⟨_, rfl, _, rfl, o, T.C, dx, _, rfl, upd_same, T.cl, T.nSz, Nat.lt_of_le_of_lt (putF8 (putF8 l0)) (by decide), ?_⟩
    refine ⟨Nat.zero_le _, fun h nh => ?_⟩
    have no : h ≠ o := fun z => by rw [z, upd_same] at nh; cases nh
    refine ⟨_, rfl, o, T.C, dx, _, rfl, (by rw [upd_ne no.symm]; exact upd_same), T.cl, T.nH, Nat.lt_of_le_of_lt (putF8 (putF8 (putF8 l0))) (by decide), ?_⟩
    refine ⟨_, rfl, o, T.C, dx, _, rfl, upd_same, T.cl, T.nT, Nat.lt_of_le_of_lt (putF8 (putF8 (putF8 (putF8 l0)))) (by decide), ?_⟩
    refine ⟨_, rfl, _, rfl, o, T.C, dx, _, rfl, upd_same, T.cl, T.nR, Nat.lt_of_le_of_lt (putF8 (putF8 (putF8 (putF8 (putF8 l0))))) (by decide), ?_⟩
    refine ⟨Nat.zero_le _, fun p np => ?_⟩
    have po : p ≠ o := fun z => by rw [z, upd_same] at np; cases np
    refine ⟨_, rfl, o, T.C, dx, _, rfl, (by rw [upd_ne po.symm]; exact upd_same), T.cl, T.nP, Nat.lt_of_le_of_lt (putF8 (putF8 (putF8 (putF8 (putF8 (putF8 l0)))))) (by decide), ?_⟩
    refine ⟨_, rfl, o, T.C, dx, _, rfl, upd_same, T.cl, T.nA, Nat.lt_of_le_of_lt (putF8 (putF8 (putF8 (putF8 (putF8 (putF8 (putF8 l0))))))) (by decide), ?_⟩
    refine ⟨_, rfl, o, T.C, dx, _, rfl, upd_same, T.cl, T.nSt, Nat.lt_of_le_of_lt (putF8 (putF8 (putF8 (putF8 (putF8 (putF8 (putF8 (putF8 l0)))))))) (by decide), ?_⟩
    rw [show V.int 0 = V.int ((0 : Nat) : Int) from rfl, xf_mk]
    rw [upd_ne po, upd_ne po, upd_ne po] at np
    have ph : p ≠ h := fun z => by rw [z, upd_same] at np; cases np
    rw [upd_ne ph, upd_ne po, upd_ne po, upd_ne po] at np
    rw [upd_ne no, upd_ne no, upd_ne no] at nh
    have r1 : r ≠ o := ne_of hr' ho (by intro z; cases z)
    have r2 : r ≠ h := ne_of_none hr' nh
    have r3 : r ≠ p := ne_of_none hr' np
    refine k _ p (fun b u nb e => ?_) np ⟨h, r, [], upd_same, ?_, ?_, ?_, .nil⟩
    · have b2 : b ≠ h := ne_of_none e nh
      have b3 : b ≠ p := ne_of_none e np
      rw [upd_ne nb, upd_ne nb, upd_ne nb, upd_ne b3, upd_ne nb, upd_ne nb, upd_ne nb, upd_ne b2, upd_ne nb, upd_ne nb, upd_ne nb]
      exact e
    · rw [upd_ne no, upd_ne no, upd_ne no, upd_ne ph.symm, upd_ne no, upd_ne no, upd_ne no, upd_same]
      rfl
    · rw [upd_ne r1, upd_ne r1, upd_ne r1, upd_ne r3, upd_ne r1, upd_ne r1, upd_ne r1, upd_ne r2, upd_ne r1, upd_ne r1, upd_ne r1]
      exact hr'
    · rw [upd_ne po, upd_ne po, upd_ne po, upd_same]
end
end My

namespace My
open PySem L2 Cm LM EM
theorem in2 (t a b : Str) : inV (.str t) [.str a, .str b] = decide (t = a ∨ t = b) := by
  have e : inV (.str t) [.str a, .str b] = decide (t ∈ [a, b]) := inV_svs t [a, b]
  rw [e]
  exact decide_eq_decide.mpr (by simp)
theorem rgC_up {q s : Nat} (hs : 1 ≤ s) (h1 : s ≤ 1000) (h2 : q * s ≤ 4000000) : RgC 0 ((q * s : Nat) : Int) (s : Int) q := by
  have sz : Builtin.Range.rangeSize 0 ((q * s : Nat) : Int) (s : Int) = (q : Int) := by
    rw [PyProof.Rows.rangeSize_pos (by omega) (by omega)]
    have e : ((q * s : Nat) : Int) + (s : Int) - 1 = ((s : Int) - 1) + (q : Int) * (s : Int) := by
      rw [Int.natCast_mul]
      omega
    rw [e, Int.add_mul_ediv_right _ _ (by omega), Int.ediv_eq_zero_of_lt (by omega) (by omega)]
    omega
  refine ⟨by omega, by omega, ?_, sz⟩
  have hq : q ≤ 4000000 := Nat.le_trans (Nat.le_mul_of_pos_right q hs) h2
  unfold Builtin.Range.small
  rw [sz]
  generalize q * s = m at h2 ⊢
  simp only [Builtin.Range.rangeFitsLong, Bool.and_eq_true, Bool.or_eq_true, decide_eq_true_eq, beq_iff_eq, show (s : Int) > 0 by omega, if_true]
  omega
section
variable {P : Program} {w : World} {K : PySem.W.Frag} {mg : Str → Option Value} {base : Heap}
/-! ### passes -/
def spXP (C : Addr) : Sp := fun vs H Q _ => ∃ (o dx ro eo p : Addr) (ak sz : Nat) (held : List Int) (told : Bool) (x : RP) (st : Bool) (t : Str), vs = [.ref o, .str t] ∧ ExAt C H o dx ro eo p ak sz held told x st ∧ ∀ H', Same H H' → Q (.bl (passM sz held told t x.rest)) H'
theorem scXP : FnScope ["self", "test"] ["self", "test"] (defScope sXP) := ⟨rfl, rfl, rfl, by decide +kernel, rfl, by decide +kernel, by decide +kernel⟩
theorem pos_dec (n : Nat) : decide ((n : Int) > 0) = decide (0 < n) := decide_eq_decide.mpr ⟨fun z => by omega, fun z => by omega⟩
theorem lt_dec (n m : Nat) : decide ((n : Int) < (m : Int)) = decide (n < m) := decide_eq_decide.mpr ⟨fun z => by omega, fun z => by omega⟩
theorem ok_xp (T : TxX K mg) : FnOk P w K mg base CX0 1 T.ps.f T.ps.fd ["self", "test"] (spXP T.C) := by
  refine T.ps.F.ok scXP (fun vs H Q E h => ?_) (fun cdv A outer s H vs Q E hr h => ?_)
  · obtain ⟨o, dx, ro, eo, p, ak, sz, held, told, x, st, t, rfl, _⟩ := h
    rfl
  · obtain ⟨o, dx, ro, eo, p, ak, sz, held, told, x, st, t, rfl, hX, k⟩ := h
    refine ⟨_, pss_cons (ps_if (pt_cmpR op_eq (pv 1) pe_str (nomark _)) (pss_one (ps_ret pe_bl)) pss_nil)
      (pss_cons (ps_if (pt_cmpR op_in_seq (pv 1) (pe_tup (pa_cons pe_str (pa_cons pe_str pa_nil))) (by rfl)) (pss_one (ps_ret (pe_cmpR op_eq (pe_fld (pv 0) rfl) (pe_cmpR op_eq (pv 1) pe_str (nomark _)) (nomark _)))) pss_nil)
      (pss_cons (ps_if (pt_cmpR op_in_seq (pv 1) (pe_tup (pa_cons pe_str (pa_cons pe_str pa_nil))) (by rfl)) (pss_one (ps_ret (pe_cmpR op_eq (pe_cmpR op_gt (pe_callB call_len_seq (by rfl) T.len PySem.boot_len (pa_cons (pe_fld (pv 0) rfl) pa_nil)) pe_int (nomark _)) (pe_cmpR op_eq (pv 1) pe_str (nomark _)) (nomark _)))) pss_nil)
      (pss_cons (ps_if (pt_cmpR op_in_seq (pv 1) (pe_tup (pa_cons pe_str (pa_cons pe_str pa_nil))) (by rfl)) (pss_one (ps_ret (pe_cmpR op_eq (pe_cmpR op_gt (pe_callB call_len_seq (by rfl) T.len PySem.boot_len (pa_cons (pe_fld (pv 0) rfl) pa_nil)) pe_int (nomark _)) (pe_cmpR op_eq (pv 1) pe_str (nomark _)) (nomark _)))) pss_nil)
      (pss_one (ps_ret (pe_cmpR op_eq (pe_cmpR op_lt (pe_callB call_len_seq (by rfl) T.len PySem.boot_len (pa_cons (pe_fld (pv 0) rfl) pa_nil)) (pe_fld (pv 0) rfl) (nomark _)) (pe_cmpR op_eq (pv 1) pe_str (nomark _)) (nomark _))))))), ?_⟩
    unfold passM at k
    refine ⟨_, rfl, rfl, _, rfl, ?_⟩
    rw [dS]
    by_cases h0 : t = ""
    · rw [decide_eq_true h0]
      rw [if_pos h0] at k
      exact iteT (k H (Same.refl _))
    rw [decide_eq_false h0]
    rw [if_neg h0] at k
    refine iteF ?_
    refine ⟨_, rfl, (by show 2 ≤ sizeLine; decide), fun t1 n1 => ⟨t1, _, rfl, .inr (SqT.of upd_same), rfl, rfl, _, rfl, ?_⟩⟩
    have s1 : Same H (upd H t1 (.tup [.str "told", .str "open"])) := same_new n1
    generalize upd H t1 (.tup [.str "told", .str "open"]) = H1 at s1 ⊢
    have X1 := hX.same s1
    obtain ⟨h, r, vs, eo1, hh1, hr1, hp1, _⟩ := id X1.ex
    rw [show (if false = true then !inV (V.str t) [V.str "told", V.str "open"] else inV (V.str t) [V.str "told", V.str "open"]) = decide (t = "told" ∨ t = "open") from in2 ..]
    by_cases h1 : t = "told" ∨ t = "open"
    · rw [decide_eq_true h1]
      rw [if_pos h1] at k
      refine iteT ⟨_, rfl, o, T.C, dx, _, _, rfl, eo1, T.cl, T.nT, xf_t .., _, rfl, rfl, rfl, ?_⟩
      rw [dS, dB]
      exact k H1 s1
    rw [decide_eq_false h1]
    rw [if_neg h1] at k
    refine iteF ?_
    refine ⟨_, rfl, (by show 2 ≤ sizeLine; decide), fun t2 n2 => ⟨t2, _, rfl, .inr (SqT.of upd_same), rfl, rfl, _, rfl, ?_⟩⟩
    have s2 : Same H (upd H1 t2 (.tup [.str "rest", .str "bare"])) := Same.trans s1 (same_new n2)
    generalize upd H1 t2 (.tup [.str "rest", .str "bare"]) = H2 at s2 ⊢
    have X2 := hX.same s2
    clear eo1 hh1 hr1 hp1 X1
    obtain ⟨h, r, vs, eo1, hh1, hr1, hp1, _⟩ := id X2.ex
    rw [show (if false = true then !inV (V.str t) [V.str "rest", V.str "bare"] else inV (V.str t) [V.str "rest", V.str "bare"]) = decide (t = "rest" ∨ t = "bare") from in2 ..]
    by_cases h2 : t = "rest" ∨ t = "bare"
    · rw [decide_eq_true h2]
      rw [if_pos h2] at k
      refine iteT ⟨_, rfl, o, T.C, dx, _, _, rfl, eo1, T.cl, T.nR, xf_r .., r, _, rfl, .inr (SqT.of hr1), _, _, rfl, rfl, _, rfl, rfl, rfl, ?_⟩
      rw [dS, dB, ivs_len, pos_dec]
      exact k H2 s2
    rw [decide_eq_false h2]
    rw [if_neg h2] at k
    refine iteF ?_
    refine ⟨_, rfl, (by show 2 ≤ sizeLine; decide), fun t3 n3 => ⟨t3, _, rfl, .inr (SqT.of upd_same), rfl, rfl, _, rfl, ?_⟩⟩
    have s3 : Same H (upd H2 t3 (.tup [.str "empty", .str "some"])) := Same.trans s2 (same_new n3)
    generalize upd H2 t3 (.tup [.str "empty", .str "some"]) = H3 at s3 ⊢
    have X3 := hX.same s3
    clear eo1 hh1 hr1 hp1 X2
    obtain ⟨h, r, vs, eo1, hh1, hr1, hp1, _⟩ := id X3.ex
    rw [show (if false = true then !inV (V.str t) [V.str "empty", V.str "some"] else inV (V.str t) [V.str "empty", V.str "some"]) = decide (t = "empty" ∨ t = "some") from in2 ..]
    by_cases h3 : t = "empty" ∨ t = "some"
    · rw [decide_eq_true h3]
      rw [if_pos h3] at k
      refine iteT ⟨_, rfl, o, T.C, dx, _, _, rfl, eo1, T.cl, T.nH, xf_h .., h, _, rfl, .inr (SqT.of hh1), _, _, rfl, rfl, _, rfl, rfl, rfl, ?_⟩
      rw [dS, dB, ivs_len, pos_dec]
      exact k H3 s3
    rw [decide_eq_false h3]
    rw [if_neg h3] at k
    refine iteF ?_
    refine ⟨_, rfl, o, T.C, dx, _, _, rfl, eo1, T.cl, T.nH, xf_h .., h, _, rfl, .inr (SqT.of hh1), _, rfl, o, T.C, dx, _, _, rfl, eo1, T.cl, T.nSz, xf_sz .., _, _, rfl, rfl, _, rfl, rfl, rfl, ?_⟩
    rw [dS, dB, ivs_len, lt_dec]
    exact k H3 s3
/-! ### cut_off -/
/-- not too much -/
structure Fit (sz : Nat) (held : List Int) (x : RP) : Prop where
  s1 : 1 ≤ sz
  s2 : sz ≤ 1000
  h : held.length ≤ sz
  r : x.rest.length ≤ 3000000
  p : x.pieces.length ≤ 8000000
def spXC (C : Addr) : Sp := fun vs H Q _ => ∃ (o dx ro eo p : Addr) (ak sz : Nat) (held : List Int) (told : Bool) (x : RP) (st : Bool), vs = [.ref o] ∧ ExAt C H o dx ro eo p ak sz held told x st ∧ Fit sz held x ∧
  ∀ H', Off2 o p H H' → ExAt C H' o dx ro eo p ak sz held told (perfM sz held "cut" x) st → Q .non H'
theorem scXC : FnScope ["self", "end", "start"] ["self"] (defScope sXC) := ⟨rfl, rfl, rfl, by decide +kernel, rfl, by decide +kernel, by decide +kernel⟩
theorem cutN_succ (sz : Nat) (xs : List Int) (i : Nat) : cutN sz xs (i + 1) = cutN sz xs i ++ [(xs.drop (i * sz)).take sz] := by
  unfold cutN
  rw [List.range_succ, List.map_append]
  rfl
theorem ok_xc (T : TxX K mg) : FnOk P w K mg base CX0 1 T.co.f T.co.fd ["self"] (spXC T.C) := by
  refine T.co.F.ok scXC (fun vs H Q E h => ?_) (fun cdv A outer s H vs Q E hr h => ?_)
  · obtain ⟨o, dx, ro, eo, p, ak, sz, held, told, x, st, rfl, _⟩ := h
    rfl
  · obtain ⟨o, dx, ro, eo, p, ak, sz, held, told, x, st, rfl, hX, hF, k⟩ := h
    refine ⟨_, pss_cons (ps_set (i := 1) scXC.nd rfl (.inl rfl) (pe_op op_mul (pe_op op_fdiv (pe_callB call_len_seq (by rfl) T.len PySem.boot_len (pa_cons (pe_fld (pv 0) rfl) pa_nil)) (pe_fld (pv 0) rfl)) (pe_fld (pv 0) rfl)))
      (pss_cons (ps_for PassesOwn.never rfl (pi_range3 rfl T.range (pa_cons pe_int (pa_cons (pv 1) (pa_cons (pe_fld (pv 0) rfl) pa_nil)))) (pg_name (i := 2) scXC.nd rfl (Or.inl rfl))
        (pss_one (ps_expr (pe_bm PySem.F.plainAttrs_list PySem.F.slot_list_append PySem.F.type_list_append mt_append (pe_fld (pv 0) rfl) (pa_cons (pe_slice sl_tupH (pe_fld (pv 0) rfl) (po_some (pv 2)) (po_some (pe_op op_add (pv 2) (pe_fld (pv 0) rfl)))) pa_nil)))))
      (pss_one (ps_fld (pv 0) (pe_slice sl_tupH (pe_fld (pv 0) rfl) (po_some (pv 1)) po_none) rfl))), ?_⟩
    obtain ⟨h0, r0, vs0, e0, hh0, hr0, hp0, hP0⟩ := id hX.ex
    have s1 := hF.s1
    have s2 := hF.s2
    have s3 := hF.r
    have s4 := hF.p
    refine ⟨_, rfl, o, T.C, dx, _, _, rfl, e0, T.cl, T.nR, xf_r .., r0, _, rfl, .inr (SqT.of hr0), _, rfl, o, T.C, dx, _, _, rfl, e0, T.cl, T.nSz, xf_sz .., _, _, rfl, rfl, ⟨by omega, by omega⟩, _, rfl, o, T.C, dx, _, _, rfl, e0, T.cl, T.nSz, xf_sz .., _, _, rfl, rfl, .inr ⟨by omega, by omega⟩, ?_⟩
    have eq : ((ivs x.rest).length : Int) / (sz : Int) * (sz : Int) = ((x.rest.length / sz * sz : Nat) : Int) := by
      rw [ivs_len, Int.natCast_mul, Int.natCast_ediv]
    simp only [eq]
    have le : x.rest.length / sz * sz ≤ x.rest.length := Nat.div_mul_le_self _ _
    generalize hq : x.rest.length / sz = q at le ⊢
    refine ⟨_, rfl, _, rfl, o, T.C, dx, _, _, rfl, e0, T.cl, T.nSz, xf_sz .., _, _, _, q, rfl, rgC_up s1 s2 (by omega), ?_⟩
    refine for_rangeC (lo := 0) (c := (sz : Int)) (n := q) (fun i σ H' => ∃ v2, σ = [some (.ref o), some (.int ((q * sz : Nat) : Int)), v2] ∧ Off2 o p H H' ∧ ExAt T.C H' o dx ro eo p ak sz held told ⟨x.rest, x.pieces ++ cutN sz x.rest i⟩ st) ⟨none, rfl, Off2.refl, ?_⟩ ?_ ?_
    · refine ⟨h0, r0, vs0, e0, hh0, hr0, hp0, ?_⟩
      rw [show x.pieces ++ cutN sz x.rest 0 = x.pieces from List.append_nil _]
      exact hP0
    · rintro i σ H' hi ⟨v2, rfl, o1, X1⟩
      obtain ⟨h1, r1, vs1, e1, hh1, hr1, hp1, hP1⟩ := id X1.ex
      have m1 : (i + 1) * sz ≤ x.rest.length := Nat.le_trans (Nat.mul_le_mul_right _ hi) le
      have m2 : (i + 1) * sz = i * sz + sz := Nat.succ_mul i sz
      refine ⟨_, rfl, o, T.C, dx, _, _, rfl, e1, T.cl, T.nP, xf_p .., .inl ⟨rfl, _, SqL.of hp1⟩, ?_⟩
      refine ⟨_, rfl, o, T.C, dx, _, _, rfl, e1, T.cl, T.nR, xf_r .., _, rfl, ((i * sz : Nat) : Int), by rw [Int.zero_add, Int.natCast_mul], _, rfl, _, rfl, o, T.C, dx, _, _, rfl, e1, T.cl, T.nSz, xf_sz .., _, _, rfl, rfl, ((i * sz + sz : Nat) : Int), by rw [Int.zero_add, Int.natCast_add, Int.natCast_mul], r1, _, rfl, hr1, fun H2 qq s2' hq2 => ?_⟩
      rw [cut_mid _ _ _ (by omega) (by rw [ivs_len]; show i * sz + sz ≤ x.rest.length; omega), show i * sz + sz - i * sz = sz by omega] at hq2
      have hp2 := s2' _ _ hp1
      have lp := hP1.len
      refine ⟨p, vs1, _, rfl, rfl, hp2, ?_, ?_⟩
      · rw [lp]
        show (x.pieces ++ cutN sz x.rest i).length < sizeLine
        rw [List.length_append, cutN, List.length_map, List.length_range]
        have : q ≤ x.rest.length := Nat.le_trans (Nat.le_mul_of_pos_right q s1) le
        exact Nat.lt_of_le_of_lt (show x.pieces.length + i ≤ 11000000 by omega) (by decide)
      have st := tup_stays (o' := .lst (vs1 ++ [.ref qq])) hp2 (by intro xs z; cases z)
      have po : o ≠ p := ne_of (s2' _ _ e1) hp2 (by intro z; cases z)
      refine ⟨_, rfl, (o1.same s2').putP, h1, r1, _, by rw [upd_ne po]; exact s2' _ _ e1, st _ _ (s2' _ _ hh1), st _ _ (s2' _ _ hr1), upd_same, ?_⟩
      rw [cutN_succ, ← List.append_assoc]
      refine Pcs.snoc ?_ ((hP1.mono fun _ _ z => s2' _ _ z).mono st)
      rw [st _ _ hq2]
      simp [ivs, List.map_take, List.map_drop]
    · rintro σ H' ⟨v2, rfl, o1, X1⟩
      obtain ⟨h1, r1, vs1, e1, hh1, hr1, hp1, hP1⟩ := id X1.ex
      refine ⟨_, rfl, o, T.C, dx, _, _, rfl, e1, T.cl, T.nR, xf_r .., _, rfl, ((q * sz : Nat) : Int), rfl, r1, _, rfl, hr1, fun H2 r2 s2' hq2 => ?_⟩
      rw [cut_from] at hq2
      refine ⟨_, rfl, o, T.C, dx, _, rfl, s2' _ _ e1, T.cl, T.nR, by rw [xf_len]; decide, ?_⟩
      rw [put_r]
      have st := tup_stays (o' := .ins T.C dx (xf ro eo ak sz h1 told r2 p st)) (s2' _ _ e1) (by intro xs z; cases z)
      have po : p ≠ o := ne_of hp1 e1 (by intro z; cases z)
      refine k _ (o1.same s2').putO ⟨h1, r2, vs1, upd_same, st _ _ (s2' _ _ hh1), ?_, by rw [upd_ne po]; exact s2' _ _ hp1, ?_⟩
      · rw [st _ _ hq2]
        unfold perfM
        rw [if_neg (by decide +kernel), if_neg (by decide +kernel), if_pos rfl, hq]
        simp [ivs, List.map_drop]
      · unfold perfM
        rw [if_neg (by decide +kernel), if_neg (by decide +kernel), if_pos rfl, hq]
        exact (hP1.mono fun _ _ z => s2' _ _ z).mono st
end
end My

namespace My
open PySem L2 Cm LM EM
section
variable {P : Program} {w : World} {K : PySem.W.Frag} {mg : Str → Option Value} {base : Heap}
/-! ### perform -/
def spXR (C : Addr) : Sp := fun vs H Q _ => ∃ (o dx ro eo p : Addr) (ak sz : Nat) (held : List Int) (told : Bool) (x : RP) (st : Bool) (s : Str), vs = [.ref o, .str s] ∧ ExAt C H o dx ro eo p ak sz held told x st ∧ Fit sz held x ∧
  ∀ H', Off2 o p H H' → ExAt C H' o dx ro eo p ak sz held told (perfM sz held s x) st → Q .non H'
theorem scXR : FnScope ["self", "step"] ["self", "step"] (defScope sXR) := ⟨rfl, rfl, rfl, by decide +kernel, rfl, by decide +kernel, by decide +kernel⟩
theorem ok_xr (T : TxX K mg) : FnOk P w K mg base CX0 2 T.pf.f T.pf.fd ["self", "step"] (spXR T.C) := by
  have GC : FnOk P w K mg base CX0 1 T.co.f T.co.fd ["self"] (spXC T.C) := ok_xc T
  refine T.pf.F.ok scXR (fun vs H Q E h => ?_) (fun cdv A outer s H vs Q E hr h => ?_)
  · obtain ⟨o, dx, ro, eo, p, ak, sz, held, told, x, st, s, rfl, _⟩ := h
    rfl
  · obtain ⟨o, dx, ro, eo, p, ak, sz, held, told, x, st, s, rfl, hX, hF, k⟩ := h
    refine ⟨_, pss_one (ps_if (pt_cmpR op_eq (pv 1) pe_str (nomark _)) (pss_one (ps_fld (pv 0) (pe_op op_catH (pe_fld (pv 0) rfl) (pe_fld (pv 0) rfl)) rfl))
      (pss_one (ps_if (pt_cmpR op_eq (pv 1) pe_str (nomark _)) (pss_one (ps_expr (pe_bm PySem.F.plainAttrs_list PySem.F.slot_list_append PySem.F.type_list_append mt_append (pe_fld (pv 0) rfl) (pa_cons (pe_fld (pv 0) rfl) pa_nil))))
      (pss_one (ps_if (pt_cmpR op_eq (pv 1) pe_str (nomark _)) (pss_one (ps_expr (pe_meth0 (pv 0) T.cl T.co.m GC hr T.co.b .nil pass0)))
      (pss_one (ps_if (pt_cmpR op_eq (pv 1) pe_str (nomark _)) (pss_cons (ps_expr (pe_bm PySem.F.plainAttrs_list PySem.F.slot_list_append PySem.F.type_list_append mt_append (pe_fld (pv 0) rfl) (pa_cons (pe_fld (pv 0) rfl) pa_nil))) (pss_one (ps_fld (pv 0) (pe_tup pa_nil) rfl))) pss_nil))))))), ?_⟩
    obtain ⟨h0, r0, vs0, e0, hh0, hr0, hp0, hP0⟩ := id hX.ex
    have s1 := hF.s1
    have s2 := hF.s2
    have s3 := hF.r
    have s4 := hF.p
    have s5 := hF.h
    have po : p ≠ o := ne_of hp0 e0 (by intro z; cases z)
    have lp := hP0.len
    refine ⟨_, rfl, rfl, _, rfl, ?_⟩
    rw [dS]
    by_cases h1 : s = "add"
    · rw [decide_eq_true h1]
      refine iteT ?_
      unfold perfM at k
      rw [if_pos h1] at k
      refine ⟨_, rfl, o, T.C, dx, _, _, rfl, e0, T.cl, T.nR, xf_r .., _, rfl, o, T.C, dx, _, _, rfl, e0, T.cl, T.nH, xf_h .., r0, h0, _, _, rfl, rfl, hr0, hh0, ?_, fun H2 q s2' hq => ?_⟩
      · rw [ivs_len, ivs_len]
        exact Nat.le_trans (show x.rest.length + held.length ≤ 4000000 by omega) (by decide)
      refine ⟨_, rfl, o, T.C, dx, _, rfl, s2' _ _ e0, T.cl, T.nR, by rw [xf_len]; decide, ?_⟩
      rw [put_r]
      have st' := tup_stays (o' := .ins T.C dx (xf ro eo ak sz h0 told q p st)) (s2' _ _ e0) (by intro xs z; cases z)
      refine k _ ((Off2.refl).same s2').putO ⟨h0, q, vs0, upd_same, st' _ _ (s2' _ _ hh0), ?_, by rw [upd_ne po]; exact s2' _ _ hp0, (hP0.mono fun _ _ z => s2' _ _ z).mono st'⟩
      rw [st' _ _ hq]
      simp [ivs]
    rw [decide_eq_false h1]
    refine iteF ⟨_, rfl, rfl, _, rfl, ?_⟩
    rw [dS]
    by_cases h2 : s = "hand"
    · rw [decide_eq_true h2]
      refine iteT ?_
      unfold perfM at k
      rw [if_neg h1, if_pos h2] at k
      refine ⟨_, rfl, o, T.C, dx, _, _, rfl, e0, T.cl, T.nP, xf_p .., .inl ⟨rfl, _, SqL.of hp0⟩, _, rfl, o, T.C, dx, _, _, rfl, e0, T.cl, T.nH, xf_h .., p, vs0, _, rfl, rfl, hp0, ?_, ?_⟩
      · rw [lp]
        exact Nat.lt_of_le_of_lt s4 (by decide)
      have st' := tup_stays (o' := .lst (vs0 ++ [.ref h0])) hp0 (by intro xs z; cases z)
      exact k _ Off2.refl.putP ⟨h0, r0, _, by rw [upd_ne po.symm]; exact e0, st' _ _ hh0, st' _ _ hr0, upd_same, Pcs.snoc (st' _ _ hh0) (hP0.mono st')⟩
    rw [decide_eq_false h2]
    refine iteF ⟨_, rfl, rfl, _, rfl, ?_⟩
    rw [dS]
    by_cases h3 : s = "cut"
    · rw [decide_eq_true h3]
      refine iteT ?_
      rw [h3] at k
      exact ⟨_, rfl, o, dx, _, rfl, e0, (xf_noA ..).2.2.2.2.1, o, dx, ro, eo, p, ak, sz, held, told, x, st, rfl, hX, hF, k⟩
    rw [decide_eq_false h3]
    refine iteF ⟨_, rfl, rfl, _, rfl, ?_⟩
    rw [dS]
    by_cases h4 : s = "flush"
    · rw [decide_eq_true h4]
      refine iteT ?_
      unfold perfM at k
      rw [if_neg h1, if_neg h2, if_neg h3, if_pos h4] at k
      refine ⟨_, rfl, o, T.C, dx, _, _, rfl, e0, T.cl, T.nP, xf_p .., .inl ⟨rfl, _, SqL.of hp0⟩, _, rfl, o, T.C, dx, _, _, rfl, e0, T.cl, T.nR, xf_r .., p, vs0, _, rfl, rfl, hp0, ?_, ?_⟩
      · rw [lp]
        exact Nat.lt_of_le_of_lt s4 (by decide)
      have st1 := tup_stays (o' := .lst (vs0 ++ [.ref r0])) hp0 (by intro xs z; cases z)
      refine ⟨Nat.zero_le _, fun q nq => ?_⟩
      have e1 : (upd (upd H p (.lst (vs0 ++ [.ref r0]))) q (.tup [])) o = some (.ins T.C dx (xf ro eo ak sz h0 told r0 p st)) := same_new nq _ _ (by rw [upd_ne po.symm]; exact e0)
      refine ⟨_, rfl, o, T.C, dx, _, rfl, e1, T.cl, T.nR, by rw [xf_len]; decide, ?_⟩
      rw [put_r]
      have st2 := tup_stays (o' := .ins T.C dx (xf ro eo ak sz h0 told q p st)) e1 (by intro xs z; cases z)
      have f : ∀ (a : Addr) (xs : List V), H a = some (.tup xs) → (upd (upd (upd H p (.lst (vs0 ++ [.ref r0]))) q (.tup [])) o (.ins T.C dx (xf ro eo ak sz h0 told q p st))) a = some (.tup xs) := fun a xs z => st2 _ _ (same_new nq _ _ (st1 _ _ z))
      refine k _ ((Off2.refl.putP).same (same_new nq)).putO ⟨h0, q, _, upd_same, f _ _ hh0, st2 _ _ upd_same, ?_, Pcs.snoc (f _ _ hr0) (hP0.mono f)⟩
      rw [upd_ne po]
      exact same_new nq _ _ upd_same
    rw [decide_eq_false h4]
    unfold perfM at k
    rw [if_neg h1, if_neg h2, if_neg h3, if_neg h4] at k
    exact iteF (k H Off2.refl hX)
/-! ### finish -/
theorem Off2.ts {C : Addr} {H H' : Hp} {o dx ro eo p : Addr} {ak sz : Nat} {held : List Int} {told : Bool} {x : RP} {st : Bool} (a : Off2 o p H H') (h : ExAt C H o dx ro eo p ak sz held told x st) : TS H H' := fun q xs e => by
  obtain ⟨h0, r0, vs0, e0, _, _, hp0, _⟩ := h.ex
  exact a _ _ (ne_of e e0 (by intro z; cases z)) (ne_of e hp0 (by intro z; cases z)) e
/-- a row of orders stands -/
def OrdT (H : Hp) (p : Addr) (os : List (Str × Str)) : Prop := ∃ xs, H p = some (.tup xs) ∧ Prs H xs os
theorem OrdT.ts {H H' : Hp} {p : Addr} {os : List (Str × Str)} (s : TS H H') (h : OrdT H p os) : OrdT H' p os := let ⟨xs, e, q⟩ := h; ⟨xs, s _ _ e, q.mono s⟩
theorem Prs.get {H : Hp} : ∀ {xs os} {i : Nat} {y : V}, Prs H xs os → xs[i]? = some y → ∃ (q : Addr) (o : Str × Str), os[i]? = some o ∧ y = .ref q ∧ H q = some (.tup [.str o.1, .str o.2])
  | _, _, i, y, .nil, h => by simp at h
  | _, _, 0, y, .cons h _, e => ⟨_, _, rfl, (Option.some.inj e).symm, h⟩
  | _, _, i + 1, y, .cons _ t, e => t.get (i := i) e
theorem endW_app (sz : Nat) (held : List Int) (told : Bool) : ∀ (a b : List (Str × Str)) (x : RP), endW sz held told (a ++ b) x = endW sz held told b (endW sz held told a x)
  | [], _, _ => rfl
  | (t, s) :: r, b, x => endW_app sz held told r b _
/-- enough room for a round and an ending -/
structure FitK (sz : Nat) (held : List Int) (k c : Nat) (x : RP) : Prop where
  s1 : 1 ≤ sz
  s2 : sz ≤ 1000
  h : held.length ≤ sz
  hk : k ≤ 2500
  hc : c ≤ 7900000
  f : Few sz k c x
theorem FitK.fit {sz : Nat} {held : List Int} {k c : Nat} {x : RP} (h : FitK sz held k c x) : Fit sz held x := by
  refine ⟨h.s1, h.s2, h.h, Nat.le_trans h.f.1 ?_, Nat.le_trans h.f.2 (Nat.le_trans h.hc (by decide))⟩
  exact Nat.le_trans (Nat.mul_le_mul h.hk h.s2) (by decide)
def spXF (C : Addr) : Sp := fun vs H Q _ => ∃ (o dx ro eo p : Addr) (ak sz : Nat) (held : List Int) (told : Bool) (x : RP) (st : Bool) (os : List (Str × Str)) (k c : Nat), vs = [.ref o] ∧ ExAt C H o dx ro eo p ak sz held told x st ∧ OrdT H eo os ∧ os.length ≤ 6 ∧ FitK sz held k c x ∧ k ≤ 2400 ∧ c ≤ 7800000 ∧
  ∀ H', Off2 o p H H' → ExAt C H' o dx ro eo p ak sz held told (endW sz held told os x) true → Q .non H'
theorem scXF : FnScope ["self", "test", "step"] ["self"] (defScope sXF) := ⟨rfl, rfl, rfl, by decide +kernel, rfl, by decide +kernel, by decide +kernel⟩
theorem ok_xfin (T : TxX K mg) : FnOk P w K mg base CX0 3 T.fi.f T.fi.fd ["self"] (spXF T.C) := by
  have GP : FnOk P w K mg base CX0 1 T.ps.f T.ps.fd ["self", "test"] (spXP T.C) := ok_xp T
  have GR : FnOk P w K mg base CX0 2 T.pf.f T.pf.fd ["self", "step"] (spXR T.C) := ok_xr T
  refine T.fi.F.ok scXF (fun vs H Q E h => ?_) (fun cdv A outer s H vs Q E hr h => ?_)
  · obtain ⟨o, dx, ro, eo, p, ak, sz, held, told, x, st, os, k, c, rfl, _⟩ := h
    rfl
  · obtain ⟨o, dx, ro, eo, p, ak, sz, held, told, x, st, os, kk, cc, rfl, hX, hO, hl, hF, hk, hc, k⟩ := h
    have hr1 : Room 1 _ := hr.mono (by decide)
    refine ⟨_, pss_cons (ps_for PassesOwn.never rfl (pi_tup (pe_fld (pv 0) rfl)) (pg_tup rfl (pgs_cons (pg_name (i := 1) scXF.nd rfl (.inl rfl)) (pgs_cons (pg_name (i := 2) scXF.nd rfl (.inl rfl)) pgs_nil)))
        (pss_one (ps_if (pt_val (pe_meth (pv 0) T.cl T.ps.m GP hr1 T.ps.b .nil pass0 (pa_cons (pv 1) pa_nil))) (pss_one (ps_expr (pe_meth (pv 0) T.cl T.pf.m GR hr T.pf.b .nil pass0 (pa_cons (pv 2) pa_nil)))) pss_nil)))
      (pss_one (ps_fld (pv 0) pe_bl rfl)), ?_⟩
    obtain ⟨h0, r0, vs0, e0, _⟩ := id hX.ex
    obtain ⟨xs, hxs, hPr⟩ := id hO
    have lx := hPr.len
    refine ⟨_, rfl, o, T.C, dx, _, _, rfl, e0, T.cl, T.nEo, xf_eo .., eo, rfl, ⟨_, SqT.of hxs⟩, ?_⟩
    refine for_tup (K := K) (a := eo) (xs := xs) (fun i σ H' => ∃ v1 v2, σ = [some (.ref o), v1, v2] ∧ Off2 o p H H' ∧ ExAt T.C H' o dx ro eo p ak sz held told (endW sz held told (os.take i) x) st) ⟨none, none, rfl, Off2.refl, hX⟩ (fun i σ H' _ ⟨_, _, _, o1, _⟩ => SqT.of (o1.ts hX _ _ hxs)) ?_ ?_
    · rintro i y σ H' hy ⟨v1, v2, rfl, o1, X1⟩
      obtain ⟨q, od, hod, rfl, hq⟩ := hPr.get hy
      have hq1 := o1.ts hX _ _ hq
      have li : i < os.length := lt_of_get hod
      refine ⟨q, _, rfl, SqT.of hq1, rfl, _, _, rfl, _, _, rfl, rfl, ?_⟩
      obtain ⟨h1, r1, vs1, e1, _⟩ := id X1.ex
      refine ⟨_, rfl, o, dx, _, rfl, e1, (xf_noA ..).2.2.1, _, rfl, o, dx, ro, eo, p, ak, sz, held, told, _, st, od.1, rfl, X1, fun H2 s2 => ⟨_, rfl, ?_⟩⟩
      have X2 := X1.same s2
      have tk : os.take (i + 1) = os.take i ++ [od] := take_snoc hod
      have ef : endW sz held told (os.take (i + 1)) x = (if passM sz held told od.1 (endW sz held told (os.take i) x).rest = true then perfM sz held od.2 (endW sz held told (os.take i) x) else endW sz held told (os.take i) x) := by
        rw [tk, endW_app]
        rfl
      have fe := few_end (told := told) hF.s1 hF.h (os.take i) kk cc x hF.f
      have lt : (os.take i).length ≤ 6 := by rw [List.length_take]; omega
      have fk : FitK sz held (kk + 6) (cc + 6 * (kk + 6)) (endW sz held told (os.take i) x) := ⟨hF.s1, hF.s2, hF.h, by omega, by omega, fe.mono (by omega) (Nat.add_le_add_left (Nat.mul_le_mul lt (by omega)) _)⟩
      obtain ⟨h2, r2, vs2, e2, _⟩ := id X2.ex
      refine ite2 (fun c => ?_) (fun c => ?_)
      · rw [if_pos c] at ef
        refine ⟨_, rfl, o, dx, _, rfl, e2, (xf_noA ..).2.2.2.1, _, rfl, o, dx, ro, eo, p, ak, sz, held, told, _, st, od.2, rfl, X2, fk.fit, fun H3 o3 X3 => ?_⟩
        exact ⟨_, _, rfl, (o1.same s2).trans o3, by rw [ef]; exact X3⟩
      · rw [if_neg c] at ef
        exact ⟨_, _, rfl, o1.same s2, by rw [ef]; exact X2⟩
    · rintro σ H' ⟨v1, v2, rfl, o1, X1⟩
      rw [lx, List.take_length] at X1
      obtain ⟨h1, r1, vs1, e1, hh1, hr1', hp1, hP1⟩ := id X1.ex
      refine ⟨_, rfl, o, T.C, dx, _, rfl, e1, T.cl, T.nSt, by rw [xf_len]; decide, ?_⟩
      rw [put_st]
      have st' := tup_stays (o' := .ins T.C dx (xf ro eo ak sz h1 told r1 p true)) e1 (by intro xs z; cases z)
      have po : p ≠ o := ne_of hp1 e1 (by intro z; cases z)
      exact k _ o1.putO ⟨h1, r1, vs1, upd_same, st' _ _ hh1, st' _ _ hr1', by rw [upd_ne po]; exact hp1, hP1.mono st'⟩
/-! ### answer -/
/-- not stopped and not left so far -/
def goes (sz : Nat) (held : List Int) (told : Bool) : List (Str × Str) → RP → Bool
  | [], _ => true
  | (t, s) :: r, x => if passM sz held told t x.rest = true then (if s = "again" then false else if s = "stop" then false else goes sz held told r (perfM sz held s x)) else goes sz held told r x
theorem runW_cons (sz : Nat) (held : List Int) (told : Bool) (t s : Str) (r : List (Str × Str)) (x : RP) : runW sz held told ((t, s) :: r) x = if passM sz held told t x.rest = true then (if s = "again" then (x, false) else if s = "stop" then (x, true) else runW sz held told r (perfM sz held s x)) else runW sz held told r x := rfl
theorem goes_cons (sz : Nat) (held : List Int) (told : Bool) (t s : Str) (r : List (Str × Str)) (x : RP) : goes sz held told ((t, s) :: r) x = if passM sz held told t x.rest = true then (if s = "again" then false else if s = "stop" then false else goes sz held told r (perfM sz held s x)) else goes sz held told r x := rfl
theorem run_goes (sz : Nat) (held : List Int) (told : Bool) : ∀ (a b : List (Str × Str)) (x : RP), goes sz held told a x = true →
    runW sz held told (a ++ b) x = runW sz held told b (runW sz held told a x).1 ∧ goes sz held told (a ++ b) x = goes sz held told b (runW sz held told a x).1 ∧ (runW sz held told a x).2 = false
  | [], _, _, _ => ⟨rfl, rfl, rfl⟩
  | (t, s) :: r, b, x, h => by
    rw [goes_cons] at h
    rw [List.cons_append, runW_cons, runW_cons, goes_cons]
    by_cases c : passM sz held told t x.rest = true
    · rw [if_pos c] at h
      rw [if_pos c, if_pos c, if_pos c]
      by_cases c1 : s = "again"
      · rw [if_pos c1] at h
        cases h
      rw [if_neg c1] at h
      rw [if_neg c1, if_neg c1, if_neg c1]
      by_cases c2 : s = "stop"
      · rw [if_pos c2] at h
        cases h
      rw [if_neg c2] at h
      rw [if_neg c2, if_neg c2, if_neg c2]
      exact run_goes sz held told r b _ h
    · rw [if_neg c] at h
      rw [if_neg c, if_neg c, if_neg c]
      exact run_goes sz held told r b _ h
def spXA (C : Addr) : Sp := fun vs H Q _ => ∃ (o dx ro eo p h : Addr) (ak sz : Nat) (held0 held : List Int) (told0 told : Bool) (x : RP) (rs es : List (Str × Str)) (k c : Nat), vs = [.ref o, .ref h, .bl told] ∧ ExAt C H o dx ro eo p ak sz held0 told0 x false ∧ H h = some (.tup (ivs held)) ∧ OrdT H ro rs ∧ OrdT H eo es ∧ rs.length ≤ 12 ∧ es.length ≤ 6 ∧ FitK sz held k c x ∧ k ≤ 2300 ∧ c ≤ 7700000 ∧
  ∀ H', Off2 o p H H' → ExAt C H' o dx ro eo p (ak + 1) sz held told (ansM sz rs es held told x).1 (ansM sz rs es held told x).2 → Q .non H'
theorem scXA : FnScope ["self", "held", "told", "test", "step"] ["self", "held", "told"] (defScope sXA) := ⟨rfl, rfl, rfl, by decide +kernel, rfl, by decide +kernel, by decide +kernel⟩
theorem ok_xa (T : TxX K mg) : FnOk P w K mg base CX0 4 T.an.f T.an.fd ["self", "held", "told"] (spXA T.C) := by
  have GP : FnOk P w K mg base CX0 1 T.ps.f T.ps.fd ["self", "test"] (spXP T.C) := ok_xp T
  have GR : FnOk P w K mg base CX0 2 T.pf.f T.pf.fd ["self", "step"] (spXR T.C) := ok_xr T
  have GF : FnOk P w K mg base CX0 3 T.fi.f T.fi.fd ["self"] (spXF T.C) := ok_xfin T
  refine T.an.F.ok scXA (fun vs H Q E h => ?_) (fun cdv A outer s H vs Q E hr h => ?_)
  · obtain ⟨o, dx, ro, eo, p, h, ak, sz, held0, held, told0, told, x, rs, es, k, c, rfl, _⟩ := h
    rfl
  · obtain ⟨o, dx, ro, eo, p, h, ak, sz, held0, held, told0, told, x, rs, es, kk, cc, rfl, hX, hh, hO, hE, l1, l2, hF, hk, hc, k⟩ := h
    have hr1 : Room 1 _ := hr.mono (by decide)
    have hr2 : Room 2 _ := hr.mono (by decide)
    refine ⟨_, pss_cons (ps_fld (pv 0) (pv 1) rfl) (pss_cons (ps_fld (pv 0) (pv 2) rfl) (pss_cons (ps_fldaug (pv 0) pe_int in_add)
      (pss_one (ps_for PassesOwn.never rfl (pi_tup (pe_fld (pv 0) rfl)) (pg_tup rfl (pgs_cons (pg_name (i := 3) scXA.nd rfl (.inl rfl)) (pgs_cons (pg_name (i := 4) scXA.nd rfl (.inl rfl)) pgs_nil)))
        (pss_one (ps_if (pt_val (pe_meth (pv 0) T.cl T.ps.m GP hr1 T.ps.b .nil pass0 (pa_cons (pv 3) pa_nil)))
          (pss_cons (ps_if (pt_cmpR op_eq (pv 4) pe_str (nomark _)) (pss_one ps_retN) pss_nil)
          (pss_cons (ps_if (pt_cmpR op_eq (pv 4) pe_str (nomark _)) (pss_cons (ps_expr (pe_meth0 (pv 0) T.cl T.fi.m GF hr T.fi.b .nil pass0)) (pss_one ps_retN)) pss_nil)
          (pss_one (ps_expr (pe_meth (pv 0) T.cl T.pf.m GR hr2 T.pf.b .nil pass0 (pa_cons (pv 4) pa_nil)))))) pss_nil)))))), ?_⟩
    obtain ⟨h0, r0, vs0, e0, hh0, hr0, hp0, hP0⟩ := id hX.ex
    refine ⟨_, rfl, _, rfl, o, T.C, dx, _, rfl, e0, T.cl, T.nH, by rw [xf_len]; decide, ?_⟩
    rw [put_h]
    refine ⟨_, rfl, _, rfl, o, T.C, dx, _, rfl, upd_same, T.cl, T.nT, by rw [xf_len]; decide, ?_⟩
    rw [put_t]
    refine ⟨_, rfl, o, T.C, dx, _, _, rfl, upd_same, T.cl, T.nA, xf_ak .., _, _, rfl, rfl, dx, _, upd_same, by rw [xf_len]; decide, ?_⟩
    rw [show V.int ((ak : Int) + 1) = V.int ((ak + 1 : Nat) : Int) from rfl, put_ak]
    have po : p ≠ o := ne_of hp0 e0 (by intro z; cases z)
    have ts0 : TS H (upd (upd (upd H o (.ins T.C dx (xf ro eo ak sz h told0 r0 p false))) o (.ins T.C dx (xf ro eo ak sz h told r0 p false))) o (.ins T.C dx (xf ro eo (ak + 1) sz h told r0 p false))) := fun q xs e => tup_stays (o := .ins T.C dx (xf ro eo ak sz h told r0 p false)) upd_same (by intro xs z; cases z) _ _ (tup_stays (o := .ins T.C dx (xf ro eo ak sz h told0 r0 p false)) upd_same (by intro xs z; cases z) _ _ (tup_stays e0 (by intro xs z; cases z) _ _ e))
    have X0 : ExAt T.C (upd (upd (upd H o (.ins T.C dx (xf ro eo ak sz h told0 r0 p false))) o (.ins T.C dx (xf ro eo ak sz h told r0 p false))) o (.ins T.C dx (xf ro eo (ak + 1) sz h told r0 p false))) o dx ro eo p (ak + 1) sz held told x false := ⟨h, r0, vs0, upd_same, ts0 _ _ hh, ts0 _ _ hr0, by rw [upd_ne po, upd_ne po, upd_ne po]; exact hp0, hP0.mono ts0⟩
    have o0 : Off2 o p H (upd (upd (upd H o (.ins T.C dx (xf ro eo ak sz h told0 r0 p false))) o (.ins T.C dx (xf ro eo ak sz h told r0 p false))) o (.ins T.C dx (xf ro eo (ak + 1) sz h told r0 p false))) := Off2.refl.putO.putO.putO
    have hO1 := hO.ts ts0
    have hE1 := hE.ts ts0
    generalize upd (upd (upd H o (.ins T.C dx (xf ro eo ak sz h told0 r0 p false))) o (.ins T.C dx (xf ro eo ak sz h told r0 p false))) o (.ins T.C dx (xf ro eo (ak + 1) sz h told r0 p false)) = H1 at X0 o0 hO1 hE1 ⊢
    clear ts0 hO hE
    obtain ⟨xs, hxs, hPr⟩ := id hO1
    have lx := hPr.len
    obtain ⟨h1, r1, vs1, e1, _⟩ := id X0.ex
    refine ⟨_, rfl, o, T.C, dx, _, _, rfl, e1, T.cl, T.nRo, xf_ro .., ro, rfl, ⟨_, SqT.of hxs⟩, ?_⟩
    refine for_tup (K := K) (a := ro) (xs := xs) (fun i σ H' => ∃ v1 v2, σ = [some (.ref o), some (.ref h), some (.bl told), v1, v2] ∧ Off2 o p H1 H' ∧ ExAt T.C H' o dx ro eo p (ak + 1) sz held told (runW sz held told (rs.take i) x).1 false ∧ goes sz held told (rs.take i) x = true) ⟨none, none, rfl, Off2.refl, X0, rfl⟩ (fun i σ H' _ ⟨_, _, _, o1, _⟩ => SqT.of (o1.ts X0 _ _ hxs)) ?_ ?_
    · rintro i y σ H' hy ⟨v1, v2, rfl, o1, X1, g1⟩
      obtain ⟨q, od, hod, rfl, hq⟩ := hPr.get hy
      have hq1 := o1.ts X0 _ _ hq
      have li : i < rs.length := lt_of_get hod
      refine ⟨q, _, rfl, SqT.of hq1, rfl, _, _, rfl, _, _, rfl, rfl, ?_⟩
      obtain ⟨h1, r1, vs1, e1, _⟩ := id X1.ex
      refine ⟨_, rfl, o, dx, _, rfl, e1, (xf_noA ..).2.2.1, _, rfl, o, dx, ro, eo, p, ak + 1, sz, held, told, _, false, od.1, rfl, X1, fun H2 s2 => ⟨_, rfl, ?_⟩⟩
      have X2 := X1.same s2
      have tk : rs.take (i + 1) = rs.take i ++ [od] := take_snoc hod
      have rg := run_goes sz held told (rs.take i) [od] x g1
      rw [← tk] at rg
      have rw1 : rs = rs.take i ++ (od :: rs.drop (i + 1)) := by
        have e := List.take_append_drop i rs
        rw [List.drop_eq_getElem_cons li] at e
        have : rs[i] = od := (List.getElem?_eq_some_iff.mp hod).2
        rw [this] at e
        exact e.symm
      have rgs := (run_goes sz held told (rs.take i) (od :: rs.drop (i + 1)) x g1).1
      rw [← rw1] at rgs
      have fe := few_run (told := told) hF.s1 hF.h (rs.take i) kk cc x hF.f
      have lt : (rs.take i).length ≤ 12 := by rw [List.length_take]; omega
      have fk : FitK sz held (kk + 12) (cc + 12 * (kk + 12)) (runW sz held told (rs.take i) x).1 := ⟨hF.s1, hF.s2, hF.h, by omega, by omega, fe.mono (by omega) (Nat.add_le_add_left (Nat.mul_le_mul lt (by omega)) _)⟩
      obtain ⟨h2, r2, vs2, e2, _⟩ := id X2.ex
      generalize hy0 : (runW sz held told (rs.take i) x).1 = y at rg rgs fk X1 X2 ⊢
      obtain ⟨t1, s1⟩ := od
      rw [runW_cons] at rgs
      have r1e := rg.1
      have r2e := rg.2.1
      rw [runW_cons] at r1e
      rw [goes_cons] at r2e
      refine ite2 (fun c => ?_) (fun c => ?_)
      · rw [if_pos c] at rgs r1e r2e
        refine ⟨_, rfl, rfl, _, rfl, ?_⟩
        rw [dS]
        by_cases c1 : s1 = "again"
        · rw [decide_eq_true c1]
          refine iteT ?_
          rw [if_pos c1] at rgs
          refine k _ (o0.trans (o1.same s2)) ?_
          unfold ansM
          rw [rgs]
          exact X2
        rw [decide_eq_false c1]
        rw [if_neg c1] at rgs r1e r2e
        refine iteF ⟨_, rfl, rfl, _, rfl, ?_⟩
        rw [dS]
        by_cases c2 : s1 = "stop"
        · rw [decide_eq_true c2]
          refine iteT ?_
          rw [if_pos c2] at rgs
          refine ⟨_, rfl, o, dx, _, rfl, e2, (xf_noA ..).2.1, o, dx, ro, eo, p, ak + 1, sz, held, told, y, false, es, _, _, rfl, X2, hE1.ts ((o1.same s2).ts X0), l2, fk, by omega, by omega, fun H3 o3 X3 => ?_⟩
          refine k _ ((o0.trans (o1.same s2)).trans o3) ?_
          unfold ansM
          rw [rgs]
          exact X3
        rw [decide_eq_false c2]
        rw [if_neg c2] at rgs r1e r2e
        refine iteF ?_
        refine ⟨_, rfl, o, dx, _, rfl, e2, (xf_noA ..).2.2.2.1, _, rfl, o, dx, ro, eo, p, ak + 1, sz, held, told, y, false, s1, rfl, X2, fk.fit, fun H3 o3 X3 => ?_⟩
        exact ⟨_, _, rfl, (o1.same s2).trans o3, by rw [r1e]; exact X3, r2e⟩
      · rw [if_neg c] at rgs r1e r2e
        exact ⟨_, _, rfl, o1.same s2, by rw [r1e]; exact X2, r2e⟩
    · rintro σ H' ⟨v1, v2, rfl, o1, X1, g1⟩
      rw [lx, List.take_length] at X1 g1
      refine k _ (o0.trans o1) ?_
      unfold ansM
      rw [(run_goes sz held told rs [] x g1).2.2]
      exact X1
end
end My

/-! right loops: their words, and loops without a word -/
namespace LM
open PySem L2 TL
theorem part_back {x y : Str} (h : ((Txt.partition x y).2.1.length != 0) = true) : x = (Txt.partition x y).1 ++ y ++ (Txt.partition x y).2.2 := by
  rcases PyProof.Rows.partition_whole x y with ⟨e, _⟩ | ⟨i, e, hi, _⟩
  · rw [e] at h
    exact absurd (show ((Str.empty).length != 0) = true from h) (by decide)
  · rw [e]
    refine ext_tl ?_
    rw [tl_append, tl_append, tl_strSub, tl_strSub_end, List.drop_zero, Nat.sub_zero]
    by_cases hy : tl y = []
    · have : y.length = 0 := by rw [len_tl, hy]; rfl
      rw [hy, this, List.append_nil, Nat.add_zero, List.take_append_drop]
    · have hp := (at_iff hy i).mp hi
      have e2 : ((tl x).drop i).take (tl y).length = tl y := eq_of_beq hp
      have e3 : tl y ++ (tl x).drop (i + y.length) = (tl x).drop i := by
        rw [len_tl y, ← drop_two]
        have := List.take_append_drop (tl y).length ((tl x).drop i)
        rw [e2] at this
        exact this
      rw [List.append_assoc, e3, List.take_append_drop]
theorem word_wd {w : Str} {ss : List Str} (h : isWord w ss = true) : Wd ss w := by
  unfold isWord at h
  cases hc : ((Txt.partition w ":").2.1.length != 0) with
  | true =>
    rw [if_pos hc] at h
    have h2 := Bool.and_eq_true_iff.mp h
    exact ⟨_, of_decide_eq_true h2.2, .inr ⟨_, of_decide_eq_true h2.1, part_back hc⟩⟩
  | false =>
    rw [if_neg (by rw [hc]; exact Bool.false_ne_true)] at h
    exact ⟨w, of_decide_eq_true h, .inl rfl⟩
/-- free and short -/
def FS (w : Str) : Prop := Fre w ∧ w.length ≤ 11
theorem wd_fs {w : Str} (h : Wd rsteps w) : FS w := by
  have := wd_ok w h.mem
  unfold wdOk at this
  simp only [Bool.and_eq_true, decide_eq_true_eq] at this
  exact ⟨⟨this.2.1, this.2.2.1⟩, this.2.2.2⟩
theorem e_r : ∀ s ∈ esteps, s ∈ rsteps := by decide +kernel
theorem ask_fs : FS "ask" := ⟨⟨by decide +kernel, by decide +kernel⟩, by decide +kernel⟩
theorem areWords_iff {ws ss : List Str} : areWords ws ss = true ↔ ∀ w ∈ ws, isWord w ss = true := List.all_eq_true
theorem isRound_iff {B : List Str} : isRound B = true ↔ ∃ r, B = ("ask" : Str) :: r ∧ B.length ≤ 12 ∧ (B.filter isAdd).length ≤ 1 ∧ ∀ w ∈ r, isWord w rsteps = true := by
  unfold isRound
  simp only [Bool.and_eq_true, decide_eq_true_eq, areWords_iff]
  constructor
  · rintro ⟨h1, h2, h3, h4⟩
    cases B with
    | nil => cases h1
    | cons x r =>
      have : x = "ask" := Option.some.inj h1
      subst this
      exact ⟨r, rfl, h2, h3, h4⟩
  · rintro ⟨r, rfl, h2, h3, h4⟩
    exact ⟨rfl, h2, h3, h4⟩
theorem isEnding_iff {E : List Str} : isEnding E = true ↔ E.length ≤ 6 ∧ ∀ w ∈ E, isWord w esteps = true := by
  unfold isEnding
  simp only [Bool.and_eq_true, decide_eq_true_eq, areWords_iff]
theorem round_fs {B : List Str} (h : isRound B = true) : ∀ w ∈ B, FS w := by
  obtain ⟨r, rfl, _, _, h4⟩ := isRound_iff.mp h
  intro w hw
  rcases List.mem_cons.mp hw with rfl | hw
  · exact ask_fs
  · exact wd_fs (word_wd (h4 w hw))
theorem ending_fs {E : List Str} (h : isEnding E = true) : ∀ w ∈ E, FS w := fun w hw => wd_fs ((word_wd ((isEnding_iff.mp h).2 w hw)).mono e_r)
theorem round_ne {B : List Str} (h : isRound B = true) : B ≠ [] := by
  obtain ⟨r, rfl, _⟩ := isRound_iff.mp h
  simp
theorem round_sht {B : List Str} (h : isRound B = true) : Sht 12 B := ⟨fun w hw => (round_fs h w hw).2, let ⟨_, _, h2, _⟩ := isRound_iff.mp h; h2⟩
theorem ending_sht {E : List Str} (h : isEnding E = true) : Sht 6 E := ⟨fun w hw => (ending_fs h w hw).2, (isEnding_iff.mp h).1⟩
theorem Sht.mono {n m : Nat} {B : List Str} (h : Sht n B) (l : n ≤ m) : Sht m B := ⟨h.1, Nat.le_trans h.2 l⟩
theorem text_words {B E : List Str} (hB : isRound B = true) (hE : isEnding E = true) : wordsR (textOf B E) = B ∧ wordsE (textOf B E) = E := words_text (round_ne hB) (fun w hw => (round_fs hB w hw).1) (fun w hw => (ending_fs hE w hw).1)
theorem text_good {B E : List Str} (hB : isRound B = true) (hE : isEnding E = true) : goodText (textOf B E) = true := by
  have := text_words hB hE
  unfold goodText
  rw [this.1, this.2, hB, hE]
  rfl
theorem text_len {B E : List Str} (hB : isRound B = true) (hE : isEnding E = true) : (textOf B E).length ≤ 300 := by
  have h1 := (round_sht hB).join
  have h2 := (ending_sht hE).join
  unfold textOf
  split
  · omega
  · rw [strLen_append, strLen_append]
    have : (" | " : Str).length = 3 := by decide +kernel
    omega
/-- without the word at i -/
theorem round_erase {B : List Str} {i : Nat} (hB : isRound B = true) (hi : 1 ≤ i) : isRound (B.eraseIdx i) = true := by
  obtain ⟨r, rfl, h2, h3, h4⟩ := isRound_iff.mp hB
  obtain ⟨k, rfl⟩ : ∃ k, i = k + 1 := ⟨i - 1, by omega⟩
  have sub : (("ask" : Str) :: r.eraseIdx k).Sublist (("ask" : Str) :: r) := (List.eraseIdx_sublist r k).cons_cons _
  refine isRound_iff.mpr ⟨r.eraseIdx k, rfl, Nat.le_trans sub.length_le h2, Nat.le_trans (sub.filter isAdd).length_le h3, fun w hw => h4 w ((List.eraseIdx_sublist r k).subset hw)⟩
theorem ending_erase {E : List Str} {i : Nat} (hE : isEnding E = true) : isEnding (E.eraseIdx i) = true := by
  have h := isEnding_iff.mp hE
  exact isEnding_iff.mpr ⟨Nat.le_trans (List.eraseIdx_sublist E i).length_le h.1, fun w hw => h.2 w ((List.eraseIdx_sublist E i).subset hw)⟩
theorem good_iff {t : Str} : goodText t = true ↔ isRound (wordsR t) = true ∧ isEnding (wordsE t) = true := Bool.and_eq_true_iff
end LM

/-! loops that are drawn -/
namespace LM
open PySem L2 TL
def sBar : Str := " | "
def sSp : Str := " "
def samples : List Str := ["ask empty:stop hand", "ask hand short:stop", "ask add cut told:stop | rest:flush", "ask told:stop hand", "ask add empty:stop | rest:flush", "ask add cut empty:stop | flush", "ask some:hand told:stop", "ask empty:stop add cut | rest:flush", "ask empty:again hand told:stop", "ask add full:flush told:stop"]
def sampP (s : Str) : List Str := Txt.split s " | "
def sampB (s : Str) : List Str := Txt.split ((sampP s).getD 0 Str.empty) " "
def sampE (s : Str) : List Str := if (sampP s).length > 1 then Txt.split ((sampP s).getD 1 Str.empty) " " else []
def sampOk (s : Str) : Bool := isRound (sampB s) && (isEnding (sampE s) && (decide ((sampB s).length ≤ 4) && (decide ((sampE s).length ≤ 1) && (decide (1 ≤ (sampP s).length) && (decide (s.length ≤ 100) && (sampP s).all fun p => decide (p.length ≤ 100))))))
theorem samp_ok : ∀ s ∈ samples, sampOk s = true := by decide +kernel
structure Samp (s : Str) : Prop where
  r : isRound (sampB s) = true
  e : isEnding (sampE s) = true
  lb : (sampB s).length ≤ 4
  le : (sampE s).length ≤ 1
  l1 : 1 ≤ (sampP s).length
  ls : s.length ≤ 100
  lp : ∀ p ∈ sampP s, p.length ≤ 100
theorem samp_of {s : Str} (h : s ∈ samples) : Samp s := by
  have := samp_ok s h
  unfold sampOk at this
  simp only [Bool.and_eq_true, decide_eq_true_eq, List.all_eq_true] at this
  exact ⟨this.1, this.2.1, this.2.2.1, this.2.2.2.1, this.2.2.2.2.1, this.2.2.2.2.2.1, this.2.2.2.2.2.2⟩
/-! ### a word more -/
def plain5 : List Str := ["hand", "cut", "flush", "stop", "again"]
theorem wd_round {w : Str} (h : Wd rsteps w) : isWord w rsteps = true := by
  have := wd_ok w h.mem
  unfold wdOk at this
  exact (Bool.and_eq_true_iff.mp this).1
theorem wd_ending {w : Str} (h : Wd esteps w) : isWord w esteps = true := wd_end w h.mem
theorem wd_plain {w : Str} (h : Wd plain5 w) : isAdd w = false := wd_noadd w h.mem
theorem ask_noadd : isAdd "ask" = false := by decide +kernel
theorem ins_round {B xs : List Str} {i : Nat} (hB : isRound B = true) (hi : 1 ≤ i) (hx : ∀ x ∈ xs, isWord x rsteps = true) (hl : B.length + xs.length ≤ 12) (ha : (B.filter isAdd).length + (xs.filter isAdd).length ≤ 1) :
    isRound (B.take i ++ xs ++ B.drop i) = true := by
  obtain ⟨r, rfl, h2, h3, h4⟩ := isRound_iff.mp hB
  obtain ⟨k, rfl⟩ : ∃ k, i = k + 1 := ⟨i - 1, by omega⟩
  refine isRound_iff.mpr ⟨r.take k ++ xs ++ r.drop k, rfl, ?_, ?_, fun w hw => ?_⟩
  · rw [List.length_append, List.length_append, List.length_take, List.length_drop]
    omega
  · rw [List.filter_append, List.filter_append, List.length_append, List.length_append]
    have e : (((("ask" : Str) :: r).take (k + 1)).filter isAdd).length + (((("ask" : Str) :: r).drop (k + 1)).filter isAdd).length = ((("ask" : Str) :: r).filter isAdd).length := by
      rw [← List.length_append, ← List.filter_append, List.take_append_drop]
    omega
  · rcases List.mem_append.mp hw with hw | hw
    · rcases List.mem_append.mp hw with hw | hw
      · exact h4 w (List.mem_of_mem_take hw)
      · exact hx w hw
    · exact h4 w (List.mem_of_mem_drop hw)
theorem ask_round {ws : List Str} (h : ∀ w ∈ ws, Wd plain5 w) (hl : ws.length ≤ 11) : isRound (("ask" : Str) :: ws) = true ∧ ((("ask" : Str) :: ws).filter isAdd).length = 0 := by
  have e : ((("ask" : Str) :: ws).filter isAdd) = [] := by
    refine List.filter_eq_nil_iff.mpr fun w hw => ?_
    rcases List.mem_cons.mp hw with rfl | hw
    · rw [ask_noadd]; exact Bool.false_ne_true
    · rw [wd_plain (h w hw)]; exact Bool.false_ne_true
  refine ⟨isRound_iff.mpr ⟨ws, rfl, by rw [List.length_cons]; omega, by rw [e]; exact Nat.zero_le _, fun w hw => wd_round ((h w hw).mono (by decide +kernel))⟩, by rw [e]; rfl⟩
theorem one_filter {xs : List Str} (h : xs.length = 1) : (xs.filter isAdd).length ≤ 1 := Nat.le_trans (List.length_filter_le ..) (by omega)
theorem none_filter {xs : List Str} (h : ∀ w ∈ xs, Wd plain5 w) : (xs.filter isAdd).length = 0 := by
  rw [show xs.filter isAdd = [] from List.filter_eq_nil_iff.mpr fun w hw => by rw [wd_plain (h w hw)]; exact Bool.false_ne_true]
  rfl
theorem round_adds {B : List Str} (h : isRound B = true) : (B.filter isAdd).length ≤ 1 := let ⟨_, _, _, h3, _⟩ := isRound_iff.mp h; h3
theorem words_ending {E : List Str} (h : ∀ w ∈ E, Wd esteps w) (hl : E.length ≤ 6) : isEnding E = true := isEnding_iff.mpr ⟨hl, fun w hw => wd_ending (h w hw)⟩
/-! ### signs that are signs -/
def Asc (w : Str) : Prop := PyData.strOk w = true
theorem asc_iff {w : Str} : Asc w ↔ ∀ c ∈ tl w, c < 1114112 := by
  unfold Asc PyData.strOk
  rw [← Array.all_toList, List.all_eq_true]
  simp
theorem Asc.app {a b : Str} (ha : Asc a) (hb : Asc b) : Asc (a ++ b) := by
  rw [asc_iff] at ha hb ⊢
  rw [tl_append]
  intro c hc
  exact (List.mem_append.mp hc).elim (ha c) (hb c)
theorem asc_join {B : List Str} (h : ∀ w ∈ B, Asc w) : Asc (Txt.join " " B) := by
  rw [asc_iff, tl_joinSp]
  intro c hc
  rcases joinL_mem hc with hc | ⟨p, hp, hc⟩
  · rw [List.mem_singleton.mp hc]
    decide
  · obtain ⟨w, hw, rfl⟩ := List.mem_map.mp hp
    exact asc_iff.mp (h w hw) c hc
theorem asc_bar : Asc " | " := by unfold Asc; decide +kernel
theorem asc_text {B E : List Str} (h1 : ∀ w ∈ B, Asc w) (h2 : ∀ w ∈ E, Asc w) : Asc (textOf B E) := by
  unfold textOf
  split
  · exact asc_join h1
  · exact ((asc_join h1).app asc_bar).app (asc_join h2)
theorem wd_asc' : ∀ w ∈ allWd rsteps, PyData.strOk w = true := by decide +kernel
theorem wd_asc {w : Str} (h : Wd rsteps w) : Asc w := wd_asc' w h.mem
theorem ask_asc : Asc "ask" := by unfold Asc; decide +kernel
theorem round_asc {B : List Str} (h : isRound B = true) : ∀ w ∈ B, Asc w := by
  obtain ⟨r, rfl, _, _, h4⟩ := isRound_iff.mp h
  intro w hw
  rcases List.mem_cons.mp hw with rfl | hw
  · exact ask_asc
  · exact wd_asc (word_wd (h4 w hw))
theorem ending_asc {E : List Str} (h : isEnding E = true) : ∀ w ∈ E, Asc w := fun w hw => wd_asc ((word_wd ((isEnding_iff.mp h).2 w hw)).mono e_r)
end LM

/-! the loops that the law draws -/
namespace My
open PySem L2 Cm LM
abbrev sWords : Stmt := top 121
abbrev sLoop : Stmt := top 122
abbrev sLine : Stmt := top 123
structure TxD (K : PySem.W.Frag) (mg : Str → Option Value) where
  J : TxtJ mg
  range : mg "range" = none
  sip : Df K mg "_law_sip" sSip ["_law_jar_here", "_law_many"]
  frm : Df K mg "_law_from" sFrom ["_law_jar_here", "_law_things"]
  wds : Df K mg "_law_words" sWords ["_law_jar_here", "_law_steps", "_law_many"]
  lop : Df K mg "_law_loop" sLoop ["_law_jar_here", "_law_most"]
  lin : Df K mg "_law_line" sLine ["_law_begun", "_law_ended"]
section
variable {P : Program} {w : World} {K : PySem.W.Frag} {mg : Str → Option Value} {base : Heap}
theorem gk_sip (D : TxD K mg) : FnOk P w K mg base CX0 1 D.sip.f D.sip.fd ["_law_jar_here", "_law_many"] spSip := ok_sip D.sip.F D.J
theorem gk_from (D : TxD K mg) : FnOk P w K mg base CX0 2 D.frm.f D.frm.fd ["_law_jar_here", "_law_things"] (spFrom K) := ok_from D.frm.F D.J ⟨D.sip.g, D.sip.k⟩ D.sip.F D.sip.b
/-! ### _law_words -/
def spWords (K : PySem.W.Frag) : Sp := fun vs H Q _ => ∃ (j p : Addr) (ss : List Str) (m : Nat), vs = [.ref j, .ref p, .int m] ∧ Jar H j ∧ p ≠ j ∧ SqL K H p (svs ss) ∧ 0 < ss.length ∧ ss.length ≤ 1000 ∧ (∀ s ∈ ss, s.length ≤ 100) ∧ m ≤ 100 ∧
  ∀ (H' : Hp) (q : Addr) (ws : List Str), Off j H H' → Jar H' j → H q = none → H' q = some (.lst (svs ws)) → ws.length = m → (∀ w ∈ ws, Wd ss w) → Q (.ref q) H'
theorem scWords : FnScope ["_law_jar_here", "_law_steps", "_law_many", "_law_tests", "_law_found", "_law_turn", "_law_word_here"] ["_law_jar_here", "_law_steps", "_law_many"] (defScope sWords) := ⟨rfl, rfl, rfl, by decide +kernel, rfl, by decide +kernel, by decide +kernel⟩
/-- any answer, after some draws -/
def tAny (i : Nat) : TT := fun σ H Q => ∃ (j : Addr) (x : Str), σ[0]? = some (some (.ref j)) ∧ σ[i]? = some (some (.str x)) ∧ Jar H j ∧ ∀ (b : Bool) (H' : Hp), Off j H H' → Jar H' j → Q b H'
theorem ok_words (D : TxD K mg) : FnOk P w K mg base CX0 3 D.wds.f D.wds.fd ["_law_jar_here", "_law_steps", "_law_many"] (spWords K) := by
  have GS : FnOk P w K mg base CX0 1 D.sip.f D.sip.fd ["_law_jar_here", "_law_many"] spSip := gk_sip D
  have GF : FnOk P w K mg base CX0 2 D.frm.f D.frm.fd ["_law_jar_here", "_law_things"] (spFrom K) := gk_from D
  refine D.wds.F.ok scWords (fun vs H Q E h => ?_) (fun cdv A outer s H vs Q E hr h => ?_)
  · obtain ⟨j, p, ss, m, rfl, _⟩ := h
    rfl
  · obtain ⟨j, p, ss, m, rfl, hJ, npj, hp, l0, l1, lw, hm, k⟩ := h
    have hr1 : Room 1 _ := hr.mono (by decide)
    refine ⟨_, pss_cons (ps_set (i := 3) scWords.nd rfl (.inl rfl) (pe_lst (pa_cons pe_str (pa_cons pe_str (pa_cons pe_str (pa_cons pe_str (pa_cons pe_str (pa_cons pe_str (pa_cons pe_str (pa_cons pe_str pa_nil))))))))))
      (pss_cons (ps_set (i := 4) scWords.nd rfl (.inl rfl) (pe_lst pa_nil))
      (pss_cons (ps_for PassesOwn.never rfl (pi_range1 rfl D.range (pa_cons (pv 2) pa_nil)) (pg_name (i := 5) scWords.nd rfl (Or.inl rfl))
        (pss_cons (ps_set (i := 6) scWords.nd rfl (.inl rfl) (pe_call GF hr rfl D.frm.g D.frm.k D.frm.b .nil pass0 (pa_cons (pv 0) (pa_cons (pv 1) pa_nil))))
        (C8.pss_cut (ps_if (pt_imp (t' := tAny 6) (PW.pt (pw_or (PW.pt (pw_and (pt_cmpR op_in_seq (pv 6) (pe_lst (pa_cons pe_str (pa_cons pe_str pa_nil))) (by rfl)) (pw_and1 (pt_cmpR op_gt (pe_call GS hr1 rfl D.sip.g D.sip.k D.sip.b .nil pass0 (pa_cons (pv 0) (pa_cons pe_int pa_nil))) pe_int (nomark _)))))
            (pw_or1 (pt_cmpR op_eq (pe_call GS hr1 rfl D.sip.g D.sip.k D.sip.b .nil pass0 (pa_cons (pv 0) (pa_cons pe_int pa_nil))) pe_int (nomark _))))) ?imp)
          (pss_one (ps_set (i := 6) scWords.nd rfl (.inl rfl) (pe_op op_add_str (pe_op op_add_str (pe_call GF hr rfl D.frm.g D.frm.k D.frm.b .nil pass0 (pa_cons (pv 0) (pa_cons (pv 3) pa_nil))) pe_str) (pv 6)))) pss_nil)
        (pss_one (ps_expr (pe_bm PySem.F.plainAttrs_list PySem.F.slot_list_append PySem.F.type_list_append mt_append (pv 4) (pa_cons (pv 6) pa_nil)))))))
      (pss_one (ps_ret (pv 4))))), ?_⟩
    case imp =>
      rintro σ H1 Q1 ⟨j1, x, h0, h6, J1, q⟩
      refine ⟨_, h6, (by show 2 ≤ sizeLine; decide), fun l nl => ?_⟩
      have third : ∀ H2, Off j1 H1 H2 → Jar H2 j1 → tTest (tOp rEq (tCall spSip [] E (tCons (tVar 0) (tCons (tC (.int 3)) tNil))) (tC (.int 0))) σ H2 Q1 := fun H2 o2 J2 =>
        ⟨_, h0, j1, 3, rfl, J2, by decide, by decide, fun H3 d _ _ o3 J3 => ⟨rfl, _, rfl, q _ _ (o2.trans o3) J3⟩⟩
      refine ⟨l, [.str "stop", .str "again"], rfl, .inl (SqL.of upd_same), rfl, rfl, _, rfl, ?_⟩
      have oN : Off j1 H1 (upd H1 l (.lst [.str "stop", .str "again"])) := Off.new Off.refl nl
      have JN := J1.new (o := .lst [.str "stop", .str "again"]) nl
      refine ite2 (fun _ => ?_) (fun _ => ?_)
      · refine ⟨_, h0, j1, 5, rfl, JN, by decide, by decide, fun H3 d _ _ o3 J3 => ⟨_, _, rfl, rfl, _, rfl, ?_⟩⟩
        refine ite2 (fun _ => ?_) (fun _ => ?_)
        · exact q _ _ (oN.trans o3) J3
        · exact third _ (oN.trans o3) J3
      · exact iteF (third _ oN JN)
    refine ⟨(by show 8 ≤ sizeLine; decide), fun t nt => ?_⟩
    refine ⟨Nat.zero_le _, fun q nq => ?_⟩
    have s0 : Same H (upd (upd H t (.lst (svs tests))) q (.lst [])) := Same.trans (same_new nt) (same_new nq)
    have ht : (upd (upd H t (.lst (svs tests))) q (.lst [])) t = some (.lst (svs tests)) := same_new nq _ _ upd_same
    have hq : (upd (upd H t (.lst (svs tests))) q (.lst [])) q = some (.lst (svs [])) := upd_same
    have nq0 : H q = none := (same_new nt).free nq
    have tq : t ≠ q := fun z => by rw [z, upd_same] at nq; cases nq
    have tj := jar_ne hJ nt
    have qj := jar_ne hJ nq0
    show tSeq _ _ _ _ (upd (upd H t (.lst (svs tests))) q (.lst []))
    generalize upd (upd H t (.lst (svs tests))) q (.lst []) = H1 at s0 ht hq ⊢
    refine ⟨_, rfl, m, rfl, by omega, by omega, for_range (lo := 0) (n := ((m : Int)).toNat) (fun i σ H' => ∃ (v5 v6 : Option V) (ws : List Str), σ = [some (.ref j), some (.ref p), some (.int m), some (.ref t), some (.ref q), v5, v6] ∧ Off j H H' ∧ Jar H' j ∧ H' t = some (.lst (svs tests)) ∧ H' q = some (.lst (svs ws)) ∧ ws.length = i ∧ ∀ w ∈ ws, Wd ss w)
      ⟨none, none, [], rfl, Same.off s0, hJ.same s0, ht, hq, rfl, fun w hw => nomatch hw⟩ ?_ ?_⟩
    · rintro i σ H' hi ⟨v5, v6, ws, rfl, o, J, ht', hq', lws, hws⟩
      refine ⟨_, rfl, _, rfl, j, p, svs ss, rfl, J, npj, o.seq npj hp, by rw [svs, List.length_map]; exact l0, by rw [svs, List.length_map]; omega, fun H2 n x hx o2 J2 => ?_⟩
      obtain ⟨z, hz, rfl⟩ := svs_get hx
      have zm : z ∈ ss := List.mem_of_getElem? hz
      refine ⟨fun σ H' => ∃ w, σ = [some (.ref j), some (.ref p), some (.int m), some (.ref t), some (.ref q), some (.int (0 + (i : Int))), some (.str w)] ∧ Off j H H' ∧ Jar H' j ∧ H' t = some (.lst (svs tests)) ∧ H' q = some (.lst (svs ws)) ∧ Wd ss w, ?_, ?_⟩
      · refine ⟨j, z, rfl, rfl, J2, fun b H3 o3 J3 => ?_⟩
        have o13 := (o.trans o2).trans o3
        have ht3 := o3 _ _ tj (o2 _ _ tj ht')
        have hq3 := o3 _ _ qj (o2 _ _ qj hq')
        cases b with
        | false => exact iteF ⟨z, rfl, o13, J3, ht3, hq3, z, zm, .inl rfl⟩
        | true =>
          refine iteT ?_
          refine ⟨_, rfl, _, rfl, j, t, svs tests, rfl, J3, tj, SqL.of ht3, by decide, by decide, fun H4 n4 x4 hx4 o4 J4 => ?_⟩
          obtain ⟨y, hy, rfl⟩ := svs_get hx4
          have ym : y ∈ tests := List.mem_of_getElem? hy
          have yl : y.length ≤ 5 := (show ∀ y ∈ tests, y.length ≤ 5 by decide +kernel) y ym
          have zl := lw z zm
          have c1 : (":" : Str).length = 1 := by decide +kernel
          refine ⟨_, _, rfl, rfl, szl (n := y.length + (":" : Str).length) (by omega), _, rfl, _, _, rfl, rfl, szl (n := (y ++ ":").length + z.length) (by rw [strLen_append]; omega), ?_⟩
          exact ⟨y ++ ":" ++ z, rfl, o13.trans o4, J4, o4 _ _ tj ht3, o4 _ _ qj hq3, z, zm, .inr ⟨y, ym, rfl⟩⟩
      rintro _ H3 ⟨wd, rfl, o3, J3, ht3, hq3, hwd⟩
      refine ⟨_, rfl, .inl ⟨rfl, _, SqL.of hq3⟩, _, rfl, q, _, _, rfl, rfl, hq3, small1000 (by rw [svs, List.length_map]; omega), ?_⟩
      refine ⟨_, _, ws ++ [wd], rfl, o3.put2 nq0, J3.put qj, ?_, ?_, ?_, fun w hw => ?_⟩
      · rw [upd_ne tq]
        exact ht3
      · rw [upd_same]
        simp [svs]
      · rw [List.length_append, lws]
        rfl
      · rcases List.mem_append.mp hw with hw | hw
        · exact hws w hw
        · rw [List.mem_singleton.mp hw]
          exact hwd
    · rintro σ H' ⟨v5, v6, ws, rfl, o, J, ht', hq', lws, hws⟩
      refine ⟨_, rfl, ?_⟩
      exact k H' q ws o J nq0 hq' (by simpa using lws) hws
end
end My

namespace My
open PySem L2 Cm LM
theorem Off.free {j p : Addr} {H H' : Hp} (o : Off j H H') (J : Jar H' j) (n : H' p = none) : H p = none := by
  cases e : H p with
  | none => rfl
  | some u =>
    have := o p u (jar_ne J n) e
    rw [n] at this
    cases this
theorem svs_len' (ws : List Str) : (svs ws).length = ws.length := List.length_map ..
theorem svs_app (a b : List Str) : svs a ++ svs b = svs (a ++ b) := by simp [svs]
theorem svs_take (a : List Str) (n : Nat) : (svs a).take n = svs (a.take n) := by simp [svs, List.map_take]
theorem svs_drop (a : List Str) (n : Nat) : (svs a).drop n = svs (a.drop n) := by simp [svs, List.map_drop]
section
variable {P : Program} {w : World} {K : PySem.W.Frag} {mg : Str → Option Value} {base : Heap}
/-- two lists that make a loop -/
structure Two (j : Addr) (H H' : Hp) (a b : Addr) (B E : List Str) (m : Nat) : Prop where
  o : Off j H H'
  J : Jar H' j
  na : H a = none
  nb : H b = none
  ha : H' a = some (.lst (svs B))
  hb : H' b = some (.lst (svs E))
  rB : isRound B = true
  rE : isEnding E = true
  lB : B.length ≤ m
  lE : E.length ≤ 2
def spLoop : Sp := fun vs H Q _ => ∃ (j : Addr) (m : Nat), vs = [.ref j, .int m] ∧ Jar H j ∧ 4 ≤ m ∧ m ≤ 11 ∧
  ∀ (H' : Hp) (p a b : Addr) (B E : List Str), Two j H H' a b B E (m + 1) → H' p = some (.tup [.ref a, .ref b]) → Q (.ref p) H'
theorem scLoop : FnScope ["_law_jar_here", "_law_most", "_law_some", "_law_parts", "_law_begun", "_law_ended", "_law_at"] ["_law_jar_here", "_law_most"] (defScope sLoop) := ⟨rfl, rfl, rfl, by decide +kernel, rfl, by decide +kernel, by decide +kernel⟩
theorem len_samples : (svs samples).length = 10 := by decide +kernel
theorem ok_loop (D : TxD K mg) : FnOk P w K mg base CX0 4 D.lop.f D.lop.fd ["_law_jar_here", "_law_most"] spLoop := by
  have GS : FnOk P w K mg base CX0 1 D.sip.f D.sip.fd ["_law_jar_here", "_law_many"] spSip := gk_sip D
  have GF : FnOk P w K mg base CX0 2 D.frm.f D.frm.fd ["_law_jar_here", "_law_things"] (spFrom K) := gk_from D
  have GW : FnOk P w K mg base CX0 3 D.wds.f D.wds.fd ["_law_jar_here", "_law_steps", "_law_many"] (spWords K) := ok_words D
  refine D.lop.F.ok scLoop (fun vs H Q E h => ?_) (fun cdv A outer s H vs Q E hr h => ?_)
  · obtain ⟨j, m, rfl, _⟩ := h
    rfl
  · obtain ⟨j, m, rfl, hJ, m0, m1, k⟩ := h
    have hr1 : Room 1 _ := hr.mono (by decide)
    have hr2 : Room 2 _ := hr.mono (by decide)
    refine ⟨_, pss_cons (ps_set (i := 2) scLoop.nd rfl (.inl rfl) (pe_lst (pa_cons pe_str (pa_cons pe_str (pa_cons pe_str (pa_cons pe_str pa_nil))))))
      (pss_cons (ps_set (i := 2) scLoop.nd rfl (.inl rfl) (pe_op op_cat (pv 2) (pe_lst (pa_cons pe_str (pa_cons pe_str (pa_cons pe_str pa_nil))))))
      (pss_cons (ps_set (i := 2) scLoop.nd rfl (.inl rfl) (pe_op op_cat (pv 2) (pe_lst (pa_cons pe_str (pa_cons pe_str pa_nil)))))
      (C8.pss_cut (ps_expr (pe_bm PySem.F.plainAttrs_list PySem.F.slot_list_append PySem.F.type_list_append mt_append (pv 2) (pa_cons pe_str pa_nil)))
      (pss_cons (ps_if (pt_cmpR op_eq (pe_call GS hr1 rfl D.sip.g D.sip.k D.sip.b .nil pass0 (pa_cons (pv 0) (pa_cons pe_int pa_nil))) pe_int (nomark _))
        (pss_cons (ps_set (i := 3) scLoop.nd rfl (.inl rfl) (pe_split (pe_call GF hr2 rfl D.frm.g D.frm.k D.frm.b .nil pass0 (pa_cons (pv 0) (pa_cons (pv 2) pa_nil))) pe_str))
        (pss_cons (ps_par (i := 4) (j := 5) rfl scLoop.nd rfl rfl (by decide) rfl rfl (pa_cons (pe_split (pe_ix ix_list (pv 3) pe_int (fun _ _ => rfl)) pe_str) (pa_cons (pe_lst pa_nil) pa_nil)) (by rfl))
        (C8.pss_cut (ps_if (pt_cmpR op_gt (pe_callB call_len_seq (by rfl) D.J.len PySem.boot_len (pa_cons (pv 3) pa_nil)) pe_int (nomark _)) (pss_one (ps_set (i := 5) scLoop.nd rfl (.inl rfl) (pe_split (pe_ix ix_list (pv 3) pe_int (fun _ _ => rfl)) pe_str))) pss_nil)
        (C8.pss_cut (ps_if (pt_cmpR op_eq (pe_call GS hr1 rfl D.sip.g D.sip.k D.sip.b .nil pass0 (pa_cons (pv 0) (pa_cons pe_int pa_nil))) pe_int (nomark _))
          (pss_cons (ps_set (i := 6) scLoop.nd rfl (.inl rfl) (pe_op op_add pe_int (pe_call GS hr1 rfl D.sip.g D.sip.k D.sip.b .nil pass0 (pa_cons (pv 0) (pa_cons (pe_callB call_len_seq (by rfl) D.J.len PySem.boot_len (pa_cons (pv 4) pa_nil)) pa_nil)))))
          (pss_one (ps_set (i := 4) scLoop.nd rfl (.inl rfl) (pe_op op_cat (pe_op op_cat (pe_slice sl_list (pv 4) po_none (po_some (pv 6))) (pe_call GW hr rfl D.wds.g D.wds.k D.wds.b .nil pass0 (pa_cons (pv 0) (pa_cons (pe_lst (pa_cons pe_str (pa_cons pe_str (pa_cons pe_str (pa_cons pe_str (pa_cons pe_str pa_nil)))))) (pa_cons pe_int pa_nil)))))
            (pe_slice sl_list (pv 4) (po_some (pv 6)) po_none))))) pss_nil)
        (pss_one (ps_ret (pe_tup (pa_cons (pv 4) (pa_cons (pv 5) pa_nil))))))))) pss_nil)
      (pss_cons (ps_set (i := 4) scLoop.nd rfl (.inl rfl) (pe_op op_cat (pe_lst (pa_cons pe_str pa_nil)) (pe_call GW hr rfl D.wds.g D.wds.k D.wds.b .nil pass0 (pa_cons (pv 0) (pa_cons (pe_lst (pa_cons pe_str (pa_cons pe_str (pa_cons pe_str (pa_cons pe_str (pa_cons pe_str (pa_cons pe_str pa_nil))))))) (pa_cons (pe_call GS hr1 rfl D.sip.g D.sip.k D.sip.b .nil pass0 (pa_cons (pv 0) (pa_cons (pv 1) pa_nil))) pa_nil))))))
      (C8.pss_cut (ps_if (pt_cmpR op_eq (pe_call GS hr1 rfl D.sip.g D.sip.k D.sip.b .nil pass0 (pa_cons (pv 0) (pa_cons pe_int pa_nil))) pe_int (nomark _))
          (pss_cons (ps_set (i := 6) scLoop.nd rfl (.inl rfl) (pe_op op_add pe_int (pe_call GS hr1 rfl D.sip.g D.sip.k D.sip.b .nil pass0 (pa_cons (pv 0) (pa_cons (pe_callB call_len_seq (by rfl) D.J.len PySem.boot_len (pa_cons (pv 4) pa_nil)) pa_nil)))))
          (pss_one (ps_set (i := 4) scLoop.nd rfl (.inl rfl) (pe_op op_cat (pe_op op_cat (pe_slice sl_list (pv 4) po_none (po_some (pv 6))) (pe_call GW hr rfl D.wds.g D.wds.k D.wds.b .nil pass0 (pa_cons (pv 0) (pa_cons (pe_lst (pa_cons pe_str pa_nil)) (pa_cons pe_int pa_nil)))))
            (pe_slice sl_list (pv 4) (po_some (pv 6)) po_none))))) pss_nil)
      (pss_one (ps_ret (pe_tup (pa_cons (pv 4) (pa_cons (pe_call GW hr rfl D.wds.g D.wds.k D.wds.b .nil pass0 (pa_cons (pv 0) (pa_cons (pe_lst (pa_cons pe_str (pa_cons pe_str (pa_cons pe_str pa_nil)))) (pa_cons (pe_call GS hr1 rfl D.sip.g D.sip.k D.sip.b .nil pass0 (pa_cons (pv 0) (pa_cons pe_int pa_nil))) pa_nil)))) pa_nil))))))))))), ?_⟩
    -- the samples
    refine ⟨(by show 4 ≤ sizeLine; decide), fun x1 n1 => ?_⟩
    refine ⟨_, rfl, (by show 3 ≤ sizeLine; decide), fun x2 n2 => ⟨x1, x2, _, _, rfl, rfl, same_new n2 _ _ upd_same, upd_same, (by show 7 ≤ sizeLine; decide), fun x3 n3 => ?_⟩⟩
    refine ⟨_, rfl, (by show 2 ≤ sizeLine; decide), fun x4 n4 => ⟨x3, x4, _, _, rfl, rfl, same_new n4 _ _ upd_same, upd_same, (by show 9 ≤ sizeLine; decide), fun x5 n5 => ?_⟩⟩
    refine ⟨fun σ H' => ∃ p, σ = [some (.ref j), some (.int m), some (.ref p), none, none, none, none] ∧ Off j H H' ∧ Jar H' j ∧ p ≠ j ∧ H' p = some (.lst (svs samples)), ?_, ?_⟩
    · refine ⟨_, rfl, .inl ⟨rfl, _, SqL.of upd_same⟩, x5, _, _, rfl, rfl, upd_same, small1000 (by show 9 ≤ 1000; decide), ?_⟩
      have n50 : H x5 = none := Same.free (Same.trans (same_new n1) (Same.trans (same_new n2) (Same.trans (same_new n3) (same_new n4)))) n5
      exact ⟨x5, rfl, (Same.off (j := j) (Same.trans (same_new n1) (Same.trans (same_new n2) (Same.trans (same_new n3) (Same.trans (same_new n4) (same_new n5)))))).put2 n50, (hJ.same (Same.trans (same_new n1) (Same.trans (same_new n2) (Same.trans (same_new n3) (Same.trans (same_new n4) (same_new n5)))))).put (jar_ne hJ n50), jar_ne hJ n50, upd_same⟩
    rintro _ H1 ⟨p, rfl, o1, J1, pj, hp⟩
    clear n1 n2 n3 n4 n5
    refine ⟨_, rfl, j, 3, rfl, J1, by decide, by decide, fun H2 d _ _ o2 J2 => ⟨rfl, _, rfl, ?_⟩⟩
    have o12 := o1.trans o2
    have hp2 := o2 _ _ pj hp
    clear o1 o2 J1 hp
    refine ite2 (fun _ => ?_) (fun _ => ?_)
    · -- a sample
      refine ⟨_, rfl, _, rfl, j, p, _, rfl, J2, pj, SqL.of hp2, by rw [len_samples]; decide, by rw [len_samples]; decide, fun H3 i x hx o3 J3 => ?_⟩
      obtain ⟨t, ht, rfl⟩ := svs_get hx
      have S := samp_of (List.mem_of_getElem? ht)
      have o13 := o12.trans o3
      refine ⟨⟨_, rfl⟩, t, " | ", rfl, rfl, by decide +kernel, Nat.le_trans (Nat.add_le_add_right S.ls 2) (by decide), fun q nq => ?_⟩
      have nq0 := o13.free J3 nq
      have qj := jar_ne hJ nq0
      have hq4 : (upd H3 q (.lst (svs (sampP t)))) q = some (.lst (svs (sampP t))) := upd_same
      have o14 : Off j H (upd H3 q (.lst (svs (sampP t)))) := o13.new nq
      have J4 := J3.new (o := .lst (svs (sampP t))) nq
      show tSeq _ _ _ _ (upd H3 q (.lst (svs (sampP t))))
      generalize upd H3 q (.lst (svs (sampP t))) = H4 at hq4 o14 J4 ⊢
      have g0 : (sampP t)[0]? = some ((sampP t).getD 0 Str.empty) := by
        rw [List.getD_eq_getElem?_getD, List.getElem?_eq_getElem S.l1]
        rfl
      have l0 : ((sampP t).getD 0 Str.empty).length ≤ 100 := S.lp _ (List.mem_of_getElem? g0)
      refine ⟨_, rfl, q, _, 0, .str ((sampP t).getD 0 Str.empty), rfl, rfl, SqL.of hq4, (show atI _ ((0 : Nat) : Int) = _ from atI_nat (by rw [svs, List.getElem?_map, g0]; rfl)), ⟨_, rfl⟩, _, " ", rfl, rfl, by decide +kernel, Nat.le_trans (Nat.add_le_add_right l0 2) (by decide), fun a na => ?_⟩
      refine ⟨Nat.zero_le _, fun b nb => ?_⟩
      refine ⟨_, _, rfl, ?_⟩
      have na0 := o14.free J4 na
      have o15 : Off j H (upd H4 a (.lst (svs (sampB t)))) := o14.new na
      have J5 := J4.new (o := .lst (svs (sampB t))) na
      have nb0 := o15.free J5 nb
      have ha6 : (upd (upd H4 a (.lst (svs (sampB t)))) b (.lst [])) a = some (.lst (svs (sampB t))) := same_new nb _ _ upd_same
      have hb6 : (upd (upd H4 a (.lst (svs (sampB t)))) b (.lst [])) b = some (.lst (svs [])) := upd_same
      have hq6 : (upd (upd H4 a (.lst (svs (sampB t)))) b (.lst [])) q = some (.lst (svs (sampP t))) := same_new nb _ _ (same_new na _ _ hq4)
      have o16 : Off j H (upd (upd H4 a (.lst (svs (sampB t)))) b (.lst [])) := o15.new nb
      have J6 := J5.new (o := .lst []) nb
      show C8.tCut _ _ _ _ (upd (upd H4 a (.lst (svs (sampB t)))) b (.lst []))
      generalize upd (upd H4 a (.lst (svs (sampB t)))) b (.lst []) = H6 at ha6 hb6 hq6 o16 J6 ⊢
      clear nb na o15 J5
      refine ⟨fun σ H' => ∃ b, σ = [some (.ref j), some (.int m), some (.ref p), some (.ref q), some (.ref a), some (.ref b), none] ∧ Two j H H' a b (sampB t) (sampE t) 4, ?_, ?_⟩
      · refine ⟨_, rfl, q, _, rfl, .inl (SqL.of hq6), _, _, rfl, rfl, _, rfl, ?_⟩
        rw [svs_len']
        refine ite2 (fun c => ?_) (fun c => ?_)
        · have c1 : 1 < (sampP t).length := by have := of_decide_eq_true c; omega
          have g1 : (sampP t)[1]? = some ((sampP t).getD 1 Str.empty) := by
            rw [List.getD_eq_getElem?_getD, List.getElem?_eq_getElem c1]
            rfl
          have l1 : ((sampP t).getD 1 Str.empty).length ≤ 100 := S.lp _ (List.mem_of_getElem? g1)
          refine ⟨_, rfl, q, _, 1, .str ((sampP t).getD 1 Str.empty), rfl, rfl, SqL.of hq6, (show atI _ ((1 : Nat) : Int) = _ from atI_nat (by rw [svs, List.getElem?_map, g1]; rfl)), ⟨_, rfl⟩, _, " ", rfl, rfl, by decide +kernel, Nat.le_trans (Nat.add_le_add_right l1 2) (by decide), fun b2 nb2 => ?_⟩
          have e : sampE t = Txt.split ((sampP t).getD 1 Str.empty) " " := by unfold sampE; rw [if_pos c1]
          exact ⟨b2, rfl, o16.new nb2, J6.new nb2, na0, o16.free J6 nb2, same_new nb2 _ _ ha6, by rw [e]; exact upd_same, S.r, S.e, S.lb, Nat.le_trans S.le (by decide)⟩
        · have c1 : ¬ (sampP t).length > 1 := fun z => c (decide_eq_true (by omega))
          have e : sampE t = [] := by unfold sampE; rw [if_neg c1]
          exact ⟨b, rfl, o16, J6, na0, nb0, ha6, by rw [e]; exact hb6, S.r, S.e, S.lb, Nat.le_trans S.le (by decide)⟩
      rintro _ H7 ⟨b, rfl, W⟩
      clear ha6 hb6 hq6 o16 J6 hq4 o14 J4 nb0 g0
      refine ⟨fun σ H' => ∃ (a : Addr) (B : List Str) (v6 : Option V), σ = [some (.ref j), some (.int m), some (.ref p), some (.ref q), some (.ref a), some (.ref b), v6] ∧ Two j H H' a b B (sampE t) 5, ?_, ?_⟩
      · refine ⟨_, rfl, j, 2, rfl, W.J, by decide, by decide, fun H8 d _ _ o8 J8 => ⟨rfl, _, rfl, ?_⟩⟩
        have aj := jar_ne hJ W.na
        have bj := jar_ne hJ W.nb
        have ha8 := o8 _ _ aj W.ha
        have hb8 := o8 _ _ bj W.hb
        have o18 := W.o.trans o8
        refine ite2 (fun _ => ?_) (fun _ => ?_)
        · have lb1 : 1 ≤ (sampB t).length := List.length_pos_iff.mpr (round_ne W.rB)
          refine ⟨_, rfl, _, rfl, a, _, rfl, .inl (SqL.of ha8), j, _, rfl, J8, by rw [svs_len']; omega, by rw [svs_len']; have := W.lB; omega, fun H9 d2 d20 d21 o9 J9 => ⟨_, _, rfl, rfl, ?_⟩⟩
          rw [svs_len'] at d21
          obtain ⟨n, rfl⟩ := Int.eq_ofNat_of_zero_le d20
          have ha9 := o9 _ _ aj ha8
          have o19 := o18.trans o9
          refine ⟨_, rfl, _, rfl, ((1 + n : Nat) : Int), by simp, a, _, rfl, SqL.of ha9, fun x1 nx1 => ?_⟩
          rw [cut_to _ _ (by rw [svs_len']; omega), svs_take]
          refine ⟨_, rfl, (by show 5 ≤ sizeLine; decide), fun x2 nx2 => ?_⟩
          have o20 := (o19.new (o := .lst (svs ((sampB t).take (1 + n)))) nx1).new (o := .lst (svs plain5)) nx2
          have J20 := (J9.new (o := .lst (svs ((sampB t).take (1 + n)))) nx1).new (o := .lst (svs plain5)) nx2
          refine ⟨j, x2, plain5, 1, rfl, J20, jar_ne (J9.new nx1) nx2, SqL.of upd_same, by decide, by decide, by decide +kernel, by decide, fun H10 x3 ws o10 J10 nx3 hx3 lw hw => ?_⟩
          have x1j := jar_ne J9 nx1
          refine ⟨x1, x3, _, _, rfl, rfl, o10 _ _ x1j (same_new nx2 _ _ upd_same), hx3, ?_, fun x4 nx4 => ?_⟩
          · rw [svs_len', svs_len', List.length_take]
            have := W.lB
            exact szl (by omega)
          rw [svs_app]
          have ha10 := o10 _ _ aj (same_new nx2 _ _ (same_new nx1 _ _ ha9))
          refine ⟨_, rfl, _, rfl, ((1 + n : Nat) : Int), by simp, a, _, rfl, SqL.of (same_new nx4 _ _ ha10), fun x5 nx5 => ?_⟩
          rw [cut_from, svs_drop]
          refine ⟨x4, x5, _, _, rfl, rfl, same_new nx5 _ _ upd_same, upd_same, ?_, fun x6 nx6 => ?_⟩
          · rw [svs_len', svs_len', List.length_append, List.length_take, List.length_drop]
            have := W.lB
            exact szl (by omega)
          rw [svs_app]
          have o21 := o20.trans o10
          have na6 := (((o21.new (o := .lst (svs ((sampB t).take (1 + n) ++ ws))) nx4).new (o := .lst (svs ((sampB t).drop (1 + n)))) nx5)).free ((J10.new nx4).new nx5) nx6
          refine ⟨x6, _, _, rfl, ((o21.new nx4).new nx5).new nx6, ((J10.new nx4).new nx5).new nx6, na6, W.nb, upd_same, same_new nx6 _ _ (same_new nx5 _ _ (same_new nx4 _ _ (o10 _ _ bj (same_new nx2 _ _ (same_new nx1 _ _ (o9 _ _ bj hb8)))))), ?_, W.rE, ?_, W.lE⟩
          · refine ins_round W.rB (by omega) (fun x hx => wd_round ((hw x hx).mono (by decide +kernel))) (by have := W.lB; omega) ?_
            rw [none_filter hw]
            exact round_adds W.rB
          · rw [List.length_append, List.length_append, List.length_take, List.length_drop]
            have := W.lB
            omega
        · exact ⟨a, sampB t, none, rfl, o18, J8, W.na, W.nb, ha8, hb8, W.rB, W.rE, Nat.le_trans W.lB (by decide), W.lE⟩
      rintro _ H8 ⟨a, B, v6, rfl, W⟩
      refine ⟨_, rfl, _, rfl, (by show 2 ≤ sizeLine; decide), fun r nr => ?_⟩
      exact k _ r a b B (sampE t) ⟨W.o.new nr, W.J.new nr, W.na, W.nb, same_new nr _ _ W.ha, same_new nr _ _ W.hb, W.rB, W.rE, Nat.le_trans W.lB (by omega), W.lE⟩ upd_same
    · -- drawn words
      refine ⟨(by show 1 ≤ sizeLine; decide), fun x1 nx1 => ?_⟩
      refine ⟨_, rfl, (by show 6 ≤ sizeLine; decide), fun x2 nx2 => ?_⟩
      have o14 := (o12.new (o := .lst (svs ["ask"])) nx1).new (o := .lst (svs ["hand", "cut", "flush", "stop", "again", "stop"])) nx2
      have J4 := (J2.new (o := .lst (svs ["ask"])) nx1).new (o := .lst (svs ["hand", "cut", "flush", "stop", "again", "stop"])) nx2
      have x1j := jar_ne J2 nx1
      have x2j := jar_ne (J2.new (o := .lst (svs ["ask"])) nx1) nx2
      have h14 : (upd (upd H2 x1 (.lst (svs ["ask"]))) x2 (.lst (svs ["hand", "cut", "flush", "stop", "again", "stop"]))) x1 = some (.lst (svs ["ask"])) := same_new nx2 _ _ upd_same
      have h24 : (upd (upd H2 x1 (.lst (svs ["ask"]))) x2 (.lst (svs ["hand", "cut", "flush", "stop", "again", "stop"]))) x2 = some (.lst (svs ["hand", "cut", "flush", "stop", "again", "stop"])) := upd_same
      show tCall spSip [] E0 _ _ (upd (upd H2 x1 (.lst (svs ["ask"]))) x2 (.lst (svs ["hand", "cut", "flush", "stop", "again", "stop"]))) _
      generalize upd (upd H2 x1 (.lst (svs ["ask"]))) x2 (.lst (svs ["hand", "cut", "flush", "stop", "again", "stop"])) = H4 at o14 J4 h14 h24 ⊢
      refine ⟨_, rfl, _, rfl, j, m, rfl, J4, by omega, by omega, fun H5 d d0 d1 o5 J5 => ?_⟩
      obtain ⟨n, rfl⟩ := Int.eq_ofNat_of_zero_le d0
      refine ⟨j, x2, ["hand", "cut", "flush", "stop", "again", "stop"], n, rfl, J5, x2j, SqL.of (o5 _ _ x2j h24), by decide, by decide, by decide +kernel, by omega, fun H6 x3 ws o6 J6 nx3 hx3 lw hw => ?_⟩
      refine ⟨x1, x3, _, _, rfl, rfl, o6 _ _ x1j (o5 _ _ x1j h14), hx3, ?_, fun a na => ?_⟩
      · rw [svs_len', svs_len']
        exact szl (by show 1 + ws.length ≤ 1000; omega)
      rw [svs_app]
      have o16 := (o14.trans o5).trans o6
      have na0 := o16.free J6 na
      have aj := jar_ne hJ na0
      have hw5 : ∀ w ∈ ws, Wd plain5 w := fun w h => (hw w h).mono (by decide +kernel)
      have R := ask_round hw5 (by omega)
      have ha7 : (upd H6 a (.lst (svs ([("ask" : Str)] ++ ws)))) a = some (.lst (svs (("ask" : Str) :: ws))) := upd_same
      have o17 : Off j H (upd H6 a (.lst (svs ([("ask" : Str)] ++ ws)))) := o16.new na
      have J7 := J6.new (o := .lst (svs ([("ask" : Str)] ++ ws))) na
      show C8.tCut _ _ _ _ (upd H6 a (.lst (svs ([("ask" : Str)] ++ ws))))
      generalize upd H6 a (.lst (svs ([("ask" : Str)] ++ ws))) = H7 at ha7 o17 J7 ⊢
      clear h14 h24 o14 J4 o5 J5 o6 J6 hx3 o16 na x1j x2j
      refine ⟨fun σ H' => ∃ (a : Addr) (B : List Str) (v6 : Option V), σ = [some (.ref j), some (.int m), some (.ref p), none, some (.ref a), none, v6] ∧ Off j H H' ∧ Jar H' j ∧ H a = none ∧ H' a = some (.lst (svs B)) ∧ isRound B = true ∧ B.length ≤ m + 1, ?_, ?_⟩
      · refine ⟨_, rfl, j, 2, rfl, J7, by decide, by decide, fun H8 d _ _ o8 J8 => ⟨rfl, _, rfl, ?_⟩⟩
        have ha8 := o8 _ _ aj ha7
        have o18 := o17.trans o8
        refine ite2 (fun _ => ?_) (fun _ => ?_)
        · refine ⟨_, rfl, _, rfl, a, _, rfl, .inl (SqL.of ha8), j, _, rfl, J8, by rw [svs_len', List.length_cons]; omega, by rw [svs_len', List.length_cons]; omega, fun H9 d2 d20 d21 o9 J9 => ⟨_, _, rfl, rfl, ?_⟩⟩
          rw [svs_len', List.length_cons] at d21
          obtain ⟨n2, rfl⟩ := Int.eq_ofNat_of_zero_le d20
          have ha9 := o9 _ _ aj ha8
          have o19 := o18.trans o9
          refine ⟨_, rfl, _, rfl, ((1 + n2 : Nat) : Int), by simp, a, _, rfl, SqL.of ha9, fun x1 nx1 => ?_⟩
          rw [cut_to _ _ (by rw [svs_len', List.length_cons]; omega), svs_take]
          refine ⟨_, rfl, (by show 1 ≤ sizeLine; decide), fun x2 nx2 => ?_⟩
          have o20 := (o19.new (o := .lst (svs ((("ask" : Str) :: ws).take (1 + n2)))) nx1).new (o := .lst (svs ["add"])) nx2
          have J20 := (J9.new (o := .lst (svs ((("ask" : Str) :: ws).take (1 + n2)))) nx1).new (o := .lst (svs ["add"])) nx2
          refine ⟨j, x2, ["add"], 1, rfl, J20, jar_ne (J9.new nx1) nx2, SqL.of upd_same, by decide, by decide, by decide +kernel, by decide, fun H10 x3 xs o10 J10 nx3 hx3 lx hxs => ?_⟩
          have x1j := jar_ne J9 nx1
          refine ⟨x1, x3, _, _, rfl, rfl, o10 _ _ x1j (same_new nx2 _ _ upd_same), hx3, ?_, fun x4 nx4 => ?_⟩
          · rw [svs_len', svs_len', List.length_take]
            exact szl (by omega)
          rw [svs_app]
          have ha10 := o10 _ _ aj (same_new nx2 _ _ (same_new nx1 _ _ ha9))
          refine ⟨_, rfl, _, rfl, ((1 + n2 : Nat) : Int), by simp, a, _, rfl, SqL.of (same_new nx4 _ _ ha10), fun x5 nx5 => ?_⟩
          rw [cut_from, svs_drop]
          refine ⟨x4, x5, _, _, rfl, rfl, same_new nx5 _ _ upd_same, upd_same, ?_, fun x6 nx6 => ?_⟩
          · rw [svs_len', svs_len', List.length_append, List.length_take, List.length_drop, List.length_cons]
            exact szl (by omega)
          rw [svs_app]
          have o21 := o20.trans o10
          have na6 := (((o21.new (o := .lst (svs ((("ask" : Str) :: ws).take (1 + n2) ++ xs))) nx4).new (o := .lst (svs ((("ask" : Str) :: ws).drop (1 + n2)))) nx5)).free ((J10.new nx4).new nx5) nx6
          refine ⟨x6, _, _, rfl, ((o21.new nx4).new nx5).new nx6, ((J10.new nx4).new nx5).new nx6, na6, upd_same, ?_, ?_⟩
          · refine ins_round R.1 (by omega) (fun x hx => wd_round ((hxs x hx).mono (by decide +kernel))) (by rw [List.length_cons]; omega) ?_
            rw [R.2]
            have := one_filter lx
            omega
          · rw [List.length_append, List.length_append, List.length_take, List.length_drop, List.length_cons]
            omega
        · exact ⟨a, _, none, rfl, o18, J8, na0, ha8, R.1, by rw [List.length_cons]; omega⟩
      rintro _ H8 ⟨a, B, v6, rfl, o8, J8, na, ha8, rB, lB⟩
      have aj := jar_ne hJ na
      refine ⟨_, rfl, _, rfl, (by show 3 ≤ sizeLine; decide), fun x2 nx2 => ?_⟩
      have x2j := jar_ne J8 nx2
      refine ⟨_, rfl, j, 3, rfl, J8.new nx2, by decide, by decide, fun H9 d d0 d1 o9 J9 => ?_⟩
      obtain ⟨n3, rfl⟩ := Int.eq_ofNat_of_zero_le d0
      have o19 := (o8.new nx2).trans o9
      refine ⟨j, x2, esteps, n3, rfl, J9, x2j, SqL.of (o9 _ _ x2j upd_same), by decide, by decide, by decide +kernel, by omega, fun H10 b E' o10 J10 nb hb lE hE => ?_⟩
      have nb0 := o19.free J9 nb
      refine ⟨(by show 2 ≤ sizeLine; decide), fun r nr => ?_⟩
      have ha10 := o10 _ _ aj (o9 _ _ aj (same_new nx2 _ _ ha8))
      exact k _ r a b B E' ⟨(o19.trans o10).new nr, J10.new nr, na, nb0, same_new nr _ _ ha10, same_new nr _ _ hb, rB, words_ending hE (by omega), lB, by omega⟩ upd_same
end
end My

namespace My
open PySem L2 Cm LM
/-! ### rows of texts as data -/
def strD (ws : List Str) : List PyData := ws.map PyData.str
theorem dpS {K : PySem.W.Frag} {H : Hp} : ∀ ws : List Str, DpAll K H (svs ws) (strD ws)
  | [] => .nil
  | x :: r => .cons (.str x) (dpS r)
theorem strD_lay : ∀ {ws : List Str}, (∀ w ∈ ws, Asc w) → PyData.canLayAll0 (strD ws) = true
  | [], _ => by simp [strD, PyData.canLayAll0]
  | x :: r, h => by
    have h1 := strD_lay (ws := r) fun w hw => h w (List.mem_cons_of_mem _ hw)
    have h2 : PyData.strOk x = true := h x (List.mem_cons_self ..)
    simp only [strD, List.map_cons, PyData.canLayAll0, PyData.canLay0, h2, Bool.true_and] at h1 ⊢
    exact h1
theorem strD_depth : ∀ ws : List Str, PyData.depthAll (strD ws) ≤ 1
  | [] => by simp [strD, PyData.depthAll]
  | x :: r => by
    have := strD_depth r
    simp only [strD, List.map_cons, PyData.depthAll, PyData.depth] at this ⊢
    omega
theorem strD_shaped {ws : List Str} (h : ∀ w ∈ ws, Asc w) : SeqAt.shaped (.list (strD ws)) = true := by
  have := strD_depth ws
  refine Bool.and_eq_true_iff.mpr ⟨by simp only [PyData.canLay0]; exact strD_lay h, decide_eq_true ?_⟩
  simp only [PyData.depth]
  omega
theorem eqv_nil (ws : List Str) : PyData.eqv (.list (strD ws)) (.list []) = decide (ws = []) := by
  cases ws with
  | nil => simp [strD, PyData.eqv, PyData.eqvAll]
  | cons x r => simp [strD, PyData.eqv, PyData.eqvAll]
section
variable {P : Program} {w : World} {K : PySem.W.Frag} {mg : Str → Option Value} {base : Heap}
/-! ### _law_line -/
def spLine : Sp := fun vs H Q _ => ∃ (a b : Addr) (B E : List Str), vs = [.ref a, .ref b] ∧ H a = some (.lst (svs B)) ∧ H b = some (.lst (svs E)) ∧ Sht 100 B ∧ Sht 100 E ∧ (∀ w ∈ E, Asc w) ∧ ∀ H', Same H H' → Q (.str (line B E)) H'
theorem scLine : FnScope ["_law_begun", "_law_ended"] ["_law_begun", "_law_ended"] (defScope sLine) := ⟨rfl, rfl, rfl, by decide +kernel, rfl, by decide +kernel, by decide +kernel⟩
theorem ok_line (D : TxD K mg) : FnOk P w K mg base CX0 1 D.lin.f D.lin.fd ["_law_begun", "_law_ended"] spLine := by
  refine D.lin.F.ok scLine (fun vs H Q E h => ?_) (fun cdv A outer s H vs Q E hr h => ?_)
  · obtain ⟨a, b, B, E, rfl, _⟩ := h
    rfl
  · obtain ⟨a, b, B, E, rfl, ha, hb, sB, sE, aE, k⟩ := h
    refine ⟨_, pss_one (ps_ret (pe_ifExp (pt_cmpR (op_neD (hu64 hr)) (pv 1) (pe_lst pa_nil) (nomark _)) (pe_join pe_str (pe_op op_cat (pe_op op_cat (pv 0) (pe_lst (pa_cons pe_str pa_nil))) (pv 1))) (pe_join pe_str (pv 0)))), ?_⟩
    refine ⟨_, rfl, Nat.zero_le _, fun e ne => ?_⟩
    refine ⟨.list (strD E), .list [], .lst (SqL.of (same_new ne _ _ hb)) (dpS E), .lst (SqL.of upd_same) .nil, strD_shaped aE, by decide, _, rfl, ?_⟩
    rw [eqv_nil]
    have s1 : Same H (upd H e (.lst [])) := same_new ne
    generalize upd H e (.lst []) = H1 at s1 ⊢
    have l1 : (" " : Str).length = 1 := by decide +kernel
    unfold line at k
    by_cases hE : E = []
    · rw [decide_eq_true hE]
      rw [if_pos hE] at k
      refine iteF ⟨⟨_, rfl⟩, _, rfl, " ", a, B, rfl, rfl, .inl (SqL.of (s1 _ _ ha)), ?_, k _ s1⟩
      rw [l1]
      have := sB.sum
      omega
    · rw [decide_eq_false hE]
      rw [if_neg hE] at k
      refine iteT ⟨⟨_, rfl⟩, _, rfl, (by show 1 ≤ sizeLine; decide), fun x nx => ?_⟩
      refine ⟨a, x, _, _, rfl, rfl, same_new nx _ _ (s1 _ _ ha), upd_same, ?_, fun y ny => ?_⟩
      · rw [svs_len']
        have := sB.2
        exact szl (by show B.length + 1 ≤ 1000; omega)
      refine ⟨_, rfl, y, b, _, _, rfl, rfl, upd_same, same_new ny _ _ (same_new nx _ _ (s1 _ _ hb)), ?_, fun z nz => ?_⟩
      · rw [List.length_append, svs_len', svs_len']
        have := sB.2
        have := sE.2
        exact szl (by show B.length + 1 + E.length ≤ 1000; omega)
      refine ⟨" ", z, B ++ [("|" : Str)] ++ E, rfl, rfl, .inl (SqL.of (by rw [upd_same]; simp [svs])), ?_, ?_⟩
      · have sh : Sht 201 (B ++ [("|" : Str)] ++ E) := by
          refine ⟨fun w hw => ?_, ?_⟩
          · rcases List.mem_append.mp hw with hw | hw
            · rcases List.mem_append.mp hw with hw | hw
              · exact sB.1 w hw
              · rw [List.mem_singleton.mp hw]
                decide +kernel
            · exact sE.1 w hw
          · rw [List.length_append, List.length_append]
            have := sB.2
            have := sE.2
            simp
            omega
        rw [l1]
        have := sh.sum
        omega
      · exact k _ (Same.trans s1 (Same.trans (same_new nx) (Same.trans (same_new ny) (same_new nz))))
end
end My

/-! loops filled up; rows without one word -/
namespace LM
open PySem L2 TL
theorem again_ok : isWord "again" rsteps = true ∧ isAdd "again" = false := by decide +kernel
theorem cut_ok : isWord "cut" esteps = true := by decide +kernel
theorem pad_round {B : List Str} (h : isRound B = true) (n : Nat) (hl : B.length + n ≤ 12) : isRound (B ++ List.replicate n ("again" : Str)) = true := by
  obtain ⟨r, rfl, h2, h3, h4⟩ := isRound_iff.mp h
  refine isRound_iff.mpr ⟨r ++ List.replicate n ("again" : Str), rfl, by rw [List.length_append, List.length_replicate]; exact hl, ?_, fun w hw => ?_⟩
  · rw [List.filter_append]
    have e : (List.replicate n ("again" : Str)).filter isAdd = [] := List.filter_eq_nil_iff.mpr fun w hw => by
      rw [List.eq_of_mem_replicate hw, again_ok.2]
      exact Bool.false_ne_true
    rw [e, List.append_nil]
    exact h3
  · rcases List.mem_append.mp hw with hw | hw
    · exact h4 w hw
    · rw [List.eq_of_mem_replicate hw]
      exact again_ok.1
theorem pad_ending {E : List Str} (h : isEnding E = true) (n : Nat) (hl : E.length + n ≤ 6) : isEnding (E ++ List.replicate n ("cut" : Str)) = true := by
  have q := isEnding_iff.mp h
  refine isEnding_iff.mpr ⟨by rw [List.length_append, List.length_replicate]; exact hl, fun w hw => ?_⟩
  rcases List.mem_append.mp hw with hw | hw
  · exact q.2 w hw
  · rw [List.eq_of_mem_replicate hw]
    exact cut_ok
/-- the two rows of a loop without the word at n -/
def outB (B : List Str) (n : Nat) : List Str := if n < B.length then B.eraseIdx n else B
def outE (B E : List Str) (n : Nat) : List Str := if n < B.length then E else E.eraseIdx (n - B.length)
theorem out_row (B E : List Str) (n m : Nat) (hm : m = B.length - (if n < B.length then 1 else 0)) : ((B ++ E).take n ++ (B ++ E).drop (n + 1)).take m = outB B n ∧ ((B ++ E).take n ++ (B ++ E).drop (n + 1)).drop m = outE B E n := by
  rw [← List.eraseIdx_eq_take_drop_succ]
  unfold outB outE
  by_cases h : n < B.length
  · rw [if_pos h] at hm ⊢
    rw [if_pos h, List.eraseIdx_append_of_lt_length h]
    have e : m = (B.eraseIdx n).length := by rw [List.length_eraseIdx, if_pos h]; exact hm
    rw [e, List.take_left, List.drop_left]
    exact ⟨rfl, rfl⟩
  · rw [if_neg h] at hm ⊢
    rw [if_neg h, List.eraseIdx_append_of_length_le (by omega)]
    have e : m = B.length := by omega
    rw [e, List.take_left, List.drop_left]
    exact ⟨rfl, rfl⟩
theorem outB_round {B : List Str} {n : Nat} (h : isRound B = true) (hn : 1 ≤ n) : isRound (outB B n) = true := by
  unfold outB
  split
  · exact round_erase h hn
  · exact h
theorem outE_ending {B E : List Str} {n : Nat} (h : isEnding E = true) : isEnding (outE B E n) = true := by
  unfold outE
  split
  · exact h
  · exact ending_erase h
theorem out_len {B E : List Str} {n : Nat} (h : n < B.length + E.length) : (outB B n).length + (outE B E n).length + 1 = B.length + E.length := by
  unfold outB outE
  by_cases hn : n < B.length
  · rw [if_pos hn, if_pos hn, List.length_eraseIdx, if_pos hn]
    omega
  · rw [if_neg hn, if_neg hn, List.length_eraseIdx, if_pos (by omega)]
    omega
end LM

/-! words taken apart by split -/
namespace LM
open PySem L2 TL
def partsOk (w : Str) : Bool := decide ((orderOf w).2 ∈ rsteps) && (if (orderOf w).1 = Str.empty then decide (Txt.split w ":" = [(orderOf w).2]) else decide (Txt.split w ":" = [(orderOf w).1, (orderOf w).2]) && decide ((orderOf w).1 ∈ tests))
theorem parts_ok : ∀ w ∈ allWd rsteps, partsOk w = true := by decide +kernel
structure Parts (w : Str) : Prop where
  s : (orderOf w).2 ∈ rsteps
  p : ((orderOf w).1 = Str.empty ∧ Txt.split w ":" = [(orderOf w).2]) ∨ ((orderOf w).1 ≠ Str.empty ∧ Txt.split w ":" = [(orderOf w).1, (orderOf w).2] ∧ (orderOf w).1 ∈ tests)
theorem parts_of {w : Str} (h : Wd rsteps w) : Parts w := by
  have q := parts_ok w h.mem
  unfold partsOk at q
  have q2 := Bool.and_eq_true_iff.mp q
  refine ⟨of_decide_eq_true q2.1, ?_⟩
  have q3 := q2.2
  split at q3
  next e => exact .inl ⟨e, of_decide_eq_true q3⟩
  next e =>
    have q4 := Bool.and_eq_true_iff.mp q3
    exact .inr ⟨e, of_decide_eq_true q4.1, of_decide_eq_true q4.2⟩
theorem emp : Str.empty = ("" : Str) := by decide +kernel
theorem esteps_flow : ∀ w ∈ allWd esteps, (orderOf w).2 ≠ "again" ∧ (orderOf w).2 ≠ "stop" := by decide +kernel
theorem ending_flow {E : List Str} (h : isEnding E = true) : ∀ o ∈ E.map orderOf, o.2 ≠ "again" ∧ o.2 ≠ "stop" := by
  intro o ho
  obtain ⟨w, hw, rfl⟩ := List.mem_map.mp ho
  exact esteps_flow w (word_wd ((isEnding_iff.mp h).2 w hw)).mem
theorem ask_order : orderOf "ask" = (("" : Str), ("ask" : Str)) := by decide +kernel
theorem round_tail_wd {B : List Str} (h : isRound B = true) : ∃ r, B = ("ask" : Str) :: r ∧ (∀ w ∈ r, Wd rsteps w) ∧ r.length ≤ 11 := by
  obtain ⟨r, rfl, h2, _, h4⟩ := isRound_iff.mp h
  rw [List.length_cons] at h2
  exact ⟨r, rfl, fun w hw => word_wd (h4 w hw), by omega⟩
theorem ending_wd {E : List Str} (h : isEnding E = true) : (∀ w ∈ E, Wd rsteps w) ∧ E.length ≤ 6 := ⟨fun w hw => (word_wd ((isEnding_iff.mp h).2 w hw)).mono e_r, (isEnding_iff.mp h).1⟩
end LM

/-! the law's own execution -/
namespace My
open PySem L2 Cm LM EM
abbrev sPassed : Stmt := top 125
abbrev sSliced : Stmt := top 126
abbrev sDone : Stmt := top 127
abbrev sFed : Stmt := top 128
abbrev sBox : Stmt := top 129
/-! ### boxes -/
def bx (r u : Addr) (g : Nat) (ov : Bool) : List (Key × V) := [(.inr "rest", .ref r), (.inr "out", .ref u), (.inr "got", .int g), (.inr "over", .bl ov)]
section
variable (r u r' : Addr) (g : Nat) (ov b : Bool)
theorem bx_r : valV (bx r u g ov) (.inr "rest") = some (.ref r) := by kernel_rfl
theorem bx_u : valV (bx r u g ov) (.inr "out") = some (.ref u) := by kernel_rfl
theorem bx_g : valV (bx r u g ov) (.inr "got") = some (.int g) := by kernel_rfl
theorem bx_o : valV (bx r u g ov) (.inr "over") = some (.bl ov) := by kernel_rfl
theorem bx_pr : putK (bx r u g ov) (.inr "rest") (.ref r') = bx r' u g ov := by kernel_rfl
theorem bx_pu : putK (bx r u g ov) (.inr "out") (.ref r') = bx r r' g ov := by kernel_rfl
theorem bx_po : putK (bx r u g ov) (.inr "over") (.bl b) = bx r u g b := by kernel_rfl
theorem bx_mk : mergeK [] (bx r u g ov) = bx r u g ov := by kernel_rfl
theorem bx_len : (bx r u g ov).length = 4 := rfl
end
section
variable {H : Hp} {b0 r u : Addr} {g : Nat} {ov : Bool}
theorem get_r (h : H b0 = some (.dK (bx r u g ov))) : DGet H b0 (.str "rest") (some (.ref r)) := by
  have := DGet.k (k := Sum.inr "rest") h
  rw [bx_r] at this
  exact this
theorem get_u (h : H b0 = some (.dK (bx r u g ov))) : DGet H b0 (.str "out") (some (.ref u)) := by
  have := DGet.k (k := Sum.inr "out") h
  rw [bx_u] at this
  exact this
theorem get_g (h : H b0 = some (.dK (bx r u g ov))) : DGet H b0 (.str "got") (some (.int g)) := by
  have := DGet.k (k := Sum.inr "got") h
  rw [bx_g] at this
  exact this
theorem get_o (h : H b0 = some (.dK (bx r u g ov))) : DGet H b0 (.str "over") (some (.bl ov)) := by
  have := DGet.k (k := Sum.inr "over") h
  rw [bx_o] at this
  exact this
theorem dput_r (r' : Addr) (h : H b0 = some (.dK (bx r u g ov))) : DPut H b0 (.str "rest") (.ref r') (upd H b0 (.dK (bx r' u g ov))) := by
  have := DPut.k (k := Sum.inr "rest") (v := .ref r') h (by rw [bx_len]; decide)
  rw [bx_pr] at this
  exact this
theorem dput_u (r' : Addr) (h : H b0 = some (.dK (bx r u g ov))) : DPut H b0 (.str "out") (.ref r') (upd H b0 (.dK (bx r r' g ov))) := by
  have := DPut.k (k := Sum.inr "out") (v := .ref r') h (by rw [bx_len]; decide)
  rw [bx_pu] at this
  exact this
theorem dput_o (o' : Bool) (h : H b0 = some (.dK (bx r u g ov))) : DPut H b0 (.str "over") (.bl o') (upd H b0 (.dK (bx r u g o'))) := by
  have := DPut.k (k := Sum.inr "over") (v := .bl o') h (by rw [bx_len]; decide)
  rw [bx_po] at this
  exact this
end
theorem Pcs.app {H : Hp} : ∀ {vs xs ws ys}, Pcs H vs xs → Pcs H ws ys → Pcs H (vs ++ ws) (xs ++ ys)
  | _, _, _, _, .nil, h => h
  | _, _, _, _, .cons a t, h => .cons a (t.app h)
theorem Pcs.same {H H' : Hp} (s : Same H H') {vs xs} (h : Pcs H vs xs) : Pcs H' vs xs := h.mono fun _ _ e => s _ _ e
structure BoxAt (H : Hp) (b : Addr) (x : RP) (g : Nat) (ov : Bool) : Prop where
  ex : ∃ r u vs, H b = some (.dK (bx r u g ov)) ∧ H r = some (.lst (ivs x.rest)) ∧ H u = some (.lst vs) ∧ Pcs H vs x.pieces
theorem BoxAt.same {H H' : Hp} {b : Addr} {x : RP} {g : Nat} {ov : Bool} (s : Same H H') (h : BoxAt H b x g ov) : BoxAt H' b x g ov := let ⟨r, u, vs, a, b, c, d⟩ := h.ex; ⟨r, u, vs, s _ _ a, s _ _ b, s _ _ c, d.same s⟩
theorem BoxAt.off {j : Addr} {H H' : Hp} {b : Addr} {x : RP} {g : Nat} {ov : Bool} (s : Off j H H') (n : ∀ u, H j = some u → (∀ kvs, u ≠ .dK kvs) ∧ (∀ xs, u ≠ .tup xs) ∧ ∃ a b c : Int, u = .lst [.int a, .int b, .int c]) (jb : ∀ r u vs, H b = some (.dK (bx r u g ov)) → H r = some (.lst (ivs x.rest)) → H u = some (.lst vs) → r ≠ j ∧ u ≠ j ∧ b ≠ j) (tp : ∀ q xs, H q = some (.tup xs) → q ≠ j) (h : BoxAt H b x g ov) : BoxAt H' b x g ov := by
  obtain ⟨r, u, vs, h1, h2, h3, h4⟩ := h.ex
  obtain ⟨n1, n2, n3⟩ := jb r u vs h1 h2 h3
  exact ⟨r, u, vs, s _ _ n3 h1, s _ _ n1 h2, s _ _ n2 h3, h4.mono fun q xs e => s _ _ (tp q xs e) e⟩
/-! ### numbers as data -/
def intD (xs : List Int) : List PyData := xs.map PyData.int
theorem dpI {K : PySem.W.Frag} {H : Hp} : ∀ xs : List Int, DpAll K H (ivs xs) (intD xs)
  | [] => .nil
  | x :: r => .cons (.int x) (dpI r)
theorem intD_lay : ∀ xs : List Int, PyData.canLayAll0 (intD xs) = true
  | [] => by simp [intD, PyData.canLayAll0]
  | x :: r => by
    have := intD_lay r
    simp only [intD, List.map_cons, PyData.canLayAll0, PyData.canLay0, Bool.true_and] at this ⊢
    exact this
theorem intD_depth : ∀ xs : List Int, PyData.depthAll (intD xs) ≤ 1
  | [] => by simp [intD, PyData.depthAll]
  | x :: r => by
    have := intD_depth r
    simp only [intD, List.map_cons, PyData.depthAll, PyData.depth] at this ⊢
    omega
theorem intD_shaped (xs : List Int) : SeqAt.shaped (.list (intD xs)) = true := by
  have := intD_depth xs
  refine Bool.and_eq_true_iff.mpr ⟨by simp only [PyData.canLay0]; exact intD_lay xs, decide_eq_true ?_⟩
  simp only [PyData.depth]
  omega
theorem eqv_inil (xs : List Int) : PyData.eqv (.list (intD xs)) (.list []) = decide (xs = []) := by
  cases xs with
  | nil => simp [intD, PyData.eqv, PyData.eqvAll]
  | cons x r => simp [intD, PyData.eqv, PyData.eqvAll]
theorem pos_nil (xs : List Int) : decide (0 < xs.length) = !decide (xs = []) := by cases xs <;> simp
structure TxB (K : PySem.W.Frag) (mg : Str → Option Value) where
  J : TxtJ mg
  range : mg "range" = none
  tuple : mg "tuple" = none
  list : mg "list" = none
  pas : Df K mg "_law_passed" sPassed ["_law_test", "_law_got", "_law_box_here", "_law_said", "_law_wide"]
  sli : Df K mg "_law_sliced" sSliced ["_law_row_here", "_law_wide", "_law_many"]
  don : Df K mg "_law_done" sDone ["_law_words_here", "_law_got", "_law_box_here", "_law_said", "_law_wide"]
  fed : Df K mg "_law_fed" sFed ["_law_made", "_law_box_here", "_law_many", "_law_said", "_law_wide"]
  box : Df K mg "_law_box" sBox []
section
variable {P : Program} {w : World} {K : PySem.W.Frag} {mg : Str → Option Value} {base : Heap}
/-! ### _law_passed -/
def spPd : Sp := fun vs H Q _ => ∃ (ga b : Addr) (t : Str) (got : List Int) (x : RP) (g : Nat) (ov said : Bool) (wide : Nat), vs = [.str t, .ref ga, .ref b, .bl said, .int wide] ∧ t ∈ tests ∧ H ga = some (.lst (ivs got)) ∧ BoxAt H b x g ov ∧ ∀ H', Same H H' → Q (.bl (passM wide got said t x.rest)) H'
theorem scPd : FnScope ["_law_test", "_law_got", "_law_box_here", "_law_said", "_law_wide"] ["_law_test", "_law_got", "_law_box_here", "_law_said", "_law_wide"] (defScope sPassed) := ⟨rfl, rfl, rfl, by decide +kernel, rfl, by decide +kernel, by decide +kernel⟩
theorem pass_1 {wide : Nat} {got rest : List Int} {said : Bool} {t : Str} (h : t = "empty" ∨ t = "some") : passM wide got said t rest = decide (decide (got = []) = decide (t = "empty")) := by
  have e := pos_nil got
  rcases h with rfl | rfl
  · unfold passM
    rw [if_neg (by decide +kernel), if_neg (by decide +kernel), if_neg (by decide +kernel), if_pos (by decide +kernel), e, show decide (("empty" : Str) = "some") = false by decide +kernel, show decide (("empty" : Str) = "empty") = true by decide +kernel]
    cases decide (got = []) <;> rfl
  · unfold passM
    rw [if_neg (by decide +kernel), if_neg (by decide +kernel), if_neg (by decide +kernel), if_pos (by decide +kernel), e, show decide (("some" : Str) = "some") = true by decide +kernel, show decide (("some" : Str) = "empty") = false by decide +kernel]
    cases decide (got = []) <;> rfl
theorem pass_2 {wide : Nat} {got rest : List Int} {said : Bool} {t : Str} (h : t = "short" ∨ t = "full") : passM wide got said t rest = decide (decide (got.length < wide) = decide (t = "short")) := by
  rcases h with rfl | rfl
  · unfold passM
    rw [if_neg (by decide +kernel), if_neg (by decide +kernel), if_neg (by decide +kernel), if_neg (by decide +kernel)]
    rfl
  · unfold passM
    rw [if_neg (by decide +kernel), if_neg (by decide +kernel), if_neg (by decide +kernel), if_neg (by decide +kernel)]
    rfl
theorem pass_3 {wide : Nat} {got rest : List Int} {said : Bool} {t : Str} (h : t = "told" ∨ t = "open") : passM wide got said t rest = decide (said = decide (t = "told")) := by
  have h0 : ¬ t = "" := by rcases h with rfl | rfl <;> decide +kernel
  unfold passM
  rw [if_neg h0, if_pos h]
  rfl
theorem pass_4 {wide : Nat} {got rest : List Int} {said : Bool} {t : Str} (ht : t ∈ tests) (h1 : ¬ (t = "empty" ∨ t = "some")) (h2 : ¬ (t = "short" ∨ t = "full")) (h3 : ¬ (t = "told" ∨ t = "open")) : passM wide got said t rest = decide ((!decide (rest = [])) = decide (t = "rest")) := by
  have h4 : t = "rest" ∨ t = "bare" := by
    have h5 : t = "empty" ∨ t = "some" ∨ t = "short" ∨ t = "full" ∨ t = "told" ∨ t = "open" ∨ t = "rest" ∨ t = "bare" := by simpa [tests] using ht
    rcases h5 with h | h | h | h | h | h | h | h
    · exact absurd (.inl h) h1
    · exact absurd (.inr h) h1
    · exact absurd (.inl h) h2
    · exact absurd (.inr h) h2
    · exact absurd (.inl h) h3
    · exact absurd (.inr h) h3
    · exact .inl h
    · exact .inr h
  have h0 : ¬ t = "" := by rcases h4 with rfl | rfl <;> decide +kernel
  unfold passM
  rw [if_neg h0, if_neg h3, if_pos h4, pos_nil]
  rfl
theorem ok_pd (B : TxB K mg) : FnOk P w K mg base CX0 1 B.pas.f B.pas.fd ["_law_test", "_law_got", "_law_box_here", "_law_said", "_law_wide"] spPd := by
  refine B.pas.F.ok scPd (fun vs H Q E h => ?_) (fun cdv A outer s H vs Q E hr h => ?_)
  · obtain ⟨ga, b, t, got, x, g, ov, said, wide, rfl, _⟩ := h
    rfl
  · obtain ⟨ga, b, t, got, x, g, ov, said, wide, rfl, ht, hg, hB, k⟩ := h
    have hu := hu_of hr
    refine ⟨_, pss_cons (ps_if (pt_cmpR op_in_seq (pv 0) (pe_lst (pa_cons pe_str (pa_cons pe_str pa_nil))) (by rfl)) (pss_one (ps_ret (pe_cmpR op_eq (pe_cmpR (op_eqD (hu64 hr)) (pv 1) (pe_lst pa_nil) (nomark _)) (pe_cmpR op_eq (pv 0) pe_str (nomark _)) (nomark _)))) pss_nil)
      (pss_cons (ps_if (pt_cmpR op_in_seq (pv 0) (pe_lst (pa_cons pe_str (pa_cons pe_str pa_nil))) (by rfl)) (pss_one (ps_ret (pe_cmpR op_eq (pe_cmpR op_lt (pe_callB call_len_seq (by rfl) B.J.len PySem.boot_len (pa_cons (pv 1) pa_nil)) (pv 4) (nomark _)) (pe_cmpR op_eq (pv 0) pe_str (nomark _)) (nomark _)))) pss_nil)
      (pss_cons (ps_if (pt_cmpR op_in_seq (pv 0) (pe_lst (pa_cons pe_str (pa_cons pe_str pa_nil))) (by rfl)) (pss_one (ps_ret (pe_cmpR op_eq (pv 3) (pe_cmpR op_eq (pv 0) pe_str (nomark _)) (nomark _)))) pss_nil)
      (pss_one (ps_ret (pe_cmpR op_eq (pe_cmpR (op_neD (hu64 hr)) (pe_dget hu (pv 2) pe_str (fun _ _ => rfl)) (pe_lst pa_nil) (nomark _)) (pe_cmpR op_eq (pv 0) pe_str (nomark _)) (nomark _)))))), ?_⟩
    refine ⟨_, rfl, (by show 2 ≤ sizeLine; decide), fun t1 n1 => ⟨t1, _, rfl, .inl (SqL.of upd_same), rfl, rfl, _, rfl, ?_⟩⟩
    have s1 : Same H (upd H t1 (.lst [.str "empty", .str "some"])) := same_new n1
    generalize upd H t1 (.lst [.str "empty", .str "some"]) = H1 at s1 ⊢
    rw [show (if false = true then !inV (V.str t) [V.str "empty", V.str "some"] else inV (V.str t) [V.str "empty", V.str "some"]) = decide (t = "empty" ∨ t = "some") from in2 ..]
    by_cases h1 : t = "empty" ∨ t = "some"
    · rw [decide_eq_true h1]
      refine iteT ⟨_, rfl, Nat.zero_le _, fun e ne => ?_⟩
      refine ⟨.list (intD got), .list [], .lst (SqL.of (same_new ne _ _ (s1 _ _ hg))) (dpI got), .lst (SqL.of upd_same) .nil, intD_shaped _, by decide, _, rfl, rfl, rfl, ?_⟩
      rw [eqv_inil, dS, dB]
      have := k _ (Same.trans s1 (same_new (o := .lst []) ne))
      rw [pass_1 h1] at this
      exact this
    rw [decide_eq_false h1]
    refine iteF ?_
    refine ⟨_, rfl, (by show 2 ≤ sizeLine; decide), fun t2 n2 => ⟨t2, _, rfl, .inl (SqL.of upd_same), rfl, rfl, _, rfl, ?_⟩⟩
    have s2 : Same H (upd H1 t2 (.lst [.str "short", .str "full"])) := Same.trans s1 (same_new n2)
    generalize upd H1 t2 (.lst [.str "short", .str "full"]) = H2 at s2 ⊢
    rw [show (if false = true then !inV (V.str t) [V.str "short", V.str "full"] else inV (V.str t) [V.str "short", V.str "full"]) = decide (t = "short" ∨ t = "full") from in2 ..]
    by_cases h2 : t = "short" ∨ t = "full"
    · rw [decide_eq_true h2]
      refine iteT ⟨_, rfl, ga, _, rfl, .inl (SqL.of (s2 _ _ hg)), _, rfl, _, _, rfl, rfl, _, rfl, rfl, rfl, ?_⟩
      rw [dS, dB, ivs_len, lt_dec]
      have := k _ s2
      rw [pass_2 h2] at this
      exact this
    rw [decide_eq_false h2]
    refine iteF ?_
    refine ⟨_, rfl, (by show 2 ≤ sizeLine; decide), fun t3 n3 => ⟨t3, _, rfl, .inl (SqL.of upd_same), rfl, rfl, _, rfl, ?_⟩⟩
    have s3 : Same H (upd H2 t3 (.lst [.str "told", .str "open"])) := Same.trans s2 (same_new n3)
    generalize upd H2 t3 (.lst [.str "told", .str "open"]) = H3 at s3 ⊢
    rw [show (if false = true then !inV (V.str t) [V.str "told", V.str "open"] else inV (V.str t) [V.str "told", V.str "open"]) = decide (t = "told" ∨ t = "open") from in2 ..]
    by_cases h3 : t = "told" ∨ t = "open"
    · rw [decide_eq_true h3]
      refine iteT ⟨_, rfl, _, rfl, rfl, rfl, ?_⟩
      rw [dS, dB]
      have := k _ s3
      rw [pass_3 h3] at this
      exact this
    rw [decide_eq_false h3]
    refine iteF ?_
    obtain ⟨r, u, vs, hb, hr1, hu1, hP⟩ := (hB.same s3).ex
    refine ⟨_, rfl, b, _, rfl, get_r hb, Nat.zero_le _, fun e ne => ?_⟩
    refine ⟨.list (intD x.rest), .list [], .lst (SqL.of (same_new ne _ _ hr1)) (dpI _), .lst (SqL.of upd_same) .nil, intD_shaped _, by decide, _, rfl, rfl, rfl, ?_⟩
    rw [eqv_inil, dS, dB]
    have := k _ (Same.trans s3 (same_new (o := .lst []) ne))
    rw [pass_4 ht h1 h2 h3] at this
    exact this
/-! ### _law_sliced -/
def spSl : Sp := fun vs H Q _ => ∃ (ra : Addr) (row : List Int) (wide many : Nat), vs = [.ref ra, .int wide, .int many] ∧ H ra = some (.lst (ivs row)) ∧ wide ≤ 1000 ∧ many * wide ≤ row.length ∧ row.length ≤ 4000000 ∧ many ≤ 4000000 ∧ ∀ (H' : Hp) (q : Addr) (vs : List V), Same H H' → H' q = some (.lst vs) → Pcs H' vs (cutN wide row many) → Q (.ref q) H'
theorem scSl : FnScope ["_law_row_here", "_law_wide", "_law_many", "_law_k"] ["_law_row_here", "_law_wide", "_law_many"] (defScope sSliced) := ⟨rfl, rfl, rfl, by decide +kernel, rfl, by decide +kernel, by decide +kernel⟩
/-- tuple(row[k * wide:k * wide + wide]) -/
def teSl : TE := fun σ H Q => ∃ (ra : Addr) (row : List Int) (wide k : Nat), σ[0]? = some (some (.ref ra)) ∧ σ[1]? = some (some (.int wide)) ∧ σ[3]? = some (some (.int k)) ∧ H ra = some (.lst (ivs row)) ∧ wide ≤ 1000 ∧ k * wide + wide ≤ row.length ∧
  ∀ (H' : Hp) (q : Addr), Same H H' → H' q = some (.tup (ivs ((row.drop (k * wide)).take wide))) → Q (.ref q) H'
theorem ok_sl (B : TxB K mg) : FnOk P w K mg base CX0 1 B.sli.f B.sli.fd ["_law_row_here", "_law_wide", "_law_many"] spSl := by
  refine B.sli.F.ok scSl (fun vs H Q E h => ?_) (fun cdv A outer s H vs Q E hr h => ?_)
  · obtain ⟨ra, row, wide, many, rfl, _⟩ := h
    rfl
  · obtain ⟨ra, row, wide, many, rfl, hra, w1, l1, l2, l3, k⟩ := h
    refine ⟨_, pss_one (ps_ret (pe_lc (own := [("_law_k", 3)]) (g := gName 3) (tt := tYes) (te := teSl) rfl scSl.nd (pi_range1 rfl B.range (pa_cons (pv 2) pa_nil)) (blkOk_by (own := [("_law_k", 3)]) (N := ["_law_row_here", "_law_wide", "_law_many", "_law_k"]) (sc := defScope sSliced) (by decide +kernel))
      (fun _ _ _ _ _ => pg_name (i := 3) scSl.nd rfl (Or.inl rfl)) (fun _ _ _ _ _ => pts_nil)
      (fun _ _ _ _ _ => pe_imp (pe_callTy call_tuple_of (by rfl) B.tuple (by decide +kernel) (pa_cons (pe_slice sl_list (pv 0) (po_some (pe_op op_mul (pv 3) (pv 1))) (po_some (pe_op op_add (pe_op op_mul (pv 3) (pv 1)) (pv 1)))) pa_nil)) (by
        rintro σ H Q ⟨ra, row, wide, k, h0, h1, h3, hra, w1, l1, q⟩
        refine ⟨_, h0, _, h3, _, h1, _, _, rfl, rfl, .inr ⟨by omega, by omega⟩, ((k * wide : Nat) : Int), by rw [Int.natCast_mul], _, h3, _, h1, _, _, rfl, rfl, .inr ⟨by omega, by omega⟩, _, h1, _, _, rfl, rfl, ((k * wide + wide : Nat) : Int), by rw [Int.natCast_add, Int.natCast_mul], ra, _, rfl, SqL.of hra, fun p np => ?_⟩
        refine ⟨p, _, rfl, .inl ⟨SqL.of upd_same, fun l nl => ?_⟩⟩
        refine q _ l (Same.trans (same_new np) (same_new nl)) ?_
        rw [upd_same, cut_mid _ _ _ (by omega) (by rw [ivs_len]; exact l1), show k * wide + wide - k * wide = wide by omega]
        simp [ivs, List.map_take, List.map_drop])))), ?_⟩
    refine ⟨_, rfl, many, rfl, by omega, by omega, fun D nD => ?_⟩
    refine lc_range (lo := 0) (n := ((many : Int)).toNat) (fun i H' => Same H H' ∧ ∃ vs, H' D = some (.lst vs) ∧ Pcs H' vs (cutN wide row i)) ⟨same_new nD, [], upd_same, .nil⟩ ?_ ?_
    · rintro i H1 hi ⟨s1, vs, hD, hP⟩
      have hi : i < many := by simpa using hi
      have m1 : (i + 1) * wide ≤ row.length := Nat.le_trans (Nat.mul_le_mul_right _ hi) l1
      have m2 : (i + 1) * wide = i * wide + wide := Nat.succ_mul i wide
      refine ⟨rfl, ra, row, wide, i, rfl, rfl, by rw [Int.zero_add]; rfl, s1 _ _ hra, w1, by omega, fun H2 q s2 hq => ?_⟩
      have hD2 := s2 _ _ hD
      have st := tup_stays (o' := .lst (vs ++ [.ref q])) hD2 (by intro xs z; cases z)
      have lp := hP.len
      refine ⟨vs, hD2, ?_, fun b o e => ?_, _, upd_same, ?_⟩
      · rw [lp, cutN, List.length_map, List.length_range]
        exact Nat.lt_of_le_of_lt (show i ≤ 4000000 by omega) (by decide)
      · rw [upd_ne (ne_of_none e nD)]
        exact s2 _ _ (s1 _ _ e)
      · rw [cutN_succ]
        exact Pcs.snoc (st _ _ hq) ((hP.same s2).mono st)
    · rintro H1 ⟨s1, vs, hD, hP⟩
      exact k H1 D vs s1 hD (by simpa using hP)
end
end My

namespace My
open PySem L2 Cm LM EM
section
variable {P : Program} {w : World} {K : PySem.W.Frag} {mg : Str → Option Value} {base : Heap}
/-- a box whose lists are not the jar -/
structure BoxJ (j : Addr) (H : Hp) (b : Addr) (x : RP) (g : Nat) (ov : Bool) : Prop where
  ex : ∃ r u vs, H b = some (.dK (bx r u g ov)) ∧ H r = some (.lst (ivs x.rest)) ∧ H u = some (.lst vs) ∧ Pcs H vs x.pieces ∧ r ≠ j ∧ u ≠ j
theorem BoxJ.at {j : Addr} {H : Hp} {b : Addr} {x : RP} {g : Nat} {ov : Bool} (h : BoxJ j H b x g ov) : BoxAt H b x g ov := let ⟨r, u, vs, a, b, c, d, _⟩ := h.ex; ⟨r, u, vs, a, b, c, d⟩
theorem BoxJ.same {j : Addr} {H H' : Hp} {b : Addr} {x : RP} {g : Nat} {ov : Bool} (s : Same H H') (h : BoxJ j H b x g ov) : BoxJ j H' b x g ov := let ⟨r, u, vs, a, b, c, d, e⟩ := h.ex; ⟨r, u, vs, s _ _ a, s _ _ b, s _ _ c, d.same s, e⟩
theorem BoxJ.off {j : Addr} {H H' : Hp} {b : Addr} {x : RP} {g : Nat} {ov : Bool} (s : Off j H H') (hj : Jar H j) (h : BoxJ j H b x g ov) : BoxJ j H' b x g ov := by
  obtain ⟨r, u, vs, a, b, c, d, e, f⟩ := h.ex
  obtain ⟨x, y, z, q⟩ := hj
  exact ⟨r, u, vs, s _ _ (ne_of a q (by intro z; cases z)) a, s _ _ e b, s _ _ f c, d.mono (fun p xs k => s _ _ (ne_of k q (by intro z; cases z)) k), e, f⟩
/-! ### _law_done -/
def ords (ws : List Str) : List (Str × Str) := ws.map orderOf
def spDn (j : Addr) : Sp := fun vs H Q _ => ∃ (wa ga b : Addr) (ws : List Str) (got : List Int) (x : RP) (g : Nat) (ov said : Bool) (wide k c : Nat), vs = [.ref wa, .ref ga, .ref b, .bl said, .int wide] ∧ H wa = some (.lst (svs ws)) ∧ (∀ z ∈ ws, Wd rsteps z) ∧ ws.length ≤ 12 ∧ H ga = some (.lst (ivs got)) ∧ BoxJ j H b x g ov ∧ Jar H j ∧ FitK wide got k c x ∧ k ≤ 2400 ∧ c ≤ 7800000 ∧
  ∀ (H' : Hp) (z : Str), Off b H H' → BoxJ j H' b (runW wide got said (ords ws) x).1 g ov → decide (z = "stop") = (runW wide got said (ords ws) x).2 → Q (.str z) H'
theorem scDn : FnScope ["_law_words_here", "_law_got", "_law_box_here", "_law_said", "_law_wide", "_law_word_here", "_law_parts", "_law_many"] ["_law_words_here", "_law_got", "_law_box_here", "_law_said", "_law_wide"] (defScope sDone) := ⟨rfl, rfl, rfl, by decide +kernel, rfl, by decide +kernel, by decide +kernel⟩
/-- its test is not passed -/
def tSkip : TT := fun σ H Q => ∃ (q ga b : Addr) (wd : Str) (got : List Int) (x : RP) (g : Nat) (ov said : Bool) (wide : Nat), σ[6]? = some (some (.ref q)) ∧ σ[1]? = some (some (.ref ga)) ∧ σ[2]? = some (some (.ref b)) ∧ σ[3]? = some (some (.bl said)) ∧ σ[4]? = some (some (.int wide)) ∧ Parts wd ∧ H q = some (.lst (svs (Txt.split wd ":"))) ∧ H ga = some (.lst (ivs got)) ∧ BoxAt H b x g ov ∧
  ∀ H', Same H H' → Q (!(passM wide got said (orderOf wd).1 x.rest)) H'
theorem pass_0 {wide : Nat} {got rest : List Int} {said : Bool} : passM wide got said "" rest = true := by
  unfold passM
  rw [if_pos rfl]
theorem parts_last {wd : Str} (h : Parts wd) : ∃ pre, svs (Txt.split wd ":") = pre ++ [.str (orderOf wd).2] := by
  rcases h.p with ⟨_, e⟩ | ⟨_, e, _⟩
  · exact ⟨[], by rw [e]; rfl⟩
  · exact ⟨[.str (orderOf wd).1], by rw [e]; rfl⟩
theorem box_put {j : Addr} {H H1 : Hp} {b r u r' u' : Addr} {g : Nat} {ov : Bool} {x x' : RP} {vs' : List V} (hb : H b = some (.dK (bx r u g ov))) (h1 : H r' = some (.lst (ivs x'.rest))) (h2 : H u' = some (.lst vs')) (h3 : Pcs H vs' x'.pieces) (n3 : r' ≠ j) (n4 : u' ≠ j) : BoxJ j (upd H b (.dK (bx r' u' g ov))) b x' g ov := by
  have n1 : r' ≠ b := ne_of h1 hb (by intro z; cases z)
  have n2 : u' ≠ b := ne_of h2 hb (by intro z; cases z)
  exact ⟨r', u', vs', upd_same, by rw [upd_ne n1]; exact h1, by rw [upd_ne n2]; exact h2, h3.mono (tup_stays hb (by intro xs z; cases z)), n3, n4⟩
theorem ok_dn (B : TxB K mg) (j : Addr) : FnOk P w K mg base CX0 2 B.don.f B.don.fd ["_law_words_here", "_law_got", "_law_box_here", "_law_said", "_law_wide"] (spDn j) := by
  have GP : FnOk P w K mg base CX0 1 B.pas.f B.pas.fd ["_law_test", "_law_got", "_law_box_here", "_law_said", "_law_wide"] spPd := ok_pd B
  have GS : FnOk P w K mg base CX0 1 B.sli.f B.sli.fd ["_law_row_here", "_law_wide", "_law_many"] spSl := ok_sl B
  refine B.don.F.ok scDn (fun vs H Q E h => ?_) (fun cdv A outer s H vs Q E hr h => ?_)
  · obtain ⟨wa, ga, b, ws, got, x, g, ov, said, wide, k, c, rfl, _⟩ := h
    rfl
  · obtain ⟨wa, ga, b, ws, got, x, g, ov, said, wide, kk, cc, rfl, hwa, hwd, lws, hga, hB, hJ, hF, hk, hc, k⟩ := h
    have hu := hu_of hr
    refine ⟨_, (pss_cons (ps_for PassesOwn.never rfl (pi_list (pv 0)) (pg_name (i := 5) scDn.nd rfl (.inl rfl)) (pss_cons (ps_set (i := 6) scDn.nd rfl (.inl rfl) (pe_split (pv 5) pe_str)) (pss_cons (ps_if (pt_imp (t' := tSkip) (PW.pt (pw_and (pt_cmpR op_eq (pe_callB call_len_seq (by rfl) B.J.len PySem.boot_len (pa_cons (pv 6) pa_nil)) pe_int (nomark _)) (pw_and1 (pt_not (pt_val (pe_call GP hr rfl B.pas.g B.pas.k B.pas.b .nil pass0 (pa_cons (pe_ix ix_list (pv 6) pe_int (fun _ _ => rfl)) (pa_cons (pv 1) (pa_cons (pv 2) (pa_cons (pv 3) (pa_cons (pv 4) pa_nil))))))))))) ?imp) (pss_one ps_continue) pss_nil) (pss_cons (ps_if (pt_cmpR op_in_seq (pe_ix ix_list (pv 6) (pe_un un_neg pe_int) (fun _ _ => rfl)) (pe_lst (pa_cons pe_str (pa_cons pe_str pa_nil))) (by rfl)) (pss_one (ps_ret (pe_ix ix_list (pv 6) (pe_un un_neg pe_int) (fun _ _ => rfl)))) pss_nil) (pss_one (ps_if (pt_cmpR op_eq (pe_ix ix_list (pv 6) (pe_un un_neg pe_int) (fun _ _ => rfl)) pe_str (nomark _)) (pss_one (ps_dput hu (pv 2) pe_str (pe_op op_cat (pe_dget hu (pv 2) pe_str (fun _ _ => rfl)) (pv 1)) rfl)) (pss_one (ps_if (pt_cmpR op_eq (pe_ix ix_list (pv 6) (pe_un un_neg pe_int) (fun _ _ => rfl)) pe_str (nomark _)) (pss_one (ps_dput hu (pv 2) pe_str (pe_op op_cat (pe_dget hu (pv 2) pe_str (fun _ _ => rfl)) (pe_lst (pa_cons (pe_callTy call_tuple_of (by rfl) B.tuple (by decide +kernel) (pa_cons (pv 1) pa_nil)) pa_nil))) rfl)) (pss_one (ps_if (pt_cmpR op_eq (pe_ix ix_list (pv 6) (pe_un un_neg pe_int) (fun _ _ => rfl)) pe_str (nomark _)) (pss_one (ps_asg (pe_tup (pa_cons (pe_op op_cat (pe_dget hu (pv 2) pe_str (fun _ _ => rfl)) (pe_lst (pa_cons (pe_callTy call_tuple_of (by rfl) B.tuple (by decide +kernel) (pa_cons (pe_dget hu (pv 2) pe_str (fun _ _ => rfl)) pa_nil)) pa_nil))) (pa_cons (pe_lst pa_nil) pa_nil))) (pg_tup rfl (pgs_cons (pg_sub (pv 2) pe_str (set_dict hu)) (pgs_cons (pg_sub (pv 2) pe_str (set_dict hu)) pgs_nil))))) (pss_cons (ps_set (i := 7) scDn.nd rfl (.inl rfl) (pe_op op_fdiv (pe_callB call_len_seq (by rfl) B.J.len PySem.boot_len (pa_cons (pe_dget hu (pv 2) pe_str (fun _ _ => rfl)) pa_nil)) (pv 4))) (pss_cons (ps_dput hu (pv 2) pe_str (pe_op op_cat (pe_dget hu (pv 2) pe_str (fun _ _ => rfl)) (pe_call GS hr rfl B.sli.g B.sli.k B.sli.b .nil pass0 (pa_cons (pe_dget hu (pv 2) pe_str (fun _ _ => rfl)) (pa_cons (pv 4) (pa_cons (pv 7) pa_nil))))) rfl) (pss_one (ps_dput hu (pv 2) pe_str (pe_slice sl_list (pe_dget hu (pv 2) pe_str (fun _ _ => rfl)) (po_some (pe_op op_mul (pv 7) (pv 4))) po_none) rfl)))))))))))))) (pss_one (ps_ret pe_str))), ?_⟩
    case imp =>
      rintro σ H1 Q1 ⟨q, ga, b, wd, got, x, g, ov, said, wide, h6, h1, h2, h3, h4, hp, hq, hga, hB, k⟩
      refine ⟨_, h6, q, _, rfl, .inl (SqL.of hq), rfl, _, rfl, ?_⟩
      rw [dI]
      rcases hp.p with ⟨e1, e2⟩ | ⟨e1, e2, e3⟩
      · rw [e2, decide_eq_false (by show ¬ ((1 : Int)) = 2; decide)]
        have k1 := k H1 (Same.refl _)
        rw [e1, emp, pass_0] at k1
        exact iteF k1
      · rw [e2, decide_eq_true (by show ((2 : Int)) = 2; rfl)]
        rw [e2] at hq
        refine iteT ⟨_, h6, q, _, 0, _, rfl, rfl, SqL.of hq, rfl, _, h1, _, h2, _, h3, _, h4, ga, b, _, got, x, g, ov, said, wide, rfl, e3, hga, hB, fun H2 s2 => ⟨_, rfl, k H2 s2⟩⟩
    have lw : (svs ws).length = ws.length := svs_len' ws
    refine ⟨_, rfl, wa, rfl, ⟨_, SqL.of hwa⟩, ?_⟩
    obtain ⟨r0, u0, vs0, hb0, _⟩ := id hB.ex
    have nj : ∀ {Hx : Hp} {q : Addr}, Off b H Hx → Hx q = none → q ≠ j := fun {Hx q} o n z => by
      obtain ⟨a1, a2, a3, hj⟩ := hJ
      have e := o j _ (ne_of hj hb0 (by intro z; cases z)) hj
      rw [z, e] at n
      cases n
    have wb : wa ≠ b := ne_of hwa hb0 (by intro z; cases z)
    have gb : ga ≠ b := ne_of hga hb0 (by intro z; cases z)
    refine for_list (K := K) (a := wa) (xs := svs ws) (fun i σ H' => ∃ v5 v6 v7, σ = [some (.ref wa), some (.ref ga), some (.ref b), some (.bl said), some (.int wide), v5, v6, v7] ∧ Off b H H' ∧ BoxJ j H' b (runW wide got said ((ords ws).take i) x).1 g ov ∧ goes wide got said ((ords ws).take i) x = true) ⟨none, none, none, rfl, Off.refl, hB, rfl⟩ (fun i σ H' _ ⟨_, _, _, _, o1, _⟩ => SqL.of (o1 _ _ wb hwa)) ?_ ?_
    · rintro i y σ H1 hy ⟨v5, v6, v7, rfl, o1, B1, g1⟩
      obtain ⟨wd, hwi, rfl⟩ := svs_get hy
      have hod : (ords ws)[i]? = some (orderOf wd) := by rw [ords, List.getElem?_map, hwi]; rfl
      have lo : (ords ws).length = ws.length := List.length_map ..
      have li : i < (ords ws).length := lt_of_get hod
      have Wz := hwd wd (List.mem_of_getElem? hwi)
      have hP := parts_of Wz
      have hL : wd.length ≤ 11 := (wd_fs Wz).2
      refine ⟨_, rfl, ⟨_, rfl⟩, wd, ":", rfl, rfl, by decide +kernel, Nat.le_trans (Nat.add_le_add_right hL 2) (by decide), fun q nq => ?_⟩
      have s2 : Same H1 (upd H1 q (.lst (svs (Txt.split wd ":")))) := same_new nq
      have hq2 : (upd H1 q (.lst (svs (Txt.split wd ":")))) q = some (.lst (svs (Txt.split wd ":"))) := upd_same
      show tSeq _ _ _ _ (upd H1 q (.lst (svs (Txt.split wd ":"))))
      generalize upd H1 q (.lst (svs (Txt.split wd ":"))) = H2 at s2 hq2 ⊢
      have B2 := B1.same s2
      have o2 : Off b H H2 := o1.trans (Same.off s2)
      -- the mathematics of this word
      have tk : (ords ws).take (i + 1) = (ords ws).take i ++ [orderOf wd] := take_snoc hod
      have rg := run_goes wide got said ((ords ws).take i) [orderOf wd] x g1
      rw [← tk] at rg
      have rw1 : ords ws = (ords ws).take i ++ (orderOf wd :: (ords ws).drop (i + 1)) := by
        have e := List.take_append_drop i (ords ws)
        rw [List.drop_eq_getElem_cons li] at e
        have : (ords ws)[i] = orderOf wd := (List.getElem?_eq_some_iff.mp hod).2
        rw [this] at e
        exact e.symm
      have rgs := (run_goes wide got said ((ords ws).take i) (orderOf wd :: (ords ws).drop (i + 1)) x g1).1
      rw [← rw1] at rgs
      have fe := few_run (told := said) hF.s1 hF.h ((ords ws).take i) kk cc x hF.f
      have lt : ((ords ws).take i).length ≤ 12 := by rw [List.length_take]; omega
      have fk : FitK wide got (kk + 12) (cc + 12 * (kk + 12)) (runW wide got said ((ords ws).take i) x).1 := ⟨hF.s1, hF.s2, hF.h, by omega, by omega, fe.mono (by omega) (Nat.add_le_add_left (Nat.mul_le_mul lt (by omega)) _)⟩
      generalize hy0 : (runW wide got said ((ords ws).take i) x).1 = y at rg rgs fk B1 B2
      have r1e := rg.1
      have r2e := rg.2.1
      obtain ⟨pre, hpre⟩ := parts_last hP
      have sR := hP.s
      have hqd : orderOf wd = ((orderOf wd).1, (orderOf wd).2) := rfl
      rw [hqd, runW_cons] at rgs
      rw [hqd, runW_cons] at r1e
      rw [hqd, goes_cons] at r2e
      have hga2 := o2 _ _ gb hga
      refine ⟨q, ga, b, wd, got, y, g, ov, said, wide, rfl, rfl, rfl, rfl, rfl, hP, hq2, hga2, B2.at, fun H3 s3 => ?_⟩
      have B3 := B2.same s3
      have o3 : Off b H H3 := o2.trans (Same.off s3)
      have hq3 := s3 _ _ hq2
      have hga3 := s3 _ _ hga2
      rw [hpre] at hq3
      generalize (orderOf wd).1 = t1 at rgs r1e r2e ⊢
      generalize (orderOf wd).2 = s1 at rgs r1e r2e sR hq3 ⊢
      clear hq2 hga2 B2 o2 s2 s3 hP hpre rg rw1 hqd hod
      by_cases cp : passM wide got said t1 y.rest = true
      rotate_left
      · rw [Bool.eq_false_iff.mpr cp]
        rw [if_neg cp] at r1e r2e
        exact iteT ⟨_, _, _, rfl, o3, by rw [r1e]; exact B3, r2e⟩
      rw [cp]
      rw [if_pos cp] at rgs r1e r2e
      refine iteF ?_
      -- stop, again
      refine ⟨_, rfl, _, rfl, q, _, -1, _, rfl, rfl, SqL.of hq3, atI_last _ _, (by show 2 ≤ sizeLine; decide), fun l nl => ⟨l, _, rfl, .inl (SqL.of upd_same), rfl, rfl, _, rfl, ?_⟩⟩
      have s4 : Same H3 (upd H3 l (.lst [.str "stop", .str "again"])) := same_new nl
      generalize upd H3 l (.lst [.str "stop", .str "again"]) = H4 at s4 ⊢
      have B4 := B3.same s4
      have o4 : Off b H H4 := o3.trans (Same.off s4)
      have hq4 := s4 _ _ hq3
      have hga4 := s4 _ _ hga3
      clear B3 o3 hq3 hga3 s4
      rw [show (if false = true then !inV (V.str s1) [V.str "stop", V.str "again"] else inV (V.str s1) [V.str "stop", V.str "again"]) = decide (s1 = "stop" ∨ s1 = "again") from in2 ..]
      by_cases cs : s1 = "stop" ∨ s1 = "again"
      · rw [decide_eq_true cs]
        refine iteT ⟨_, rfl, _, rfl, q, _, -1, _, rfl, rfl, SqL.of hq4, atI_last _ _, ?_⟩
        refine k _ _ o4 ?_ ?_
        · rw [rgs]
          split
          · exact B4
          · rcases cs with c | c
            · rw [if_pos c]; exact B4
            · exact absurd c ‹_›
        · rw [rgs]
          rcases cs with c | c
          · rw [c, if_neg (by decide +kernel), if_pos rfl]
            rfl
          · rw [c, if_pos rfl]
            show decide (("again" : Str) = "stop") = false
            decide +kernel
      rw [decide_eq_false cs]
      refine iteF ?_
      have c1 : ¬ s1 = "again" := fun z => cs (.inr z)
      have c2 : ¬ s1 = "stop" := fun z => cs (.inl z)
      rw [if_neg c1, if_neg c2] at r1e r2e
      obtain ⟨r4, u4, vs4, hb4, hr4, hu4, hP4, nr4, nu4⟩ := id B4.ex
      have fit := fk.fit
      have f1 := fit.r
      have f2 := fit.p
      have f3 := fit.h
      have f4 := fit.s1
      have f5 := fit.s2
      have lp4 := hP4.len
      have done : ∀ H5 v5 v6 v7, Off b H H5 → BoxJ j H5 b (perfM wide got s1 y) g ov → ∃ w5 w6 w7 : Option V, ([some (.ref wa), some (.ref ga), some (.ref b), some (.bl said), some (.int wide), v5, v6, v7] : St) = [some (.ref wa), some (.ref ga), some (.ref b), some (.bl said), some (.int wide), w5, w6, w7] ∧ Off b H H5 ∧ BoxJ j H5 b (runW wide got said ((ords ws).take (i + 1)) x).1 g ov ∧ goes wide got said ((ords ws).take (i + 1)) x = true := fun H5 v5 v6 v7 o5 B5 => ⟨_, _, _, rfl, o5, by rw [r1e]; exact B5, r2e⟩
      refine ⟨_, rfl, _, rfl, q, _, -1, _, rfl, rfl, SqL.of hq4, atI_last _ _, rfl, _, rfl, ?_⟩
      rw [dS]
      by_cases ca : s1 = "add"
      · rw [decide_eq_true ca]
        refine iteT ⟨_, rfl, b, _, rfl, get_r hb4, _, rfl, r4, ga, _, _, rfl, rfl, hr4, hga4, ?_, fun p np => ?_⟩
        · rw [ivs_len, ivs_len]
          exact Nat.le_trans (show y.rest.length + got.length ≤ 4000000 by omega) (by decide)
        have hb5 := same_new (o := .lst (ivs y.rest ++ ivs got)) np _ _ hb4
        refine ⟨_, rfl, b, _, rfl, dput_r p hb5, ?_⟩
        refine done _ _ _ _ (o4.new np).put ?_
        have e : perfM wide got s1 y = ⟨y.rest ++ got, y.pieces⟩ := by unfold perfM; rw [if_pos ca]
        rw [e]
        exact box_put (x := y) (H1 := H4) hb5 (by rw [upd_same]; simp [ivs]) (same_new np _ _ hu4) (hP4.same (same_new np)) (nj o4 np) nu4
      rw [decide_eq_false ca]
      refine iteF ⟨_, rfl, _, rfl, q, _, -1, _, rfl, rfl, SqL.of hq4, atI_last _ _, rfl, _, rfl, ?_⟩
      rw [dS]
      by_cases ch : s1 = "hand"
      · rw [decide_eq_true ch]
        refine iteT ⟨_, rfl, b, _, rfl, get_u hb4, _, rfl, ga, _, rfl, .inl ⟨SqL.of hga4, fun tq ntq => ?_⟩⟩
        refine ⟨(by show 1 ≤ sizeLine; decide), fun lq nlq => ?_⟩
        refine ⟨u4, lq, _, _, rfl, rfl, same_new nlq _ _ (same_new ntq _ _ hu4), upd_same, ?_, fun p np => ?_⟩
        · rw [lp4]
          exact Nat.le_trans (show y.pieces.length + 1 ≤ 9000000 by omega) (by decide)
        have s5 : Same H4 (upd (upd (upd H4 tq (.tup (ivs got))) lq (.lst [.ref tq])) p (.lst (vs4 ++ [.ref tq]))) := Same.trans (same_new ntq) (Same.trans (same_new nlq) (same_new np))
        have hb5 := s5 _ _ hb4
        refine ⟨_, rfl, b, _, rfl, dput_u p hb5, ?_⟩
        refine done _ _ _ _ (o4.trans (Same.off s5)).put ?_
        have e : perfM wide got s1 y = ⟨y.rest, y.pieces ++ [got]⟩ := by unfold perfM; rw [if_neg ca, if_pos ch]
        rw [e]
        exact box_put (x := y) (H1 := H4) hb5 (s5 _ _ hr4) upd_same (Pcs.snoc (same_new np _ _ (same_new nlq _ _ upd_same)) (hP4.same s5)) nr4 (nj (o4.trans (Same.off (Same.trans (same_new ntq) (same_new nlq)))) np)
      rw [decide_eq_false ch]
      refine iteF ⟨_, rfl, _, rfl, q, _, -1, _, rfl, rfl, SqL.of hq4, atI_last _ _, rfl, _, rfl, ?_⟩
      rw [dS]
      by_cases cf : s1 = "flush"
      · rw [decide_eq_true cf]
        have cc' : ¬ s1 = "cut" := by rw [cf]; decide +kernel
        refine iteT ⟨_, rfl, b, _, rfl, get_u hb4, _, rfl, b, _, rfl, get_r hb4, r4, _, rfl, .inl ⟨SqL.of hr4, fun tq ntq => ?_⟩⟩
        refine ⟨(by show 1 ≤ sizeLine; decide), fun lq nlq => ?_⟩
        refine ⟨u4, lq, _, _, rfl, rfl, same_new nlq _ _ (same_new ntq _ _ hu4), upd_same, ?_, fun p np => ?_⟩
        · rw [lp4]
          exact Nat.le_trans (show y.pieces.length + 1 ≤ 9000000 by omega) (by decide)
        have s5 : Same H4 (upd (upd (upd H4 tq (.tup (ivs y.rest))) lq (.lst [.ref tq])) p (.lst (vs4 ++ [.ref tq]))) := Same.trans (same_new ntq) (Same.trans (same_new nlq) (same_new np))
        have hp5 : (upd (upd (upd H4 tq (.tup (ivs y.rest))) lq (.lst [.ref tq])) p (.lst (vs4 ++ [.ref tq]))) p = some (.lst (vs4 ++ [.ref tq])) := upd_same
        have ht5 : (upd (upd (upd H4 tq (.tup (ivs y.rest))) lq (.lst [.ref tq])) p (.lst (vs4 ++ [.ref tq]))) tq = some (.tup (ivs y.rest)) := same_new np _ _ (same_new nlq _ _ upd_same)
        generalize upd (upd (upd H4 tq (.tup (ivs y.rest))) lq (.lst [.ref tq])) p (.lst (vs4 ++ [.ref tq])) = H5 at s5 hp5 ht5 ⊢
        refine ⟨Nat.zero_le _, fun e5 ne5 => ?_⟩
        refine ⟨(by show 2 ≤ sizeLine; decide), fun tt ntt => ?_⟩
        have s6 : Same H4 (upd (upd H5 e5 (.lst [])) tt (.tup [.ref p, .ref e5])) := Same.trans s5 (Same.trans (same_new ne5) (same_new ntt))
        refine ⟨tt, _, rfl, SqT.of upd_same, rfl, _, _, rfl, ?_⟩
        have hb6 := s6 _ _ hb4
        refine ⟨_, rfl, b, _, rfl, dput_u p hb6, ?_⟩
        refine ⟨_, _, rfl, ?_⟩
        have he6 : (upd (upd H5 e5 (.lst [])) tt (.tup [.ref p, .ref e5])) e5 = some (.lst (ivs [])) := same_new ntt _ _ upd_same
        have hp6 := same_new (o := .tup [.ref p, .ref e5]) ntt _ _ (same_new (o := .lst []) ne5 _ _ hp5)
        have ht6 := same_new (o := .tup [.ref p, .ref e5]) ntt _ _ (same_new (o := .lst []) ne5 _ _ ht5)
        have o6 := o4.trans (Same.off s6)
        have hP6 := hP4.same s6
        generalize upd (upd H5 e5 (.lst [])) tt (.tup [.ref p, .ref e5]) = H6 at s6 hb6 he6 hp6 ht6 o6 hP6 ⊢
        have pb6 : p ≠ b := ne_of hp6 hb6 (by intro z; cases z)
        have e5b : e5 ≠ b := ne_of he6 hb6 (by intro z; cases z)
        refine ⟨_, rfl, b, _, rfl, dput_r e5 upd_same, rfl, ?_⟩
        refine done _ _ _ _ o6.put.put ?_
        have e : perfM wide got s1 y = ⟨[], y.pieces ++ [y.rest]⟩ := by unfold perfM; rw [if_neg ca, if_neg ch, if_neg cc', if_pos cf]
        rw [e]
        exact box_put (x := y) (H1 := H4) upd_same (by rw [upd_ne e5b]; exact he6) (by rw [upd_ne pb6]; exact hp6) ((Pcs.snoc ht6 hP6).mono (tup_stays hb6 (by intro xs z; cases z))) (nj (o4.trans (Same.off s5)) ne5) (nj (o4.trans (Same.off (Same.trans (same_new ntq) (same_new nlq)))) np)
      rw [decide_eq_false cf]
      refine iteF ?_
      have ccut : s1 = "cut" := by
        have h5 : s1 = "add" ∨ s1 = "hand" ∨ s1 = "cut" ∨ s1 = "flush" ∨ s1 = "stop" ∨ s1 = "again" := by simpa [rsteps] using sR
        rcases h5 with h | h | h | h | h | h
        · exact absurd h ca
        · exact absurd h ch
        · exact h
        · exact absurd h cf
        · exact absurd h c2
        · exact absurd h c1
      have le : y.rest.length / wide * wide ≤ y.rest.length := Nat.div_mul_le_self _ _
      refine ⟨_, rfl, b, _, rfl, get_r hb4, r4, _, rfl, .inl (SqL.of hr4), _, rfl, _, _, rfl, rfl, ⟨by omega, by omega⟩, ?_⟩
      have eq1 : ((ivs y.rest).length : Int) / (wide : Int) = ((y.rest.length / wide : Nat) : Int) := by rw [ivs_len, Int.natCast_ediv]
      simp only [eq1]
      have eperf : perfM wide got s1 y = ⟨y.rest.drop (y.rest.length / wide * wide), y.pieces ++ cutN wide y.rest (y.rest.length / wide)⟩ := by unfold perfM; rw [if_neg ca, if_neg ch, if_pos ccut]
      have qle : y.rest.length / wide ≤ y.rest.length := Nat.div_le_self _ _
      generalize y.rest.length / wide = qn at le eperf qle ⊢
      refine ⟨_, rfl, b, _, rfl, get_u hb4, _, rfl, b, _, rfl, get_r hb4, _, rfl, _, rfl, r4, y.rest, wide, qn, rfl, hr4, f5, le, by omega, by omega, fun H5 lq vq s5 hlq hPq => ?_⟩
      have lpq := hPq.len
      refine ⟨u4, lq, _, _, rfl, rfl, s5 _ _ hu4, hlq, ?_, fun p np => ?_⟩
      · rw [lp4, lpq, cutN, List.length_map, List.length_range]
        exact Nat.le_trans (show y.pieces.length + qn ≤ 12000000 by omega) (by decide)
      have s6 : Same H4 (upd H5 p (.lst (vs4 ++ vq))) := Same.trans s5 (same_new np)
      have hb6 := s6 _ _ hb4
      refine ⟨_, rfl, b, _, rfl, dput_u p hb6, ?_⟩
      have hp6 : (upd H5 p (.lst (vs4 ++ vq))) p = some (.lst (vs4 ++ vq)) := upd_same
      have hP6 : Pcs (upd H5 p (.lst (vs4 ++ vq))) (vs4 ++ vq) (y.pieces ++ cutN wide y.rest qn) := (hP4.same s6).app (hPq.same (same_new np))
      have o6 := o4.trans (Same.off s6)
      have hr6 := s6 _ _ hr4
      generalize upd H5 p (.lst (vs4 ++ vq)) = H6 at s6 hb6 hp6 hP6 o6 hr6 ⊢
      have r4b : r4 ≠ b := ne_of hr6 hb6 (by intro z; cases z)
      have pb : p ≠ b := ne_of hp6 hb6 (by intro z; cases z)
      refine ⟨_, rfl, b, _, rfl, get_r upd_same, _, rfl, _, rfl, _, _, rfl, rfl, .inr ⟨by omega, by omega⟩, ((qn * wide : Nat) : Int), by rw [Int.natCast_mul], r4, _, rfl, SqL.of (by rw [upd_ne r4b]; exact hr6), fun p2 np2 => ?_⟩
      rw [cut_from]
      have hb7 : (upd (upd H6 b (.dK (bx r4 p g ov))) p2 (.lst ((ivs y.rest).drop (qn * wide)))) b = some (.dK (bx r4 p g ov)) := same_new np2 _ _ upd_same
      refine ⟨_, rfl, b, _, rfl, dput_r p2 hb7, ?_⟩
      refine done _ _ _ _ (o6.put.new np2).put ?_
      rw [eperf]
      exact box_put (x := y) (H1 := H4) hb7 (by rw [upd_same]; simp [ivs, List.map_drop]) (same_new np2 _ _ (by rw [upd_ne pb]; exact hp6)) ((hP6.mono (tup_stays hb6 (by intro xs z; cases z))).same (same_new np2)) (nj o6.put np2) (nj (o4.trans (Same.off s5)) np)
    · rintro σ H1 ⟨v5, v6, v7, rfl, o1, B1, g1⟩
      have lo : (ords ws).length = ws.length := List.length_map ..
      rw [lw, ← lo, List.take_length] at B1 g1
      refine k _ _ o1 B1 ?_
      rw [(run_goes wide got said (ords ws) [] x g1).2.2]
      decide +kernel
end
end My

namespace My
open PySem L2 Cm LM EM
/-! ### the same, as the program's -/
def itemsL (f c : Nat) : List Int := (List.range c).map fun i => (f : Int) + (i : Nat)
theorem rgV_itemsL (f c : Nat) : rgV (f : Int) ((f : Int) + (c : Int)) = ivs (itemsL f c) := by
  unfold rgV itemsL ivs
  rw [show ((f : Int) + (c : Int) - (f : Int)).toNat = c by omega, List.map_map]
  rfl
theorem itemsL_len (f c : Nat) : (itemsL f c).length = c := by rw [itemsL, List.length_map, List.length_range]
theorem run_ask {wide : Nat} {got : List Int} {said : Bool} {r : List Str} {x : RP} : runW wide got said (ords (("ask" : Str) :: r)) x = runW wide got said (ords r) x := by
  show runW wide got said (orderOf "ask" :: ords r) x = _
  rw [ask_order, runW_cons, pass_0, if_pos rfl, if_neg (by decide +kernel), if_neg (by decide +kernel)]
  have e : perfM wide got "ask" x = x := by
    unfold perfM
    rw [if_neg (by decide +kernel), if_neg (by decide +kernel), if_neg (by decide +kernel), if_neg (by decide +kernel)]
  rw [e]
theorem run_end {wide : Nat} {got : List Int} {said : Bool} : ∀ {os : List (Str × Str)} {x : RP}, (∀ o ∈ os, o.2 ≠ "again" ∧ o.2 ≠ "stop") → runW wide got said os x = (endW wide got said os x, false)
  | [], _, _ => rfl
  | (t, s) :: r, x, h => by
    have h1 := h (t, s) (List.mem_cons_self ..)
    have ih := fun x => run_end (wide := wide) (got := got) (said := said) (os := r) (x := x) fun o ho => h o (List.mem_cons_of_mem _ ho)
    rw [runW_cons]
    show _ = (endW wide got said r (if passM wide got said t x.rest = true then perfM wide got s x else x), false)
    by_cases c : passM wide got said t x.rest = true
    · rw [if_pos c, if_pos c, if_neg h1.1, if_neg h1.2]
      exact ih _
    · rw [if_neg c, if_neg c]
      exact ih _
theorem jar_n {H : Hp} {j p : Addr} (a : Jar H j) (n : H p = none) : p ≠ j := fun z => by
  obtain ⟨x, y, w, h⟩ := a
  rw [z, h] at n
  cases n
section
variable {P : Program} {w : World} {K : PySem.W.Frag} {mg : Str → Option Value} {base : Heap}
/-! ### _law_fed -/
def spFd (j : Addr) : Sp := fun vs H Q _ => ∃ (ma a b0 b : Addr) (B E : List Str) (x : RP) (g : Nat) (ov said : Bool) (many wide k c : Nat), vs = [.ref ma, .ref b, .int many, .bl said, .int wide] ∧ H ma = some (.tup [.ref a, .ref b0]) ∧ H a = some (.lst (svs B)) ∧ H b0 = some (.lst (svs E)) ∧ isRound B = true ∧ isEnding E = true ∧ BoxJ j H b x g ov ∧ Jar H j ∧ 1 ≤ wide ∧ wide ≤ 1000 ∧ many ≤ wide ∧ g ≤ 1000000 ∧ Few wide k c x ∧ k ≤ 2300 ∧ c ≤ 7700000 ∧
  ∀ (H' : Hp) (d : Addr), Same H H' → H d = none → BoxJ j H' d (ansM wide (ords B) (ords E) (itemsL g many) said x).1 (g + many) (ansM wide (ords B) (ords E) (itemsL g many) said x).2 → Q (.ref d) H'
theorem scFd : FnScope ["_law_made", "_law_box_here", "_law_many", "_law_said", "_law_wide", "_law_begun", "_law_ended", "_law_after", "_law_got"] ["_law_made", "_law_box_here", "_law_many", "_law_said", "_law_wide"] (defScope sFed) := ⟨rfl, rfl, rfl, by decide +kernel, rfl, by decide +kernel, by decide +kernel⟩
theorem ok_fd (B : TxB K mg) (j : Addr) : FnOk P w K mg base CX0 3 B.fed.f B.fed.fd ["_law_made", "_law_box_here", "_law_many", "_law_said", "_law_wide"] (spFd j) := by
  have GD : FnOk P w K mg base CX0 2 B.don.f B.don.fd ["_law_words_here", "_law_got", "_law_box_here", "_law_said", "_law_wide"] (spDn j) := ok_dn B j
  refine B.fed.F.ok scFd (fun vs H Q E h => ?_) (fun cdv A outer s H vs Q E hr h => ?_)
  · obtain ⟨ma, a, b0, b, Bg, En, x, g, ov, said, many, wide, k, c, rfl, _⟩ := h
    rfl
  · obtain ⟨ma, a, b0, b, Bg, En, x, g, ov, said, many, wide, kk, cc, rfl, hma, ha, hb0, rB, rE, hB, hJ, w1, w2, m1, g1, hF, hk, hc, k⟩ := h
    have hu := hu_of hr
    refine ⟨_, (pss_cons (ps_asg (pv 0) (pg_tup rfl (pgs_cons (pg_name (i := 5) scFd.nd rfl (.inl rfl)) (pgs_cons (pg_name (i := 6) scFd.nd rfl (.inl rfl)) pgs_nil)))) (pss_cons (ps_set (i := 7) scFd.nd rfl (.inl rfl) (pe_disp (pps_cons pe_str (pe_callTy call_list_of (by rfl) B.list (by decide +kernel) (pa_cons (pe_dget hu (pv 1) pe_str (fun _ _ => rfl)) pa_nil)) (pps_cons pe_str (pe_callTy call_list_of (by rfl) B.list (by decide +kernel) (pa_cons (pe_dget hu (pv 1) pe_str (fun _ _ => rfl)) pa_nil)) (pps_cons pe_str (pe_op op_add (pe_dget hu (pv 1) pe_str (fun _ _ => rfl)) (pv 2)) (pps_cons pe_str pe_bl pps_nil)))) (by rfl) (by rfl) (fun z => by cases z) (by decide))) (pss_cons (ps_set (i := 8) scFd.nd rfl (.inl rfl) (pe_listRg rfl rfl B.list (prg_2 rfl B.range (pe_dget hu (pv 1) pe_str (fun _ _ => rfl)) (pe_op op_add (pe_dget hu (pv 1) pe_str (fun _ _ => rfl)) (pv 2))))) (pss_cons (ps_if (pt_cmpR op_eq (pe_call GD hr rfl B.don.g B.don.k B.don.b .nil pass0 (pa_cons (pe_slice sl_list (pv 5) (po_some pe_int) po_none) (pa_cons (pv 8) (pa_cons (pv 7) (pa_cons (pv 3) (pa_cons (pv 4) pa_nil)))))) pe_str (nomark _)) (pss_cons (ps_expr (pe_call GD hr rfl B.don.g B.don.k B.don.b .nil pass0 (pa_cons (pv 6) (pa_cons (pv 8) (pa_cons (pv 7) (pa_cons (pv 3) (pa_cons (pv 4) pa_nil))))))) (pss_one (ps_dput hu (pv 7) pe_str pe_bl rfl))) pss_nil) (pss_one (ps_ret (pv 7))))))), ?_⟩
    refine ⟨_, rfl, ma, _, rfl, SqT.of hma, rfl, _, _, rfl, _, _, rfl, rfl, ?_⟩
    obtain ⟨r, u, vs, hb, hr1, hu1, hP, nr0, nu0⟩ := id hB.ex
    -- the new box
    intro d nd
    have nda : ∀ {q : Addr} {o : HO}, H q = some o → q ≠ d := fun h => ne_of_none h nd
    have s0 : Same H (upd H d (.dK [])) := same_new nd
    refine ⟨_, rfl, b, _, rfl, get_r (s0 _ _ hb), r, _, rfl, .inl (SqL.of (s0 _ _ hr1)), fun r2 nr2 => ?_⟩
    refine ⟨_, rfl, b, _, rfl, get_u (same_new nr2 _ _ (s0 _ _ hb)), u, _, rfl, .inl (SqL.of (same_new nr2 _ _ (s0 _ _ hu1))), fun u2 nu2 => ?_⟩
    refine ⟨_, rfl, b, _, rfl, get_g (same_new nu2 _ _ (same_new nr2 _ _ (s0 _ _ hb))), _, rfl, _, _, rfl, rfl, ?_⟩
    refine ⟨same_new nu2 _ _ (same_new nr2 _ _ upd_same), bx r2 u2 (g + many) false, ?_, (by rw [bx_len]; decide), ?_⟩
    · simp [bx, kV]
    rw [bx_mk]
    have r2d : r2 ≠ d := fun z => by rw [z, upd_same] at nr2; cases nr2
    have u2r : u2 ≠ r2 := fun z => by rw [z, upd_same] at nu2; cases nu2
    have u2d : u2 ≠ d := fun z => by rw [z, upd_ne r2d.symm, upd_same] at nu2; cases nu2
    have s1 : Same H (upd (upd (upd (upd H d (.dK [])) r2 (.lst (ivs x.rest))) u2 (.lst vs)) d (.dK (bx r2 u2 (g + many) false))) := fun q o e => by
      rw [upd_ne (nda e)]
      exact same_new nu2 _ _ (same_new nr2 _ _ (s0 _ _ e))
    have X1 : BoxJ j (upd (upd (upd (upd H d (.dK [])) r2 (.lst (ivs x.rest))) u2 (.lst vs)) d (.dK (bx r2 u2 (g + many) false))) d x (g + many) false := by
      refine ⟨r2, u2, vs, upd_same, ?_, ?_, hP.same s1, jar_n (hJ.same s0) nr2, jar_n ((hJ.same s0).same (same_new nr2)) nu2⟩
      · rw [upd_ne r2d, upd_ne u2r.symm, upd_same]
      · rw [upd_ne u2d, upd_same]
    generalize upd (upd (upd (upd H d (.dK [])) r2 (.lst (ivs x.rest))) u2 (.lst vs)) d (.dK (bx r2 u2 (g + many) false)) = H1 at s1 X1 ⊢
    -- the items
    have hb1 := s1 _ _ hb
    refine ⟨_, rfl, b, _, rfl, get_g hb1, _, rfl, b, _, rfl, get_g hb1, _, rfl, _, _, rfl, rfl, _, _, rfl, rfl, RgOk.of_le (by omega) (by omega) (by omega) (by omega), fun ga nga => ?_⟩
    rw [rgV_itemsL]
    have s2 : Same H1 (upd H1 ga (.lst (ivs (itemsL g many)))) := same_new nga
    have hga : (upd H1 ga (.lst (ivs (itemsL g many)))) ga = some (.lst (ivs (itemsL g many))) := upd_same
    show tSeq _ _ _ _ (upd H1 ga (.lst (ivs (itemsL g many))))
    generalize upd H1 ga (.lst (ivs (itemsL g many))) = H2 at s2 hga ⊢
    have X2 := X1.same s2
    have s12 := Same.trans s1 s2
    obtain ⟨rw0, eB, hwd, lrw⟩ := round_tail_wd rB
    subst eB
    -- the round
    refine ⟨_, rfl, 1, rfl, a, _, rfl, SqL.of (s12 _ _ ha), fun p np => ?_⟩
    rw [show (1 : Int) = ((1 : Nat) : Int) from rfl, cut_from]
    have ecut : (svs (("ask" : Str) :: rw0)).drop 1 = svs rw0 := rfl
    rw [ecut]
    have s3 : Same H2 (upd H2 p (.lst (svs rw0))) := same_new np
    have FK : FitK wide (itemsL g many) kk cc x := ⟨w1, w2, by rw [itemsL_len]; exact m1, by omega, by omega, hF⟩
    refine ⟨_, rfl, _, rfl, _, rfl, _, rfl, p, ga, d, rw0, itemsL g many, x, g + many, false, said, wide, kk, cc, rfl, upd_same, hwd, by omega, s3 _ _ hga, X2.same s3, hJ.same (Same.trans s12 s3), FK, by omega, by omega, fun H3 z o3 X3 hz => ?_⟩
    have nd1 : ∀ {q : Addr} {o : HO}, H q = some o → H3 q = some o := fun e => o3 _ _ (nda e) (s3 _ _ (s12 _ _ e))
    have dga : ga ≠ d := by
      obtain ⟨_, _, _, hd1, _⟩ := X1.ex
      exact fun e => by rw [e, hd1] at nga; cases nga
    have hga3 := o3 _ _ dga (s3 _ _ hga)
    refine ⟨rfl, _, rfl, ?_⟩
    rw [dS, hz]
    have ra : runW wide (itemsL g many) said (ords (("ask" : Str) :: rw0)) x = runW wide (itemsL g many) said (ords rw0) x := run_ask
    unfold ansM at k
    rw [ra] at k
    have sN : Same H H3 := fun q o e => nd1 e
    cases hst : (runW wide (itemsL g many) said (ords rw0) x).2 with
    | false =>
      rw [hst, if_neg Bool.false_ne_true] at k
      refine iteF ⟨_, rfl, ?_⟩
      exact k H3 d sN nd X3
    | true =>
      rw [hst, if_pos rfl] at k
      refine iteT ?_
      have fe := few_run (told := said) w1 FK.h (ords rw0) kk cc x hF
      have lo : (ords rw0).length = rw0.length := List.length_map ..
      have l11 : (ords rw0).length ≤ 12 := by omega
      have FK3 : FitK wide (itemsL g many) (kk + 12) (cc + 12 * (kk + 12)) (runW wide (itemsL g many) said (ords rw0) x).1 := ⟨w1, w2, FK.h, by omega, by omega, fe.mono (by omega) (Nat.add_le_add_left (Nat.mul_le_mul l11 (by omega)) _)⟩
      have eW := ending_wd rE
      refine ⟨_, rfl, _, rfl, _, rfl, _, rfl, _, rfl, b0, ga, d, En, itemsL g many, _, g + many, false, said, wide, kk + 12, cc + 12 * (kk + 12), rfl, nd1 hb0, eW.1, by omega, hga3, X3, hJ.same sN, FK3, by omega, by omega, fun H4 z4 o4 X4 _ => ?_⟩
      rw [run_end (os := ords En) (ending_flow rE)] at X4
      obtain ⟨r4, u4, vs4, hd4, hr4, hu4, hP4, nr4, nu4⟩ := X4.ex
      refine ⟨_, rfl, d, _, rfl, dput_o true hd4, ?_⟩
      refine ⟨_, rfl, ?_⟩
      refine k _ d (fun q o e => ?_) nd ?_
      · rw [upd_ne (nda e)]
        exact o4 _ _ (nda e) (nd1 e)
      · have n1 : r4 ≠ d := ne_of hr4 hd4 (by intro z; cases z)
        have n2 : u4 ≠ d := ne_of hu4 hd4 (by intro z; cases z)
        exact ⟨r4, u4, vs4, upd_same, by rw [upd_ne n1]; exact hr4, by rw [upd_ne n2]; exact hu4, hP4.mono (tup_stays hd4 (by intro xs z; cases z)), nr4, nu4⟩
/-! ### _law_box -/
def spBx (j : Addr) : Sp := fun vs H Q _ => vs = [] ∧ Jar H j ∧ ∀ (H' : Hp) (d : Addr), Same H H' → H d = none → BoxJ j H' d ⟨[], []⟩ 0 false → Q (.ref d) H'
theorem scBx : FnScope [] [] (defScope sBox) := ⟨rfl, rfl, rfl, by decide +kernel, rfl, by decide +kernel, by decide +kernel⟩
theorem ok_bx (B : TxB K mg) (j : Addr) : FnOk P w K mg base CX0 1 B.box.f B.box.fd [] (spBx j) := by
  refine B.box.F.ok scBx (fun vs H Q E h => ?_) (fun cdv A outer s H vs Q E hr h => ?_)
  · obtain ⟨rfl, _⟩ := h
    rfl
  · obtain ⟨rfl, hJ, k⟩ := h
    refine ⟨_, (pss_one (ps_ret (pe_disp (pps_cons pe_str (pe_lst pa_nil) (pps_cons pe_str (pe_lst pa_nil) (pps_cons pe_str pe_int (pps_cons pe_str pe_bl pps_nil)))) (by rfl) (by rfl) (fun z => by cases z) (by decide)))), ?_⟩
    intro d nd
    refine ⟨Nat.zero_le _, fun r2 nr2 => ?_⟩
    refine ⟨Nat.zero_le _, fun u2 nu2 => ?_⟩
    refine ⟨same_new nu2 _ _ (same_new nr2 _ _ upd_same), bx r2 u2 0 false, ?_, (by rw [bx_len]; decide), ?_⟩
    · simp [bx, kV]
    rw [bx_mk]
    have r2d : r2 ≠ d := fun z => by rw [z, upd_same] at nr2; cases nr2
    have u2r : u2 ≠ r2 := fun z => by rw [z, upd_same] at nu2; cases nu2
    have u2d : u2 ≠ d := fun z => by rw [z, upd_ne r2d.symm, upd_same] at nu2; cases nu2
    refine k _ d (fun q o e => ?_) nd ⟨r2, u2, [], upd_same, ?_, ?_, .nil, jar_n (hJ.same (same_new nd)) nr2, jar_n ((hJ.same (same_new nd)).same (same_new nr2)) nu2⟩
    · rw [upd_ne (ne_of_none e nd)]
      exact same_new nu2 _ _ (same_new nr2 _ _ (same_new nd _ _ e))
    · rw [upd_ne r2d, upd_ne u2r.symm, upd_same]
      rfl
    · rw [upd_ne u2d, upd_same]
end
end My

/-! enumerate of a tuple, as a walk of the hand layer -/
namespace ETup
open PySem PySem.Spec PyProof.Rows L2
open Sem (wp)
/-- what enumerate(v) makes: the inner iterator, then itself -/
abbrev eo (n : Addr) : Obj := { cls := .type "enumerate", data := .fields #[.none, .bool false, .ref n, rawInt 0, .none, .none] }
theorem new1 {v : Value} {ob : Obj} {HP : Heap → Prop} (B : Begins v ob HP) :
    Meets (Builtin.«enumerate.__new__» ⟨[.type "enumerate", v], []⟩) (fun _ R st => HP st.heap ∧
      R (.ok (.ret (.ref (st.heap.push ob).objs.size))) { st with heap := (st.heap.push ob).push (eo st.heap.objs.size) }) :=
  .of_wp fun pr wo Ar R st hh => by
    obtain ⟨hp, g, dd, tk, os⟩ := st; obtain ⟨a1, a2⟩ := hh
    have subE := sub_enumerate
    have run : ∀ {A2 : Around} {E2 : Value → Shared → Prop} {Q2 : Value → Shared → Prop}, Q2 (.ref hp.objs.size) ⟨hp.push ob, g, dd, tk, os⟩ →
        wpAny (model pr wo) A2 (pyIter v) Q2 E2 ⟨hp, g, dd, tk, os⟩ := fun z => B.iter pr wo _ _ ⟨hp, g, dd, tk, os⟩ _ a1 z
    wp_walk using run
    refine wpAny_stack_any fun stk => wpAny_pure ?_
    split
    next c _ _ _ _ _ =>
      cases (c == Value.type "enumerate") <;> (wp_walk using run; exact ⟨_, rfl, a2⟩)
    next => wp_walk using run; exact ⟨_, rfl, a2⟩
section
variable {prog : Program} {w : World} {A : Around} {E : Value → Shared → Prop} {s : Shared}
theorem made {v : Value} {ob : Obj} {HP : Heap → Prop} {Q : Value → Shared → Prop} (B : Begins v ob HP) (h1 : HP s.heap)
    (k : ∀ hn, IsEnum hn (s.heap.objs.size + 1) s.heap.objs.size 0 .none → hn.get? s.heap.objs.size = some ob → (∀ b u, s.heap.get? b = some u → hn.get? b = some u) → Q (.ref (s.heap.objs.size + 1)) { s with heap := hn }) :
    wpAny (model prog w) A (call (.type "enumerate") [v]) Q E s := by
  refine callType_new F.called_enumerate (by decide) (F.typeCall_enumerate_1 _) (F.newCall_enumerate_1 _) (fun ob2 => F.args_object_init_2 ob2 _) F.entry_enumerate_new (new1 B) ⟨h1, ?_⟩
  have sz : (s.heap.push ob).objs.size = s.heap.objs.size + 1 := Heap.size_push ..
  show _ ∧ _
  rw [sz]
  have isE : IsEnum ((s.heap.push ob).push (eo s.heap.objs.size)) (s.heap.objs.size + 1) s.heap.objs.size 0 .none := by
    have g1 := Heap.get?_push_size (s.heap.push ob) (o := eo s.heap.objs.size) rfl
    rw [sz] at g1
    exact g1
  exact ⟨⟨_, isE, rfl⟩, k _ isE (Heap.get?_push_of_some _ (Heap.get?_push_size _ B.free)) fun b u x => Heap.get?_push_of_some _ (Heap.get?_push_of_some _ x)⟩
end
/-- the tuple at a, each item in a new pair with its place -/
def Itu (K : PySem.W.Frag) (a : Addr) : It :=
  ⟨fun i H => ∃ (xs : List V) (x : V), SqT K H a xs ∧ xs[i]? = some x,
   fun i H v H' => ∃ T x, v = .ref T ∧ H T = none ∧ H' = upd H T (.tup [.int (i : Nat), x]) ∧ ∀ xs, SqT K H a xs → xs[i]? = some x,
   fun i H => ∃ xs : List V, SqT K H a xs ∧ xs.length ≤ i⟩
theorem turn {P : Program} {w : World} {K : PySem.W.Frag} {elts : List Expr} {kk : Nat} {tpos : Pos} (a e it : Addr) :
    Turn P w K (.Tuple elts kk tpos) (Itu K a) [e, it] e (fun i h => (∃ old, IsEnum h e it ((i : Nat) : Int) old) ∧ h.IsTupleIter it a i ∧ e ≠ it ∧ a ≠ it ∧ e ≠ a) where
  mem := by simp
  obj := fun i h st b hb => by
    obtain ⟨⟨old, isE⟩, ⟨ob, ho, hc, hd⟩, _⟩ := st
    have two : b = e ∨ b = it := by simpa using hb
    rcases two with rfl | rfl
    · exact ⟨_, isE, fun v q => nomatch q⟩
    · exact ⟨ob, ho, fun v q => by rw [hd] at q; cases q⟩
  keep := fun i h h2 st k => let ⟨⟨old, isE⟩, isT, r⟩ := st; ⟨⟨old, k e (by simp) _ isE⟩, isT.at fun ob q => k it (by simp) ob q, r⟩
  item := by
    intro X hP hw hK hcalm i pins s σ H E I fpo st hg
    subst hP hw hK
    obtain ⟨⟨old, isE⟩, isT, nei, nai, nea⟩ := st
    obtain ⟨xs, x, hq, hx⟩ := hg
    obtain ⟨its, rv, tp, hz⟩ := I.tuple hq
    obtain ⟨u, hu, ru⟩ := rv.get hx
    have ltE : e < s.heap.objs.size := Heap.lt_size isE
    have ltI : it < s.heap.objs.size := by obtain ⟨_, q, _⟩ := isT; exact Heap.lt_size q
    have hsz : i < its.toArray.size := by
      have z := (List.getElem?_eq_some_iff.mp hu).1
      simpa using z
    have D := Draws.tuple (prog := X.prog) (w := X.w) (A := X.A.in1) (show X.A.in1.handled = none from I.ok.hd hcalm) it a nai its.toArray
    refine wpAny_pyNext_enum_itemD D isE ⟨isT, tp⟩ hsz nei (by simp [nei, nea]) fun y h2 tk hy ho st2 hT hsz2 hk => ?_
    have ey : y = u := by
      have z : its[i]? = some y := by simpa using hy
      rw [hu] at z
      exact (Option.some.inj z).symm
    subst ey
    refine ⟨_, rfl, wpAny_letOwnedTupleGo_enum (s := { s with heap := h2, toks := tk + 1 }) ho fun h3 isE3 sb => ?_⟩
    have hT3 : h3.get? s.heap.objs.size = some { cls := .type "tuple", data := .seq #[.int i tk, y] } := (sb.2 _ (Nat.ne_of_gt ltE)).trans hT
    have ok : ObjOk X.prog X.w (upd H s.heap.objs.size (.tup [.int (i : Nat), x])) h3 s.heap.objs.size (.tup [.int (i : Nat), x]) :=
      ⟨by show 2 ≤ sizeLine; decide, [.int i tk, y], .cons ⟨_, rfl⟩ (.cons ru .nil), ⟨_, hT3, rfl, _, rfl⟩⟩
    have J : Inv X pins σ (upd H s.heap.objs.size (.tup [.int (i : Nat), x])) { s with heap := h3, toks := tk + 1 } :=
      I.turnedNew (ch := [e, it]) (fun b ob hb q => (sb.2 b (fun z => hb (by simp [z]))).trans (hk b ob (fun z => hb (by simp [z])) (fun z => hb (by simp [z])) q)) fpo (Nat.le_refl _) ok
    refine ⟨.ref s.heap.objs.size, _, J, rfl, ⟨_, x, rfl, I.hok.fresh (Nat.le_refl _), rfl, fun ys hy => by rw [I.tuple_inj hy hq]; exact hx⟩, ⟨⟨y, ?_⟩, st2.1.at fun ob q => (sb.2 it (Ne.symm nei)).trans q, nei, nai, nea⟩, fun b hb => ?_⟩
    · have e1 : ((i + 1 : Nat) : Int) = (i : Int) + 1 := by omega
      rw [e1]
      exact isE3
    · have lt2 : b < s.heap.objs.size := by
        have two : b = e ∨ b = it := by simpa using hb
        rcases two with rfl | rfl
        · exact ltE
        · exact ltI
      rw [upd_ne (Nat.ne_of_lt lt2)]
      exact (fpo b hb).1
  done := by
    intro X hP hw hK hcalm i pins s σ H E I fpo st hg
    subst hP hw hK
    obtain ⟨⟨old, isE⟩, isT, nei, nai, nea⟩ := st
    obtain ⟨xs, hq, hx⟩ := hg
    obtain ⟨its, rv, tp, hz⟩ := I.tuple hq
    obtain ⟨f0, f1, f2, f3, f4, f5⟩ := fpo it (by simp)
    have hl := rv.length
    have hT : s.TypeIs (.ref e) "enumerate" := ⟨_, isE, rfl⟩
    unfold pyNext
    refine wpAny_bind (wpAny_attempt (wpAny_callSpecial?_slot (name := Str.ofString "__next__") hT F.slot_enumerate_next
      (wpAny_call_entry F.slot_enumerate_next hT F.entry_enumerate_next ?_ (F.args_enumerate_next_1 _))))
    show wpAny (model X.prog X.w) _ (field (Value.ref e) 2 >>= _) _ _ s
    refine wpAny_bind (wpAny_field isE rfl (x := .ref it) rfl ?_)
    refine wpAny_bind (wpAny_nextOf_tuple_end (show X.A.in1.handled = none from I.ok.hd hcalm) isT tp (by simp; omega) fun h2 x eb hx2 => ?_)
    obtain ⟨ob, ho, hc⟩ := hx2
    refine wpAny_bind (wpAny_isInstance (T := "StopIteration") (b := true) ⟨ob, ho, hc⟩ isSubtype_stop ?_)
    exact wpAny_pure ⟨rfl, I.turned (t' := s.toks) (fun b ob hb q => eb b ob hb q) f0 f1 f3 f4 f5⟩
  self := fun A i s Q E st h => let ⟨⟨_, isE⟩, _⟩ := st; wpAny_pyIter_enum isE h
def iEnumT (K : PySem.W.Frag) (ta : TA) : TI := fun σ H R => ta σ H fun vs H1 => ∃ a xs, vs = [.ref a] ∧ SqT K H1 a xs ∧ R (Itu K a) H1
/-- for i, x in enumerate(t), t a tuple -/
theorem pi_enumT {X : Cx} {e : Expr} {ta : TA} {p pos tpos : Pos} {elts : List Expr} {kk : Nat} (hg : Gl X "enumerate") (hm : X.mg "enumerate" = none) (ha : PA X [e] ta) (hs : starEach [e] X.env = [(false, eval e X.env)] := by rfl) :
    PI X (.Tuple elts kk tpos) (.Call (.Name "enumerate" p) [e] [] pos) (iEnumT X.K ta) := by
  refine ⟨fun pins s σ H R I h => ?_⟩
  refine Call_ (ld_blt I hg hm boot_enumerate (PyProof.Rows.callWith_type1 (thn (ha.run pos pins s σ H _ I h) fun us s1 ⟨vs, H1, I1, r1, q1⟩ => ?_) hs rfl))
  obtain ⟨a, xs, ex, hq, q⟩ := q1
  subst ex
  cases r1 with
  | cons r rr =>
    cases rr
    cases r
    obtain ⟨its, rv, tp, hz⟩ := I1.tuple hq
    have lta : a < s1.heap.objs.size := by obtain ⟨_, z, _⟩ := tp; exact Heap.lt_size z
    refine made (begins_tuple a its.toArray) tp fun hn isE isT hk => wpAny_pyIter_enum isE ?_
    have I2 : Inv X pins σ H1 { s1 with heap := hn } := I1.kept (t' := s1.toks) hk
    refine ⟨s1.heap.objs.size + 1, [s1.heap.objs.size + 1, s1.heap.objs.size], _, _, H1, rfl, I2, turn a (s1.heap.objs.size + 1) s1.heap.objs.size,
      ⟨⟨.none, isE⟩, ⟨_, isT, rfl, rfl⟩, Nat.succ_ne_self _, Nat.ne_of_lt lta, Nat.ne_of_gt (Nat.lt_succ_of_lt lta)⟩, fun b hb => ?_, q⟩
    have two : b = s1.heap.objs.size + 1 ∨ b = s1.heap.objs.size := by simpa using hb
    have hle : s1.heap.objs.size ≤ b := by rcases two with rfl | rfl <;> omega
    exact I1.fpOk hle (I1.hok.fresh hle)
/-- the loop's word -/
theorem for_enumT {K : PySem.W.Frag} {a : Addr} {xs : List V} {g : TG} {tb : TS} {D : Ends} {σ : L2.St} {H : Hp} (Pv : Nat → L2.St → Hp → Prop) (h0 : Pv 0 σ H) (hl : ∀ i σ H, i ≤ xs.length → Pv i σ H → SqT K H a xs)
    (hs : ∀ i x σ H T, xs[i]? = some x → Pv i σ H → H T = none → g (.ref T) σ (upd H T (.tup [.int (i : Nat), x])) fun σ2 H2 => tb { D with nx := Pv (i + 1), ct := Pv (i + 1), bk := D.nx } σ2 H2) (hd : ∀ σ H, Pv xs.length σ H → D.nx σ H) :
    ∃ W : Nat → Nat → L2.St → Hp → Prop, (∃ m, W 0 m σ H) ∧ ∀ i m σ H, W i m σ H →
      ((Itu K a).stop i H ∧ D.nx σ H) ∨ ((Itu K a).go i H ∧ ∃ N : L2.St → Hp → Prop, (∀ σ' H', N σ' H' → ∃ m', m' < m ∧ W (i + 1) m' σ' H') ∧ ∀ x H', (Itu K a).yld i H x H' → g x σ H' fun σ2 H2 => tb { D with nx := N, ct := N, bk := D.nx } σ2 H2) := by
  refine ⟨fun i m σ H => m = xs.length - i ∧ i ≤ xs.length ∧ Pv i σ H, ⟨xs.length, by simp, Nat.zero_le _, h0⟩, ?_⟩
  rintro i m σ H ⟨rfl, hi, p⟩
  have q := hl i σ H hi p
  rcases Nat.lt_or_ge i xs.length with lt | ge
  · refine .inr ⟨⟨xs, xs[i], q, by simp [lt]⟩, Pv (i + 1), fun σ2 H2 p2 => ⟨xs.length - (i + 1), by omega, rfl, lt, p2⟩, fun x H2 y => ?_⟩
    obtain ⟨T, z, rfl, nT, rfl, hz⟩ := y
    exact hs i z σ H T (hz xs q) p nT
  · obtain rfl : i = xs.length := by omega
    exact .inl ⟨⟨xs, q, Nat.le_refl _⟩, hd σ H p⟩
end ETup

/-! the checks of sizes and replies -/
namespace My
open PySem L2 Cm LM
abbrev sIIB : Stmt := top 20
abbrev sISR : Stmt := top 21
abbrev sCKS : Stmt := top 23
abbrev sCKR : Stmt := top 24
abbrev sES : Stmt := inClass (top 9) 0
abbrev sER : Stmt := inClass (top 12) 0
structure TxEr (K : PySem.W.Frag) (mg : Str → Option Value) (name fld : Str) (st : Stmt) (qual : Str) where
  C : Addr
  f : Addr
  fd : FuncData
  g : mg name = some (.ref C)
  o : OexC K C
  i : PySem.W.findIn K (.ref C) "__init__" = some (some (.ref f))
  t : PySem.W.typeIn K (.ref f) = some (.type "function")
  n : PySem.W.findIn K (.ref C) fld = some none
  F : Fun K "__init__" qual st f fd
  b : Binds K fd ["self", fld] []
structure TxK (K : PySem.W.Frag) (mg : Str → Option Value) where
  isi : mg "isinstance" = none
  int : mg "int" = none
  bool : mg "bool" = none
  tuple : mg "tuple" = none
  len : mg "len" = none
  enum : mg "enumerate" = none
  mr : ∃ t, mg "MOST_REPLIES" = some (.int 100 t)
  mi : ∃ t, mg "MOST_ITEMS" = some (.int 1000 t)
  iib : Df K mg "is_integer_between" sIIB ["value", "low", "high"]
  isr : Df K mg "is_reply" sISR ["value", "most"]
  cks : Df K mg "check_size" sCKS ["size"]
  ckr : Df K mg "check_replies" sCKR ["replies", "most"]
  eS : TxEr K mg "InvalidSize" "value" sES "InvalidSize.__init__"
  eR : TxEr K mg "InvalidReplies" "index" sER "InvalidReplies.__init__"
section
variable {P : Program} {w : World} {K : PySem.W.Frag} {mg : Str → Option Value} {base : Heap}
def spER (fld : Str) (CE : Addr) : Sp := fun vs H Q _ => ∃ (a : Addr) (v : V), vs = [.ref a, v] ∧ H a = some (exo a CE none) ∧ ∀ dx, H dx = none → dx ≠ a → Q .non (upd (upd H dx (exd dx [(fld, v)])) a (exo a CE (some dx)))
theorem scES : FnScope ["self", "value"] ["self", "value"] (defScope sES) := ⟨rfl, rfl, rfl, by decide +kernel, rfl, by decide +kernel, by decide +kernel⟩
theorem scER : FnScope ["self", "index"] ["self", "index"] (defScope sER) := ⟨rfl, rfl, rfl, by decide +kernel, rfl, by decide +kernel, by decide +kernel⟩
theorem ok_eS (T : TxEr K mg "InvalidSize" "value" sES "InvalidSize.__init__") : FnOk P w K mg base CX0 1 T.f T.fd ["self", "value"] (spER "value" T.C) := by
  refine T.F.ok scES (fun vs H Q E h => ?_) (fun cdv A outer s H vs Q E hr h => ?_)
  · obtain ⟨a, v, rfl, _⟩ := h
    rfl
  · obtain ⟨a, v, rfl, ha, k⟩ := h
    exact ⟨_, pss_one (ps_ost (pv 0) (pv 1)), _, rfl, _, rfl, a, T.C, rfl, T.o, T.n, .inl ⟨ha, fun dx n ne => k dx n ne⟩⟩
theorem ok_eR (T : TxEr K mg "InvalidReplies" "index" sER "InvalidReplies.__init__") : FnOk P w K mg base CX0 1 T.f T.fd ["self", "index"] (spER "index" T.C) := by
  refine T.F.ok scER (fun vs H Q E h => ?_) (fun cdv A outer s H vs Q E hr h => ?_)
  · obtain ⟨a, v, rfl, _⟩ := h
    rfl
  · obtain ⟨a, v, rfl, ha, k⟩ := h
    exact ⟨_, pss_one (ps_ost (pv 0) (pv 1)), _, rfl, _, rfl, a, T.C, rfl, T.o, T.n, .inl ⟨ha, fun dx n ne => k dx n ne⟩⟩
theorem mk_er {fld : Str} {CE : Addr} {ta : TA} {σ : St} {H : Hp} {Q : XK} {x : V} (h : ta σ H fun vs H1 => vs = [x] ∧ H1 = H) (mono : ∀ {R R' : List V → Hp → Prop}, ta σ H R → (∀ v H1, R v H1 → R' v H1) → ta σ H R')
    (q : ∀ d, H d = none → Q (.ref CE) (some d) (upd H d (.xd [(fld, x)]))) : tMkO CE (spER fld CE) [] ta σ H Q := by
  refine mono h fun vs H1 hh => ?_
  obtain ⟨rfl, rfl⟩ := hh
  refine ⟨by show 1 ≤ 1000; decide, fun a na => ⟨a, x, rfl, upd_same, fun dx ndx nda => ⟨rfl, dx, [(fld, x)], upd_same, ?_, ?_, ?_⟩⟩⟩
  · rw [upd_ne nda, upd_same]
  · rw [upd_ne nda] at ndx
    exact ndx
  · have e : upd (del (upd (upd (upd H1 a (exo a CE none)) dx (exd dx [(fld, x)])) a (exo a CE (some dx))) a) dx (.xd [(fld, x)]) = upd H1 dx (.xd [(fld, x)]) := by
      funext b
      by_cases h1 : b = dx
      · rw [h1, upd_same, upd_same]
      · rw [upd_ne h1, upd_ne h1]
        by_cases h2 : b = a
        · rw [h2, del_same, na]
        · rw [del_ne h2, upd_ne h2, upd_ne h1, upd_ne h2]
    rw [e]
    rw [upd_ne nda] at ndx
    exact q dx ndx
/-! ### is_integer_between -/
def isI : V → Bool
  | .int _ => true
  | _ => false
def isB : V → Bool
  | .bl _ => true
  | _ => false
/-- an integer within these bounds -/
def btw (lo hi : Int) : V → Bool
  | .int i => decide (lo ≤ i ∧ i ≤ hi)
  | _ => false
def TypedI (K : PySem.W.Frag) (H : Hp) (x : V) : Prop := ∃ t, TyX K H x t ∧ PySem.W.kitOne K t (.type "int") = some (isI x || isB x) ∧ PySem.W.kitOne K t (.type "bool") = some (isB x)
theorem TypedI.same {H H' : Hp} {x : V} (s : Same H H') (h : TypedI K H x) : TypedI K H' x := let ⟨t, a, b⟩ := h; ⟨t, TyX_same s a, b⟩
theorem typed_int {H : Hp} (i : Int) : TypedI K H (.int i) := ⟨_, .base (.int i), kit_ty (show kitB "int" "int" = some true by decide +kernel), kit_ty (show kitB "int" "bool" = some false by decide +kernel)⟩
theorem typed_bl {H : Hp} (i : Bool) : TypedI K H (.bl i) := ⟨_, .base (.bl i), kit_ty (show kitB "bool" "int" = some true by decide +kernel), kit_ty (show kitB "bool" "bool" = some true by decide +kernel)⟩
def spIIB (K : PySem.W.Frag) : Sp := fun vs H Q _ => ∃ (v : V) (lo hi : Int), vs = [v, .int lo, .int hi] ∧ TypedI K H v ∧ Q (.bl (btw lo hi v)) H
theorem scIIB : FnScope ["value", "low", "high"] ["value", "low", "high"] (defScope sIIB) := ⟨rfl, rfl, rfl, by decide +kernel, rfl, by decide +kernel, by decide +kernel⟩
theorem ok_iib (M : TxK K mg) : FnOk P w K mg base CX0 1 M.iib.f M.iib.fd ["value", "low", "high"] (spIIB K) := by
  refine M.iib.F.ok scIIB (fun vs H Q E h => ?_) (fun cdv A outer s H vs Q E hr h => ?_)
  · obtain ⟨v, lo, hi, rfl, _⟩ := h
    rfl
  · obtain ⟨v, lo, hi, rfl, ⟨t, ty, k1, k2⟩, k⟩ := h
    refine ⟨_, pss_one (ps_ret (pe_and (pe_callB call_isi (by rfl) M.isi (by decide +kernel) (pa_cons (pv 0) (pa_cons (pe_bltn (v := .ty "int") (by rfl) M.int (by decide +kernel) rfl) pa_nil)))
      (pe_and (pe_not (pe_callB call_isi (by rfl) M.isi (by decide +kernel) (pa_cons (pv 0) (pa_cons (pe_bltn (v := .ty "bool") (by rfl) M.bool (by decide +kernel) rfl) pa_nil))))
        (pe_one (pe_chain op_le op_le (pv 1) (pv 0) (pv 2)))))), ?_⟩
    refine ⟨_, rfl, _, _, _, _, _, rfl, .ty "int", ty, k1, _, rfl, ?_⟩
    cases hv : (isI v || isB v) with
    | false =>
      refine iteF ?_
      have e : btw lo hi v = false := by
        cases v <;> first | rfl | cases hv
      rw [e] at k
      exact k
    | true =>
      refine iteT ?_
      refine ⟨_, rfl, _, _, _, _, _, rfl, .ty "bool", ty, k2, _, rfl, _, rfl, ?_⟩
      cases hb : isB v with
      | true =>
        have e : btw lo hi v = false := by
          cases v <;> first | rfl | cases hb
        rw [e] at k
        exact iteF k
      | false =>
        refine iteT ?_
        rw [hb, Bool.or_false] at hv
        obtain ⟨i, rfl⟩ : ∃ i, v = .int i := by
          cases v <;> first | exact ⟨_, rfl⟩ | cases hv
        refine ⟨_, rfl, _, rfl, _, _, rfl, rfl, _, rfl, ?_⟩
        have k : Q (.bl (decide (lo ≤ i ∧ i ≤ hi))) H := k
        refine ite2 (fun c => ?_) (fun c => ?_)
        · refine ⟨_, rfl, _, _, rfl, rfl, ?_⟩
          have c1 : lo ≤ i := of_decide_eq_true c
          have e : decide (lo ≤ i ∧ i ≤ hi) = decide (i ≤ hi) := decide_eq_decide.mpr ⟨fun z => z.2, fun z => ⟨c1, z⟩⟩
          rw [e] at k
          exact k
        · have c1 : ¬ lo ≤ i := fun z => c (decide_eq_true z)
          rw [show decide (lo ≤ i ∧ i ≤ hi) = false from decide_eq_false fun z => c1 z.1] at k
          exact k
/-! ### check_size -/
def spCKS (K : PySem.W.Frag) (CE : Addr) : Sp := fun vs H Q E => ∃ v : V, vs = [v] ∧ TypedI K H v ∧ (btw 1 1000 v = true → Q .non H) ∧ (btw 1 1000 v = false → ∀ d, H d = none → E (.ref CE) (some d) (upd H d (.xd [("value", v)])))
theorem scCKS : FnScope ["size"] ["size"] (defScope sCKS) := ⟨rfl, rfl, rfl, by decide +kernel, rfl, by decide +kernel, by decide +kernel⟩
theorem ok_cks (M : TxK K mg) : FnOk P w K mg base (L2.CX P w) 3 M.cks.f M.cks.fd ["size"] (spCKS K M.eS.C) := by
  have GI : FnOk P w K mg base CX0 1 M.iib.f M.iib.fd ["value", "low", "high"] (spIIB K) := ok_iib M
  have GE : FnOk P w K mg base CX0 1 M.eS.f M.eS.fd ["self", "value"] (spER "value" M.eS.C) := ok_eS M.eS
  obtain ⟨tm, mi⟩ := M.mi
  refine M.cks.F.okX scCKS (fun vs H Q E h => ?_) (fun cdv A outer s H vs Q E hr h => ?_)
  · obtain ⟨v, rfl, _⟩ := h
    rfl
  · obtain ⟨v, rfl, ty, k1, k2⟩ := h
    have hr1 : Room 1 _ := hr.mono (by decide)
    refine ⟨_, pss_one (ps_if (pt_not (pt_val (pe_call GI hr1 rfl M.iib.g M.iib.k M.iib.b .nil pass0 (pa_cons (pv 0) (pa_cons pe_int (pa_cons (pe_glob (v := .int 1000) rfl mi ⟨_, rfl⟩) pa_nil))))))
      (pss_one (ps_raise rfl (takes_of rfl rfl rfl rfl) (pmk_oex M.eS.o M.eS.i M.eS.t GE hr M.eS.b .nil pass0 rfl M.eS.g (pa_cons (pv 0) pa_nil)))) pss_nil), ?_⟩
    refine ⟨_, rfl, v, 1, 1000, rfl, ty, _, rfl, ?_⟩
    cases hb : btw 1 1000 v with
    | true => exact iteF (k1 hb)
    | false => exact iteT (mk_er (x := v) ⟨v, rfl, rfl, rfl⟩ (fun {R R'} ⟨v, e1, q⟩ f => ⟨v, e1, f _ _ q⟩) (k2 hb))
/-! ### is_reply -/
/-- it is no tuple -/
def NoTup (K : PySem.W.Frag) (H : Hp) (v : V) : Prop := ∃ t, TyX K H v t ∧ PySem.W.kitOne K t (.type "tuple") = some false
/-- whether it is a reply -/
inductive RepV (K : PySem.W.Frag) (H : Hp) (m : Int) : V → Bool → Prop
  | pair {t : Addr} {c b : V} (h : H t = some (.tup [c, b])) (hc : TypedI K H c) (hb : TypedI K H b) : RepV K H m (.ref t) (btw 0 m c && isB b)
  | long {t : Addr} {xs : List V} (h : H t = some (.tup xs)) (n : xs.length ≠ 2) : RepV K H m (.ref t) false
  | other {v : V} (h : NoTup K H v) : RepV K H m v false
theorem RepV.same {H H' : Hp} {m : Int} {v : V} {b : Bool} (s : Same H H') (h : RepV K H m v b) : RepV K H' m v b := by
  cases h with
  | pair h hc hb => exact .pair (s _ _ h) (hc.same s) (hb.same s)
  | long h n => exact .long (s _ _ h) n
  | other h => exact .other (let ⟨t, a, b⟩ := h; ⟨t, TyX_same s a, b⟩)
def spISR (K : PySem.W.Frag) : Sp := fun vs H Q _ => ∃ (v : V) (m : Int) (b : Bool), vs = [v, .int m] ∧ RepV K H m v b ∧ Q (.bl b) H
theorem scISR : FnScope ["value", "most", "count", "told"] ["value", "most"] (defScope sISR) := ⟨rfl, rfl, rfl, by decide +kernel, rfl, by decide +kernel, by decide +kernel⟩
theorem ok_isr (M : TxK K mg) : FnOk P w K mg base CX0 2 M.isr.f M.isr.fd ["value", "most"] (spISR K) := by
  have GI : FnOk P w K mg base CX0 1 M.iib.f M.iib.fd ["value", "low", "high"] (spIIB K) := ok_iib M
  refine M.isr.F.ok scISR (fun vs H Q E h => ?_) (fun cdv A outer s H vs Q E hr h => ?_)
  · obtain ⟨v, m, b, rfl, _⟩ := h
    rfl
  · obtain ⟨v, m, b, rfl, hR, k⟩ := h
    refine ⟨_, pss_cons (ps_if (PW.pt (pw_or (pt_not (pt_val (pe_callB call_isi (by rfl) M.isi (by decide +kernel) (pa_cons (pv 0) (pa_cons (pe_bltn (v := .ty "tuple") (by rfl) M.tuple (by decide +kernel) rfl) pa_nil)))))
          (pw_or1 (pt_cmpR op_ne (pe_callB call_len_seq (by rfl) M.len PySem.boot_len (pa_cons (pv 0) pa_nil)) pe_int (nomark _))))) (pss_one (ps_ret pe_bl)) pss_nil)
      (pss_cons (ps_asg (pv 0) (pg_tup rfl (pgs_cons (pg_name (i := 2) scISR.nd rfl (.inl rfl)) (pgs_cons (pg_name (i := 3) scISR.nd rfl (.inl rfl)) pgs_nil))))
      (pss_one (ps_ret (pe_and (pe_call GI hr rfl M.iib.g M.iib.k M.iib.b .nil pass0 (pa_cons (pv 2) (pa_cons pe_int (pa_cons (pv 1) pa_nil))))
        (pe_one (pe_callB call_isi (by rfl) M.isi (by decide +kernel) (pa_cons (pv 3) (pa_cons (pe_bltn (v := .ty "bool") (by rfl) M.bool (by decide +kernel) rfl) pa_nil)))))))), ?_⟩
    cases hR with
    | @pair t c b ht hc hb =>
      refine ⟨_, rfl, _, _, _, _, true, rfl, .ty "tuple", .base (.tup ht), kit_ty (by decide +kernel), true, rfl, iteF ?_⟩
      refine ⟨_, rfl, t, _, rfl, .inr (SqT.of ht), rfl, _, rfl, iteF ?_⟩
      refine ⟨_, rfl, t, _, rfl, SqT.of ht, rfl, _, _, rfl, _, _, rfl, rfl, ?_⟩
      refine ⟨_, rfl, _, rfl, c, 0, m, rfl, hc, _, rfl, ?_⟩
      cases hx : btw 0 m c with
      | false =>
        rw [hx] at k
        exact iteF k
      | true =>
        rw [hx, Bool.true_and] at k
        obtain ⟨tb, tyb, kb1, kb2⟩ := hb
        exact iteT ⟨_, rfl, _, _, _, _, _, rfl, .ty "bool", tyb, kb2, k⟩
    | @long t xs ht n =>
      refine ⟨_, rfl, _, _, _, _, true, rfl, .ty "tuple", .base (.tup ht), kit_ty (by decide +kernel), true, rfl, iteF ?_⟩
      refine ⟨_, rfl, t, _, rfl, .inr (SqT.of ht), rfl, _, rfl, ?_⟩
      rw [dI, decide_eq_false (show ¬ (xs.length : Int) = 2 by omega)]
      exact iteT k
    | other h =>
      obtain ⟨tt, ty, kt⟩ := h
      exact ⟨_, rfl, _, _, _, _, false, rfl, .ty "tuple", ty, kt, false, rfl, iteT (iteT k)⟩
/-! ### check_replies -/
inductive RepVs (K : PySem.W.Frag) (H : Hp) (m : Int) : List V → List Bool → Prop
  | nil : RepVs K H m [] []
  | cons {v : V} {b : Bool} {vs : List V} {bs : List Bool} (h : RepV K H m v b) (t : RepVs K H m vs bs) : RepVs K H m (v :: vs) (b :: bs)
theorem RepVs.len {H : Hp} {m : Int} : ∀ {vs bs}, RepVs K H m vs bs → vs.length = bs.length
  | _, _, .nil => rfl
  | _, _, .cons _ t => congrArg (· + 1) t.len
theorem RepVs.get {H : Hp} {m : Int} : ∀ {vs bs} {i : Nat} {x : V}, RepVs K H m vs bs → vs[i]? = some x → ∃ b, bs[i]? = some b ∧ RepV K H m x b
  | _, _, i, x, .nil, h => by simp at h
  | _, _, 0, x, .cons h _, e => ⟨_, rfl, by cases (Option.some.inj e); exact h⟩
  | _, _, i + 1, x, .cons _ t, e => t.get (i := i) e
/-- the first place that is wrong -/
def firstF (bs : List Bool) (i : Nat) : Prop := bs[i]? = some false ∧ ∀ k, k < i → bs[k]? = some true
def spCKR (K : PySem.W.Frag) (CE : Addr) : Sp := fun vs H Q E => ∃ (v : V) (m : Int), vs = [v, .int m] ∧
  (((NoTup K H v ∨ ∃ t xs, v = .ref t ∧ H t = some (.tup xs) ∧ 100 < xs.length) ∧ ∀ d, H d = none → E (.ref CE) (some d) (upd H d (.xd [("index", .non)]))) ∨
   ∃ (t : Addr) (xs : List V) (bs : List Bool), v = .ref t ∧ H t = some (.tup xs) ∧ xs.length ≤ 100 ∧ RepVs K H m xs bs ∧ ((∀ b ∈ bs, b = true) → ∀ H', Same H H' → Q .non H') ∧
     ∀ i, firstF bs i → ∀ (H' : Hp) (d : Addr), Same H H' → H' d = none → E (.ref CE) (some d) (upd H' d (.xd [("index", .int (i : Nat))])))
theorem scCKR : FnScope ["replies", "most", "index", "reply"] ["replies", "most"] (defScope sCKR) := ⟨rfl, rfl, rfl, by decide +kernel, rfl, by decide +kernel, by decide +kernel⟩
theorem ok_ckr (M : TxK K mg) : FnOk P w K mg base (L2.CX P w) 3 M.ckr.f M.ckr.fd ["replies", "most"] (spCKR K M.eR.C) := by
  have G2 : FnOk P w K mg base CX0 2 M.isr.f M.isr.fd ["value", "most"] (spISR K) := ok_isr M
  have GE : FnOk P w K mg base CX0 1 M.eR.f M.eR.fd ["self", "index"] (spER "index" M.eR.C) := ok_eR M.eR
  obtain ⟨tm, mr⟩ := M.mr
  refine M.ckr.F.okX scCKR (fun vs H Q E h => ?_) (fun cdv A outer s H vs Q E hr h => ?_)
  · obtain ⟨v, m, rfl, _⟩ := h
    rfl
  · obtain ⟨v, m, rfl, hh⟩ := h
    refine ⟨_, pss_cons (ps_if (PW.pt (pw_or (pt_not (pt_val (pe_callB call_isi (by rfl) M.isi (by decide +kernel) (pa_cons (pv 0) (pa_cons (pe_bltn (v := .ty "tuple") (by rfl) M.tuple (by decide +kernel) rfl) pa_nil)))))
          (pw_or1 (pt_cmpR op_gt (pe_callB call_len_seq (by rfl) M.len PySem.boot_len (pa_cons (pv 0) pa_nil)) (pe_glob (v := .int 100) rfl mr ⟨_, rfl⟩) (nomark _)))))
          (pss_one (ps_raise rfl (takes_of rfl rfl rfl rfl) (pmk_oex M.eR.o M.eR.i M.eR.t GE hr M.eR.b .nil pass0 rfl M.eR.g (pa_cons pe_non pa_nil)))) pss_nil)
      (pss_one (ps_for (passes_of rfl) rfl (ETup.pi_enumT (by rfl) M.enum (pa_cons (pv 0) pa_nil)) (pg_tup rfl (pgs_cons (pg_name (i := 2) scCKR.nd rfl (.inl rfl)) (pgs_cons (pg_name (i := 3) scCKR.nd rfl (.inl rfl)) pgs_nil)))
        (pss_one (ps_if (pt_not (pt_val (pe_call G2 hr rfl M.isr.g M.isr.k M.isr.b .nil pass0 (pa_cons (pv 3) (pa_cons (pv 1) pa_nil)))))
          (pss_one (ps_raise rfl (takes_of rfl rfl rfl rfl) (pmk_oex M.eR.o M.eR.i M.eR.t GE hr M.eR.b .nil pass0 rfl M.eR.g (pa_cons (pv 2) pa_nil)))) pss_nil)))), ?_⟩
    rcases hh with ⟨hv, k⟩ | ⟨t, xs, bs, rfl, ht, hl, hR, k1, k2⟩
    · rcases hv with ⟨tt, ty, kt⟩ | ⟨t, xs, rfl, ht, hl⟩
      · exact ⟨_, rfl, _, _, _, _, false, rfl, .ty "tuple", ty, kt, false, rfl, iteT (iteT (mk_er (x := .non) ⟨rfl, rfl⟩ (fun {R R'} q f => f _ _ q) k))⟩
      · refine ⟨_, rfl, _, _, _, _, true, rfl, .ty "tuple", .base (.tup ht), kit_ty (by decide +kernel), true, rfl, iteF ?_⟩
        refine ⟨_, rfl, t, _, rfl, .inr (SqT.of ht), _, _, rfl, rfl, _, rfl, ?_⟩
        rw [decide_eq_true (show (100 : Int) < (xs.length : Int) by omega)]
        exact iteT (mk_er (x := .non) ⟨rfl, rfl⟩ (fun {R R'} q f => f _ _ q) k)
    · refine ⟨_, rfl, _, _, _, _, true, rfl, .ty "tuple", .base (.tup ht), kit_ty (by decide +kernel), true, rfl, iteF ?_⟩
      refine ⟨_, rfl, t, _, rfl, .inr (SqT.of ht), _, _, rfl, rfl, _, rfl, ?_⟩
      rw [decide_eq_false (show ¬ (100 : Int) < (xs.length : Int) by omega)]
      refine iteF ?_
      have lx := hR.len
      refine ⟨_, rfl, t, xs, rfl, SqT.of ht, ETup.for_enumT (K := K) (a := t) (xs := xs) (fun i σ H' => Same H H' ∧ (∃ v v', σ = [some (.ref t), some (.int m), v, v']) ∧ ∀ k, k < i → bs[k]? = some true) ⟨Same.refl _, ⟨none, none, rfl⟩, fun k z => absurd z (Nat.not_lt_zero _)⟩ (fun i σ H' _ ⟨s', _⟩ => SqT.of (s' _ _ ht)) ?_ ?_⟩
      · rintro i x σ H' T' hx ⟨s', ⟨v, v', rfl⟩, hb⟩ nT
        obtain ⟨b, hb1, hr1⟩ := hR.get hx
        have s2 : Same H (upd H' T' (.tup [.int (i : Nat), x])) := Same.trans s' (same_new nT)
        refine ⟨T', _, rfl, SqT.of upd_same, rfl, _, _, rfl, _, _, rfl, rfl, ?_⟩
        refine ⟨_, rfl, _, rfl, x, m, b, rfl, hr1.same s2, _, rfl, ?_⟩
        cases b with
        | true =>
          refine iteF ⟨s2, ⟨_, _, rfl⟩, fun k hk => ?_⟩
          by_cases e : k < i
          · exact hb k e
          · rw [show k = i by omega]
            exact hb1
        | false => exact iteT (mk_er (x := .int (i : Nat)) ⟨_, rfl, rfl, rfl⟩ (fun {R R'} ⟨v, e1, q⟩ f => ⟨v, e1, f _ _ q⟩) fun d nd => k2 i ⟨hb1, hb⟩ _ d s2 nd)
      · rintro σ H' ⟨s', ⟨v, v', rfl⟩, hb⟩
        refine k1 (fun b hm => ?_) H' s'
        obtain ⟨i, hi, rfl⟩ := List.getElem_of_mem hm
        have := hb i (by omega)
        rw [List.getElem?_eq_getElem hi] at this
        exact Option.some.inj this
end
end My

/-! how much a run hands on, and how long it is when it is shown -/
namespace EM
open PySem L2
def wt (ps : List (List Int)) : Nat := (ps.map fun p => p.length + 1).sum
theorem wt_app (a b : List (List Int)) : wt (a ++ b) = wt a + wt b := by simp [wt, List.map_append, List.sum_append]
theorem cutN_succ' (sz : Nat) (xs : List Int) (i : Nat) : cutN sz xs (i + 1) = cutN sz xs i ++ [(xs.drop (i * sz)).take sz] := by
  unfold cutN
  rw [List.range_succ, List.map_append]
  rfl
theorem wt_cut (sz : Nat) (xs : List Int) : ∀ n, wt (cutN sz xs n) ≤ n * sz + n
  | 0 => by simp [wt, cutN]
  | n + 1 => by
    have ih := wt_cut sz xs n
    rw [cutN_succ', wt_app, Nat.succ_mul]
    have : wt [(xs.drop (n * sz)).take sz] ≤ sz + 1 := by
      simp only [wt, List.map_cons, List.map_nil, List.sum_cons, List.sum_nil, List.length_take]
      omega
    omega
/-- the rest has at most r items, the pieces weigh at most w -/
def Lt (r w : Nat) (x : RP) : Prop := x.rest.length ≤ r ∧ wt x.pieces ≤ w
theorem Lt.mono {r w r' w' : Nat} {x : RP} (h : Lt r w x) (h1 : r ≤ r') (h2 : w ≤ w') : Lt r' w' x := ⟨Nat.le_trans h.1 h1, Nat.le_trans h.2 h2⟩
def isA (s : Str) : Nat := if s = "add" then 1 else 0
theorem lt_perf {size r w h : Nat} {held : List Int} {s : Str} {x : RP} (hh : held.length ≤ h) (hx : Lt r w x) : Lt (r + isA s * h) (w + (2 * r + h + 1)) (perfM size held s x) := by
  obtain ⟨h1, h2⟩ := hx
  have w1 : ∀ p : List Int, wt [p] = p.length + 1 := fun p => by simp [wt]
  unfold perfM isA Lt
  split
  · refine ⟨?_, by show wt x.pieces ≤ _; omega⟩
    show (x.rest ++ held).length ≤ _
    rw [List.length_append]
    omega
  · split
    · refine ⟨by show x.rest.length ≤ _; omega, ?_⟩
      show wt (x.pieces ++ [held]) ≤ _
      rw [wt_app, w1]
      omega
    · split
      · refine ⟨?_, ?_⟩
        · show (x.rest.drop _).length ≤ _
          rw [List.length_drop]
          omega
        · show wt (x.pieces ++ cutN size x.rest (x.rest.length / size)) ≤ _
          rw [wt_app]
          have a := wt_cut size x.rest (x.rest.length / size)
          have b := Nat.div_mul_le_self x.rest.length size
          have c := Nat.div_le_self x.rest.length size
          omega
      · split
        · refine ⟨Nat.zero_le _, ?_⟩
          show wt (x.pieces ++ [x.rest]) ≤ _
          rw [wt_app, w1]
          omega
        · exact ⟨by show x.rest.length ≤ _; omega, by show wt x.pieces ≤ _; omega⟩
def adds : List (Str × Str) → Nat
  | [] => 0
  | (_, s) :: r => isA s + adds r
theorem lt_run {size h : Nat} {held : List Int} {told : Bool} (hh : held.length ≤ h) : ∀ (os : List (Str × Str)) (r w : Nat) (x : RP), Lt r w x → Lt (r + adds os * h) (w + os.length * (2 * (r + adds os * h) + h + 1)) (runW size held told os x).1
  | [], r, w, x, hx => by simpa [runW, adds] using hx
  | (t, s) :: os, r, w, x, hx => by
    have e1 : (isA s + adds os) * h = isA s * h + adds os * h := Nat.add_mul _ _ _
    have m : Lt (r + adds ((t, s) :: os) * h) (w + (os.length + 1) * (2 * (r + adds ((t, s) :: os) * h) + h + 1)) x := hx.mono (Nat.le_add_right _ _) (Nat.le_add_right _ _)
    unfold runW
    rw [List.length_cons]
    split
    · split
      · exact m
      · split
        · exact m
        · have ih := lt_run (size := size) (told := told) hh os _ _ _ (lt_perf (size := size) (s := s) hh hx)
          have e2 : r + isA s * h + adds os * h = r + adds ((t, s) :: os) * h := by show _ = r + (isA s + adds os) * h; omega
          rw [e2] at ih
          refine ih.mono (Nat.le_refl _) ?_
          have : 2 * r + h + 1 ≤ 2 * (r + adds ((t, s) :: os) * h) + h + 1 := by omega
          generalize 2 * (r + adds ((t, s) :: os) * h) + h + 1 = M at this ⊢
          have e3 : (os.length + 1) * M = os.length * M + M := Nat.succ_mul _ _
          omega
    · have ih := lt_run (size := size) (told := told) hh os r w x hx
      refine ih.mono ?_ ?_
      · show _ ≤ r + (isA s + adds os) * h
        omega
      · have a : os.length * (2 * (r + adds os * h) + h + 1) ≤ (os.length + 1) * (2 * (r + adds ((t, s) :: os) * h) + h + 1) := Nat.mul_le_mul (by omega) (by show _ ≤ 2 * (r + (isA s + adds os) * h) + h + 1; omega)
        omega
theorem lt_end {size h : Nat} {held : List Int} {told : Bool} (hh : held.length ≤ h) : ∀ (os : List (Str × Str)) (r w : Nat) (x : RP), Lt r w x → Lt (r + adds os * h) (w + os.length * (2 * (r + adds os * h) + h + 1)) (endW size held told os x)
  | [], r, w, x, hx => by simpa [endW, adds] using hx
  | (t, s) :: os, r, w, x, hx => by
    have e1 : (isA s + adds os) * h = isA s * h + adds os * h := Nat.add_mul _ _ _
    unfold endW
    rw [List.length_cons]
    have h2 : Lt (r + isA s * h) (w + (2 * r + h + 1)) (if passM size held told t x.rest = true then perfM size held s x else x) := by
      split
      · exact lt_perf hh hx
      · exact hx.mono (by omega) (by omega)
    have ih := lt_end (size := size) (told := told) hh os _ _ _ h2
    have e2 : r + isA s * h + adds os * h = r + adds ((t, s) :: os) * h := by show _ = r + (isA s + adds os) * h; omega
    rw [e2] at ih
    refine ih.mono (Nat.le_refl _) ?_
    have : 2 * r + h + 1 ≤ 2 * (r + adds ((t, s) :: os) * h) + h + 1 := by omega
    generalize 2 * (r + adds ((t, s) :: os) * h) + h + 1 = M at this ⊢
    have e3 : (os.length + 1) * M = os.length * M + M := Nat.succ_mul _ _
    omega
theorem lt_ans {size h r w : Nat} {ro eo : List (Str × Str)} {held : List Int} {told : Bool} {x : RP} (hh : held.length ≤ h) (l1 : ro.length ≤ 12) (l2 : eo.length ≤ 6) (a1 : adds ro ≤ 1) (a2 : adds eo = 0) (hx : Lt r w x) : Lt (r + h) (w + 18 * (2 * (r + h) + h + 1)) (ansM size ro eo held told x).1 := by
  have a := lt_run (size := size) (told := told) hh ro r w x hx
  have e1 : adds ro * h ≤ h := by
    have := Nat.mul_le_mul_right h a1
    omega
  have b : Lt (r + h) (w + 12 * (2 * (r + h) + h + 1)) (runW size held told ro x).1 := a.mono (by omega) (Nat.add_le_add_left (Nat.mul_le_mul l1 (by omega)) _)
  unfold ansM
  split
  · have c := lt_end (size := size) (told := told) hh eo _ _ _ b
    rw [a2, Nat.zero_mul, Nat.add_zero] at c
    refine c.mono (Nat.le_refl _) ?_
    have : eo.length * (2 * (r + h) + h + 1) ≤ 6 * (2 * (r + h) + h + 1) := Nat.mul_le_mul_right _ l2
    show w + 12 * (2 * (r + h) + h + 1) + eo.length * (2 * (r + h) + h + 1) ≤ w + 18 * (2 * (r + h) + h + 1)
    omega
  · exact b.mono (Nat.le_refl _) (by omega)
/-! ### the numbers of items -/
def AllB (N : Nat) (xs : List Int) : Prop := ∀ i ∈ xs, 0 ≤ i ∧ i < (N : Int)
def AB (N : Nat) (x : RP) : Prop := AllB N x.rest ∧ ∀ p ∈ x.pieces, AllB N p
theorem AllB.app {N : Nat} {a b : List Int} (ha : AllB N a) (hb : AllB N b) : AllB N (a ++ b) := fun i hi => (List.mem_append.mp hi).elim (ha i) (hb i)
theorem ab_perf {N size : Nat} {held : List Int} {s : Str} {x : RP} (hh : AllB N held) (hx : AB N x) : AB N (perfM size held s x) := by
  obtain ⟨h1, h2⟩ := hx
  unfold perfM
  split
  · exact ⟨h1.app hh, h2⟩
  · split
    · refine ⟨h1, fun p hp => ?_⟩
      rcases List.mem_append.mp hp with hp | hp
      · exact h2 p hp
      · rw [List.mem_singleton.mp hp]
        exact hh
    · split
      · refine ⟨fun i hi => h1 i (List.mem_of_mem_drop hi), fun p hp => ?_⟩
        rcases List.mem_append.mp hp with hp | hp
        · exact h2 p hp
        · obtain ⟨k, _, rfl⟩ := List.mem_map.mp hp
          exact fun i hi => h1 i (List.mem_of_mem_drop (List.mem_of_mem_take hi))
      · split
        · refine ⟨fun i hi => (nomatch hi), fun p hp => ?_⟩
          rcases List.mem_append.mp hp with hp | hp
          · exact h2 p hp
          · rw [List.mem_singleton.mp hp]
            exact h1
        · exact ⟨h1, h2⟩
theorem ab_run {N size : Nat} {held : List Int} {told : Bool} (hh : AllB N held) : ∀ (os : List (Str × Str)) (x : RP), AB N x → AB N (runW size held told os x).1
  | [], x, hx => hx
  | (t, s) :: os, x, hx => by
    unfold runW
    split
    · split
      · exact hx
      · split
        · exact hx
        · exact ab_run hh os _ (ab_perf hh hx)
    · exact ab_run hh os _ hx
theorem ab_end {N size : Nat} {held : List Int} {told : Bool} (hh : AllB N held) : ∀ (os : List (Str × Str)) (x : RP), AB N x → AB N (endW size held told os x)
  | [], x, hx => hx
  | (t, s) :: os, x, hx => by
    unfold endW
    refine ab_end hh os _ ?_
    split
    · exact ab_perf hh hx
    · exact hx
theorem ab_ans {N size : Nat} {ro eo : List (Str × Str)} {held : List Int} {told : Bool} {x : RP} (hh : AllB N held) (hx : AB N x) : AB N (ansM size ro eo held told x).1 := by
  unfold ansM
  split
  · exact ab_end hh eo _ (ab_run hh ro x hx)
  · exact ab_run hh ro x hx
/-! ### shown -/
def pieceD (p : List Int) : PyData := .tuple (p.map PyData.int)
def runD (ps : List (List Int)) (u : Nat) (st : Bool) : PyData := .tuple [.tuple (ps.map pieceD), .int u, .bool st]
theorem join_le : ∀ ts : List Str, (Str.join ", " ts).length ≤ (ts.map fun t => t.length + 2).sum
  | [] => Nat.le_refl _
  | [x] => by
    show x.length ≤ _
    simp
  | x :: y :: r => by
    show (x ++ ", " ++ Str.join ", " (y :: r)).length ≤ _
    rw [strLen_append, strLen_append, show (", " : Str).length = 2 by decide +kernel]
    have := join_le (y :: r)
    rw [List.map_cons, List.sum_cons]
    omega
theorem tup_le (ts : List Str) : (tupleText ts).length ≤ (ts.map fun t => t.length + 2).sum + 3 := by
  unfold tupleText
  rw [strLen_append, strLen_append, show ("(" : Str).length = 1 by decide +kernel]
  have := join_le ts
  have : (Str.ofString (if ts.length == 1 then ",)" else ")" : String)).length ≤ 2 := by
    split
    · decide +kernel
    · decide +kernel
  omega
theorem int_le {i : Int} (h0 : 0 ≤ i) (h1 : i < 1000000) : (PyData.shown (.int i)).length ≤ 6 := by
  obtain ⟨n, rfl⟩ := Int.eq_ofNat_of_zero_le h0
  show (Str.ofString (toString ((n : Nat) : Int))).length ≤ 6
  rw [TL.len_tl, TL.tl_num]
  exact TL.numL_len (by decide) (by omega)
theorem sum_ints {N : Nat} (hN : N ≤ 1000000) : ∀ {p : List Int}, AllB N p → ((PyData.shownAll (p.map PyData.int)).map fun t => t.length + 2).sum ≤ 8 * p.length
  | [], _ => by simp [PyData.shownAll]
  | i :: r, h => by
    have a := h i (List.mem_cons_self ..)
    have b := int_le (i := i) a.1 (by omega)
    have c := sum_ints hN (p := r) fun z hz => h z (List.mem_cons_of_mem _ hz)
    rw [List.map_cons, PyData.shownAll, List.map_cons, List.sum_cons, List.length_cons]
    omega
theorem piece_le {N : Nat} (hN : N ≤ 1000000) {p : List Int} (h : AllB N p) : (PyData.shown (pieceD p)).length ≤ 8 * p.length + 3 := by
  unfold pieceD
  rw [PyData.shown]
  have := tup_le (PyData.shownAll (p.map PyData.int))
  have := sum_ints hN h
  omega
theorem sum_pieces {N : Nat} (hN : N ≤ 1000000) : ∀ {ps : List (List Int)}, (∀ p ∈ ps, AllB N p) → ((PyData.shownAll (ps.map pieceD)).map fun t => t.length + 2).sum ≤ 8 * wt ps
  | [], _ => by simp [PyData.shownAll, wt]
  | p :: r, h => by
    have b := piece_le hN (h p (List.mem_cons_self ..))
    have c := sum_pieces hN (ps := r) fun z hz => h z (List.mem_cons_of_mem _ hz)
    rw [List.map_cons, PyData.shownAll, List.map_cons, List.sum_cons]
    have e : wt (p :: r) = p.length + 1 + wt r := by simp [wt]
    omega
theorem run_le {N : Nat} (hN : N ≤ 1000000) {ps : List (List Int)} {u : Nat} {st : Bool} (h : ∀ p ∈ ps, AllB N p) (hu : u < 1000000) : (PyData.shown (runD ps u st)).length ≤ 8 * wt ps + 40 := by
  unfold runD
  rw [PyData.shown]
  have a := tup_le (PyData.shownAll [.tuple (ps.map pieceD), .int (u : Int), .bool st])
  have b : (PyData.shown (.tuple (ps.map pieceD))).length ≤ 8 * wt ps + 3 := by
    rw [PyData.shown]
    have := tup_le (PyData.shownAll (ps.map pieceD))
    have := sum_pieces hN h
    omega
  have c := int_le (i := (u : Int)) (by omega) (by omega)
  have d : (PyData.shown (.bool st)).length ≤ 5 := by cases st <;> decide +kernel
  simp only [PyData.shownAll, List.map_cons, List.map_nil, List.sum_cons, List.sum_nil] at a ⊢
  omega
/-- two of them in a list -/
theorem from_le : ∀ (ts : List Str) (k : Nat) (acc : Str), (textFrom k acc ts).length ≤ acc.length + (ts.map fun t => t.length + 2).sum
  | [], _, _ => by simp [textFrom]
  | t :: r, k, acc => by
    rw [textFrom]
    have ih := from_le r (k + 1) (acc ++ (if k > 0 then ", " else "" : String) ++ t)
    rw [strLen_append, strLen_append] at ih
    have : (Str.ofString (if k > 0 then ", " else "" : String)).length ≤ 2 := by
      split
      · decide +kernel
      · decide +kernel
    rw [List.map_cons, List.sum_cons]
    omega
theorem list_le (ts : List Str) : (listText ts).length ≤ (ts.map fun t => t.length + 2).sum + 2 := by
  unfold listText
  rw [strLen_append, show ("]" : Str).length = 1 by decide +kernel]
  have := from_le ts 0 "["
  rw [show ("[" : Str).length = 1 by decide +kernel] at this
  omega
def twoD (ps : List (List Int)) (u : Nat) (st : Bool) : PyData := .list [runD ps u st, runD ps u st]
theorem two_le {N : Nat} (hN : N ≤ 1000000) {ps : List (List Int)} {u : Nat} {st : Bool} (h : ∀ p ∈ ps, AllB N p) (hu : u < 1000000) : (PyData.shown (twoD ps u st)).length ≤ 16 * wt ps + 90 := by
  unfold twoD
  rw [PyData.shown]
  have a := list_le (PyData.shownAll [runD ps u st, runD ps u st])
  have b := run_le hN (u := u) (st := st) h hu
  simp only [PyData.shownAll, List.map_cons, List.map_nil, List.sum_cons, List.sum_nil] at a ⊢
  omega
theorem ints_showable : ∀ p : List Int, AllB 1000000 p → PyData.showableAll (p.map PyData.int) = true
  | [], _ => by simp [PyData.showableAll]
  | i :: r, h => by
    have a := h i (List.mem_cons_self ..)
    have b := ints_showable r fun z hz => h z (List.mem_cons_of_mem _ hz)
    rw [List.map_cons, PyData.showableAll, PyData.showable, b, Bool.and_true]
    refine decide_eq_true ?_
    obtain ⟨n, rfl⟩ := Int.eq_ofNat_of_zero_le a.1
    show (n : Nat).log2 < 1920
    have hn : n < 1000000 := by omega
    by_cases h0 : n = 0
    · rw [h0]; decide
    · exact Nat.lt_of_lt_of_le ((Nat.log2_lt h0).mpr (Nat.lt_of_lt_of_le hn (show 1000000 ≤ 2 ^ 20 by decide))) (by decide)
theorem pieces_showable : ∀ ps : List (List Int), (∀ p ∈ ps, AllB 1000000 p) → PyData.showableAll (ps.map pieceD) = true
  | [], _ => by simp [PyData.showableAll]
  | p :: r, h => by
    have a := ints_showable p (h p (List.mem_cons_self ..))
    have b := pieces_showable r fun z hz => h z (List.mem_cons_of_mem _ hz)
    rw [List.map_cons, PyData.showableAll, b, Bool.and_true]
    unfold pieceD
    rw [PyData.showable]
    exact a
theorem two_showable {ps : List (List Int)} {u : Nat} {st : Bool} (h : ∀ p ∈ ps, AllB 1000000 p) (hu : u < 1000000) : PyData.showable (twoD ps u st) = true := by
  have a := pieces_showable ps h
  have b := ints_showable [(u : Int)] fun i hi => by rw [List.mem_singleton.mp hi]; exact ⟨by omega, by omega⟩
  simp only [List.map_cons, List.map_nil, PyData.showableAll, Bool.and_true] at b
  simp only [twoD, runD, PyData.showable, PyData.showableAll, a, Bool.true_and, Bool.and_true]
  simp only [PyData.showable] at b
  rw [b]
  rfl
theorem ints_depth : ∀ p : List Int, PyData.depthAll (p.map PyData.int) ≤ 1
  | [] => by simp [PyData.depthAll]
  | x :: r => by
    have := ints_depth r
    simp only [List.map_cons, PyData.depthAll, PyData.depth] at this ⊢
    omega
theorem pieces_depth : ∀ ps : List (List Int), PyData.depthAll (ps.map pieceD) ≤ 2
  | [] => by simp [PyData.depthAll]
  | p :: r => by
    have := pieces_depth r
    have := ints_depth p
    simp only [List.map_cons, PyData.depthAll, PyData.depth, pieceD] at *
    omega
theorem two_depth (ps : List (List Int)) (u : Nat) (st : Bool) : PyData.depth (twoD ps u st) ≤ 64 := by
  have := pieces_depth ps
  simp only [twoD, runD, PyData.depth, PyData.depthAll]
  omega
end EM

/-! comparing loops: what a loop does with an exact and prompt source hangs on kinds of pieces and rests alone -/
namespace CoM
open PySem EM
/-! ### lengths -/
def passL (sz h : Nat) (told : Bool) (t : Str) (n : Nat) : Bool :=
  if t = "" then true
  else if t = "told" ∨ t = "open" then told == decide (t = "told")
  else if t = "rest" ∨ t = "bare" then decide (0 < n) == decide (t = "rest")
  else if t = "empty" ∨ t = "some" then decide (0 < h) == decide (t = "some")
  else decide (h < sz) == decide (t = "short")
theorem pass_len (sz : Nat) (held : List Int) (told : Bool) (t : Str) (rest : List Int) : passM sz held told t rest = passL sz held.length told t rest.length := rfl
def perfL (sz h : Nat) (s : Str) (n : Nat) : Nat := if s = "add" then n + h else if s = "hand" then n else if s = "cut" then n % sz else if s = "flush" then 0 else n
theorem perf_len (sz : Nat) (held : List Int) (s : Str) (x : RP) : (perfM sz held s x).rest.length = perfL sz held.length s x.rest.length := by
  unfold perfM perfL
  split
  · exact List.length_append
  split
  · rfl
  split
  · show (x.rest.drop _).length = _
    rw [List.length_drop, Nat.mod_def, Nat.mul_comm]
  split
  · rfl
  · rfl
def runL (sz h : Nat) (told : Bool) : List (Str × Str) → Nat → Nat × Bool
  | [], n => (n, false)
  | (t, s) :: r, n => if passL sz h told t n = true then (if s = "again" then (n, false) else if s = "stop" then (n, true) else runL sz h told r (perfL sz h s n)) else runL sz h told r n
theorem run_len (sz : Nat) (held : List Int) (told : Bool) : ∀ (ws : List (Str × Str)) (x : RP), (runW sz held told ws x).1.rest.length = (runL sz held.length told ws x.rest.length).1 ∧ (runW sz held told ws x).2 = (runL sz held.length told ws x.rest.length).2
  | [], x => ⟨rfl, rfl⟩
  | (t, s) :: r, x => by
    rw [show runW sz held told ((t, s) :: r) x = if passM sz held told t x.rest = true then (if s = "again" then (x, false) else if s = "stop" then (x, true) else runW sz held told r (perfM sz held s x)) else runW sz held told r x from rfl,
      show runL sz held.length told ((t, s) :: r) x.rest.length = if passL sz held.length told t x.rest.length = true then (if s = "again" then (x.rest.length, false) else if s = "stop" then (x.rest.length, true) else runL sz held.length told r (perfL sz held.length s x.rest.length)) else runL sz held.length told r x.rest.length from rfl, pass_len]
    split
    · split
      · exact ⟨rfl, rfl⟩
      split
      · exact ⟨rfl, rfl⟩
      · rw [← perf_len]
        exact run_len sz held told r _
    · exact run_len sz held told r x
theorem ans_len (sz : Nat) (ro eo : List (Str × Str)) (held : List Int) (told : Bool) (x : RP) : (ansM sz ro eo held told x).2 = (runL sz held.length told ro x.rest.length).2 ∧ ((ansM sz ro eo held told x).2 = false → (ansM sz ro eo held told x).1.rest.length = (runL sz held.length told ro x.rest.length).1) := by
  obtain ⟨a, b⟩ := run_len sz held told ro x
  unfold ansM
  split
  next h => exact ⟨by rw [← b, h], fun z => by cases z⟩
  next h => exact ⟨by rw [← b]; simpa using h, fun _ => a⟩
/-! ### kinds -/
inductive A | e | f | p
  deriving DecidableEq
inductive Hk | no | part | full
  deriving DecidableEq
def al (sz n : Nat) : A := if n = 0 then .e else if n % sz = 0 then .f else .p
def kd (sz h : Nat) : Hk := if h = 0 then .no else if h < sz then .part else .full
def passA (k : Hk) (told : Bool) (t : Str) (a : A) : Bool :=
  if t = "" then true
  else if t = "told" ∨ t = "open" then told == decide (t = "told")
  else if t = "rest" ∨ t = "bare" then decide (a ≠ .e) == decide (t = "rest")
  else if t = "empty" ∨ t = "some" then decide (k ≠ .no) == decide (t = "some")
  else decide (k ≠ .full) == decide (t = "short")
def addA : Hk → A → A
  | .no, a => a
  | .full, .e => .f
  | .full, a => a
  | .part, _ => .p
def cutA : A → A
  | .p => .p
  | _ => .e
def perfA (k : Hk) (s : Str) (a : A) : A := if s = "add" then addA k a else if s = "hand" then a else if s = "cut" then cutA a else if s = "flush" then .e else a
def runA (k : Hk) (told : Bool) : List (Str × Str) → A → A × Bool
  | [], a => (a, false)
  | (t, s) :: r, a => if passA k told t a = true then (if s = "again" then (a, false) else if s = "stop" then (a, true) else runA k told r (perfA k s a)) else runA k told r a
theorem runA_cons (k : Hk) (told : Bool) (t s : Str) (r : List (Str × Str)) (a : A) : runA k told ((t, s) :: r) a = if passA k told t a = true then (if s = "again" then (a, false) else if s = "stop" then (a, true) else runA k told r (perfA k s a)) else runA k told r a := rfl
theorem runL_cons (sz h : Nat) (told : Bool) (t s : Str) (r : List (Str × Str)) (n : Nat) : runL sz h told ((t, s) :: r) n = if passL sz h told t n = true then (if s = "again" then (n, false) else if s = "stop" then (n, true) else runL sz h told r (perfL sz h s n)) else runL sz h told r n := rfl
section
variable {sz h : Nat} (z : 1 ≤ sz) (hh : h ≤ sz)
include z hh
theorem al_e {n : Nat} : (al sz n ≠ .e) ↔ 0 < n := by
  unfold al
  constructor
  · intro q
    by_cases c : n = 0
    · rw [if_pos c] at q
      exact absurd rfl q
    · omega
  · intro q
    rw [if_neg (by omega)]
    split <;> simp
theorem kd_no : (kd sz h ≠ .no) ↔ 0 < h := by
  unfold kd
  constructor
  · intro q
    by_cases c : h = 0
    · rw [if_pos c] at q
      exact absurd rfl q
    · omega
  · intro q
    rw [if_neg (by omega)]
    split <;> simp
theorem kd_full : (kd sz h ≠ .full) ↔ h < sz := by
  unfold kd
  by_cases c : h = 0
  · rw [if_pos c]
    constructor
    · intro; omega
    · intro; simp
  · rw [if_neg c]
    by_cases d : h < sz
    · rw [if_pos d]
      exact ⟨fun _ => d, fun _ => by simp⟩
    · rw [if_neg d]
      exact ⟨fun q => absurd rfl q, fun q => absurd q d⟩
theorem pass_al (told : Bool) (t : Str) (n : Nat) : passL sz h told t n = passA (kd sz h) told t (al sz n) := by
  unfold passL passA
  rw [decide_eq_decide.mpr (al_e z hh (n := n)), decide_eq_decide.mpr (kd_no z hh), decide_eq_decide.mpr (kd_full z hh)]
theorem perf_al (s : Str) (n : Nat) (c : s = "add" → kd sz h = .part → al sz n ≠ .p) : al sz (perfL sz h s n) = perfA (kd sz h) s (al sz n) := by
  unfold perfL perfA
  by_cases h1 : s = "add"
  · rw [if_pos h1, if_pos h1]
    have c := c h1
    unfold kd at c ⊢
    by_cases h0 : h = 0
    · rw [if_pos h0, h0]
      rfl
    rw [if_neg h0] at c ⊢
    by_cases hs : h < sz
    · rw [if_pos hs] at c ⊢
      have c := c rfl
      show al sz (n + h) = .p
      unfold al at c ⊢
      rw [if_neg (by omega)]
      by_cases n0 : n = 0
      · rw [n0, Nat.zero_add, Nat.mod_eq_of_lt hs, if_neg h0]
      · rw [if_neg n0] at c
        by_cases nm : n % sz = 0
        · have : (n + h) % sz = h := by rw [Nat.add_mod, nm, Nat.zero_add, Nat.mod_mod, Nat.mod_eq_of_lt hs]
          rw [this, if_neg h0]
        · rw [if_neg nm] at c
          exact absurd rfl c
    · rw [if_neg hs]
      have e : h = sz := by omega
      subst e
      unfold al
      rw [if_neg (by omega), Nat.add_mod_right]
      by_cases n0 : n = 0
      · rw [n0, Nat.zero_mod, if_pos rfl, if_pos rfl]
        rfl
      · rw [if_neg n0]
        by_cases nm : n % h = 0
        · rw [if_pos nm]
          rfl
        · rw [if_neg nm]
          rfl
  rw [if_neg h1, if_neg h1]
  by_cases h2 : s = "hand"
  · rw [if_pos h2, if_pos h2]
  rw [if_neg h2, if_neg h2]
  by_cases h3 : s = "cut"
  · rw [if_pos h3, if_pos h3]
    unfold al
    by_cases n0 : n = 0
    · rw [n0, Nat.zero_mod, if_pos rfl]
      rfl
    · rw [if_neg n0]
      by_cases nm : n % sz = 0
      · rw [if_pos nm, if_pos nm]
        rfl
      · rw [if_neg nm, if_neg nm, Nat.mod_mod, if_neg nm]
        rfl
  rw [if_neg h3, if_neg h3]
  by_cases h4 : s = "flush"
  · rw [if_pos h4, if_pos h4]
    rfl
  · rw [if_neg h4, if_neg h4]
theorem run_al (told : Bool) : ∀ (ws : List (Str × Str)) (n : Nat), (kd sz h = .part → adds ws ≤ 1 ∧ (adds ws = 0 ∨ al sz n ≠ .p)) → runA (kd sz h) told ws (al sz n) = (al sz (runL sz h told ws n).1, (runL sz h told ws n).2)
  | [], n, _ => rfl
  | (t, s) :: r, n, c => by
    have ea : adds ((t, s) :: r) = isA s + adds r := rfl
    rw [runA_cons, runL_cons, ← pass_al z hh]
    have cr : kd sz h = .part → adds r ≤ 1 ∧ (adds r = 0 ∨ al sz n ≠ .p) := fun q => by
      obtain ⟨c1, c2⟩ := c q
      rw [ea] at c1 c2
      refine ⟨by omega, ?_⟩
      rcases c2 with c2 | c2
      · exact .inl (by omega)
      · exact .inr c2
    split
    · split
      · rfl
      split
      · rfl
      · have ps := perf_al z hh s n (fun h1 q => by
          obtain ⟨c1, c2⟩ := c q
          rw [ea, h1, show isA "add" = 1 from rfl] at c2
          rcases c2 with c2 | c2
          · omega
          · exact c2)
        rw [← ps]
        refine run_al told r _ fun q => ?_
        obtain ⟨c1, c2⟩ := c q
        rw [ea] at c1
        by_cases h1 : s = "add"
        · rw [h1, show isA "add" = 1 from rfl] at c1
          exact ⟨by omega, .inl (by omega)⟩
        · refine ⟨by omega, ?_⟩
          rcases (cr q).2 with d | d
          · exact .inl d
          · refine .inr ?_
            rw [ps]
            unfold perfA
            rw [if_neg h1]
            split
            · exact d
            split
            · intro y
              cases e : al sz n with
              | e => rw [e] at y; cases y
              | f => rw [e] at y; cases y
              | p => exact d e
            split
            · intro y; cases y
            · exact d
    · exact run_al told r n cr
end
/-! ### full pieces -/
/-- a round from an empty rest that leaves full pieces leaves them from full pieces too, or stops -/
theorem two_runs (k : Hk) (hk : k = .full) (told : Bool) : ∀ (ws : List (Str × Str)), runA k told ws .e = (.f, false) → runA k told ws .f = (.f, false) ∨ (runA k told ws .f).2 = true
  | [], h => by cases h
  | (t, s) :: r, h => by
    rw [runA_cons] at h ⊢
    subst hk
    by_cases h1 : s = "again"
    · subst h1
      rw [if_pos rfl] at h ⊢
      split at h
      · cases h
      · split
        · exact .inl rfl
        · exact two_runs .full rfl told r h
    rw [if_neg h1] at h ⊢
    by_cases h2 : s = "stop"
    · subst h2
      rw [if_pos rfl] at h ⊢
      split at h
      · cases h
      · split
        · exact .inr rfl
        · exact two_runs .full rfl told r h
    rw [if_neg h2] at h ⊢
    have pe : perfA .full s .e = .e ∨ (s = "add" ∧ perfA .full s .e = .f) := by
      unfold perfA
      by_cases a : s = "add"
      · rw [if_pos a]
        exact .inr ⟨a, rfl⟩
      · rw [if_neg a]
        split
        · exact .inl rfl
        split
        · exact .inl rfl
        split
        · exact .inl rfl
        · exact .inl rfl
    have pf : (perfA .full s .f = .f ∨ perfA .full s .f = .e) ∧ (s = "add" → perfA .full s .f = .f) := by
      unfold perfA
      by_cases a : s = "add"
      · rw [if_pos a]
        exact ⟨.inl rfl, fun _ => rfl⟩
      · rw [if_neg a]
        refine ⟨?_, fun z => absurd z a⟩
        split
        · exact .inl rfl
        split
        · exact .inr rfl
        split
        · exact .inr rfl
        · exact .inl rfl
    split at h
    · rcases pe with e | ⟨a, e⟩
      · rw [e] at h
        split
        · rcases pf.1 with g | g
          · rw [g]; exact two_runs .full rfl told r h
          · rw [g]; exact .inl h
        · exact two_runs .full rfl told r h
      · rw [e] at h
        split
        · rw [pf.2 a]; exact .inl h
        · exact .inl h
    · split
      · rcases pf.1 with g | g
        · rw [g]; exact two_runs .full rfl told r h
        · rw [g]; exact .inl h
      · exact two_runs .full rfl told r h
/-- with full pieces no part comes into the rest -/
theorem full_np (told : Bool) : ∀ (ws : List (Str × Str)) (a : A), a ≠ .p → (runA .full told ws a).1 ≠ .p
  | [], a, h => h
  | (t, s) :: r, a, h => by
    rw [runA_cons]
    have pp : perfA .full s a ≠ .p := by
      unfold perfA
      split
      · cases a with
        | e => exact fun z => by cases z
        | f => exact fun z => by cases z
        | p => exact absurd rfl h
      split
      · exact h
      split
      · cases a with
        | e => exact fun z => by cases z
        | f => exact fun z => by cases z
        | p => exact absurd rfl h
      split
      · exact fun z => by cases z
      · exact h
    split
    · split
      · exact h
      split
      · exact h
      · exact full_np told r _ pp
    · exact full_np told r a h
end CoM

/-! how often a loop asks: by kinds, and by lengths -/
namespace CoM
open PySem EM
def wl (E : Str) : Bool := decide (E = "with")
def tl (E : Str) : Bool := decide (E ≠ "empty")
/-- rounds without items until the stop -/
def nothA (told : Bool) (ro : List (Str × Str)) : Nat → A → Option Nat
  | 0, _ => none
  | k + 1, a => if (runA .no told ro a).2 = true then some 1 else if (runA .no told ro a).1 = a then none else (nothA told ro k (runA .no told ro a).1).map (· + 1)
/-- how often is asked with q full pieces, and a part perhaps, from this kind of rest -/
def askA (ro : List (Str × Str)) (E : Str) (part : Bool) : Nat → A → Option Nat
  | 0, a => if part = true then (if (runA .part (wl E) ro a).2 = true then some 1 else (nothA (tl E) ro 3 (runA .part (wl E) ro a).1).map (· + 1)) else nothA (tl E) ro 3 a
  | q + 1, a => if (runA .full (wl E && decide (q = 0) && !part) ro a).2 = true then some 1 else (askA ro E part q (runA .full (wl E && decide (q = 0) && !part) ro a).1).map (· + 1)
theorem ask_far (ro : List (Str × Str)) (E : Str) (part : Bool) (q : Nat) (a : A) : askA ro E part (q + 2) a = if (runA .full false ro a).2 = true then some 1 else (askA ro E part (q + 1) (runA .full false ro a).1).map (· + 1) := by
  have e : (wl E && decide (q + 1 = 0) && !part) = false := by
    rw [decide_eq_false (by omega)]
    simp
  show (if (runA .full (wl E && decide (q + 1 = 0) && !part) ro a).2 = true then _ else _) = _
  rw [e]
theorem ask_per (ro : List (Str × Str)) (E : Str) (part : Bool) : (∃ c, ∀ q, 3 ≤ q → askA ro E part q .e = some c) ∨ (∀ q, 3 ≤ q → askA ro E part (q + 1) .e = (askA ro E part q .e).map (· + 1)) := by
  have far : ∀ q a, 2 ≤ q → askA ro E part q a = if (runA .full false ro a).2 = true then some 1 else (askA ro E part (q - 1) (runA .full false ro a).1).map (· + 1) := fun q a h => by
    obtain ⟨r, rfl⟩ : ∃ r, q = r + 2 := ⟨q - 2, by omega⟩
    exact ask_far ro E part r a
  cases s : (runA .full false ro .e).2 with
  | true =>
    refine .inl ⟨1, fun q h => ?_⟩
    rw [far q _ (by omega), if_pos s]
  | false =>
    have np := full_np false ro .e (by intro z; cases z)
    cases g : (runA .full false ro .e).1 with
    | p => exact absurd g np
    | e =>
      refine .inr fun q h => ?_
      rw [far (q + 1) _ (by omega), if_neg (by rw [s]; decide), g]
      rfl
    | f =>
      have ge : runA .full false ro .e = (.f, false) := Prod.ext g s
      rcases two_runs .full rfl false ro ge with w | w
      · refine .inr fun q h => ?_
        rw [far (q + 1) _ (by omega), if_neg (by rw [s]; decide), g, show q + 1 - 1 = q by omega, far q .f (by omega), w, if_neg (by decide), far q .e (by omega), if_neg (by rw [s]; decide), g]
      · refine .inl ⟨2, fun q h => ?_⟩
        rw [far q _ (by omega), if_neg (by rw [s]; decide), g, far (q - 1) _ (by omega), if_pos w]
        rfl
/-- from four full pieces on the numbers go on evenly -/
theorem ask_form (ro : List (Str × Str)) (E : Str) (part : Bool) : (askA ro E part 4 .e = none ∧ ∀ q, 4 ≤ q → askA ro E part q .e = none) ∨ ∃ n d : Nat, d ≤ 1 ∧ ∀ q, 4 ≤ q → askA ro E part q .e = some (n + d * (q - 4)) := by
  rcases ask_per ro E part with ⟨c, h⟩ | h
  · refine .inr ⟨c, 0, by decide, fun q hq => ?_⟩
    rw [h q (by omega), Nat.zero_mul]
    rfl
  · cases e : askA ro E part 4 .e with
    | none =>
      refine .inl ⟨rfl, fun q hq => ?_⟩
      obtain ⟨k, rfl⟩ : ∃ k, q = 4 + k := ⟨q - 4, by omega⟩
      clear hq
      induction k with
      | zero => exact e
      | succ k ih =>
        rw [show 4 + (k + 1) = (4 + k) + 1 by omega, h (4 + k) (by omega), ih]
        rfl
    | some n =>
      refine .inr ⟨n, 1, by decide, fun q hq => ?_⟩
      obtain ⟨k, rfl⟩ : ∃ k, q = 4 + k := ⟨q - 4, by omega⟩
      clear hq
      induction k with
      | zero => exact e
      | succ k ih =>
        rw [show 4 + (k + 1) = (4 + k) + 1 by omega, h (4 + k) (by omega), ih]
        simp only [Option.map_some, Option.some.injEq]
        omega
/-! ### by lengths -/
theorem no_len (sz : Nat) (told : Bool) : ∀ (ws : List (Str × Str)) (n : Nat), (runL sz 0 told ws n).1 = n ∨ (runL sz 0 told ws n).1 = n % sz ∨ (runL sz 0 told ws n).1 = 0
  | [], n => .inl rfl
  | (t, s) :: r, n => by
    rw [runL_cons]
    have ps : perfL sz 0 s n = n ∨ perfL sz 0 s n = n % sz ∨ perfL sz 0 s n = 0 := by
      unfold perfL
      split
      · exact .inl rfl
      split
      · exact .inl rfl
      split
      · exact .inr (.inl rfl)
      split
      · exact .inr (.inr rfl)
      · exact .inl rfl
    split
    · split
      · exact .inl rfl
      split
      · exact .inl rfl
      · rcases ps with e | e | e
        · rw [e]; exact no_len sz told r n
        · rw [e]
          rcases no_len sz told r (n % sz) with y | y | y
          · exact .inr (.inl y)
          · rw [Nat.mod_mod] at y; exact .inr (.inl y)
          · exact .inr (.inr y)
        · rw [e]
          rcases no_len sz told r 0 with y | y | y
          · exact .inr (.inr y)
          · rw [Nat.zero_mod] at y; exact .inr (.inr y)
          · exact .inr (.inr y)
    · exact no_len sz told r n
def nothL (sz : Nat) (told : Bool) (ro : List (Str × Str)) : Nat → Nat → Option Nat
  | 0, _ => none
  | k + 1, n => if (runL sz 0 told ro n).2 = true then some 1 else if (runL sz 0 told ro n).1 = n then none else (nothL sz told ro k (runL sz 0 told ro n).1).map (· + 1)
section
variable {sz : Nat} (z : 1 ≤ sz) (told : Bool) (ro : List (Str × Str))
include z
theorem no_al (n : Nat) : runA .no told ro (al sz n) = (al sz (runL sz 0 told ro n).1, (runL sz 0 told ro n).2) := by
  have := run_al (h := 0) z (Nat.zero_le _) told ro n (fun q => by unfold kd at q; rw [if_pos rfl] at q; cases q)
  unfold kd at this
  rw [if_pos rfl] at this
  exact this
theorem no_e : runA .no told ro .e = (.e, (runL sz 0 told ro 0).2) ∧ (runL sz 0 told ro 0).1 = 0 := by
  have e := no_al z told ro 0
  have l0 : (runL sz 0 told ro 0).1 = 0 := by
    rcases no_len sz told ro 0 with y | y | y
    · exact y
    · rw [Nat.zero_mod] at y; exact y
    · exact y
  rw [l0] at e
  exact ⟨e, l0⟩
theorem noth_0 (k : Nat) : nothL sz told ro (k + 1) 0 = nothA told ro 1 .e := by
  obtain ⟨e, l0⟩ := no_e z told ro
  unfold nothL nothA
  rw [e, l0]
  cases (runL sz 0 told ro 0).2 <;> rfl
theorem nothA_e (k : Nat) : nothA told ro (k + 1) .e = nothA told ro 1 .e := by
  obtain ⟨e, l0⟩ := no_e z told ro
  unfold nothA
  rw [e]
  cases (runL sz 0 told ro 0).2 <;> rfl
theorem noth_al (k n : Nat) : nothL sz told ro (k + 3) n = nothA told ro 3 (al sz n) := by
  have e := no_al z told ro n
  show (if (runL sz 0 told ro n).2 = true then some 1 else if (runL sz 0 told ro n).1 = n then none else (nothL sz told ro (k + 2) (runL sz 0 told ro n).1).map (· + 1)) = if (runA .no told ro (al sz n)).2 = true then some 1 else if (runA .no told ro (al sz n)).1 = al sz n then none else (nothA told ro 2 (runA .no told ro (al sz n)).1).map (· + 1)
  rw [e]
  show _ = if (runL sz 0 told ro n).2 = true then some 1 else if al sz (runL sz 0 told ro n).1 = al sz n then none else (nothA told ro 2 (al sz (runL sz 0 told ro n).1)).map (· + 1)
  cases s : (runL sz 0 told ro n).2 with
  | true => rw [if_pos rfl, if_pos rfl]
  | false =>
    simp only [Bool.false_eq_true, if_false]
    by_cases c : (runL sz 0 told ro n).1 = n
    · rw [if_pos c, c, if_pos rfl]
    · rw [if_neg c]
      rcases no_len sz told ro n with y | y | y
      · exact absurd y c
      · by_cases m : n % sz = 0
        · rw [y, m]
          have n0 : n ≠ 0 := fun q => c (by rw [y, q, Nat.zero_mod])
          have : al sz n = .f := by unfold al; rw [if_neg n0, if_pos m]
          rw [this, show al sz 0 = .e from rfl, if_neg (by intro z; cases z), noth_0 z, nothA_e z told ro 1]
        · have n0 : n ≠ 0 := fun q => m (by rw [q, Nat.zero_mod])
          have a1 : al sz n = .p := by unfold al; rw [if_neg n0, if_neg m]
          have a2 : al sz (n % sz) = .p := by unfold al; rw [if_neg m, Nat.mod_mod, if_neg m]
          rw [y, a1, a2, if_pos rfl]
          have e2 := no_al z told ro (n % sz)
          rw [a2, ← a1, e, y, a2] at e2
          have q1 := (Prod.ext_iff.mp e2).1
          have q2 := (Prod.ext_iff.mp e2).2
          simp only at q1 q2
          have l2 : (runL sz 0 told ro (n % sz)).1 = n % sz := by
            rcases no_len sz told ro (n % sz) with w | w | w
            · exact w
            · rw [Nat.mod_mod] at w; exact w
            · rw [w] at q1; cases q1
          show Option.map _ (if (runL sz 0 told ro (n % sz)).2 = true then some 1 else if (runL sz 0 told ro (n % sz)).1 = n % sz then none else _) = none
          rw [← q2, s, if_neg (by decide), if_pos l2]
          rfl
      · have n0 : n ≠ 0 := fun q => c (by rw [y, q])
        have : al sz n ≠ .e := (al_e (h := 0) z (Nat.zero_le _)).mpr (by omega)
        rw [y, show al sz 0 = .e from rfl, if_neg this.symm, noth_0 z, nothA_e z told ro 1]
end
def askL (sz p : Nat) (ro : List (Str × Str)) (E : Str) : Nat → Nat → Option Nat
  | 0, n => if p = 0 then nothL sz (tl E) ro 4 n else if (runL sz p (wl E) ro n).2 = true then some 1 else (nothL sz (tl E) ro 4 (runL sz p (wl E) ro n).1).map (· + 1)
  | q + 1, n => if (runL sz sz (wl E && decide (q = 0) && decide (p = 0)) ro n).2 = true then some 1 else (askL sz p ro E q (runL sz sz (wl E && decide (q = 0) && decide (p = 0)) ro n).1).map (· + 1)
theorem ask_al {sz p : Nat} (z : 1 ≤ sz) (hp : p < sz) {ro : List (Str × Str)} (ha : adds ro ≤ 1) (E : Str) : ∀ (q n : Nat), al sz n ≠ .p → askL sz p ro E q n = askA ro E (decide (p ≠ 0)) q (al sz n)
  | 0, n, hn => by
    show (if p = 0 then nothL sz (tl E) ro 4 n else if (runL sz p (wl E) ro n).2 = true then some 1 else (nothL sz (tl E) ro 4 (runL sz p (wl E) ro n).1).map (· + 1)) = if decide (p ≠ 0) = true then (if (runA .part (wl E) ro (al sz n)).2 = true then some 1 else (nothA (tl E) ro 3 (runA .part (wl E) ro (al sz n)).1).map (· + 1)) else nothA (tl E) ro 3 (al sz n)
    by_cases p0 : p = 0
    · rw [if_pos p0, if_neg (by simp [p0])]
      exact noth_al z (tl E) ro 1 n
    · have k : kd sz p = .part := by unfold kd; rw [if_neg p0, if_pos hp]
      have e := run_al (h := p) z (Nat.le_of_lt hp) (wl E) ro n (fun _ => ⟨ha, .inr hn⟩)
      rw [k] at e
      rw [if_neg p0, decide_eq_true p0, if_pos (rfl : true = true), e, noth_al z (tl E) ro 1]
  | q + 1, n, hn => by
    have k : kd sz sz = .full := by unfold kd; rw [if_neg (by omega), if_neg (by omega)]
    have eb : decide (p = 0) = !decide (p ≠ 0) := by by_cases p0 : p = 0 <;> simp [p0]
    have e := run_al (h := sz) z (Nat.le_refl _) (wl E && decide (q = 0) && decide (p = 0)) ro n (fun y => by rw [k] at y; cases y)
    rw [k] at e
    have np := full_np (wl E && decide (q = 0) && decide (p = 0)) ro (al sz n) hn
    rw [e] at np
    show (if (runL sz sz (wl E && decide (q = 0) && decide (p = 0)) ro n).2 = true then some 1 else (askL sz p ro E q (runL sz sz (wl E && decide (q = 0) && decide (p = 0)) ro n).1).map (· + 1)) = if (runA .full (wl E && decide (q = 0) && !decide (p ≠ 0)) ro (al sz n)).2 = true then some 1 else (askA ro E (decide (p ≠ 0)) q (runA .full (wl E && decide (q = 0) && !decide (p ≠ 0)) ro (al sz n)).1).map (· + 1)
    rw [← eb, e, ask_al z hp ha E q _ np]
end CoM

/-! rounds without items, as the program does them -/
namespace CoM
open PySem EM
/-- a loop at work: the row, how often it has asked, whether it has stopped -/
structure WS where
  x : RP
  ak : Nat
  st : Bool
def ansS (sz : Nat) (ro eo : List (Str × Str)) (held : List Int) (told : Bool) (s : WS) : WS := ⟨(ansM sz ro eo held told s.x).1, s.ak + 1, (ansM sz ro eo held told s.x).2⟩
/-- m: the length of the rest before the last round -/
def noS (sz : Nat) (ro eo : List (Str × Str)) (told : Bool) : Nat → Option Nat → WS → WS
  | 0, _, s => s
  | k + 1, m, s => if s.st = true then s else if some s.x.rest.length = m then s else noS sz ro eo told k (some s.x.rest.length) (ansS sz ro eo [] told s)
def rk (sz n : Nat) : Nat := if n = 0 then 0 else if n < sz then 1 else 2
theorem rk_le (sz n : Nat) : rk sz n ≤ 2 := by
  unfold rk
  split
  · omega
  split <;> omega
theorem no_rest {sz : Nat} {ro eo : List (Str × Str)} {told : Bool} {x : RP} (h : (ansM sz ro eo [] told x).2 = false) : (ansM sz ro eo [] told x).1.rest.length = x.rest.length ∨ (ansM sz ro eo [] told x).1.rest.length = x.rest.length % sz ∨ (ansM sz ro eo [] told x).1.rest.length = 0 := by
  rw [(ans_len sz ro eo [] told x).2 h]
  exact no_len sz told ro x.rest.length
/-- the rest becomes of a lower rank, or it stays -/
theorem rk_down {sz : Nat} (z : 1 ≤ sz) {n m : Nat} (h : m = n ∨ m = n % sz ∨ m = 0) : m = n ∨ rk sz m < rk sz n := by
  by_cases e : m = n
  · exact .inl e
  refine .inr ?_
  unfold rk
  rcases h with h | h | h
  · exact absurd h e
  · have lt : n % sz < sz := Nat.mod_lt _ z
    have ns : ¬ n < sz := fun c => e (by rw [h, Nat.mod_eq_of_lt c])
    rw [if_neg (show ¬ n = 0 by omega), if_neg ns, h]
    split
    · omega
    · first
        | (rw [if_pos lt]; omega)
        | omega
  · have n0 : n ≠ 0 := fun c => e (by rw [h, c])
    rw [if_pos h, if_neg n0]
    split <;> omega
theorem no_stop (sz : Nat) (ro eo : List (Str × Str)) (told : Bool) (k : Nat) (m : Option Nat) (s : WS) (h : s.st = true) : noS sz ro eo told k m s = s := by
  cases k with
  | zero => rfl
  | succ k =>
    show (if s.st = true then s else _) = s
    rw [if_pos h]
/-- whether and when it stops: by lengths -/
theorem no_asked {sz : Nat} (ro eo : List (Str × Str)) (told : Bool) : ∀ (k : Nat) (s : WS), s.st = false → (match nothL sz told ro k s.x.rest.length with | some r => (noS sz ro eo told k none s).st = true ∧ (noS sz ro eo told k none s).ak = s.ak + r | none => (noS sz ro eo told k none s).st = false) ∧
    ∀ l, l ≠ s.x.rest.length → noS sz ro eo told k (some l) s = noS sz ro eo told k none s
  | 0, s, h => ⟨h, fun _ _ => rfl⟩
  | k + 1, s, h => by
    have eq : ∀ m, some s.x.rest.length ≠ m → noS sz ro eo told (k + 1) m s = noS sz ro eo told k (some s.x.rest.length) (ansS sz ro eo [] told s) := fun m hm => by
      show (if s.st = true then s else if some s.x.rest.length = m then s else _) = _
      rw [if_neg (by rw [h]; decide), if_neg hm]
    refine ⟨?_, fun l hl => by rw [eq _ (by intro z; exact hl (Option.some.inj z).symm), eq none (by intro z; cases z)]⟩
    rw [eq none (by intro z; cases z)]
    obtain ⟨a1, a2⟩ := ans_len sz ro eo [] told s.x
    show (match (if (runL sz 0 told ro s.x.rest.length).2 = true then some 1 else if (runL sz 0 told ro s.x.rest.length).1 = s.x.rest.length then none else (nothL sz told ro k (runL sz 0 told ro s.x.rest.length).1).map (· + 1)) with | some r => _ | none => _)
    by_cases c : (ansM sz ro eo [] told s.x).2 = true
    · have c' : (runL sz 0 told ro s.x.rest.length).2 = true := a1 ▸ c
      rw [if_pos c', no_stop _ _ _ _ _ _ _ (show (ansS sz ro eo [] told s).st = true from c)]
      exact ⟨c, rfl⟩
    · have cf : (ansM sz ro eo [] told s.x).2 = false := by simpa using c
      have c' : ¬ (runL sz 0 told ro s.x.rest.length).2 = true := fun q => c (a1.trans q)
      have ln : (ansS sz ro eo [] told s).x.rest.length = (runL sz 0 told ro s.x.rest.length).1 := a2 cf
      rw [if_neg c']
      by_cases d : (runL sz 0 told ro s.x.rest.length).1 = s.x.rest.length
      · rw [if_pos d]
        show (noS sz ro eo told k (some s.x.rest.length) (ansS sz ro eo [] told s)).st = false
        cases k with
        | zero => exact cf
        | succ k =>
          show (if (ansS sz ro eo [] told s).st = true then (ansS sz ro eo [] told s) else if some (ansS sz ro eo [] told s).x.rest.length = some s.x.rest.length then (ansS sz ro eo [] told s) else _).st = false
          rw [if_neg (by show ¬ (ansM sz ro eo [] told s.x).2 = true; exact c), if_pos (by rw [ln, d])]
          exact cf
      · rw [if_neg d]
        obtain ⟨i1, i2⟩ := no_asked ro eo told k (ansS sz ro eo [] told s) cf
        rw [i2 s.x.rest.length (by rw [ln]; exact fun q => d q.symm)]
        rw [ln] at i1
        cases e : nothL sz told ro k (runL sz 0 told ro s.x.rest.length).1 with
        | none => rw [e] at i1; exact i1
        | some r =>
          rw [e] at i1
          refine ⟨i1.1, ?_⟩
          rw [i1.2]
          show s.ak + 1 + r = s.ak + (r + 1)
          omega
end CoM

/-! a run with an exact and prompt source: how often it asks -/
namespace CoM
open PySem EM
def itF (f c : Nat) : List Int := (List.range c).map fun i => (f : Int) + (i : Nat)
theorem itF_len (f c : Nat) : (itF f c).length = c := by rw [itF, List.length_map, List.length_range]
/-- what such a source tells -/
def tell (E : Str) (before after : Nat) : Bool := if E = "empty" then false else if E = "behind" then decide (before = 0) else decide (after = 0)
def isE (E : Str) : Prop := E = "empty" ∨ E = "with" ∨ E = "behind"
theorem tell_no {E : Str} (h : isE E) : tell E 0 0 = tl E := by
  rcases h with rfl | rfl | rfl <;> decide +kernel
theorem tell_some {E : Str} (h : isE E) (b a : Nat) (hb : b ≠ 0) : tell E b a = (wl E && decide (a = 0)) := by
  unfold tell wl
  rcases h with rfl | rfl | rfl
  · rw [if_pos rfl]
    rfl
  · rw [if_neg (by decide +kernel), if_neg (by decide +kernel), decide_eq_true (rfl : ("with" : Str) = "with"), Bool.true_and]
  · rw [if_neg (by decide +kernel), if_pos rfl, decide_eq_false hb, decide_eq_false (by decide +kernel : ¬ ("behind" : Str) = "with")]
    rfl
/-- the rounds with items -/
def exS (sz : Nat) (ro eo : List (Str × Str)) (E : Str) (N : Nat) : Nat → Nat → WS → WS
  | 0, _, s => s
  | k + 1, first, s => if first < N ∧ s.st = false then exS sz ro eo E N k (min (first + sz) N) (ansS sz ro eo (itF first (min (first + sz) N - first)) (tell E (N - first) (N - min (first + sz) N)) s) else s
/-- the whole run -/
def wkS (sz : Nat) (ro eo : List (Str × Str)) (E : Str) (N : Nat) : WS := noS sz ro eo (tl E) 4 none (exS sz ro eo E N (N + 1) 0 ⟨⟨[], []⟩, 0, false⟩)
def asked (s : WS) : Option Nat := if s.st = true then some s.ak else none
theorem ex_stop (sz : Nat) (ro eo : List (Str × Str)) (E : Str) (N k first : Nat) (s : WS) (h : s.st = true) : exS sz ro eo E N k first s = s := by
  cases k with
  | zero => rfl
  | succ k =>
    show (if first < N ∧ s.st = false then _ else s) = s
    rw [if_neg (by rw [h]; intro z; cases z.2)]
theorem ex_end (sz : Nat) (ro eo : List (Str × Str)) (E : Str) (N k : Nat) (s : WS) : exS sz ro eo E N k N s = s := by
  cases k with
  | zero => rfl
  | succ k =>
    show (if N < N ∧ s.st = false then _ else s) = s
    rw [if_neg (fun z => Nat.lt_irrefl _ z.1)]
theorem ex_asked {sz p : Nat} (z : 1 ≤ sz) (hp : p < sz) (ro eo : List (Str × Str)) {E : Str} (hE : isE E) (N : Nat) : ∀ (q k first : Nat) (s : WS), s.st = false → first + (q * sz + p) = N → q + 2 ≤ k →
    (noS sz ro eo (tl E) 4 none (exS sz ro eo E N k first s)).st = (askL sz p ro E q s.x.rest.length).isSome ∧ ∀ r, askL sz p ro E q s.x.rest.length = some r → (noS sz ro eo (tl E) 4 none (exS sz ro eo E N k first s)).ak = s.ak + r
  | 0, k, first, s, h, e, hk => by
    have nothing : ∀ s : WS, s.st = false → (noS sz ro eo (tl E) 4 none s).st = (nothL sz (tl E) ro 4 s.x.rest.length).isSome ∧ ∀ r, nothL sz (tl E) ro 4 s.x.rest.length = some r → (noS sz ro eo (tl E) 4 none s).ak = s.ak + r := fun s h => by
      have a := (no_asked (sz := sz) ro eo (tl E) 4 s h).1
      cases c : nothL sz (tl E) ro 4 s.x.rest.length with
      | none => rw [c] at a; exact ⟨a, fun r y => by cases y⟩
      | some r =>
        rw [c] at a
        exact ⟨a.1, fun r' y => by cases y; exact a.2⟩
    have al : askL sz p ro E 0 s.x.rest.length = if p = 0 then nothL sz (tl E) ro 4 s.x.rest.length else if (runL sz p (wl E) ro s.x.rest.length).2 = true then some 1 else (nothL sz (tl E) ro 4 (runL sz p (wl E) ro s.x.rest.length).1).map (· + 1) := rfl
    rw [al]
    by_cases p0 : p = 0
    · have : first = N := by rw [p0] at e; omega
      rw [if_pos p0, this, ex_end]
      exact nothing s h
    · rw [if_neg p0]
      obtain ⟨k, rfl⟩ : ∃ j, k = j + 1 := ⟨k - 1, by omega⟩
      have eN : min (first + sz) N = N := by omega
      have ex : exS sz ro eo E N (k + 1) first s = ansS sz ro eo (itF first p) (wl E) s := by
        show (if first < N ∧ s.st = false then exS sz ro eo E N k (min (first + sz) N) (ansS sz ro eo (itF first (min (first + sz) N - first)) (tell E (N - first) (N - min (first + sz) N)) s) else s) = _
        rw [if_pos ⟨by omega, h⟩, eN, ex_end, show N - first = p by omega, show N - N = 0 by omega, tell_some hE p 0 p0, decide_eq_true rfl, Bool.and_true]
      rw [ex]
      obtain ⟨a1, a2⟩ := ans_len sz ro eo (itF first p) (wl E) s.x
      rw [itF_len] at a1 a2
      by_cases c : (ansM sz ro eo (itF first p) (wl E) s.x).2 = true
      · rw [if_pos (a1 ▸ c), no_stop _ _ _ _ _ _ _ (show (ansS sz ro eo (itF first p) (wl E) s).st = true from c)]
        exact ⟨c, fun r y => by cases y; rfl⟩
      · have cf : (ansM sz ro eo (itF first p) (wl E) s.x).2 = false := by simpa using c
        rw [if_neg (fun q => c (a1.trans q))]
        obtain ⟨n1, n2⟩ := nothing (ansS sz ro eo (itF first p) (wl E) s) cf
        have ln : (ansS sz ro eo (itF first p) (wl E) s).x.rest.length = (runL sz p (wl E) ro s.x.rest.length).1 := a2 cf
        rw [ln] at n1 n2
        refine ⟨by rw [n1, Option.isSome_map], fun r y => ?_⟩
        cases d : nothL sz (tl E) ro 4 (runL sz p (wl E) ro s.x.rest.length).1 with
        | none => rw [d] at y; cases y
        | some r' =>
          rw [d] at y
          cases y
          rw [n2 r' d]
          show s.ak + 1 + r' = s.ak + (r' + 1)
          omega
  | q + 1, k, first, s, h, e, hk => by
    obtain ⟨k, rfl⟩ : ∃ j, k = j + 1 := ⟨k - 1, by omega⟩
    have em : (q + 1) * sz = q * sz + sz := Nat.succ_mul q sz
    have eN : min (first + sz) N = first + sz := by omega
    have et : tell E (N - first) (N - (first + sz)) = (wl E && decide (q = 0) && decide (p = 0)) := by
      rw [tell_some hE _ _ (by omega), show N - (first + sz) = q * sz + p by omega, Bool.and_assoc, ← Bool.decide_and]
      refine congrArg (wl E && ·) (decide_eq_decide.mpr ⟨fun y => ?_, fun y => ?_⟩)
      · have m0 : q * sz = 0 := by omega
        rcases Nat.mul_eq_zero.mp m0 with a | a
        · exact ⟨a, by omega⟩
        · omega
      · rw [y.1, y.2, Nat.zero_mul]
    have ex : exS sz ro eo E N (k + 1) first s = exS sz ro eo E N k (first + sz) (ansS sz ro eo (itF first sz) (wl E && decide (q = 0) && decide (p = 0)) s) := by
      show (if first < N ∧ s.st = false then exS sz ro eo E N k (min (first + sz) N) (ansS sz ro eo (itF first (min (first + sz) N - first)) (tell E (N - first) (N - min (first + sz) N)) s) else s) = _
      rw [if_pos ⟨by omega, h⟩, eN, et, show first + sz - first = sz by omega]
    rw [ex]
    have al : askL sz p ro E (q + 1) s.x.rest.length = if (runL sz sz (wl E && decide (q = 0) && decide (p = 0)) ro s.x.rest.length).2 = true then some 1 else (askL sz p ro E q (runL sz sz (wl E && decide (q = 0) && decide (p = 0)) ro s.x.rest.length).1).map (· + 1) := rfl
    rw [al]
    generalize (wl E && decide (q = 0) && decide (p = 0)) = td
    obtain ⟨a1, a2⟩ := ans_len sz ro eo (itF first sz) td s.x
    rw [itF_len] at a1 a2
    by_cases c : (ansM sz ro eo (itF first sz) td s.x).2 = true
    · rw [if_pos (a1 ▸ c), ex_stop _ _ _ _ _ _ _ _ (show (ansS sz ro eo (itF first sz) td s).st = true from c), no_stop _ _ _ _ _ _ _ (show (ansS sz ro eo (itF first sz) td s).st = true from c)]
      exact ⟨c, fun r y => by cases y; rfl⟩
    · have cf : (ansM sz ro eo (itF first sz) td s.x).2 = false := by simpa using c
      rw [if_neg (fun q => c (a1.trans q))]
      have ln : (ansS sz ro eo (itF first sz) td s).x.rest.length = (runL sz sz td ro s.x.rest.length).1 := a2 cf
      obtain ⟨n1, n2⟩ := ex_asked z hp ro eo hE N q k (first + sz) (ansS sz ro eo (itF first sz) td s) cf (by omega) (by omega)
      rw [ln] at n1 n2
      refine ⟨by rw [n1, Option.isSome_map], fun r y => ?_⟩
      cases d : askL sz p ro E q (runL sz sz td ro s.x.rest.length).1 with
      | none => rw [d] at y; cases y
      | some r' =>
        rw [d] at y
        cases y
        rw [n2 r' d]
        show s.ak + 1 + r' = s.ak + (r' + 1)
        omega
/-- how often a run asks hangs on the number of full pieces and on whether there is a part -/
theorem wk_asked {sz : Nat} (z : 1 ≤ sz) {ro eo : List (Str × Str)} (ha : adds ro ≤ 1) {E : Str} (hE : isE E) (N : Nat) : asked (wkS sz ro eo E N) = askA ro E (decide (N % sz ≠ 0)) (N / sz) .e := by
  have hd : N / sz * sz + N % sz = N := by rw [Nat.mul_comm]; exact Nat.div_add_mod N sz
  have hq : N / sz ≤ N := Nat.div_le_self _ _
  have key := ex_asked z (Nat.mod_lt N z) ro eo hE N (N / sz) (N + 1 + 1) 0 ⟨⟨[], []⟩, 0, false⟩ rfl (by omega) (by omega)
  have more : exS sz ro eo E N (N + 1 + 1) 0 ⟨⟨[], []⟩, 0, false⟩ = exS sz ro eo E N (N + 1) 0 ⟨⟨[], []⟩, 0, false⟩ := by
    have gen : ∀ (k first : Nat) (s : WS), N < first + k → exS sz ro eo E N (k + 1) first s = exS sz ro eo E N k first s := by
      intro k
      induction k with
      | zero =>
        intro first s h
        show (if first < N ∧ s.st = false then _ else s) = s
        rw [if_neg (by omega)]
      | succ k ih =>
        intro first s h
        show (if first < N ∧ s.st = false then exS sz ro eo E N (k + 1) (min (first + sz) N) _ else s) = (if first < N ∧ s.st = false then exS sz ro eo E N k (min (first + sz) N) _ else s)
        split
        next c => exact ih _ _ (by omega)
        next c => rfl
    exact gen (N + 1) 0 _ (by omega)
  rw [more] at key
  have e : askL sz (N % sz) ro E (N / sz) 0 = askA ro E (decide (N % sz ≠ 0)) (N / sz) .e := ask_al z (Nat.mod_lt N z) ha E (N / sz) 0 (by intro y; cases y)
  rw [← e]
  obtain ⟨k1, k2⟩ := key
  have k1 : (wkS sz ro eo E N).st = (askL sz (N % sz) ro E (N / sz) 0).isSome := k1
  have k2 : ∀ r, askL sz (N % sz) ro E (N / sz) 0 = some r → (wkS sz ro eo E N).ak = 0 + r := k2
  unfold asked
  cases d : askL sz (N % sz) ro E (N / sz) 0 with
  | none =>
    rw [d] at k1
    rw [if_neg (by rw [k1]; decide)]
  | some r =>
    rw [d] at k1
    rw [if_pos (show (wkS sz ro eo E N).st = true from k1), k2 r d, Nat.zero_add]
end CoM

/-! the same run, as a law walks it: rest by rest -/
namespace CoM
open PySem EM
def said (E : Str) (left c : Nat) : Bool := if left = 0 then decide (E ≠ "empty") else (decide (E = "with") && decide (c = left))
def out (s : WS) : Option (Nat × List (List Int)) := if s.st = true then some (s.ak, s.x.pieces) else none
def lwA (sz : Nat) (ro eo : List (Str × Str)) (E : Str) (N first : Nat) (s : WS) : WS := ansS sz ro eo (itF first (min (N - first) sz)) (said E (N - first) (min (N - first) sz)) s
def lwS (sz : Nat) (ro eo : List (Str × Str)) (E : Str) (N : Nat) : Nat → Nat → WS → Option (Nat × List (List Int))
  | 0, _, _ => none
  | k + 1, first, s => if (lwA sz ro eo E N first s).st = true then some ((lwA sz ro eo E N first s).ak, (lwA sz ro eo E N first s).x.pieces) else if min (N - first) sz = 0 ∧ (lwA sz ro eo E N first s).x.rest = s.x.rest then none else lwS sz ro eo E N k (first + min (N - first) sz) (lwA sz ro eo E N first s)
theorem lwS_succ (sz : Nat) (ro eo : List (Str × Str)) (E : Str) (N k first : Nat) (s : WS) : lwS sz ro eo E N (k + 1) first s = if (lwA sz ro eo E N first s).st = true then some ((lwA sz ro eo E N first s).ak, (lwA sz ro eo E N first s).x.pieces) else if min (N - first) sz = 0 ∧ (lwA sz ro eo E N first s).x.rest = s.x.rest then none else lwS sz ro eo E N k (first + min (N - first) sz) (lwA sz ro eo E N first s) := rfl
theorem run_suffix (sz : Nat) (told : Bool) : ∀ (ws : List (Str × Str)) (x : RP), ∃ d, (runW sz [] told ws x).1.rest = x.rest.drop d
  | [], x => ⟨0, rfl⟩
  | (t, s) :: r, x => by
    rw [show runW sz [] told ((t, s) :: r) x = if passM sz [] told t x.rest = true then (if s = "again" then (x, false) else if s = "stop" then (x, true) else runW sz [] told r (perfM sz [] s x)) else runW sz [] told r x from rfl]
    split
    · split
      · exact ⟨0, rfl⟩
      split
      · exact ⟨0, rfl⟩
      · obtain ⟨d, e⟩ := run_suffix sz told r (perfM sz [] s x)
        have : ∃ d, (perfM sz [] s x).rest = x.rest.drop d := by
          unfold perfM
          split
          · exact ⟨0, List.append_nil _⟩
          split
          · exact ⟨0, rfl⟩
          split
          · exact ⟨_, rfl⟩
          split
          · exact ⟨x.rest.length, List.drop_length.symm⟩
          · exact ⟨0, rfl⟩
        obtain ⟨d2, e2⟩ := this
        exact ⟨d2 + d, by rw [e, e2, List.drop_drop]⟩
    · exact run_suffix sz told r x
theorem rest_eq {sz : Nat} {ro eo : List (Str × Str)} {told : Bool} {x : RP} (h : (ansM sz ro eo [] told x).2 = false) : (ansM sz ro eo [] told x).1.rest.length = x.rest.length ↔ (ansM sz ro eo [] told x).1.rest = x.rest := by
  refine ⟨fun e => ?_, fun e => by rw [e]⟩
  have e0 : (ansM sz ro eo [] told x).1 = (runW sz [] told ro x).1 := by
    unfold ansM at h ⊢
    split at h
    · cases h
    · rename_i c
      rw [if_neg c]
  rw [e0] at e ⊢
  obtain ⟨d, ed⟩ := run_suffix sz told ro x
  rw [ed] at e ⊢
  rw [List.length_drop] at e
  by_cases c : d = 0
  · rw [c]; rfl
  · have : x.rest = [] := List.length_eq_zero_iff.mp (by omega)
    rw [this, List.drop_nil]
theorem itF0 (f : Nat) : itF f 0 = [] := rfl
theorem lwA_no {sz : Nat} {ro eo : List (Str × Str)} {E : Str} (N : Nat) (s : WS) : lwA sz ro eo E N N s = ansS sz ro eo [] (tl E) s := by
  unfold lwA
  rw [Nat.sub_self, Nat.zero_min]
  rfl
theorem lw_no {sz : Nat} (z : 1 ≤ sz) (ro eo : List (Str × Str)) (E : Str) (N : Nat) : ∀ (k k' : Nat) (m : Option Nat) (s : WS), s.st = false → some s.x.rest.length ≠ m → rk sz s.x.rest.length + 2 ≤ k → rk sz s.x.rest.length + 2 ≤ k' → lwS sz ro eo E N k' N s = out (noS sz ro eo (tl E) k m s)
  | 0, k', m, s, _, _, h, _ => by omega
  | k + 1, k', m, s, hs, hm, h1, h2 => by
    obtain ⟨k', rfl⟩ : ∃ j, k' = j + 1 := ⟨k' - 1, by omega⟩
    have eN : noS sz ro eo (tl E) (k + 1) m s = noS sz ro eo (tl E) k (some s.x.rest.length) (ansS sz ro eo [] (tl E) s) := by
      show (if s.st = true then s else if some s.x.rest.length = m then s else _) = _
      rw [if_neg (by rw [hs]; decide), if_neg hm]
    rw [lwS_succ, lwA_no, eN, Nat.sub_self, Nat.zero_min]
    by_cases c : (ansS sz ro eo [] (tl E) s).st = true
    · rw [if_pos c, no_stop _ _ _ _ _ _ _ c]
      unfold out
      rw [if_pos c]
    · have cf : (ansM sz ro eo [] (tl E) s.x).2 = false := by
        have : ¬ (ansM sz ro eo [] (tl E) s.x).2 = true := c
        simpa using this
      rw [if_neg c]
      by_cases d : (ansS sz ro eo [] (tl E) s).x.rest = s.x.rest
      · rw [if_pos ⟨rfl, d⟩]
        have e : noS sz ro eo (tl E) k (some s.x.rest.length) (ansS sz ro eo [] (tl E) s) = ansS sz ro eo [] (tl E) s := by
          cases k with
          | zero => rfl
          | succ k =>
            show (if _ = true then _ else if some (ansS sz ro eo [] (tl E) s).x.rest.length = some s.x.rest.length then _ else _) = _
            rw [if_neg c, if_pos (by rw [d])]
        rw [e]
        unfold out
        rw [if_neg c]
      · rw [if_neg (fun y => d y.2)]
        have nl : (ansS sz ro eo [] (tl E) s).x.rest.length ≠ s.x.rest.length := fun y => d ((rest_eq cf).mp y)
        have dn : rk sz (ansS sz ro eo [] (tl E) s).x.rest.length < rk sz s.x.rest.length := (rk_down z (no_rest cf)).resolve_left nl
        exact lw_no z ro eo E N k k' (some s.x.rest.length) _ cf (fun y => nl (Option.some.inj y)) (by omega) (by omega)
theorem said_tell {E : Str} (hE : isE E) (left c after : Nat) (h0 : left ≠ 0) (h : c + after = left) : said E left c = tell E left after := by
  rw [tell_some hE _ _ h0]
  unfold said
  rw [if_neg h0]
  unfold wl
  exact congrArg (_ && ·) (decide_eq_decide.mpr (by omega))
theorem lw_ex {sz : Nat} (z : 1 ≤ sz) (ro eo : List (Str × Str)) {E : Str} (hE : isE E) (N : Nat) : ∀ (k k' first : Nat) (s : WS), s.st = false → first ≤ N → N < first + k → N - first + 4 ≤ k' → lwS sz ro eo E N k' first s = out (noS sz ro eo (tl E) 4 none (exS sz ro eo E N k first s))
  | 0, k', first, s, _, h1, h2, _ => by omega
  | k + 1, k', first, s, hs, h1, h2, h3 => by
    by_cases e : first = N
    · subst e
      rw [ex_end]
      have := rk_le sz s.x.rest.length
      exact lw_no z ro eo E first 4 k' none s hs (by intro y; cases y) (by omega) (by omega)
    · obtain ⟨k', rfl⟩ : ∃ j, k' = j + 1 := ⟨k' - 1, by omega⟩
      have em : min (first + sz) N - first = min (N - first) sz := by omega
      have eA : lwA sz ro eo E N first s = ansS sz ro eo (itF first (min (first + sz) N - first)) (tell E (N - first) (N - min (first + sz) N)) s := by
        unfold lwA
        rw [said_tell hE (N - first) (min (N - first) sz) (N - min (first + sz) N) (by omega) (by omega), em]
      have eX : exS sz ro eo E N (k + 1) first s = exS sz ro eo E N k (min (first + sz) N) (lwA sz ro eo E N first s) := by
        rw [eA]
        show (if first < N ∧ s.st = false then _ else s) = _
        rw [if_pos ⟨by omega, hs⟩]
      rw [eX, lwS_succ]
      by_cases c : (lwA sz ro eo E N first s).st = true
      · rw [if_pos c, ex_stop _ _ _ _ _ _ _ _ c, no_stop _ _ _ _ _ _ _ c]
        unfold out
        rw [if_pos c]
      · rw [if_neg c, if_neg (by omega), show first + min (N - first) sz = min (first + sz) N by omega]
        exact lw_ex z ro eo hE N k k' (min (first + sz) N) _ (by simpa using c) (by omega) (by omega) (by omega)
theorem lw_wk {sz : Nat} (z : 1 ≤ sz) (ro eo : List (Str × Str)) {E : Str} (hE : isE E) (N : Nat) : lwS sz ro eo E N (N + 9) 0 ⟨⟨[], []⟩, 0, false⟩ = out (wkS sz ro eo E N) :=
  lw_ex z ro eo hE N (N + 1) (N + 9) 0 _ rfl (Nat.zero_le _) (by omega) (by omega)
theorem out_asked (s : WS) : (out s).map (·.1) = asked s := by
  unfold out asked
  split <;> rfl
/-- the numbers of a form, and its step -/
theorem noth_le (told : Bool) (ro : List (Str × Str)) : ∀ (k : Nat) (a : A) (r : Nat), nothA told ro k a = some r → r ≤ k
  | 0, a, r, h => by cases h
  | k + 1, a, r, h => by
    have h : (if (runA .no told ro a).2 = true then some 1 else if (runA .no told ro a).1 = a then none else (nothA told ro k (runA .no told ro a).1).map (· + 1)) = some r := h
    split at h
    · cases h; omega
    split at h
    · cases h
    · cases e : nothA told ro k (runA .no told ro a).1 with
      | none => rw [e] at h; cases h
      | some r' =>
        rw [e] at h
        cases h
        have := noth_le told ro k _ _ e
        show r' + 1 ≤ _
        omega
theorem ask_le (ro : List (Str × Str)) (E : Str) (part : Bool) : ∀ (q : Nat) (a : A) (r : Nat), askA ro E part q a = some r → r ≤ q + 4
  | 0, a, r, h => by
    have h : (if part = true then (if (runA .part (wl E) ro a).2 = true then some 1 else (nothA (tl E) ro 3 (runA .part (wl E) ro a).1).map (· + 1)) else nothA (tl E) ro 3 a) = some r := h
    split at h
    · split at h
      · cases h; omega
      · cases e : nothA (tl E) ro 3 (runA .part (wl E) ro a).1 with
        | none => rw [e] at h; cases h
        | some r' =>
          rw [e] at h
          cases h
          have := noth_le _ _ _ _ _ e
          show r' + 1 ≤ _
          omega
    · have := noth_le _ _ _ _ _ h
      omega
  | q + 1, a, r, h => by
    have h : (if (runA .full (wl E && decide (q = 0) && !part) ro a).2 = true then some 1 else (askA ro E part q (runA .full (wl E && decide (q = 0) && !part) ro a).1).map (· + 1)) = some r := h
    split at h
    · cases h; omega
    · generalize (runA .full (wl E && decide (q = 0) && !part) ro a).1 = b at h
      cases e : askA ro E part q b with
      | none => rw [e] at h; cases h
      | some r' =>
        rw [e] at h
        cases h
        have := ask_le ro E part q b r' e
        show r' + 1 ≤ _
        omega
def numA (ro : List (Str × Str)) (E : Str) (part : Bool) (q : Nat) : Option Nat := askA ro E part q .e
def stepA (ro : List (Str × Str)) (E : Str) (part : Bool) : Nat := match numA ro E part 4, numA ro E part 5 with | some l, some m => m - l | _, _ => 0
/-- from the fifth number on -/
theorem num_far (ro : List (Str × Str)) (E : Str) (part : Bool) : stepA ro E part ≤ 1 ∧ (numA ro E part 4 = none → ∀ q, 4 ≤ q → numA ro E part q = none) ∧ ∀ l, numA ro E part 4 = some l → ∀ q, 4 ≤ q → numA ro E part q = some (l + stepA ro E part * (q - 4)) := by
  unfold numA stepA
  rcases ask_per ro E part with ⟨c, h⟩ | h
  · have h4 := h 4 (by omega)
    have h5 := h 5 (by omega)
    unfold numA
    rw [h4, h5]
    refine ⟨(by show c - c ≤ 1; omega), (fun z => by cases z), fun l el q hq => ?_⟩
    cases el
    rw [h q (by omega)]
    show some c = some (c + (c - c) * (q - 4))
    rw [Nat.sub_self, Nat.zero_mul, Nat.add_zero]
  · unfold numA
    have h5 := h 4 (by omega)
    rw [h5]
    cases e : askA ro E part 4 .e with
    | none =>
      refine ⟨(by show 0 ≤ 1; omega), fun _ q hq => ?_, fun l el => by cases el⟩
      obtain ⟨d, rfl⟩ : ∃ d, q = 4 + d := ⟨q - 4, by omega⟩
      clear hq
      induction d with
      | zero => exact e
      | succ d ih => rw [show 4 + (d + 1) = 4 + d + 1 by omega, h _ (by omega), ih]; rfl
    | some l =>
      refine ⟨(by show l + 1 - l ≤ 1; omega), (fun z => by cases z), fun l' el q hq => ?_⟩
      cases el
      obtain ⟨d, rfl⟩ : ∃ d, q = 4 + d := ⟨q - 4, by omega⟩
      clear hq
      show askA ro E part (4 + d) .e = some (l + (l + 1 - l) * (4 + d - 4))
      rw [show l + 1 - l = 1 by omega, Nat.one_mul, show 4 + d - 4 = d by omega]
      induction d with
      | zero => exact e
      | succ d ih => rw [show 4 + (d + 1) = 4 + d + 1 by omega, h _ (by omega), ih]; show some (l + d + 1) = _; rw [Nat.add_assoc]
end CoM

/-! the replies of an exact and prompt source, and a run with them -/
namespace CoM
open PySem EM
def tlS (E : Str) (sz : Nat) : Nat → Nat → List (Nat × Bool)
  | 0, _ => []
  | n + 1, left => (min left sz, said E left (min left sz)) :: tlS E sz n (left - min left sz)
theorem tlS_len (E : Str) (sz : Nat) : ∀ n left, (tlS E sz n left).length = n
  | 0, _ => rfl
  | n + 1, left => by rw [tlS, List.length_cons, tlS_len]
theorem tlS_le (E : Str) (sz : Nat) : ∀ n left, ∀ r ∈ tlS E sz n left, r.1 ≤ sz
  | 0, _, r, h => by cases h
  | n + 1, left, r, h => by
    rcases List.mem_cons.mp h with rfl | h
    · exact Nat.min_le_right _ _
    · exact tlS_le E sz n _ r h
/-- one reply more to a run: the row, the items that came, how many replies, whether it has stopped -/
structure RS' where
  x : RP
  f : Nat
  u : Nat
  st : Bool
def stp (sz : Nat) (ro eo : List (Str × Str)) (s : RS') (r : Nat × Bool) : RS' := if s.st = true then s else ⟨(ansM sz ro eo (itF s.f r.1) r.2 s.x).1, s.f + r.1, s.u + 1, (ansM sz ro eo (itF s.f r.1) r.2 s.x).2⟩
theorem stp_stop {sz : Nat} {ro eo : List (Str × Str)} {s : RS'} (h : s.st = true) : ∀ rs : List (Nat × Bool), rs.foldl (stp sz ro eo) s = s
  | [] => rfl
  | r :: rs => by
    rw [List.foldl_cons, show stp sz ro eo s r = s by rw [stp, if_pos h], stp_stop h rs]
theorem tale_cons {sz : Nat} {ro eo : List (Str × Str)} {E : Str} {N : Nat} {n first : Nat} {s : WS} (hf : first ≤ N) (h : s.st = false) : (tlS E sz (n + 1) (N - first)).foldl (stp sz ro eo) ⟨s.x, first, s.ak, false⟩ = (tlS E sz n (N - (first + min (N - first) sz))).foldl (stp sz ro eo) ⟨(lwA sz ro eo E N first s).x, first + min (N - first) sz, (lwA sz ro eo E N first s).ak, (lwA sz ro eo E N first s).st⟩ := by
  rw [tlS, List.foldl_cons, stp, if_neg (show ¬ false = true by decide), Nat.sub_sub]
  rfl
/-- a run that stops -/
theorem tale_stop {sz : Nat} {ro eo : List (Str × Str)} {E : Str} {N : Nat} : ∀ (k first n : Nat) (s : WS) (ak : Nat) (ps : List (List Int)), first ≤ N → s.st = false → lwS sz ro eo E N k first s = some (ak, ps) → ak ≤ s.ak + n →
    ((tlS E sz n (N - first)).foldl (stp sz ro eo) ⟨s.x, first, s.ak, false⟩).x.pieces = ps ∧ ((tlS E sz n (N - first)).foldl (stp sz ro eo) ⟨s.x, first, s.ak, false⟩).u = ak ∧ ((tlS E sz n (N - first)).foldl (stp sz ro eo) ⟨s.x, first, s.ak, false⟩).st = true ∧ s.ak < ak
  | 0, first, n, s, ak, ps, hf, h, e, hn => by cases e
  | k + 1, first, n, s, ak, ps, hf, h, e, hn => by
    rw [lwS_succ] at e
    have ea : (lwA sz ro eo E N first s).ak = s.ak + 1 := rfl
    split at e
    next c =>
      cases e
      rw [ea] at hn ⊢
      obtain ⟨n, rfl⟩ : ∃ m, n = m + 1 := ⟨n - 1, by omega⟩
      rw [tale_cons hf h, stp_stop c]
      exact ⟨rfl, rfl, c, by omega⟩
    next c =>
      have c : (lwA sz ro eo E N first s).st = false := by simpa using c
      split at e
      · cases e
      · have ih := fun n hn => tale_stop k (first + min (N - first) sz) n (lwA sz ro eo E N first s) ak ps (by omega) c e hn
        have lt := (ih ak (by omega)).2.2.2
        rw [ea] at lt
        obtain ⟨n, rfl⟩ : ∃ m, n = m + 1 := ⟨n - 1, by omega⟩
        obtain ⟨i1, i2, i3, _⟩ := ih n (by rw [ea]; omega)
        rw [tale_cons hf h, c]
        exact ⟨i1, i2, i3, by omega⟩
theorem ans_rest (sz : Nat) (ro eo : List (Str × Str)) (held : List Int) (told : Bool) (x y : RP) (e : x.rest = y.rest) : (ansM sz ro eo held told x).2 = (ansM sz ro eo held told y).2 ∧ ((ansM sz ro eo held told x).2 = false → (ansM sz ro eo held told x).1.rest = (ansM sz ro eo held told y).1.rest) := by
  have rp : ∀ (s : Str) (x y : RP), x.rest = y.rest → (perfM sz held s x).rest = (perfM sz held s y).rest := fun s x y e => by
    unfold perfM
    split
    · show x.rest ++ held = y.rest ++ held
      rw [e]
    split
    · exact e
    split
    · show x.rest.drop _ = y.rest.drop _
      rw [e]
    split
    · rfl
    · exact e
  have rr : ∀ (ws : List (Str × Str)) (x y : RP), x.rest = y.rest → (runW sz held told ws x).1.rest = (runW sz held told ws y).1.rest ∧ (runW sz held told ws x).2 = (runW sz held told ws y).2 := fun ws => by
    induction ws with
    | nil => exact fun x y e => ⟨e, rfl⟩
    | cons w r ih =>
      intro x y e
      obtain ⟨t, s⟩ := w
      rw [show runW sz held told ((t, s) :: r) x = if passM sz held told t x.rest = true then (if s = "again" then (x, false) else if s = "stop" then (x, true) else runW sz held told r (perfM sz held s x)) else runW sz held told r x from rfl,
        show runW sz held told ((t, s) :: r) y = if passM sz held told t y.rest = true then (if s = "again" then (y, false) else if s = "stop" then (y, true) else runW sz held told r (perfM sz held s y)) else runW sz held told r y from rfl, e]
      split
      · split
        · exact ⟨e, rfl⟩
        split
        · exact ⟨e, rfl⟩
        · exact ih _ _ (rp s x y e)
      · exact ih _ _ e
  obtain ⟨a, b⟩ := rr ro x y e
  unfold ansM
  rw [b]
  split
  · exact ⟨rfl, fun z => by cases z⟩
  · exact ⟨rfl, fun _ => a⟩
/-- nothing comes any more, and the rest stays -/
theorem tale_still {sz : Nat} {ro eo : List (Str × Str)} {E : Str} {N : Nat} : ∀ (n : Nat) (s : WS), s.st = false → (lwA sz ro eo E N N s).st = false → (lwA sz ro eo E N N s).x.rest = s.x.rest →
    ((tlS E sz n (N - N)).foldl (stp sz ro eo) ⟨s.x, N, s.ak, false⟩).st = false ∧ ((tlS E sz n (N - N)).foldl (stp sz ro eo) ⟨s.x, N, s.ak, false⟩).u = s.ak + n
  | 0, s, _, _, _ => ⟨rfl, rfl⟩
  | n + 1, s, h, c, e => by
    have m0 : N + min (N - N) sz = N := by rw [Nat.sub_self, Nat.zero_min, Nat.add_zero]
    rw [tale_cons (Nat.le_refl N) h, m0, c]
    have key : ∀ (a b : WS), a.x.rest = b.x.rest → (lwA sz ro eo E N N a).st = (lwA sz ro eo E N N b).st ∧ ((lwA sz ro eo E N N a).st = false → (lwA sz ro eo E N N a).x.rest = (lwA sz ro eo E N N b).x.rest) := fun a b eab => by
      have g := ans_rest sz ro eo (itF N (min (N - N) sz)) (said E (N - N) (min (N - N) sz)) a.x b.x eab
      exact ⟨g.1, g.2⟩
    obtain ⟨k1, k2⟩ := key (lwA sz ro eo E N N s) s e
    obtain ⟨i1, i2⟩ := tale_still n (lwA sz ro eo E N N s) c (k1.trans c) ((k2 (k1.trans c)).trans (by rw [e]))
    refine ⟨i1, i2.trans ?_⟩
    show s.ak + 1 + n = s.ak + (n + 1)
    omega
/-- a run that never stops -/
theorem tale_never {sz : Nat} (z : 1 ≤ sz) {ro eo : List (Str × Str)} {E : Str} {N : Nat} : ∀ (n k first : Nat) (s : WS), n ≤ k → first ≤ N → s.st = false → lwS sz ro eo E N k first s = none →
    ((tlS E sz n (N - first)).foldl (stp sz ro eo) ⟨s.x, first, s.ak, false⟩).st = false ∧ ((tlS E sz n (N - first)).foldl (stp sz ro eo) ⟨s.x, first, s.ak, false⟩).u = s.ak + n
  | 0, k, first, s, _, _, h, _ => ⟨rfl, rfl⟩
  | n + 1, k, first, s, hk, hf, h, e => by
    obtain ⟨k, rfl⟩ : ∃ m, k = m + 1 := ⟨k - 1, by omega⟩
    rw [lwS_succ] at e
    split at e
    · cases e
    next c =>
      have c : (lwA sz ro eo E N first s).st = false := by simpa using c
      split at e
      next d =>
        have : first = N := by have := d.1; omega
        subst this
        exact tale_still (n + 1) s h c d.2
      next d =>
        rw [tale_cons hf h, c]
        obtain ⟨i1, i2⟩ := tale_never z n k (first + min (N - first) sz) (lwA sz ro eo E N first s) (by omega) (by omega) c e
        refine ⟨i1, i2.trans ?_⟩
        show s.ak + 1 + n = s.ak + (n + 1)
        omega
/-- a run with the first replies -/
def rnT (sz : Nat) (ro eo : List (Str × Str)) (E : Str) (N n : Nat) : RS' := (tlS E sz n N).foldl (stp sz ro eo) ⟨⟨[], []⟩, 0, 0, false⟩
theorem rnT_stop {sz : Nat} (z : 1 ≤ sz) {ro eo : List (Str × Str)} (ha : adds ro ≤ 1) {E : Str} (hE : isE E) {N n ak : Nat} {ps : List (List Int)} (e : out (wkS sz ro eo E N) = some (ak, ps)) (hn : N / sz + 4 ≤ n) :
    (rnT sz ro eo E N n).x.pieces = ps ∧ (rnT sz ro eo E N n).u = ak ∧ (rnT sz ro eo E N n).st = true := by
  have l := ask_le ro E (decide (N % sz ≠ 0)) (N / sz) .e ak (by rw [← wk_asked z (eo := eo) ha hE N, ← out_asked, e]; rfl)
  obtain ⟨a, b, c, _⟩ := tale_stop (N + 9) 0 n ⟨⟨[], []⟩, 0, false⟩ ak ps (Nat.zero_le _) rfl ((lw_wk z ro eo hE N).trans e) (by show ak ≤ 0 + n; omega)
  exact ⟨a, b, c⟩
theorem rnT_never {sz : Nat} (z : 1 ≤ sz) {ro eo : List (Str × Str)} {E : Str} (hE : isE E) {N n : Nat} (e : out (wkS sz ro eo E N) = none) :
    (rnT sz ro eo E N n).u = n ∧ (rnT sz ro eo E N n).st = false := by
  have := lw_ex z ro eo hE N (N + 1) (N + 4 + n) 0 ⟨⟨[], []⟩, 0, false⟩ rfl (Nat.zero_le _) (by omega) (by omega)
  obtain ⟨a, b⟩ := tale_never z n (N + 4 + n) 0 ⟨⟨[], []⟩, 0, false⟩ (by omega) (Nat.zero_le _) rfl (this.trans e)
  exact ⟨b.trans (Nat.zero_add n), a⟩
end CoM
namespace CoM
open PySem EM
theorem itF_all {N f c : Nat} (h : f + c ≤ N) : AllB N (itF f c) := fun i hi => by
  obtain ⟨k, hk, rfl⟩ := List.mem_map.mp hi
  have := List.mem_range.mp hk
  omega
/-- how much there is: the items that came, a bound of what is shown -/
structure Bd' (N : Nat) (s : RS') : Prop where
  f : s.f ≤ N
  l : Lt s.f (s.u * (18 * (3 * N + 1))) s.x
  a : AB N s.x
theorem bd_stp {sz N : Nat} {ro eo : List (Str × Str)} (hN : N ≤ 1000) (l1 : ro.length ≤ 12) (l2 : eo.length ≤ 6) (a1 : adds ro ≤ 1) (a2 : adds eo = 0) {s : RS'} {c : Nat} {t : Bool} (hc : s.f + c ≤ N) (h : Bd' N s) : Bd' N (stp sz ro eo s (c, t)) := by
  unfold stp
  split
  · exact h
  · refine ⟨hc, ?_, ab_ans (itF_all hc) h.a⟩
    have g := lt_ans (size := sz) (told := t) (h := c) (Nat.le_of_eq (itF_len s.f c)) l1 l2 a1 a2 h.l
    refine g.mono (Nat.le_refl _) ?_
    show s.u * (18 * (3 * N + 1)) + 18 * (2 * (s.f + c) + c + 1) ≤ (s.u + 1) * (18 * (3 * N + 1))
    have e : (s.u + 1) * (18 * (3 * N + 1)) = s.u * (18 * (3 * N + 1)) + 18 * (3 * N + 1) := Nat.succ_mul _ _
    rw [e]
    have : 18 * (2 * (s.f + c) + c + 1) ≤ 18 * (3 * N + 1) := Nat.mul_le_mul_left _ (by omega)
    exact Nat.add_le_add_left this _
theorem bd_fold {sz N : Nat} {ro eo : List (Str × Str)} {E : Str} (hN : N ≤ 1000) (l1 : ro.length ≤ 12) (l2 : eo.length ≤ 6) (a1 : adds ro ≤ 1) (a2 : adds eo = 0) : ∀ (n left : Nat) (s : RS'), s.f + left ≤ N → Bd' N s → Bd' N ((tlS E sz n left).foldl (stp sz ro eo) s)
  | 0, _, _, _, h => h
  | n + 1, left, s, hl, h => by
    rw [tlS, List.foldl_cons]
    have b := bd_stp (sz := sz) (t := said E left (min left sz)) hN l1 l2 a1 a2 (c := min left sz) (by omega) h
    by_cases hs : s.st = true
    · have e : stp sz ro eo s (min left sz, said E left (min left sz)) = s := by rw [stp, if_pos hs]
      rw [e, stp_stop hs]
      exact h
    · refine bd_fold hN l1 l2 a1 a2 n (left - min left sz) _ ?_ b
      have : (stp sz ro eo s (min left sz, said E left (min left sz))).f = s.f + min left sz := by rw [stp, if_neg hs]
      rw [this]
      omega
theorem bd_rnT {sz N n : Nat} {ro eo : List (Str × Str)} {E : Str} (hN : N ≤ 1000) (l1 : ro.length ≤ 12) (l2 : eo.length ≤ 6) (a1 : adds ro ≤ 1) (a2 : adds eo = 0) : Bd' N (rnT sz ro eo E N n) :=
  bd_fold hN l1 l2 a1 a2 n N _ (by show 0 + N ≤ N; omega) ⟨Nat.zero_le _, ⟨Nat.zero_le _, Nat.zero_le _⟩, (fun i h => by cases h), (fun p h => by cases h)⟩
theorem u_stp {sz : Nat} {ro eo : List (Str × Str)} : ∀ (rs : List (Nat × Bool)) (s : RS'), (rs.foldl (stp sz ro eo) s).u ≤ s.u + rs.length
  | [], s => Nat.le_refl _
  | r :: rs, s => by
    rw [List.foldl_cons, List.length_cons]
    have := u_stp (sz := sz) (ro := ro) (eo := eo) rs (stp sz ro eo s r)
    have : (stp sz ro eo s r).u ≤ s.u + 1 := by
      unfold stp
      split
      · omega
      · exact Nat.le_refl _
    omega
theorem u_rnT {sz N n : Nat} {ro eo : List (Str × Str)} {E : Str} : (rnT sz ro eo E N n).u ≤ n := by
  have := u_stp (sz := sz) (ro := ro) (eo := eo) (tlS E sz n N) ⟨⟨[], []⟩, 0, 0, false⟩
  rw [tlS_len] at this
  exact Nat.le_trans this (by show 0 + n ≤ n; omega)
theorem run_showable {ps : List (List Int)} {u : Nat} {st : Bool} (h : ∀ p ∈ ps, AllB 1000000 p) (hu : u < 1000000) : PyData.showable (runD ps u st) = true := by
  have a := pieces_showable ps h
  have b := ints_showable [(u : Int)] fun i hi => by rw [List.mem_singleton.mp hi]; exact ⟨by omega, by omega⟩
  simp only [List.map_cons, List.map_nil, PyData.showableAll, Bool.and_true] at b
  simp only [runD, PyData.showable, PyData.showableAll, a, Bool.true_and, Bool.and_true]
  simp only [PyData.showable] at b
  rw [b]
theorem run_depth (ps : List (List Int)) (u : Nat) (st : Bool) : PyData.depth (runD ps u st) ≤ 64 := by
  have := pieces_depth ps
  simp only [runD, PyData.depth, PyData.depthAll]
  omega
theorem rnT_shown {sz N n : Nat} {ro eo : List (Str × Str)} {E : Str} (hN : N ≤ 1000) (hn : n ≤ 100) (l1 : ro.length ≤ 12) (l2 : eo.length ≤ 6) (a1 : adds ro ≤ 1) (a2 : adds eo = 0) (st : Bool) (hu : N ≤ 440 ∧ (rnT sz ro eo E N n).u ≤ 64 ∨ (rnT sz ro eo E N n).u ≤ 5) :
    PyData.showable (runD (rnT sz ro eo E N n).x.pieces (rnT sz ro eo E N n).u st) = true ∧ PyData.depth (runD (rnT sz ro eo E N n).x.pieces (rnT sz ro eo E N n).u st) ≤ 64 ∧ (PyData.shown (runD (rnT sz ro eo E N n).x.pieces (rnT sz ro eo E N n).u st)).length ≤ 12200000 := by
  have b := bd_rnT (sz := sz) (n := n) (E := E) hN l1 l2 a1 a2
  have u := u_rnT (sz := sz) (ro := ro) (eo := eo) (E := E) (N := N) (n := n)
  have h6 : ∀ p ∈ (rnT sz ro eo E N n).x.pieces, AllB 1000000 p := fun p hp i hi => by have := b.a.2 p hp i hi; omega
  refine ⟨run_showable h6 (by omega), run_depth _ _ _, ?_⟩
  have le := run_le (N := N) (by omega) (u := (rnT sz ro eo E N n).u) (st := st) b.a.2 (by omega)
  have w := b.l.2
  have : (rnT sz ro eo E N n).u * (18 * (3 * N + 1)) ≤ 1521792 := by
    rcases hu with ⟨h1, h2⟩ | h2
    · exact Nat.le_trans (Nat.mul_le_mul h2 (show 18 * (3 * N + 1) ≤ 18 * (3 * 440 + 1) by omega)) (by decide)
    · exact Nat.le_trans (Nat.mul_le_mul h2 (show 18 * (3 * N + 1) ≤ 18 * (3 * 1000 + 1) by omega)) (by decide)
  omega
end CoM

/-! pieces that were handed before do not matter -/
namespace EM
open PySem L2
def addP (ps : List (List Int)) (x : RP) : RP := ⟨x.rest, ps ++ x.pieces⟩
theorem addP_rest (ps : List (List Int)) (x : RP) : (addP ps x).rest = x.rest := rfl
theorem perf_add (size : Nat) (held : List Int) (s : Str) (ps : List (List Int)) (x : RP) : perfM size held s (addP ps x) = addP ps (perfM size held s x) := by
  unfold perfM addP
  split
  · rfl
  · split
    · show RP.mk _ _ = RP.mk _ _
      rw [List.append_assoc]
    · split
      · show RP.mk _ _ = RP.mk _ _
        rw [List.append_assoc]
      · split
        · show RP.mk _ _ = RP.mk _ _
          rw [List.append_assoc]
        · rfl
theorem run_add (size : Nat) (held : List Int) (told : Bool) (ps : List (List Int)) : ∀ (os : List (Str × Str)) (x : RP), runW size held told os (addP ps x) = (addP ps (runW size held told os x).1, (runW size held told os x).2)
  | [], x => rfl
  | (t, s) :: r, x => by
    unfold runW
    rw [addP_rest]
    split
    · split
      · rfl
      · split
        · rfl
        · rw [perf_add]
          exact run_add size held told ps r _
    · exact run_add size held told ps r x
theorem end_add (size : Nat) (held : List Int) (told : Bool) (ps : List (List Int)) : ∀ (os : List (Str × Str)) (x : RP), endW size held told os (addP ps x) = addP ps (endW size held told os x)
  | [], x => rfl
  | (t, s) :: r, x => by
    unfold endW
    rw [addP_rest]
    split
    · rw [perf_add]
      exact end_add size held told ps r _
    · exact end_add size held told ps r x
theorem ans_add (size : Nat) (ro eo : List (Str × Str)) (held : List Int) (told : Bool) (ps : List (List Int)) (x : RP) : ansM size ro eo held told (addP ps x) = (addP ps (ansM size ro eo held told x).1, (ansM size ro eo held told x).2) := by
  unfold ansM
  rw [run_add]
  split
  · rw [end_add]
  · rfl
/-- from the rest alone -/
theorem ans_from (size : Nat) (ro eo : List (Str × Str)) (held : List Int) (told : Bool) (x : RP) : ansM size ro eo held told x = (⟨(ansM size ro eo held told ⟨x.rest, []⟩).1.rest, x.pieces ++ (ansM size ro eo held told ⟨x.rest, []⟩).1.pieces⟩, (ansM size ro eo held told ⟨x.rest, []⟩).2) := by
  have e : x = addP x.pieces ⟨x.rest, []⟩ := by
    obtain ⟨r, p⟩ := x
    show RP.mk r p = RP.mk r (p ++ [])
    rw [List.append_nil]
  conv => lhs; rw [e, ans_add]
  rfl
end EM

/-! papers of faults, judged: the program's looking at the whole run against the law's own looking reply by reply -/
namespace FJ
open PySem EM CoM
abbrev Rep := List (Nat × Bool)
def s0 : RS' := ⟨⟨[], []⟩, 0, 0, false⟩
section
variable (sz : Nat) (ro eo : List (Str × Str))
def rn (rs : Rep) : RS' := rs.foldl (stp sz ro eo) s0
theorem rn_app (a b : Rep) : rn sz ro eo (a ++ b) = b.foldl (stp sz ro eo) (rn sz ro eo a) := by unfold rn; rw [List.foldl_append]
theorem rn_snoc (a : Rep) (r : Nat × Bool) : rn sz ro eo (a ++ [r]) = stp sz ro eo (rn sz ro eo a) r := by rw [rn_app]; rfl
theorem stp_u (s : RS') (r : Nat × Bool) : (stp sz ro eo s r).u ≤ s.u + 1 := by
  unfold stp
  split
  · omega
  · exact Nat.le_refl _
theorem fold_u : ∀ (rs : Rep) (s : RS'), (rs.foldl (stp sz ro eo) s).u ≤ s.u + rs.length
  | [], s => Nat.le_refl _
  | r :: rs, s => by
    have := fold_u rs (stp sz ro eo s r)
    have := stp_u sz ro eo s r
    rw [List.foldl_cons, List.length_cons]
    omega
theorem rn_u (rs : Rep) : (rn sz ro eo rs).u ≤ rs.length := by
  have := fold_u sz ro eo rs s0
  unfold rn
  have e : s0.u = 0 := rfl
  omega
theorem stp_pcs (s : RS') (r : Nat × Bool) : ∃ d, (stp sz ro eo s r).x.pieces = s.x.pieces ++ d := by
  unfold stp
  split
  · exact ⟨[], (List.append_nil _).symm⟩
  · rw [ans_from]
    exact ⟨_, rfl⟩
theorem fold_pcs : ∀ (rs : Rep) (s : RS'), ∃ d, (rs.foldl (stp sz ro eo) s).x.pieces = s.x.pieces ++ d
  | [], s => ⟨[], (List.append_nil _).symm⟩
  | r :: rs, s => by
    obtain ⟨d, e⟩ := stp_pcs sz ro eo s r
    obtain ⟨d', e'⟩ := fold_pcs rs (stp sz ro eo s r)
    exact ⟨d ++ d', by rw [List.foldl_cons, e', e, List.append_assoc]⟩
/-- its items are the first ones -/
theorem stp_ab {s : RS'} {r : Nat × Bool} (h : AB s.f s.x) : AB (stp sz ro eo s r).f (stp sz ro eo s r).x := by
  unfold stp
  split
  · exact h
  · refine ab_ans (fun i hi => ?_) ⟨fun i hi => ?_, fun p hp i hi => ?_⟩
    · obtain ⟨k, hk, rfl⟩ := List.mem_map.mp hi
      have := List.mem_range.mp hk
      exact ⟨by omega, by show ((s.f : Nat) : Int) + ((k : Nat) : Int) < ((s.f + r.1 : Nat) : Int); omega⟩
    · have := h.1 i hi
      exact ⟨this.1, by show i < ((s.f + r.1 : Nat) : Int); omega⟩
    · have := h.2 p hp i hi
      exact ⟨this.1, by show i < ((s.f + r.1 : Nat) : Int); omega⟩
theorem fold_ab : ∀ (rs : Rep) (s : RS'), AB s.f s.x → AB (rs.foldl (stp sz ro eo) s).f (rs.foldl (stp sz ro eo) s).x
  | [], _, h => h
  | r :: rs, s, h => by rw [List.foldl_cons]; exact fold_ab rs _ (stp_ab sz ro eo h)
theorem rn_ab (rs : Rep) : AB (rn sz ro eo rs).f (rn sz ro eo rs).x := fold_ab sz ro eo rs s0 ⟨fun _ h => (nomatch h), fun _ h => (nomatch h)⟩
end
def cnt (rs : Rep) : Nat := (rs.map (·.1)).sum
theorem cnt_app (a b : Rep) : cnt (a ++ b) = cnt a + cnt b := by simp [cnt, List.sum_append]
theorem cnt_one (r : Nat × Bool) : cnt [r] = r.1 := by simp [cnt]
/-! ### uneven pieces -/
def unevP (sz : Nat) (ps : List (List Int)) : Bool := ps.any (fun p => decide (sz < p.length)) || ps.dropLast.any (fun p => decide (p.length < sz))
def unevL (sz : Nat) (ps : List (List Int)) : Bool := ps.any (fun p => decide (sz < p.length)) || ps.dropLast.any (fun p => decide (p.length ≠ sz))
theorem mem_drop {α : Type} {a : α} : ∀ {l : List α}, a ∈ l.dropLast → a ∈ l := fun h => List.dropLast_subset _ h
theorem unev_iff {sz : Nat} {ps : List (List Int)} : unevP sz ps = true ↔ (∃ p ∈ ps, sz < p.length) ∨ ∃ p ∈ ps.dropLast, p.length < sz := by
  unfold unevP
  rw [Bool.or_eq_true, List.any_eq_true, List.any_eq_true]
  refine or_congr ⟨fun ⟨p, h, e⟩ => ⟨p, h, of_decide_eq_true e⟩, fun ⟨p, h, e⟩ => ⟨p, h, decide_eq_true e⟩⟩ ⟨fun ⟨p, h, e⟩ => ⟨p, h, of_decide_eq_true e⟩, fun ⟨p, h, e⟩ => ⟨p, h, decide_eq_true e⟩⟩
theorem unev_same (sz : Nat) (ps : List (List Int)) : unevL sz ps = unevP sz ps := by
  refine Bool.eq_iff_iff.mpr ⟨fun h => unev_iff.mpr ?_, fun h => ?_⟩
  · unfold unevL at h
    rw [Bool.or_eq_true, List.any_eq_true, List.any_eq_true] at h
    rcases h with ⟨p, h, e⟩ | ⟨p, h, e⟩
    · exact .inl ⟨p, h, of_decide_eq_true e⟩
    · have e := of_decide_eq_true e
      by_cases c : p.length < sz
      · exact .inr ⟨p, h, c⟩
      · exact .inl ⟨p, mem_drop h, by omega⟩
  · unfold unevL
    rw [Bool.or_eq_true, List.any_eq_true, List.any_eq_true]
    rcases unev_iff.mp h with ⟨p, h, e⟩ | ⟨p, h, e⟩
    · exact .inl ⟨p, h, decide_eq_true e⟩
    · exact .inr ⟨p, h, decide_eq_true (by omega)⟩
theorem unev_more {sz : Nat} {ps d : List (List Int)} (h : unevP sz ps = true) : unevP sz (ps ++ d) = true := by
  refine unev_iff.mpr ?_
  rcases unev_iff.mp h with ⟨p, h, e⟩ | ⟨p, h, e⟩
  · exact .inl ⟨p, List.mem_append_left _ h, e⟩
  · refine .inr ⟨p, ?_, e⟩
    cases d with
    | nil => rw [List.append_nil]; exact h
    | cons x d =>
      rw [List.dropLast_append_of_ne_nil (by intro z; cases z)]
      exact List.mem_append_left _ (mem_drop h)
/-! ### the program's word -/
def toldR (rs : Rep) : Bool := (rs.getLast?.map (·.2)).getD false
theorem told_snoc (a : Rep) (r : Nat × Bool) : toldR (a ++ [r]) = r.2 := by simp [toldR]
section
variable (sz : Nat) (ro eo : List (Str × Str)) (te : Bool)
def evP (s : RS') : Bool := !(noS sz ro eo te 4 none ⟨s.x, s.u, s.st⟩).st
def brW (s : RS') (n : Nat) : Bool := s.st && decide (s.x.pieces.flatten ≠ itF 0 n)
def brF (b s : RS') : Bool := decide ([] ∈ s.x.pieces) && !decide ([] ∈ b.x.pieces)
def brE (b s : RS') : Bool := unevP sz s.x.pieces && !unevP sz b.x.pieces
def brQ (s : RS') (rs : Rep) : Bool := toldR rs && (!s.st && !rs.dropLast.any (·.2))
def brN (s : RS') (n : Nat) (rs : Rep) : Bool := if cnt rs ≠ n ∨ rs.getLast?.map (·.1) = some 0 then false else evP sz ro eo te s
def isF (name : Str) (n : Nat) (rs : Rep) : Bool :=
  if (rn sz ro eo rs).u < rs.length then false
  else if name = "quiet" then brQ (rn sz ro eo rs) rs
  else if name = "ends" then brN sz ro eo te (rn sz ro eo rs) n rs
  else if name = "whole" then brW (rn sz ro eo rs) n
  else if name = "filled" then brF (rn sz ro eo rs.dropLast) (rn sz ro eo rs)
  else brE sz (rn sz ro eo rs.dropLast) (rn sz ro eo rs)
/-- the source can give these replies -/
def alw (opt : Nat → Rep) : Nat → Rep → Bool
  | _, [] => true
  | left, r :: rs => decide (r ∈ opt left) && alw opt (left - r.1) rs
/-! ### the law's word -/
def shown (name : Str) (rs : Rep) (left : Nat) (s : RS') : Bool :=
  if name = "whole" then s.st && (decide (0 < left) || decide (s.x.pieces.flatten ≠ itF 0 s.f))
  else if name = "filled" then decide ([] ∈ s.x.pieces)
  else if name = "even" then unevL sz s.x.pieces
  else if name = "quiet" then toldR rs && !s.st
  else decide (left = 0) && (decide (rs.getLast?.map (·.1) ≠ some 0) && evP sz ro eo te s)
def walk (name : Str) (opt : Nat → Rep) : Rep → Nat → RS' → Rep → Bool
  | so, left, s, [] => shown sz ro eo te name so left s
  | so, left, s, r :: rs => if s.st = true ∨ r ∉ opt left then false
    else if so ≠ [] ∧ shown sz ro eo te name so left s = true then false
    else walk name opt (so ++ [r]) (left - r.1) (stp sz ro eo s r) rs
def isP (name : Str) (opt : Nat → Rep) (n : Nat) (rs : Rep) : Bool := if rs = [] ∧ (name ≠ "ends" ∨ 0 < n) then false else walk sz ro eo te name opt [] n s0 rs
end
section
variable {sz : Nat} {ro eo : List (Str × Str)} {te : Bool} {opt : Nat → Rep}
theorem it_last {n f : Nat} (h : f < n) {ps : List (List Int)} (hb : ∀ p ∈ ps, AllB f p) : ps.flatten ≠ itF 0 n := fun e => by
  have m : ((n - 1 : Nat) : Int) ∈ itF 0 n := List.mem_map.mpr ⟨n - 1, List.mem_range.mpr (by omega), by show ((0 : Nat) : Int) + ((n - 1 : Nat) : Int) = _; omega⟩
  rw [← e] at m
  obtain ⟨p, hp, hi⟩ := List.mem_flatten.mp m
  have := (hb p hp _ hi).2
  omega
theorem alw_zero {te0 : Bool} (h0 : opt 0 = [(0, te0)]) : ∀ (rs : Rep), alw opt 0 rs = true → ∀ r ∈ rs, r.1 = 0
  | [], _, r, h => (nomatch h)
  | q :: rs, e, r, h => by
    unfold alw at e
    obtain ⟨a, b⟩ := Bool.and_eq_true_iff.mp e
    have a := of_decide_eq_true a
    rw [h0] at a
    have aq : q = (0, te0) := List.mem_singleton.mp a
    rcases List.mem_cons.mp h with rfl | h
    · rw [aq]
    · refine alw_zero h0 rs ?_ r h
      rw [aq] at b
      exact b
def Names (name : Str) : Prop := name = "whole" ∨ name = "filled" ∨ name = "even" ∨ name = "quiet" ∨ name = "ends"
theorem Names.e {name : Str} (hn : Names name) (c1 : name ≠ "whole") (c2 : name ≠ "filled") (c3 : name ≠ "even") (c4 : name ≠ "quiet") : name = "ends" := by
  rcases hn with h | h | h | h | h
  · exact absurd h c1
  · exact absurd h c2
  · exact absurd h c3
  · exact absurd h c4
  · exact h
theorem isF_stop {name : Str} {n : Nat} {a : Rep} {r : Nat × Bool} {b : Rep} (h : (rn sz ro eo a).st = true) : isF sz ro eo te name n (a ++ r :: b) = false := by
  unfold isF
  have e : rn sz ro eo (a ++ r :: b) = rn sz ro eo a := by rw [rn_app, stp_stop h]
  rw [e, if_pos]
  have := rn_u sz ro eo a
  rw [List.length_append, List.length_cons]
  omega
theorem last_app {a : Rep} {r : Nat × Bool} {b : Rep} : ∃ z ∈ r :: b, (a ++ r :: b).getLast? = some z := by
  refine ⟨(r :: b).getLast (by intro z; cases z), List.getLast_mem _, ?_⟩
  rw [List.getLast?_append, List.getLast?_eq_some_getLast (by intro z; cases z)]
  rfl
theorem drop_app {a : Rep} {r : Nat × Bool} {b : Rep} : (a ++ r :: b).dropLast = a ++ (r :: b).dropLast := List.dropLast_append_of_ne_nil (by intro z; cases z)
theorem snoc_of {a : Rep} (h : a ≠ []) : ∃ b r, a = b ++ [r] := ⟨a.dropLast, a.getLast h, (List.dropLast_concat_getLast h).symm⟩
/-- what was seen earlier is no fault any more -/
theorem isF_seen {te0 : Bool} (h0 : opt 0 = [(0, te0)]) {name : Str} (hn : Names name) {n left : Nat} {a : Rep} (ha : a ≠ []) {r : Nat × Bool} {b : Rep} (hs : shown sz ro eo te name a left (rn sz ro eo a) = true) (hl : alw opt left (r :: b) = true) : isF sz ro eo te name n (a ++ r :: b) = false := by
  unfold shown at hs
  by_cases c1 : name = "whole"
  · rw [if_pos c1] at hs
    exact isF_stop (Bool.and_eq_true_iff.mp hs).1
  rw [if_neg c1] at hs
  unfold isF
  by_cases c0 : (rn sz ro eo (a ++ r :: b)).u < (a ++ r :: b).length
  · rw [if_pos c0]
  rw [if_neg c0]
  by_cases c2 : name = "filled"
  · subst c2
    rw [if_pos rfl] at hs
    rw [if_neg (show ¬ ("filled" : Str) = "quiet" by decide +kernel), if_neg (show ¬ ("filled" : Str) = "ends" by decide +kernel), if_neg (show ¬ ("filled" : Str) = "whole" by decide +kernel), if_pos rfl, drop_app]
    unfold brF
    obtain ⟨d, e⟩ := fold_pcs sz ro eo (r :: b).dropLast (rn sz ro eo a)
    rw [rn_app sz ro eo a (r :: b).dropLast, e, decide_eq_true (show [] ∈ (rn sz ro eo a).x.pieces ++ d from List.mem_append_left _ (of_decide_eq_true hs))]
    exact Bool.and_false _
  rw [if_neg c2] at hs
  by_cases c3 : name = "even"
  · subst c3
    rw [if_pos rfl] at hs
    rw [if_neg (show ¬ ("even" : Str) = "quiet" by decide +kernel), if_neg (show ¬ ("even" : Str) = "ends" by decide +kernel), if_neg (show ¬ ("even" : Str) = "whole" by decide +kernel), if_neg (show ¬ ("even" : Str) = "filled" by decide +kernel), drop_app]
    unfold brE
    obtain ⟨d, e⟩ := fold_pcs sz ro eo (r :: b).dropLast (rn sz ro eo a)
    rw [unev_same] at hs
    rw [rn_app sz ro eo a (r :: b).dropLast, e, unev_more hs]
    exact Bool.and_false _
  rw [if_neg c3] at hs
  by_cases c4 : name = "quiet"
  · rw [if_pos c4] at hs
    rw [if_pos c4]
    unfold brQ
    obtain ⟨a', r', rfl⟩ := snoc_of ha
    have ht := (Bool.and_eq_true_iff.mp hs).1
    rw [told_snoc] at ht
    have : (a' ++ [r'] ++ r :: b).dropLast.any (·.2) = true := by
      rw [drop_app]
      exact List.any_eq_true.mpr ⟨r', List.mem_append_left _ (List.mem_append_right _ (List.mem_singleton.mpr rfl)), ht⟩
    rw [this]
    simp
  rw [if_neg c4] at hs
  rw [if_neg c4, if_pos (hn.e c1 c2 c3 c4)]
  unfold brN
  have l0 : left = 0 := of_decide_eq_true (Bool.and_eq_true_iff.mp hs).1
  rw [l0] at hl
  obtain ⟨z, hz, e⟩ := last_app (a := a) (r := r) (b := b)
  rw [if_pos (.inr (by rw [e, Option.map_some, alw_zero h0 _ hl z hz]))]
theorem st_used {a : Rep} (r : Nat × Bool) (h : (rn sz ro eo a).st = false) : (rn sz ro eo (a ++ [r])).u = (rn sz ro eo a).u + 1 ∧ (rn sz ro eo (a ++ [r])).f = (rn sz ro eo a).f + r.1 := by
  rw [rn_snoc]
  unfold stp
  rw [if_neg (by rw [h]; decide)]
  exact ⟨rfl, rfl⟩
/-- nothing was seen before the last reply -/
structure Inv (sz : Nat) (ro eo : List (Str × Str)) (name : Str) (n left : Nat) (a : Rep) : Prop where
  c : cnt a + left = n
  f : (rn sz ro eo a).f = cnt a
  u : (rn sz ro eo a).u = a.length
  fi : name = "filled" → ¬ [] ∈ (rn sz ro eo a.dropLast).x.pieces
  ev : name = "even" → unevP sz (rn sz ro eo a.dropLast).x.pieces = false
  qu : name = "quiet" → a.dropLast.any (·.2) = false
theorem shown_end {name : Str} (hn : Names name) {n left : Nat} {a : Rep} (i : Inv sz ro eo name n left a) : shown sz ro eo te name a left (rn sz ro eo a) = isF sz ro eo te name n a := by
  have ic := i.c
  unfold shown isF
  rw [if_neg (show ¬ (rn sz ro eo a).u < a.length by have := i.u; omega)]
  by_cases c1 : name = "whole"
  · subst c1
    rw [if_pos rfl, if_neg (show ¬ ("whole" : Str) = "quiet" by decide +kernel), if_neg (show ¬ ("whole" : Str) = "ends" by decide +kernel), if_pos rfl]
    unfold brW
    congr 1
    by_cases l0 : 0 < left
    · rw [decide_eq_true l0, Bool.true_or]
      exact (decide_eq_true (it_last (f := (rn sz ro eo a).f) (by have := i.f; omega) (rn_ab sz ro eo a).2)).symm
    · rw [decide_eq_false l0, Bool.false_or, i.f, show cnt a = n by omega]
  rw [if_neg c1]
  by_cases c2 : name = "filled"
  · subst c2
    rw [if_pos rfl, if_neg (show ¬ ("filled" : Str) = "quiet" by decide +kernel), if_neg (show ¬ ("filled" : Str) = "ends" by decide +kernel), if_neg (show ¬ ("filled" : Str) = "whole" by decide +kernel), if_pos rfl]
    unfold brF
    rw [decide_eq_false (i.fi rfl)]
    exact (Bool.and_true _).symm
  rw [if_neg c2]
  by_cases c3 : name = "even"
  · subst c3
    rw [if_pos rfl, if_neg (show ¬ ("even" : Str) = "quiet" by decide +kernel), if_neg (show ¬ ("even" : Str) = "ends" by decide +kernel), if_neg (show ¬ ("even" : Str) = "whole" by decide +kernel), if_neg (show ¬ ("even" : Str) = "filled" by decide +kernel), unev_same]
    unfold brE
    rw [i.ev rfl]
    exact (Bool.and_true _).symm
  rw [if_neg c3]
  by_cases c4 : name = "quiet"
  · rw [if_pos c4, if_pos c4]
    unfold brQ
    rw [i.qu c4]
    simp
  rw [if_neg c4, if_neg c4, if_pos (hn.e c1 c2 c3 c4)]
  unfold brN
  by_cases l0 : left = 0
  · rw [decide_eq_true l0, Bool.true_and]
    by_cases e : a.getLast?.map (·.1) = some 0
    · rw [if_pos (.inr e), decide_eq_false (show ¬ a.getLast?.map (·.1) ≠ some 0 from fun z => z e)]
      rfl
    · rw [if_neg (fun z => z.elim (fun z => z (by omega)) e), decide_eq_true (show a.getLast?.map (·.1) ≠ some 0 from e)]
      rfl
  · rw [decide_eq_false l0, if_pos (.inl (by omega))]
    rfl
theorem walk_is {te0 : Bool} (h0 : opt 0 = [(0, te0)]) (hle : ∀ l r, r ∈ opt l → r.1 ≤ l) {name : Str} (hn : Names name) {n : Nat} : ∀ (rest : Rep) (a : Rep) (left : Nat), Inv sz ro eo name n left a →
    walk sz ro eo te name opt a left (rn sz ro eo a) rest = (alw opt left rest && isF sz ro eo te name n (a ++ rest))
  | [], a, left, i => by
    rw [List.append_nil]
    show shown sz ro eo te name a left (rn sz ro eo a) = (true && _)
    rw [Bool.true_and]
    exact shown_end hn i
  | r :: rs, a, left, i => by
    unfold walk
    by_cases c1 : (rn sz ro eo a).st = true ∨ r ∉ opt left
    · rw [if_pos c1]
      rcases c1 with c1 | c1
      · rw [isF_stop c1, Bool.and_false]
      · have : alw opt left (r :: rs) = false := by
          unfold alw
          rw [decide_eq_false c1, Bool.false_and]
        rw [this, Bool.false_and]
    rw [if_neg c1]
    have st0 : (rn sz ro eo a).st = false := by
      cases h : (rn sz ro eo a).st with
      | true => exact absurd (.inl h) c1
      | false => rfl
    have hr : r ∈ opt left := Decidable.of_not_not fun z => c1 (.inr z)
    by_cases c2 : a ≠ [] ∧ shown sz ro eo te name a left (rn sz ro eo a) = true
    · rw [if_pos c2]
      cases hal : alw opt left (r :: rs) with
      | false => rfl
      | true => rw [isF_seen h0 hn c2.1 c2.2 hal, Bool.and_false]
    rw [if_neg c2, ← rn_snoc]
    have le := hle _ _ hr
    obtain ⟨u1, u2⟩ := st_used r st0
    have ic := i.c
    have nshown : a = [] ∨ shown sz ro eo te name a left (rn sz ro eo a) = false := by
      by_cases z : a = []
      · exact .inl z
      · refine .inr ?_
        cases h : shown sz ro eo te name a left (rn sz ro eo a) with
        | false => rfl
        | true => exact absurd ⟨z, h⟩ c2
    have ih := walk_is h0 hle hn (n := n) rs (a ++ [r]) (left - r.1) ⟨by rw [cnt_app, cnt_one]; omega, by rw [u2, cnt_app, cnt_one, i.f], by rw [u1, i.u, List.length_append, List.length_singleton], fun e => ?_, fun e => ?_, fun e => ?_⟩
    · rw [ih, List.append_assoc, List.singleton_append, show alw opt left (r :: rs) = (decide (r ∈ opt left) && alw opt (left - r.1) rs) from rfl, decide_eq_true hr, Bool.true_and]
    · rw [List.dropLast_concat]
      rcases nshown with rfl | h
      · exact fun z => (nomatch z)
      · subst e
        unfold shown at h
        rw [if_neg (show ¬ ("filled" : Str) = "whole" by decide +kernel), if_pos rfl] at h
        exact of_decide_eq_false h
    · rw [List.dropLast_concat]
      rcases nshown with rfl | h
      · rfl
      · subst e
        unfold shown at h
        rw [if_neg (show ¬ ("even" : Str) = "whole" by decide +kernel), if_neg (show ¬ ("even" : Str) = "filled" by decide +kernel), if_pos rfl, unev_same] at h
        exact h
    · rw [List.dropLast_concat]
      rcases nshown with rfl | h
      · rfl
      · have hq := i.qu e
        subst e
        unfold shown at h
        rw [if_neg (show ¬ ("quiet" : Str) = "whole" by decide +kernel), if_neg (show ¬ ("quiet" : Str) = "filled" by decide +kernel), if_neg (show ¬ ("quiet" : Str) = "even" by decide +kernel), if_pos rfl, st0] at h
        have h : toldR a = false := by simpa using h
        by_cases z : a = []
        · rw [z]; rfl
        · obtain ⟨a', r', rfl⟩ := snoc_of z
          rw [told_snoc] at h
          rw [List.dropLast_concat] at hq
          rw [List.any_append, hq]
          simp [h]
theorem inv0 (name : Str) (n : Nat) : Inv sz ro eo name n n [] := ⟨Nat.zero_add n, rfl, rfl, fun _ z => (nomatch z), fun _ => rfl, fun _ => rfl⟩
theorem isF_nil {name : Str} (hn : Names name) {n : Nat} (h : name ≠ "ends" ∨ 0 < n) : isF sz ro eo te name n [] = false := by
  rcases hn with rfl | rfl | rfl | rfl | rfl
  · rfl
  · rfl
  · rfl
  · rfl
  · rcases h with h | h
    · exact absurd rfl h
    · show (if _ < _ then false else _) = false
      rw [if_neg (show ¬ (rn sz ro eo []).u < ([] : Rep).length from Nat.lt_irrefl 0), if_neg (show ¬ ("ends" : Str) = "quiet" by decide +kernel), if_pos rfl]
      unfold brN
      rw [if_pos (.inl (by show 0 ≠ n; omega))]
/-- the two words agree -/
theorem is_paper {te0 : Bool} (h0 : opt 0 = [(0, te0)]) (hle : ∀ l r, r ∈ opt l → r.1 ≤ l) {name : Str} (hn : Names name) (n : Nat) (rs : Rep) : isP sz ro eo te name opt n rs = (alw opt n rs && isF sz ro eo te name n rs) := by
  unfold isP
  by_cases c : rs = [] ∧ (name ≠ "ends" ∨ 0 < n)
  · rw [if_pos c, c.1, isF_nil hn c.2, Bool.and_false]
  · rw [if_neg c]
    exact walk_is h0 hle hn rs [] n (inv0 name n)
end
/-! ### going on for ever, as the law sees it -/
def evL (sz : Nat) (ro eo : List (Str × Str)) (te : Bool) : Nat → List (List Int) → WS → Bool
  | 0, _, s => !s.st
  | k + 1, seen, s => if s.st = true then false else if s.x.rest ∈ seen then true else evL sz ro eo te k (seen ++ [s.x.rest]) (ansS sz ro eo [] te s)
section
variable {sz : Nat} {ro eo : List (Str × Str)} {te : Bool}
theorem ans_suffix (x : RP) (h : (ansM sz ro eo [] te x).2 = false) : ∃ d, (ansM sz ro eo [] te x).1.rest = x.rest.drop d := by
  unfold ansM at h ⊢
  by_cases c : (runW sz [] te ro x).2 = true
  · rw [if_pos c] at h; cases h
  · rw [if_neg c]
    exact run_suffix sz te ro x
/-- the rests that were seen: the last one is behind `s`, the others are longer -/
theorem ev_same (z : 1 ≤ sz) : ∀ (k k' : Nat) (m : Option Nat) (seen : List (List Int)) (s : WS),
    (match m with | none => seen = [] | some l => ∃ q ∈ seen, q.length = l ∧ (∃ d, s.st = false → s.x.rest = q.drop d) ∧ ∀ q' ∈ seen, l ≤ q'.length) →
    (s.st = false → rk sz s.x.rest.length + 1 + (if some s.x.rest.length = m then 0 else 1) ≤ k) → k ≤ k' → evL sz ro eo te k' seen s = !(noS sz ro eo te k m s).st
  | 0, k', m, seen, s, _, hk, _ => by
    cases h : s.st with
    | false =>
      have := hk h
      omega
    | true =>
      rw [show noS sz ro eo te 0 m s = s from rfl, h]
      cases k' with
      | zero => show (!s.st) = _; rw [h]
      | succ k' => show (if s.st = true then false else _) = _; rw [if_pos h]; rfl
  | k + 1, k', m, seen, s, hm, hk, hkk => by
    obtain ⟨k', rfl⟩ : ∃ j, k' = j + 1 := ⟨k' - 1, by omega⟩
    show (if s.st = true then false else if s.x.rest ∈ seen then true else evL sz ro eo te k' (seen ++ [s.x.rest]) (ansS sz ro eo [] te s)) = !(if s.st = true then s else if some s.x.rest.length = m then s else noS sz ro eo te k (some s.x.rest.length) (ansS sz ro eo [] te s)).st
    cases h : s.st with
    | true => rw [if_pos rfl, if_pos rfl, h]; rfl
    | false =>
      simp only [Bool.false_eq_true, if_false]
      have hin : s.x.rest ∈ seen ↔ some s.x.rest.length = m := by
        cases m with
        | none =>
          rw [show seen = [] from hm]
          exact ⟨fun q => (nomatch q), fun q => (nomatch q)⟩
        | some l =>
          obtain ⟨q, hq, lq, ⟨d, e⟩, mn⟩ := hm
          have e := e h
          refine ⟨fun q' => ?_, fun q' => ?_⟩
          · have a := mn _ q'
            have b : s.x.rest.length ≤ l := by rw [e, List.length_drop]; omega
            rw [show s.x.rest.length = l by omega]
          · have q' := Option.some.inj q'
            have l2 : (q.drop d).length = q.length := by rw [← e]; omega
            rw [List.length_drop] at l2
            have : q.drop d = q := by
              by_cases d0 : d = 0
              · rw [d0]; rfl
              · have : q = [] := List.eq_nil_of_length_eq_zero (by omega)
                rw [this, List.drop_nil]
            rw [e, this]
            exact hq
      by_cases c : some s.x.rest.length = m
      · rw [if_pos (hin.mpr c), if_pos c, h]; rfl
      · rw [if_neg (fun q => c (hin.mp q)), if_neg c]
        refine ev_same z k k' (some s.x.rest.length) (seen ++ [s.x.rest]) (ansS sz ro eo [] te s) ⟨s.x.rest, List.mem_append_right _ (List.mem_singleton.mpr rfl), rfl, ?_, fun q' hq' => ?_⟩ (fun h2 => ?_) (by omega)
        · by_cases h2 : (ansM sz ro eo [] te s.x).2 = false
          · obtain ⟨d, e⟩ := ans_suffix s.x h2
            exact ⟨d, fun _ => e⟩
          · exact ⟨0, fun q => absurd q h2⟩
        · rcases List.mem_append.mp hq' with hq' | hq'
          · cases m with
            | none =>
              rw [show seen = [] from hm] at hq'
              cases hq'
            | some l =>
              obtain ⟨q, hq, lq, ⟨d, e⟩, mn⟩ := hm
              have e := e h
              have a := mn _ hq'
              have b : s.x.rest.length ≤ l := by rw [e, List.length_drop]; omega
              omega
          · rw [List.mem_singleton.mp hq']
            exact Nat.le_refl _
        · have a := hk h
          rw [if_neg c] at a
          have h2 : (ansM sz ro eo [] te s.x).2 = false := h2
          rcases rk_down z (no_rest h2) with b | b
          · show rk sz (ansM sz ro eo [] te s.x).1.rest.length + 1 + (if some (ansM sz ro eo [] te s.x).1.rest.length = some s.x.rest.length then 0 else 1) ≤ k
            rw [b, if_pos rfl]
            omega
          · show rk sz (ansM sz ro eo [] te s.x).1.rest.length + 1 + (if some (ansM sz ro eo [] te s.x).1.rest.length = some s.x.rest.length then 0 else 1) ≤ k
            split <;> omega
theorem ev_is (z : 1 ≤ sz) (s : RS') : evL sz ro eo te 90 [] ⟨s.x, s.u, s.st⟩ = evP sz ro eo te s := ev_same z 4 90 none [] _ rfl (fun _ => by have := rk_le sz s.x.rest.length; rw [if_neg (by intro z; cases z)]; show rk sz s.x.rest.length + 1 + 1 ≤ 4; omega) (by decide)
end
end FJ

/-! Loop.execution, Loop.run -/
namespace My
open PySem L2 Cm LM EM
abbrev sLX : Stmt := inClass (top 57) 8
abbrev sLT : Stmt := inClass (top 57) 7
/-! ### the mirror -/
def itemsF (f c : Nat) : List Int := (List.range c).map fun i => (f : Int) + (i : Nat)
theorem itemsF_len (f c : Nat) : (itemsF f c).length = c := by rw [itemsF, List.length_map, List.length_range]
theorem rgV_items (f c : Nat) : rgV (f : Int) ((f : Int) + (c : Int)) = ivs (itemsF f c) := by
  unfold rgV itemsF ivs
  rw [show ((f : Int) + (c : Int) - (f : Int)).toNat = c by omega, List.map_map]
  rfl
/-- what a run has done: the row, the first item that comes next, the replies used, whether it has stopped -/
structure RS where
  x : RP
  f : Nat
  u : Nat
  st : Bool
def stepM (sz : Nat) (ro eo : List (Str × Str)) (s : RS) (r : Nat × Bool) : RS := if s.st = true then s else ⟨(ansM sz ro eo (itemsF s.f r.1) r.2 s.x).1, s.f + r.1, s.u + 1, (ansM sz ro eo (itemsF s.f r.1) r.2 s.x).2⟩
def runM (sz : Nat) (ro eo : List (Str × Str)) (rs : List (Nat × Bool)) : RS := rs.foldl (stepM sz ro eo) ⟨⟨[], []⟩, 0, 0, false⟩
theorem runM_stop {sz : Nat} {ro eo : List (Str × Str)} : ∀ {rs : List (Nat × Bool)} {s : RS}, s.st = true → rs.foldl (stepM sz ro eo) s = s
  | [], _, _ => rfl
  | r :: rs, s, h => by
    rw [List.foldl_cons, show stepM sz ro eo s r = s by unfold stepM; rw [if_pos h]]
    exact runM_stop h
theorem fold_bound {sz : Nat} {ro eo : List (Str × Str)} (hs : 1 ≤ sz) (l1 : ro.length ≤ 12) (l2 : eo.length ≤ 6) : ∀ (rs : List (Nat × Bool)) (k : Nat) (s : RS), k + rs.length ≤ 100 → (∀ r ∈ rs, r.1 ≤ sz) → Few sz (18 * k) (k * 32724) s.x → s.f ≤ k * sz → s.u ≤ k →
    Few sz (18 * (k + rs.length)) ((k + rs.length) * 32724) (rs.foldl (stepM sz ro eo) s).x ∧ (rs.foldl (stepM sz ro eo) s).f ≤ (k + rs.length) * sz ∧ (rs.foldl (stepM sz ro eo) s).u ≤ k + rs.length
  | [], k, s, _, _, f1, f2, f3 => ⟨f1, f2, f3⟩
  | r :: rs, k, s, hn, hr, f1, f2, f3 => by
    rw [List.length_cons] at hn
    have em : (k + 1) * sz = k * sz + sz := Nat.succ_mul _ _
    have hr1 : r.1 ≤ sz := hr r (List.mem_cons_self ..)
    have st : Few sz (18 * (k + 1)) ((k + 1) * 32724) (stepM sz ro eo s r).x ∧ (stepM sz ro eo s r).f ≤ (k + 1) * sz ∧ (stepM sz ro eo s r).u ≤ k + 1 := by
      unfold stepM
      split
      · exact ⟨f1.mono (by omega) (by omega), by omega, by omega⟩
      · refine ⟨?_, by show s.f + r.1 ≤ _; omega, by show s.u + 1 ≤ _; omega⟩
        have := few_ans (ro := ro) (eo := eo) (held := itemsF s.f r.1) (told := r.2) hs (by rw [itemsF_len]; exact hr1) l1 l2 f1
        exact this.mono (by omega) (by omega)
    have ih := fold_bound hs l1 l2 rs (k + 1) (stepM sz ro eo s r) (by omega) (fun q hq => hr q (List.mem_cons_of_mem _ hq)) st.1 st.2.1 st.2.2
    rw [List.foldl_cons, List.length_cons, show k + (rs.length + 1) = k + 1 + rs.length by omega]
    exact ih
theorem runM_bound {sz : Nat} {ro eo : List (Str × Str)} (hs : 1 ≤ sz) (l1 : ro.length ≤ 12) (l2 : eo.length ≤ 6) (rs : List (Nat × Bool)) (hn : rs.length ≤ 100) (hr : ∀ r ∈ rs, r.1 ≤ sz) :
    Few sz (18 * rs.length) (rs.length * 32724) (runM sz ro eo rs).x ∧ (runM sz ro eo rs).f ≤ rs.length * sz ∧ (runM sz ro eo rs).u ≤ rs.length := by
  have := fold_bound (ro := ro) (eo := eo) hs l1 l2 rs 0 ⟨⟨[], []⟩, 0, 0, false⟩ (by omega) hr ⟨Nat.zero_le _, Nat.zero_le _⟩ (Nat.zero_le _) (Nat.zero_le _)
  rw [Nat.zero_add] at this
  exact this
/-- rows of replies -/
inductive Rps (H : Hp) : List V → List (Nat × Bool) → Prop
  | nil : Rps H [] []
  | cons {q : Addr} {r : Nat × Bool} {vs : List V} {rs : List (Nat × Bool)} (h : H q = some (.tup [.int r.1, .bl r.2])) (t : Rps H vs rs) : Rps H (.ref q :: vs) (r :: rs)
theorem Rps.mono {H H' : Hp} (f : ∀ (p : Addr) (xs : List V), H p = some (.tup xs) → H' p = some (.tup xs)) : ∀ {vs rs}, Rps H vs rs → Rps H' vs rs
  | _, _, .nil => .nil
  | _, _, .cons h t => .cons (f _ _ h) (t.mono f)
theorem Rps.same {H H' : Hp} (s : Same H H') {vs rs} (h : Rps H vs rs) : Rps H' vs rs := h.mono fun _ _ e => s _ _ e
theorem Rps.len {H : Hp} : ∀ {vs rs}, Rps H vs rs → vs.length = rs.length
  | _, _, .nil => rfl
  | _, _, .cons _ t => congrArg (· + 1) t.len
theorem Rps.get {H : Hp} : ∀ {vs rs} {i : Nat} {y : V}, Rps H vs rs → vs[i]? = some y → ∃ (q : Addr) (r : Nat × Bool), rs[i]? = some r ∧ y = .ref q ∧ H q = some (.tup [.int r.1, .bl r.2])
  | _, _, i, y, .nil, h => by simp at h
  | _, _, 0, y, .cons h _, e => ⟨_, _, rfl, (Option.some.inj e).symm, h⟩
  | _, _, i + 1, y, .cons _ t, e => t.get (i := i) e
theorem Rps.good {K : PySem.W.Frag} {H : Hp} {m : Nat} : ∀ {vs rs}, Rps H vs rs → (∀ r ∈ rs, r.1 ≤ m) → ∃ bs, RepVs K H (m : Int) vs bs ∧ ∀ b ∈ bs, b = true
  | _, _, .nil, _ => ⟨[], .nil, fun b h => nomatch h⟩
  | _, _, .cons (r := r) h t, hr => by
    obtain ⟨bs, h1, h2⟩ := t.good (K := K) fun q hq => hr q (List.mem_cons_of_mem _ hq)
    have h3 := hr r (List.mem_cons_self ..)
    refine ⟨_, .cons (.pair h (typed_int _) (typed_bl _)) h1, fun b hb => ?_⟩
    rcases List.mem_cons.mp hb with rfl | hb
    · show (decide ((0 : Int) ≤ (r.1 : Int) ∧ (r.1 : Int) ≤ (m : Int)) && true) = true
      rw [decide_eq_true ⟨by omega, by omega⟩]
      rfl
    · exact h2 b hb
structure TxN (K : PySem.W.Frag) (mg : Str → Option Value) where
  T : TxC K mg
  X : TxX K mg
  k : TxK K mg
  lx : Mt K T.C "execution" "Loop.execution" sLX ["self", "size", "kept"]
  lt : Mt K T.C "work_through" "Loop.work_through" sLT ["self", "size", "replies"]
theorem fold_of {sz : Nat} {ro eo : List (Str × Str)} : ∀ (rs : List (Nat × Bool)) (s : RS), rs.foldl (CoM.stp sz ro eo) ⟨s.x, s.f, s.u, s.st⟩ = ⟨(rs.foldl (stepM sz ro eo) s).x, (rs.foldl (stepM sz ro eo) s).f, (rs.foldl (stepM sz ro eo) s).u, (rs.foldl (stepM sz ro eo) s).st⟩
  | [], _ => rfl
  | r :: rs, s => by
    have e : CoM.stp sz ro eo ⟨s.x, s.f, s.u, s.st⟩ r = ⟨(stepM sz ro eo s r).x, (stepM sz ro eo s r).f, (stepM sz ro eo s r).u, (stepM sz ro eo s r).st⟩ := by
      unfold CoM.stp stepM
      by_cases c : s.st = true
      · rw [if_pos c, if_pos c]
      · rw [if_neg c, if_neg c]
        rfl
    rw [List.foldl_cons, List.foldl_cons, e]
    exact fold_of rs _
theorem rn_of {sz : Nat} {ro eo : List (Str × Str)} (rs : List (Nat × Bool)) : FJ.rn sz ro eo rs = ⟨(runM sz ro eo rs).x, (runM sz ro eo rs).f, (runM sz ro eo rs).u, (runM sz ro eo rs).st⟩ := fold_of rs ⟨⟨[], []⟩, 0, 0, false⟩
def ordsR (t : Str) : List (Str × Str) := (wordsR t).map orderOf
def ordsE (t : Str) : List (Str × Str) := (wordsE t).map orderOf
section
variable {P : Program} {w : World} {K : PySem.W.Frag} {mg : Str → Option Value} {base : Heap}
def spLX (CL CX : Addr) : Sp := fun vs H Q _ => ∃ (o r : Addr) (t : Str) (sz : Nat) (rest : List Int), vs = [.ref o, .int sz, .ref r] ∧ LoopAt CL H o t ∧ H r = some (.tup (ivs rest)) ∧
  ∀ (H' : Hp) (x dx ro eo p : Addr), Same H H' → H x = none → H p = none → ExAt CX H' x dx ro eo p 0 sz [] false ⟨rest, []⟩ false → OrdT H' ro (ordsR t) → OrdT H' eo (ordsE t) → Q (.ref x) H'
theorem scLX : FnScope ["self", "size", "kept"] ["self", "size", "kept"] (defScope sLX) := ⟨rfl, rfl, rfl, by decide +kernel, rfl, by decide +kernel, by decide +kernel⟩
theorem ok_lx (N : TxN K mg) : FnOk P w K mg base CX0 3 N.lx.f N.lx.fd ["self", "size", "kept"] (spLX N.T.C N.X.C) := by
  have GI : FnOk P w K mg base CX0 1 N.X.fI N.X.fdI ["self", "round_orders", "ending_orders", "size", "kept"] (spXI N.X.C) := ok_xi N.X
  refine N.lx.F.ok scLX (fun vs H Q E h => ?_) (fun cdv A outer s H vs Q E hr h => ?_)
  · obtain ⟨o, r, t, sz, rest, rfl, _⟩ := h
    rfl
  · obtain ⟨o, r, t, sz, rest, rfl, ⟨dx, pr, pe, po, pq, e, _, _, h1, h2⟩, hr', k⟩ := h
    refine ⟨_, pss_one (ps_ret (pe_make N.X.MI GI hr rfl N.X.gC N.X.bI .nil pass0 (pa_cons (pe_fld (pv 0) rfl) (pa_cons (pe_fld (pv 0) rfl) (pa_cons (pv 1) (pa_cons (pv 2) pa_nil)))))), ?_⟩
    refine ⟨_, rfl, o, N.T.C, dx, _, _, rfl, e, N.T.cl, N.T.nO, lf_ro .., _, rfl, o, N.T.C, dx, _, _, rfl, e, N.T.cl, N.T.nQ, lf_eo .., _, rfl, _, rfl, ?_⟩
    intro x dx' nx ndx nex
    refine ⟨x, dx', po, pq, r, sz, rest, rfl, upd_same, ?_, fun H2 p o2 np X2 => ⟨rfl, ?_⟩⟩
    · rw [upd_ne (ne_of_none hr' nx), upd_ne (ne_of_none hr' ndx)]
      exact hr'
    · have s2 := made_same nx ndx o2
      have np0 : H p = none := by
        by_cases e1 : p = x
        · rw [e1]; exact nx
        · rw [upd_ne e1] at np
          by_cases e2 : p = dx'
          · rw [e2]; exact ndx
          · rw [upd_ne e2] at np
            exact np
      exact k H2 x dx' po pq p s2 nx np0 X2 (h1.mono fun _ _ z => s2 _ _ z) (h2.mono fun _ _ z => s2 _ _ z)
/-! ### run -/
theorem off2_same {o p : Addr} {H0 H H' : Hp} (s : Same H0 H) (no : H0 o = none) (np : H0 p = none) (a : Off2 o p H H') : Same H0 H' := fun b u e => a b u (ne_of_none e no) (ne_of_none e np) (s b u e)
theorem firstF_not {bs : List Bool} {i : Nat} (h : firstF bs i) : ¬ ∀ b ∈ bs, b = true := fun z => by
  have := z false (List.mem_of_getElem? h.1)
  cases this
theorem firstF_uniq {bs : List Bool} {i j : Nat} (h1 : firstF bs i) (h2 : firstF bs j) : i = j := by
  rcases Nat.lt_trichotomy i j with h | h | h
  · have := h2.2 i h
    rw [h1.1] at this
    cases this
  · exact h
  · have := h1.2 j h
    rw [h2.1] at this
    cases this

/-! ### work_through -/
def spLT (CL CX : Addr) : Sp := fun vs H Q _ => ∃ (o p : Addr) (t : Str) (n : Nat) (xs : List V) (rs : List (Nat × Bool)), vs = [.ref o, .int n, .ref p] ∧ LoopAt CL H o t ∧ goodText t = true ∧ 1 ≤ n ∧ n ≤ 1000 ∧ H p = some (.tup xs) ∧ Rps H xs rs ∧ rs.length ≤ 100 ∧ (∀ r ∈ rs, r.1 ≤ n) ∧
  ∀ (H' : Hp) (x dx ro eo pp : Addr) (hd : List Int) (tl : Bool), tl = FJ.toldR (rs.take (FJ.rn n (ordsR t) (ordsE t) rs).u) → Same H H' → H x = none → H pp = none → ExAt CX H' x dx ro eo pp (FJ.rn n (ordsR t) (ordsE t) rs).u n hd tl (FJ.rn n (ordsR t) (ordsE t) rs).x (FJ.rn n (ordsR t) (ordsE t) rs).st → OrdT H' ro (ordsR t) → OrdT H' eo (ordsE t) → Q (.ref x) H'
theorem scLT : FnScope ["self", "size", "replies", "work", "first", "count", "told"] ["self", "size", "replies"] (defScope sLT) := ⟨rfl, rfl, rfl, by decide +kernel, rfl, by decide +kernel, by decide +kernel⟩
theorem ok_lt (N : TxN K mg) : FnOk P w K mg base CX0 5 N.lt.f N.lt.fd ["self", "size", "replies"] (spLT N.T.C N.X.C) := by
  have GX : FnOk P w K mg base CX0 3 N.lx.f N.lx.fd ["self", "size", "kept"] (spLX N.T.C N.X.C) := ok_lx N
  have GA : FnOk P w K mg base CX0 4 N.X.an.f N.X.an.fd ["self", "held", "told"] (spXA N.X.C) := ok_xa N.X
  refine N.lt.F.ok scLT (fun vs H Q E h => ?_) (fun cdv A outer s H vs Q E hr h => ?_)
  · obtain ⟨o, p, t, n, xs, rs, rfl, _⟩ := h
    rfl
  · obtain ⟨o, p, t, n, xs, rs, rfl, hO, g, n1, n2, hp, hR, hl, hc, k⟩ := h
    have hr3 : Room 3 _ := hr.mono (by decide)
    refine ⟨_, pss_cons (ps_set (i := 3) scLT.nd rfl (.inl rfl) (pe_meth (pv 0) N.T.cl N.lx.m GX hr3 N.lx.b .nil pass0 (pa_cons (pv 1) (pa_cons (pe_tup pa_nil) pa_nil))))
      (pss_cons (ps_set (i := 4) scLT.nd rfl (.inl rfl) pe_int)
      (pss_cons (ps_for PassesOwn.never rfl (pi_tup (pv 2)) (pg_tup rfl (pgs_cons (pg_name (i := 5) scLT.nd rfl (.inl rfl)) (pgs_cons (pg_name (i := 6) scLT.nd rfl (.inl rfl)) pgs_nil)))
        (pss_cons (ps_if (pt_val (pe_fld (pv 3) rfl)) (pss_one ps_break) pss_nil)
        (pss_cons (ps_expr (pe_meth (pv 3) N.X.cl N.X.an.m GA hr N.X.an.b .nil pass0 (pa_cons (pe_tupRg rfl rfl N.k.tuple (prg_2 rfl N.X.range (pv 4) (pe_op op_add (pv 4) (pv 5)))) (pa_cons (pv 6) pa_nil))))
        (pss_one (ps_aug (i := 4) scLT.nd rfl (.inl rfl) (pv 5) ip_add)))))
      (pss_one (ps_ret (pv 3))))), ?_⟩
    have lx := hR.len
    obtain ⟨dx, pr, pe, po, pq, e1, _⟩ := id hO
    refine ⟨_, rfl, o, dx, _, rfl, e1, lf_no _ _ _ _ _ (by decide +kernel) (by decide +kernel) (by decide +kernel) (by decide +kernel) (by decide +kernel), _, rfl, Nat.zero_le _, fun t0 nt0 => ?_⟩
    have s2 : Same H (upd H t0 (.tup [])) := same_new nt0
    refine ⟨o, t0, t, n, [], rfl, hO.same s2, upd_same, fun H3 x dxx ro eo pp s3 nx np X3 hRo hEo => ?_⟩
    have s03 := Same.trans s2 s3
    have nx0 := s2.free nx
    have np0 := s2.free np
    have hp3 := s03 _ _ hp
    have hR3 := hR.same s03
    have gn := good_iff.mp g
    have lR : (ordsR t).length ≤ 12 := by rw [ordsR, List.length_map]; exact (round_sht gn.1).2
    have lE : (ordsE t).length ≤ 6 := by rw [ordsE, List.length_map]; exact (ending_sht gn.2).2
    refine ⟨_, rfl, p, rfl, ⟨_, SqT.of hp3⟩, ?_⟩
    -- what follows the loop
    have fin : ∀ (H' : Hp) (S : RS) (hd : List Int) (tl : Bool), Off2 x pp H3 H' → ExAt N.X.C H' x dxx ro eo pp S.u n hd tl S.x S.st → S = runM n (ordsR t) (ordsE t) rs → tl = FJ.toldR (rs.take S.u) → Q (.ref x) H' := by
      rintro H' S hd tl o1 X1 rfl eT
      rw [rn_of] at k
      exact k H' x dxx ro eo pp hd tl eT (off2_same s03 nx0 np0 o1) nx0 np0 X1 (hRo.ts (o1.ts X3)) (hEo.ts (o1.ts X3))
    refine for_tup (K := K) (a := p) (xs := xs) (fun i σ H' => ∃ (v6 v7 : Option V) (S : RS) (hd : List Int) (tl : Bool), σ = [some (.ref o), some (.int n), some (.ref p), some (.ref x), some (.int S.f), v6, v7] ∧ Off2 x pp H3 H' ∧ ExAt N.X.C H' x dxx ro eo pp S.u n hd tl S.x S.st ∧ S = runM n (ordsR t) (ordsE t) (rs.take i) ∧ (S.st = false → S.u = i) ∧ tl = FJ.toldR (rs.take S.u)) ⟨none, none, ⟨⟨[], []⟩, 0, 0, false⟩, [], false, rfl, Off2.refl, X3, rfl, fun _ => rfl, rfl⟩ (fun i σ H' _ ⟨_, _, _, _, _, _, o1, _⟩ => SqT.of (o1.ts X3 _ _ hp3)) ?_ ?_
    · rintro i y σ H' hy ⟨v6, v7, S, hd, tl, rfl, o1, X1, eS, eU, eT⟩
      obtain ⟨q, rr, hrr, rfl, hq⟩ := hR3.get hy
      have hq1 := o1.ts X3 _ _ hq
      have li : i < rs.length := lt_of_get hrr
      refine ⟨q, _, rfl, SqT.of hq1, rfl, _, _, rfl, _, _, rfl, rfl, ?_⟩
      obtain ⟨h1, r1, vs1, ee1, _⟩ := id X1.ex
      refine ⟨_, rfl, x, N.X.C, dxx, _, _, rfl, ee1, N.X.cl, N.X.nSt, xf_st .., _, rfl, ?_⟩
      have tk : rs.take (i + 1) = rs.take i ++ [rr] := take_snoc hrr
      have eN : runM n (ordsR t) (ordsE t) (rs.take (i + 1)) = stepM n (ordsR t) (ordsE t) S rr := by
        rw [tk, eS]
        unfold runM
        rw [List.foldl_append]
        rfl
      cases hst : S.st with
      | true =>
        refine iteT ?_
        have eA : S = runM n (ordsR t) (ordsE t) rs := by
          have e5 : runM n (ordsR t) (ordsE t) rs = (rs.drop i).foldl (stepM n (ordsR t) (ordsE t)) S := by
            rw [eS]
            unfold runM
            rw [← List.foldl_append, List.take_append_drop]
          rw [e5, runM_stop hst]
        exact ⟨_, rfl, fin H' S hd tl o1 X1 eA eT⟩
      | false =>
        refine iteF ?_
        have bd := runM_bound (ro := ordsR t) (eo := ordsE t) n1 lR lE (rs.take i) (by rw [List.length_take]; omega) fun q hq => hc q (List.mem_of_mem_take hq)
        rw [← eS] at bd
        have lt : (rs.take i).length ≤ 99 := by rw [List.length_take]; omega
        have c1 : rr.1 ≤ n := hc rr (List.mem_of_getElem? hrr)
        have f1 : S.f ≤ 99 * 1000 := Nat.le_trans bd.2.1 (Nat.mul_le_mul lt n2)
        refine ⟨_, rfl, x, dxx, _, rfl, ee1, (xf_noA ..).1, _, rfl, _, rfl, _, rfl, _, _, rfl, rfl, _, _, rfl, rfl, RgOk.of_le (by omega) (by omega) (by omega) (by omega), fun z nz => ?_⟩
        rw [rgV_items]
        have s4 : Same H' (upd H' z (.tup (ivs (itemsF S.f rr.1)))) := same_new nz
        rw [hst] at X1
        refine ⟨_, rfl, x, dxx, ro, eo, pp, z, _, n, hd, itemsF S.f rr.1, tl, rr.2, S.x, ordsR t, ordsE t, 18 * 99, 99 * 32724, rfl, X1.same s4, upd_same, (hRo.ts (o1.ts X3)).ts fun _ _ e => s4 _ _ e, (hEo.ts (o1.ts X3)).ts fun _ _ e => s4 _ _ e, lR, lE, ⟨n1, n2, by rw [itemsF_len]; exact c1, by decide, by decide, bd.1.mono (Nat.mul_le_mul_left _ lt) (Nat.mul_le_mul_right _ lt)⟩, by decide, by decide, fun H5 o5 X5 => ?_⟩
        refine ⟨_, rfl, _, rfl, _, _, rfl, rfl, ?_⟩
        have eN2 : stepM n (ordsR t) (ordsE t) S rr = ⟨(ansM n (ordsR t) (ordsE t) (itemsF S.f rr.1) rr.2 S.x).1, S.f + rr.1, S.u + 1, (ansM n (ordsR t) (ordsE t) (itemsF S.f rr.1) rr.2 S.x).2⟩ := by
          unfold stepM
          rw [if_neg (by rw [hst]; exact Bool.false_ne_true)]
        refine ⟨some (.int rr.1), some (.bl rr.2), _, itemsF S.f rr.1, rr.2, ?_, (fun b u b1 b2 e => o5 b u b1 b2 (s4 _ _ (o1 b u b1 b2 e))), X5, (eN.trans eN2).symm, fun _ => by show S.u + 1 = i + 1; rw [eU hst], by show rr.2 = FJ.toldR (rs.take (S.u + 1)); rw [eU hst, tk, FJ.told_snoc]⟩
        rfl
    · rintro σ H' ⟨v6, v7, S, hd, tl, rfl, o1, X1, eS, eU, eT⟩
      rw [lx, List.take_length] at eS
      exact ⟨_, rfl, fin H' S hd tl o1 X1 eS eT⟩
end
end My

/-! kinds of sources: check_word, Source.__init__, Source.__repr__ -/
namespace My
open PySem L2 Cm LM
abbrev sQW : Stmt := top 62
abbrev sUI : Stmt := inClass (top 64) 0
abbrev sUR : Stmt := inClass (top 64) 3
def sfU (A B E : Str) : List (Str × V) := [("amount", .str A), ("patience", .str B), ("end", .str E)]
/-- a kind of sources stands at o -/
def SrcU (C : Addr) (H : Hp) (o : Addr) (A B E : Str) : Prop := ∃ dx, H o = some (.ins C dx (sfU A B E))
theorem SrcU.same {C : Addr} {H H' : Hp} {o : Addr} {A B E : Str} (s : Same H H') (h : SrcU C H o A B E) : SrcU C H' o A B E := let ⟨dx, e⟩ := h; ⟨dx, s _ _ e⟩
structure TxU (K : PySem.W.Frag) (mg : Str → Option Value) where
  isi : mg "isinstance" = none
  str : mg "str" = none
  pA : Addr
  pP : Addr
  pE : Addr
  gA : mg "AMOUNTS" = some (.ref pA)
  gP : mg "PATIENCES" = some (.ref pP)
  gE : mg "ENDS" = some (.ref pE)
  lA : ∀ H, SqT K H pA [.str "exact", .str "short"]
  lP : ∀ H, SqT K H pP [.str "prompt", .str "waiting"]
  lE : ∀ H, SqT K H pE [.str "empty", .str "with", .str "behind"]
  ckw : Df K mg "check_word" sQW ["word", "words"]
  C : Addr
  gC : mg "Source" = some (.ref C)
  cl : Cls K C
  nA : NoAttr K C "amount"
  nP : NoAttr K C "patience"
  nE : NoAttr K C "end"
  fI : Addr
  fdI : FuncData
  FI : Fun K "__init__" "Source.__init__" sUI fI fdI
  bI : Binds K fdI ["self", "amount", "patience", "end"] []
  MI : Mk K C fI
  ur : Sm K C "__repr__" "Source.__repr__" sUR ["self"]
  y1 : PySem.W.findIn K (.ref C) "__class__" = some (some (.builtin "object.__class__"))
  y2 : PySem.W.specialIn K (.builtin "object.__class__") "__get__" = some (some (.builtin "getset_descriptor.__get__"))
  y3 : PySem.W.takesIn K (.builtin "object.__class__") = some true
  y4 : PySem.W.mroIn K C (.type "object") = some true
  y5 : PySem.W.kitOne K (.ref C) (.ref C) = some true
section
variable {P : Program} {w : World} {K : PySem.W.Frag} {mg : Str → Option Value} {base : Heap}
theorem SrcU.ty (M : TxU K mg) {H : Hp} {o : Addr} {A B E : Str} (h : SrcU M.C H o A B E) : TyX K H (.ref o) (.ref M.C) := by
  obtain ⟨dx, e⟩ := h
  exact .base (.ins e M.cl M.y1 M.y2 M.y3 M.y4)
/-! ### check_word, __init__ of the right words -/
def spCKW (K : PySem.W.Frag) : Sp := fun vs H Q _ => ∃ (x : Str) (p : Addr) (xs : List V), vs = [.str x, .ref p] ∧ SqT K H p xs ∧ xs.all flatV = true ∧ inV (.str x) xs = true ∧ Q .non H
theorem scQW : FnScope ["word", "words"] ["word", "words"] (defScope sQW) := ⟨rfl, rfl, rfl, by decide +kernel, rfl, by decide +kernel, by decide +kernel⟩
theorem ok_ckw (M : TxU K mg) : FnOk P w K mg base CX0 1 M.ckw.f M.ckw.fd ["word", "words"] (spCKW K) := by
  refine M.ckw.F.ok scQW (fun vs H Q E h => ?_) (fun cdv A outer s H vs Q E hr h => ?_)
  · obtain ⟨x, p, xs, rfl, _⟩ := h
    rfl
  · obtain ⟨x, p, xs, rfl, hp, hf, hi, k⟩ := h
    refine ⟨_, pss_one (ps_if (PW.pt (pw_or (pt_not (pt_val (pe_callB call_isi (by rfl) M.isi (by decide +kernel) (pa_cons (pv 0) (pa_cons (pe_bltn (v := .ty "str") (by rfl) M.str (by decide +kernel) rfl) pa_nil)))))
          (pw_or1 (pt_cmpR op_notIn_seq (pv 0) (pv 1) (by rfl))))) (pss_one ps_never) pss_nil), ?_⟩
    refine ⟨_, rfl, _, _, _, _, true, rfl, .ty "str", .base (.str x), kit_ty (by decide +kernel), true, rfl, iteF ?_⟩
    refine ⟨_, rfl, _, rfl, p, xs, rfl, .inr hp, rfl, hf, _, rfl, ?_⟩
    rw [hi]
    exact iteF k
def isAm (A : Str) : Prop := A = "exact" ∨ A = "short"
def isPa (B : Str) : Prop := B = "prompt" ∨ B = "waiting"
def isEn (E : Str) : Prop := E = "empty" ∨ E = "with" ∨ E = "behind"
def spUI (C : Addr) : Sp := fun vs H Q _ => ∃ (x dx : Addr) (A B E : Str), vs = [.ref x, .str A, .str B, .str E] ∧ isAm A ∧ isPa B ∧ isEn E ∧ H x = some (.ins C dx []) ∧
  ∀ H' : Hp, (∀ b o, b ≠ x → H b = some o → H' b = some o) → H' x = some (.ins C dx (sfU A B E)) → Q .non H'
theorem scUI : FnScope ["self", "amount", "patience", "end"] ["self", "amount", "patience", "end"] (defScope sUI) := ⟨rfl, rfl, rfl, by decide +kernel, rfl, by decide +kernel, by decide +kernel⟩
theorem ok_ui (M : TxU K mg) : FnOk P w K mg base CX0 2 M.fI M.fdI ["self", "amount", "patience", "end"] (spUI M.C) := by
  have G1 : FnOk P w K mg base CX0 1 M.ckw.f M.ckw.fd ["word", "words"] (spCKW K) := ok_ckw M
  refine M.FI.ok scUI (fun vs H Q E h => ?_) (fun cdv A outer s H vs Q E hr h => ?_)
  · obtain ⟨x, dx, A, B, E, rfl, _⟩ := h
    rfl
  · obtain ⟨x, dx, A, B, E, rfl, hA, hB, hE, hx, k⟩ := h
    refine ⟨_, pss_cons (ps_expr (pe_call G1 hr rfl M.ckw.g M.ckw.k M.ckw.b .nil pass0 (pa_cons (pv 1) (pa_cons (pe_glob (v := .ref M.pA) rfl M.gA rfl) pa_nil))))
      (pss_cons (ps_expr (pe_call G1 hr rfl M.ckw.g M.ckw.k M.ckw.b .nil pass0 (pa_cons (pv 2) (pa_cons (pe_glob (v := .ref M.pP) rfl M.gP rfl) pa_nil))))
      (pss_cons (ps_expr (pe_call G1 hr rfl M.ckw.g M.ckw.k M.ckw.b .nil pass0 (pa_cons (pv 3) (pa_cons (pe_glob (v := .ref M.pE) rfl M.gE rfl) pa_nil))))
      (pss_cons (ps_fld (pv 0) (pv 1) rfl) (pss_cons (ps_fld (pv 0) (pv 2) rfl) (pss_one (ps_fld (pv 0) (pv 3) rfl)))))), ?_⟩
    refine ⟨_, rfl, A, M.pA, _, rfl, M.lA _, rfl, ?_, ?_⟩
    · rcases hA with rfl | rfl <;> decide +kernel
    refine ⟨_, rfl, B, M.pP, _, rfl, M.lP _, rfl, ?_, ?_⟩
    · rcases hB with rfl | rfl <;> decide +kernel
    refine ⟨_, rfl, E, M.pE, _, rfl, M.lE _, rfl, ?_, ?_⟩
    · rcases hE with rfl | rfl | rfl <;> decide +kernel
    refine ⟨_, rfl, _, rfl, x, M.C, dx, _, rfl, hx, M.cl, M.nA, (by show 0 < 1000; decide), ?_⟩
    refine ⟨_, rfl, _, rfl, x, M.C, dx, _, rfl, upd_same, M.cl, M.nP, (by show 1 < 1000; decide), ?_⟩
    refine ⟨_, rfl, _, rfl, x, M.C, dx, _, rfl, upd_same, M.cl, M.nE, ?_, ?_⟩
    · exact Nat.lt_of_le_of_lt (putF_len _ _ _) (Nat.lt_of_le_of_lt (Nat.add_le_add_right (putF_len _ _ _) 1) (by decide))
    · refine k _ (fun b o nb e => ?_) upd_same
      rw [upd_ne nb, upd_ne nb, upd_ne nb]
      exact e
theorem uf_am (A B E : Str) : (sfU A B E).lookup ("amount" : Str) = some (.str A) := rfl
theorem uf_pa (A B E : Str) : (sfU A B E).lookup ("patience" : Str) = some (.str B) := rfl
theorem uf_en (A B E : Str) : (sfU A B E).lookup ("end" : Str) = some (.str E) := rfl
/-! ### __repr__ -/
def srS : Str := ("Source(" : Str) ++ "short" ++ " " ++ "prompt" ++ " " ++ "empty" ++ ")"
def spUR (C : Addr) : Sp := fun vs H Q _ => ∃ o : Addr, vs = [.ref o] ∧ SrcU C H o "short" "prompt" "empty" ∧ Q (.str srS) H
theorem scUR : FnScope ["self"] ["self"] (defScope sUR) := ⟨rfl, rfl, rfl, by decide +kernel, rfl, by decide +kernel, by decide +kernel⟩
theorem ok_ur (M : TxU K mg) : FnOk P w K mg base CX0 1 M.ur.f M.ur.fd ["self"] (spUR M.C) := by
  refine M.ur.F.ok scUR (fun vs H Q E h => ?_) (fun cdv A outer s H vs Q E hr h => ?_)
  · obtain ⟨o, rfl, _⟩ := h
    rfl
  · obtain ⟨o, rfl, ⟨dx, e⟩, k⟩ := h
    refine ⟨_, pss_one (ps_ret (pe_joined (.cons pe_str (.cons (pe_fmt (pe_fld (pv 0) rfl)) (.cons pe_str (.cons (pe_fmt (pe_fld (pv 0) rfl)) (.cons pe_str (.cons (pe_fmt (pe_fld (pv 0) rfl)) (.cons pe_str .nil))))))))), ?_⟩
    refine ⟨_, rfl, szl (by decide +kernel), ?_⟩
    refine ⟨_, rfl, o, M.C, dx, _, _, rfl, e, M.cl, M.nA, uf_am .., .inl ⟨"short", rfl, szl (by decide +kernel), _, rfl, szl (by decide +kernel), ?_⟩⟩
    refine ⟨_, rfl, szl (by decide +kernel), ?_⟩
    refine ⟨_, rfl, o, M.C, dx, _, _, rfl, e, M.cl, M.nP, uf_pa .., .inl ⟨"prompt", rfl, szl (by decide +kernel), _, rfl, szl (by decide +kernel), ?_⟩⟩
    refine ⟨_, rfl, szl (by decide +kernel), ?_⟩
    refine ⟨_, rfl, o, M.C, dx, _, _, rfl, e, M.cl, M.nE, uf_en .., .inl ⟨"empty", rfl, szl (by decide +kernel), _, rfl, szl (by decide +kernel), ?_⟩⟩
    refine ⟨_, rfl, szl (by decide +kernel), ?_⟩
    rw [show Str.empty ++ ("Source(" : Str) ++ "short" ++ " " ++ "prompt" ++ " " ++ "empty" ++ ")" = srS by decide +kernel]
    exact k
end
end My

/-! Source.must_tell -/
namespace My
open PySem L2 Cm LM
abbrev sUM : Stmt := inClass (top 64) 6
def mustU (E : Str) (before after : Int) : Bool := if E = "empty" then false else if E = "behind" then decide (before = 0) else decide (after = 0)
structure TxUm (K : PySem.W.Frag) (mg : Str → Option Value) where
  U : TxU K mg
  mu : Mt K U.C "must_tell" "Source.must_tell" sUM ["self", "before", "after"]
section
variable {P : Program} {w : World} {K : PySem.W.Frag} {mg : Str → Option Value} {base : Heap}
def spUM (C : Addr) : Sp := fun vs H Q _ => ∃ (o : Addr) (A B E : Str) (before after : Int), vs = [.ref o, .int before, .int after] ∧ SrcU C H o A B E ∧ Q (.bl (mustU E before after)) H
theorem scUM : FnScope ["self", "before", "after"] ["self", "before", "after"] (defScope sUM) := ⟨rfl, rfl, rfl, by decide +kernel, rfl, by decide +kernel, by decide +kernel⟩
theorem ok_um (M : TxUm K mg) : FnOk P w K mg base CX0 1 M.mu.f M.mu.fd ["self", "before", "after"] (spUM M.U.C) := by
  refine M.mu.F.ok scUM (fun vs H Q E h => ?_) (fun cdv A outer s H vs Q E hr h => ?_)
  · obtain ⟨o, A, B, E, l, c, rfl, _⟩ := h
    rfl
  · obtain ⟨o, A, B, E, l, c, rfl, ⟨dx, ho⟩, k⟩ := h
    refine ⟨_, pss_cons (ps_if (pt_cmpR op_eq (pe_fld (pv 0) rfl) pe_str (nomark _)) (pss_one (ps_ret pe_bl)) pss_nil)
      (pss_cons (ps_if (pt_cmpR op_eq (pe_fld (pv 0) rfl) pe_str (nomark _)) (pss_one (ps_ret (pe_cmpR op_eq (pv 1) pe_int (nomark _)))) pss_nil)
      (pss_one (ps_ret (pe_cmpR op_eq (pv 2) pe_int (nomark _))))), ?_⟩
    unfold mustU at k
    refine ⟨_, rfl, o, M.U.C, dx, _, _, rfl, ho, M.U.cl, M.U.nE, uf_en _ _ _, rfl, _, rfl, ?_⟩
    rw [dS]
    refine ite2 (fun c1 => ?_) (fun c1 => ?_)
    · rw [if_pos (of_decide_eq_true c1)] at k
      exact k
    · rw [if_neg (fun e => c1 (decide_eq_true e))] at k
      refine ⟨_, rfl, o, M.U.C, dx, _, _, rfl, ho, M.U.cl, M.U.nE, uf_en _ _ _, rfl, _, rfl, ?_⟩
      rw [dS]
      refine ite2 (fun c2 => ?_) (fun c2 => ?_)
      · rw [if_pos (of_decide_eq_true c2)] at k
        refine ⟨_, rfl, rfl, ?_⟩
        rw [dI]
        exact k
      · rw [if_neg (fun e => c2 (decide_eq_true e))] at k
        refine ⟨_, rfl, rfl, ?_⟩
        rw [dI]
        exact k
end
end My

/-! kinds of sources: check_items, can_hand_out, allows -/
namespace My
open PySem L2 Cm LM
abbrev sQI : Stmt := top 22
abbrev sQE : Stmt := inClass (top 8) 0
abbrev sUA : Stmt := inClass (top 64) 4
abbrev sUC : Stmt := inClass (top 64) 5
/-! ### the mirror -/
def canU (A B : Str) (left size count : Int) : Bool :=
  if count = 0 then (if left = 0 then true else decide (B = "waiting")) else if A = "exact" then decide (count = if left < size then left else size) else decide (count ≤ if left < size then left else size)
def allowsU (A B E : Str) (size : Int) : Int → List (Nat × Bool) → Bool
  | _, [] => true
  | left, (c, t) :: r => if canU A B left size (c : Int) = true ∧ t = mustU E left (left - (c : Int)) then allowsU A B E size (left - (c : Int)) r else false
structure TxUa (K : PySem.W.Frag) (mg : Str → Option Value) where
  M : TxUm K mg
  k : TxK K mg
  min : mg "min" = none
  cki : Df K mg "check_items" sQI ["items"]
  eI : TxEr K mg "InvalidItems" "value" sQE "InvalidItems.__init__"
  al : Mt K M.U.C "allows" "Source.allows" sUA ["self", "items", "size", "replies"]
  ca : Mt K M.U.C "can_hand_out" "Source.can_hand_out" sUC ["self", "left", "size", "count"]
section
variable {P : Program} {w : World} {K : PySem.W.Frag} {mg : Str → Option Value} {base : Heap}
/-! ### check_items -/
theorem scQE : FnScope ["self", "value"] ["self", "value"] (defScope sQE) := ⟨rfl, rfl, rfl, by decide +kernel, rfl, by decide +kernel, by decide +kernel⟩
theorem ok_eI (T : TxEr K mg "InvalidItems" "value" sQE "InvalidItems.__init__") : FnOk P w K mg base CX0 1 T.f T.fd ["self", "value"] (spER "value" T.C) := by
  refine T.F.ok scQE (fun vs H Q E h => ?_) (fun cdv A outer s H vs Q E hr h => ?_)
  · obtain ⟨a, v, rfl, _⟩ := h
    rfl
  · obtain ⟨a, v, rfl, ha, k⟩ := h
    exact ⟨_, pss_one (ps_ost (pv 0) (pv 1)), _, rfl, _, rfl, a, T.C, rfl, T.o, T.n, .inl ⟨ha, fun dx n ne => k dx n ne⟩⟩
def spCKI (K : PySem.W.Frag) (CE : Addr) : Sp := fun vs H Q E => ∃ v : V, vs = [v] ∧ TypedI K H v ∧ (btw 0 1000 v = true → Q .non H) ∧ (btw 0 1000 v = false → ∀ d, H d = none → E (.ref CE) (some d) (upd H d (.xd [("value", v)])))
theorem scQI : FnScope ["items"] ["items"] (defScope sQI) := ⟨rfl, rfl, rfl, by decide +kernel, rfl, by decide +kernel, by decide +kernel⟩
theorem ok_cki (M : TxUa K mg) : FnOk P w K mg base (L2.CX P w) 3 M.cki.f M.cki.fd ["items"] (spCKI K M.eI.C) := by
  have GI : FnOk P w K mg base CX0 1 M.k.iib.f M.k.iib.fd ["value", "low", "high"] (spIIB K) := ok_iib M.k
  have GE : FnOk P w K mg base CX0 1 M.eI.f M.eI.fd ["self", "value"] (spER "value" M.eI.C) := ok_eI M.eI
  obtain ⟨tm, mi⟩ := M.k.mi
  refine M.cki.F.okX scQI (fun vs H Q E h => ?_) (fun cdv A outer s H vs Q E hr h => ?_)
  · obtain ⟨v, rfl, _⟩ := h
    rfl
  · obtain ⟨v, rfl, ty, k1, k2⟩ := h
    have hr1 : Room 1 _ := hr.mono (by decide)
    refine ⟨_, pss_one (ps_if (pt_not (pt_val (pe_call GI hr1 rfl M.k.iib.g M.k.iib.k M.k.iib.b .nil pass0 (pa_cons (pv 0) (pa_cons pe_int (pa_cons (pe_glob (v := .int 1000) rfl mi ⟨_, rfl⟩) pa_nil))))))
      (pss_one (ps_raise rfl (takes_of rfl rfl rfl rfl) (pmk_oex M.eI.o M.eI.i M.eI.t GE hr M.eI.b .nil pass0 rfl M.eI.g (pa_cons (pv 0) pa_nil)))) pss_nil), ?_⟩
    refine ⟨_, rfl, v, 0, 1000, rfl, ty, _, rfl, ?_⟩
    cases hb : btw 0 1000 v with
    | true => exact iteF (k1 hb)
    | false => exact iteT (mk_er (x := v) ⟨v, rfl, rfl, rfl⟩ (fun {R R'} ⟨v, e1, q⟩ f => ⟨v, e1, f _ _ q⟩) (k2 hb))
/-! ### can_hand_out -/
def spUC (C : Addr) : Sp := fun vs H Q _ => ∃ (o : Addr) (A B E : Str) (left size count : Int), vs = [.ref o, .int left, .int size, .int count] ∧ SrcU C H o A B E ∧ Q (.bl (canU A B left size count)) H
theorem scUC : FnScope ["self", "left", "size", "count"] ["self", "left", "size", "count"] (defScope sUC) := ⟨rfl, rfl, rfl, by decide +kernel, rfl, by decide +kernel, by decide +kernel⟩
theorem ok_uc (M : TxUa K mg) : FnOk P w K mg base CX0 1 M.ca.f M.ca.fd ["self", "left", "size", "count"] (spUC M.M.U.C) := by
  refine M.ca.F.ok scUC (fun vs H Q E h => ?_) (fun cdv A outer s H vs Q E hr h => ?_)
  · obtain ⟨o, A, B, E, l, z, c, rfl, _⟩ := h
    rfl
  · obtain ⟨o, A, B, E, l, z, c, rfl, ⟨dx, ho⟩, k⟩ := h
    refine ⟨_, pss_cons (ps_if (pt_cmpR op_eq (pv 3) pe_int (nomark _)) (pss_one (ps_ret (pe_or (pe_cmpR op_eq (pv 1) pe_int (nomark _)) (pe_one (pe_cmpR op_eq (pe_fld (pv 0) rfl) pe_str (nomark _)))))) pss_nil)
      (pss_cons (ps_if (pt_cmpR op_eq (pe_fld (pv 0) rfl) pe_str (nomark _)) (pss_one (ps_ret (pe_cmpR op_eq (pv 3) (pe_callB (call_min2 rfl) (by rfl) M.min (by decide +kernel) (pa_cons (pv 2) (pa_cons (pv 1) pa_nil))) (nomark _)))) pss_nil)
      (pss_one (ps_ret (pe_cmpR op_le (pv 3) (pe_callB (call_min2 rfl) (by rfl) M.min (by decide +kernel) (pa_cons (pv 2) (pa_cons (pv 1) pa_nil))) (nomark _))))), ?_⟩
    unfold canU at k
    refine ⟨_, rfl, rfl, _, rfl, ?_⟩
    rw [dI]
    refine ite2 (fun c1 => ?_) (fun c1 => ?_)
    · rw [if_pos (of_decide_eq_true c1)] at k
      refine ⟨_, rfl, rfl, _, rfl, ?_⟩
      rw [dI]
      refine ite2 (fun c2 => ?_) (fun c2 => ?_)
      · rw [if_pos (of_decide_eq_true c2)] at k
        exact k
      · rw [if_neg (fun e => c2 (decide_eq_true e))] at k
        refine ⟨_, rfl, o, M.M.U.C, dx, _, _, rfl, ho, M.M.U.cl, M.M.U.nP, uf_pa _ _ _, rfl, ?_⟩
        rw [dS]
        exact k
    · rw [if_neg (fun e => c1 (decide_eq_true e))] at k
      refine ⟨_, rfl, o, M.M.U.C, dx, _, _, rfl, ho, M.M.U.cl, M.M.U.nA, uf_am _ _ _, rfl, _, rfl, ?_⟩
      rw [dS]
      refine ite2 (fun c2 => ?_) (fun c2 => ?_)
      · rw [if_pos (of_decide_eq_true c2)] at k
        refine ⟨_, rfl, _, rfl, _, rfl, z, l, rfl, rfl, ?_⟩
        rw [dI]
        exact k
      · rw [if_neg (fun e => c2 (decide_eq_true e))] at k
        exact ⟨_, rfl, _, rfl, _, rfl, z, l, rfl, _, _, rfl, rfl, k⟩
/-! ### allows -/
def spUA (K : PySem.W.Frag) (C CI CS CR : Addr) : Sp := fun vs H Q E => ∃ (o : Addr) (A B En : Str) (n v r : V), vs = [.ref o, n, v, r] ∧ SrcU C H o A B En ∧ TypedI K H n ∧ TypedI K H v ∧
  ((btw 0 1000 n = false ∧ ∀ d, H d = none → E (.ref CI) (some d) (upd H d (.xd [("value", n)]))) ∨
   ∃ m : Nat, n = .int m ∧ m ≤ 1000 ∧
    ((btw 1 1000 v = false ∧ ∀ d, H d = none → E (.ref CS) (some d) (upd H d (.xd [("value", v)]))) ∨
     ∃ z : Nat, v = .int z ∧ 1 ≤ z ∧ z ≤ 1000 ∧
      (((NoTup K H r ∨ ∃ t xs, r = .ref t ∧ H t = some (.tup xs) ∧ 100 < xs.length) ∧ ∀ d, H d = none → E (.ref CR) (some d) (upd H d (.xd [("index", .non)]))) ∨
       (∃ (p : Addr) (xs : List V) (bs : List Bool) (i : Nat), r = .ref p ∧ H p = some (.tup xs) ∧ xs.length ≤ 100 ∧ RepVs K H 1000 xs bs ∧ firstF bs i ∧ ∀ (H' : Hp) (d : Addr), Same H H' → H' d = none → E (.ref CR) (some d) (upd H' d (.xd [("index", .int (i : Nat))]))) ∨
       ∃ (p : Addr) (xs : List V) (rs : List (Nat × Bool)), r = .ref p ∧ H p = some (.tup xs) ∧ Rps H xs rs ∧ rs.length ≤ 100 ∧ (∀ r ∈ rs, r.1 ≤ 1000) ∧ ∀ H' : Hp, Same H H' → Q (.bl (allowsU A B En z m rs)) H')))
theorem scUA : FnScope ["self", "items", "size", "replies", "left", "count", "told"] ["self", "items", "size", "replies"] (defScope sUA) := ⟨rfl, rfl, rfl, by decide +kernel, rfl, by decide +kernel, by decide +kernel⟩
theorem ok_ua (M : TxUa K mg) : FnOk P w K mg base (L2.CX P w) 4 M.al.f M.al.fd ["self", "items", "size", "replies"] (spUA K M.M.U.C M.eI.C M.k.eS.C M.k.eR.C) := by
  have G0 : FnOk P w K mg base (L2.CX P w) 3 M.cki.f M.cki.fd ["items"] (spCKI K M.eI.C) := ok_cki M
  have GS : FnOk P w K mg base (L2.CX P w) 3 M.k.cks.f M.k.cks.fd ["size"] (spCKS K M.k.eS.C) := ok_cks M.k
  have GR : FnOk P w K mg base (L2.CX P w) 3 M.k.ckr.f M.k.ckr.fd ["replies", "most"] (spCKR K M.k.eR.C) := ok_ckr M.k
  have G8 : FnOk P w K mg base CX0 1 M.ca.f M.ca.fd ["self", "left", "size", "count"] (spUC M.M.U.C) := ok_uc M
  have G9 : FnOk P w K mg base CX0 1 M.M.mu.f M.M.mu.fd ["self", "before", "after"] (spUM M.M.U.C) := ok_um M.M
  obtain ⟨tm, mi⟩ := M.k.mi
  refine M.al.F.okX scUA (fun vs H Q E h => ?_) (fun cdv A outer s H vs Q E hr h => ?_)
  · obtain ⟨o, A, B, E, n, v, r, rfl, _⟩ := h
    rfl
  · obtain ⟨o, A', B, En, n, v, r, rfl, hO, tn, tv, hh⟩ := h
    have hr1 : Room 1 _ := hr.mono (by decide)
    refine ⟨_, pss_cons (ps_expr (pe_call (E := E) G0 hr rfl M.cki.g M.cki.k M.cki.b .nil (passes_call (takes_of rfl rfl rfl rfl) fun _ _ _ _ z => z) (pa_cons (pv 1) pa_nil)))
      (pss_cons (ps_expr (pe_call (E := E) GS hr rfl M.k.cks.g M.k.cks.k M.k.cks.b .nil (passes_call (takes_of rfl rfl rfl rfl) fun _ _ _ _ z => z) (pa_cons (pv 2) pa_nil)))
      (pss_cons (ps_expr (pe_call (E := E) GR hr rfl M.k.ckr.g M.k.ckr.k M.k.ckr.b .nil (passes_call (takes_of rfl rfl rfl rfl) fun _ _ _ _ z => z) (pa_cons (pv 3) (pa_cons (pe_glob (v := .int 1000) rfl mi ⟨_, rfl⟩) pa_nil))))
      (pss_cons (ps_set (i := 4) scUA.nd rfl (.inl rfl) (pv 1))
      (pss_cons (ps_for (passes_of rfl) rfl (pi_tup (pv 3)) (pg_tup rfl (pgs_cons (pg_name (i := 5) scUA.nd rfl (.inl rfl)) (pgs_cons (pg_name (i := 6) scUA.nd rfl (.inl rfl)) pgs_nil)))
        (pss_cons (ps_if (PW.pt (pw_or (pt_not (pt_val (pe_meth (pv 0) M.M.U.cl M.ca.m G8 hr1 M.ca.b .nil pass0 (pa_cons (pv 4) (pa_cons (pv 2) (pa_cons (pv 5) pa_nil))))))
            (pw_or1 (pt_cmpR op_ne (pv 6) (pe_meth (pv 0) M.M.U.cl M.M.mu.m G9 hr1 M.M.mu.b .nil pass0 (pa_cons (pv 4) (pa_cons (pe_op op_sub (pv 4) (pv 5)) pa_nil))) (nomark _))))) (pss_one (ps_ret pe_bl)) pss_nil)
          (pss_one (ps_aug (i := 4) scUA.nd rfl (.inl rfl) (pv 5) ip_sub))))
      (pss_one (ps_ret pe_bl)))))), ?_⟩
    rcases hh with ⟨hv, kE⟩ | ⟨m, rfl, m1, hh⟩
    · exact ⟨_, rfl, n, rfl, tn, fun z => absurd (hv.symm.trans z) (by decide), fun _ => kE⟩
    have hb : btw 0 1000 (.int (m : Int)) = true := decide_eq_true (show (0 : Int) ≤ (m : Int) ∧ (m : Int) ≤ 1000 from ⟨by omega, by omega⟩)
    refine ⟨_, rfl, .int m, rfl, tn, fun _ => ?_, fun z => absurd (hb.symm.trans z) (by decide)⟩
    rcases hh with ⟨hv, kE⟩ | ⟨z, rfl, z1, z2, hh⟩
    · exact ⟨_, rfl, v, rfl, tv, fun z => absurd (hv.symm.trans z) (by decide), fun _ => kE⟩
    have hb2 : btw 1 1000 (.int (z : Int)) = true := decide_eq_true (show (1 : Int) ≤ (z : Int) ∧ (z : Int) ≤ 1000 from ⟨by omega, by omega⟩)
    refine ⟨_, rfl, .int z, rfl, tv, fun _ => ?_, fun q => absurd (hb2.symm.trans q) (by decide)⟩
    rcases hh with ⟨hv, kE⟩ | ⟨p, xs, bs, i, rfl, hp, hl, hR, hf, kE⟩ | ⟨p, xs, rs, rfl, hp, hR, hl, hc, k⟩
    · exact ⟨_, rfl, r, 1000, rfl, .inl ⟨hv, kE⟩⟩
    · exact ⟨_, rfl, .ref p, 1000, rfl, .inr ⟨p, xs, bs, rfl, hp, hl, hR, fun z => absurd z (firstF_not hf), fun i' hf' => by rw [firstF_uniq hf' hf]; exact kE⟩⟩
    obtain ⟨bs, hB, hall⟩ := hR.good (K := K) (m := 1000) hc
    have lx := hR.len
    refine ⟨_, rfl, .ref p, 1000, rfl, .inr ⟨p, xs, bs, rfl, hp, by omega, hB, fun _ H1 s1 => ?_, fun i hf => absurd hall (firstF_not hf)⟩⟩
    refine ⟨_, rfl, ?_⟩
    refine ⟨_, rfl, p, rfl, ⟨_, SqT.of (s1 _ _ hp)⟩, for_tup (K := K) (a := p) (xs := xs) (fun i σ H' => Same H H' ∧ ∃ (left : Int) (v v' : Option V), σ = [some (.ref o), some (.int m), some (.int z), some (.ref p), some (.int left), v, v'] ∧ allowsU A' B En z m rs = allowsU A' B En z left (rs.drop i))
      ⟨s1, m, none, none, rfl, rfl⟩ (fun i σ H' _ ⟨s', _⟩ => SqT.of (s' _ _ hp)) ?_ ?_⟩
    · rintro i x σ H' hx ⟨s', left, v, v', rfl, e⟩
      obtain ⟨t0, r, hr0, rfl, ht0⟩ := hR.get hx
      obtain ⟨c, td⟩ := r
      have hO' := hO.same s'
      obtain ⟨dx, hdx⟩ := id hO'
      have ed : rs.drop i = (c, td) :: rs.drop (i + 1) := by
        obtain ⟨hi, hg⟩ := List.getElem?_eq_some_iff.mp hr0
        rw [List.drop_eq_getElem_cons hi, hg]
      rw [ed] at e
      refine ⟨t0, _, rfl, SqT.of (s' _ _ ht0), rfl, _, _, rfl, _, _, rfl, rfl, ?_⟩
      refine ⟨_, rfl, o, dx, _, rfl, hdx, rfl, _, rfl, _, rfl, _, rfl, o, A', B, En, left, z, c, rfl, hO', _, rfl, ?_⟩
      have e2 : allowsU A' B En z left ((c, td) :: rs.drop (i + 1)) = if canU A' B left z (c : Int) = true ∧ td = mustU En left (left - (c : Int)) then allowsU A' B En z (left - (c : Int)) (rs.drop (i + 1)) else false := rfl
      cases hc : canU A' B left z (c : Int) with
      | false =>
        refine iteT (iteT ?_)
        rw [e2, if_neg (by rw [hc]; intro q; exact Bool.false_ne_true q.1)] at e
        rw [e] at k
        exact k H' s'
      | true =>
        refine iteF ?_
        refine ⟨_, rfl, _, rfl, o, dx, _, rfl, hdx, rfl, _, rfl, _, rfl, _, rfl, left, c, rfl, rfl, o, A', B, En, left, left - c, rfl, hO', rfl, _, rfl, ?_⟩
        rw [dB]
        by_cases ht : td = mustU En left (left - (c : Int))
        · rw [decide_eq_true ht]
          refine iteF ?_
          rw [e2, if_pos ⟨hc, ht⟩] at e
          exact ⟨_, rfl, _, rfl, _, _, rfl, rfl, s', _, _, _, rfl, e⟩
        · rw [decide_eq_false ht]
          refine iteT ?_
          rw [e2, if_neg (fun q => ht q.2)] at e
          rw [e] at k
          exact k H' s'
    · rintro σ H' ⟨s', left, v, v', rfl, e⟩
      rw [hR.len, List.drop_length] at e
      rw [e] at k
      exact k H' s'
end
end My

/-! Execution.answer_nothing -/
namespace My
open PySem L2 Cm LM EM CoM
abbrev sXN : Stmt := inClass (top 43) 2
structure TxXn (K : PySem.W.Frag) (mg : Str → Option Value) where
  X : TxX K mg
  no : Mt K X.C "answer_nothing" "Execution.answer_nothing" sXN ["self", "told"]
section
variable {P : Program} {w : World} {K : PySem.W.Frag} {mg : Str → Option Value} {base : Heap}
theorem xf_noN (ro eo : Addr) (ak sz : Nat) (h : Addr) (t : Bool) (r p : Addr) (st : Bool) : (xf ro eo ak sz h t r p st).lookup ("answer_nothing" : Str) = none := by kernel_rfl
def spXN (C : Addr) : Sp := fun vs H Q _ => ∃ (o dx ro eo p : Addr) (ak sz : Nat) (held0 : List Int) (told0 told : Bool) (x : RP) (st : Bool) (rs es : List (Str × Str)) (k c : Nat), vs = [.ref o, .bl told] ∧ ExAt C H o dx ro eo p ak sz held0 told0 x st ∧ OrdT H ro rs ∧ OrdT H eo es ∧ rs.length ≤ 12 ∧ es.length ≤ 6 ∧ 1 ≤ sz ∧ sz ≤ 1000 ∧ Few sz k c x ∧ k ≤ 2000 ∧ c ≤ 7000000 ∧
  ∀ (H' : Hp) (held' : List Int) (told' : Bool), Off2 o p H H' → ExAt C H' o dx ro eo p (noS sz rs es told 4 none ⟨x, ak, st⟩).ak sz held' told' (noS sz rs es told 4 none ⟨x, ak, st⟩).x (noS sz rs es told 4 none ⟨x, ak, st⟩).st → Q .non H'
theorem scXN : FnScope ["self", "told", "many"] ["self", "told"] (defScope sXN) := ⟨rfl, rfl, rfl, by decide +kernel, rfl, by decide +kernel, by decide +kernel⟩
/-- many, as the text holds it -/
def manyV : Option Nat → V
  | none => .int (-1)
  | some l => .int (l : Nat)
theorem scal_many (n : Nat) (mo : Option Nat) : scal (.int (n : Nat)) (manyV mo) = true := by cases mo <;> rfl
theorem many_ne (n : Nat) (mo : Option Nat) : decide (V.int (n : Nat) = manyV mo) = decide (some n = mo) := by
  refine decide_eq_decide.mpr ?_
  cases mo with
  | none =>
    refine ⟨fun e => ?_, fun e => by cases e⟩
    have : ((n : Nat) : Int) = -1 := V.int.inj e
    omega
  | some l =>
    refine ⟨fun e => ?_, fun e => by cases e; rfl⟩
    have : ((n : Nat) : Int) = ((l : Nat) : Int) := V.int.inj e
    rw [show n = l by omega]
theorem ok_xn (T : TxXn K mg) : FnOk P w K mg base CX0 5 T.no.f T.no.fd ["self", "told"] (spXN T.X.C) := by
  have GA : FnOk P w K mg base CX0 4 T.X.an.f T.X.an.fd ["self", "held", "told"] (spXA T.X.C) := ok_xa T.X
  refine T.no.F.ok scXN (fun vs H Q E h => ?_) (fun cdv A outer s H vs Q E hr h => ?_)
  · obtain ⟨o, _, _, _, _, _, _, _, _, _, _, _, _, _, _, _, rfl, _⟩ := h
    rfl
  · obtain ⟨o, dx, ro, eo, p, ak, sz, held0, told0, told, x, st, rs, es, kk, cc, rfl, hX, hRo, hEo, l1, l2, z1, z2, few, hk, hc, k⟩ := h
    refine ⟨_, (pss_cons (ps_set (i := 2) scXN.nd rfl (.inl rfl) (pe_un un_neg pe_int)) (pss_one (ps_while PassesOwn.never (PW.pt (pw_and (pt_not (pt_val (pe_fld (pv 0) rfl))) (pw_and1 (pt_cmpR op_ne (pe_callB call_len_seq (by rfl) T.X.len PySem.boot_len (pa_cons (pe_fld (pv 0) rfl) pa_nil)) (pv 2) (nomark _))))) (pss_cons (ps_set (i := 2) scXN.nd rfl (.inl rfl) (pe_callB call_len_seq (by rfl) T.X.len PySem.boot_len (pa_cons (pe_fld (pv 0) rfl) pa_nil))) (pss_one (ps_expr (pe_meth (pv 0) T.X.cl T.X.an.m GA hr T.X.an.b .nil pass0 (pa_cons (pe_tup pa_nil) (pa_cons (pv 1) pa_nil))))))))), ?_⟩
    refine ⟨_, rfl, ?_⟩
    refine ⟨fun m σ H' => ∃ (mo : Option Nat) (s : WS) (held' : List Int) (told' : Bool), σ = [some (.ref o), some (.bl told), some (manyV mo)] ∧ Off2 o p H H' ∧ ExAt T.X.C H' o dx ro eo p s.ak sz held' told' s.x s.st ∧ noS sz rs es told m mo s = noS sz rs es told 4 none ⟨x, ak, st⟩ ∧ m ≤ 4 ∧ 1 ≤ m ∧ (s.st = false → rk sz s.x.rest.length + 1 + (if some s.x.rest.length = mo then 0 else 1) ≤ m) ∧ Few sz (kk + 18 * (4 - m)) (cc + (4 - m) * 37800) s.x, ⟨4, none, ⟨x, ak, st⟩, held0, told0, rfl, Off2.refl, hX, rfl, Nat.le_refl _, by decide, fun _ => ?_, by simpa using few⟩, ?_⟩
    · have := rk_le sz x.rest.length
      rw [if_neg (by intro z; cases z)]
      show rk sz x.rest.length + 1 + 1 ≤ 4
      omega
    · rintro m σ H1 ⟨mo, s', held', told', rfl, o1, X1, en, m4, m1, hm, fw⟩
      obtain ⟨h0, r0, vs0, e0, _, hr0, _⟩ := id X1.ex
      refine ⟨_, rfl, o, T.X.C, dx, _, _, rfl, e0, T.X.cl, T.X.nSt, xf_st .., _, rfl, ?_⟩
      obtain ⟨m, rfl⟩ : ∃ n, m = n + 1 := ⟨m - 1, by omega⟩
      have out : (s'.st = true ∨ some s'.x.rest.length = mo) → Q .non H1 := fun hd => by
        have es' : noS sz rs es told (m + 1) mo s' = s' := by
          show (if s'.st = true then s' else if some s'.x.rest.length = mo then s' else _) = s'
          rcases hd with hd | hd
          · rw [if_pos hd]
          · by_cases c : s'.st = true
            · rw [if_pos c]
            · rw [if_neg c, if_pos hd]
        rw [es'] at en
        refine k H1 held' told' o1 ?_
        rw [← en]
        exact X1
      cases hst : s'.st with
      | true => exact iteF (iteF (out (.inl hst)))
      | false =>
        refine iteT ?_
        refine ⟨_, rfl, o, T.X.C, dx, _, _, rfl, e0, T.X.cl, T.X.nR, xf_r .., r0, _, rfl, .inr (SqT.of hr0), ?_⟩
        rw [ivs_len]
        refine ⟨_, rfl, scal_many _ mo, _, rfl, ?_⟩
        rw [many_ne]
        by_cases hq : some s'.x.rest.length = mo
        · rw [decide_eq_true hq]
          exact iteF (out (.inr hq))
        · rw [decide_eq_false hq]
          refine iteT ?_
          have hm := hm hst
          rw [if_neg hq] at hm
          refine ⟨fun σ' H' => ∃ (mo : Option Nat) (s : WS) (held' : List Int) (told' : Bool), σ' = [some (.ref o), some (.bl told), some (manyV mo)] ∧ Off2 o p H H' ∧ ExAt T.X.C H' o dx ro eo p s.ak sz held' told' s.x s.st ∧ noS sz rs es told m mo s = noS sz rs es told 4 none ⟨x, ak, st⟩ ∧ m ≤ 4 ∧ 1 ≤ m ∧ (s.st = false → rk sz s.x.rest.length + 1 + (if some s.x.rest.length = mo then 0 else 1) ≤ m) ∧ Few sz (kk + 18 * (4 - m)) (cc + (4 - m) * 37800) s.x, fun σ' H' q => ⟨m, Nat.lt_succ_self m, q⟩, ?_⟩
          refine ⟨_, rfl, o, T.X.C, dx, _, _, rfl, e0, T.X.cl, T.X.nR, xf_r .., r0, _, rfl, .inr (SqT.of hr0), ?_⟩
          rw [ivs_len]
          refine ⟨_, rfl, o, dx, _, rfl, e0, (xf_noA ..).1, Nat.zero_le _, fun t nt => ⟨_, rfl, ?_⟩⟩
          have s2 : Same H1 (upd H1 t (.tup [])) := same_new nt
          have X2 := X1.same s2
          rw [hst] at X2
          have ts2 : TS H (upd H1 t (.tup [])) := fun q xs e => s2 _ _ (o1.ts hX _ _ e)
          refine ⟨o, dx, ro, eo, p, t, s'.ak, sz, held', [], told', told, s'.x, rs, es, kk + 18 * (4 - (m + 1)), cc + (4 - (m + 1)) * 37800, rfl, X2, upd_same, hRo.ts ts2, hEo.ts ts2, l1, l2, ⟨z1, z2, Nat.zero_le _, by omega, by omega, fw⟩, by omega, by omega, fun H3 o3 X3 => ?_⟩
          have fa := few_ans (ro := rs) (eo := es) (held := []) (told := told) z1 (Nat.zero_le _) l1 l2 fw
          refine ⟨some s'.x.rest.length, ansS sz rs es [] told s', [], told, rfl, (o1.same s2).trans o3, X3, ?_, by omega, by omega, fun ca => ?_, fa.mono (by omega) ?_⟩
          · rw [← en]
            show _ = (if s'.st = true then s' else if some s'.x.rest.length = mo then s' else _)
            rw [if_neg (by rw [hst]; decide), if_neg hq]
          · rcases rk_down z1 (no_rest ca) with y | y
            · rw [show (ansS sz rs es [] told s').x.rest.length = s'.x.rest.length from y, if_pos rfl]
              omega
            · have y' : rk sz (ansS sz rs es [] told s').x.rest.length < rk sz s'.x.rest.length := y
              split <;> omega
          · have b1 : 18 * (kk + 18 * (4 - (m + 1)) + 18) ≤ 37800 := by omega
            omega
end
end My

/-! the search for faults: its states, its moves, what it finds -/
namespace SR
open PySem L2 EM
/-- n items from lo on -/
def rgI (lo : Int) (n : Nat) : List Int := (List.range n).map fun i => lo + (i : Nat)
theorem rgI_len (lo : Int) (n : Nat) : (rgI lo n).length = n := by simp [rgI]
theorem rgV_rgI (lo : Int) (n : Nat) : rgV lo (lo + (n : Int)) = ivs (rgI lo n) := by
  unfold rgV rgI ivs
  rw [show (lo + (n : Int) - lo).toNat = n by omega, List.map_map]
  rfl
theorem rgV_nat {lo : Int} {hi : Int} {n : Nat} (h : hi = lo + (n : Int)) : rgV lo hi = ivs (rgI lo n) := by rw [h, rgV_rgI]
/-- all items of an interval -/
def rgB (lo hi : Int) : List Int := (List.range (hi - lo).toNat).map fun i => lo + (i : Nat)
theorem rgV_rgB (lo hi : Int) : rgV lo hi = ivs (rgB lo hi) := by
  unfold rgV rgB ivs
  rw [List.map_map]
  rfl
def isLow (mark : Str) : Bool := decide (mark = "twice" ∨ mark = "lost")
def lowM (mark : Str) (rest : Nat) : Int := if isLow mark = true then -(rest : Int) else 0
def bhM (mark : Str) (rest count : Nat) : Nat := if isLow mark = true then count else rest + count
theorem bh_low (mark : Str) (rest count : Nat) : lowM mark rest + (rest : Int) + (count : Int) = (bhM mark rest count : Nat) := by
  unfold lowM bhM
  split <;> omega
def markWhole (mark : Str) (x : RP) (st : Bool) (behind left : Nat) : Str :=
  if mark = "lost" ∨ x.pieces.flatten ≠ rgI 0 x.pieces.flatten.length then (if st = true then "fault" else "lost")
  else if st = true then (if x.pieces.flatten.length = behind ∧ left = 0 then "fine" else "fault")
  else if x.rest = rgB (x.pieces.flatten.length : Nat) (behind : Nat) then "fine"
  else if x.pieces.flatten.length = behind then "twice" else "lost"
def evenM (sz : Nat) : Str → List (List Int) → Str
  | m, [] => m
  | m, p :: r => if m = "short" ∨ sz < p.length then "fault" else evenM sz (if p.length < sz then "short" else m) r
def markM (name mark : Str) (sz : Nat) (x : RP) (st told : Bool) (behind left : Nat) : Str :=
  if name = "whole" then markWhole mark x st behind left
  else if name = "filled" then (if [] ∈ x.pieces then "fault" else "fine")
  else if name = "even" then evenM sz mark x.pieces
  else if name = "quiet" then (if told = true ∧ st = false then "fault" else "fine")
  else "fine"
def names : List Str := ["whole", "filled", "even", "quiet", "ends"]
def marks : List Str := ["fine", "short", "twice", "lost", "fault"]
theorem even_mem (sz : Nat) : ∀ (ps : List (List Int)) {m : Str}, m ∈ marks → evenM sz m ps ∈ marks
  | [], m, h => h
  | p :: r, m, h => by
    unfold evenM
    split
    · decide +kernel
    · refine even_mem sz r ?_
      split
      · decide +kernel
      · exact h
theorem mark_mem {name mark : Str} {sz : Nat} {x : RP} {st told : Bool} {behind left : Nat} (h : mark ∈ marks) : markM name mark sz x st told behind left ∈ marks := by
  unfold markM markWhole
  have f1 : ("fault" : Str) ∈ marks := by decide +kernel
  have f2 : ("lost" : Str) ∈ marks := by decide +kernel
  have f3 : ("fine" : Str) ∈ marks := by decide +kernel
  have f4 : ("twice" : Str) ∈ marks := by decide +kernel
  repeat' split
  all_goals first | assumption | exact even_mem sz _ h
/-- what a source tells -/
abbrev Tell := Int → Int → Bool
/-- behind a round -/
def behM (ro eo : List (Str × Str)) (tell : Tell) (name : Str) (before rest : Nat) (mark : Str) (sz count left : Nat) : Option (Nat × Nat × Str) :=
  let w := ansM sz ro eo (rgI (lowM mark rest + (rest : Int)) count) (tell before left) ⟨rgI (lowM mark rest) rest, []⟩
  let m := markM name mark sz w.1 w.2 (tell before left) (bhM mark rest count) left
  if w.2 = true ∧ m ≠ "fault" then none else some (left, w.1.rest.length, m)
def restM (r : Nat) : Nat := if r = 0 then 0 else if r ≤ 4 then (if r = 4 then 4 else 2) else if r % 4 ≠ 0 then 6 else 8
theorem rest_mem (r : Nat) : restM r ∈ [0, 2, 4, 6, 8] := by
  unfold restM
  repeat' split
  all_goals decide
/-- a state: items left or none, the rest, the mark -/
abbrev Node := Nat × Nat × Str
/-- what comes and what is left -/
def movesM (can : Nat → Bool) (left : Nat) : List (Nat × Nat) := if left = 0 then [(0, 0)] else [(1, 0), (2, 0), (3, 0), (4, 0)] ++ ((List.range 5).filter can).map fun c => (c, 1)
theorem moves_len (can : Nat → Bool) (left : Nat) : (movesM can left).length ≤ 9 := by
  unfold movesM
  split
  · decide
  · rw [List.length_append, List.length_map]
    have := List.length_filter_le can (List.range 5)
    rw [List.length_range] at this
    simp only [List.length_cons, List.length_nil]
    omega
theorem moves_get {can : Nat → Bool} {left : Nat} {p : Nat × Nat} (h : p ∈ movesM can left) : p.1 ≤ 4 ∧ p.2 ≤ 1 := by
  unfold movesM at h
  split at h
  · rw [List.mem_singleton.mp h]; decide
  · rcases List.mem_append.mp h with h | h
    · simp only [List.mem_cons, List.mem_nil_iff, or_false] at h
      rcases h with rfl | rfl | rfl | rfl <;> decide
    · obtain ⟨c, hc, rfl⟩ := List.mem_map.mp h
      have := List.mem_range.mp (List.mem_filter.mp hc).1
      exact ⟨by show c ≤ 4; omega, by show 1 ≤ 1; decide⟩
/-- that the loop never stops without items -/
def nevM (ro eo : List (Str × Str)) (tell : Tell) (sz rest : Nat) : Bool := !(CoM.noS sz ro eo (tell 0 0) 4 none ⟨⟨rgI 0 rest, []⟩, 0, false⟩).st
def isFaultM (ro eo : List (Str × Str)) (tell : Tell) (name : Str) (sz : Nat) (n : Node) : Bool := if name = "ends" then decide (n.1 = 0) && nevM ro eo tell sz n.2.1 else decide (n.2.2 = "fault")
/-- one state further -/
def nextM (ro eo : List (Str × Str)) (tell : Tell) (name : Str) (n : Node) (p : Nat × Nat) : Option Node := (behM ro eo tell name n.1 n.2.1 n.2.2 4 p.1 p.2).map fun f => (p.2, restM f.2.1, f.2.2)
def succM (ro eo : List (Str × Str)) (tell : Tell) (can : Nat → Bool) (name : Str) (n : Node) : List Node := (movesM can n.1).filterMap (nextM ro eo tell name n)
inductive Reach (ro eo : List (Str × Str)) (tell : Tell) (can : Nat → Bool) (name : Str) : Node → Prop
  | a : Reach ro eo tell can name (0, 0, "fine")
  | b : Reach ro eo tell can name (1, 0, "fine")
  | step {n m : Node} (h : Reach ro eo tell can name n) (s : m ∈ succM ro eo tell can name n) : Reach ro eo tell can name m
/-- the property has a fault -/
def HasF (ro eo : List (Str × Str)) (tell : Tell) (can : Nat → Bool) (name : Str) : Prop := ∃ n, Reach ro eo tell can name n ∧ isFaultM ro eo tell name 4 n = true
/-- the states that there are -/
def univ : List Node := [0, 1].flatMap fun l => [0, 2, 4, 6, 8].flatMap fun r => marks.map fun m => (l, r, m)
theorem univ_len : univ.length = 50 := by decide +kernel
theorem mem_univ {n : Node} : n ∈ univ ↔ n.1 ≤ 1 ∧ n.2.1 ∈ [0, 2, 4, 6, 8] ∧ n.2.2 ∈ marks := by
  obtain ⟨l, r, m⟩ := n
  unfold univ
  simp only [List.mem_flatMap, List.mem_map, Prod.mk.injEq]
  constructor
  · rintro ⟨l', hl, r', hr, m', hm, rfl, rfl, rfl⟩
    refine ⟨?_, hr, hm⟩
    simp at hl
    omega
  · rintro ⟨hl, hr, hm⟩
    refine ⟨l, ?_, r, hr, m, hm, rfl, rfl, rfl⟩
    have hl : l ≤ 1 := hl
    have : l = 0 ∨ l = 1 := by omega
    rcases this with rfl | rfl <;> decide
theorem next_univ {ro eo : List (Str × Str)} {tell : Tell} {can : Nat → Bool} {name : Str} {n m : Node} {p : Nat × Nat} (hn : n ∈ univ) (hp : p ∈ movesM can n.1) (h : nextM ro eo tell name n p = some m) : m ∈ univ := by
  unfold nextM at h
  cases hb : behM ro eo tell name n.1 n.2.1 n.2.2 4 p.1 p.2 with
  | none => rw [hb] at h; cases h
  | some f =>
    rw [hb] at h
    cases h
    rw [mem_univ] at hn ⊢
    refine ⟨(moves_get hp).2, rest_mem _, ?_⟩
    unfold behM at hb
    dsimp only at hb
    split at hb
    · cases hb
    · cases hb
      exact mark_mem hn.2.2
theorem nodup_len {l : List Node} (nd : l.Nodup) (h : ∀ n ∈ l, n ∈ univ) : l.length ≤ 50 := by
  rw [← univ_len]
  exact sub_len l univ nd h
where sub_len : ∀ (l u : List Node), l.Nodup → (∀ n ∈ l, n ∈ u) → l.length ≤ u.length
  | [], _, _, _ => Nat.zero_le _
  | a :: r, u, nd, h => by
    have ha := h a List.mem_cons_self
    rw [List.nodup_cons] at nd
    have ih := sub_len r (u.erase a) nd.2 fun n hn => (List.mem_erase_of_ne (fun e => nd.1 (by rw [← e]; exact hn))).mpr (h n (List.mem_cons_of_mem _ hn))
    rw [List.length_erase_of_mem ha] at ih
    have := List.length_pos_of_mem ha
    rw [List.length_cons]
    omega
/-- a search that ended without a fault -/
theorem no_fault {ro eo : List (Str × Str)} {tell : Tell} {can : Nat → Bool} {name : Str} {seen : List Node} (ha : ((0, 0, "fine") : Node) ∈ seen) (hb : ((1, 0, "fine") : Node) ∈ seen) (hs : ∀ n ∈ seen, ∀ m ∈ succM ro eo tell can name n, m ∈ seen) (hf : ∀ n ∈ seen, isFaultM ro eo tell name 4 n = false) : ¬ HasF ro eo tell can name := by
  rintro ⟨n, hr, hn⟩
  have : n ∈ seen := by
    clear hn
    induction hr with
    | a => exact ha
    | b => exact hb
    | step _ s ih => exact hs _ ih _ s
  rw [hf n this] at hn
  cases hn
open Classical in
/-- the property's answer -/
noncomputable def alwM (ro eo : List (Str × Str)) (tell : Tell) (can : Nat → Bool) (name : Str) : Bool := decide (¬ HasF ro eo tell can name)
open Classical in
theorem alw_no {ro eo : List (Str × Str)} {tell : Tell} {can : Nat → Bool} {name : Str} (h : ¬ HasF ro eo tell can name) : alwM ro eo tell can name = true := @decide_eq_true _ _ h
open Classical in
theorem alw_has {ro eo : List (Str × Str)} {tell : Tell} {can : Nat → Bool} {name : Str} (h : HasF ro eo tell can name) : alwM ro eo tell can name = false := @decide_eq_false _ _ fun z => z h
end SR

/-! comprehensions with two clauses, by words of their walks -/
namespace L2c
open PySem L2
section
variable {J J1 : It} {n n1 : Nat} {G G1 : Hp → Prop} {Y Y1 : Nat → Hp → V → Hp → Prop}
theorem in_it (w : Walk J1 n1 G1 Y1) {g1 : TG} {tt1 : TT} {te : TE} {vs1 : List Nat} {σ2 : St} {H4 : Hp} {D : Addr} {Nx : Hp → Prop} (Pw : Nat → Hp → Prop) (h0 : Pw 0 H4) (hG : ∀ i H, i ≤ n1 → Pw i H → G1 H)
    (hs : ∀ i x H H', i < n1 → Pw i H → Y1 i H x H' → g1 x (wipe σ2 vs1) H' fun σ3 H5 => wipe σ3 vs1 = wipe σ2 vs1 ∧ tt1 σ3 H5 fun b H6 =>
      if b = true then te σ3 H6 fun y H7 => ∃ acc, H7 D = some (.lst acc) ∧ acc.length < sizeLine ∧ Pw (i + 1) (upd H7 D (.lst (acc ++ [y]))) else Pw (i + 1) H6) (hd : ∀ H, Pw n1 H → Nx H) :
    ∃ W1 : Nat → Nat → Hp → Prop, (∃ m, W1 0 m H4) ∧ ∀ j k H, W1 j k H →
      (J1.stop j H ∧ Nx H) ∨ (J1.go j H ∧ ∃ Nx1 : Hp → Prop, (∀ H', Nx1 H' → ∃ k', k' < k ∧ W1 (j + 1) k' H') ∧ ∀ x H', J1.yld j H x H' → g1 x (wipe σ2 vs1) H' fun σ3 H5 => wipe σ3 vs1 = wipe σ2 vs1 ∧ tt1 σ3 H5 fun b H6 =>
        if b = true then te σ3 H6 fun y H7 => ∃ acc, H7 D = some (.lst acc) ∧ acc.length < sizeLine ∧ Nx1 (upd H7 D (.lst (acc ++ [y]))) else Nx1 H6) := by
  refine ⟨fun i m H => m = n1 - i ∧ i ≤ n1 ∧ Pw i H, ⟨n1, by simp, Nat.zero_le _, h0⟩, ?_⟩
  rintro i m H ⟨rfl, hi, p⟩
  have q := hG i H hi p
  by_cases hlt : i < n1
  · refine .inr ⟨w.goes i H hlt q, Pw (i + 1), fun H' p' => ⟨n1 - (i + 1), by omega, rfl, hlt, p'⟩, fun x H' y => hs i x H H' hlt p (w.yields i H x H' hlt q y)⟩
  · have e : i = n1 := by omega
    subst e
    exact .inl ⟨w.stops H q, hd H p⟩
theorem lc2_it (w : Walk J n G Y) {g g1 : TG} {tt tt1 : TT} {te : TE} {wi1 : TI} {vs vs1 : List Nat} {σ : St} {H1 : Hp} {D : Addr} {Qd : Hp → Prop} (Pv : Nat → Hp → Prop) (h0 : Pv 0 (upd H1 D (.lst []))) (hG : ∀ i H, i ≤ n → Pv i H → G H)
    (hs : ∀ i x H H', i < n → Pv i H → Y i H x H' → g x (wipe σ vs) H' fun σ2 H2 => wipe σ2 vs = wipe σ vs ∧ tt σ2 H2 fun b H3 =>
      if b = true then wi1 σ2 H3 fun J1 H4 => ∃ W1 : Nat → Nat → Hp → Prop, (∃ m, W1 0 m H4) ∧ ∀ j k H, W1 j k H →
        (J1.stop j H ∧ Pv (i + 1) H) ∨ (J1.go j H ∧ ∃ Nx1 : Hp → Prop, (∀ H', Nx1 H' → ∃ k', k' < k ∧ W1 (j + 1) k' H') ∧ ∀ x H', J1.yld j H x H' → g1 x (wipe σ2 vs1) H' fun σ3 H5 => wipe σ3 vs1 = wipe σ2 vs1 ∧ tt1 σ3 H5 fun b H6 =>
          if b = true then te σ3 H6 fun y H7 => ∃ acc, H7 D = some (.lst acc) ∧ acc.length < sizeLine ∧ Nx1 (upd H7 D (.lst (acc ++ [y]))) else Nx1 H6)
      else Pv (i + 1) H3) (hd : ∀ H, Pv n H → Qd H) :
    ∃ W : Nat → Nat → Hp → Prop, (∃ m, W 0 m (upd H1 D (.lst []))) ∧ ∀ i m H, W i m H →
      (J.stop i H ∧ Qd H) ∨ (J.go i H ∧ ∃ Nx : Hp → Prop, (∀ H', Nx H' → ∃ m', m' < m ∧ W (i + 1) m' H') ∧ ∀ x H', J.yld i H x H' → g x (wipe σ vs) H' fun σ2 H2 => wipe σ2 vs = wipe σ vs ∧ tt σ2 H2 fun b H3 =>
        if b = true then wi1 σ2 H3 fun J1 H4 => ∃ W1 : Nat → Nat → Hp → Prop, (∃ m, W1 0 m H4) ∧ ∀ j k H, W1 j k H →
          (J1.stop j H ∧ Nx H) ∨ (J1.go j H ∧ ∃ Nx1 : Hp → Prop, (∀ H', Nx1 H' → ∃ k', k' < k ∧ W1 (j + 1) k' H') ∧ ∀ x H', J1.yld j H x H' → g1 x (wipe σ2 vs1) H' fun σ3 H5 => wipe σ3 vs1 = wipe σ2 vs1 ∧ tt1 σ3 H5 fun b H6 =>
            if b = true then te σ3 H6 fun y H7 => ∃ acc, H7 D = some (.lst acc) ∧ acc.length < sizeLine ∧ Nx1 (upd H7 D (.lst (acc ++ [y]))) else Nx1 H6)
        else Nx H3) := by
  refine ⟨fun i m H => m = n - i ∧ i ≤ n ∧ Pv i H, ⟨n, by simp, Nat.zero_le _, h0⟩, ?_⟩
  rintro i m H ⟨rfl, hi, p⟩
  have q := hG i H hi p
  by_cases hlt : i < n
  · refine .inr ⟨w.goes i H hlt q, Pv (i + 1), fun H' p' => ⟨n - (i + 1), by omega, rfl, hlt, p'⟩, fun x H' y => hs i x H H' hlt p (w.yields i H x H' hlt q y)⟩
  · have e : i = n := by omega
    subst e
    exact .inl ⟨w.stops H q, hd H p⟩
end
end L2c

/-! defs that are called where no repr is running, and repr of plain data there -/
namespace Gd
open PySem PySem.Spec PyProof.Rows L2
/-- a def's promise, for callers around whom no guard stands -/
structure FnG (P : Program) (w : World) (K : PySem.W.Frag) (mg : Str → Option Value) (base : Heap) (CX : CXT) (k : Nat) (f : Addr) (fd : FuncData) (ps : List Str) (sp : Sp) : Prop where
  len : ∀ vs H Q E, sp vs H Q E → vs.length = ps.length
  run : ∀ (A : Around) (outer : List Env) (s : Shared) (H : Hp) (args : Args) (us : List Value) (vs : List V) (Q : VK) (E : XK), A.guards = some [] → Room k A → Env0 P w K mg base A outer s H → BindsTo s fd args (ps.zip us) → Vals vs us → sp vs H Q E →
    codeAny (model P w) A (.call (.ref f) args) (CR CX outer P w H s Q E) s
section
variable {P : Program} {w : World} {K : PySem.W.Frag} {mg : Str → Option Value} {base : Heap}
/-- the rule of a def, its guards told -/
theorem okG {x qual : Str} {st : Stmt} {f : Addr} {fd : FuncData} {N ps : List Str} {k : Nat} {sp : Sp} (F : Fun K x qual st f fd) (S : FnScope N ps (defScope st)) (len : ∀ vs H Q E, sp vs H Q E → vs.length = ps.length)
    (hbody : ∀ (cdv : Value) (A : Around) (outer : List Env) (s : Shared) (H : Hp) (vs : List V) (Q : VK) (E : XK), K.lookup f ≠ none → PySem.W.codeIn K cdv qual = true → fd.code = cdv → A.guards = some [] → Room k (A.deeper (envOfC qual (defScope st) s.heap.objs.size f cdv)) → sp vs H Q E →
      ∃ t, PSs (cxOf CX0 P w K mg base N qual (defScope st) f cdv A outer s H E).nox (defBody st) t ∧ t { nx := fun _ H' => Q .non H', rt := Q } (L2.start N vs) H) : FnG P w K mg base CX0 (k + 1) f fd ps sp := by
  obtain ⟨oc, od, kV, doc, pm, an, cdv, ct, osl, rfl, lk, hcd⟩ := F.ex
  refine ⟨len, fun A outer s H args us vs Q E hg hr e0 hb r h => ?_⟩
  refine LamX.run_ofS lk hcd S hr e0 hb r (len _ _ _ _ h) fun hr2 => ?_
  obtain ⟨t, h1, q⟩ := hbody cdv A outer s H vs Q E (by rw [lk]; simp) hcd rfl hg hr2 h
  exact ⟨t, h1.nox, q⟩
end
section
variable {X : Cx} {CX : CXT} {k : Nat} {f : Addr} {fd : FuncData} {ps : List Str} {sp : Sp} {E : XK} {x : Str} {p pos : Pos} {e : Expr} {es : List Expr} {t : TA} {ds : List Value} {dvs : List V}
/-- f(e, ..) -/
theorem pe_callG (F : FnG X.prog X.w X.K X.mg X.base CX k f fd ps sp) (hgd : X.A.guards = some []) (hr : Room k X.A) (hg : Gl X x) (hm : X.mg x = some (.ref f)) (hk : PySem.W.keepIn X.K (.ref f) = true) (hb : L2.Binds X.K fd ps ds) (hd : Vals dvs ds) (hx : Passes CX X E) (ha : PA X (e :: es) t)
    (hdb : (x == ("__debug__" : Str)) = false := by decide) (he : starEach (e :: es) X.env = (false, eval e X.env) :: starEach es X.env := by rfl) (hpl : (backTo pos (starEach es X.env)).any (·.1) = false := by rfl) :
    PE X (.Call (.Name x p) (e :: es) [] pos) (tCall sp dvs E t) := by
  refine ⟨fun pins s σ H Q I h => ?_⟩
  refine wpAny_Call_Name_kw (ld_glob I hg hm ?_ hdb)
  refine PySem.W.callWith_K (h₀ := X.base) I.ok.mod.kin hk (thn (ha.run pos pins s σ H _ I h) fun us s1 ⟨vs, H1, I1, r, q⟩ => ⟨I1.kIn, ?_⟩) he hpl
  have r2 : Vals (vs ++ dvs) (us ++ ds) := r.append hd
  have hl : (us ++ ds).length = ps.length := by
    rw [← r2.length]
    exact F.len _ _ _ _ q
  refine wpAny_call (codeAny_mono (F.run X.A X.stack s1 H1 ⟨us, []⟩ (us ++ ds) (vs ++ dvs) Q E hgd hr I1.env0 (hb s1 us I1.kIn hl) r2 q) fun rr s2 hq => ?_)
  match rr, hq with
  | .error er, hq => exact hx pins σ H1 s1 er s2 I1 hq
  | .ok (.ret u), hq => exact I1.after hq
end
/-! ### plain data, all of it tracked -/
mutual
inductive Dq (H : Hp) : V → PyData → Prop
  | non : Dq H .non .none
  | bl (b : Bool) : Dq H (.bl b) (.bool b)
  | int (i : Int) : Dq H (.int i) (.int i)
  | str (x : Str) : Dq H (.str x) (.str x)
  | lst {a : Addr} {xs : List V} {ds : List PyData} : H a = some (.lst xs) → DqA H xs ds → Dq H (.ref a) (.list ds)
  | tup {a : Addr} {xs : List V} {ds : List PyData} : H a = some (.tup xs) → DqA H xs ds → Dq H (.ref a) (.tuple ds)
  | dct {a : Addr} : H a = some (.dK []) → Dq H (.ref a) (.dict [])
inductive DqA (H : Hp) : List V → List PyData → Prop
  | nil : DqA H [] []
  | cons {v : V} {vs : List V} {d : PyData} {ds : List PyData} : Dq H v d → DqA H vs ds → DqA H (v :: vs) (d :: ds)
end
section
variable {X : Cx} {pins : List (Addr × Obj)} {σ : L2.St} {H : Hp} {s : Shared}
mutual
theorem Dq.reads (I : Inv X pins σ H s) : ∀ {v : V} {d : PyData} {u : Value}, Dq H v d → RelV v u → ∃ as, Reads s.heap u d as ∧ ∀ b ∈ as, H b ≠ none
  | _, _, _, .non, r => by
    cases r
    exact ⟨_, .none, fun b h => nomatch h⟩
  | _, _, _, .bl b, r => by
    cases r
    exact ⟨_, .bool b, fun b h => nomatch h⟩
  | _, _, _, .int i, r => by
    obtain ⟨t, rfl⟩ := r
    exact ⟨_, .int i t, fun b h => nomatch h⟩
  | _, _, _, .str x, r => by
    obtain ⟨t, rfl⟩ := r
    exact ⟨_, .str x t, fun b h => nomatch h⟩
  | _, _, _, .lst (a := a) (xs := xs) ha hd, r => by
    cases r
    obtain ⟨_, its, n, rv, e⟩ := (show ObjOk X.prog X.w H s.heap a (.lst xs) from I.hok a _ ha)
    obtain ⟨as, h1, h2⟩ := DqA.reads I hd rv
    refine ⟨_, .list e rfl rfl (by simpa using h1), fun b hb => ?_⟩
    rcases List.mem_cons.mp hb with rfl | hb
    · rw [ha]; simp
    · exact h2 b hb
  | _, _, _, .tup (a := a) (xs := xs) ha hd, r => by
    cases r
    obtain ⟨_, its, rv, o, e, c, n, hn⟩ := (show ObjOk X.prog X.w H s.heap a (.tup xs) from I.hok a _ ha)
    obtain ⟨as, h1, h2⟩ := DqA.reads I hd rv
    exact ⟨_, .tuple e c hn (by simpa using h1), h2⟩
  | _, _, _, .dct (a := a) ha, r => by
    cases r
    obtain ⟨_, _, vs, kv, o, es, ep, e, hx, hdt, _, hes, _⟩ := (show ObjOk X.prog X.w H s.heap a (.dK []) from I.hok a _ ha)
    cases kv
    have e0 : es.toList = [] := by
      generalize es.toList = zs at hes
      cases hes
      rfl
    refine ⟨_, .dict (kvs := []) e hx.1 hdt (by rw [e0]; exact .nil) (by rw [e0]; exact .nil), fun b hb => ?_⟩
    have : b = a := by simpa using hb
    rw [this, ha]; simp
theorem DqA.reads (I : Inv X pins σ H s) : ∀ {vs : List V} {ds : List PyData} {us : List Value}, DqA H vs ds → Vals vs us → ∃ as, ReadsAll s.heap us ds as ∧ ∀ b ∈ as, H b ≠ none
  | _, _, _, .nil, r => by
    cases r
    exact ⟨_, .nil, fun b h => nomatch h⟩
  | _, _, _, .cons hd ht, .cons r rt => by
    obtain ⟨as, h1, h2⟩ := Dq.reads I hd r
    obtain ⟨bs, h3, h4⟩ := DqA.reads I ht rt
    exact ⟨_, .cons h1 h3, fun b hb => (List.mem_append.mp hb).elim (h2 b) (h4 b)⟩
end
end
mutual
theorem Dq.same {H H' : Hp} (s : Same H H') : ∀ {v : V} {d : PyData}, Dq H v d → Dq H' v d
  | _, _, .non => .non
  | _, _, .bl b => .bl b
  | _, _, .int i => .int i
  | _, _, .str x => .str x
  | _, _, .lst ha hd => .lst (s _ _ ha) (DqA.same s hd)
  | _, _, .tup ha hd => .tup (s _ _ ha) (DqA.same s hd)
  | _, _, .dct ha => .dct (s _ _ ha)
theorem DqA.same {H H' : Hp} (s : Same H H') : ∀ {vs : List V} {ds : List PyData}, DqA H vs ds → DqA H' vs ds
  | _, _, .nil => .nil
  | _, _, .cons a b => .cons (Dq.same s a) (DqA.same s b)
end
/-- repr of a list, a tuple or an empty dict of such data -/
def rReprD : List V → Hp → VK → Prop := fun xs H Q => ∃ (a : Addr) (d : PyData), xs = [.ref a] ∧ Dq H (.ref a) d ∧ d.showable = true ∧ d.depth ≤ 64 ∧ d.shown.length ≤ sizeLine ∧ Q (.str d.shown) H
theorem call_reprD {X : Cx} {k : Nat} {ob : Obj} (hg : X.A.guards = some []) (hr : Room k X.A) (sm : X.base.get? sysModules = some ob) : CallR X (.builtin "repr") rReprD := by
  intro pins s σ H xs us Q I r h
  obtain ⟨a, d, rfl, hd, hs, hdep, hz, q⟩ := h
  obtain ⟨u, rfl, ru⟩ := vals1 r
  cases (show u = Value.ref a from ru)
  obtain ⟨as, h1, h2⟩ := hd.reads I (u := .ref a) rfl
  have no : sysModules ∉ as := fun hm => h2 _ hm (I.env0.bs _ _ sm).2
  have hu := hr.un
  refine repr_of_reads' h1 hs (fun _ => no) hg (by omega) (fun _ _ e => e) (fun h' u tk hk => ?_) hz
  exact ⟨.str d.shown, H, I.kept (t' := tk) hk, ⟨_, rfl⟩, q⟩
/-! ### the end of a law, from such a promise -/
/-- at the law's call: the tables, and the script unless the module itself holds it -/
def H0 (K : PySem.W.Frag) (tabs : List Addr) (a : Addr) (u : HO) : Hp := fun b => if b ∈ tabs then some (.tbl #[]) else if b = a ∧ K.lookup a = none then some u else none
theorem H0_tab {K : PySem.W.Frag} {tabs : List Addr} {a b : Addr} {u : HO} (h : b ∈ tabs) : H0 K tabs a u b = some (.tbl #[]) := if_pos h
theorem H0_cases {K : PySem.W.Frag} {tabs : List Addr} {a b : Addr} {u o : HO} (h : H0 K tabs a u b = some o) : (b ∈ tabs ∧ o = .tbl #[]) ∨ (b ∉ tabs ∧ b = a ∧ K.lookup a = none ∧ o = u) := by
  unfold H0 at h
  split at h
  next hb => exact .inl ⟨hb, (Option.some.inj h).symm⟩
  next hb =>
    split at h
    next hc => exact .inr ⟨hb, hc.1, hc.2, (Option.some.inj h).symm⟩
    next => cases h
theorem law_callG {P : Program} {w : World} {K : PySem.W.Frag} {mg mb : Str → Option Value} {k : Nat} {fa a : Addr} {cs : List (Addr × Addr)} {fd : FuncData} {x : Str} {sp : Sp} {st : Shared} {vs : List Value} {ns : List Int}
    (KX : K.In st.heap) (gNs : st.heap.Ns mainGlobals mg) (bNs : st.heap.Ns builtinsNs mb) (bEq : ∀ x : Str, x ≠ "__name__" → mb x = bootBuiltins x) (lim : st.heap.NoLimit) (noG : st.gens = #[])
    (isT : ∀ p ∈ cs, st.heap.get? p.2 = some { cls := .none, data := .fields #[] }) (nK : ∀ p ∈ cs, K.lookup p.2 = none) (isC : ∀ p ∈ cs, PySem.W.CodeHd st.heap p.1 p.2)
    (bMain : ∃ (bm : Addr) (ob : Obj), mg "__builtins__" = some (.ref bm) ∧ bm ≠ builtinsNs ∧ st.heap.get? bm = some ob ∧ ob.cls = .type "module" ∧ ob.dict = some builtinsNs ∧ ob.data = .plain)
    (scr : st.heap.get? a = some { cls := .type "list", data := .seq vs.toArray }) (intsA : IntsAre vs ns) (few : ns.length ≤ sizeLine) (room : Room k callerA)
    (mods : ∃ mm, st.heap.Ns sysModules mm)
    (F : ∀ base : Heap, K.In base → base.Ns mainGlobals mg → (∃ ob, base.get? sysModules = some ob) → (∀ p ∈ cs, LamX.TabB base mg p.1 p.2) → FnG P w K mg base CX0 k fa fd [x] sp) (bind : ∀ (s : Shared) (u : Value), BindsTo s fd ⟨[u], []⟩ [(x, u)])
    (hsp : ∀ H : Hp, (∀ p ∈ cs, H p.2 = some (.tbl #[])) → SqL K H a (ns.map V.int) → sp [.ref a] H (fun v _ => v = .bl true) fun _ _ _ => False) :
    codeAny (model P w) callerA (.call (.ref fa) ⟨[.ref a], []⟩) (fun r s2 => r = .ok (.ret (.bool true)) ∧ OldK st.heap s2.heap ∧ s2.os = st.os ∧ AllBare s2.gens) st := by
  have vals := vals_ints intsA
  have tabAt : ∀ b ∈ cs.map (·.2), st.heap.get? b = some { cls := .none, data := .fields #[] } := fun b hb => by
    obtain ⟨p, hp, rfl⟩ := List.mem_map.mp hb
    exact isT p hp
  generalize hu : (HO.frz { cls := .type "list", data := .seq vs.toArray } (.lst (ns.map V.int))) = u
  generalize hH : H0 K (cs.map (·.2)) a u = H
  have tabH : ∀ p ∈ cs, H p.2 = some (.tbl #[]) := fun p hp => by
    rw [← hH]
    exact H0_tab (List.mem_map.mpr ⟨p, hp, rfl⟩)
  have what : ∀ b o, H b = some o → (b ∈ cs.map (·.2) ∧ o = .tbl #[]) ∨ (b ∉ cs.map (·.2) ∧ b = a ∧ K.lookup a = none ∧ o = u) := fun b o e => by
    rw [← hH] at e
    exact H0_cases e
  have held : HOk P w H st.heap := fun b o e => by
    rcases what b o e with ⟨h1, rfl⟩ | ⟨_, rfl, _, rfl⟩
    · exact tabAt b h1
    · rw [← hu]
      exact ⟨scr, by rw [List.length_map]; exact few, vs, _, vals, scr⟩
  have seen : SqL K H a (ns.map V.int) := by
    cases hk : K.lookup a with
    | some o =>
      have e := KX a o hk
      rw [scr] at e
      cases e
      exact .inr ⟨_, vs.toArray, _, hk, rfl, rfl, rfl, by rw [List.size_toArray, intsA.length]; exact few, by simpa using vals⟩
    | none =>
      refine .inl (.inr ⟨{ cls := .type "list", data := .seq vs.toArray }, ?_⟩)
      have nt : a ∉ cs.map (·.2) := fun z => by
        have q := tabAt a z
        rw [scr] at q
        cases congrArg Obj.data (Option.some.inj q)
      rw [← hH, ← hu]
      exact (if_neg nt).trans (if_pos ⟨rfl, hk⟩)
  -- what is neither a list nor an empty table is not tracked
  have untracked : ∀ {b : Addr} {o : Obj}, st.heap.get? b = some o → (∀ us m, o.data ≠ .seq us m) → o.data ≠ .fields #[] → H b = none := fun {b o} e h1 h2 => by
    cases q : H b with
    | none => rfl
    | some z =>
      rcases what b z q with ⟨hb, _⟩ | ⟨_, rfl, _⟩
      · rw [tabAt b hb] at e
        exact absurd (congrArg Obj.data (Option.some.inj e)).symm h2
      · rw [scr] at e
        exact absurd (congrArg Obj.data (Option.some.inj e)).symm (h1 _ _)
  have stays : ∀ {b : Addr} {o : Obj}, st.heap.get? b = some o → (∀ us m, o.data ≠ .seq us m) → o.data ≠ .fields #[] → (hidT st.heap H).get? b = some o := fun e h1 h2 => hidT_get e (untracked e h1 h2)
  have names : ∀ {b : Addr} {m : Str → Option Value}, st.heap.Ns b m → (hidT st.heap H).Ns b m := fun ⟨o, es, ep, e, dt, r⟩ =>
    ⟨o, es, ep, stays e (fun _ _ z => by rw [dt] at z; cases z) (fun z => by rw [dt] at z; cases z), dt, r⟩
  have inB : K.In (hidT st.heap H) := fun b o e => hidT_get (KX b o e) (by
    cases q : H b with
    | none => rfl
    | some z =>
      rcases what b z q with ⟨hb, _⟩ | ⟨_, rfl, hn, _⟩
      · obtain ⟨p, hp, rfl⟩ := List.mem_map.mp hb
        rw [nK p hp] at e
        cases e
      · rw [hn] at e
        cases e)
  obtain ⟨mc, lim1, lim2⟩ := lim
  have modu : L2.Mod K mg (hidT st.heap H) := ⟨inB, names gNs, ⟨mb, names bNs, bEq⟩, ⟨mc, names lim1, lim2⟩⟩
  have tabB : ∀ p ∈ cs, LamX.TabB (hidT st.heap H) mg p.1 p.2 := fun p hp => by
    have atP := isT p hp
    refine { code := ?_, bm := ?_, gP := fun z => ?_ }
    · obtain ⟨o, us, file, tf, flags, tg, inF, text, tt, e1, r1, r2, r3, r4⟩ := isC p hp
      exact ⟨o, us, file, tf, flags, tg, inF, text, tt, stays e1 (fun _ _ z => by rw [r2] at z; cases z) (fun z => by rw [r2] at z; cases z; simp at r3), r1, r2, r3, r4⟩
    · obtain ⟨bm, ob, b1, b2, b3, b4, b5, b6⟩ := bMain
      refine ⟨bm, ob, b1, b2, fun z => ?_, fun z => ?_, stays b3 (fun _ _ z => by rw [b6] at z; cases z) (fun z => by rw [b6] at z; cases z), b4, b5, b6⟩
      · obtain ⟨o, es, ep, e, dt, _⟩ := gNs
        rw [z, e] at b3
        cases b3
        rw [dt] at b6
        cases b6
      · rw [z, atP] at b3
        cases b3
        cases b6
    · obtain ⟨o, es, ep, e, dt, _⟩ := gNs
      rw [z, atP] at e
      cases e
      cases dt
  have env : Env0 P w K mg (hidT st.heap H) callerA [] st H := ⟨rfl, modu, fun b o e => of_hidT e, Nat.le_of_eq (hidT_size _ _), trivial, (fun b hb => absurd (show b ∈ ([] : List Addr) from hb) (by simp)), held, .of_eq noG⟩
  have hm : ∃ ob, (hidT st.heap H).get? sysModules = some ob := by
    obtain ⟨mm, hm⟩ := mods
    obtain ⟨o, es, ep, e, _⟩ := names hm
    exact ⟨o, e⟩
  refine codeAny_mono ((F _ inB (names gNs) hm tabB).run callerA [] st H ⟨[.ref a], []⟩ [.ref a] [.ref a] _ _ rfl room env (bind st (.ref a)) (.cons rfl .nil) (hsp H tabH seen)) fun r s2 h => ?_
  match r, h with
  | .error e, h => exact (show False from h).elim
  | .ok (.ret z), h =>
    obtain ⟨v, H2, os2, bare, un, held2, rz, q⟩ := h
    cases (show v = .bl true from q)
    cases (show z = Value.bool true from rz)
    have kept : ∀ b o, b ∉ cs.map (·.2) → st.heap.get? b = some o → s2.heap.get? b = some o := fun b o nb e => by
      cases q : H b with
      | none => exact un.keep b o e q (fun z => absurd (show b ∈ ([] : List Addr) from z) (by simp)) (by simp)
      | some y =>
        rcases what b y q with ⟨hb, _⟩ | ⟨_, rfl, _, rfl⟩
        · exact absurd hb nb
        · rw [← hu] at q
          have e1 := (held2 _ _ (un.frzs _ _ _ q)).1
          rw [scr] at e
          cases e
          exact e1
    have grew : ∀ p ∈ cs, ∃ more : Array Value, s2.heap.get? p.2 = some { cls := .none, data := .fields more } := fun p hp => by
      obtain ⟨more, z⟩ := un.tbls p.2 #[] (tabH p hp)
      exact ⟨_, held2 p.2 _ z⟩
    refine ⟨rfl, ⟨fun b o e => ?_, fun b o e => ?_⟩, os2, bare⟩
    · by_cases hb : b ∈ cs.map (·.2)
      · obtain ⟨p, hp, rfl⟩ := List.mem_map.mp hb
        obtain ⟨more, hm⟩ := grew p hp
        rw [isT p hp] at e
        cases e
        exact .inr (.inl ⟨((isC p hp).tab (isT p hp)).isCodeTable, rfl, #[], more, rfl, by rw [Array.empty_append]; exact hm⟩)
      · exact .inl (kept b o hb e)
    · by_cases hb : b ∈ cs.map (·.2)
      · obtain ⟨p, hp, rfl⟩ := List.mem_map.mp hb
        obtain ⟨more, hm⟩ := grew p hp
        exact ⟨_, hm⟩
      · exact ⟨o, kept b o hb e⟩
/-- what the law's def promises where the head has ended -/
def LawG (l : PySem.W.OpenLaw) (w : World) (K : PySem.W.Frag) (k n : Nat) (x : Str) (mg : Str → Option Value) (fa : Addr) (h : Heap) : Prop :=
  ∃ (fd : FuncData) (cs : List (Addr × Addr)) (sp : Sp), (∀ p ∈ cs, h.get? p.2 = some { cls := .none, data := .fields #[] }) ∧ (∀ p ∈ cs, K.lookup p.2 = none) ∧ (∀ p ∈ cs, PySem.W.CodeHd h p.1 p.2) ∧ (∀ (s : Shared) (u : Value), BindsTo s fd ⟨[u], []⟩ [(x, u)]) ∧
    (∀ (H : Hp) (a : Addr) (ns : List Int), ns.length ≤ n → (∀ p ∈ cs, H p.2 = some (.tbl #[])) → SqL K H a (ns.map V.int) → sp [.ref a] H (fun v _ => v = .bl true) fun _ _ _ => False) ∧
    ∀ base : Heap, K.In base → base.Ns mainGlobals mg → (∃ ob, base.get? sysModules = some ob) → (∀ p ∈ cs, LamX.TabB base mg p.1 p.2) → FnG l.prog w K mg base CX0 k fa fd [x] sp
theorem walk_ofG {l : PySem.W.OpenLaw} {n k : Nat} {q : Program} {loose : List Str} {XP : (Str → Option Value) → Heap → Prop} {YP : World → Heap → Prop} {d : DefRec} {K : Params → PySem.W.Frag} {x : Str}
    (hn : l.most = some n) (hn2 : n ≤ sizeLine) (hdf : d.params.defaults = []) (hi : importsNone q = true) (hr : Room k callerA) (hY : ∀ (w : World) (h : Heap), YP w h → (K w.params).In h)
    (F : ∀ (w : World) (mg : Str → Option Value) (fa : Addr) (h : Heap), YP w h → (K w.params).In h → h.Ns mainGlobals mg → mg d.name = some (.ref fa) → LawG l w (K w.params) k n x mg fa h) :
    PySem.W.WalkO q loose XP YP l.row.toRowW d [] (fun f vs => PySem.call f vs) := by
  refine Att.attach_call hn hdf fun w t0 t1 mg mb fa o pm cd doc a vs ns gr y1 ho hd hcd hmg hobj hints hlen hgen => ?_
  obtain ⟨fd, cs, sp, c1, c2, c3, c4, c5, c6⟩ := F w mg fa _ y1 (hY w _ y1) gr.T.g hmg
  exact law_callG (hY w _ y1) gr.T.g gr.T.b gr.T.builtins gr.T.nolimit hgen c1 c2 c3 gr.T.bmain hobj hints (Nat.le_trans hlen hn2) hr (let ⟨mm, hm, _⟩ := (gr.T.seer hi).mods; ⟨mm, hm⟩) c6 c4 fun H tabs sq => c5 H a ns hlen tabs sq
end Gd

/-! the marks of the search -/
namespace My
open PySem L2 Cm LM EM SR
abbrev sMw : Stmt := top 86
abbrev sMf : Stmt := top 87
abbrev sMe : Stmt := top 88
abbrev sMq : Stmt := top 89
abbrev sMn : Stmt := top 90
abbrev MP : List Str := ["mark", "work", "behind", "left"]
structure TxMk (K : PySem.W.Frag) (mg : Str → Option Value) where
  X : TxX K mg
  list : mg "list" = none
  tuple : mg "tuple" = none
  fine : ∃ t, mg "FINE" = some (.str "fine" t)
  short : ∃ t, mg "SHORT" = some (.str "short" t)
  twice : ∃ t, mg "TWICE" = some (.str "twice" t)
  lost : ∃ t, mg "LOST" = some (.str "lost" t)
  fault : ∃ t, mg "FAULT" = some (.str "fault" t)
  mw : Df K mg "mark_whole" sMw MP
  mf : Df K mg "mark_filled" sMf MP
  me : Df K mg "mark_even" sMe MP
  mq : Df K mg "mark_quiet" sMq MP
  mn : Df K mg "mark_ends" sMn MP
theorem eqv_ints : ∀ xs ys : List Int, PyData.eqvAll (intD xs) (intD ys) = decide (xs = ys)
  | [], [] => by simp [intD, PyData.eqvAll]
  | [], y :: r => by simp [intD, PyData.eqvAll]
  | x :: r, [] => by simp [intD, PyData.eqvAll]
  | x :: r, y :: q => by
    have ih := eqv_ints r q
    unfold intD at ih ⊢
    rw [List.map_cons, List.map_cons, PyData.eqvAll, ih, PyData.eqv]
    by_cases h1 : x = y
    · subst h1
      simp
    · simp [h1]
theorem eqv_il (xs ys : List Int) : PyData.eqv (.list (intD xs)) (.list (intD ys)) = decide (xs = ys) := by rw [PyData.eqv, eqv_ints]
theorem eqv_it (xs ys : List Int) : PyData.eqv (.tuple (intD xs)) (.tuple (intD ys)) = decide (xs = ys) := by rw [PyData.eqv, eqv_ints]
theorem intD_shapedT (xs : List Int) : SeqAt.shaped (.tuple (intD xs)) = true := by
  have := intD_depth xs
  refine Bool.and_eq_true_iff.mpr ⟨by simp only [PyData.canLay0]; exact intD_lay xs, decide_eq_true ?_⟩
  simp only [PyData.depth]
  omega
theorem wt_flat : ∀ ps : List (List Int), ps.flatten.length + ps.length = wt ps
  | [] => rfl
  | p :: r => by
    have := wt_flat r
    unfold wt at this ⊢
    rw [List.flatten_cons, List.length_append, List.length_cons, List.map_cons, List.sum_cons]
    omega
theorem Pcs.getL {H : Hp} : ∀ {vs : List V} {xs : List (List Int)} {i : Nat} {y : V}, Pcs H vs xs → vs[i]? = some y → ∃ q x, xs[i]? = some x ∧ y = .ref q ∧ H q = some (.tup (ivs x))
  | _, _, i, y, .nil, h => by simp at h
  | _, _, 0, y, .cons h t, e => by
    cases e
    exact ⟨_, _, rfl, rfl, h⟩
  | _, _, i + 1, y, .cons h t, e => by
    obtain ⟨q, x, a, b, c⟩ := Pcs.getL t (i := i) e
    exact ⟨q, x, a, b, c⟩
theorem flat_take {xs : List (List Int)} {i : Nat} {x : List Int} (h : xs[i]? = some x) : (xs.take (i + 1)).flatten = (xs.take i).flatten ++ x := by
  rw [List.take_add_one, h, List.flatten_append]
  simp
section
variable {P : Program} {w : World} {K : PySem.W.Frag} {mg : Str → Option Value} {base : Heap}
/-- the promise of all of them: g what the mark becomes -/
def spMk (C : Addr) (g : Str → Nat → RP → Bool → Bool → Nat → Nat → Str) : Sp := fun vs H Q _ => ∃ (o dx ro eo p : Addr) (mark : Str) (ak sz bh left : Nat) (held : List Int) (told : Bool) (x : RP) (st : Bool), vs = [.str mark, .ref o, .int bh, .int left] ∧ ExAt C H o dx ro eo p ak sz held told x st ∧ wt x.pieces ≤ 100000 ∧ x.rest.length ≤ 100000 ∧ bh ≤ 100000 ∧
  ∀ H', Same H H' → Q (.str (g mark sz x st told bh left)) H'
theorem scMw : FnScope ["mark", "work", "behind", "left", "handed", "held", "item"] MP (defScope sMw) := ⟨rfl, rfl, rfl, by decide +kernel, rfl, by decide +kernel, by decide +kernel⟩
theorem ok_mw (T : TxMk K mg) : FnOk P w K mg base CX0 1 T.mw.f T.mw.fd MP (spMk T.X.C fun m _ x st _ b l => markWhole m x st b l) := by
  obtain ⟨t1, mF⟩ := T.fine
  obtain ⟨t3, mT⟩ := T.twice
  obtain ⟨t4, mL⟩ := T.lost
  obtain ⟨t5, mX⟩ := T.fault
  refine T.mw.F.ok scMw (fun vs H Q E h => ?_) (fun cdv A outer s H vs Q E hr h => ?_)
  · obtain ⟨o, _, _, _, _, mark, _, _, _, _, _, _, _, _, rfl, _⟩ := h
    rfl
  · obtain ⟨o, dx, ro, eo, p, mark, ak, sz, bh, left, held, told, x, st, rfl, hX, hw, hr0, hb, k⟩ := h
    refine ⟨_, (pss_cons (ps_setLc2 (i := 4) (own := [("held", 5), ("item", 6)]) (vs1 := [6]) (g := gName 5) (g1 := gName 6) (tt := tYes) (tt1 := tYes) (wi1 := iTup K (tVar 5)) (te := tVar 6) rfl scMw.nd rfl rfl (sw_true rfl rfl rfl (by decide +kernel)) (pi_list (pe_fld (pv 1) rfl)) (blkOk_by (own := [("held", 5), ("item", 6)]) (N := ["mark", "work", "behind", "left", "handed", "held", "item"]) (sc := defScope sMw) (by decide +kernel)) (by decide) (fun _ _ _ _ _ => pg_name (i := 5) scMw.nd rfl (Or.inl rfl)) (fun _ _ _ _ _ => pts_nil) (fun _ _ _ _ _ => by exact pi_tup (pv 5)) (fun _ _ _ _ _ => pg_name (i := 6) scMw.nd rfl (Or.inl rfl)) (fun _ _ _ _ _ => pts_nil) (fun _ _ _ _ _ => by exact pv 6)) (pss_cons (ps_if (PW.pt (pw_or (pt_cmpR op_eq (pv 0) (pe_glob (v := .str "lost") rfl mL ⟨_, rfl⟩) (nomark _)) (pw_or1 (pt_cmpR (op_neD (hu64 hr)) (pv 4) (pe_listRg rfl rfl T.list (prg_1 rfl T.X.range (pe_callB call_len_seq (by rfl) T.X.len PySem.boot_len (pa_cons (pv 4) pa_nil)))) (nomark _))))) (pss_one (ps_ret (pe_ifExp (pt_val (pe_fld (pv 1) rfl)) (pe_glob (v := .str "fault") rfl mX ⟨_, rfl⟩) (pe_glob (v := .str "lost") rfl mL ⟨_, rfl⟩)))) pss_nil) (pss_cons (ps_if (pt_val (pe_fld (pv 1) rfl)) (pss_one (ps_ret (pe_ifExp (PW.pt (pw_and (pt_cmpR op_eq (pe_callB call_len_seq (by rfl) T.X.len PySem.boot_len (pa_cons (pv 4) pa_nil)) (pv 2) (nomark _)) (pw_and1 (pt_cmpR op_eq (pv 3) pe_int (nomark _))))) (pe_glob (v := .str "fine") rfl mF ⟨_, rfl⟩) (pe_glob (v := .str "fault") rfl mX ⟨_, rfl⟩)))) pss_nil) (pss_cons (ps_if (pt_cmpR (op_eqD (hu64 hr)) (pe_fld (pv 1) rfl) (pe_tupRg rfl rfl T.tuple (prg_2 rfl T.X.range (pe_callB call_len_seq (by rfl) T.X.len PySem.boot_len (pa_cons (pv 4) pa_nil)) (pv 2))) (nomark _)) (pss_one (ps_ret (pe_glob (v := .str "fine") rfl mF ⟨_, rfl⟩))) pss_nil) (pss_one (ps_ret (pe_ifExp (pt_cmpR op_eq (pe_callB call_len_seq (by rfl) T.X.len PySem.boot_len (pa_cons (pv 4) pa_nil)) (pv 2) (nomark _)) (pe_glob (v := .str "twice") rfl mT ⟨_, rfl⟩) (pe_glob (v := .str "lost") rfl mL ⟨_, rfl⟩)))))))), ?_⟩
    obtain ⟨h0, r0, vs0, e0, _, hr0', hp0, hP⟩ := id hX.ex
    have lw := wt_flat x.pieces
    have lp := hP.len
    refine ⟨_, rfl, o, T.X.C, dx, _, _, rfl, e0, T.X.cl, T.X.nP, xf_p .., p, rfl, ⟨_, SqL.of hp0⟩, fun D nD => ?_⟩
    refine L2c.lc2_it (walk_list (K := K) (a := p) (xs := vs0)) (fun i H' => Same H H' ∧ H' D = some (.lst (ivs ((x.pieces.take i).flatten)))) ⟨same_new nD, upd_same⟩ (fun i H' _ ⟨s', _⟩ => SqL.of (s' _ _ hp0)) ?_ ?_
    · rintro i y H1 H1' hi ⟨s1, hD⟩ ⟨rfl, hy⟩
      obtain ⟨q, pc, hpc, rfl, hq⟩ := hP.getL hy
      refine ⟨rfl, _, rfl, q, rfl, ⟨_, SqT.of (s1 _ _ hq)⟩, L2c.in_it (walk_tup (K := K) (a := q) (xs := ivs pc)) (fun j H' => Same H H' ∧ H' D = some (.lst (ivs ((x.pieces.take i).flatten ++ pc.take j)))) ⟨s1, by rw [List.take_zero, List.append_nil]; exact hD⟩ (fun j H' _ ⟨s', _⟩ => SqT.of (s' _ _ hq)) ?_ ?_⟩
      · rintro j z H2 H2' hj ⟨s2, hD2⟩ ⟨rfl, hz⟩
        obtain ⟨n, hn, rfl⟩ : ∃ n, pc[j]? = some n ∧ z = .int n := by
          unfold ivs at hz
          rw [List.getElem?_map] at hz
          cases h : pc[j]? with
          | none => rw [h] at hz; cases hz
          | some n => rw [h] at hz; exact ⟨n, rfl, (Option.some.inj hz).symm⟩
        refine ⟨rfl, _, rfl, _, hD2, ?_, fun b u e => ?_, ?_⟩
        · rw [ivs_len]
          have l1 : ((x.pieces.take i).flatten ++ pc.take j).length ≤ x.pieces.flatten.length := by
            have := flat_take hpc
            have l2 : ((x.pieces.take i).flatten ++ pc).length ≤ x.pieces.flatten.length := by
              rw [← this]
              have e : x.pieces = x.pieces.take (i + 1) ++ x.pieces.drop (i + 1) := (List.take_append_drop _ _).symm
              conv => rhs; rw [e]
              rw [List.flatten_append, List.length_append]
              omega
            rw [List.length_append] at l2 ⊢
            rw [List.length_take]
            omega
          exact szM (by omega)
        · rw [upd_ne (ne_of_none e nD)]
          exact s2 _ _ e
        · rw [upd_same, List.take_add_one, hn]
          simp [ivs]
      · rintro H2 ⟨s2, hD2⟩
        rw [ivs_len, List.take_length, ← flat_take hpc] at hD2
        exact ⟨s2, hD2⟩
    · rintro H1 ⟨s1, hD⟩
      rw [lp, List.take_length] at hD
      generalize hfl : x.pieces.flatten = fl at hD lw
      replace k : ∀ H', Same H H' → Q (.str (markWhole mark x st bh left)) H' := k
      unfold markWhole at k
      rw [hfl] at k
      refine ⟨_, rfl, rfl, _, rfl, ?_⟩
      rw [show decide (V.str mark = V.str "lost") = decide (mark = "lost") from dS ..]
      by_cases c1 : mark = "lost"
      · rw [if_pos (.inl c1)] at k
        rw [decide_eq_true c1]
        refine iteT ⟨_, rfl, o, T.X.C, dx, _, _, rfl, s1 _ _ e0, T.X.cl, T.X.nSt, xf_st .., _, rfl, ?_⟩
        cases st with
        | true => exact iteT (k _ s1)
        | false => exact iteF (k _ s1)
      rw [decide_eq_false c1]
      refine iteF ⟨_, rfl, _, rfl, D, _, rfl, .inl (SqL.of hD), _, rfl, RgOk.of_le (by omega) (by rw [ivs_len]; omega) (by omega) (by omega), fun q nq => ?_⟩
      rw [ivs_len, show rgV 0 ((fl.length : Nat) : Int) = ivs (rgI 0 fl.length) from by rw [← rgV_rgI, Int.zero_add]]
      have u2 := same_new (o := .lst (ivs (rgI 0 fl.length))) nq
      refine ⟨.list (intD fl), .list (intD (rgI 0 fl.length)), .lst (SqL.of (u2 _ _ hD)) (dpI _), .lst (SqL.of upd_same) (dpI _), intD_shaped _, intD_shaped _, _, rfl, ?_⟩
      rw [eqv_il]
      have s2 := Same.trans s1 u2
      have hD2 := u2 _ _ hD
      generalize upd H1 q (.lst (ivs (rgI 0 fl.length))) = H2 at s2 hD2 ⊢
      by_cases c2 : fl = rgI 0 fl.length
      · rw [decide_eq_true c2]
        have n1 : ¬ (mark = "lost" ∨ fl ≠ rgI 0 fl.length) := fun z => z.elim c1 fun z => z c2
        rw [if_neg n1] at k
        refine iteF ⟨_, rfl, o, T.X.C, dx, _, _, rfl, s2 _ _ e0, T.X.cl, T.X.nSt, xf_st .., _, rfl, ?_⟩
        cases st with
        | true =>
          rw [if_pos rfl] at k
          refine iteT ⟨_, rfl, D, _, rfl, .inl (SqL.of hD2), _, rfl, rfl, _, rfl, ?_⟩
          rw [ivs_len, dI]
          by_cases c3 : fl.length = bh
          · rw [show decide (((fl.length : Nat) : Int) = (bh : Nat)) = true from decide_eq_true (by omega)]
            refine iteT ⟨_, rfl, rfl, _, rfl, ?_⟩
            rw [dI]
            by_cases c4 : left = 0
            · rw [if_pos ⟨c3, c4⟩] at k
              rw [show decide (((left : Nat) : Int) = 0) = true from decide_eq_true (by omega)]
              exact iteT (k _ s2)
            · rw [if_neg (fun z => c4 z.2)] at k
              rw [show decide (((left : Nat) : Int) = 0) = false from decide_eq_false (by omega)]
              exact iteF (k _ s2)
          · rw [if_neg (fun z => c3 z.1)] at k
            rw [show decide (((fl.length : Nat) : Int) = (bh : Nat)) = false from decide_eq_false (by omega)]
            exact iteF (k _ s2)
        | false =>
          rw [if_neg (by decide)] at k
          refine iteF ⟨_, rfl, o, T.X.C, dx, _, _, rfl, s2 _ _ e0, T.X.cl, T.X.nR, xf_r .., _, rfl, D, _, rfl, .inl (SqL.of hD2), _, rfl, _, _, rfl, rfl, RgOk.of_le (by omega) (by omega) (by rw [ivs_len]; omega) (by omega), fun q3 nq3 => ?_⟩
          rw [ivs_len, rgV_rgB]
          have u3 := same_new (o := .tup (ivs (rgB (fl.length : Nat) (bh : Nat)))) nq3
          refine ⟨.tuple (intD x.rest), .tuple (intD (rgB (fl.length : Nat) (bh : Nat))), .tup (SqT.of (u3 _ _ (s2 _ _ hr0'))) (dpI _), .tup (SqT.of upd_same) (dpI _), intD_shapedT _, intD_shapedT _, _, rfl, ?_⟩
          rw [eqv_it]
          have s3 := Same.trans s2 u3
          by_cases c5 : x.rest = rgB (fl.length : Nat) (bh : Nat)
          · rw [if_pos c5] at k
            rw [decide_eq_true c5]
            exact iteT (k _ s3)
          · rw [if_neg c5] at k
            rw [decide_eq_false c5]
            refine iteF ⟨_, rfl, D, _, rfl, .inl (SqL.of (u3 _ _ hD2)), _, rfl, rfl, _, rfl, ?_⟩
            rw [ivs_len, dI]
            by_cases c3 : fl.length = bh
            · rw [if_pos c3] at k
              rw [show decide (((fl.length : Nat) : Int) = (bh : Nat)) = true from decide_eq_true (by omega)]
              exact iteT (k _ s3)
            · rw [if_neg c3] at k
              rw [show decide (((fl.length : Nat) : Int) = (bh : Nat)) = false from decide_eq_false (by omega)]
              exact iteF (k _ s3)
      · rw [decide_eq_false c2]
        rw [if_pos (.inr c2)] at k
        refine iteT ⟨_, rfl, o, T.X.C, dx, _, _, rfl, s2 _ _ e0, T.X.cl, T.X.nSt, xf_st .., _, rfl, ?_⟩
        cases st with
        | true => exact iteT (k _ s2)
        | false => exact iteF (k _ s2)
/-! ### filled -/
theorem any_nil : ∀ ps : List (List Int), ((ps.map fun p => PyData.tuple (intD p)).any fun z => PyData.eqv z (.tuple [])) = decide ([] ∈ ps)
  | [] => by simp
  | p :: r => by
    rw [List.map_cons, List.any_cons, any_nil r]
    have e : PyData.eqv (.tuple (intD p)) (.tuple []) = decide (p = []) := eqv_it p []
    rw [e]
    by_cases h : p = []
    · subst h; simp
    · have : ¬ ([] = p) := fun z => h z.symm
      simp [h, this]
theorem pcD_lay : ∀ ps : List (List Int), PyData.canLayAll0 (ps.map fun p => PyData.tuple (intD p)) = true ∧ PyData.depthAll (ps.map fun p => PyData.tuple (intD p)) ≤ 2
  | [] => ⟨by simp [PyData.canLayAll0], by simp [PyData.depthAll]⟩
  | p :: q => by
    obtain ⟨a, b⟩ := pcD_lay q
    have h := intD_depth p
    rw [List.map_cons]
    refine ⟨?_, ?_⟩
    · rw [PyData.canLayAll0, a, PyData.canLay0, intD_lay]; rfl
    · rw [PyData.depthAll]; exact Nat.max_le.mpr ⟨by rw [PyData.depth]; omega, b⟩
theorem pc_shaped (ps : List (List Int)) : SeqAt.shaped (.list (ps.map fun p => PyData.tuple (intD p))) = true := by
  obtain ⟨a, b⟩ := pcD_lay ps
  refine Bool.and_eq_true_iff.mpr ⟨by simp only [PyData.canLay0]; exact a, decide_eq_true ?_⟩
  simp only [PyData.depth]
  omega
theorem pc_dp {H : Hp} : ∀ {vs ps}, Pcs H vs ps → DpAll K H vs (ps.map fun p => PyData.tuple (intD p))
  | _, _, .nil => .nil
  | _, _, .cons h t => .cons (.tup (SqT.of h) (dpI _)) (pc_dp t)
theorem scMf : FnScope MP MP (defScope sMf) := ⟨rfl, rfl, rfl, by decide +kernel, rfl, by decide +kernel, by decide +kernel⟩
theorem ok_mf (T : TxMk K mg) : FnOk P w K mg base CX0 1 T.mf.f T.mf.fd MP (spMk T.X.C fun _ _ x _ _ _ _ => if [] ∈ x.pieces then "fault" else "fine") := by
  obtain ⟨t1, mF⟩ := T.fine
  obtain ⟨t5, mX⟩ := T.fault
  refine T.mf.F.ok scMf (fun vs H Q E h => ?_) (fun cdv A outer s H vs Q E hr h => ?_)
  · obtain ⟨o, _, _, _, _, mark, _, _, _, _, _, _, _, _, rfl, _⟩ := h
    rfl
  · obtain ⟨o, dx, ro, eo, p, mark, ak, sz, bh, left, held, told, x, st, rfl, hX, hw, hr0, hb, k⟩ := h
    refine ⟨_, (pss_one (ps_ret (pe_ifExp (pt_cmpR (op_inD (by have := hr.un; show (A.deeper _).units + 65 < cLine; omega)) (pe_tup pa_nil) (pe_fld (pv 1) rfl) (by rfl)) (pe_glob (v := .str "fault") rfl mX ⟨_, rfl⟩) (pe_glob (v := .str "fine") rfl mF ⟨_, rfl⟩)))), ?_⟩
    obtain ⟨h0, r0, vs0, e0, _, _, hp0, hP⟩ := id hX.ex
    refine ⟨Nat.zero_le _, fun z nz => ?_⟩
    have u1 := same_new (o := .tup []) nz
    replace k : ∀ H', Same H H' → Q (.str (if [] ∈ x.pieces then "fault" else "fine")) H' := k
    refine ⟨_, rfl, o, T.X.C, dx, _, _, rfl, u1 _ _ e0, T.X.cl, T.X.nP, xf_p .., .tuple [], _, .tup (SqT.of upd_same) .nil, .lst (SqL.of (u1 _ _ hp0)) (pc_dp (hP.mono fun _ _ e => u1 _ _ e)), by decide, pc_shaped _, _, rfl, ?_⟩
    rw [any_nil]
    by_cases c : [] ∈ x.pieces
    · rw [if_pos c] at k
      rw [decide_eq_true c]
      exact iteT (k _ u1)
    · rw [if_neg c] at k
      rw [decide_eq_false c]
      exact iteF (k _ u1)
/-! ### even -/
theorem scMe : FnScope ["mark", "work", "behind", "left", "held"] MP (defScope sMe) := ⟨rfl, rfl, rfl, by decide +kernel, rfl, by decide +kernel, by decide +kernel⟩
theorem ok_me (T : TxMk K mg) : FnOk P w K mg base CX0 1 T.me.f T.me.fd MP (spMk T.X.C fun m sz x _ _ _ _ => evenM sz m x.pieces) := by
  obtain ⟨t2, mS⟩ := T.short
  obtain ⟨t5, mX⟩ := T.fault
  refine T.me.F.ok scMe (fun vs H Q E h => ?_) (fun cdv A outer s H vs Q E hr h => ?_)
  · obtain ⟨o, _, _, _, _, mark, _, _, _, _, _, _, _, _, rfl, _⟩ := h
    rfl
  · obtain ⟨o, dx, ro, eo, p, mark, ak, sz, bh, left, held, told, x, st, rfl, hX, hw, hr0, hb, k⟩ := h
    refine ⟨_, (pss_cons (ps_for PassesOwn.never rfl (pi_list (pe_fld (pv 1) rfl)) (pg_name (i := 4) scMe.nd rfl (.inl rfl)) (pss_cons (ps_if (PW.pt (pw_or (pt_cmpR op_eq (pv 0) (pe_glob (v := .str "short") rfl mS ⟨_, rfl⟩) (nomark _)) (pw_or1 (pt_cmpR op_gt (pe_callB call_len_seq (by rfl) T.X.len PySem.boot_len (pa_cons (pv 4) pa_nil)) (pe_fld (pv 1) rfl) (nomark _))))) (pss_one (ps_ret (pe_glob (v := .str "fault") rfl mX ⟨_, rfl⟩))) pss_nil) (pss_one (ps_if (pt_cmpR op_lt (pe_callB call_len_seq (by rfl) T.X.len PySem.boot_len (pa_cons (pv 4) pa_nil)) (pe_fld (pv 1) rfl) (nomark _)) (pss_one (ps_set (i := 0) scMe.nd rfl (.inl rfl) (pe_glob (v := .str "short") rfl mS ⟨_, rfl⟩))) pss_nil)))) (pss_one (ps_ret (pv 0)))), ?_⟩
    obtain ⟨h0, r0, vs0, e0, _, _, hp0, hP⟩ := id hX.ex
    have lp := hP.len
    replace k : ∀ H', Same H H' → Q (.str (evenM sz mark x.pieces)) H' := k
    refine ⟨_, rfl, o, T.X.C, dx, _, _, rfl, e0, T.X.cl, T.X.nP, xf_p .., p, rfl, ⟨_, SqL.of hp0⟩, ?_⟩
    refine for_list (K := K) (a := p) (xs := vs0) (fun i σ H' => ∃ (m : Str) (v4 : Option V), σ = [some (.str m), some (.ref o), some (.int bh), some (.int left), v4] ∧ H' = H ∧ evenM sz m (x.pieces.drop i) = evenM sz mark x.pieces) ⟨mark, none, rfl, rfl, by rw [List.drop_zero]⟩ (fun i σ H' _ ⟨_, _, _, eH, _⟩ => by rw [eH]; exact SqL.of hp0) ?_ ?_
    · rintro i y σ H' hy ⟨m, v4, rfl, rfl, em⟩
      obtain ⟨q, pc, hpc, rfl, hq⟩ := hP.getL hy
      have ed : x.pieces.drop i = pc :: x.pieces.drop (i + 1) := by
        obtain ⟨hi, he⟩ := List.getElem?_eq_some_iff.mp hpc
        rw [← he]
        exact List.drop_eq_getElem_cons hi
      rw [ed] at em
      have emd : evenM sz m (pc :: x.pieces.drop (i + 1)) = if m = "short" ∨ sz < pc.length then ("fault" : Str) else evenM sz (if pc.length < sz then "short" else m) (x.pieces.drop (i + 1)) := rfl
      rw [emd] at em
      refine ⟨_, rfl, rfl, _, rfl, ?_⟩
      rw [show decide (V.str m = V.str "short") = decide (m = "short") from dS ..]
      by_cases c1 : m = "short"
      · rw [if_pos (.inl c1)] at em
        rw [decide_eq_true c1]
        rw [← em] at k
        exact iteT (k _ (Same.refl _))
      rw [decide_eq_false c1]
      refine iteF ⟨_, rfl, q, _, rfl, .inr (SqT.of hq), _, rfl, o, T.X.C, dx, _, _, rfl, e0, T.X.cl, T.X.nSz, xf_sz .., _, _, rfl, rfl, _, rfl, ?_⟩
      rw [ivs_len]
      by_cases c2 : sz < pc.length
      · rw [if_pos (.inr c2)] at em
        rw [show decide (((sz : Nat) : Int) < ((pc.length : Nat) : Int)) = true from decide_eq_true (by omega)]
        rw [← em] at k
        exact iteT (k _ (Same.refl _))
      · rw [if_neg (fun z => z.elim c1 c2)] at em
        rw [show decide (((sz : Nat) : Int) < ((pc.length : Nat) : Int)) = false from decide_eq_false (by omega)]
        refine iteF ⟨_, rfl, q, _, rfl, .inr (SqT.of hq), _, rfl, o, T.X.C, dx, _, _, rfl, e0, T.X.cl, T.X.nSz, xf_sz .., _, _, rfl, rfl, _, rfl, ?_⟩
        rw [ivs_len]
        by_cases c3 : pc.length < sz
        · rw [if_pos c3] at em
          rw [show decide (((pc.length : Nat) : Int) < ((sz : Nat) : Int)) = true from decide_eq_true (by omega)]
          exact iteT ⟨_, _, rfl, rfl, em⟩
        · rw [if_neg c3] at em
          rw [show decide (((pc.length : Nat) : Int) < ((sz : Nat) : Int)) = false from decide_eq_false (by omega)]
          exact iteF ⟨_, _, rfl, rfl, em⟩
    · rintro σ H' ⟨m, v4, rfl, rfl, em⟩
      rw [lp, List.drop_length] at em
      replace k : ∀ H'_1, Same H' H'_1 → Q (.str (evenM sz mark x.pieces)) H'_1 := k
      have em2 : m = evenM sz mark x.pieces := em
      rw [← em2] at k
      exact ⟨_, rfl, k _ (Same.refl _)⟩
/-! ### quiet, ends -/
theorem scMq : FnScope MP MP (defScope sMq) := ⟨rfl, rfl, rfl, by decide +kernel, rfl, by decide +kernel, by decide +kernel⟩
theorem scMn : FnScope MP MP (defScope sMn) := ⟨rfl, rfl, rfl, by decide +kernel, rfl, by decide +kernel, by decide +kernel⟩
theorem ok_mq (T : TxMk K mg) : FnOk P w K mg base CX0 1 T.mq.f T.mq.fd MP (spMk T.X.C fun _ _ _ st told _ _ => if told = true ∧ st = false then "fault" else "fine") := by
  obtain ⟨t1, mF⟩ := T.fine
  obtain ⟨t5, mX⟩ := T.fault
  refine T.mq.F.ok scMq (fun vs H Q E h => ?_) (fun cdv A outer s H vs Q E hr h => ?_)
  · obtain ⟨o, _, _, _, _, mark, _, _, _, _, _, _, _, _, rfl, _⟩ := h
    rfl
  · obtain ⟨o, dx, ro, eo, p, mark, ak, sz, bh, left, held, told, x, st, rfl, hX, hw, hr0, hb, k⟩ := h
    refine ⟨_, (pss_one (ps_ret (pe_ifExp (PW.pt (pw_and (pt_val (pe_fld (pv 1) rfl)) (pw_and1 (pt_not (pt_val (pe_fld (pv 1) rfl)))))) (pe_glob (v := .str "fault") rfl mX ⟨_, rfl⟩) (pe_glob (v := .str "fine") rfl mF ⟨_, rfl⟩)))), ?_⟩
    obtain ⟨h0, r0, vs0, e0, _⟩ := id hX.ex
    refine ⟨_, rfl, o, T.X.C, dx, _, _, rfl, e0, T.X.cl, T.X.nT, xf_t .., _, rfl, ?_⟩
    cases told with
    | false => exact iteF (iteF (k _ (Same.refl _)))
    | true =>
      refine iteT ⟨_, rfl, o, T.X.C, dx, _, _, rfl, e0, T.X.cl, T.X.nSt, xf_st .., _, rfl, ?_⟩
      cases st with
      | true => exact iteF (k _ (Same.refl _))
      | false => exact iteT (k _ (Same.refl _))
theorem ok_mn (T : TxMk K mg) : FnOk P w K mg base CX0 1 T.mn.f T.mn.fd MP (spMk T.X.C fun _ _ _ _ _ _ _ => "fine") := by
  obtain ⟨t1, mF⟩ := T.fine
  refine T.mn.F.ok scMn (fun vs H Q E h => ?_) (fun cdv A outer s H vs Q E hr h => ?_)
  · obtain ⟨o, _, _, _, _, mark, _, _, _, _, _, _, _, _, rfl, _⟩ := h
    rfl
  · obtain ⟨o, dx, ro, eo, p, mark, ak, sz, bh, left, held, told, x, st, rfl, hX, hw, hr0, hb, k⟩ := h
    exact ⟨_, pss_one (ps_ret (pe_glob (v := .str "fine") rfl mF ⟨_, rfl⟩)), k _ (Same.refl _)⟩
end
end My

/-! faults seen by executing the loop once more: is_uneven, breaks_.. -/
namespace My
open PySem L2 Cm LM EM
abbrev sUnv : Stmt := top 71
abbrev sBw : Stmt := top 72
abbrev sBf : Stmt := top 73
abbrev sBe : Stmt := top 74
abbrev sBq : Stmt := top 76
abbrev sBn : Stmt := top 77
abbrev BP : List Str := ["before", "work", "items"]
structure TxFa (w : World) (K : PySem.W.Frag) (mg : Str → Option Value) where
  U : TxUa K mg
  N : TxN K mg
  Xn : TxXn K mg
  eX : Xn.X = N.X
  list : mg "list" = none
  sum : mg "sum" = none
  unv : Df K mg "is_uneven" sUnv ["work"]
  bw : Df K mg "breaks_whole" sBw BP
  bf : Df K mg "breaks_filled" sBf BP
  be : Df K mg "breaks_even" sBe BP
  bq : Df K mg "breaks_quiet" sBq ["work", "replies"]
  bn : Df K mg "breaks_ends" sBn ["work", "source", "items", "replies"]
theorem sIx_m1 (n d : Nat) : HT.sIx n d (some (-1)) = n - 1 := by
  show (if (-1 : Int) < 0 then ((-1 : Int) + (n : Int)).toNat else min (-1 : Int).toNat n) = _
  rw [if_pos (by omega)]
  omega
theorem cut_m1 (xs : List V) : cutV xs none (some (-1)) = xs.dropLast := by
  unfold cutV
  rw [HT.sIx_none, sIx_m1, List.dropLast_eq_take]
  rfl
theorem cut_last (xs : List V) : cutV xs (some (-1)) none = xs.drop (xs.length - 1) := by
  unfold cutV
  rw [HT.sIx_none, sIx_m1]
  exact List.take_of_length_le (by rw [List.length_drop]; exact Nat.le_refl _)
/-- the lengths of pieces -/
def lnV (ps : List (List Int)) : List V := ps.map fun p => V.int (p.length : Nat)
theorem lnV_len (ps : List (List Int)) : (lnV ps).length = ps.length := List.length_map ..
theorem lnV_get {ps : List (List Int)} {i : Nat} {y : V} (h : (lnV ps)[i]? = some y) : ∃ p, ps[i]? = some p ∧ y = .int (p.length : Nat) := by
  unfold lnV at h
  rw [List.getElem?_map] at h
  cases e : ps[i]? with
  | none => rw [e] at h; cases h
  | some p => rw [e] at h; exact ⟨p, rfl, (Option.some.inj h).symm⟩
theorem take_get {α : Type} {l : List α} {i : Nat} {x : α} (h : l[i]? = some x) : l.take (i + 1) = l.take i ++ [x] := by rw [List.take_add_one, h]; rfl
theorem filt_snoc {α : Type} (f : α → Bool) (l : List α) (x : α) : (l ++ [x]).filter f = l.filter f ++ (if f x = true then [x] else []) := by
  rw [List.filter_append]
  congr 1
  by_cases h : f x = true
  · rw [if_pos h, List.filter_cons_of_pos h]; rfl
  · rw [if_neg h, List.filter_cons_of_neg h]; rfl
theorem any_filt {α : Type} (f : α → Bool) (l : List α) : decide (0 < (l.filter f).length) = l.any f := by
  cases h : l.any f with
  | true =>
    obtain ⟨x, hx, e⟩ := List.any_eq_true.mp h
    exact decide_eq_true (List.length_pos_iff.mpr (List.ne_nil_of_mem (List.mem_filter.mpr ⟨hx, e⟩)))
  | false =>
    have : l.filter f = [] := List.filter_eq_nil_iff.mpr fun x hx z => by
      have := List.any_eq_false.mp h x hx
      exact this z
    rw [this]
    rfl
section
variable {P : Program} {w : World} {K : PySem.W.Frag} {mg : Str → Option Value} {base : Heap}
def tLenH (i : Nat) : TE := fun σ H Q => ∃ (a : Addr) (xs : List V), σ[i]? = some (some (.ref a)) ∧ H a = some (.tup xs) ∧ Q (.int (xs.length : Nat)) H
def tGtW (C : Addr) : TT := fun σ H Q => ∃ (n : Nat) (o dx ro eo p : Addr) (ak sz : Nat) (held : List Int) (told : Bool) (x : RP) (st : Bool), σ[5]? = some (some (.int (n : Nat))) ∧ σ[0]? = some (some (.ref o)) ∧ ExAt C H o dx ro eo p ak sz held told x st ∧ Q (decide (sz < n)) H
def tLtW (C : Addr) : TT := fun σ H Q => ∃ (n : Nat) (o dx ro eo p : Addr) (ak sz : Nat) (held : List Int) (told : Bool) (x : RP) (st : Bool), σ[5]? = some (some (.int (n : Nat))) ∧ σ[0]? = some (some (.ref o)) ∧ ExAt C H o dx ro eo p ak sz held told x st ∧ Q (decide (n < sz)) H
/-! ### is_uneven -/
def spUnv (C : Addr) : Sp := fun vs H Q _ => ∃ (o dx ro eo p : Addr) (ak sz : Nat) (held : List Int) (told : Bool) (x : RP) (st : Bool), vs = [.ref o] ∧ ExAt C H o dx ro eo p ak sz held told x st ∧ x.pieces.length ≤ 400000 ∧ ∀ H', Same H H' → Q (.bl (FJ.unevP sz x.pieces)) H'
abbrev NUv : List Str := ["work", "sizes", "too_long", "too_short", "held", "size"]
theorem scUv : FnScope NUv ["work"] (defScope sUnv) := ⟨rfl, rfl, rfl, by decide +kernel, rfl, by decide +kernel, by decide +kernel⟩
theorem ok_unv (T : TxFa w K mg) : FnOk P w K mg base CX0 1 T.unv.f T.unv.fd ["work"] (spUnv T.N.X.C) := by
  refine T.unv.F.ok scUv (fun vs H Q E h => ?_) (fun cdv A outer s H vs Q E hr h => ?_)
  · obtain ⟨o, _, _, _, _, _, _, _, _, _, _, rfl, _⟩ := h
    rfl
  · obtain ⟨o, dx, ro, eo, p, ak, sz, held, told, x, st, rfl, hX, hl, k⟩ := h
    refine ⟨_, (pss_cons (ps_setLc (i := 1) (own := [("held", 4)]) (g := gName 4) (tt := tYes) (te := (tLenH 4)) rfl scUv.nd rfl rfl (sw_true rfl rfl rfl (by decide +kernel)) (pi_list (pe_fld (pv 0) rfl)) (blkOk_by (own := [("held", 4)]) (N := NUv) (sc := defScope sUnv) (by decide +kernel)) (fun _ _ _ _ _ => pg_name (i := 4) scUv.nd rfl (Or.inl rfl)) (fun _ _ _ _ _ => by exact pts_nil) (fun _ _ _ _ _ => by exact pe_imp (t' := tLenH 4) (pe_callB call_len_seq (by rfl) T.N.X.len PySem.boot_len (pa_cons (pv 4) pa_nil)) (fun σ H1 Q1 ⟨q, xs, h4, hq, k⟩ => ⟨_, h4, q, _, rfl, .inr (SqT.of hq), k⟩))) (pss_cons (ps_setLc (i := 2) (own := [("size", 5)]) (g := gName 5) (tt := (tGtW T.N.X.C)) (te := (tVar 5)) rfl scUv.nd rfl rfl (sw_true rfl rfl rfl (by decide +kernel)) (pi_list (pv 1)) (blkOk_by (own := [("size", 5)]) (N := NUv) (sc := defScope sUnv) (by decide +kernel)) (fun _ _ _ _ _ => pg_name (i := 5) scUv.nd rfl (Or.inl rfl)) (fun _ _ _ _ _ => by exact pts_one (pt_imp (t' := tGtW T.N.X.C) (pt_cmpR op_gt (pv 5) (pe_fld (pv 0) rfl) (nomark _)) (fun σ H1 Q1 ⟨n, o, dx, _, _, _, _, sz, _, _, _, _, h5, h0, hX, q⟩ => by obtain ⟨_, _, _, e0, _⟩ := hX.ex; refine ⟨_, h5, _, h0, o, T.N.X.C, dx, _, _, rfl, e0, T.N.X.cl, T.N.X.nSz, xf_sz .., _, _, rfl, rfl, _, rfl, ?_⟩; rw [show decide (((sz : Nat) : Int) < ((n : Nat) : Int)) = decide (sz < n) from decide_eq_decide.mpr (by omega)]; exact q))) (fun _ _ _ _ _ => by exact pv 5)) (pss_cons (ps_setLc (i := 3) (own := [("size", 5)]) (g := gName 5) (tt := (tLtW T.N.X.C)) (te := (tVar 5)) rfl scUv.nd rfl rfl (sw_true rfl rfl rfl (by decide +kernel)) (pi_list (pe_slice sl_list (pv 1) po_none (po_some (pe_un un_neg pe_int)))) (blkOk_by (own := [("size", 5)]) (N := NUv) (sc := defScope sUnv) (by decide +kernel)) (fun _ _ _ _ _ => pg_name (i := 5) scUv.nd rfl (Or.inl rfl)) (fun _ _ _ _ _ => by exact pts_one (pt_imp (t' := tLtW T.N.X.C) (pt_cmpR op_lt (pv 5) (pe_fld (pv 0) rfl) (nomark _)) (fun σ H1 Q1 ⟨n, o, dx, _, _, _, _, sz, _, _, _, _, h5, h0, hX, q⟩ => by obtain ⟨_, _, _, e0, _⟩ := hX.ex; refine ⟨_, h5, _, h0, o, T.N.X.C, dx, _, _, rfl, e0, T.N.X.cl, T.N.X.nSz, xf_sz .., _, _, rfl, rfl, _, rfl, ?_⟩; rw [show decide (((n : Nat) : Int) < ((sz : Nat) : Int)) = decide (n < sz) from decide_eq_decide.mpr (by omega)]; exact q))) (fun _ _ _ _ _ => by exact pv 5)) (pss_one (ps_ret (pe_cmpR op_gt (pe_callB call_len_seq (by rfl) T.N.X.len PySem.boot_len (pa_cons (pe_op op_cat (pv 2) (pv 3)) pa_nil)) pe_int (nomark _))))))), ?_⟩
    obtain ⟨h0, r0, vs0, e0, _, hr0', hp0, hP⟩ := id hX.ex
    have lp := hP.len
    refine ⟨_, rfl, o, T.N.X.C, dx, _, _, rfl, e0, T.N.X.cl, T.N.X.nP, xf_p .., p, rfl, ⟨_, SqL.of hp0⟩, fun D nD => ?_⟩
    refine lc_list (K := K) (a := p) (xs := vs0) (fun i H' => Same H H' ∧ H' D = some (.lst (lnV (x.pieces.take i)))) ⟨same_new nD, upd_same⟩ (fun i H' _ ⟨s', _⟩ => SqL.of (s' _ _ hp0)) ?_ ?_
    · rintro i y H1 hy ⟨s1, hD⟩
      obtain ⟨q, pc, hpc, rfl, hq⟩ := hP.getL hy
      refine ⟨rfl, q, _, rfl, s1 _ _ hq, _, hD, szM (by rw [lnV_len, List.length_take]; omega), fun b u e => ?_, ?_⟩
      · rw [upd_ne (ne_of_none e nD)]
        exact s1 _ _ e
      · rw [upd_same, take_get hpc, ivs_len]
        simp [lnV]
    rintro H1 ⟨s1, hD⟩
    rw [lp, List.take_length] at hD
    refine ⟨_, rfl, D, rfl, ⟨_, SqL.of hD⟩, fun D2 nD2 => ?_⟩
    refine lc_list (K := K) (a := D) (xs := lnV x.pieces) (fun i H' => Same H1 H' ∧ H' D2 = some (.lst (lnV ((x.pieces.take i).filter fun p => decide (sz < p.length))))) ⟨same_new nD2, upd_same⟩ (fun i H' _ ⟨s', _⟩ => SqL.of (s' _ _ hD)) ?_ ?_
    · rintro i y H2 hy ⟨s2, hD2⟩
      obtain ⟨pc, hpc, rfl⟩ := lnV_get hy
      refine ⟨rfl, _, o, dx, ro, eo, p, ak, sz, held, told, x, st, rfl, rfl, (hX.same s1).same s2, ?_⟩
      rw [take_get hpc, filt_snoc]
      by_cases c : sz < pc.length
      · rw [decide_eq_true c, if_pos rfl]
        refine iteT ⟨_, rfl, _, hD2, szM ?_, fun b u e => ?_, ?_⟩
        · rw [lnV_len]
          exact Nat.le_trans (List.length_filter_le ..) (by rw [List.length_take]; omega)
        · rw [upd_ne (ne_of_none e nD2)]
          exact s2 _ _ e
        · rw [upd_same]
          simp [lnV]
      · rw [decide_eq_false c, if_neg (by decide), List.append_nil]
        exact iteF ⟨s2, hD2⟩
    rintro H2 ⟨s2, hD2⟩
    rw [lnV_len, List.take_length] at hD2
    refine ⟨_, rfl, ?_⟩
    unfold tNoPart
    refine ⟨_, rfl, _, rfl, D, _, rfl, SqL.of (s2 _ _ hD), fun z nz => ?_⟩
    rw [cut_m1, show (lnV x.pieces).dropLast = lnV x.pieces.dropLast from by unfold lnV; rw [List.map_dropLast]]
    have u3 := same_new (o := .lst (lnV x.pieces.dropLast)) nz
    refine ⟨z, rfl, ⟨_, SqL.of upd_same⟩, fun D3 nD3 => ?_⟩
    have s12 := Same.trans s1 s2
    have hz : (upd H2 z (.lst (lnV x.pieces.dropLast))) z = some (.lst (lnV x.pieces.dropLast)) := upd_same
    have hD2' := u3 _ _ hD2
    have s13 := Same.trans s12 u3
    generalize upd H2 z (.lst (lnV x.pieces.dropLast)) = H3 at hz hD2' s13 nD3 ⊢
    refine lc_list (K := K) (a := z) (xs := lnV x.pieces.dropLast) (fun i H' => Same H3 H' ∧ H' D3 = some (.lst (lnV ((x.pieces.dropLast.take i).filter fun p => decide (p.length < sz))))) ⟨same_new nD3, upd_same⟩ (fun i H' _ ⟨s', _⟩ => SqL.of (s' _ _ hz)) ?_ ?_
    · rintro i y H4 hy ⟨s4, hD4⟩
      obtain ⟨pc, hpc, rfl⟩ := lnV_get hy
      refine ⟨rfl, _, o, dx, ro, eo, p, ak, sz, held, told, x, st, rfl, rfl, (hX.same s13).same s4, ?_⟩
      rw [take_get hpc, filt_snoc]
      by_cases c : pc.length < sz
      · rw [decide_eq_true c, if_pos rfl]
        refine iteT ⟨_, rfl, _, hD4, szM ?_, fun b u e => ?_, ?_⟩
        · rw [lnV_len]
          exact Nat.le_trans (List.length_filter_le ..) (by rw [List.length_take, List.length_dropLast]; omega)
        · rw [upd_ne (ne_of_none e nD3)]
          exact s4 _ _ e
        · rw [upd_same]
          simp [lnV]
      · rw [decide_eq_false c, if_neg (by decide), List.append_nil]
        exact iteF ⟨s4, hD4⟩
    rintro H4 ⟨s4, hD4⟩
    rw [lnV_len, List.take_length] at hD4
    have b1 := List.length_filter_le (fun p : List Int => decide (sz < p.length)) x.pieces
    have b2 := List.length_filter_le (fun p : List Int => decide (p.length < sz)) x.pieces.dropLast
    rw [List.length_dropLast] at b2
    refine ⟨_, rfl, _, rfl, D2, D3, _, _, rfl, rfl, s4 _ _ hD2', hD4, Nat.le_of_lt (szM (by rw [lnV_len, lnV_len]; omega)), fun z4 nz4 => ⟨z4, _, rfl, .inl (SqL.of upd_same), _, _, rfl, rfl, ?_⟩⟩
    rw [List.length_append, lnV_len, lnV_len]
    have e : decide ((0 : Int) < (((x.pieces.filter fun p => decide (sz < p.length)).length + (x.pieces.dropLast.filter fun p => decide (p.length < sz)).length : Nat) : Int)) = FJ.unevP sz x.pieces := by
      unfold FJ.unevP
      rw [← any_filt, ← any_filt, ← Bool.decide_or]
      exact decide_eq_decide.mpr (by omega)
    show Q (.bl (decide ((0 : Int) < (((x.pieces.filter fun p => decide (sz < p.length)).length + (x.pieces.dropLast.filter fun p => decide (p.length < sz)).length : Nat) : Int)))) _
    rw [e]
    exact k _ (Same.trans s13 (Same.trans s4 (same_new nz4)))
end
end My

/-! faults seen by executing the loop once more: breaks_whole, breaks_filled, breaks_even -/
namespace My
open PySem L2 Cm LM EM
/-- the three that look at the execution before the last reply -/
inductive Bk | w | f | e
def bkS : Bk → Str
  | .w => "whole"
  | .f => "filled"
  | .e => "even"
def bkG : Bk → Nat → RP → RP → Bool → Nat → Bool
  | .w => fun _ _ x st n => st && decide (x.pieces.flatten ≠ CoM.itF 0 n)
  | .f => fun _ b x _ _ => decide ([] ∈ x.pieces) && !decide ([] ∈ b.pieces)
  | .e => fun sz b x _ _ => FJ.unevP sz x.pieces && !FJ.unevP sz b.pieces
section
variable {P : Program} {w : World} {K : PySem.W.Frag} {mg : Str → Option Value} {base : Heap}
def spBk (C : Addr) (g : Nat → RP → RP → Bool → Nat → Bool) : Sp := fun vs H Q _ => ∃ (ob dxb rob eob pb o dx ro eo p : Addr) (akb ak sz n : Nat) (heldb held : List Int) (toldb told : Bool) (xb x : RP) (stb st : Bool), vs = [.ref ob, .ref o, .int (n : Nat)] ∧ ExAt C H ob dxb rob eob pb akb sz heldb toldb xb stb ∧ ExAt C H o dx ro eo p ak sz held told x st ∧ wt x.pieces ≤ 400000 ∧ xb.pieces.length ≤ 400000 ∧ n ≤ 1000 ∧
  ∀ H', Same H H' → Q (.bl (g sz xb x st n)) H'
theorem scBw : FnScope ["before", "work", "items", "handed", "held", "item"] BP (defScope sBw) := ⟨rfl, rfl, rfl, by decide +kernel, rfl, by decide +kernel, by decide +kernel⟩
theorem scBf : FnScope BP BP (defScope sBf) := ⟨rfl, rfl, rfl, by decide +kernel, rfl, by decide +kernel, by decide +kernel⟩
theorem scBe : FnScope BP BP (defScope sBe) := ⟨rfl, rfl, rfl, by decide +kernel, rfl, by decide +kernel, by decide +kernel⟩
theorem it_rg (n : Nat) : rgV 0 ((n : Nat) : Int) = ivs (CoM.itF 0 n) := by
  unfold rgV CoM.itF ivs
  rw [show (((n : Nat) : Int) - 0).toNat = n by omega, List.map_map]
  refine List.map_congr_left fun i _ => ?_
  simp
theorem ok_bw (T : TxFa w K mg) : FnOk P w K mg base CX0 2 T.bw.f T.bw.fd BP (spBk T.N.X.C (bkG .w)) := by
  refine T.bw.F.ok scBw (fun vs H Q E h => ?_) (fun cdv A outer s H vs Q E hr h => ?_)
  · obtain ⟨_, _, _, _, _, _, _, _, _, _, _, _, _, _, _, _, _, _, _, _, _, _, rfl, _⟩ := h
    rfl
  · obtain ⟨ob, dxb, rob, eob, pb, o, dx, ro, eo, p, akb, ak, sz, n, heldb, held, toldb, told, xb, x, stb, st, rfl, hB, hX, hw, _, hn, k⟩ := h
    refine ⟨_, (pss_cons (ps_setLc2 (i := 3) (own := [("held", 4), ("item", 5)]) (vs1 := [5]) (g := gName 4) (g1 := gName 5) (tt := tYes) (tt1 := tYes) (wi1 := iTup K (tVar 4)) (te := tVar 5) rfl scBw.nd rfl rfl (sw_true rfl rfl rfl (by decide +kernel)) (pi_list (pe_fld (pv 1) rfl)) (blkOk_by (own := [("held", 4), ("item", 5)]) (N := ["before", "work", "items", "handed", "held", "item"]) (sc := defScope sBw) (by decide +kernel)) (by decide) (fun _ _ _ _ _ => pg_name (i := 4) scBw.nd rfl (Or.inl rfl)) (fun _ _ _ _ _ => pts_nil) (fun _ _ _ _ _ => by exact pi_tup (pv 4)) (fun _ _ _ _ _ => pg_name (i := 5) scBw.nd rfl (Or.inl rfl)) (fun _ _ _ _ _ => pts_nil) (fun _ _ _ _ _ => by exact pv 5)) (pss_one (ps_ret (pe_and (pe_fld (pv 1) rfl) (pe_one (pe_cmpR (op_neD (hu64 hr)) (pv 3) (pe_listRg rfl rfl T.list (prg_1 rfl T.N.X.range (pv 2))) (nomark _))))))), ?_⟩
    obtain ⟨h0, r0, vs0, e0, _, hr0', hp0, hP⟩ := id hX.ex
    have lw := wt_flat x.pieces
    have lp := hP.len
    refine ⟨_, rfl, o, T.N.X.C, dx, _, _, rfl, e0, T.N.X.cl, T.N.X.nP, xf_p .., p, rfl, ⟨_, SqL.of hp0⟩, fun D nD => ?_⟩
    refine L2c.lc2_it (walk_list (K := K) (a := p) (xs := vs0)) (fun i H' => Same H H' ∧ H' D = some (.lst (ivs ((x.pieces.take i).flatten)))) ⟨same_new nD, upd_same⟩ (fun i H' _ ⟨s', _⟩ => SqL.of (s' _ _ hp0)) ?_ ?_
    · rintro i y H1 H1' hi ⟨s1, hD⟩ ⟨rfl, hy⟩
      obtain ⟨q, pc, hpc, rfl, hq⟩ := hP.getL hy
      refine ⟨rfl, _, rfl, q, rfl, ⟨_, SqT.of (s1 _ _ hq)⟩, L2c.in_it (walk_tup (K := K) (a := q) (xs := ivs pc)) (fun j H' => Same H H' ∧ H' D = some (.lst (ivs ((x.pieces.take i).flatten ++ pc.take j)))) ⟨s1, by rw [List.take_zero, List.append_nil]; exact hD⟩ (fun j H' _ ⟨s', _⟩ => SqT.of (s' _ _ hq)) ?_ ?_⟩
      · rintro j z H2 H2' hj ⟨s2, hD2⟩ ⟨rfl, hz⟩
        obtain ⟨n, hn, rfl⟩ : ∃ n, pc[j]? = some n ∧ z = .int n := by
          unfold ivs at hz
          rw [List.getElem?_map] at hz
          cases h : pc[j]? with
          | none => rw [h] at hz; cases hz
          | some n => rw [h] at hz; exact ⟨n, rfl, (Option.some.inj hz).symm⟩
        refine ⟨rfl, _, rfl, _, hD2, ?_, fun b u e => ?_, ?_⟩
        · rw [ivs_len]
          have l1 : ((x.pieces.take i).flatten ++ pc.take j).length ≤ x.pieces.flatten.length := by
            have := flat_take hpc
            have l2 : ((x.pieces.take i).flatten ++ pc).length ≤ x.pieces.flatten.length := by
              rw [← this]
              have e : x.pieces = x.pieces.take (i + 1) ++ x.pieces.drop (i + 1) := (List.take_append_drop _ _).symm
              conv => rhs; rw [e]
              rw [List.flatten_append, List.length_append]
              omega
            rw [List.length_append] at l2 ⊢
            rw [List.length_take]
            omega
          exact szM (by omega)
        · rw [upd_ne (ne_of_none e nD)]
          exact s2 _ _ e
        · rw [upd_same, List.take_add_one, hn]
          simp [ivs]
      · rintro H2 ⟨s2, hD2⟩
        rw [ivs_len, List.take_length, ← flat_take hpc] at hD2
        exact ⟨s2, hD2⟩
    · rintro H1 ⟨s1, hD⟩
      rw [lp, List.take_length] at hD
      refine ⟨_, rfl, o, T.N.X.C, dx, _, _, rfl, s1 _ _ e0, T.N.X.cl, T.N.X.nSt, xf_st .., _, rfl, ?_⟩
      cases st with
      | false => exact iteF (k _ s1)
      | true =>
        refine iteT ⟨_, rfl, _, rfl, _, rfl, RgOk.of_le (by omega) (by omega) (by omega) (by omega), fun q nq => ?_⟩
        rw [it_rg]
        have u2 := same_new (o := .lst (ivs (CoM.itF 0 n))) nq
        refine ⟨.list (intD x.pieces.flatten), .list (intD (CoM.itF 0 n)), .lst (SqL.of (u2 _ _ hD)) (dpI _), .lst (SqL.of upd_same) (dpI _), intD_shaped _, intD_shaped _, ?_⟩
        rw [eqv_il, ← decide_not]
        exact k _ (Same.trans s1 u2)
theorem ok_bf (T : TxFa w K mg) : FnOk P w K mg base CX0 2 T.bf.f T.bf.fd BP (spBk T.N.X.C (bkG .f)) := by
  refine T.bf.F.ok scBf (fun vs H Q E h => ?_) (fun cdv A outer s H vs Q E hr h => ?_)
  · obtain ⟨_, _, _, _, _, _, _, _, _, _, _, _, _, _, _, _, _, _, _, _, _, _, rfl, _⟩ := h
    rfl
  · obtain ⟨ob, dxb, rob, eob, pb, o, dx, ro, eo, p, akb, ak, sz, n, heldb, held, toldb, told, xb, x, stb, st, rfl, hB, hX, hw, _, hn, k⟩ := h
    have hu65 : ((cxOf CX0 P w K mg base BP "breaks_filled" (defScope sBf) T.bf.f cdv A outer s H E).nox).A.units + 65 < cLine := by
      have := hr.un
      show (A.deeper _).units + 65 < cLine
      omega
    refine ⟨_, (pss_one (ps_ret (pe_and (pe_cmpR (op_inD hu65) (pe_tup pa_nil) (pe_fld (pv 1) rfl) (by rfl)) (pe_one (pe_cmpR (op_notInD hu65) (pe_tup pa_nil) (pe_fld (pv 0) rfl) (by rfl)))))), ?_⟩
    obtain ⟨h0, r0, vs0, e0, _, _, hp0, hP⟩ := id hX.ex
    obtain ⟨h1, r1, vs1, e1, _, _, hp1, hP1⟩ := id hB.ex
    refine ⟨Nat.zero_le _, fun z nz => ?_⟩
    have u1 := same_new (o := .tup []) nz
    refine ⟨_, rfl, o, T.N.X.C, dx, _, _, rfl, u1 _ _ e0, T.N.X.cl, T.N.X.nP, xf_p .., .tuple [], _, .tup (SqT.of upd_same) .nil, .lst (SqL.of (u1 _ _ hp0)) (pc_dp (hP.mono fun _ _ e => u1 _ _ e)), by decide, pc_shaped _, _, rfl, ?_⟩
    rw [any_nil]
    replace k : ∀ H', Same H H' → Q (.bl (decide ([] ∈ x.pieces) && !decide ([] ∈ xb.pieces))) H' := k
    cases c : decide ([] ∈ x.pieces) with
    | false =>
      rw [c] at k
      exact iteF (k _ u1)
    | true =>
      rw [c] at k
      refine iteT ⟨Nat.zero_le _, fun z2 nz2 => ?_⟩
      have u2 := same_new (o := .tup []) nz2
      have s2 := Same.trans u1 u2
      refine ⟨_, rfl, ob, T.N.X.C, dxb, _, _, rfl, s2 _ _ e1, T.N.X.cl, T.N.X.nP, xf_p .., .tuple [], _, .tup (SqT.of upd_same) .nil, .lst (SqL.of (s2 _ _ hp1)) (pc_dp (hP1.mono fun _ _ e => s2 _ _ e)), by decide, pc_shaped _, ?_⟩
      rw [any_nil]
      exact k _ s2
theorem ok_be (T : TxFa w K mg) : FnOk P w K mg base CX0 2 T.be.f T.be.fd BP (spBk T.N.X.C (bkG .e)) := by
  have GU : FnOk P w K mg base CX0 1 T.unv.f T.unv.fd ["work"] (spUnv T.N.X.C) := ok_unv T
  refine T.be.F.ok scBe (fun vs H Q E h => ?_) (fun cdv A outer s H vs Q E hr h => ?_)
  · obtain ⟨_, _, _, _, _, _, _, _, _, _, _, _, _, _, _, _, _, _, _, _, _, _, rfl, _⟩ := h
    rfl
  · obtain ⟨ob, dxb, rob, eob, pb, o, dx, ro, eo, p, akb, ak, sz, n, heldb, held, toldb, told, xb, x, stb, st, rfl, hB, hX, hw, hl, hn, k⟩ := h
    have hr1 : Room 1 _ := hr.mono (by decide)
    refine ⟨_, (pss_one (ps_ret (pe_and (pe_call GU hr1 rfl T.unv.g T.unv.k T.unv.b .nil pass0 (pa_cons (pv 1) pa_nil)) (pe_one (pe_not (pe_call GU hr1 rfl T.unv.g T.unv.k T.unv.b .nil pass0 (pa_cons (pv 0) pa_nil))))))), ?_⟩
    have lw := wt_flat x.pieces
    replace k : ∀ H', Same H H' → Q (.bl (FJ.unevP sz x.pieces && !FJ.unevP sz xb.pieces)) H' := k
    refine ⟨_, rfl, o, dx, ro, eo, p, ak, sz, held, told, x, st, rfl, hX, by omega, fun H1 s1 => ⟨_, rfl, ?_⟩⟩
    cases c : FJ.unevP sz x.pieces with
    | false =>
      rw [c] at k
      exact iteF (k _ s1)
    | true =>
      rw [c] at k
      exact iteT ⟨_, rfl, ob, dxb, rob, eob, pb, akb, sz, heldb, toldb, xb, stb, rfl, hB.same s1, hl, fun H2 s2 => ⟨_, rfl, k _ (Same.trans s1 s2)⟩⟩
/-! ### quiet -/
def tNth (i : Nat) : TE := fun σ H Q => ∃ v : V, σ[i]? = some (some v) ∧ Q v H
theorem scBq : FnScope ["work", "replies", "earlier", "count", "told"] ["work", "replies"] (defScope sBq) := ⟨rfl, rfl, rfl, by decide +kernel, rfl, by decide +kernel, by decide +kernel⟩
def spBq (C : Addr) : Sp := fun vs H Q _ => ∃ (o dx ro eo p q : Addr) (ak sz : Nat) (held : List Int) (told : Bool) (x : RP) (st : Bool) (xs : List V) (rs : List (Nat × Bool)), vs = [.ref o, .ref q] ∧ ExAt C H o dx ro eo p ak sz held told x st ∧ H q = some (.tup xs) ∧ Rps H xs rs ∧ rs.length ≤ 100 ∧
  ∀ H', Same H H' → Q (.bl (told && (!st && !rs.dropLast.any (·.2)))) H'
def blV (bs : List Bool) : List V := bs.map V.bl
theorem Rps.drop {H : Hp} : ∀ {vs rs}, Rps H vs rs → Rps H vs.dropLast rs.dropLast
  | _, _, .nil => .nil
  | _, _, .cons h .nil => .nil
  | _, _, .cons h (.cons h2 t) => .cons h (Rps.drop (.cons h2 t))
theorem in_true : ∀ bs : List Bool, inV (.bl true) (blV bs) = bs.any id
  | [] => rfl
  | b :: r => by
    have ih := in_true r
    show (eqV (.bl b) (.bl true) || inV (.bl true) (blV r)) = (b || r.any id)
    rw [ih]
    cases b <;> rfl
theorem bl_flat : ∀ bs : List Bool, (blV bs).all flatV = true
  | [] => rfl
  | b :: r => bl_flat r
theorem ok_bq (T : TxFa w K mg) : FnOk P w K mg base CX0 1 T.bq.f T.bq.fd ["work", "replies"] (spBq T.N.X.C) := by
  refine T.bq.F.ok scBq (fun vs H Q E h => ?_) (fun cdv A outer s H vs Q E hr h => ?_)
  · obtain ⟨_, _, _, _, _, _, _, _, _, _, _, _, _, _, rfl, _⟩ := h
    rfl
  · obtain ⟨o, dx, ro, eo, p, q, ak, sz, held, told, x, st, xs, rs, rfl, hX, hq, hR, hl, k⟩ := h
    refine ⟨_, (pss_cons (ps_setLc (i := 2) (own := [("count", 3), ("told", 4)]) (g := gTup K 2 (gCons (gName 3) (gCons (gName 4) gNil))) (tt := tYes) (te := tVar 4) rfl scBq.nd rfl rfl (sw_true rfl rfl rfl (by decide +kernel)) (pi_tup (pe_slice sl_tupH (pv 1) po_none (po_some (pe_un un_neg pe_int)))) (blkOk_by (own := [("count", 3), ("told", 4)]) (N := ["work", "replies", "earlier", "count", "told"]) (sc := defScope sBq) (by decide +kernel)) (fun _ _ _ _ _ => (pg_tup rfl (pgs_cons (pg_name (i := 3) scBq.nd rfl (.inl rfl)) (pgs_cons (pg_name (i := 4) scBq.nd rfl (.inl rfl)) pgs_nil)))) (fun _ _ _ _ _ => pts_nil) (fun _ _ _ _ _ => by exact pv 4)) (pss_one (ps_ret (pe_and (pe_fld (pv 0) rfl) (pe_and (pe_not (pe_fld (pv 0) rfl)) (pe_one (pe_cmpR op_notIn_seq pe_bl (pv 2) (by rfl)))))))), ?_⟩
    have lx := hR.len
    refine ⟨_, rfl, ?_⟩
    unfold tNoPart
    refine ⟨_, rfl, _, rfl, q, _, rfl, hq, fun H1 z s1 hz => ?_⟩
    rw [cut_m1] at hz
    have hRd := hR.drop.same s1
    have lz := hRd.len
    refine ⟨z, rfl, ⟨_, SqT.of hz⟩, fun D nD => ?_⟩
    refine lc_tup (K := K) (a := z) (xs := xs.dropLast) (fun i H' => Same H1 H' ∧ H' D = some (.lst (blV ((rs.dropLast.take i).map (·.2))))) ⟨same_new nD, upd_same⟩ (fun i H' _ ⟨s', _⟩ => SqT.of (s' _ _ hz)) ?_ ?_
    · rintro i y H2 hy ⟨s2, hD⟩
      obtain ⟨q2, r, hr0, rfl, hq2⟩ := hRd.get hy
      refine ⟨q2, _, rfl, SqT.of (s2 _ _ hq2), rfl, _, _, rfl, _, _, rfl, rfl, rfl, _, rfl, _, hD, szM ?_, fun b u e => ?_, ?_⟩
      · unfold blV
        rw [List.length_map, List.length_map, List.length_take, List.length_dropLast]
        omega
      · rw [upd_ne (ne_of_none e nD)]
        exact s2 _ _ e
      · rw [upd_same, take_get hr0]
        simp [blV]
    rintro H2 ⟨s2, hD⟩
    rw [lz, List.take_length] at hD
    have s12 := Same.trans s1 s2
    obtain ⟨h0, r0, vs0, e0, _⟩ := id (hX.same s12).ex
    refine ⟨_, rfl, o, T.N.X.C, dx, _, _, rfl, e0, T.N.X.cl, T.N.X.nT, xf_t .., _, rfl, ?_⟩
    cases told with
    | false => exact iteF (k _ s12)
    | true =>
      refine iteT ⟨_, rfl, o, T.N.X.C, dx, _, _, rfl, e0, T.N.X.cl, T.N.X.nSt, xf_st .., _, rfl, ?_⟩
      cases st with
      | true => exact ⟨_, rfl, iteF (k _ s12)⟩
      | false =>
        refine ⟨_, rfl, iteT ⟨_, rfl, D, _, rfl, .inl (SqL.of hD), rfl, bl_flat _, ?_⟩⟩
        rw [in_true, List.any_map]
        exact k _ s12
/-! ### ends -/
theorem scBn : FnScope ["work", "source", "items", "replies", "counts", "count", "told"] ["work", "source", "items", "replies"] (defScope sBn) := ⟨rfl, rfl, rfl, by decide +kernel, rfl, by decide +kernel, by decide +kernel⟩
def spBn (C CU : Addr) : Sp := fun vs H Q _ => ∃ (o dx ro eo p so q : Addr) (ak sz n kk cc : Nat) (held : List Int) (told : Bool) (x : RP) (st : Bool) (A B E : Str) (rO eO : List (Str × Str)) (xs : List V) (rs : List (Nat × Bool)), vs = [.ref o, .ref so, .int (n : Nat), .ref q] ∧ ExAt C H o dx ro eo p ak sz held told x st ∧ OrdT H ro rO ∧ OrdT H eo eO ∧ rO.length ≤ 12 ∧ eO.length ≤ 6 ∧ 1 ≤ sz ∧ sz ≤ 1000 ∧ Few sz kk cc x ∧ kk ≤ 2000 ∧ cc ≤ 7000000 ∧ SrcU CU H so A B E ∧ H q = some (.tup xs) ∧ Rps H xs rs ∧ rs.length ≤ 100 ∧
  ∀ H', Off2 o p H H' → Q (.bl (if FJ.cnt rs ≠ n ∨ rs.getLast?.map (·.1) = some 0 then false else !(CoM.noS sz rO eO (mustU E 0 0) 4 none ⟨x, ak, st⟩).st)) H'
theorem last_one (ns : List Nat) : (ns.map fun n => ((n : Nat) : Int)).drop ((ns.map fun n => ((n : Nat) : Int)).length - 1) = [0] ↔ ns.getLast? = some 0 := by
  rw [List.length_map, ← List.map_drop]
  rcases List.eq_nil_or_concat ns with rfl | ⟨a, b, rfl⟩
  · simp
  · rw [List.concat_eq_append, List.length_append, List.length_singleton, Nat.add_sub_cancel, List.drop_left, List.getLast?_append]
    simp
theorem ok_bn (T : TxFa w K mg) : FnOk P w K mg base CX0 6 T.bn.f T.bn.fd ["work", "source", "items", "replies"] (spBn T.N.X.C T.U.M.U.C) := by
  have GN : FnOk P w K mg base CX0 5 T.Xn.no.f T.Xn.no.fd ["self", "told"] (spXN T.Xn.X.C) := ok_xn T.Xn
  have GU : FnOk P w K mg base CX0 1 T.U.M.mu.f T.U.M.mu.fd ["self", "before", "after"] (spUM T.U.M.U.C) := ok_um T.U.M
  refine T.bn.F.ok scBn (fun vs H Q E h => ?_) (fun cdv A outer s H vs Q E hr h => ?_)
  · obtain ⟨_, _, _, _, _, _, _, _, _, _, _, _, _, _, _, _, _, _, _, _, _, _, _, rfl, _⟩ := h
    rfl
  · obtain ⟨o, dx, ro, eo, p, so, q, ak, sz, n, kk, cc, held, told, x, st, A1, B1, E1, rO, eO, xs, rs, rfl, hX, hRo, hEo, l1, l2, z1, z2, few, hk, hc, hU, hq, hR, hl, k⟩ := h
    have hr1 : Room 1 _ := hr.mono (by decide)
    have hr5 : Room 5 _ := hr.mono (by decide)
    have eC : T.Xn.X.C = T.N.X.C := by rw [T.eX]
    refine ⟨_, (pss_cons (ps_setLc (i := 4) (own := [("count", 5), ("told", 6)]) (g := gTup K 2 (gCons (gName 5) (gCons (gName 6) gNil))) (tt := tYes) (te := tVar 5) rfl scBn.nd rfl rfl (sw_true rfl rfl rfl (by decide +kernel)) (pi_tup (pv 3)) (blkOk_by (own := [("count", 5), ("told", 6)]) (N := ["work", "source", "items", "replies", "counts", "count", "told"]) (sc := defScope sBn) (by decide +kernel)) (fun _ _ _ _ _ => (pg_tup rfl (pgs_cons (pg_name (i := 5) scBn.nd rfl (.inl rfl)) (pgs_cons (pg_name (i := 6) scBn.nd rfl (.inl rfl)) pgs_nil)))) (fun _ _ _ _ _ => pts_nil) (fun _ _ _ _ _ => by exact pv 5)) (pss_cons (ps_if (PW.pt (pw_or (pt_cmpR op_ne (pe_callB (cr_sum rfl) (by rfl) T.sum (by decide +kernel) (pa_cons (pv 4) pa_nil)) (pv 2) (nomark _)) (pw_or1 (pt_cmpR (op_eqD (hu64 hr)) (pe_slice sl_list (pv 4) (po_some (pe_un un_neg pe_int)) po_none) (pe_lst (pa_cons pe_int pa_nil)) (nomark _))))) (pss_one (ps_ret pe_bl)) pss_nil) (pss_cons (ps_expr (pe_meth (pv 0) T.Xn.X.cl T.Xn.no.m GN hr5 T.Xn.no.b .nil pass0 (pa_cons (pe_meth (pv 1) T.U.M.U.cl T.U.M.mu.m GU hr1 T.U.M.mu.b .nil pass0 (pa_cons pe_int (pa_cons pe_int pa_nil))) pa_nil))) (pss_one (ps_ret (pe_not (pe_fld (pv 0) rfl))))))), ?_⟩
    have lx := hR.len
    refine ⟨_, rfl, q, rfl, ⟨_, SqT.of hq⟩, fun D nD => ?_⟩
    refine lc_tup (K := K) (a := q) (xs := xs) (fun i H' => Same H H' ∧ H' D = some (.lst (ivs ((rs.take i).map fun r => ((r.1 : Nat) : Int))))) ⟨same_new nD, upd_same⟩ (fun i H' _ ⟨s', _⟩ => SqT.of (s' _ _ hq)) ?_ ?_
    · rintro i y H2 hy ⟨s2, hD⟩
      obtain ⟨q2, r, hr0, rfl, hq2⟩ := hR.get hy
      refine ⟨q2, _, rfl, SqT.of (s2 _ _ hq2), rfl, _, _, rfl, _, _, rfl, rfl, rfl, _, rfl, _, hD, szM ?_, fun b u e => ?_, ?_⟩
      · rw [ivs_len, List.length_map, List.length_take]
        omega
      · rw [upd_ne (ne_of_none e nD)]
        exact s2 _ _ e
      · rw [upd_same, take_get hr0]
        simp [ivs]
    rintro H2 ⟨s2, hD⟩
    rw [lx, List.take_length] at hD
    have sc : (rs.map fun r => ((r.1 : Nat) : Int)).sum = ((FJ.cnt rs : Nat) : Int) := by
      unfold FJ.cnt
      generalize rs = rs'
      induction rs' with
      | nil => rfl
      | cons r t ih => rw [List.map_cons, List.sum_cons, ih, List.map_cons, List.sum_cons]; omega
    refine ⟨_, rfl, D, _, rfl, SqL.of hD, _, rfl, rfl, _, rfl, ?_⟩
    rw [sc]
    by_cases c1 : FJ.cnt rs = n
    · rw [show (!decide (V.int ((FJ.cnt rs : Nat) : Int) = V.int ((n : Nat) : Int))) = false by rw [c1, decide_eq_true rfl]; rfl]
      refine iteF ⟨_, rfl, _, rfl, _, rfl, ?_⟩
      unfold tNoPart
      refine ⟨D, _, rfl, SqL.of hD, fun z nz => ?_⟩
      have e1 : cutV (ivs (rs.map fun r => ((r.1 : Nat) : Int))) (some (-1)) none = ivs ((rs.map fun r => ((r.1 : Nat) : Int)).drop ((rs.map fun r => ((r.1 : Nat) : Int)).length - 1)) := by
        rw [cut_last, ivs_len]
        unfold ivs
        rw [List.map_drop]
      rw [e1]
      have eL := last_one (rs.map (·.1))
      rw [List.map_map, show ((fun n => ((n : Nat) : Int)) ∘ fun r : Nat × Bool => r.1) = fun r : Nat × Bool => ((r.1 : Nat) : Int) from rfl, List.getLast?_map] at eL
      generalize (rs.map fun r => ((r.1 : Nat) : Int)).drop ((rs.map fun r => ((r.1 : Nat) : Int)).length - 1) = L at eL ⊢
      have u3 := same_new (o := .lst (ivs L)) nz
      refine ⟨(by show 1 ≤ sizeLine; decide), fun y2 ny2 => ?_⟩
      have u4 := same_new (o := .lst [.int 0]) ny2
      refine ⟨.list (intD L), .list (intD [0]), .lst (SqL.of (u4 _ _ upd_same)) (dpI _), .lst (SqL.of upd_same) (dpI [0]), intD_shaped _, intD_shaped _, _, rfl, ?_⟩
      rw [eqv_il]
      have s4 := Same.trans s2 (Same.trans u3 u4)
      by_cases c2 : rs.getLast?.map (·.1) = some 0
      · rw [decide_eq_true (eL.mpr c2)]
        rw [if_pos (.inr c2)] at k
        exact iteT (k _ fun b u _ _ e => s4 _ _ e)
      · rw [decide_eq_false (fun q => c2 (eL.mp q))]
        rw [if_neg (fun q => q.elim (fun q => q c1) c2)] at k
        refine iteF ?_
        have hX4 := hX.same s4
        have hU4 := hU.same s4
        generalize upd (upd H2 z (.lst (ivs L))) y2 (.lst [.int 0]) = H4 at s4 hX4 hU4 ⊢
        obtain ⟨h0, r0, vs0, e0, _⟩ := id hX4.ex
        obtain ⟨dU, hso⟩ := id hU4
        refine ⟨_, rfl, o, dx, _, rfl, by rw [eC]; exact e0, xf_noN .., _, rfl, so, dU, _, rfl, hso, (by rfl), so, A1, B1, E1, 0, 0, rfl, hU4, ?_⟩
        refine ⟨o, dx, ro, eo, p, ak, sz, held, told, mustU E1 0 0, x, st, rO, eO, kk, cc, rfl, by rw [eC]; exact hX4, hRo.ts fun _ _ e => s4 _ _ e, hEo.ts fun _ _ e => s4 _ _ e, l1, l2, z1, z2, few, hk, hc, fun H5 hd5 tl5 o5 X5 => ?_⟩
        rw [eC] at X5
        obtain ⟨h5, r5, vs5, e5, _⟩ := id X5.ex
        refine ⟨_, rfl, o, T.N.X.C, dx, _, _, rfl, e5, T.N.X.cl, T.N.X.nSt, xf_st .., _, rfl, ?_⟩
        exact k H5 fun b u n1 n2 e => o5 b u n1 n2 (s4 _ _ e)
    · rw [show (!decide (V.int ((FJ.cnt rs : Nat) : Int) = V.int ((n : Nat) : Int))) = true by rw [decide_eq_false (fun z => c1 (by have := V.int.inj z; omega))]; rfl]
      rw [if_pos (.inl c1)] at k
      exact iteT (k _ fun b u _ _ e => s2 _ _ e)
end
end My

/-! how much a run can hand on -/
namespace FJ
open PySem EM CoM
theorem fold_lt {sz h K : Nat} {ro eo : List (Str × Str)} (l1 : ro.length ≤ 12) (l2 : eo.length ≤ 6) (a1 : adds ro ≤ 1) (a2 : adds eo = 0) : ∀ (rs : Rep) (k : Nat) (s : RS'), k + rs.length ≤ K → (∀ r ∈ rs, r.1 ≤ h) → Lt (k * h) (k * (18 * (2 * (K * h) + h + 1))) s.x → Lt ((k + rs.length) * h) ((k + rs.length) * (18 * (2 * (K * h) + h + 1))) (rs.foldl (stp sz ro eo) s).x
  | [], k, s, _, _, L => L
  | r :: rs, k, s, hk, hr, L => by
    rw [List.length_cons] at hk
    have e1 : (k + 1) * h = k * h + h := Nat.succ_mul _ _
    have e2 : (k + 1) * (18 * (2 * (K * h) + h + 1)) = k * (18 * (2 * (K * h) + h + 1)) + 18 * (2 * (K * h) + h + 1) := Nat.succ_mul _ _
    have le : (k + 1) * h ≤ K * h := Nat.mul_le_mul_right _ (by omega)
    have L1 : Lt ((k + 1) * h) ((k + 1) * (18 * (2 * (K * h) + h + 1))) (stp sz ro eo s r).x := by
      unfold stp
      split
      · exact L.mono (by omega) (by omega)
      · have := lt_ans (size := sz) (told := r.2) (held := itF s.f r.1) (h := h) (by rw [itF_len]; exact hr r (List.mem_cons_self ..)) l1 l2 a1 a2 L
        exact this.mono (by omega) (by omega)
    have ih := fold_lt (sz := sz) l1 l2 a1 a2 rs (k + 1) (stp sz ro eo s r) (by omega) (fun q hq => hr q (List.mem_cons_of_mem _ hq)) L1
    rw [List.foldl_cons, List.length_cons, show k + (rs.length + 1) = k + 1 + rs.length by omega]
    exact ih
theorem rn_wt {sz h : Nat} {ro eo : List (Str × Str)} (l1 : ro.length ≤ 12) (l2 : eo.length ≤ 6) (a1 : adds ro ≤ 1) (a2 : adds eo = 0) (rs : Rep) (hl : rs.length ≤ 100) (hb : rs.length * h ≤ 100) (hr : ∀ r ∈ rs, r.1 ≤ h) : wt (rn sz ro eo rs).x.pieces ≤ 400000 := by
  have := (fold_lt (sz := sz) (K := rs.length) l1 l2 a1 a2 rs 0 s0 (by omega) hr ⟨Nat.zero_le _, Nat.zero_le _⟩).2
  rw [Nat.zero_add] at this
  refine Nat.le_trans this ?_
  generalize rs.length = K at hl hb
  have e : K * (18 * (2 * (K * h) + h + 1)) = 18 * (K * (2 * (K * h) + 1) + K * h) := by
    rw [Nat.mul_left_comm, ← Nat.mul_add, show 2 * (K * h) + 1 + h = 2 * (K * h) + h + 1 by omega]
  rw [e]
  have : K * (2 * (K * h) + 1) ≤ 100 * 201 := Nat.mul_le_mul hl (by omega)
  omega
end FJ

/-! sum of a tuple of ints, a tuple times any count, xs += ys of lists -/
namespace RwR
open PySem PySem.Spec PyProof.Rows L2 Cm
section
variable {prog : Program} {w : World} {A : Around} {E : Value → Shared → Prop} {s : Shared} {l : Addr} {xs : Array (Int × Tok)}
theorem sum_intTupG {Q : Value → Shared → Prop} (hh : A.handled = none) (hl : s.heap.IsTuple l (intItems xs))
    (h : ∀ h' tk t', (∀ b o, s.heap.get? b = some o → h'.get? b = some o) → Q (.int (preSum (numAt xs) xs.size) t') { s with heap := h', toks := tk }) :
    wpAny (model prog w) A (call (.builtin "sum") [.ref l]) Q E s := by
  have hlt : l < s.heap.objs.size := by obtain ⟨_, e, _⟩ := hl; exact Heap.lt_size e
  refine call_sum_walkG (wpAny_pyIter_tuple hl ?_)
  refine ⟨_, [_, l], [_], _, _, _, numAt xs, rfl, Walks.tuple (A := A.in1) hh _ l (Nat.ne_of_lt hlt) (intItems xs), ⟨⟨_, Heap.get?_push_size _ rfl, rfl, rfl⟩, hl.push _⟩, fun c hc => ?_, (fun _ _ => intItems_at), fun h' tk t' hk => ?_⟩
  · show c < (s.heap.push _).objs.size
    rw [Heap.size_push]
    rcases List.mem_cons.mp hc with rfl | hc
    · exact Nat.lt_succ_self _
    · rcases List.mem_cons.mp hc with rfl | hc
      · exact Nat.lt_succ_of_lt hlt
      · cases hc
  · have hold : ∀ b o, s.heap.get? b = some o → h'.get? b = some o := fun b o e => by
      refine hk b o (fun hm => ?_) (Heap.get?_push_of_some _ e)
      rcases List.mem_cons.mp hm with e1 | hm
      · exact absurd (e1 ▸ Heap.lt_size e) (Nat.lt_irrefl _)
      · cases hm
    have := h h' tk t' hold
    simpa [intItems] using this
end
section
variable {X : Cx}
/-- sum(t) -/
def rSumT (K : PySem.W.Frag) : List V → Hp → VK → Prop := fun vs H Q => ∃ (a : Addr) (ns : List Int), vs = [V.ref a] ∧ SqT K H a (ns.map V.int) ∧ Q (.int ns.sum) H
theorem cr_sumT (hc : X.calm = true) : CallR X (.builtin "sum") (rSumT X.K) := by
  intro pins s σ H vs us Q I r h
  obtain ⟨a, ns, rfl, hs, q⟩ := h
  obtain ⟨its, rv, hl, _⟩ := I.tuple hs
  rw [Vals.ref1 r]
  have hi := rv.ints
  obtain ⟨xs, e⟩ := hi.allInts.items
  have hn : numsOf (intItems xs).toList = ns := by rw [← e]; exact hi.numsOf
  rw [nums_intItems] at hn
  rw [e] at hl
  refine sum_intTupG (I.ok.hd hc) hl fun h' tk t' hk => ?_
  rw [preSum_eq, List.take_of_length_le (by simp), hn]
  exact ⟨.int _, H, I.kept hk, ⟨_, rfl⟩, q⟩
/-- xs += ys -/
def rIadd : V → V → Hp → VK → Prop := fun x y H Q => ∃ l b xs zs, x = .ref l ∧ y = .ref b ∧ H l = some (.lst xs) ∧ H b = some (.lst zs) ∧ xs.length + zs.length ≤ sizeLine ∧ Q (.ref l) (upd H l (.lst (xs ++ zs)))
theorem ip_iadd : PIp X .Add rIadd := by
  intro pins s σ H x y v u Q I rx ry h
  obtain ⟨l, b, xs, zs, rfl, rfl, hH, hB, hz, q⟩ := h
  cases rx
  cases ry
  obtain ⟨z, its, n, r, hl, e⟩ := I.lstM hH
  obtain ⟨z2, its2, n2, r2, hl2, e2⟩ := I.lstM hB
  have hsz : its.toArray.size + its2.toArray.size ≤ sizeLine := by rw [List.size_toArray, List.size_toArray]; omega
  have hlong : ¬ (!its.toArray.isEmpty && Builtin.List.listTooLong (its.toArray.size + its2.toArray.size)) = true := by
    rw [notLongL hsz, Bool.and_false]
    exact Bool.false_ne_true
  have ta : s.TypeIs (.ref l) "list" := ⟨_, e, rfl⟩
  have tb : s.TypeIs (.ref b) "list" := ⟨_, e2, rfl⟩
  have hseq : isSeqSlot (some (.builtin "list.__iadd__")) = true := by decide +kernel
  have hfi : fillsInplaceSlot (.type "list") "add" (Operator.Add == .Add) = pure false := by
    unfold fillsInplaceSlot
    show (typeLookup (.type "list") (dunderI "add") >>= fun fi => pure (fi.isSome && !isSeqSlot fi)) = pure false
    rw [PySem.F.slot_list_iadd.lookup]
    show (pure (true && !isSeqSlot (some (.builtin "list.__iadd__"))) : Sem Bool) = pure false
    rw [hseq]
    rfl
  unfold inplaceOp
  refine wpAny_holding ?_
  refine wpAny_bind (wpAny_typeOf ta (wpAny_bind (wpAny_of_eq hfi ?_)))
  show wpAny _ _ (if false = true then _ else _) _ _ s
  rw [if_neg Bool.false_ne_true]
  refine wpAny_bind (PyProof.Rows.binaryOp1_none (nm := "add") ta tb PySem.noFill_list_add ?_)
  refine wpAny_bind (wpAny_of_eq (PySem.seqSlot_of (T := "list") (name := dunderI "add") (id := "list.__iadd__") PySem.F.slot_list_iadd.lookup hseq) ?_)
  refine wpAny_bind (wpAny_rule (call_meets PySem.F.slot_list_iadd ta PySem.F.entry_list_iadd (PySem.F.args_list_iadd_2 _ _)
    (AutoSeq1.list___iadd___list_list_0 l its.toArray n b its2.toArray n2 hlong (by rw [List.size_toArray]; omega) (by omega)) ⟨e, e2, ?_⟩))
  refine ⟨.ref l, _, I.lset (its' := its ++ its2) hH e (by simp) (r.append r2) ?_, rfl, q⟩
  rw [List.length_append]
  omega
/-- a tuple times any count -/
theorem tuple_mul_same (l : Addr) (items : Array Value) (n : Nat) (dd : Option Addr) (sl : Array (Option Value)) (x : Int) (u : Tok) (c0 : (decide (x < -(2 ^ 63)) || decide (x ≥ 2 ^ 63)) = false) (c1 : (items.isEmpty || x == 1) = true) :
    Meets (Builtin.«tuple.__mul__» ⟨[.ref l, .int x u], []⟩) (fun _ R s => s.heap.get? l = some { cls := .type "tuple", dict := dd, data := .seq items n, slots := sl } ∧ R (.ok (.ret (Value.ref l))) s) :=
  .of_wp fun prog w A R s h => by
    obtain ⟨hp, g, d, tk, os⟩ := s
    obtain ⟨hl, h⟩ := h
    have f1 := AutoSeq1.idx_int
    wp_walk using wpAny_loadPart' hl
    repeat (first
      | (refine wpAny_ite_false (decide_eq_false (by rw [c0]; exact Bool.false_ne_true)) ?_; wp_walk using wpAny_loadPart' hl)
      | (refine wpAny_ite_true (decide_eq_true c1) ?_; wp_walk using wpAny_loadPart' hl))
    exact ⟨_, rfl, h⟩
theorem tuple_mul_none (l : Addr) (items : Array Value) (n : Nat) (dd : Option Addr) (sl : Array (Option Value)) (x : Int) (u : Tok) (c0 : (decide (x < -(2 ^ 63)) || decide (x ≥ 2 ^ 63)) = false) (c1 : (items.isEmpty || x == 1) = false) (c2 : (decide (x ≤ 0) || items.isEmpty) = true) :
    Meets (Builtin.«tuple.__mul__» ⟨[.ref l, .int x u], []⟩) (fun _ R s => s.heap.get? l = some { cls := .type "tuple", dict := dd, data := .seq items n, slots := sl } ∧
      R (.ok (.ret (Value.ref s.heap.objs.size))) { s with heap := s.heap.push { cls := Value.type "tuple", data := Data.seq #[] }, toks := s.toks }) :=
  .of_wp fun prog w A R s h => by
    obtain ⟨hp, g, d, tk, os⟩ := s
    obtain ⟨hl, h⟩ := h
    have f1 := AutoSeq1.idx_int
    wp_walk using wpAny_loadPart' hl
    repeat (first
      | (refine wpAny_ite_false (decide_eq_false (by rw [c0]; exact Bool.false_ne_true)) ?_; wp_walk using wpAny_loadPart' hl)
      | (refine wpAny_ite_false (decide_eq_false (by rw [c1]; exact Bool.false_ne_true)) ?_; wp_walk using wpAny_loadPart' hl)
      | (refine wpAny_ite_true (decide_eq_true c2) ?_; wp_walk using wpAny_loadPart' hl)
      | (refine wpAny_ite_false (decide_eq_false (by decide)) ?_; wp_walk using wpAny_loadPart' hl))
    exact ⟨_, rfl, h⟩
def rRepN : R2 := fun x y H Q => ∃ (l : Addr) (k : Nat) (xs : List V), x = .ref l ∧ y = .int k ∧ H l = some (.tup xs) ∧ k < 2 ^ 62 ∧ xs.length ≤ 1000 ∧ (xs ≠ [] → k ≤ 1000) ∧ ∀ (H' : Hp) (q : Addr), Same H H' → H' q = some (.tup (List.replicate k xs).flatten) → Q (.ref q) H'
theorem flat_nil : ∀ k, (List.replicate k ([] : List V)).flatten = []
  | 0 => rfl
  | k + 1 => by rw [List.replicate_succ, List.flatten_cons, flat_nil k]; rfl
theorem op_repN : OpR X (binaryOp .Mult) rRepN := by
  intro pins s σ H x y v u Q I rx ry h
  obtain ⟨l, k, xs, rfl, rfl, hT, hk, hx, hl, q⟩ := h
  by_cases hne : xs ≠ [] ∧ 2 ≤ k
  · refine op_repT pins s σ H _ _ v u Q I rx ry ⟨l, k, xs, rfl, rfl, SqT.of hT, hne.1, by omega, by have := hl hne.1; omega, hx, fun p np => ?_⟩
    rw [Int.toNat_natCast]
    exact q _ p (same_new np) upd_same
  cases rx
  obtain ⟨t, rfl⟩ := ry
  obtain ⟨its, r, ⟨⟨cls, dd, data, sl⟩, ho, hc, n, hd⟩, hs⟩ := I.tuple (SqT.of hT)
  simp only at hc hd
  subst hc hd
  have hle : its.length = xs.length := r.length.symm
  have c0 : (decide ((k : Int) < -(2 ^ 63)) || decide ((k : Int) ≥ 2 ^ 63)) = false := by
    rw [decide_eq_false (by omega), decide_eq_false (by omega)]
    rfl
  by_cases hs1 : xs = [] ∨ k = 1
  · have c1 : (its.toArray.isEmpty || (k : Int) == 1) = true := by
      rcases hs1 with e | e
      · have : its = [] := List.eq_nil_of_length_eq_zero (by rw [hle, e]; rfl)
        rw [this]
        rfl
      · rw [e]
        simp
    refine wpAny_binaryOp_repeat_ref (T := "tuple") (U := "int") (by decide) ⟨_, ho, rfl⟩ (fun s' => typeIs_int s' k t) noFill_tuple_mul F.fills_int_mul F.slot_int_rmul repeat_tuple F.slot_int_index.lookup
      (call_meets F.slot_int_rmul (typeIs_int s k t) F.entry_int_rmul (F.args_int_rmul_2 _ _) (int_rmul_tuple k t l its.toArray n dd sl)
        ⟨ho, rfl, ⟨_, ho, rfl⟩, call_meets F.slot_tuple_mul ⟨_, ho, rfl⟩ F.entry_tuple_mul (F.args_tuple_mul_2 _ _) (tuple_mul_same l its.toArray n dd sl k t c0 c1) ⟨ho, ?_⟩⟩)
    refine ⟨.ref l, H, I, rfl, q H l (Same.refl _) ?_⟩
    rw [hT]
    rcases hs1 with e | e
    · rw [e, flat_nil]
    · rw [e]
      simp
  · have hx0 : xs ≠ [] := fun e => hs1 (.inl e)
    have k0 : k = 0 := by
      have : ¬ 2 ≤ k := fun e => hne ⟨hx0, e⟩
      have : k ≠ 1 := fun e => hs1 (.inr e)
      omega
    subst k0
    have hi : its.toArray.isEmpty = false := by
      cases its with
      | nil => exact absurd (List.eq_nil_of_length_eq_zero hle.symm) hx0
      | cons a b => rfl
    refine wpAny_binaryOp_repeat_ref (T := "tuple") (U := "int") (by decide) ⟨_, ho, rfl⟩ (fun s' => typeIs_int s' _ t) noFill_tuple_mul F.fills_int_mul F.slot_int_rmul repeat_tuple F.slot_int_index.lookup
      (call_meets F.slot_int_rmul (typeIs_int s _ t) F.entry_int_rmul (F.args_int_rmul_2 _ _) (int_rmul_tuple _ t l its.toArray n dd sl)
        ⟨ho, rfl, ⟨_, ho, rfl⟩, call_meets F.slot_tuple_mul ⟨_, ho, rfl⟩ F.entry_tuple_mul (F.args_tuple_mul_2 _ _) (tuple_mul_none l its.toArray n dd sl _ t c0 (by rw [hi]; rfl) rfl) ⟨ho, ?_⟩⟩)
    refine ⟨.ref s.heap.objs.size, _, I.laid (t' := s.toks) (o := .tup []) (fun b ob q => Heap.get?_push_of_some _ q) (Nat.le_refl _) ?_, rfl, q _ _ (same_new (I.hok.fresh (Nat.le_refl _))) upd_same⟩
    exact ⟨Nat.zero_le _, [], .nil, IsTup.new _ _⟩
end
end RwR
namespace RwR
open PySem PySem.Spec PyProof.Rows L2
section
variable {X : Cx} {d : Addr} {es : Array DictEntry} {n : Nat}
/-- d[key] of a dict of the module -/
theorem ix_kd (D : KDict X.K X.w d es n) : IxR X (fun x y H Q => ∃ (z : Str) (u0 : Value) (v0 : V), x = .ref d ∧ y = .str z ∧ PySem.W.nsIn X.K d z = some (some u0) ∧ RelV v0 u0 ∧ Q v0 H) := by
  intro value slice pins s σ H x y v u Q I rx ry h hs
  obtain ⟨z, u0, v0, rfl, rfl, e, r, q⟩ := h
  cases rx
  obtain ⟨t, rfl⟩ := ry
  refine tail_any (kd_type D I) PySem.F.slot_dict_getitem.lookup ?_ hs
  exact wpAny_getItem_of (PySem.strKind_is X.prog X.w z t) (PySem.W.mapOf_K (prog := X.prog) I.kIn D.at_ D.lit) (PySem.W.find_K D.at_ e) ⟨v0, H, I.tok _, r, q⟩
end
end RwR
namespace RwR
open PySem PySem.Spec PyProof.Rows L2
/-- a call of a local name that holds one of several defs of one row of parameters -/
def tCallI {ι : Type} (i : Nat) (fs : ι → Addr) (sps : ι → Sp) (E : XK) (t : TA) : TE := fun σ H Q => ∃ a : ι, σ[i]? = some (some (.ref (fs a))) ∧ t σ H fun vs H1 => sps a vs H1 Q E
theorem pe_callI {X : Cx} {ι : Type} {CX : CXT} {k i : Nat} {fs : ι → Addr} {fds : ι → FuncData} {ps : List Str} {sps : ι → Sp} {E : XK} {x : Str} {p pos : Pos} {e : Expr} {es : List Expr} {t : TA}
    (F : ∀ a, FnOk X.prog X.w X.K X.mg X.base CX k (fs a) (fds a) ps (sps a)) (hr : Room k X.A) (hN : X.N[i]? = some x) (hv : Vis X.env.scope x) (hk : ∀ a, PySem.W.keepIn X.K (.ref (fs a)) = true) (hb : ∀ a, Binds X.K (fds a) ps []) (hx : Passes CX X E) (ha : PA X (e :: es) t)
    (hdb : (x == ("__debug__" : Str)) = false := by decide) (hcd : (x == ("__classdict__" : Str)) = false := by decide)
    (he : starEach (e :: es) X.env = (false, eval e X.env) :: starEach es X.env := by rfl) (hpl : (backTo pos (starEach es X.env)).any (·.1) = false := by rfl) : PE X (.Call (.Name x p) (e :: es) [] pos) (tCallI i fs sps E t) := by
  refine ⟨fun pins s σ H Q I h => ?_⟩
  obtain ⟨a, hs, ht⟩ := h
  refine (pe_callL (i := i) (f := fs a) (sp := sps a) (dvs := []) (E := E) (F a) hr hN hv (hk a) (hb a) .nil hx ha hdb hcd he hpl).run pins s σ H Q I ⟨hs, ?_⟩
  have e0 : (fun (vs : List V) (H1 : Hp) => sps a (vs ++ []) H1 Q E) = fun vs H1 => sps a vs H1 Q E := by
    funext vs H1
    rw [List.append_nil]
  rw [e0]
  exact ht
end RwR

/-! d.get(key) of a dict that the module holds -/
namespace RwR
open PySem PySem.Spec PyProof.Rows L2
section
variable {X : Cx} {d : Addr} {es : Array DictEntry} {n : Nat} {o e : Expr} {apos cpos : Pos} {td ty : TE}
def tKGet (K : PySem.W.Frag) (d : Addr) (td ty : TE) : TE := fun σ H Q => td σ H fun x H1 => x = .ref d ∧ ty σ H1 fun y H2 => ∃ (z : Str) (u0 : Value) (v0 : V), y = .str z ∧ PySem.W.nsIn K d z = some (some u0) ∧ RelV v0 u0 ∧ Q v0 H2
theorem pe_kget (D : KDict X.K X.w d es n) (ho : PE X o td) (he : PE X e ty) (m : M1 X o "get" apos e cpos) : PE X (.Call (.Attribute o "get" apos) [e] [] cpos) (tKGet X.K d td ty) := by
  refine ⟨fun pins s σ H Q I h => ?_⟩
  refine wpAny_Call_method m.base m.few m.line PySem.F.plainAttrs_dict PySem.F.slot_dict_get PySem.F.type_dict_get (thn (ho.run pins s σ H _ I h) fun u s1 ⟨x, H1, I1, rx, ex, q1⟩ => ?_)
  subst ex
  obtain rfl : u = Value.ref d := rx
  refine ⟨kd_type D I1, fun b q => ?_, ?_⟩
  · cases q
    exact ⟨_, I1.kIn _ _ D.at_, rfl⟩
  rw [m.trees]
  refine Calls.callWith_builtin rfl (Calls.evalArgs_plain (Calls.spliced_cons (thn (he.run pins s1 σ H1 _ I1 q1) fun iv s2 ⟨y, H2, I2, ry, z, u0, v0, ey, ns, rv, q2⟩ => Calls.spliced_nil ?_)))
  subst ey
  obtain ⟨t, rfl⟩ := ry
  refine call_meetsIn PySem.F.slot_dict_get (kd_type D I2) PySem.F.entry_dict_get (PySem.F.args_dict_get_2 _ _) (meets_dict_get (strKind X.prog X.w) d (PySem.strKind_is X.prog X.w z t) D.low) ⟨_, PySem.W.mapOf_K (prog := X.prog) I2.kIn D.at_ D.lit, ?_⟩
  rw [PySem.W.find_K D.at_ ns]
  exact ⟨v0, H2, I2.tok _, rv, q2⟩
end
end RwR

/-! try with several clauses `except C as n`, all of one name -/
namespace TryAs
open PySem PySem.Spec PyProof.Rows L2
/-- a clause: its class, and what its suite does -/
structure Cl where
  c : Value
  ts : Addr → Value → Option Addr → TS
/-- behind a suite the name is gone -/
def bare (i : Nat) (D : Ends) : Ends := ⟨fun σ H => D.nx (σ.set i none) H, D.rt, fun σ H => D.bk (σ.set i none) H, fun σ H => D.ct (σ.set i none) H⟩
def wish (K : PySem.W.Frag) (i : Nat) (out : WX) (D : Ends) : List Cl → WX
  | [] => out
  | k :: ks => fun cls d σ H => ∃ yes, PySem.W.exmOne K cls k.c = some yes ∧ cond yes (∀ e, H e = none → k.ts e cls d (bare i D) (σ.set i (some (.ref e))) H) (wish K i out D ks cls d σ H)
inductive Cls (X : Cx) (n : Str) : List ExceptHandler → List Cl → Prop
  | stop : Cls X n [] []
  | more {x : Str} {k : Cl} {st : Stmt} {sts : List Stmt} {p1 p2 : Pos} {hds : List ExceptHandler} {ks : List Cl} : Names X x k.c →
      (∀ (e : Addr) (o : Obj) (cls : Value) (d : Option Addr) (pn : List (Addr × Obj)), Zc cls d o → (∃ vs, o.data = .fields vs) → PSs (X.suite e ((e, o) :: pn)) (st :: sts) (k.ts e cls d)) → Cls X n hds ks →
      Cls X n (.ExceptHandler (some (.Name x p1)) (some n) (st :: sts) p2 :: hds) (k :: ks)
section
variable {X : Cx} {n : Str} {i : Nat} {out : WX} {D : Ends} {pins : List (Addr × Obj)} {σ : L2.St} {H : Hp} {sI : Shared} {B : Heap} {e : Addr} {cls : Value} {d : Option Addr}
/-- an error that has come down in X, sI is the state without it -/
structure Down (X : Cx) (pins : List (Addr × Obj)) (σ : L2.St) (H : Hp) (sI : Shared) (B : Heap) (e : Addr) (cls : Value) (d : Option Addr) (h : Heap) : Prop where
  J : Inv X pins σ H sI
  nb : ∀ b o, sI.heap.get? b = some o → b ∉ frs X.stack → B.get? b = some o
  up : sI.heap.UpToSlots h
  fl : HandSPX.FlyingZ B (X.env :: X.outer) e (Zc cls d) h
  na : H e = none
theorem Down.here {h : Heap} {s : Shared} (Z : Down X pins σ H sI B e cls d h) (os : s.os = sI.os) (ag : AllBare s.gens) : Inv X pins σ H { s with heap := h } := Z.J.landed Z.nb Z.fl.1 Z.up os ag
theorem Down.outside {h : Heap} (Z : Down X pins σ H sI B e cls d h) (hf : X.env.frame = some X.env.locals) : e ≠ X.env.locals ∧ e ∉ X.fs := by
  have no : e ∉ frs (X.env :: X.outer) := fun m => by
    obtain ⟨o1, vs, g1, _, f1⟩ := Z.fl.there
    obtain ⟨_, o2, g2, f2⟩ := Z.fl.2.2.1.mem m
    exact f2 vs ((congrArg Obj.data (Option.some.inj (g2.symm.trans g1))).trans f1)
  refine ⟨fun q => no ?_, fun q => no ?_⟩
  · exact q ▸ List.mem_filterMap.mpr ⟨X.env, List.mem_cons_self, hf⟩
  · obtain ⟨v, h1, h2⟩ := List.mem_filterMap.mp q
    exact List.mem_filterMap.mpr ⟨v, List.mem_cons_of_mem _ h1, h2⟩
/-- no clause has taken it: it goes on -/
theorem Down.on {h : Heap} {s : Shared} (Z : Down X pins σ H sI B e cls d h) (hs : X.stack = X.env :: X.outer) (hf : X.env.frame = some X.env.locals) (tk : Takes X out) (os : s.os = sI.os) (ag : AllBare s.gens) (w : out cls d σ H) :
    wpAny (model X.prog X.w) X.A (handleBy (.ref e) X.env []) (SP X pins D) X.xe { s with heap := h } := by
  refine wpAny_handleBy_nil ?_
  have last : wpAny (model X.prog X.w) X.A (setFlight (.ref e) X.env.frame) (fun _ t => wpAny (model X.prog X.w) X.A (throw (.ref e) : Sem Flow) (SP X pins D) X.xe t) X.xe { s with heap := h } := by
    rw [hf]
    exact HandSPX.setFlight_upZ Z.fl fun g held u => wpAny_throw (tk _ _ ⟨e, B, sI, pins, σ, H, cls, d, rfl, Z.J, Z.nb, Z.up.trans u, .inr (.inr (hs ▸ held)), Z.na, os, ag, w⟩)
  obtain ⟨_, _, _, o, vs, T, _, _, g1, _, g2, g3, _⟩ := id Z.fl
  unfold PySem.passOn
  refine wpAny_bind (wpAny_field g1 g2 g3 ?_)
  have ne : ¬ ((Value.ref T == Value.none) = true) := by simp
  rw [if_neg ne]
  first
    | exact wpAny_bind (wpAny_pure (wpAny_bind last))
    | exact wpAny_bind last
theorem Cls.run (hs : X.stack = X.env :: X.outer) (hf : X.env.frame = some X.env.locals) (nd : X.N.Nodup) (hi : X.N[i]? = some n) (ln : X.env.kindOf n = some .local) (tk : Takes X out) {h : Heap} {s : Shared} (Z : Down X pins σ H sI B e cls d h) (os : s.os = sI.os) (ag : AllBare s.gens) :
    ∀ {hds : List ExceptHandler} {ks : List Cl}, Cls X n hds ks → wish X.K i out D ks cls d σ H → wpAny (model X.prog X.w) X.A (handleBy (.ref e) X.env hds) (SP X pins D) X.xe { s with heap := h }
  | _, _, .stop, w => Z.on hs hf tk os ag w
  | _, _, .more (x := x) (k := k) (p1 := p1) (p2 := p2) nm ru re, w => by
    obtain ⟨yes, ex, w⟩ := w
    have I3 := Z.here os ag
    obtain ⟨n1, n2⟩ := Z.outside hf
    obtain ⟨o3, v3, g3, z3, f3⟩ := Z.fl.there
    have S3 := I3.suite g3 f3 Z.na n1 n2
    have ty : PySem.W.Looks (model X.prog X.w) h (typeOf (.ref e)) cls := fun _ _ _ _ kk q => wpAny_typeOf_ref (kk _ _ g3) (z3.1.symm ▸ q)
    have mt := PySem.W.exm_one (M := model X.prog X.w) I3.kIn ty ex
    have look : ∀ {Q E : Value → Shared → Prop}, Q k.c { s with heap := h } → wpAny (model X.prog X.w) (X.A.mark (some (.ref e))) (eval (.Name x p1) X.env) Q E { s with heap := h } := fun {Q E} q => by
      obtain ⟨gl, db, m1 | ⟨m1, m2, m3⟩⟩ := nm
      · exact ld_glob (X := X.suite e ((e, o3) :: (X.pn ++ pins))) S3 gl m1 q db
      · exact ld_blt (X := X.suite e ((e, o3) :: (X.pn ++ pins))) S3 gl m1 m2 q m3 db
    refine wpAny_handleBy_cons (codeAny_handlers_test (look (mt.here ?_))) fun q => nomatch q
    cases yes with
    | false => exact Cls.run hs hf nd hi ln tk Z os ag re w
    | true =>
      refine codeAny_handlers_suite_as (HandSPX.lands_againZ Z.fl fun g fl u => ?_)
      have Z4 : Down X pins σ H sI B e cls d g := ⟨Z.J, Z.nb, Z.up.trans u, fl, Z.na⟩
      have I4 := Z4.here os ag
      obtain ⟨o4, v4, g4, z4, f4⟩ := fl.there
      refine store_ok (X := X.suite e ((e, o4) :: (X.pn ++ pins))) (v := .ref e) (I4.suite g4 f4 Z.na n1 n2) nd hi (.inl ln) rfl (fun s5 S5 => ?_) (.inr ln)
      have run5 := (ru e o4 cls d (X.pn ++ pins) z4 ⟨v4, f4⟩).run [] s5 _ H (bare i D) S5 (w e Z.na)
      refine wpAny_mono run5 (fun fw s6 r6 => ?_) fun _ _ z => z.elim
      have gone : ∀ {σ6 : L2.St} {H6 : Hp} {q : Addr × Obj} {Q : Shared → Prop}, Inv (X.suite e (q :: (X.pn ++ pins))) [] σ6 H6 s6 → (∀ s7, Inv X pins (σ6.set i none) H6 s7 → Q s7) → wpAny (model X.prog X.w) X.A (do bindName X.env n .none; unbindBehindTheSuite X.env n p2) (fun _ s7 => Q s7) X.xe s6 :=
        fun S6 k => gone_ok (S6.unsuite Z.J.ok) nd hi ln k
      match fw, r6 with
      | .next, ⟨σ6, H6, S6, k6⟩ => exact gone S6 fun s7 I7 => ⟨_, _, I7, k6⟩
      | .brk, ⟨σ6, H6, S6, k6⟩ => exact gone S6 fun s7 I7 => ⟨_, _, I7, k6⟩
      | .cont, ⟨σ6, H6, S6, k6⟩ => exact gone S6 fun s7 I7 => ⟨_, _, I7, k6⟩
      | .ret v, ⟨v6, σ6, H6, S6, rv, k6⟩ => exact gone S6 fun s7 I7 => ⟨_, _, _, I7, rv, k6⟩
variable {body : List Stmt} {hd : ExceptHandler} {hds : List ExceptHandler} {ks : List Cl} {pos : Pos} {tb : WX → TS}
/-- the rule -/
theorem ps_try_asN (hs : X.stack = X.env :: X.outer) (hf : X.env.frame = some X.env.locals) (nd : X.N.Nodup) (hi : X.N[i]? = some n) (ln : X.env.kindOf n = some .local) (tk : Takes X out)
    (hb : ∀ (W : WX) (pn : List (Addr × Obj)) (xe : Value → Shared → Prop), Takes (X.tr pn xe) W → PassesOwn (model X.prog X.w) X.A X.env xe → PSs (X.tr pn xe) body (tb W)) (hh : Cls X n (hd :: hds) ks) :
    PS X (.Try body (hd :: hds) [] [] pos) fun D σ H => tb (wish X.K i out D ks) D σ H := by
  refine ⟨fun pins s σ H D I h => wpAny_Try_except ?_⟩
  have fr : X.A.frames = some (X.env :: X.outer) := I.ok.frames.trans (congrArg some hs)
  refine wpAny_mono ((hb _ (X.pn ++ pins) _ ?_ PassesOwn.looking).run [] s σ H D (I.toTry _) h) (fun fw t r => ?_) fun _ _ z => z
  · rintro _ t ⟨e, B, sI, _, σ1, H1, cls, d, rfl, J, nb, up, sky, na, os, ag, w⟩
    refine Sky.land Zc.steady fr hf (hs ▸ sky) fun g fl u => ?_
    exact Cls.run hs hf nd hi ln tk ⟨J.ofTry I.ok, nb, up.trans u, fl, na⟩ os ag hh w
  · match fw, r with
    | .next, ⟨_, _, J, q⟩ => exact wpAny_execs_nil ⟨_, _, J.ofTry I.ok, q⟩
    | .brk, ⟨_, _, J, q⟩ => exact ⟨_, _, J.ofTry I.ok, q⟩
    | .cont, ⟨_, _, J, q⟩ => exact ⟨_, _, J.ofTry I.ok, q⟩
    | .ret v, ⟨_, _, _, J, rv, q⟩ => exact ⟨_, _, _, J.ofTry I.ok, rv, q⟩
end
end TryAs

namespace IsX
open PySem L2
/-! ### isinstance of a caught error that bears a field -/
structure XiC (K : PySem.W.Frag) (D : Addr) : Prop where
  xf : XfC K D
  ic : (PySem.W.clsIn K D).isSome = true
  c1 : PySem.W.findIn K (.ref D) "__class__" = some (some (.builtin "object.__class__"))
  c2 : PySem.W.specialIn K (.builtin "object.__class__") "__get__" = some (some (.builtin "getset_descriptor.__get__"))
  c3 : PySem.W.takesIn K (.builtin "object.__class__") = some true
  c4 : PySem.W.mroIn K D (.type "object") = some true
def rIsX (K : PySem.W.Frag) (D a : Addr) (cls : Value) (d : Option Addr) : List V → Hp → VK → Prop := fun xs H Q => ∃ (c : V) (cv : Value) (b : Bool) (dd : Addr) (fs : List (Str × V)), xs = [.ref a, c] ∧ (∀ u, RelV c u → u = cv) ∧ cls = .ref D ∧ d = some dd ∧ H dd = some (.xd fs) ∧ PySem.W.kitOne K (.ref D) cv = some b ∧ Q (.bl b) H
theorem call_isX {X : Cx} {a D : Addr} {oe : Obj} {cls : Value} {d : Option Addr} {pn : List (Addr × Obj)} (C : XiC X.K D) (hz : Zc cls d oe) (hf : ∃ vs, oe.data = .fields vs) : CallR (X.suite a ((a, oe) :: pn)) (.builtin "isinstance") (rIsX X.K D a cls d) := by
  intro pins s σ H xs us Q I r h
  obtain ⟨c, cv, b, dd, fs, rfl, hcv, rfl, rfl, hdd, e, q⟩ := h
  cases r with
  | cons rx rr =>
    cases rr with
    | cons rt rr =>
      cases rr
      cases rx
      cases hcv _ rt
      obtain ⟨hget, _⟩ := I.pin (a, oe) (List.mem_append.mpr (.inl List.mem_cons_self))
      obtain ⟨vs, hv⟩ := hf
      have hx : ObjOk X.prog X.w H s.heap dd (.xd fs) := I.hok dd _ hdd
      obtain ⟨mA, hns, _⟩ := hx
      obtain ⟨od, ho, _⟩ := lookIn_ns hns
      have J : PySem.W.InstAt s.heap a oe D (some od) := ⟨hget, hz.1, by unfold PySem.W.notCls; rw [hv] <;> rfl, by rw [hz.2]; exact ho⟩
      exact PySem.W.kia_one (PySem.W.kitx_exc (gt := none) C.ic C.xf.ga C.xf.gg C.xf.exC C.c1 C.c2 C.c3 C.c4) I.kIn J e (fun z => nomatch z) fun tk => ⟨.bl b, H, I.kept (t' := tk) fun _ _ z => z, rfl, q⟩
/-- the slots are as many as the names -/
theorem takes_len {X : Cx} {W : WX} (tk : Takes X W) : Takes X (fun cls d σ H => σ.length = X.N.length → W cls d σ H) := fun u s2 ⟨a, B, sI, pins, σ, H, cls, d, e, I, nb, up, sky, na, os, ag, h⟩ =>
  tk u s2 ⟨a, B, sI, pins, σ, H, cls, d, e, I, nb, up, sky, na, os, ag, h I.len⟩
theorem len3 {σ : St} (h : σ.length = 3) : ∃ a b c, σ = [a, b, c] := by
  match σ, h with
  | [a, b, c], _ => exact ⟨a, b, c, rfl⟩
end IsX

/-! what a law's _law_came asks of the classes that it catches -/
namespace CmH
open PySem L2 IsX
theorem ss_imp {X : Cx} {ss : List Stmt} {t t' : L2.TS} (h : PSs X ss t) (f : ∀ D σ H, t' D σ H → t D σ H) : PSs X ss t' := ⟨fun pins s σ H D I q => h.run pins s σ H D I (f _ _ _ q)⟩
/-- an error with a field; CB its own base, bt Python's -/
structure HF (K : PySem.W.Frag) (fld : Str) (bt : String) (C CB : Addr) : Prop where
  x : XiC K C
  n : PySem.W.findIn K (.ref C) fld = some none
  k1 : PySem.W.kitOne K (.ref C) (.ref CB) = some true
  k2 : PySem.W.kitOne K (.ref C) (.type bt) = some true
/-- an error without fields -/
structure HN (K : PySem.W.Frag) (bt : String) (C CB : Addr) : Prop where
  x : ExcC K C
  k1 : PySem.W.kitOne K (.ref C) (.ref CB) = some true
  k2 : PySem.W.kitOne K (.ref C) (.type bt) = some true
def tRowF (D : Addr) (nm fld : Str) (a : Addr) (cls : Value) (d : Option Addr) : L2.TS := fun Z σ H => cls = .ref D ∧ ∃ (dd : Addr) (v : V), d = some dd ∧ H dd = some (.xd [(fld, v)]) ∧ σ[2]? = some (some (.ref a)) ∧ ∀ p, H p = none → Z.rt (.ref p) (upd H p (.lst [.str nm, v, .bl true]))
def tRowN (D : Addr) (nm : Str) (a : Addr) (cls : Value) (d : Option Addr) : L2.TS := fun Z σ H => cls = .ref D ∧ d = none ∧ σ[2]? = some (some (.ref a)) ∧ ∀ p, H p = none → Z.rt (.ref p) (upd H p (.lst [.str nm, .bl true]))
def tGiv : L2.TS := fun D σ H => ∃ u : V, σ[1]? = some (some u) ∧ ∀ p, H p = none → D.rt (.ref p) (upd H p (.lst [.str "given", u]))
end CmH

/-! is_fault; papers of faults: source_of, shows_fault, form_of, holds -/
namespace My
open PySem L2 Cm LM EM
abbrev sIsF : Stmt := top 78
abbrev sCKN : Stmt := top 102
abbrev sSo : Stmt := top 107
abbrev sITO : Stmt := top 106
abbrev sSF : Stmt := top 109
abbrev sFo : Stmt := top 115
abbrev sHo : Stmt := top 116
abbrev PF6 : List Str := ["loop", "source", "name", "items", "size", "replies"]
structure TxHf (w : World) (K : PySem.W.Frag) (mg : Str → Option Value) where
  F : TxFa w K mg
  tuple : mg "tuple" = none
  pN : Addr
  gN : mg "NAMES" = some (.ref pN)
  lN : ∀ H, SqT K H pN [.str "whole", .str "filled", .str "even", .str "quiet", .str "ends"]
  dB : Addr
  gB : mg "BREAKS" = some (.ref dB)
  dwB : He.dicW K dB = some (He.keysIn w.params ["whole", "filled", "even"])
  nkB : PySem.W.nsIn K dB "whole" = some (some (.ref F.bw.f)) ∧ PySem.W.nsIn K dB "filled" = some (some (.ref F.bf.f)) ∧ PySem.W.nsIn K dB "even" = some (some (.ref F.be.f))
  isf : Df K mg "is_fault" sIsF PF6
  ckn : Df K mg "check_name" sCKN ["name"]
  so : Df K mg "source_of" sSo ["text"]
  ito : Df K mg "is_tuple_of" sITO ["value", "many"]
  sf : Df K mg "shows_fault" sSF ["claim", "paper"]
  dF : Addr
  gF : mg "LONG_FORMS" = some (.ref dF)
  dw : He.dicW K dF = some (He.keysIn w.params ["always", "fault", "unlike"])
  nk : PySem.W.nsIn K dF "fault" = some (some (.ref sf.f))
  fo : Df K mg "form_of" sFo ["claim"]
  ho : Df K mg "holds" sHo ["claim", "paper"]
  CI : Addr
  gI : mg "InputError" = some (.ref CI)
  xc : PySem.W.exmOne K (.ref F.U.k.eR.C) (.ref CI) = some true
/-! ### what a source can give -/
def optM (A B E : Str) (left sz : Nat) : FJ.Rep := if left = 0 then [(0, decide (E ≠ "empty"))]
  else (if B = "waiting" then [(0, false)] else []) ++ ((List.range (min left sz)).filter fun i => decide (A = "short" ∨ i + 1 = min left sz)).map fun i => (i + 1, decide (E = "with") && decide (i + 1 = left))
theorem opt_zero (A B E : Str) (sz : Nat) : optM A B E 0 sz = [(0, decide (E ≠ "empty"))] := by unfold optM; rw [if_pos rfl]
theorem opt_mem {A B E : Str} (hA : isAm A) (hE : isEn E) {left sz : Nat} {r : Nat × Bool} : r ∈ optM A B E left sz ↔ canU A B (left : Int) (sz : Int) (r.1 : Int) = true ∧ r.2 = mustU E (left : Int) ((left : Int) - (r.1 : Int)) := by
  obtain ⟨c, t⟩ := r
  have hexc : ¬ ("short" : Str) = "exact" := by decide +kernel
  have hsh : ¬ ("exact" : Str) = "short" := by decide +kernel
  unfold optM
  by_cases l0 : left = 0
  · subst l0
    rw [if_pos rfl, List.mem_singleton, Prod.mk.injEq]
    have hc : canU A B ((0 : Nat) : Int) (sz : Int) (c : Int) = true ↔ c = 0 := by
      unfold canU
      by_cases h : (c : Int) = 0
      · rw [if_pos h, if_pos (show ((0 : Nat) : Int) = 0 from rfl)]
        exact ⟨fun _ => by omega, fun _ => rfl⟩
      · rw [if_neg h]
        rcases hA with rfl | rfl
        · rw [if_pos rfl]
          exact ⟨fun q => by have := of_decide_eq_true q; split at this <;> omega, fun q => by omega⟩
        · rw [if_neg hexc]
          exact ⟨fun q => by have := of_decide_eq_true q; split at this <;> omega, fun q => by omega⟩
    have hm : c = 0 → mustU E ((0 : Nat) : Int) (((0 : Nat) : Int) - (c : Int)) = decide (E ≠ "empty") := by
      rintro rfl
      rcases hE with rfl | rfl | rfl <;> decide +kernel
    exact ⟨fun ⟨a, b⟩ => ⟨hc.mpr a, b.trans (hm a).symm⟩, fun ⟨a, b⟩ => ⟨hc.mp a, b.trans (hm (hc.mp a))⟩⟩
  · rw [if_neg l0, List.mem_append]
    have hcan : canU A B (left : Int) (sz : Int) (c : Int) = true ↔ (c = 0 ∧ B = "waiting") ∨ (c ≠ 0 ∧ c ≤ min left sz ∧ (A = "short" ∨ c = min left sz)) := by
      unfold canU
      have em : (if (left : Int) < (sz : Int) then (left : Int) else (sz : Int)) = ((min left sz : Nat) : Int) := by split <;> omega
      rw [em]
      by_cases h : (c : Int) = 0
      · rw [if_pos h, if_neg (by omega)]
        exact ⟨fun q => .inl ⟨by omega, of_decide_eq_true q⟩, fun q => q.elim (fun q => decide_eq_true q.2) fun q => absurd (show c = 0 by omega) q.1⟩
      · rw [if_neg h]
        rcases hA with rfl | rfl
        · rw [if_pos rfl]
          exact ⟨fun q => .inr ⟨by omega, by have := of_decide_eq_true q; omega, .inr (by have := of_decide_eq_true q; omega)⟩, fun q => q.elim (fun q => absurd (show (c : Int) = 0 by omega) h) fun q => q.2.2.elim (fun z => absurd z hsh) fun z => decide_eq_true (by omega)⟩
        · rw [if_neg hexc]
          exact ⟨fun q => .inr ⟨by omega, by have := of_decide_eq_true q; omega, .inl rfl⟩, fun q => q.elim (fun q => absurd (show (c : Int) = 0 by omega) h) fun q => decide_eq_true (by omega)⟩
    have hmust : mustU E (left : Int) ((left : Int) - (c : Int)) = (decide (E = "with") && decide (c = left)) := by
      unfold mustU
      rcases hE with rfl | rfl | rfl
      · rw [if_pos rfl, decide_eq_false (show ¬ ("empty" : Str) = "with" by decide +kernel), Bool.false_and]
      · rw [if_neg (show ¬ ("with" : Str) = "empty" by decide +kernel), if_neg (show ¬ ("with" : Str) = "behind" by decide +kernel), decide_eq_true rfl, Bool.true_and]
        exact decide_eq_decide.mpr (by omega)
      · rw [if_neg (show ¬ ("behind" : Str) = "empty" by decide +kernel), if_pos rfl, decide_eq_false (show ¬ ("behind" : Str) = "with" by decide +kernel), Bool.false_and]
        exact decide_eq_false (by omega)
    rw [hcan, hmust]
    constructor
    · rintro (h | h)
      · by_cases hB : B = "waiting"
        · rw [if_pos hB] at h
          cases List.mem_singleton.mp h
          exact ⟨.inl ⟨rfl, hB⟩, by rw [decide_eq_false (show ¬ 0 = left by omega), Bool.and_false]⟩
        · rw [if_neg hB] at h
          cases h
      · obtain ⟨i, hi, e⟩ := List.mem_map.mp h
        obtain ⟨hi1, hi2⟩ := List.mem_filter.mp hi
        have hi1 := List.mem_range.mp hi1
        have hi2 := of_decide_eq_true hi2
        cases e
        exact ⟨.inr ⟨by omega, by omega, hi2⟩, rfl⟩
    · rintro ⟨(⟨rfl, hB⟩ | ⟨h1, h2, h3⟩), ht⟩
      · replace ht : t = (decide (E = "with") && decide (0 = left)) := ht
        rw [decide_eq_false (show ¬ 0 = left by omega), Bool.and_false] at ht
        rw [if_pos hB, ht]
        exact .inl (List.mem_singleton.mpr rfl)
      · refine .inr (List.mem_map.mpr ⟨c - 1, List.mem_filter.mpr ⟨List.mem_range.mpr (by omega), decide_eq_true ?_⟩, ?_⟩)
        · exact h3.imp id fun z => by omega
        · replace ht : t = (decide (E = "with") && decide (c = left)) := ht
          rw [show c - 1 + 1 = c by omega, ht]
theorem can_le {A B : Str} (hA : isAm A) {left sz c : Nat} (h : canU A B (left : Int) (sz : Int) (c : Int) = true) : c ≤ left ∧ c ≤ sz := by
  unfold canU at h
  by_cases h0 : (c : Int) = 0
  · omega
  · rw [if_neg h0] at h
    rcases hA with rfl | rfl
    · rw [if_pos rfl] at h
      have := of_decide_eq_true h
      split at this <;> omega
    · rw [if_neg (by decide +kernel)] at h
      have := of_decide_eq_true h
      split at this <;> omega
theorem alw_eq {A B E : Str} (hA : isAm A) (hE : isEn E) {sz : Nat} : ∀ (rs : FJ.Rep) (left : Nat), allowsU A B E (sz : Int) (left : Int) rs = FJ.alw (fun l => optM A B E l sz) left rs
  | [], _ => rfl
  | (c, t) :: rs, left => by
    show (if canU A B (left : Int) (sz : Int) (c : Int) = true ∧ t = mustU E (left : Int) ((left : Int) - (c : Int)) then allowsU A B E (sz : Int) ((left : Int) - (c : Int)) rs else false) = (decide ((c, t) ∈ optM A B E left sz) && FJ.alw (fun l => optM A B E l sz) (left - c) rs)
    by_cases h : canU A B (left : Int) (sz : Int) (c : Int) = true ∧ t = mustU E (left : Int) ((left : Int) - (c : Int))
    · rw [if_pos h, decide_eq_true (opt_mem hA hE (r := (c, t)) |>.mpr h), Bool.true_and, ← alw_eq hA hE rs (left - c), show ((left - c : Nat) : Int) = (left : Int) - (c : Int) by have := (can_le hA h.1).1; omega]
    · rw [if_neg h, decide_eq_false (fun q => h ((opt_mem hA hE (r := (c, t))).mp q)), Bool.false_and]
theorem alw_le {A B E : Str} (hA : isAm A) {sz : Nat} : ∀ (rs : FJ.Rep) (left : Nat), allowsU A B E (sz : Int) (left : Int) rs = true → ∀ r ∈ rs, r.1 ≤ sz
  | [], _, _, r, h => (nomatch h)
  | (c, t) :: rs, left, e, r, h => by
    have e : (if canU A B (left : Int) (sz : Int) (c : Int) = true ∧ t = mustU E (left : Int) ((left : Int) - (c : Int)) then allowsU A B E (sz : Int) ((left : Int) - (c : Int)) rs else false) = true := e
    by_cases g : canU A B (left : Int) (sz : Int) (c : Int) = true ∧ t = mustU E (left : Int) ((left : Int) - (c : Int))
    · rw [if_pos g] at e
      have := can_le hA g.1
      rcases List.mem_cons.mp h with rfl | h
      · exact this.2
      · rw [show (left : Int) - (c : Int) = ((left - c : Nat) : Int) by omega] at e
        exact alw_le hA rs _ e r h
    · rw [if_neg g] at e
      cases e
/-! ### kinds as texts -/
def kindT (A B E : Str) : Str := Txt.join " " [A, B, E]
theorem kind_split {A B E : Str} (hA : isAm A) (hB : isPa B) (hE : isEn E) : Txt.split (kindT A B E) " " = [A, B, E] ∧ (kindT A B E).length ≤ 100 := by
  rcases hA with rfl | rfl <;> rcases hB with rfl | rfl <;> rcases hE with rfl | rfl | rfl <;> exact ⟨by decide +kernel, by decide +kernel⟩
theorem nameN {nm : Str} (h : FJ.Names nm) : inV (.str nm) [.str "whole", .str "filled", .str "even", .str "quiet", .str "ends"] = true := by
  rcases h with rfl | rfl | rfl | rfl | rfl <;> decide +kernel
section
variable {P : Program} {w : World} {K : PySem.W.Frag} {mg : Str → Option Value} {base : Heap}
def fkB (T : TxHf w K mg) : Bk → Addr
  | .w => T.F.bw.f
  | .f => T.F.bf.f
  | .e => T.F.be.f
def fdB (T : TxHf w K mg) : Bk → FuncData
  | .w => T.F.bw.fd
  | .f => T.F.bf.fd
  | .e => T.F.be.fd
theorem ok_bk (T : TxHf w K mg) : ∀ k : Bk, FnOk P w K mg base CX0 2 (fkB T k) (fdB T k) BP (spBk T.F.N.X.C (bkG k))
  | .w => ok_bw T.F
  | .f => ok_bf T.F
  | .e => ok_be T.F
theorem bk_keep (T : TxHf w K mg) : ∀ k : Bk, PySem.W.keepIn K (.ref (fkB T k)) = true
  | .w => T.F.bw.k
  | .f => T.F.bf.k
  | .e => T.F.be.k
theorem bk_binds (T : TxHf w K mg) : ∀ k : Bk, Binds K (fdB T k) BP []
  | .w => T.F.bw.b
  | .f => T.F.bf.b
  | .e => T.F.be.b
theorem bk_ns (T : TxHf w K mg) : ∀ k : Bk, PySem.W.nsIn K T.dB (bkS k) = some (some (.ref (fkB T k)))
  | .w => T.nkB.1
  | .f => T.nkB.2.1
  | .e => T.nkB.2.2
/-! ### is_fault -/
def spIsF (T : TxFa w K mg) : Sp := fun vs H Q _ => ∃ (lo so q : Addr) (t A B E nm : Str) (n sz : Nat) (xs : List V) (rs : FJ.Rep), vs = [.ref lo, .ref so, .str nm, .int (n : Nat), .int (sz : Nat), .ref q] ∧ LoopAt T.N.T.C H lo t ∧ goodText t = true ∧ SrcU T.U.M.U.C H so A B E ∧ FJ.Names nm ∧ n ≤ 1000 ∧ 1 ≤ sz ∧ sz ≤ 1000 ∧ H q = some (.tup xs) ∧ Rps H xs rs ∧ rs.length ≤ 100 ∧ rs.length * sz ≤ 100 ∧ (∀ r ∈ rs, r.1 ≤ sz) ∧
  ∀ H', Same H H' → Q (.bl (FJ.isF sz (ordsR t) (ordsE t) (mustU E 0 0) nm n rs)) H'
abbrev NIf : List Str := ["loop", "source", "name", "items", "size", "replies", "work", "breaks"]
theorem scIf : FnScope NIf PF6 (defScope sIsF) := ⟨rfl, rfl, rfl, by decide +kernel, rfl, by decide +kernel, by decide +kernel⟩
structure Gd4 (ro eo : List (Str × Str)) : Prop where
  l1 : ro.length ≤ 12
  l2 : eo.length ≤ 6
  a1 : adds ro ≤ 1
  a2 : adds eo = 0
theorem adds_leS : ∀ B : List Str, adds (B.map orderOf) = (B.filter isAdd).length
  | [] => rfl
  | b :: r => by
    show isA (orderOf b).2 + adds (r.map orderOf) = _
    rw [adds_leS r]
    by_cases h : (orderOf b).2 = "add"
    · have : isAdd b = true := decide_eq_true h
      rw [List.filter_cons_of_pos this, List.length_cons, isA, if_pos h]
      omega
    · have : ¬ isAdd b = true := fun z => h (of_decide_eq_true z)
      rw [List.filter_cons_of_neg this, isA, if_neg h]
      omega
theorem good4 {t : Str} (g : goodText t = true) : Gd4 (ordsR t) (ordsE t) := by
  obtain ⟨rB, rE⟩ := good_iff.mp g
  refine ⟨by rw [ordsR, List.length_map]; exact (round_sht rB).2, by rw [ordsE, List.length_map]; exact (ending_sht rE).2, by rw [ordsR, adds_leS]; exact round_adds rB, ?_⟩
  rw [ordsE, adds_leS, show (wordsE t).filter isAdd = [] from List.filter_eq_nil_iff.mpr fun z hz => ?_]
  · rfl
  · rw [wd_noadd z (Wd.mem ((word_wd ((isEnding_iff.mp rE).2 z hz)).mono (by decide +kernel)))]
    exact Bool.false_ne_true
theorem ok_isf (T : TxHf w K mg) : FnOk P w K mg base CX0 7 T.isf.f T.isf.fd PF6 (spIsF T.F) := by
  have GT : FnOk P w K mg base CX0 5 T.F.N.lt.f T.F.N.lt.fd ["self", "size", "replies"] (spLT T.F.N.T.C T.F.N.X.C) := ok_lt T.F.N
  have GQ : FnOk P w K mg base CX0 1 T.F.bq.f T.F.bq.fd ["work", "replies"] (spBq T.F.N.X.C) := ok_bq T.F
  have GN : FnOk P w K mg base CX0 6 T.F.bn.f T.F.bn.fd ["work", "source", "items", "replies"] (spBn T.F.N.X.C T.F.U.M.U.C) := ok_bn T.F
  have GK : ∀ k : Bk, FnOk P w K mg base CX0 2 (fkB T k) (fdB T k) BP (spBk T.F.N.X.C (bkG k)) := ok_bk T
  have hk := bk_keep T
  have hb := bk_binds T
  obtain ⟨es, nd, D⟩ := He.dicW_ok T.dwB
  refine T.isf.F.ok scIf (fun vs H Q E h => ?_) (fun cdv A outer s H vs Q E hr h => ?_)
  · obtain ⟨_, _, _, _, _, _, _, _, _, _, _, _, rfl, _⟩ := h
    rfl
  · obtain ⟨lo, so, q, t, A1, B1, E1, nm, n, sz, xs, rs, rfl, hL, gt, hU, hn, n1, z1, z2, hq, hR, hl, hb2, hc, k⟩ := h
    have hr1 : Room 1 _ := hr.mono (by decide)
    have hr2 : Room 2 _ := hr.mono (by decide)
    have hr5 : Room 5 _ := hr.mono (by decide)
    have hr6 : Room 6 _ := hr.mono (by decide)
    refine ⟨_, (pss_cons (ps_set (i := 6) scIf.nd rfl (.inl rfl) (pe_meth (pv 0) T.F.N.T.cl T.F.N.lt.m GT hr5 T.F.N.lt.b .nil pass0 (pa_cons (pv 4) (pa_cons (pv 5) pa_nil)))) (pss_cons (ps_if (pt_cmpR op_lt (pe_fld (pv 6) rfl) (pe_callB call_len_seq (by rfl) T.F.N.X.len PySem.boot_len (pa_cons (pv 5) pa_nil)) (nomark _)) (pss_one (ps_ret pe_bl)) pss_nil) (pss_cons (ps_if (pt_cmpR op_eq (pv 2) pe_str (nomark _)) (pss_one (ps_ret (pe_call GQ hr1 rfl T.F.bq.g T.F.bq.k T.F.bq.b .nil pass0 (pa_cons (pv 6) (pa_cons (pv 5) pa_nil))))) pss_nil) (pss_cons (ps_if (pt_cmpR op_eq (pv 2) pe_str (nomark _)) (pss_one (ps_ret (pe_call GN hr6 rfl T.F.bn.g T.F.bn.k T.F.bn.b .nil pass0 (pa_cons (pv 6) (pa_cons (pv 1) (pa_cons (pv 3) (pa_cons (pv 5) pa_nil))))))) pss_nil) (pss_cons (ps_set (i := 7) scIf.nd rfl (.inl rfl) (pe_ix (RwR.ix_kd D) (pe_glob (v := .ref T.dB) rfl T.gB rfl) (pv 2) (fun _ _ => rfl))) (pss_one (ps_ret (RwR.pe_callI (i := 7) (E := E0) GK hr2 rfl (.inl rfl) hk hb pass0 (pa_cons (pe_meth (pv 0) T.F.N.T.cl T.F.N.lt.m GT hr5 T.F.N.lt.b .nil pass0 (pa_cons (pv 4) (pa_cons (pe_slice sl_tupH (pv 5) po_none (po_some (pe_un un_neg pe_int))) pa_nil))) (pa_cons (pv 6) (pa_cons (pv 3) pa_nil))))))))))), ?_⟩
    have g4 := good4 gt
    have lx := hR.len
    obtain ⟨dx0, pr, pe, po, pq, e1, _⟩ := id hL
    refine ⟨_, rfl, lo, dx0, _, rfl, e1, lf_no _ _ _ _ _ (by decide +kernel) (by decide +kernel) (by decide +kernel) (by decide +kernel) (by decide +kernel), _, rfl, _, rfl, lo, q, t, sz, xs, rs, rfl, hL, gt, z1, z2, hq, hR, hl, hc, fun H1 x dx ro eo pp hd tl eT s1 nx np X1 oR oE => ?_⟩
    have uu := FJ.rn_u sz (ordsR t) (ordsE t) rs
    have bd := runM_bound (ro := ordsR t) (eo := ordsE t) z1 g4.l1 g4.l2 rs hl hc
    have wb := FJ.rn_wt (sz := sz) (h := sz) g4.l1 g4.l2 g4.a1 g4.a2 rs hl hb2 hc
    have wb' := FJ.rn_wt (sz := sz) (h := sz) g4.l1 g4.l2 g4.a1 g4.a2 rs.dropLast (by rw [List.length_dropLast]; omega) (Nat.le_trans (Nat.mul_le_mul_right _ (by rw [List.length_dropLast]; omega)) hb2) fun r hr => hc r (FJ.mem_drop hr)
    have few : Few sz (18 * rs.length) (rs.length * 32724) (FJ.rn sz (ordsR t) (ordsE t) rs).x := by rw [rn_of]; exact bd.1
    unfold FJ.isF at k
    generalize eW : FJ.rn sz (ordsR t) (ordsE t) rs = W at k X1 eT uu wb few
    obtain ⟨h1, r1, vs1, ee1, _⟩ := id X1.ex
    refine ⟨_, rfl, x, T.F.N.X.C, dx, _, _, rfl, ee1, T.F.N.X.cl, T.F.N.X.nA, xf_ak .., _, rfl, q, _, rfl, .inr (SqT.of (s1 _ _ hq)), _, _, rfl, rfl, _, rfl, ?_⟩
    rw [lx]
    by_cases c1 : W.u < rs.length
    · rw [if_pos c1] at k
      rw [decide_eq_true (show ((W.u : Nat) : Int) < ((rs.length : Nat) : Int) by omega)]
      exact iteT (k _ s1)
    rw [if_neg c1] at k
    rw [decide_eq_false (show ¬ ((W.u : Nat) : Int) < ((rs.length : Nat) : Int) by omega)]
    have eT : tl = FJ.toldR rs := by rw [eT, show W.u = rs.length by omega, List.take_length]
    subst eT
    refine iteF ⟨_, rfl, rfl, _, rfl, ?_⟩
    rw [dS]
    by_cases c2 : nm = "quiet"
    · rw [if_pos c2] at k
      rw [decide_eq_true c2]
      exact iteT ⟨_, rfl, _, rfl, x, dx, ro, eo, pp, q, _, sz, hd, _, W.x, W.st, xs, rs, rfl, X1, s1 _ _ hq, hR.same s1, hl, fun H2 s2 => k _ (Same.trans s1 s2)⟩
    rw [if_neg c2] at k
    rw [decide_eq_false c2]
    refine iteF ⟨_, rfl, rfl, _, rfl, ?_⟩
    rw [dS]
    by_cases c3 : nm = "ends"
    · rw [if_pos c3] at k
      rw [decide_eq_true c3]
      refine iteT ⟨_, rfl, _, rfl, _, rfl, _, rfl, x, dx, ro, eo, pp, so, q, _, sz, n, 18 * rs.length, rs.length * 32724, hd, _, W.x, W.st, A1, B1, E1, ordsR t, ordsE t, xs, rs, rfl, X1, oR, oE, g4.l1, g4.l2, z1, z2, few, by omega, by omega, hU.same s1, s1 _ _ hq, hR.same s1, hl, fun H2 o2 => ?_⟩
      exact k H2 (off2_same s1 nx np o2)
    rw [if_neg c3] at k
    rw [decide_eq_false c3]
    -- the three others
    obtain ⟨b, eb⟩ : ∃ b : Bk, nm = bkS b := by
      rcases hn with h | h | h | h | h
      · exact ⟨.w, h⟩
      · exact ⟨.f, h⟩
      · exact ⟨.e, h⟩
      · exact absurd h c2
      · exact absurd h c3
    have kb : ∀ H', Same H H' → Q (.bl (bkG b sz (FJ.rn sz (ordsR t) (ordsE t) rs.dropLast).x W.x W.st n)) H' := by
      intro H' s'
      have := k H' s'
      subst eb
      cases b with
      | w =>
        rw [if_pos (show bkS .w = "whole" from rfl)] at this
        exact this
      | f =>
        rw [if_neg (show ¬ bkS .f = "whole" by decide +kernel), if_pos (show bkS .f = "filled" from rfl)] at this
        exact this
      | e =>
        rw [if_neg (show ¬ bkS .e = "whole" by decide +kernel), if_neg (show ¬ bkS .e = "filled" by decide +kernel)] at this
        exact this
    clear k
    subst eb
    refine iteF ⟨_, rfl, bkS b, .ref (fkB T b), .ref (fkB T b), rfl, rfl, bk_ns T b, rfl, ?_⟩
    have hL1 := hL.same s1
    obtain ⟨dx2, pr2, pe2, po2, pq2, e2, _⟩ := id hL1
    refine ⟨b, rfl, ?_⟩
    refine ⟨_, rfl, lo, dx2, _, rfl, e2, lf_no _ _ _ _ _ (by decide +kernel) (by decide +kernel) (by decide +kernel) (by decide +kernel) (by decide +kernel), _, rfl, _, rfl, ?_⟩
    unfold tNoPart
    refine ⟨_, rfl, _, rfl, q, _, rfl, s1 _ _ hq, fun H2 z s2 hz => ?_⟩
    rw [cut_m1] at hz
    have s12 := Same.trans s1 s2
    refine ⟨lo, z, t, sz, _, rs.dropLast, rfl, hL.same s12, gt, z1, z2, hz, hR.drop.same s12, by rw [List.length_dropLast]; omega, fun r hr => hc r (FJ.mem_drop hr), fun H3 xb dxb rob eob ppb hdb tlb _ s3 nxb npb X3 _ _ => ?_⟩
    refine ⟨_, rfl, _, rfl, ?_⟩
    have lw := wt_flat (FJ.rn sz (ordsR t) (ordsE t) rs.dropLast).x.pieces
    exact ⟨xb, dxb, rob, eob, ppb, x, dx, ro, eo, pp, _, _, sz, n, hdb, hd, tlb, _, _, W.x, _, W.st, rfl, X3, (X1.same s2).same s3, wb, by omega, n1, fun H4 s4 => kb _ (Same.trans s12 (Same.trans s3 s4))⟩
end
end My

/-! the law's own looking at faults: kinds, what a source can give, going on for ever, what is shown -/
namespace My
open PySem L2 Cm LM EM
abbrev sKind : Stmt := top 124
abbrev sOpt : Stmt := top 130
abbrev sFev : Stmt := top 131
abbrev sFlat : Stmt := top 132
abbrev sShw : Stmt := top 133
abbrev PO3 : List Str := ["_law_kind_here", "_law_left", "_law_wide"]
abbrev PV4 : List Str := ["_law_made", "_law_kind_here", "_law_box_here", "_law_wide"]
abbrev PS7 : List Str := ["_law_made", "_law_kind_here", "_law_tale", "_law_prop", "_law_left", "_law_box_here", "_law_wide"]
structure TxLw (K : PySem.W.Frag) (mg : Str → Option Value) where
  B : TxB K mg
  D : TxD K mg
  min : mg "min" = none
  any : mg "any" = none
  knd : Df K mg "_law_kind" sKind ["_law_jar_here"]
  opt : Df K mg "_law_options" sOpt PO3
  fev : Df K mg "_law_for_ever" sFev PV4
  flt : Df K mg "_law_flat" sFlat ["_law_out"]
  shw : Df K mg "_law_shown" sShw PS7
section
variable {P : Program} {w : World} {K : PySem.W.Frag} {mg : Str → Option Value} {base : Heap}
/-! ### _law_kind -/
def spKind : Sp := fun vs H Q _ => ∃ j : Addr, vs = [.ref j] ∧ Jar H j ∧ ∀ (H' : Hp) (q : Addr) (A B E : Str), Off j H H' → Jar H' j → q ≠ j → isAm A → isPa B → isEn E → H' q = some (.lst [.str A, .str B, .str E]) → Q (.ref q) H'
theorem scKind : FnScope ["_law_jar_here", "_law_ends_here", "_law_first_here"] ["_law_jar_here"] (defScope sKind) := ⟨rfl, rfl, rfl, by decide +kernel, rfl, by decide +kernel, by decide +kernel⟩
theorem ok_kind (R : TxLw K mg) : FnOk P w K mg base CX0 3 R.knd.f R.knd.fd ["_law_jar_here"] spKind := by
  have GF : FnOk P w K mg base CX0 2 R.D.frm.f R.D.frm.fd ["_law_jar_here", "_law_things"] (spFrom K) := gk_from R.D
  refine R.knd.F.ok scKind (fun vs H Q E h => ?_) (fun cdv A outer s H vs Q E hr h => ?_)
  · obtain ⟨j, rfl, _⟩ := h
    rfl
  · obtain ⟨j, rfl, hJ, k⟩ := h
    have hr2 : Room 2 _ := hr.mono (by decide)
    refine ⟨_, (pss_cons (ps_set (i := 1) scKind.nd rfl (.inl rfl) (pe_lst (pa_cons pe_str (pa_cons pe_str (pa_cons pe_str pa_nil))))) (pss_cons (ps_set (i := 2) scKind.nd rfl (.inl rfl) (pe_call GF hr2 rfl R.D.frm.g R.D.frm.k R.D.frm.b .nil pass0 (pa_cons (pv 0) (pa_cons (pe_lst (pa_cons pe_str (pa_cons pe_str pa_nil))) pa_nil)))) (pss_one (ps_ret (pe_lst (pa_cons (pv 2) (pa_cons (pe_call GF hr2 rfl R.D.frm.g R.D.frm.k R.D.frm.b .nil pass0 (pa_cons (pv 0) (pa_cons (pe_lst (pa_cons pe_str (pa_cons pe_str (pa_cons pe_str pa_nil)))) pa_nil))) (pa_cons (pe_call GF hr2 rfl R.D.frm.g R.D.frm.k R.D.frm.b .nil pass0 (pa_cons (pv 0) (pa_cons (pv 1) pa_nil))) pa_nil)))))))), ?_⟩
    refine ⟨(by show 3 ≤ sizeLine; decide), fun e ne => ?_⟩
    refine ⟨_, rfl, (by show 2 ≤ sizeLine; decide), fun l nl => ?_⟩
    have J1 := hJ.new (o := .lst [.str "empty", .str "with", .str "behind"]) ne
    have ej := jar_ne hJ ne
    refine ⟨j, l, _, rfl, J1.new nl, jar_ne J1 nl, SqL.of upd_same, (by show 0 < 2; decide), (by show 2 < 1073741824; decide), fun H2 i y hy o2 J2 => ?_⟩
    have he2 := o2 _ _ ej (same_new nl _ _ upd_same)
    have o02 : Off j H H2 := (((Off.new Off.refl ne).new nl)).trans o2
    refine ⟨_, rfl, _, rfl, (by show 3 ≤ sizeLine; decide), fun l3 nl3 => ?_⟩
    refine ⟨j, l3, _, rfl, J2.new nl3, jar_ne J2 nl3, SqL.of upd_same, (by show 0 < 3; decide), (by show 3 < 1073741824; decide), fun H4 i2 y2 hy2 o4 J4 => ?_⟩
    have he4 := o4 _ _ ej (same_new nl3 _ _ he2)
    have o04 : Off j H H4 := (o02.new nl3).trans o4
    refine ⟨_, rfl, _, rfl, j, e, _, rfl, J4, ej, SqL.of he4, (by show 0 < 3; decide), (by show 3 < 1073741824; decide), fun H5 i3 y3 hy3 o5 J5 => ?_⟩
    refine ⟨(by show 3 ≤ sizeLine; decide), fun q nq => ?_⟩
    obtain ⟨A1, rfl, hA⟩ : ∃ A, y = .str A ∧ isAm A := by
      match i, hy with
      | 0, hy => exact ⟨_, (Option.some.inj hy).symm, .inl rfl⟩
      | 1, hy => exact ⟨_, (Option.some.inj hy).symm, .inr rfl⟩
    obtain ⟨A2, rfl, hB⟩ : ∃ A, y2 = .str A ∧ isPa A := by
      match i2, hy2 with
      | 0, hy => exact ⟨_, (Option.some.inj hy).symm, .inl rfl⟩
      | 1, hy => exact ⟨_, (Option.some.inj hy).symm, .inl rfl⟩
      | 2, hy => exact ⟨_, (Option.some.inj hy).symm, .inr rfl⟩
    obtain ⟨A3, rfl, hE⟩ : ∃ A, y3 = .str A ∧ isEn A := by
      match i3, hy3 with
      | 0, hy => exact ⟨_, (Option.some.inj hy).symm, .inl rfl⟩
      | 1, hy => exact ⟨_, (Option.some.inj hy).symm, .inr (.inl rfl)⟩
      | 2, hy => exact ⟨_, (Option.some.inj hy).symm, .inr (.inr rfl)⟩
    exact k _ q A1 A2 A3 ((o04.trans o5).new nq) (J5.new nq) (jar_ne J5 nq) hA hB hE upd_same
/-! ### _law_options -/
theorem Rps.app {H : Hp} : ∀ {vs rs ws ss}, Rps H vs rs → Rps H ws ss → Rps H (vs ++ ws) (rs ++ ss)
  | _, _, _, _, .nil, h => h
  | _, _, _, _, .cons a t, h => .cons a (t.app h)
def optB (B : Str) : FJ.Rep := if B = "waiting" then [(0, false)] else []
def optN (A E : Str) (left most i : Nat) : FJ.Rep := ((List.range i).filter fun i => decide (A = "short" ∨ i + 1 = most)).map fun i => (i + 1, decide (E = "with") && decide (i + 1 = left))
theorem optN_succ (A E : Str) (left most i : Nat) : optN A E left most (i + 1) = optN A E left most i ++ (if A = "short" ∨ i + 1 = most then [(i + 1, decide (E = "with") && decide (i + 1 = left))] else []) := by
  unfold optN
  rw [List.range_succ, filt_snoc, List.map_append]
  congr 1
  by_cases h : A = "short" ∨ i + 1 = most
  · rw [if_pos (decide_eq_true h), if_pos h]; rfl
  · rw [if_neg (by rw [decide_eq_false h]; decide), if_neg h]; rfl
theorem optN_len (A E : Str) (left most i : Nat) : (optN A E left most i).length ≤ i := by
  unfold optN
  rw [List.length_map]
  exact Nat.le_trans (List.length_filter_le ..) (by rw [List.length_range]; exact Nat.le_refl _)
def spOp : Sp := fun vs H Q _ => ∃ (q : Addr) (A B E : Str) (left sz : Nat), vs = [.ref q, .int (left : Nat), .int (sz : Nat)] ∧ H q = some (.lst [.str A, .str B, .str E]) ∧ left ≤ 1000 ∧ sz ≤ 1000 ∧
  ∀ (H' : Hp) (p : Addr) (xs : List V), Same H H' → H p = none → H' p = some (.lst xs) → Rps H' xs (optM A B E left sz) → Q (.ref p) H'
abbrev NOp : List Str := ["_law_kind_here", "_law_left", "_law_wide", "_law_most", "_law_found", "_law_many"]
theorem scOp : FnScope NOp PO3 (defScope sOpt) := ⟨rfl, rfl, rfl, by decide +kernel, rfl, by decide +kernel, by decide +kernel⟩
def OpI (q l : Addr) (A B E : Str) (left sz most : Nat) (H : Hp) (i : Nat) : L2.St → Hp → Prop := fun σ H' => ∃ (v5 : Option V) (xs : List V), σ = [some (.ref q), some (.int (left : Nat)), some (.int (sz : Nat)), some (.int (most : Nat)), some (.ref l), v5] ∧ Same H H' ∧ H' l = some (.lst xs) ∧ Rps H' xs (optB B ++ optN A E left most i)
theorem ok_op (R : TxLw K mg) : FnOk P w K mg base CX0 1 R.opt.f R.opt.fd PO3 spOp := by
  refine R.opt.F.ok scOp (fun vs H Q E h => ?_) (fun cdv A outer s H vs Q E hr h => ?_)
  · obtain ⟨q, _, _, _, _, _, rfl, _⟩ := h
    rfl
  · obtain ⟨q, A1, B1, E1, left, sz, rfl, hq, hl, hs, k⟩ := h
    refine ⟨_, (pss_cons (ps_if (pt_cmpR op_eq (pv 1) pe_int (nomark _)) (pss_one (ps_ret (pe_lst (pa_cons (pe_tup (pa_cons pe_int (pa_cons (pe_cmpR op_ne (pe_ix ix_list (pv 0) pe_int (fun _ _ => rfl)) pe_str (nomark _)) pa_nil))) pa_nil)))) pss_nil) (pss_cons (ps_set (i := 3) scOp.nd rfl (.inl rfl) (pe_callB (call_min2 rfl) (by rfl) R.min (by decide +kernel) (pa_cons (pv 1) (pa_cons (pv 2) pa_nil)))) (C8.pss_cut (ps_set (i := 4) scOp.nd rfl (.inl rfl) (pe_ifExp (pt_cmpR op_eq (pe_ix ix_list (pv 0) pe_int (fun _ _ => rfl)) pe_str (nomark _)) (pe_lst (pa_cons (pe_tup (pa_cons pe_int (pa_cons pe_bl pa_nil))) pa_nil)) (pe_lst pa_nil))) (pss_cons (ps_for PassesOwn.never rfl (pi_range2 rfl R.D.range (pa_cons pe_int (pa_cons (pe_op op_add (pv 3) pe_int) pa_nil))) (pg_name (i := 5) scOp.nd rfl (.inl rfl)) (pss_one (ps_if (PW.pt (pw_or (pt_cmpR op_eq (pe_ix ix_list (pv 0) pe_int (fun _ _ => rfl)) pe_str (nomark _)) (pw_or1 (pt_cmpR op_eq (pv 5) (pv 3) (nomark _))))) (pss_one (ps_expr (pe_bm PySem.F.plainAttrs_list PySem.F.slot_list_append PySem.F.type_list_append mt_append (pv 4) (pa_cons (pe_tup (pa_cons (pv 5) (pa_cons (pe_and (pe_cmpR op_eq (pe_ix ix_list (pv 0) pe_int (fun _ _ => rfl)) pe_str (nomark _)) (pe_one (pe_cmpR op_eq (pv 5) (pv 1) (nomark _)))) pa_nil))) pa_nil)))) pss_nil))) (pss_one (ps_ret (pv 4))))))), ?_⟩
    refine ⟨_, rfl, rfl, _, rfl, ?_⟩
    rw [dI]
    by_cases l0 : left = 0
    · rw [decide_eq_true (show ((left : Nat) : Int) = 0 by omega)]
      refine iteT ⟨_, rfl, q, _, 2, _, rfl, rfl, SqL.of hq, rfl, rfl, (by show 2 ≤ sizeLine; decide), fun z nz => ⟨(by show 1 ≤ sizeLine; decide), fun p np => ?_⟩⟩
      have u1 := same_new (o := .tup [.int 0, .bl (!decide (V.str E1 = V.str "empty"))]) nz
      have u2 := same_new (o := .lst [.ref z]) np
      refine k _ p _ (Same.trans u1 u2) (u1.free np) upd_same ?_
      rw [l0, opt_zero]
      refine .cons (u2 _ _ ?_) .nil
      rw [upd_same]
      rw [show decide (V.str E1 = V.str "empty") = decide (E1 = "empty") from dS .., ← decide_not]
      rfl
    · rw [decide_eq_false (show ¬ ((left : Nat) : Int) = 0 by omega)]
      have eo : optM A1 B1 E1 left sz = optB B1 ++ optN A1 E1 left (min left sz) (min left sz) := by unfold optM; rw [if_neg l0]; rfl
      rw [eo] at k
      refine iteF ⟨_, rfl, _, rfl, _, _, rfl, ?_⟩
      have em : (if ((sz : Nat) : Int) < ((left : Nat) : Int) then ((sz : Nat) : Int) else ((left : Nat) : Int)) = ((min left sz : Nat) : Int) := by split <;> omega
      rw [em]
      have lm : min left sz ≤ 1000 := by omega
      generalize min left sz = most at k lm
      refine ⟨fun σ H' => ∃ (l : Addr) (xs : List V), σ = [some (.ref q), some (.int (left : Nat)), some (.int (sz : Nat)), some (.int (most : Nat)), some (.ref l), none] ∧ Same H H' ∧ H l = none ∧ H' l = some (.lst xs) ∧ Rps H' xs (optB B1), ?_, ?_⟩
      · refine ⟨_, rfl, q, _, 1, _, rfl, rfl, SqL.of hq, rfl, rfl, _, rfl, ?_⟩
        rw [show decide (V.str B1 = V.str "waiting") = decide (B1 = "waiting") from dS ..]
        unfold optB
        by_cases hB : B1 = "waiting"
        · rw [decide_eq_true hB, if_pos hB]
          refine iteT ⟨(by show 2 ≤ sizeLine; decide), fun z nz => ⟨(by show 1 ≤ sizeLine; decide), fun p np => ?_⟩⟩
          have u1 := same_new (o := .tup [.int 0, .bl false]) nz
          have u2 := same_new (o := .lst [.ref z]) np
          exact ⟨p, _, rfl, Same.trans u1 u2, u1.free np, upd_same, .cons (u2 _ _ upd_same) .nil⟩
        · rw [decide_eq_false hB, if_neg hB]
          refine iteF ⟨Nat.zero_le _, fun p np => ?_⟩
          exact ⟨p, _, rfl, same_new np, np, upd_same, .nil⟩
      rintro _ H1 ⟨l, xs, rfl, s1, nl, hl1, hR⟩
      refine ⟨_, rfl, _, _, rfl, rfl, 1, _, rfl, ⟨by decide, by decide, by omega, by omega⟩, ?_⟩
      rw [show (((most : Nat) : Int) + 1 - 1).toNat = most by omega]
      refine for_range (lo := 1) (n := most) (OpI q l A1 B1 E1 left sz most H) ⟨none, xs, rfl, s1, hl1, by rw [show optN A1 E1 left most 0 = [] from rfl, List.append_nil]; exact hR⟩ ?_ ?_
      · rintro i σ H2 hi ⟨v5, xs, rfl, s2, hl2, hR2⟩
        have e1 : (1 : Int) + (i : Nat) = ((i + 1 : Nat) : Int) := by omega
        rw [e1]
        have lx := hR2.len
        have ln := optN_len A1 E1 left most i
        have lb : (optB B1).length ≤ 1 := by unfold optB; split <;> decide
        rw [List.length_append] at lx
        have fin : A1 = "short" ∨ i + 1 = most → ∀ z : Addr, H2 z = none → OpI q l A1 B1 E1 left sz most H (i + 1) [some (.ref q), some (.int (left : Nat)), some (.int (sz : Nat)), some (.int (most : Nat)), some (.ref l), some (.int ((i + 1 : Nat) : Int))] (upd (upd H2 z (.tup [.int ((i + 1 : Nat) : Int), .bl (decide (E1 = "with") && decide (i + 1 = left))])) l (.lst (xs ++ [.ref z]))) := by
          intro hc z nz
          have u1 := same_new (o := .tup [.int ((i + 1 : Nat) : Int), .bl (decide (E1 = "with") && decide (i + 1 = left))]) nz
          have st : ∀ (p : Addr) (ys : List V), (upd H2 z (.tup [.int ((i + 1 : Nat) : Int), .bl (decide (E1 = "with") && decide (i + 1 = left))])) p = some (.tup ys) → (upd (upd H2 z (.tup [.int ((i + 1 : Nat) : Int), .bl (decide (E1 = "with") && decide (i + 1 = left))])) l (.lst (xs ++ [.ref z]))) p = some (.tup ys) := tup_stays (u1 _ _ hl2) (by intro xs z; cases z)
          refine ⟨_, xs ++ [.ref z], rfl, fun b o e => ?_, upd_same, ?_⟩
          · rw [upd_ne (ne_of_none e nl)]
            exact u1 _ _ (s2 _ _ e)
          · rw [optN_succ, if_pos hc, ← List.append_assoc]
            exact ((hR2.same u1).mono st).app (.cons (st _ _ upd_same) .nil)
        refine ⟨_, rfl, q, _, 0, _, rfl, rfl, SqL.of (s2 _ _ hq), rfl, rfl, _, rfl, ?_⟩
        rw [show decide (V.str A1 = V.str "short") = decide (A1 = "short") from dS ..]
        by_cases hA : A1 = "short"
        · rw [decide_eq_true hA]
          refine iteT (iteT ⟨_, rfl, .inl ⟨rfl, _, SqL.of hl2⟩, _, rfl, _, rfl, q, _, 2, _, rfl, rfl, SqL.of (s2 _ _ hq), rfl, rfl, _, rfl, ?_⟩)
          rw [show decide (V.str E1 = V.str "with") = decide (E1 = "with") from dS ..]
          have fn := fin (.inl hA)
          by_cases hE : E1 = "with"
          · rw [decide_eq_true hE, Bool.true_and] at fn
            rw [decide_eq_true hE]
            refine iteT ⟨_, rfl, _, rfl, rfl, (by show 2 ≤ sizeLine; decide), fun z nz => ⟨l, _, _, rfl, rfl, same_new nz _ _ hl2, szM (by omega), ?_⟩⟩
            have f2 := fn z nz
            rw [show decide (i + 1 = left) = decide (V.int ((i + 1 : Nat) : Int) = V.int ((left : Nat) : Int)) from decide_eq_decide.mpr ⟨fun h => by rw [h], fun h => by have := V.int.inj h; omega⟩] at f2
            exact f2
          · rw [decide_eq_false hE, Bool.false_and] at fn
            rw [decide_eq_false hE]
            exact iteF ⟨(by show 2 ≤ sizeLine; decide), fun z nz => ⟨l, _, _, rfl, rfl, same_new nz _ _ hl2, szM (by omega), fn z nz⟩⟩
        · rw [decide_eq_false hA]
          refine iteF ⟨_, rfl, _, rfl, rfl, _, rfl, ?_⟩
          rw [dI]
          by_cases hm : i + 1 = most
          · rw [decide_eq_true (show ((i + 1 : Nat) : Int) = ((most : Nat) : Int) by omega)]
            refine iteT ⟨_, rfl, .inl ⟨rfl, _, SqL.of hl2⟩, _, rfl, _, rfl, q, _, 2, _, rfl, rfl, SqL.of (s2 _ _ hq), rfl, rfl, _, rfl, ?_⟩
            rw [show decide (V.str E1 = V.str "with") = decide (E1 = "with") from dS ..]
            have fn := fin (.inr hm)
            by_cases hE : E1 = "with"
            · rw [decide_eq_true hE, Bool.true_and] at fn
              rw [decide_eq_true hE]
              refine iteT ⟨_, rfl, _, rfl, rfl, (by show 2 ≤ sizeLine; decide), fun z nz => ⟨l, _, _, rfl, rfl, same_new nz _ _ hl2, szM (by omega), ?_⟩⟩
              have f2 := fn z nz
              rw [show decide (i + 1 = left) = decide (V.int ((i + 1 : Nat) : Int) = V.int ((left : Nat) : Int)) from decide_eq_decide.mpr ⟨fun h => by rw [h], fun h => by have := V.int.inj h; omega⟩] at f2
              exact f2
            · rw [decide_eq_false hE, Bool.false_and] at fn
              rw [decide_eq_false hE]
              exact iteF ⟨(by show 2 ≤ sizeLine; decide), fun z nz => ⟨l, _, _, rfl, rfl, same_new nz _ _ hl2, szM (by omega), fn z nz⟩⟩
          · rw [decide_eq_false (show ¬ ((i + 1 : Nat) : Int) = ((most : Nat) : Int) by omega)]
            exact iteF ⟨_, xs, rfl, s2, hl2, by rw [optN_succ, if_neg (fun h => h.elim hA hm), List.append_nil]; exact hR2⟩
      · rintro σ H2 ⟨v5, xs, rfl, s2, hl2, hR2⟩
        exact ⟨_, rfl, k H2 l xs s2 nl hl2 hR2⟩
/-! ### _law_flat -/
def spFl : Sp := fun vs H Q _ => ∃ (p : Addr) (vs0 : List V) (ps : List (List Int)), vs = [.ref p] ∧ H p = some (.lst vs0) ∧ Pcs H vs0 ps ∧ wt ps ≤ 400000 ∧ ∀ (H' : Hp) (q : Addr), Same H H' → H q = none → H' q = some (.lst (ivs ps.flatten)) → Q (.ref q) H'
theorem scFl : FnScope ["_law_out", "_law_found", "_law_each"] ["_law_out"] (defScope sFlat) := ⟨rfl, rfl, rfl, by decide +kernel, rfl, by decide +kernel, by decide +kernel⟩
theorem ok_fl (R : TxLw K mg) : FnOk P w K mg base CX0 1 R.flt.f R.flt.fd ["_law_out"] spFl := by
  refine R.flt.F.ok scFl (fun vs H Q E h => ?_) (fun cdv A outer s H vs Q E hr h => ?_)
  · obtain ⟨p, _, _, rfl, _⟩ := h
    rfl
  · obtain ⟨p, vs0, ps, rfl, hp, hP, hw, k⟩ := h
    refine ⟨_, (pss_cons (ps_set (i := 1) scFl.nd rfl (.inl rfl) (pe_lst pa_nil)) (pss_cons (ps_for PassesOwn.never rfl (pi_list (pv 0)) (pg_name (i := 2) scFl.nd rfl (.inl rfl)) (pss_one (ps_set (i := 1) scFl.nd rfl (.inl rfl) (pe_op op_cat (pv 1) (pe_callTy call_list_of (by rfl) R.B.list (by decide +kernel) (pa_cons (pv 2) pa_nil)))))) (pss_one (ps_ret (pv 1))))), ?_⟩
    have lp := hP.len
    have lw := wt_flat ps
    refine ⟨Nat.zero_le _, fun l nl => ?_⟩
    have s1 := same_new (o := .lst []) nl
    refine ⟨_, rfl, p, rfl, ⟨_, SqL.of (s1 _ _ hp)⟩, ?_⟩
    refine for_list (K := K) (a := p) (xs := vs0) (fun i σ H' => ∃ (l : Addr) (v2 : Option V), σ = [some (.ref p), some (.ref l), v2] ∧ Same H H' ∧ H l = none ∧ H' l = some (.lst (ivs ((ps.take i).flatten)))) ⟨l, none, rfl, s1, nl, upd_same⟩ (fun i σ H' _ ⟨_, _, _, s', _⟩ => SqL.of (s' _ _ hp)) ?_ ?_
    · rintro i y σ H1 hy ⟨l, v2, rfl, s1, nl, hl⟩
      obtain ⟨q, pc, hpc, rfl, hq⟩ := hP.getL hy
      have l1 : ((ps.take i).flatten ++ pc).length ≤ ps.flatten.length := by
        rw [← flat_take hpc]
        have e : ps = ps.take (i + 1) ++ ps.drop (i + 1) := (List.take_append_drop _ _).symm
        conv => rhs; rw [e]
        rw [List.flatten_append, List.length_append]
        omega
      rw [List.length_append] at l1
      refine ⟨_, rfl, _, rfl, q, _, rfl, .inr (SqT.of (s1 _ _ hq)), fun z nz => ?_⟩
      have u1 := same_new (o := .lst (ivs pc)) nz
      refine ⟨l, z, _, _, rfl, rfl, u1 _ _ hl, upd_same, Nat.le_of_lt (szM (by rw [ivs_len, ivs_len]; omega)), fun z2 nz2 => ?_⟩
      have s2 := Same.trans s1 (Same.trans u1 (same_new (o := .lst (ivs ((ps.take i).flatten) ++ ivs pc)) nz2))
      refine ⟨z2, _, rfl, s2, (Same.trans s1 u1).free nz2, ?_⟩
      rw [upd_same, flat_take hpc]
      simp [ivs]
    · rintro σ H1 ⟨l, v2, rfl, s1, nl, hl⟩
      rw [lp, List.take_length] at hl
      exact ⟨_, rfl, k _ l s1 nl hl⟩
/-! ### _law_for_ever -/
inductive Rws (H : Hp) : List V → List (List Int) → Prop
  | nil : Rws H [] []
  | cons {q : Addr} {x : List Int} {vs : List V} {xs : List (List Int)} (h : H q = some (.lst (ivs x))) (t : Rws H vs xs) : Rws H (.ref q :: vs) (x :: xs)
theorem Rws.mono {H H' : Hp} (f : ∀ (q : Addr) (x : List Int), H q = some (.lst (ivs x)) → H' q = some (.lst (ivs x))) : ∀ {vs xs}, Rws H vs xs → Rws H' vs xs
  | _, _, .nil => .nil
  | _, _, .cons h t => .cons (f _ _ h) (t.mono f)
theorem Rws.monoN {H H' : Hp} : ∀ {vs xs}, (∀ (q : Addr) (x : List Int), V.ref q ∈ vs → H q = some (.lst (ivs x)) → H' q = some (.lst (ivs x))) → Rws H vs xs → Rws H' vs xs
  | _, _, _, .nil => .nil
  | _, _, f, .cons h t => .cons (f _ _ (List.mem_cons_self ..) h) (t.monoN fun q x m => f q x (List.mem_cons_of_mem _ m))
theorem Rws.app {H : Hp} : ∀ {vs rs ws ss}, Rws H vs rs → Rws H ws ss → Rws H (vs ++ ws) (rs ++ ss)
  | _, _, _, _, .nil, h => h
  | _, _, _, _, .cons a t, h => .cons a (t.app h)
theorem Rws.len {H : Hp} : ∀ {vs xs}, Rws H vs xs → vs.length = xs.length
  | _, _, .nil => rfl
  | _, _, .cons _ t => congrArg (· + 1) t.len
def rwD (xs : List (List Int)) : List PyData := xs.map fun x => .list (intD x)
theorem rw_dp {H : Hp} : ∀ {vs xs}, Rws H vs xs → DpAll K H vs (rwD xs)
  | _, _, .nil => .nil
  | _, _, .cons h t => .cons (.lst (SqL.of h) (dpI _)) (rw_dp t)
theorem rw_lay : ∀ xs : List (List Int), PyData.canLayAll0 (rwD xs) = true ∧ PyData.depthAll (rwD xs) ≤ 2
  | [] => ⟨by simp [rwD, PyData.canLayAll0], by simp [rwD, PyData.depthAll]⟩
  | p :: q => by
    obtain ⟨a, b⟩ := rw_lay q
    have h := intD_depth p
    have e : rwD (p :: q) = .list (intD p) :: rwD q := rfl
    rw [e]
    refine ⟨?_, ?_⟩
    · rw [PyData.canLayAll0, a, PyData.canLay0, intD_lay]; rfl
    · rw [PyData.depthAll]; exact Nat.max_le.mpr ⟨by rw [PyData.depth]; omega, b⟩
theorem rw_shaped (xs : List (List Int)) : SeqAt.shaped (.list (rwD xs)) = true := by
  obtain ⟨a, b⟩ := rw_lay xs
  refine Bool.and_eq_true_iff.mpr ⟨by simp only [PyData.canLay0]; exact a, decide_eq_true ?_⟩
  simp only [PyData.depth]
  omega
theorem rw_in (x : List Int) : ∀ xs : List (List Int), ((rwD xs).any fun z => PyData.eqv z (.list (intD x))) = decide (x ∈ xs)
  | [] => rfl
  | p :: r => by
    have e : rwD (p :: r) = .list (intD p) :: rwD r := rfl
    rw [e, List.any_cons, rw_in x r, eqv_il]
    by_cases h : p = x
    · subst h; simp
    · have : ¬ (x = p) := fun z => h z.symm
      simp [h, this]
def spEv (j : Addr) : Sp := fun vs H Q _ => ∃ (ma a b0 q b : Addr) (B E : List Str) (A1 B1 E1 : Str) (x : RP) (g u : Nat) (ov : Bool) (sz k c : Nat), vs = [.ref ma, .ref q, .ref b, .int (sz : Nat)] ∧ H ma = some (.tup [.ref a, .ref b0]) ∧ H a = some (.lst (svs B)) ∧ H b0 = some (.lst (svs E)) ∧ isRound B = true ∧ isEnding E = true ∧ H q = some (.lst [.str A1, .str B1, .str E1]) ∧ BoxJ j H b x g ov ∧ Jar H j ∧ 1 ≤ sz ∧ sz ≤ 1000 ∧ g ≤ 1000000 ∧ Few sz k c x ∧ k ≤ 600 ∧ c ≤ 3000000 ∧
  ∀ H' : Hp, Same H H' → Q (.bl (FJ.evP sz (ords B) (ords E) (decide (E1 ≠ "empty")) ⟨x, g, u, ov⟩)) H'
abbrev NEv : List Str := ["_law_made", "_law_kind_here", "_law_box_here", "_law_wide", "_law_seen"]
theorem scEv : FnScope NEv PV4 (defScope sFev) := ⟨rfl, rfl, rfl, by decide +kernel, rfl, by decide +kernel, by decide +kernel⟩
theorem ok_ev (R : TxLw K mg) (j : Addr) : FnOk P w K mg base CX0 4 R.fev.f R.fev.fd PV4 (spEv j) := by
  have GD : FnOk P w K mg base CX0 3 R.B.fed.f R.B.fed.fd ["_law_made", "_law_box_here", "_law_many", "_law_said", "_law_wide"] (spFd j) := ok_fd R.B j
  refine R.fev.F.ok scEv (fun vs H Q E h => ?_) (fun cdv A outer s H vs Q E hr h => ?_)
  · obtain ⟨ma, _, _, _, _, _, _, _, _, _, _, _, _, _, _, _, _, rfl, _⟩ := h
    rfl
  · obtain ⟨ma, a, b0, q, b, B, E', A1, B1, E1, x, g, u, ov, sz, kk, cc, rfl, hma, ha, hb0, rB, rE, hq, hB, hJ, z1, z2, hg, few, hk, hc, k⟩ := h
    have hu := hu_of hr
    have hu65 : ((cxOf CX0 P w K mg base NEv "_law_for_ever" (defScope sFev) R.fev.f cdv A outer s H E).nox).A.units + 65 < cLine := by
      have := hr.un
      show (A.deeper _).units + 65 < cLine
      omega
    refine ⟨_, (pss_cons (ps_set (i := 4) scEv.nd rfl (.inl rfl) (pe_lst pa_nil)) (pss_cons (ps_while PassesOwn.never (PW.pt (pw_and (pt_not (pt_val (pe_dget hu (pv 2) pe_str (fun _ _ => rfl)))) (pw_and1 (pt_cmpR op_lt (pe_callB call_len_seq (by rfl) R.D.J.len PySem.boot_len (pa_cons (pv 4) pa_nil)) pe_int (nomark _))))) (pss_cons (ps_if (pt_cmpR (op_inD hu65) (pe_dget hu (pv 2) pe_str (fun _ _ => rfl)) (pv 4) (by rfl)) (pss_one (ps_ret pe_bl)) pss_nil) (pss_cons (ps_expr (pe_bm PySem.F.plainAttrs_list PySem.F.slot_list_append PySem.F.type_list_append mt_append (pv 4) (pa_cons (pe_dget hu (pv 2) pe_str (fun _ _ => rfl)) pa_nil))) (pss_one (ps_set (i := 2) scEv.nd rfl (.inl rfl) (pe_call GD hr rfl R.B.fed.g R.B.fed.k R.B.fed.b .nil pass0 (pa_cons (pv 0) (pa_cons (pv 2) (pa_cons pe_int (pa_cons (pe_cmpR op_ne (pe_ix ix_list (pv 1) pe_int (fun _ _ => rfl)) pe_str (nomark _)) (pa_cons (pv 3) pa_nil))))))))))) (pss_one (ps_ret (pe_not (pe_dget hu (pv 2) pe_str (fun _ _ => rfl))))))), ?_⟩
    rw [← FJ.ev_is z1] at k
    refine ⟨Nat.zero_le _, fun l nl => ?_⟩
    have s1 := same_new (o := .lst []) nl
    have lB : (ords B).length ≤ 12 := by rw [ords, List.length_map]; exact (round_sht rB).2
    have lE : (ords E').length ≤ 6 := by rw [ords, List.length_map]; exact (ending_sht rE).2
    refine ⟨fun m σ H' => ∃ (b : Addr) (vs : List V) (seen : List (List Int)) (g : Nat) (s : CoM.WS), σ = [some (.ref ma), some (.ref q), some (.ref b), some (.int (sz : Nat)), some (.ref l)] ∧ Same H H' ∧ H' l = some (.lst vs) ∧ Rws H' vs seen ∧ (∀ z ∈ vs, z ≠ .ref l) ∧ BoxJ j H' b s.x g s.st ∧ (vs = [] → BoxJ j H b s.x g s.st) ∧ g ≤ 1000000 ∧ m ≤ 90 ∧ seen.length = 90 - m ∧ FJ.evL sz (ords B) (ords E') (decide (E1 ≠ "empty")) m seen s = FJ.evL sz (ords B) (ords E') (decide (E1 ≠ "empty")) 90 [] ⟨x, u, ov⟩ ∧ Few sz (kk + 18 * (90 - m)) (cc + (90 - m) * 40320) s.x,
      ⟨90, b, [], [], g, ⟨x, u, ov⟩, rfl, s1, upd_same, .nil, fun _ h => (nomatch h), hB.same s1, fun _ => hB, hg, Nat.le_refl _, rfl, rfl, by simpa using few⟩, ?_⟩
    rintro m σ H1 ⟨b, vs, seen, g, s', rfl, s1, hl, hR, hne, hB, hB0, hg, m90, hsl, em, fw⟩
    have lv := hR.len
    obtain ⟨r2, u2, vs2, hd2, hr2, hu2, hP2, nr2, nu2, rl, ul⟩ : ∃ r u ws, H1 b = some (.dK (bx r u g s'.st)) ∧ H1 r = some (.lst (ivs s'.x.rest)) ∧ H1 u = some (.lst ws) ∧ Pcs H1 ws s'.x.pieces ∧ r ≠ j ∧ u ≠ j ∧ r ≠ l ∧ u ≠ l := by
      cases hR with
      | nil =>
        obtain ⟨r, u, ws, a1, a2, a3, a4, a5, a6⟩ := (hB0 rfl).ex
        exact ⟨r, u, ws, s1 _ _ a1, s1 _ _ a2, s1 _ _ a3, a4.same s1, a5, a6, ne_of_none a2 nl, ne_of_none a3 nl⟩
      | cons h t =>
        obtain ⟨r, u, ws, a1, a2, a3, a4, a5, a6⟩ := hB.ex
        refine ⟨r, u, ws, a1, a2, a3, a4, a5, a6, fun z => ?_, fun z => ?_⟩
        · rw [z, hl] at a2
          have a2 := HO.lst.inj (Option.some.inj a2)
          cases hx : s'.x.rest with
          | nil => rw [hx] at a2; cases a2
          | cons i r => rw [hx] at a2; cases a2
        · rw [z, hl] at a3
          have a3 := HO.lst.inj (Option.some.inj a3)
          rw [← a3] at a4
          generalize s'.x.pieces = pcs at a4
          cases a4 with
          | cons h2 _ => rw [h] at h2; cases h2
    have exit : s'.st = true ∨ m = 0 → FJ.evL sz (ords B) (ords E') (decide (E1 ≠ "empty")) m seen s' = !s'.st := by
      rintro (h | rfl)
      · cases m with
        | zero => rfl
        | succ m => show (if s'.st = true then false else _) = _; rw [if_pos h, h]; rfl
      · rfl
    refine ⟨_, rfl, b, _, rfl, get_o hd2, _, rfl, ?_⟩
    cases hst : s'.st with
    | true =>
      rw [exit (.inl hst), hst] at em
      rw [← em] at k
      rw [hst] at hd2
      exact iteF ⟨_, rfl, b, _, rfl, get_o hd2, _, rfl, k _ s1⟩
    | false =>
      refine iteT ⟨_, rfl, l, _, rfl, .inl (SqL.of hl), _, _, rfl, rfl, _, rfl, ?_⟩
      cases m with
      | zero =>
        rw [exit (.inr rfl), hst] at em
        rw [← em] at k
        rw [hst] at hd2
        rw [decide_eq_false (show ¬ ((vs.length : Nat) : Int) < 90 by omega)]
        exact iteF ⟨_, rfl, b, _, rfl, get_o hd2, _, rfl, k _ s1⟩
      | succ m =>
        rw [decide_eq_true (show ((vs.length : Nat) : Int) < 90 by omega)]
        have es : FJ.evL sz (ords B) (ords E') (decide (E1 ≠ "empty")) (m + 1) seen s' = if s'.x.rest ∈ seen then true else FJ.evL sz (ords B) (ords E') (decide (E1 ≠ "empty")) m (seen ++ [s'.x.rest]) (CoM.ansS sz (ords B) (ords E') [] (decide (E1 ≠ "empty")) s') := by
          show (if s'.st = true then false else _) = _
          rw [if_neg (by rw [hst]; decide)]
        rw [es] at em
        refine iteT ⟨fun σ H' => ∃ (b : Addr) (vs : List V) (seen : List (List Int)) (g : Nat) (s : CoM.WS), σ = [some (.ref ma), some (.ref q), some (.ref b), some (.int (sz : Nat)), some (.ref l)] ∧ Same H H' ∧ H' l = some (.lst vs) ∧ Rws H' vs seen ∧ (∀ z ∈ vs, z ≠ .ref l) ∧ BoxJ j H' b s.x g s.st ∧ (vs = [] → BoxJ j H b s.x g s.st) ∧ g ≤ 1000000 ∧ m ≤ 90 ∧ seen.length = 90 - m ∧ FJ.evL sz (ords B) (ords E') (decide (E1 ≠ "empty")) m seen s = FJ.evL sz (ords B) (ords E') (decide (E1 ≠ "empty")) 90 [] ⟨x, u, ov⟩ ∧ Few sz (kk + 18 * (90 - m)) (cc + (90 - m) * 40320) s.x,
          fun σ' H' h => ⟨m, Nat.lt_succ_self _, h⟩, ?_⟩
        refine ⟨_, rfl, b, _, rfl, get_r hd2, _, rfl, .list (intD s'.x.rest), rwD seen, .lst (SqL.of hr2) (dpI _), .lst (SqL.of hl) (rw_dp hR), intD_shaped _, rw_shaped _, _, rfl, ?_⟩
        rw [rw_in]
        by_cases cin : s'.x.rest ∈ seen
        · rw [if_pos cin] at em
          rw [← em] at k
          rw [decide_eq_true cin]
          exact iteT (k _ s1)
        rw [if_neg cin] at em
        rw [decide_eq_false cin]
        refine iteF ⟨_, rfl, .inl ⟨rfl, _, SqL.of hl⟩, _, rfl, b, _, rfl, get_r hd2, l, _, _, rfl, rfl, hl, szM (by omega), ?_⟩
        have bl : b ≠ l := ne_of hd2 hl (by intro z; cases z)
        have lj : l ≠ j := jar_n hJ nl
        have st : ∀ (p : Addr) (ys : List V), H1 p = some (.tup ys) → (upd H1 l (.lst (vs ++ [.ref r2]))) p = some (.tup ys) := tup_stays hl (by intro xs z; cases z)
        have ku : ∀ {p : Addr} {o : HO}, p ≠ l → H1 p = some o → (upd H1 l (.lst (vs ++ [.ref r2]))) p = some o := fun n e => by rw [upd_ne n]; exact e
        have s2 : Same H (upd H1 l (.lst (vs ++ [.ref r2]))) := fun p o e => ku (ne_of_none e nl) (s1 _ _ e)
        have hB2 : BoxJ j (upd H1 l (.lst (vs ++ [.ref r2]))) b s'.x g false := ⟨r2, u2, vs2, ku bl (by rw [← hst]; exact hd2), ku rl hr2, ku ul hu2, hP2.mono st, nr2, nu2⟩
        have hR2 : Rws (upd H1 l (.lst (vs ++ [.ref r2]))) (vs ++ [.ref r2]) (seen ++ [s'.x.rest]) := (hR.monoN fun p y m e => ku (fun z => hne _ m (by rw [z])) e).app (.cons (ku rl hr2) .nil)
        have hl2 : (upd H1 l (.lst (vs ++ [.ref r2]))) l = some (.lst (vs ++ [.ref r2])) := upd_same
        have hne2 : ∀ z ∈ vs ++ [.ref r2], z ≠ .ref l := fun z hz => (List.mem_append.mp hz).elim (hne z) fun h => by rw [List.mem_singleton.mp h]; exact fun z => rl (V.ref.inj z)
        generalize upd H1 l (.lst (vs ++ [.ref r2])) = H2 at s2 hB2 hR2 hl2 ⊢
        refine ⟨_, rfl, _, rfl, _, rfl, q, _, 2, _, rfl, rfl, SqL.of (s2 _ _ hq), rfl, rfl, _, rfl, ma, a, b0, b, B, E', s'.x, g, false, _, 0, sz, kk + 18 * (90 - (m + 1)), cc + (90 - (m + 1)) * 40320, rfl, s2 _ _ hma, s2 _ _ ha, s2 _ _ hb0, rB, rE, hB2, hJ.same s2, z1, z2, Nat.zero_le _, hg, fw, by omega, by omega, fun H3 d s3 nd X3 => ?_⟩
        rw [show decide (V.str E1 = V.str "empty") = decide (E1 = "empty") from dS .., ← decide_not] at X3
        refine ⟨d, vs ++ [.ref r2], seen ++ [s'.x.rest], g + 0, CoM.ansS sz (ords B) (ords E') [] (decide (E1 ≠ "empty")) s', rfl, Same.trans s2 s3, s3 _ _ hl2, hR2.monoN fun p y _ e => s3 _ _ e, hne2, X3, fun z => absurd z (by simp), by omega, by omega, by rw [List.length_append, hsl]; show 90 - (m + 1) + 1 = 90 - m; omega, em, ?_⟩
        have fa := few_ans (told := decide (E1 ≠ "empty")) (held := []) z1 (Nat.zero_le _) lB lE fw
        exact fa.mono (by omega) (by omega)
end
end My

/-! the law's own looking at faults: what is shown -/
namespace My
open PySem L2 Cm LM EM
/-! ### replies as data -/
def rpD (rs : FJ.Rep) : List PyData := rs.map fun r => .tuple [.int (r.1 : Nat), .bool r.2]
theorem rp_dp {K : PySem.W.Frag} {H : Hp} : ∀ {vs rs}, Rps H vs rs → DpAll K H vs (rpD rs)
  | _, _, .nil => .nil
  | _, _, .cons h t => .cons (.tup (SqT.of h) (.cons (.int _) (.cons (.bl _) .nil))) (rp_dp t)
theorem rp_lay : ∀ rs : FJ.Rep, PyData.canLayAll0 (rpD rs) = true ∧ PyData.depthAll (rpD rs) ≤ 2
  | [] => ⟨by simp [rpD, PyData.canLayAll0], by simp [rpD, PyData.depthAll]⟩
  | p :: q => by
    obtain ⟨a, b⟩ := rp_lay q
    have e : rpD (p :: q) = .tuple [.int (p.1 : Nat), .bool p.2] :: rpD q := rfl
    rw [e]
    refine ⟨?_, ?_⟩
    · rw [PyData.canLayAll0, a, PyData.canLay0]
      simp [PyData.canLayAll0, PyData.canLay0]
    · rw [PyData.depthAll]
      refine Nat.max_le.mpr ⟨?_, b⟩
      simp [PyData.depth, PyData.depthAll]
theorem rp_shaped (rs : FJ.Rep) : SeqAt.shaped (.list (rpD rs)) = true := by
  obtain ⟨a, b⟩ := rp_lay rs
  refine Bool.and_eq_true_iff.mpr ⟨by simp only [PyData.canLay0]; exact a, decide_eq_true ?_⟩
  simp only [PyData.depth]
  omega
theorem rp_shapedT (rs : FJ.Rep) : SeqAt.shaped (.tuple (rpD rs)) = true := by
  obtain ⟨a, b⟩ := rp_lay rs
  refine Bool.and_eq_true_iff.mpr ⟨by simp only [PyData.canLay0]; exact a, decide_eq_true ?_⟩
  simp only [PyData.depth]
  omega
theorem rp_nil (rs : FJ.Rep) : PyData.eqv (.list (rpD rs)) (.list []) = decide (rs = []) := by
  cases rs with
  | nil => simp [rpD, PyData.eqv, PyData.eqvAll]
  | cons r t => simp [rpD, PyData.eqv, PyData.eqvAll]
theorem rp_nilT (rs : FJ.Rep) : PyData.eqv (.tuple (rpD rs)) (.tuple []) = decide (rs = []) := by
  cases rs with
  | nil => simp [rpD, PyData.eqv, PyData.eqvAll]
  | cons r t => simp [rpD, PyData.eqv, PyData.eqvAll]
theorem Rps.last {H : Hp} : ∀ {vs rs} {r : Nat × Bool}, Rps H vs (rs ++ [r]) → ∃ ws q, vs = ws ++ [.ref q] ∧ H q = some (.tup [.int r.1, .bl r.2])
  | _, [], _, .cons h .nil => ⟨[], _, rfl, h⟩
  | _, _ :: rs, _, .cons h t => by
    obtain ⟨ws, q, e, h2⟩ := t.last
    exact ⟨_ :: ws, q, by rw [e]; rfl, h2⟩
section
variable {P : Program} {w : World} {K : PySem.W.Frag} {mg : Str → Option Value} {base : Heap}
def tGtE : TE := fun σ H Q => ∃ (a : Addr) (xs : List V) (n : Nat), σ[8]? = some (some (.ref a)) ∧ σ[6]? = some (some (.int (n : Nat))) ∧ H a = some (.tup xs) ∧ Q (.bl (decide (n < xs.length))) H
def tNeE : TE := fun σ H Q => ∃ (a : Addr) (xs : List V) (n : Nat), σ[8]? = some (some (.ref a)) ∧ σ[6]? = some (some (.int (n : Nat))) ∧ H a = some (.tup xs) ∧ Q (.bl (decide (xs.length ≠ n))) H
def spSh (j : Addr) : Sp := fun vs H Q _ => ∃ (ma a b0 q p b : Addr) (B E : List Str) (A1 B1 E1 nm : Str) (tvs : List V) (rs : FJ.Rep) (left : Nat) (x : RP) (g u : Nat) (ov : Bool) (sz k c : Nat), vs = [.ref ma, .ref q, .ref p, .str nm, .int (left : Nat), .ref b, .int (sz : Nat)] ∧ H ma = some (.tup [.ref a, .ref b0]) ∧ H a = some (.lst (svs B)) ∧ H b0 = some (.lst (svs E)) ∧ isRound B = true ∧ isEnding E = true ∧ H q = some (.lst [.str A1, .str B1, .str E1]) ∧ H p = some (.lst tvs) ∧ Rps H tvs rs ∧ rs.length ≤ 100 ∧ FJ.Names nm ∧ BoxJ j H b x g ov ∧ Jar H j ∧ 1 ≤ sz ∧ sz ≤ 1000 ∧ g ≤ 100000 ∧ Few sz k c x ∧ k ≤ 600 ∧ c ≤ 3000000 ∧ wt x.pieces ≤ 400000 ∧
  ∀ H' : Hp, Same H H' → Q (.bl (FJ.shown sz (ords B) (ords E) (decide (E1 ≠ "empty")) nm rs left ⟨x, g, u, ov⟩)) H'
abbrev NSh : List Str := ["_law_made", "_law_kind_here", "_law_tale", "_law_prop", "_law_left", "_law_box_here", "_law_wide", "_law_out", "_law_each"]
theorem scSh : FnScope NSh PS7 (defScope sShw) := ⟨rfl, rfl, rfl, by decide +kernel, rfl, by decide +kernel, by decide +kernel⟩
theorem any_map {α : Type} (f : α → Bool) (l : List α) : (l.map f).any id = l.any f := by rw [List.any_map]; rfl
theorem ok_sh (R : TxLw K mg) (j : Addr) : FnOk P w K mg base CX0 5 R.shw.f R.shw.fd PS7 (spSh j) := by
  have GE : FnOk P w K mg base CX0 4 R.fev.f R.fev.fd PV4 (spEv j) := ok_ev R j
  have GF : FnOk P w K mg base CX0 1 R.flt.f R.flt.fd ["_law_out"] spFl := ok_fl R
  refine R.shw.F.ok scSh (fun vs H Q E h => ?_) (fun cdv A outer s H vs Q E hr h => ?_)
  · obtain ⟨_, _, _, _, _, _, _, _, _, _, _, _, _, _, _, _, _, _, _, _, _, _, rfl, _⟩ := h
    rfl
  · obtain ⟨ma, a, b0, q, p, b, B, E', A1, B1, E1, nm, tvs, rs, left, x, g, u, ov, sz, kk, cc, rfl, hma, ha, hb0, rB, rE, hq, hp, hR, hl, hn, hB, hJ, z1, z2, hg, few, hk, hc, hw, k⟩ := h
    have hu := hu_of hr
    have hr1 : Room 1 _ := hr.mono (by decide)
    have hu65 : ((cxOf CX0 P w K mg base NSh "_law_shown" (defScope sShw) R.shw.f cdv A outer s H E).nox).A.units + 65 < cLine := by
      have := hr.un
      show (A.deeper _).units + 65 < cLine
      omega
    have hu64 : ((cxOf CX0 P w K mg base NSh "_law_shown" (defScope sShw) R.shw.f cdv A outer s H E).nox).A.units + 64 < cLine := by omega
    refine ⟨_, (pss_cons (ps_set (i := 7) scSh.nd rfl (.inl rfl) (pe_dget hu (pv 5) pe_str (fun _ _ => rfl))) (pss_cons (ps_if (pt_cmpR op_eq (pv 3) pe_str (nomark _)) (pss_one (ps_ret (pe_and (pe_dget hu (pv 5) pe_str (fun _ _ => rfl)) (pe_one (pe_or (pe_cmpR op_gt (pv 4) pe_int (nomark _)) (pe_one (pe_cmpR (op_neD hu64) (pe_call GF hr1 rfl R.flt.g R.flt.k R.flt.b .nil pass0 (pa_cons (pv 7) pa_nil)) (pe_listRg rfl rfl R.B.list (prg_1 rfl R.B.range (pe_dget hu (pv 5) pe_str (fun _ _ => rfl)))) (nomark _)))))))) pss_nil) (pss_cons (ps_if (pt_cmpR op_eq (pv 3) pe_str (nomark _)) (pss_one (ps_ret (pe_cmpR (op_inD hu65) (pe_tup pa_nil) (pv 7) (by rfl)))) pss_nil) (pss_cons (ps_if (pt_cmpR op_eq (pv 3) pe_str (nomark _)) (pss_one (ps_ret (pe_or (pe_callB (cr_any rfl) (by rfl) R.any (by decide +kernel) (pa_cons (pe_lc (own := [("_law_each", 8)]) (g := gName 8) (tt := tYes) (te := tGtE) rfl scSh.nd (pi_list (pv 7)) (blkOk_by (own := [("_law_each", 8)]) (N := NSh) (sc := defScope sShw) (by decide +kernel)) (fun _ _ _ _ _ => pg_name (i := 8) scSh.nd rfl (Or.inl rfl)) (fun _ _ _ _ _ => pts_nil) (fun _ _ _ _ _ => by exact pe_imp (t' := tGtE) (pe_cmpR op_gt (pe_callB call_len_seq (by rfl) R.D.J.len PySem.boot_len (pa_cons (pv 8) pa_nil)) (pv 6) (nomark _)) (fun σ H1 Q1 ⟨q, xs, n, h8, h6, hq, k⟩ => ⟨_, h8, q, _, rfl, .inr (SqT.of hq), _, h6, _, _, rfl, rfl, (by show Q1 (.bl (decide (((n : Nat) : Int) < ((xs.length : Nat) : Int)))) H1; rw [show decide (((n : Nat) : Int) < ((xs.length : Nat) : Int)) = decide (n < xs.length) from decide_eq_decide.mpr (by omega)]; exact k)⟩))) pa_nil)) (pe_one (pe_callB (cr_any rfl) (by rfl) R.any (by decide +kernel) (pa_cons (pe_lc (own := [("_law_each", 8)]) (g := gName 8) (tt := tYes) (te := tNeE) rfl scSh.nd (pi_list (pe_slice sl_list (pv 7) po_none (po_some (pe_un un_neg pe_int)))) (blkOk_by (own := [("_law_each", 8)]) (N := NSh) (sc := defScope sShw) (by decide +kernel)) (fun _ _ _ _ _ => pg_name (i := 8) scSh.nd rfl (Or.inl rfl)) (fun _ _ _ _ _ => pts_nil) (fun _ _ _ _ _ => by exact pe_imp (t' := tNeE) (pe_cmpR op_ne (pe_callB call_len_seq (by rfl) R.D.J.len PySem.boot_len (pa_cons (pv 8) pa_nil)) (pv 6) (nomark _)) (fun σ H1 Q1 ⟨q, xs, n, h8, h6, hq, k⟩ => ⟨_, h8, q, _, rfl, .inr (SqT.of hq), _, h6, rfl, (by rw [show (!decide (V.int ((xs.length : Nat) : Int) = V.int ((n : Nat) : Int))) = decide (xs.length ≠ n) from by rw [← decide_not]; exact decide_eq_decide.mpr ⟨fun h z => h (by rw [z]), fun h z => h (by have := V.int.inj z; omega)⟩]; exact k)⟩))) pa_nil)))))) pss_nil) (pss_cons (ps_if (pt_cmpR op_eq (pv 3) pe_str (nomark _)) (pss_one (ps_ret (pe_and (pe_cmpR (op_neD hu64) (pv 2) (pe_lst pa_nil) (nomark _)) (pe_and (pe_ix ix_tup (pe_ix ix_list (pv 2) (pe_un un_neg pe_int) (fun _ _ => rfl)) pe_int (fun _ _ => rfl)) (pe_one (pe_not (pe_dget hu (pv 5) pe_str (fun _ _ => rfl)))))))) pss_nil) (pss_one (ps_ret (pe_and (pe_cmpR op_eq (pv 4) pe_int (nomark _)) (pe_and (pe_or (pe_cmpR (op_eqD hu64) (pv 2) (pe_lst pa_nil) (nomark _)) (pe_one (pe_cmpR op_gt (pe_ix ix_tup (pe_ix ix_list (pv 2) (pe_un un_neg pe_int) (fun _ _ => rfl)) pe_int (fun _ _ => rfl)) pe_int (nomark _)))) (pe_one (pe_call GE hr rfl R.fev.g R.fev.k R.fev.b .nil pass0 (pa_cons (pv 0) (pa_cons (pv 1) (pa_cons (pv 5) (pa_cons (pv 6) pa_nil))))))))))))))), ?_⟩
    obtain ⟨r2, u2, vs2, hd2, hr2, hu2, hP2, nr2, nu2⟩ := id hB.ex
    have lp := hP2.len
    have lw := wt_flat x.pieces
    have lt := hR.len
    refine ⟨_, rfl, b, _, rfl, get_u hd2, _, rfl, rfl, _, rfl, ?_⟩
    rw [show decide (V.str nm = V.str "whole") = decide (nm = "whole") from dS ..]
    unfold FJ.shown at k
    by_cases c1 : nm = "whole"
    · rw [if_pos c1] at k
      rw [decide_eq_true c1]
      refine iteT ⟨_, rfl, b, _, rfl, get_o hd2, _, rfl, ?_⟩
      cases ov with
      | false => exact iteF (k _ (Same.refl _))
      | true =>
        refine iteT ⟨_, rfl, _, _, rfl, rfl, _, rfl, ?_⟩
        by_cases l0 : 0 < left
        · rw [decide_eq_true l0] at k
          rw [decide_eq_true (show (0 : Int) < ((left : Nat) : Int) by omega)]
          exact iteT (k _ (Same.refl _))
        · rw [decide_eq_false l0] at k
          rw [decide_eq_false (show ¬ (0 : Int) < ((left : Nat) : Int) by omega)]
          refine iteF ⟨_, rfl, u2, vs2, x.pieces, rfl, hu2, hP2, hw, fun H1 q1 s1 nq1 hq1 => ?_⟩
          refine ⟨_, rfl, b, _, rfl, get_g (s1 _ _ hd2), _, rfl, RgOk.of_le (by omega) (by omega) (by omega) (by omega), fun z nz => ?_⟩
          rw [it_rg]
          have u2' := same_new (o := .lst (ivs (CoM.itF 0 g))) nz
          refine ⟨.list (intD x.pieces.flatten), .list (intD (CoM.itF 0 g)), .lst (SqL.of (u2' _ _ hq1)) (dpI _), .lst (SqL.of upd_same) (dpI _), intD_shaped _, intD_shaped _, ?_⟩
          rw [eqv_il, ← decide_not]
          exact k _ (Same.trans s1 u2')
    rw [if_neg c1] at k
    rw [decide_eq_false c1]
    refine iteF ⟨_, rfl, rfl, _, rfl, ?_⟩
    rw [show decide (V.str nm = V.str "filled") = decide (nm = "filled") from dS ..]
    by_cases c2 : nm = "filled"
    · rw [if_pos c2] at k
      rw [decide_eq_true c2]
      refine iteT ⟨Nat.zero_le _, fun z nz => ?_⟩
      have u1 := same_new (o := .tup []) nz
      refine ⟨_, rfl, .tuple [], _, .tup (SqT.of upd_same) .nil, .lst (SqL.of (u1 _ _ hu2)) (pc_dp (hP2.mono fun _ _ e => u1 _ _ e)), by decide, pc_shaped _, ?_⟩
      rw [any_nil]
      exact k _ u1
    rw [if_neg c2] at k
    rw [decide_eq_false c2]
    refine iteF ⟨_, rfl, rfl, _, rfl, ?_⟩
    rw [show decide (V.str nm = V.str "even") = decide (nm = "even") from dS ..]
    by_cases c3 : nm = "even"
    · rw [if_pos c3] at k
      rw [decide_eq_true c3]
      refine iteT ⟨_, rfl, u2, rfl, ⟨_, SqL.of hu2⟩, fun D nD => ?_⟩
      refine lc_list (K := K) (a := u2) (xs := vs2) (fun i H' => Same H H' ∧ H' D = some (.lst (((x.pieces.take i).map fun p => decide (sz < p.length)).map V.bl))) ⟨same_new nD, upd_same⟩ (fun i H' _ ⟨s', _⟩ => SqL.of (s' _ _ hu2)) ?_ ?_
      · rintro i y H1 hy ⟨s1, hD⟩
        obtain ⟨q', pc, hpc, rfl, hq'⟩ := hP2.getL hy
        refine ⟨rfl, q', _, sz, rfl, rfl, s1 _ _ hq', _, hD, szM (by rw [List.length_map, List.length_map, List.length_take]; omega), fun b u e => ?_, ?_⟩
        · rw [upd_ne (ne_of_none e nD)]
          exact s1 _ _ e
        · rw [upd_same, take_get hpc, ivs_len]
          simp
      rintro H1 ⟨s1, hD⟩
      rw [lp, List.take_length] at hD
      refine ⟨D, _, rfl, SqL.of hD, _, rfl, ?_⟩
      rw [any_map]
      unfold FJ.unevL at k
      cases ca : x.pieces.any (fun p => decide (sz < p.length)) with
      | true =>
        rw [ca] at k
        exact iteT (k _ s1)
      | false =>
        rw [ca, Bool.false_or] at k
        refine iteF ⟨_, rfl, ?_⟩
        unfold tNoPart
        refine ⟨_, rfl, _, rfl, u2, _, rfl, SqL.of (s1 _ _ hu2), fun z nz => ?_⟩
        rw [cut_m1]
        have u3 := same_new (o := .lst vs2.dropLast) nz
        have hPd : Pcs H vs2.dropLast x.pieces.dropLast := by
          have : ∀ {vs ps}, Pcs H vs ps → Pcs H vs.dropLast ps.dropLast := by
            intro vs ps h
            induction h with
            | nil => exact .nil
            | cons h t ih =>
              cases t with
              | nil => exact .nil
              | cons h2 t2 => exact .cons h ih
          exact this hP2
        have s13 := Same.trans s1 u3
        have hz : (upd H1 z (.lst vs2.dropLast)) z = some (.lst vs2.dropLast) := upd_same
        generalize upd H1 z (.lst vs2.dropLast) = H3 at s13 hz ⊢
        refine ⟨z, rfl, ⟨_, SqL.of hz⟩, fun D3 nD3 => ?_⟩
        have lpd := hPd.len
        refine lc_list (K := K) (a := z) (xs := vs2.dropLast) (fun i H' => Same H3 H' ∧ H' D3 = some (.lst (((x.pieces.dropLast.take i).map fun p => decide (p.length ≠ sz)).map V.bl))) ⟨same_new nD3, upd_same⟩ (fun i H' _ ⟨s', _⟩ => SqL.of (s' _ _ hz)) ?_ ?_
        · rintro i y H4 hy ⟨s4, hD4⟩
          obtain ⟨q', pc, hpc, rfl, hq'⟩ := hPd.getL hy
          refine ⟨rfl, q', _, sz, rfl, rfl, s4 _ _ (s13 _ _ hq'), _, hD4, szM (by rw [List.length_map, List.length_map, List.length_take, List.length_dropLast]; omega), fun b u e => ?_, ?_⟩
          · rw [upd_ne (ne_of_none e nD3)]
            exact s4 _ _ e
          · rw [upd_same, take_get hpc, ivs_len]
            simp
        rintro H4 ⟨s4, hD4⟩
        rw [lpd, List.take_length] at hD4
        refine ⟨D3, _, rfl, SqL.of hD4, ?_⟩
        rw [any_map]
        exact k _ (Same.trans s13 s4)
    rw [if_neg c3] at k
    rw [decide_eq_false c3]
    refine iteF ⟨_, rfl, rfl, _, rfl, ?_⟩
    rw [show decide (V.str nm = V.str "quiet") = decide (nm = "quiet") from dS ..]
    by_cases c4 : nm = "quiet"
    · rw [if_pos c4] at k
      rw [decide_eq_true c4]
      refine iteT ⟨_, rfl, Nat.zero_le _, fun z nz => ?_⟩
      have u1 := same_new (o := .lst []) nz
      refine ⟨.list (rpD rs), .list [], .lst (SqL.of (u1 _ _ hp)) (rp_dp (hR.same u1)), .lst (SqL.of upd_same) .nil, rp_shaped _, by decide, _, rfl, ?_⟩
      rw [rp_nil]
      rcases List.eq_nil_or_concat rs with rfl | ⟨rs', r, rfl⟩
      · rw [decide_eq_true rfl]
        exact iteF (k _ u1)
      · rw [List.concat_eq_append] at hR k ⊢
        rw [FJ.told_snoc] at k
        rw [decide_eq_false (show ¬ rs' ++ [r] = [] by simp)]
        obtain ⟨ws, q', rfl, hq'⟩ := hR.last
        refine iteT ⟨_, rfl, _, rfl, p, _, -1, _, rfl, rfl, SqL.of (u1 _ _ hp), atI_last _ _, q', _, 1, _, rfl, rfl, SqT.of (u1 _ _ hq'), rfl, _, rfl, ?_⟩
        cases hr2 : r.2 with
        | false =>
          rw [hr2] at k
          exact iteF (k _ u1)
        | true =>
          rw [hr2] at k
          refine iteT ⟨_, rfl, b, _, rfl, get_o (u1 _ _ hd2), _, rfl, ?_⟩
          exact k _ u1
    rw [if_neg c4] at k
    rw [decide_eq_false c4]
    refine iteF ⟨_, rfl, rfl, _, rfl, ?_⟩
    rw [dI]
    by_cases l0 : left = 0
    rotate_left
    · rw [decide_eq_false l0, Bool.false_and] at k
      rw [decide_eq_false (show ¬ ((left : Nat) : Int) = 0 by omega)]
      exact iteF (k _ (Same.refl _))
    rw [decide_eq_true l0, Bool.true_and] at k
    rw [decide_eq_true (show ((left : Nat) : Int) = 0 by omega)]
    refine iteT ⟨_, rfl, Nat.zero_le _, fun z nz => ?_⟩
    have u1 := same_new (o := .lst []) nz
    refine ⟨.list (rpD rs), .list [], .lst (SqL.of (u1 _ _ hp)) (rp_dp (hR.same u1)), .lst (SqL.of upd_same) .nil, rp_shaped _, by decide, _, rfl, ?_⟩
    rw [rp_nil]
    rcases List.eq_nil_or_concat rs with rfl | ⟨rs', r, rfl⟩
    · rw [decide_eq_true rfl]
      rw [decide_eq_true (show (([] : FJ.Rep).getLast?.map (·.1)) ≠ some 0 from fun z => by cases z), Bool.true_and] at k
      refine iteT ⟨_, rfl, iteT ⟨_, rfl, _, rfl, _, rfl, _, rfl, ma, a, b0, q, b, B, E', A1, B1, E1, x, g, u, ov, sz, kk, cc, rfl, u1 _ _ hma, u1 _ _ ha, u1 _ _ hb0, rB, rE, u1 _ _ hq, hB.same u1, hJ.same u1, z1, z2, by omega, few, hk, hc, fun H2 s2 => k _ (Same.trans u1 s2)⟩⟩
    · rw [List.concat_eq_append] at hR k ⊢
      rw [decide_eq_false (show ¬ rs' ++ [r] = [] by simp)]
      rw [show (rs' ++ [r]).getLast? = some r by simp] at k
      obtain ⟨ws, q', rfl, hq'⟩ := hR.last
      refine iteF ⟨_, rfl, _, rfl, p, _, -1, _, rfl, rfl, SqL.of (u1 _ _ hp), atI_last _ _, q', _, 0, _, rfl, rfl, SqT.of (u1 _ _ hq'), rfl, _, _, rfl, rfl, _, rfl, ?_⟩
      by_cases c0 : r.1 = 0
      · rw [decide_eq_false (show ¬ Option.map (·.1) (some r) ≠ some 0 from fun z => z (by rw [Option.map_some, c0])), Bool.false_and] at k
        rw [decide_eq_false (show ¬ (0 : Int) < ((r.1 : Nat) : Int) by omega)]
        exact iteF (k _ u1)
      · rw [decide_eq_true (show Option.map (·.1) (some r) ≠ some 0 from fun z => c0 (Option.some.inj z)), Bool.true_and] at k
        rw [decide_eq_true (show (0 : Int) < ((r.1 : Nat) : Int) by omega)]
        exact iteT ⟨_, rfl, _, rfl, _, rfl, _, rfl, ma, a, b0, q, b, B, E', A1, B1, E1, x, g, u, ov, sz, kk, cc, rfl, u1 _ _ hma, u1 _ _ ha, u1 _ _ hb0, rB, rE, u1 _ _ hq, hB.same u1, hJ.same u1, z1, z2, by omega, few, hk, hc, fun H2 s2 => k _ (Same.trans u1 s2)⟩
end
end My

/-! the law's own word on a paper; replies that are walked -/
namespace My
open PySem L2 Cm LM EM
abbrev sIsP : Stmt := top 137
abbrev sWlk : Stmt := top 138
structure TxIp (K : PySem.W.Frag) (mg : Str → Option Value) where
  L : TxLw K mg
  isp : Df K mg "_law_is_paper" sIsP ["_law_made", "_law_kind_here", "_law_prop", "_law_paper_here"]
  wlk : Df K mg "_law_walked" sWlk ["_law_jar_here", "_law_made", "_law_kind_here", "_law_many", "_law_wide"]
theorem rp_in (r : Nat × Bool) : ∀ rs : FJ.Rep, ((rpD rs).any fun z => PyData.eqv z (.tuple [.int (r.1 : Nat), .bool r.2])) = decide (r ∈ rs)
  | [] => rfl
  | p :: t => by
    have e : rpD (p :: t) = .tuple [.int (p.1 : Nat), .bool p.2] :: rpD t := rfl
    rw [e, List.any_cons, rp_in r t]
    have e2 : PyData.eqv (.tuple [.int (p.1 : Nat), .bool p.2]) (.tuple [.int (r.1 : Nat), .bool r.2]) = decide (p = r) := by
      obtain ⟨a, b⟩ := p
      obtain ⟨c, d⟩ := r
      simp [PyData.eqv, PyData.eqvAll, Prod.mk.injEq]
      by_cases h : a = c
      · subst h
        cases b <;> cases d <;> simp
      · have : ¬ ((a : Int) = (c : Int)) := by omega
        simp [h, this]
    rw [e2]
    by_cases h : p = r
    · subst h; simp
    · have : ¬ (r = p) := fun z => h z.symm
      simp [h, this]
theorem one_shaped (r : Nat × Bool) : SeqAt.shaped (.tuple [.int (r.1 : Nat), .bool r.2]) = true := by
  refine Bool.and_eq_true_iff.mpr ⟨by simp [PyData.canLay0, PyData.canLayAll0], decide_eq_true ?_⟩
  simp [PyData.depth, PyData.depthAll]
theorem opt_le {A B E : Str} (hA : isAm A) (hE : isEn E) {left sz : Nat} {r : Nat × Bool} (h : r ∈ optM A B E left sz) : r.1 ≤ left ∧ r.1 ≤ sz := can_le hA ((opt_mem hA hE).mp h).1
theorem rn_few {sz : Nat} {ro eo : List (Str × Str)} (hs : 1 ≤ sz) (l1 : ro.length ≤ 12) (l2 : eo.length ≤ 6) (rs : FJ.Rep) (hn : rs.length ≤ 100) (hr : ∀ r ∈ rs, r.1 ≤ sz) : Few sz (18 * rs.length) (rs.length * 32724) (FJ.rn sz ro eo rs).x ∧ (FJ.rn sz ro eo rs).f ≤ rs.length * sz := by
  have := runM_bound (ro := ro) (eo := eo) hs l1 l2 rs hn hr
  rw [rn_of]
  exact ⟨this.1, this.2.1⟩
theorem words4 {B E : List Str} (rB : isRound B = true) (rE : isEnding E = true) : Gd4 (ords B) (ords E) := by
  refine ⟨by rw [ords, List.length_map]; exact (round_sht rB).2, by rw [ords, List.length_map]; exact (ending_sht rE).2, ?_, ?_⟩
  · show adds (B.map orderOf) ≤ 1
    rw [adds_leS]
    exact round_adds rB
  · show adds (E.map orderOf) = 0
    rw [adds_leS, show E.filter isAdd = [] from List.filter_eq_nil_iff.mpr fun z hz => ?_]
    · rfl
    · rw [wd_noadd z (Wd.mem ((word_wd ((isEnding_iff.mp rE).2 z hz)).mono (by decide +kernel)))]
      exact Bool.false_ne_true
section
variable {P : Program} {w : World} {K : PySem.W.Frag} {mg : Str → Option Value} {base : Heap}
/-- the words, the kind, a jar -/
structure MkA (j : Addr) (H : Hp) (ma q : Addr) (B E : List Str) (A1 B1 E1 : Str) : Prop where
  ex : ∃ a b0, H ma = some (.tup [.ref a, .ref b0]) ∧ H a = some (.lst (svs B)) ∧ H b0 = some (.lst (svs E))
  rB : isRound B = true
  rE : isEnding E = true
  q : H q = some (.lst [.str A1, .str B1, .str E1])
  J : Jar H j
theorem MkA.same {j : Addr} {H H' : Hp} {ma q : Addr} {B E : List Str} {A1 B1 E1 : Str} (s : Same H H') (h : MkA j H ma q B E A1 B1 E1) : MkA j H' ma q B E A1 B1 E1 := by
  obtain ⟨a, b, h1, h2, h3⟩ := h.ex
  exact ⟨⟨a, b, s _ _ h1, s _ _ h2, s _ _ h3⟩, h.rB, h.rE, s _ _ h.q, h.J.same s⟩
theorem fd_mono {j : Addr} {vs : List V} {H : Hp} {Q Q' : VK} {E E' : XK} (h : spFd j vs H Q E) (f : ∀ v H', Q v H' → Q' v H') : spFd j vs H Q' E' := by
  obtain ⟨ma, a, b0, b, B, En, x, g, ov, said, many, wide, k, c, e, h1, h2, h3, h4, h5, h6, h7, h8, h9, h10, h11, h12, h13, h14, q⟩ := h
  exact ⟨ma, a, b0, b, B, En, x, g, ov, said, many, wide, k, c, e, h1, h2, h3, h4, h5, h6, h7, h8, h9, h10, h11, h12, h13, h14, fun H' d s n X => f _ _ (q H' d s n X)⟩
/-- the law's word -/
def isPL (B E : List Str) (A1 B1 E1 nm : Str) (n sz : Nat) (rs : FJ.Rep) : Bool := FJ.isP sz (ords B) (ords E) (decide (E1 ≠ "empty")) nm (fun l => optM A1 B1 E1 l sz) n rs
def spIp (j : Addr) : Sp := fun vs H Q _ => ∃ (ma q pp tp : Addr) (B E : List Str) (A1 B1 E1 nm : Str) (n sz : Nat) (xs : List V) (rs : FJ.Rep), vs = [.ref ma, .ref q, .str nm, .ref pp] ∧ MkA j H ma q B E A1 B1 E1 ∧ H pp = some (.tup [.int (n : Nat), .int (sz : Nat), .ref tp]) ∧ H tp = some (.tup xs) ∧ Rps H xs rs ∧ rs.length ≤ 30 ∧ rs.length * sz ≤ 100 ∧ isAm A1 ∧ isEn E1 ∧ FJ.Names nm ∧ n ≤ 1000 ∧ 1 ≤ sz ∧ sz ≤ 1000 ∧
  ∀ H' : Hp, Same H H' → Q (.bl (isPL B E A1 B1 E1 nm n sz rs)) H'
abbrev NIp : List Str := ["_law_made", "_law_kind_here", "_law_prop", "_law_paper_here", "_law_many", "_law_wide", "_law_tale", "_law_left", "_law_box_here", "_law_some", "_law_reply"]
theorem scIp : FnScope NIp ["_law_made", "_law_kind_here", "_law_prop", "_law_paper_here"] (defScope sIsP) := ⟨rfl, rfl, rfl, by decide +kernel, rfl, by decide +kernel, by decide +kernel⟩
theorem ok_ip (R : TxIp K mg) (j : Addr) : FnOk P w K mg base CX0 6 R.isp.f R.isp.fd ["_law_made", "_law_kind_here", "_law_prop", "_law_paper_here"] (spIp j) := by
  have GO : FnOk P w K mg base CX0 1 R.L.opt.f R.L.opt.fd PO3 spOp := ok_op R.L
  have GS : FnOk P w K mg base CX0 5 R.L.shw.f R.L.shw.fd PS7 (spSh j) := ok_sh R.L j
  have GD : FnOk P w K mg base CX0 3 R.L.B.fed.f R.L.B.fed.fd ["_law_made", "_law_box_here", "_law_many", "_law_said", "_law_wide"] (spFd j) := ok_fd R.L.B j
  have GX : FnOk P w K mg base CX0 1 R.L.B.box.f R.L.B.box.fd [] (spBx j) := ok_bx R.L.B j
  refine R.isp.F.ok scIp (fun vs H Q E h => ?_) (fun cdv A outer s H vs Q E hr h => ?_)
  · obtain ⟨_, _, _, _, _, _, _, _, _, _, _, _, _, _, rfl, _⟩ := h
    rfl
  · obtain ⟨ma, q, pp, tp, B, E', A1, B1, E1, nm, n, sz, xs, rs, rfl, hM, hpp, htp, hR, hl, hls, hA, hE, hn, hn1, z1, z2, k⟩ := h
    have hu := hu_of hr
    have hr1 : Room 1 _ := hr.mono (by decide)
    have hr3 : Room 3 _ := hr.mono (by decide)
    have hu65 : ((cxOf CX0 P w K mg base NIp "_law_is_paper" (defScope sIsP) R.isp.f cdv A outer s H E).nox).A.units + 65 < cLine := by
      have := hr.un
      show (A.deeper _).units + 65 < cLine
      omega
    have hu64 : ((cxOf CX0 P w K mg base NIp "_law_is_paper" (defScope sIsP) R.isp.f cdv A outer s H E).nox).A.units + 64 < cLine := by omega
    refine ⟨_, (pss_cons (ps_asg (pv 3) (pg_tup rfl (pgs_cons (pg_name (i := 4) scIp.nd rfl (.inl rfl)) (pgs_cons (pg_name (i := 5) scIp.nd rfl (.inl rfl)) (pgs_cons (pg_name (i := 6) scIp.nd rfl (.inl rfl)) pgs_nil))))) (C8.pss_cut (ps_if (PW.pt (pw_and (pt_cmpR (op_eqD hu64) (pv 6) (pe_tup pa_nil) (nomark _)) (pw_and1 (PW.pt (pw_or (pt_cmpR op_ne (pv 2) pe_str (nomark _)) (pw_or1 (pt_cmpR op_gt (pv 4) pe_int (nomark _)))))))) (pss_one (ps_ret pe_bl)) pss_nil) (pss_cons (ps_par3 (i := 7) (j := 8) (l := 9) rfl scIp.nd rfl rfl rfl (by decide) (by decide) (by decide) rfl rfl rfl (pa_cons (pv 4) (pa_cons (pe_call0 GX hr1 rfl R.L.B.box.g R.L.B.box.k R.L.B.box.b .nil pass0) (pa_cons (pe_lst pa_nil) pa_nil))) (by rfl)) (pss_cons (ps_for PassesOwn.never rfl (pi_tup (pv 6)) (pg_name (i := 10) scIp.nd rfl (.inl rfl)) (pss_cons (ps_if (PW.pt (pw_or (pt_val (pe_dget hu (pv 8) pe_str (fun _ _ => rfl))) (pw_or1 (pt_cmpR (op_notInD hu65) (pv 10) (pe_call GO hr1 rfl R.L.opt.g R.L.opt.k R.L.opt.b .nil pass0 (pa_cons (pv 1) (pa_cons (pv 7) (pa_cons (pv 5) pa_nil)))) (by rfl))))) (pss_one (ps_ret pe_bl)) pss_nil) (pss_cons (ps_if (PW.pt (pw_and (pt_cmpR (op_neD hu64) (pv 9) (pe_lst pa_nil) (nomark _)) (pw_and1 (pt_val (pe_call GS hr rfl R.L.shw.g R.L.shw.k R.L.shw.b .nil pass0 (pa_cons (pv 0) (pa_cons (pv 1) (pa_cons (pv 9) (pa_cons (pv 2) (pa_cons (pv 7) (pa_cons (pv 8) (pa_cons (pv 5) pa_nil)))))))))))) (pss_one (ps_ret pe_bl)) pss_nil) (pss_one (ps_par3 (i := 7) (j := 8) (l := 9) rfl scIp.nd rfl rfl rfl (by decide) (by decide) (by decide) rfl rfl rfl (pa_cons (pe_op op_sub (pv 7) (pe_ix ix_tup (pv 10) pe_int (fun _ _ => rfl))) (pa_cons (pe_call GD hr3 rfl R.L.B.fed.g R.L.B.fed.k R.L.B.fed.b .nil pass0 (pa_cons (pv 0) (pa_cons (pv 8) (pa_cons (pe_ix ix_tup (pv 10) pe_int (fun _ _ => rfl)) (pa_cons (pe_ix ix_tup (pv 10) pe_int (fun _ _ => rfl)) (pa_cons (pv 5) pa_nil)))))) (pa_cons (pe_op op_cat (pv 9) (pe_lst (pa_cons (pv 10) pa_nil))) pa_nil))) (by rfl)))))) (pss_one (ps_ret (pe_call GS hr rfl R.L.shw.g R.L.shw.k R.L.shw.b .nil pass0 (pa_cons (pv 0) (pa_cons (pv 1) (pa_cons (pv 9) (pa_cons (pv 2) (pa_cons (pv 7) (pa_cons (pv 8) (pa_cons (pv 5) pa_nil)))))))))))))), ?_⟩
    have g4 := words4 hM.rB hM.rE
    have lx := hR.len
    refine ⟨_, rfl, pp, _, rfl, SqT.of hpp, rfl, _, _, rfl, _, _, rfl, _, _, rfl, rfl, ?_⟩
    unfold isPL FJ.isP at k
    generalize hT : (FJ.walk sz (ords B) (ords E') (decide (E1 ≠ "empty")) nm (fun l => optM A1 B1 E1 l sz) [] n FJ.s0 rs) = WT at k
    refine ⟨fun σ H' => Same H H' ∧ σ = [some (.ref ma), some (.ref q), some (.str nm), some (.ref pp), some (.int (n : Nat)), some (.int (sz : Nat)), some (.ref tp), none, none, none, none] ∧ ¬ (rs = [] ∧ (nm ≠ "ends" ∨ 0 < n)), ?_, ?_⟩
    · refine ⟨_, rfl, Nat.zero_le _, fun z nz => ?_⟩
      have u1 := same_new (o := .tup []) nz
      refine ⟨.tuple (rpD rs), .tuple [], .tup (SqT.of (u1 _ _ htp)) (rp_dp (hR.same u1)), .tup (SqT.of upd_same) .nil, rp_shapedT _, by decide, _, rfl, ?_⟩
      rw [rp_nilT]
      generalize upd H z (.tup []) = H1 at u1 ⊢
      by_cases c1 : rs = []
      rotate_left
      · rw [decide_eq_false c1]
        exact iteF ⟨u1, rfl, fun h => c1 h.1⟩
      rw [decide_eq_true c1]
      refine iteT ⟨_, rfl, rfl, _, rfl, ?_⟩
      rw [show decide (V.str nm = V.str "ends") = decide (nm = "ends") from dS ..]
      by_cases c2 : nm = "ends"
      · rw [decide_eq_true c2]
        refine iteF ⟨_, rfl, _, _, rfl, rfl, _, rfl, ?_⟩
        by_cases c3 : 0 < n
        · rw [decide_eq_true (show (0 : Int) < ((n : Nat) : Int) by omega)]
          rw [if_pos ⟨c1, .inr c3⟩] at k
          exact iteT (k _ u1)
        · rw [decide_eq_false (show ¬ (0 : Int) < ((n : Nat) : Int) by omega)]
          exact iteF ⟨u1, rfl, fun h => h.2.elim (fun z => z c2) c3⟩
      · rw [decide_eq_false c2]
        rw [if_pos ⟨c1, .inl c2⟩] at k
        exact iteT (k _ u1)
    rintro _ H1 ⟨s1, rfl, nc⟩
    rw [if_neg nc] at k
    refine ⟨_, rfl, rfl, (hM.same s1).J, fun H2 b2 s2 nb2 hB2 => ?_⟩
    refine ⟨Nat.zero_le _, fun l2 nl2 => ⟨_, _, _, rfl, ?_⟩⟩
    have u2 := same_new (o := .lst []) nl2
    have s02 := Same.trans s1 (Same.trans s2 u2)
    refine ⟨_, rfl, tp, rfl, ⟨_, SqT.of (s02 _ _ htp)⟩, ?_⟩
    -- what the law's word takes of a state
    have look : ∀ {H' : Hp} {p b : Addr} {tvs : List V} {left i : Nat} {Q2 : VK}, Same H H' → i ≤ rs.length → (∀ r ∈ rs.take i, r.1 ≤ sz) → H' p = some (.lst tvs) → Rps H' tvs (rs.take i) → BoxJ j H' b (FJ.rn sz (ords B) (ords E') (rs.take i)).x (FJ.rn sz (ords B) (ords E') (rs.take i)).f (FJ.rn sz (ords B) (ords E') (rs.take i)).st →
        (∀ H2 : Hp, Same H' H2 → Q2 (.bl (FJ.shown sz (ords B) (ords E') (decide (E1 ≠ "empty")) nm (rs.take i) left (FJ.rn sz (ords B) (ords E') (rs.take i)))) H2) →
        spSh j [.ref ma, .ref q, .ref p, .str nm, .int (left : Nat), .ref b, .int (sz : Nat)] H' Q2 E0 := by
      intro H' p b tvs left i Q2 s' li hc hp hRp hB kQ
      obtain ⟨a, b0, h1, h2, h3⟩ := (hM.same s').ex
      have lt : (rs.take i).length = i := by rw [List.length_take]; omega
      obtain ⟨f1, f2⟩ := rn_few (ro := ords B) (eo := ords E') z1 g4.l1 g4.l2 (rs.take i) (by omega) hc
      have wb := FJ.rn_wt (sz := sz) (h := sz) g4.l1 g4.l2 g4.a1 g4.a2 (rs.take i) (by omega) (Nat.le_trans (Nat.mul_le_mul_right _ (by omega)) hls) hc
      rw [lt] at f1 f2
      have li30 : i ≤ 30 := by omega
      have f3 : i * sz ≤ 30 * 1000 := Nat.mul_le_mul li30 z2
      exact ⟨ma, a, b0, q, p, b, B, E', A1, B1, E1, nm, tvs, rs.take i, left, _, _, (FJ.rn sz (ords B) (ords E') (rs.take i)).u, _, sz, 18 * i, i * 32724, rfl, h1, h2, h3, hM.rB, hM.rE, s' _ _ hM.q, hp, hRp, by omega, hn, hB, (hM.same s').J, z1, z2, by omega, f1, by omega, by omega, wb, kQ⟩
    refine for_tup (K := K) (a := tp) (xs := xs) (fun i σ H' => ∃ (left : Nat) (b p : Addr) (tvs : List V) (v10 : Option V), σ = [some (.ref ma), some (.ref q), some (.str nm), some (.ref pp), some (.int (n : Nat)), some (.int (sz : Nat)), some (.ref tp), some (.int (left : Nat)), some (.ref b), some (.ref p), v10] ∧ Same H H' ∧ left ≤ 1000 ∧ i ≤ rs.length ∧ (∀ r ∈ rs.take i, r.1 ≤ sz) ∧ H' p = some (.lst tvs) ∧ Rps H' tvs (rs.take i) ∧ BoxJ j H' b (FJ.rn sz (ords B) (ords E') (rs.take i)).x (FJ.rn sz (ords B) (ords E') (rs.take i)).f (FJ.rn sz (ords B) (ords E') (rs.take i)).st ∧ FJ.walk sz (ords B) (ords E') (decide (E1 ≠ "empty")) nm (fun l => optM A1 B1 E1 l sz) (rs.take i) left (FJ.rn sz (ords B) (ords E') (rs.take i)) (rs.drop i) = WT)
      ⟨n, b2, l2, [], none, rfl, s02, hn1, Nat.zero_le _, fun _ h => (nomatch h), upd_same, .nil, hB2.same u2, hT⟩ (fun i σ H' _ ⟨_, _, _, _, _, _, s', _⟩ => SqT.of (s' _ _ htp)) ?_ ?_
    · rintro i y σ H3 hy ⟨left, b, p, tvs, v10, rfl, s3, hlft, li, hc, hp, hRp, hB, hW⟩
      obtain ⟨qr, r, hr0, rfl, hqr⟩ := hR.get hy
      have lir : i < rs.length := lt_of_get hr0
      have ed : rs.drop i = r :: rs.drop (i + 1) := by
        obtain ⟨hi, hg⟩ := List.getElem?_eq_some_iff.mp hr0
        rw [List.drop_eq_getElem_cons hi, hg]
      rw [ed] at hW
      have lt : (rs.take i).length = i := by rw [List.length_take]; omega
      obtain ⟨f1, f2⟩ := rn_few (ro := ords B) (eo := ords E') z1 g4.l1 g4.l2 (rs.take i) (by omega) hc
      rw [lt] at f1 f2
      have f3 : i * sz ≤ 30 * 1000 := Nat.mul_le_mul (by omega) z2
      have tk : rs.take (i + 1) = rs.take i ++ [r] := take_get hr0
      have wb := FJ.rn_wt (sz := sz) (h := sz) g4.l1 g4.l2 g4.a1 g4.a2 (rs.take i) (by omega) (Nat.le_trans (Nat.mul_le_mul_right _ (by omega)) hls) hc
      have ern : FJ.rn sz (ords B) (ords E') (rs.take (i + 1)) = CoM.stp sz (ords B) (ords E') (FJ.rn sz (ords B) (ords E') (rs.take i)) r := by rw [tk, FJ.rn_snoc]
      rw [ern, tk]
      unfold FJ.walk at hW
      generalize FJ.rn sz (ords B) (ords E') (rs.take i) = s' at hB hW wb f1 f2 ern ⊢
      obtain ⟨r2, u2', vs2, hd2, _⟩ := id hB.ex
      obtain ⟨a, b0, hma, ha, hb0⟩ := (hM.same s3).ex
      refine ⟨_, rfl, b, _, rfl, get_o hd2, _, rfl, ?_⟩
      cases hst : s'.st with
      | true =>
        rw [if_pos (.inl hst)] at hW
        rw [← hW] at k
        exact iteT (iteT (k _ s3))
      | false =>
        refine iteF ⟨_, rfl, _, rfl, _, rfl, _, rfl, q, A1, B1, E1, left, sz, rfl, s3 _ _ hM.q, hlft, z2, fun H4 po xo s4 npo hpo hRo => ?_⟩
        have s34 := Same.trans s3 s4
        refine ⟨.tuple [.int (r.1 : Nat), .bool r.2], rpD (optM A1 B1 E1 left sz), .tup (SqT.of (s34 _ _ hqr)) (.cons (.int _) (.cons (.bl _) .nil)), .lst (SqL.of hpo) (rp_dp hRo), one_shaped r, rp_shaped _, _, rfl, ?_⟩
        rw [rp_in]
        by_cases hmem : r ∈ optM A1 B1 E1 left sz
        rotate_left
        · rw [if_pos (.inr hmem)] at hW
          rw [← hW] at k
          rw [decide_eq_false hmem]
          exact iteT (k _ s34)
        rw [decide_eq_true hmem]
        rw [if_neg (fun z => z.elim (fun z => by rw [hst] at z; cases z) fun z => z hmem)] at hW
        obtain ⟨c1, c2⟩ := opt_le hA hE hmem
        -- what was seen before
        refine iteF ⟨_, rfl, Nat.zero_le _, fun z nz => ?_⟩
        have u5 := same_new (o := .lst []) nz
        have s35 := Same.trans s34 u5
        have hp5 := u5 _ _ (s4 _ _ hp)
        have hR5 := (hRp.same s4).same u5
        have hB5 := (hB.same s4).same u5
        refine ⟨.list (rpD (rs.take i)), .list [], .lst (SqL.of hp5) (rp_dp hR5), .lst (SqL.of upd_same) .nil, rp_shaped _, by decide, _, rfl, ?_⟩
        rw [rp_nil]
        generalize upd H4 z (.lst []) = H5 at s35 hp5 hR5 hB5 ⊢
        have esp : CoM.stp sz (ords B) (ords E') s' r = ⟨(ansM sz (ords B) (ords E') (itemsL s'.f r.1) r.2 s'.x).1, s'.f + r.1, s'.u + 1, (ansM sz (ords B) (ords E') (itemsL s'.f r.1) r.2 s'.x).2⟩ := by
          unfold CoM.stp
          rw [if_neg (by rw [hst]; decide)]
          rfl
        -- from here the step is taken
        have go : ∀ H6 : Hp, Same H H6 → H6 p = some (.lst tvs) → Rps H6 tvs (rs.take i) → BoxJ j H6 b s'.x s'.f s'.st → ¬ (rs.take i ≠ [] ∧ FJ.shown sz (ords B) (ords E') (decide (E1 ≠ "empty")) nm (rs.take i) left s' = true) →
            spFd j [.ref ma, .ref b, .int (r.1 : Nat), .bl r.2, .int (sz : Nat)] H6 (fun v H7 => ∀ l : Addr, H7 l = none → ∀ H8 : Hp, Same H7 H8 → ∀ p8 : Addr, H8 p8 = some (.lst (tvs ++ [.ref qr])) → ∃ (left' : Nat) (b' : Addr), v = .ref b' ∧ ((left : Nat) : Int) - ((r.1 : Nat) : Int) = ((left' : Nat) : Int) ∧ (∃ (left : Nat) (b p : Addr) (tvs : List V) (v10 : Option V), ([some (.ref ma), some (.ref q), some (.str nm), some (.ref pp), some (.int (n : Nat)), some (.int (sz : Nat)), some (.ref tp), some (.int (left' : Nat)), some (.ref b'), some (.ref p8), some (.ref qr)] : L2.St) = [some (.ref ma), some (.ref q), some (.str nm), some (.ref pp), some (.int (n : Nat)), some (.int (sz : Nat)), some (.ref tp), some (.int (left : Nat)), some (.ref b), some (.ref p), v10] ∧ Same H H8 ∧ left ≤ 1000 ∧ i + 1 ≤ rs.length ∧ (∀ r_1 ∈ rs.take i ++ [r], r_1.1 ≤ sz) ∧ H8 p = some (.lst tvs) ∧ Rps H8 tvs (rs.take i ++ [r]) ∧ BoxJ j H8 b (CoM.stp sz (ords B) (ords E') s' r).x (CoM.stp sz (ords B) (ords E') s' r).f (CoM.stp sz (ords B) (ords E') s' r).st ∧ FJ.walk sz (ords B) (ords E') (decide (E1 ≠ "empty")) nm (fun l => optM A1 B1 E1 l sz) (rs.take i ++ [r]) left (CoM.stp sz (ords B) (ords E') s' r) (rs.drop (i + 1)) = WT)) E0 := by
          intro H6 s6 hp6 hR6 hB6 hns
          rw [if_neg hns] at hW
          obtain ⟨a, b0, hma6, ha6, hb06⟩ := (hM.same s6).ex
          refine ⟨ma, a, b0, b, B, E', s'.x, s'.f, s'.st, r.2, r.1, sz, 18 * i, i * 32724, rfl, hma6, ha6, hb06, hM.rB, hM.rE, hB6, (hM.same s6).J, z1, z2, c2, by omega, f1, by omega, by omega, fun H7 d s7 nd X7 l nl H8 s8 p8 hp8 => ?_⟩
          refine ⟨left - r.1, d, rfl, by omega, left - r.1, d, p8, tvs ++ [.ref qr], _, rfl, Same.trans s6 (Same.trans s7 s8), by omega, by omega, fun z hz => ?_, hp8, ?_, ?_, hW⟩
          · rcases List.mem_append.mp hz with hz | hz
            · exact hc z hz
            · rw [List.mem_singleton.mp hz]; exact c2
          · exact ((hR6.same s7).same s8).app (.cons (s8 _ _ (s7 _ _ (s6 _ _ hqr))) .nil)
          · rw [esp]
            exact X7.same s8
        by_cases c0 : rs.take i = []
        · rw [decide_eq_true c0]
          refine iteF ⟨_, rfl, _, rfl, qr, _, 0, _, rfl, rfl, SqT.of (s35 _ _ hqr), rfl, _, _, rfl, rfl, _, rfl, _, rfl, _, rfl, qr, _, 0, _, rfl, rfl, SqT.of (s35 _ _ hqr), rfl, _, rfl, qr, _, 1, _, rfl, rfl, SqT.of (s35 _ _ hqr), rfl, _, rfl, ?_⟩
          obtain ⟨ma', a', b0', b', B', En', x', g', ov', said', many', wide', k', c', e', h1, h2, h3, h4, h5, h6, h7, h8, h9, h10, h11, h12, h13, h14, qq⟩ := go H5 s35 hp5 hR5 hB5 (fun z => z.1 c0)
          refine ⟨ma', a', b0', b', B', En', x', g', ov', said', many', wide', k', c', ?_, h1, h2, h3, h4, h5, h6, h7, h8, h9, h10, h11, h12, h13, h14, fun H7 d s7 nd X7 => ?_⟩
          · exact e'
          have hv := qq H7 d s7 nd X7
          refine ⟨_, rfl, _, rfl, (by show 1 ≤ sizeLine; decide), fun z nz => ?_⟩
          have u8 := same_new (o := .lst [.ref qr]) nz
          have hp7 := s7 _ _ hp5
          have lp7 := (hR5).len
          refine ⟨p, z, _, _, rfl, rfl, u8 _ _ hp7, upd_same, Nat.le_of_lt (szM (by show tvs.length + 1 ≤ _; omega)), fun z2 nz2 => ?_⟩
          obtain ⟨left', b2', ed', el', inv⟩ := hv z nz _ (Same.trans u8 (same_new (o := .lst (tvs ++ [.ref qr])) nz2)) z2 upd_same
          cases ed'
          refine ⟨_, _, _, rfl, ?_⟩
          rw [← el'] at inv
          exact inv
        · rw [decide_eq_false c0]
          refine iteT ⟨_, rfl, _, rfl, _, rfl, _, rfl, _, rfl, _, rfl, _, rfl, ?_⟩
          obtain ⟨a5, b5, hma5, ha5, hb5⟩ := (hM.same s35).ex
          refine ⟨ma, a5, b5, q, p, b, B, E', A1, B1, E1, nm, tvs, rs.take i, left, s'.x, s'.f, s'.u, s'.st, sz, 18 * i, i * 32724, rfl, hma5, ha5, hb5, hM.rB, hM.rE, s35 _ _ hM.q, hp5, hR5, by omega, hn, hB5, (hM.same s35).J, z1, z2, by omega, f1, by omega, by omega, wb, fun H6 s6 => ⟨_, rfl, ?_⟩⟩
          have s36 := Same.trans s35 s6
          cases hsh : FJ.shown sz (ords B) (ords E') (decide (E1 ≠ "empty")) nm (rs.take i) left s' with
          | true =>
            rw [if_pos ⟨c0, hsh⟩] at hW
            rw [← hW] at k
            exact iteT (k _ s36)
          | false =>
            refine iteF ⟨_, rfl, _, rfl, qr, _, 0, _, rfl, rfl, SqT.of (s36 _ _ hqr), rfl, _, _, rfl, rfl, _, rfl, _, rfl, _, rfl, qr, _, 0, _, rfl, rfl, SqT.of (s36 _ _ hqr), rfl, _, rfl, qr, _, 1, _, rfl, rfl, SqT.of (s36 _ _ hqr), rfl, _, rfl, ?_⟩
            obtain ⟨ma', a', b0', b', B', En', x', g', ov', said', many', wide', k', c', e', h1, h2, h3, h4, h5, h6, h7, h8, h9, h10, h11, h12, h13, h14, qq⟩ := go H6 s36 (s6 _ _ hp5) (hR5.same s6) (hB5.same s6) (fun z => by rw [hsh] at z; cases z.2)
            refine ⟨ma', a', b0', b', B', En', x', g', ov', said', many', wide', k', c', e', h1, h2, h3, h4, h5, h6, h7, h8, h9, h10, h11, h12, h13, h14, fun H7 d s7 nd X7 => ?_⟩
            have hv := qq H7 d s7 nd X7
            refine ⟨_, rfl, _, rfl, (by show 1 ≤ sizeLine; decide), fun z nz => ?_⟩
            have u8 := same_new (o := .lst [.ref qr]) nz
            have hp7 := s7 _ _ (s6 _ _ hp5)
            have lp7 := (hR5).len
            refine ⟨p, z, _, _, rfl, rfl, u8 _ _ hp7, upd_same, Nat.le_of_lt (szM (by show tvs.length + 1 ≤ _; omega)), fun z2 nz2 => ?_⟩
            obtain ⟨left', b2', ed', el', inv⟩ := hv z nz _ (Same.trans u8 (same_new (o := .lst (tvs ++ [.ref qr])) nz2)) z2 upd_same
            cases ed'
            refine ⟨_, _, _, rfl, ?_⟩
            rw [← el'] at inv
            exact inv
    · rintro σ H3 ⟨left, b, p, tvs, v10, rfl, s3, hlft, li, hc, hp, hRp, hB, hW⟩
      rw [lx, List.drop_length] at hW
      refine ⟨_, rfl, _, rfl, _, rfl, _, rfl, _, rfl, _, rfl, _, rfl, ?_⟩
      rw [lx] at hc hRp hB
      refine look (i := rs.length) s3 (Nat.le_refl _) hc hp hRp hB fun H4 s4 => ?_
      rw [← hW] at k
      exact k _ (Same.trans s3 s4)
end
end My

/-! replies that are walked -/
namespace My
open PySem L2 Cm LM EM
/-- the words, the kind, away from the jar -/
structure MkJ (j : Addr) (H : Hp) (ma q : Addr) (B E : List Str) (A1 B1 E1 : Str) : Prop where
  ex : ∃ a b0, H ma = some (.tup [.ref a, .ref b0]) ∧ H a = some (.lst (svs B)) ∧ H b0 = some (.lst (svs E)) ∧ ma ≠ j ∧ a ≠ j ∧ b0 ≠ j
  rB : isRound B = true
  rE : isEnding E = true
  kq : H q = some (.lst [.str A1, .str B1, .str E1])
  nq : q ≠ j
  J : Jar H j
theorem MkJ.at {j : Addr} {H : Hp} {ma q : Addr} {B E : List Str} {A1 B1 E1 : Str} (h : MkJ j H ma q B E A1 B1 E1) : MkA j H ma q B E A1 B1 E1 := by
  obtain ⟨a, b, h1, h2, h3, _⟩ := h.ex
  exact ⟨⟨a, b, h1, h2, h3⟩, h.rB, h.rE, h.kq, h.J⟩
theorem MkJ.off {j : Addr} {H H' : Hp} {ma q : Addr} {B E : List Str} {A1 B1 E1 : Str} (o : Off j H H') (J : Jar H' j) (h : MkJ j H ma q B E A1 B1 E1) : MkJ j H' ma q B E A1 B1 E1 := by
  obtain ⟨a, b, h1, h2, h3, n1, n2, n3⟩ := h.ex
  exact ⟨⟨a, b, o _ _ n1 h1, o _ _ n2 h2, o _ _ n3 h3, n1, n2, n3⟩, h.rB, h.rE, o _ _ h.nq h.kq, h.nq, J⟩
theorem MkJ.same {j : Addr} {H H' : Hp} {ma q : Addr} {B E : List Str} {A1 B1 E1 : Str} (s : Same H H') (h : MkJ j H ma q B E A1 B1 E1) : MkJ j H' ma q B E A1 B1 E1 := h.off (Same.off s) (h.J.same s)
theorem opt_len {A B E : Str} (hA : isAm A) (left sz : Nat) (z : 1 ≤ sz) (l : sz ≤ 1000) (hl : left ≤ 1000) : 0 < (optM A B E left sz).length ∧ (optM A B E left sz).length ≤ 1001 := by
  unfold optM
  by_cases l0 : left = 0
  · rw [if_pos l0]
    exact ⟨Nat.one_pos, (show 1 ≤ 1001 by decide)⟩
  · rw [if_neg l0, List.length_append, List.length_map]
    refine ⟨?_, ?_⟩
    · have : 0 < ((List.range (min left sz)).filter fun i => decide (A = "short" ∨ i + 1 = min left sz)).length := by
        refine List.length_pos_iff.mpr (List.ne_nil_of_mem (a := min left sz - 1) (List.mem_filter.mpr ⟨List.mem_range.mpr (by omega), decide_eq_true (.inr (by omega))⟩))
      omega
    · have a : (if B = "waiting" then [((0 : Nat), false)] else []).length ≤ 1 := by split <;> decide
      have b := List.length_filter_le (fun i => decide (A = "short" ∨ i + 1 = min left sz)) (List.range (min left sz))
      rw [List.length_range] at b
      omega
theorem jar_tupK {j : Addr} {H H' : Hp} (o : Off j H H') (hj : Jar H j) : ∀ (p : Addr) (xs : List V), H p = some (.tup xs) → H' p = some (.tup xs) := fun p xs e => o _ _ (fun z => by obtain ⟨a, b, c, h⟩ := hj; rw [z, h] at e; cases e) e
theorem off_free {j p : Addr} {H H' : Hp} (o : Off j H H') (n : H' p = none) (nj : p ≠ j) : H p = none := by
  cases e : H p with
  | none => rfl
  | some u => rw [o _ _ nj e] at n; cases n
theorem Rps.jar {j : Addr} {H H' : Hp} (o : Off j H H') (J : Jar H j) {vs rs} (h : Rps H vs rs) : Rps H' vs rs := h.mono (jar_tupK o J)
section
variable {P : Program} {w : World} {K : PySem.W.Frag} {mg : Str → Option Value} {base : Heap}
def spWk : Sp := fun vs H Q _ => ∃ (j ma q : Addr) (B E : List Str) (A1 B1 E1 : Str) (n sz : Nat), vs = [.ref j, .ref ma, .ref q, .int (n : Nat), .int (sz : Nat)] ∧ MkJ j H ma q B E A1 B1 E1 ∧ isAm A1 ∧ isEn E1 ∧ n ≤ 1000 ∧ 1 ≤ sz ∧ sz ≤ 1000 ∧
  ∀ (H' : Hp) (p : Addr) (tvs : List V) (rs : FJ.Rep), H p = none → Off j H H' → Jar H' j → p ≠ j → H' p = some (.lst tvs) → Rps H' tvs rs → rs.length ≤ 9 → (∀ r ∈ rs, r.1 ≤ sz) → Q (.ref p) H'
abbrev PWk5 : List Str := ["_law_jar_here", "_law_made", "_law_kind_here", "_law_many", "_law_wide"]
abbrev NWk : List Str := ["_law_jar_here", "_law_made", "_law_kind_here", "_law_many", "_law_wide", "_law_left", "_law_box_here", "_law_tale", "_law_turn", "_law_reply"]
theorem scWk : FnScope NWk PWk5 (defScope sWlk) := ⟨rfl, rfl, rfl, by decide +kernel, rfl, by decide +kernel, by decide +kernel⟩
theorem ok_wk (R : TxIp K mg) : FnOk P w K mg base CX0 4 R.wlk.f R.wlk.fd PWk5 spWk := by
  have GO : FnOk P w K mg base CX0 1 R.L.opt.f R.L.opt.fd PO3 spOp := ok_op R.L
  have GI : FnOk P w K mg base CX0 1 R.L.D.sip.f R.L.D.sip.fd ["_law_jar_here", "_law_many"] spSip := gk_sip R.L.D
  have GF : FnOk P w K mg base CX0 2 R.L.D.frm.f R.L.D.frm.fd ["_law_jar_here", "_law_things"] (spFrom K) := gk_from R.L.D
  have GDj : ∀ j, FnOk P w K mg base CX0 3 R.L.B.fed.f R.L.B.fed.fd ["_law_made", "_law_box_here", "_law_many", "_law_said", "_law_wide"] (spFd j) := ok_fd R.L.B
  have GXj : ∀ j, FnOk P w K mg base CX0 1 R.L.B.box.f R.L.B.box.fd [] (spBx j) := ok_bx R.L.B
  refine R.wlk.F.ok scWk (fun vs H Q E h => ?_) (fun cdv A outer s H vs Q E hr h => ?_)
  · obtain ⟨_, _, _, _, _, _, _, _, _, _, rfl, _⟩ := h
    rfl
  · obtain ⟨j, ma, q, B, E', A1, B1, E1, n, sz, rfl, hM, hA, hE, hn1, z1, z2, k⟩ := h
    have hu := hu_of hr
    have hr1 : Room 1 _ := hr.mono (by decide)
    have hr2 : Room 2 _ := hr.mono (by decide)
    have hr3 : Room 3 _ := hr.mono (by decide)
    have GD := GDj j
    have GX := GXj j
    refine ⟨_, (pss_cons (ps_par3 (i := 5) (j := 6) (l := 7) rfl scWk.nd rfl rfl rfl (by decide) (by decide) (by decide) rfl rfl rfl (pa_cons (pv 3) (pa_cons (pe_call0 GX hr1 rfl R.L.B.box.g R.L.B.box.k R.L.B.box.b .nil pass0) (pa_cons (pe_lst pa_nil) pa_nil))) (by rfl)) (pss_cons (ps_for PassesOwn.never rfl (pi_range1 rfl R.L.D.range (pa_cons (pe_call GI hr1 rfl R.L.D.sip.g R.L.D.sip.k R.L.D.sip.b .nil pass0 (pa_cons (pv 0) (pa_cons pe_int pa_nil))) pa_nil)) (pg_name (i := 8) scWk.nd rfl (.inl rfl)) (pss_one (ps_if (pt_not (pt_val (pe_dget hu (pv 6) pe_str (fun _ _ => rfl)))) (C8.pss_cut (ps_set (i := 9) scWk.nd rfl (.inl rfl) (pe_call GF hr2 rfl R.L.D.frm.g R.L.D.frm.k R.L.D.frm.b .nil pass0 (pa_cons (pv 0) (pa_cons (pe_call GO hr1 rfl R.L.opt.g R.L.opt.k R.L.opt.b .nil pass0 (pa_cons (pv 2) (pa_cons (pv 5) (pa_cons (pv 4) pa_nil)))) pa_nil)))) (pss_one (ps_par3 (i := 5) (j := 6) (l := 7) rfl scWk.nd rfl rfl rfl (by decide) (by decide) (by decide) rfl rfl rfl (pa_cons (pe_op op_sub (pv 5) (pe_ix ix_tup (pv 9) pe_int (fun _ _ => rfl))) (pa_cons (pe_call GD hr3 rfl R.L.B.fed.g R.L.B.fed.k R.L.B.fed.b .nil pass0 (pa_cons (pv 1) (pa_cons (pv 6) (pa_cons (pe_ix ix_tup (pv 9) pe_int (fun _ _ => rfl)) (pa_cons (pe_ix ix_tup (pv 9) pe_int (fun _ _ => rfl)) (pa_cons (pv 4) pa_nil)))))) (pa_cons (pe_op op_cat (pv 7) (pe_lst (pa_cons (pv 9) pa_nil))) pa_nil))) (by rfl)))) pss_nil))) (pss_one (ps_ret (pv 7))))), ?_⟩
    have g4 := words4 hM.rB hM.rE
    refine ⟨_, rfl, rfl, hM.J, fun H1 b1 s1 nb1 hB1 => ?_⟩
    refine ⟨Nat.zero_le _, fun l nl => ⟨_, _, _, rfl, ?_⟩⟩
    have u1 := same_new (o := .lst []) nl
    have hM1 := (hM.same s1).same u1
    have lj := jar_ne (hM.same s1).J nl
    refine ⟨_, rfl, j, 10, rfl, hM1.J, by decide, by decide, fun H2 d d0 d1 o2 J2 => ?_⟩
    obtain ⟨m, rfl⟩ := Int.eq_ofNat_of_zero_le d0
    have o02 : Off j H H2 := (Same.off (Same.trans s1 u1)).trans o2
    refine ⟨_, rfl, by omega, by omega, ?_⟩
    rw [show (((m : Nat) : Int)).toNat = m from Int.toNat_natCast m]
    refine for_range (lo := 0) (n := m) (fun i σ H' => ∃ (left : Nat) (b p : Addr) (tvs : List V) (rs : FJ.Rep) (s : CoM.RS') (v8 v9 : Option V), σ = [some (.ref j), some (.ref ma), some (.ref q), some (.int (n : Nat)), some (.int (sz : Nat)), some (.int (left : Nat)), some (.ref b), some (.ref p), v8, v9] ∧ Off j H H' ∧ Jar H' j ∧ left ≤ 1000 ∧ H p = none ∧ p ≠ j ∧ H' p = some (.lst tvs) ∧ Rps H' tvs rs ∧ rs.length ≤ i ∧ (∀ r ∈ rs, r.1 ≤ sz) ∧ BoxJ j H' b s.x s.f s.st ∧ s = FJ.rn sz (ords B) (ords E') rs)
      ⟨n, b1, l, [], [], FJ.s0, none, none, rfl, o02, J2, hn1, s1.free nl, lj, o2 _ _ lj upd_same, .nil, Nat.zero_le _, fun _ h => (nomatch h), (hB1.same u1).off o2 hM1.J, rfl⟩ ?_ ?_
    rotate_left
    · rintro σ H3 ⟨left, b, p, tvs, rs, s', v8, v9, rfl, o3, J3, _, np0, pj, hp, hR, hlr, hc, _⟩
      exact ⟨_, rfl, k H3 p tvs rs np0 o3 J3 pj hp hR (by omega) hc⟩
    rintro i σ H3 hi ⟨left, b, p, tvs, rs, s', v8, v9, rfl, o3, J3, hlf, np0, pj, hp, hR, hlr, hc, hB, es⟩
    obtain ⟨r2, u2, vs2, hd2, hr2', hu2, hP2, nr2, nu2⟩ := id hB.ex
    have hM3 := hM.off o3 J3
    refine ⟨_, rfl, b, _, rfl, get_o hd2, _, rfl, ?_⟩
    cases hst : s'.st with
    | true =>
      rw [hst] at hB
      exact iteF ⟨left, b, p, tvs, rs, s', _, v9, rfl, o3, J3, hlf, np0, pj, hp, hR, by omega, hc, by rw [hst]; exact hB, es⟩
    | false =>
      refine iteT ?_
      -- the reply
      refine ⟨fun σ H' => ∃ (qr : Addr) (r : Nat × Bool), σ = [some (.ref j), some (.ref ma), some (.ref q), some (.int (n : Nat)), some (.int (sz : Nat)), some (.int (left : Nat)), some (.ref b), some (.ref p), some (.int (0 + (i : Nat))), some (.ref qr)] ∧ Off j H3 H' ∧ Jar H' j ∧ H' qr = some (.tup [.int (r.1 : Nat), .bl r.2]) ∧ r ∈ optM A1 B1 E1 left sz, ?_, ?_⟩
      · refine ⟨_, rfl, _, rfl, _, rfl, _, rfl, q, A1, B1, E1, left, sz, rfl, hM3.kq, hlf, z2, fun H4 po xo s4 npo hpo hRo => ?_⟩
        have J4 := J3.same s4
        have poj : po ≠ j := jar_n J3 npo
        obtain ⟨ol1, ol2⟩ := opt_len (B := B1) (E := E1) hA left sz z1 z2 hlf
        have lxo := hRo.len
        refine ⟨j, po, xo, rfl, J4, poj, SqL.of hpo, by omega, by omega, fun H5 ix y hy o5 J5 => ?_⟩
        obtain ⟨qr, r, hr0, rfl, hqr⟩ := hRo.get hy
        exact ⟨qr, r, rfl, (Same.off s4).trans o5, J5, jar_tupK o5 J4 _ _ hqr, List.mem_of_getElem? hr0⟩
      rintro _ H4 ⟨qr, r, rfl, o4, J4, hqr, hmem⟩
      obtain ⟨c1, c2⟩ := opt_le hA hE hmem
      have hM4 := hM3.off o4 J4
      obtain ⟨a4, b04, hma4, ha4, hb04, _⟩ := hM4.ex
      have hB4 := hB.off o4 J3
      have hp4 := o4 _ _ pj hp
      have hR4 := hR.jar o4 J3
      have lt : rs.length ≤ 9 := by omega
      obtain ⟨f1, f2⟩ := rn_few (ro := ords B) (eo := ords E') z1 g4.l1 g4.l2 rs (by omega) hc
      rw [← es] at f1 f2
      have f3 : rs.length * sz ≤ 9 * 1000 := Nat.mul_le_mul lt z2
      rw [hst] at hB4
      refine ⟨_, rfl, _, rfl, qr, _, 0, _, rfl, rfl, SqT.of hqr, rfl, _, _, rfl, rfl, _, rfl, _, rfl, _, rfl, qr, _, 0, _, rfl, rfl, SqT.of hqr, rfl, _, rfl, qr, _, 1, _, rfl, rfl, SqT.of hqr, rfl, _, rfl, ?_⟩
      refine ⟨ma, a4, b04, b, B, E', s'.x, s'.f, false, r.2, r.1, sz, 18 * rs.length, rs.length * 32724, rfl, hma4, ha4, hb04, hM.rB, hM.rE, hB4, J4, z1, z2, c2, by omega, f1, by omega, by omega, fun H5 d s5 nd X5 => ?_⟩
      refine ⟨_, rfl, _, rfl, (by show 1 ≤ sizeLine; decide), fun z nz => ?_⟩
      have u6 := same_new (o := .lst [.ref qr]) nz
      have hp5 := s5 _ _ hp4
      have lp5 := hR4.len
      refine ⟨p, z, _, _, rfl, rfl, u6 _ _ hp5, upd_same, Nat.le_of_lt (szM (by show tvs.length + 1 ≤ _; omega)), fun z2' nz2 => ⟨_, _, _, rfl, ?_⟩⟩
      have u7 := same_new (o := .lst (tvs ++ [.ref qr])) nz2
      have s57 := Same.trans s5 (Same.trans u6 u7)
      have J5 := J4.same s5
      refine ⟨left - r.1, d, z2', tvs ++ [.ref qr], rs ++ [r], CoM.stp sz (ords B) (ords E') s' r, some (.int (0 + (i : Nat))), some (.ref qr), ?_, (o3.trans o4).trans (Same.off s57), J4.same s57, by omega, off_free ((o3.trans o4).trans (Same.off (Same.trans s5 u6))) nz2 (jar_n (J5.same u6) nz2), jar_n (J5.same u6) nz2, upd_same, (hR4.same s57).app (.cons (s57 _ _ hqr) .nil), by rw [List.length_append, List.length_singleton]; omega, fun z hz => ?_, ?_, by rw [es, FJ.rn_snoc]⟩
      · have e3 : ((left - r.1 : Nat) : Int) = ((left : Nat) : Int) - ((r.1 : Nat) : Int) := by omega
        rw [e3]
        rfl
      · rcases List.mem_append.mp hz with hz | hz
        · exact hc z hz
        · rw [List.mem_singleton.mp hz]; exact c2
      · have esp : CoM.stp sz (ords B) (ords E') s' r = ⟨(ansM sz (ords B) (ords E') (itemsL s'.f r.1) r.2 s'.x).1, s'.f + r.1, s'.u + 1, (ansM sz (ords B) (ords E') (itemsL s'.f r.1) r.2 s'.x).2⟩ := by
          unfold CoM.stp
          rw [if_neg (by rw [hst]; decide)]
          rfl
        rw [esp]
        exact (X5.same u6).same u7
end
end My

/-! papers of faults: source_of, shows_fault, form_of, holds -/
namespace My
open PySem L2 Cm LM EM
section
variable {P : Program} {w : World} {K : PySem.W.Frag} {mg : Str → Option Value} {base : Heap}
/-! ### check_name, source_of, is_tuple_of -/
def spCkn : Sp := fun vs H Q _ => ∃ nm : Str, vs = [.str nm] ∧ FJ.Names nm ∧ Q .non H
theorem scCKN : FnScope ["name"] ["name"] (defScope sCKN) := ⟨rfl, rfl, rfl, by decide +kernel, rfl, by decide +kernel, by decide +kernel⟩
theorem ok_ckn (T : TxHf w K mg) : FnOk P w K mg base CX0 1 T.ckn.f T.ckn.fd ["name"] spCkn := by
  refine T.ckn.F.ok scCKN (fun vs H Q E h => ?_) (fun cdv A outer s H vs Q E hr h => ?_)
  · obtain ⟨nm, rfl, _⟩ := h
    rfl
  · obtain ⟨nm, rfl, hn, k⟩ := h
    refine ⟨_, (pss_one (ps_if (PW.pt (pw_or (pt_not (pt_val (pe_callB call_isi (by rfl) T.F.U.k.isi (by decide +kernel) (pa_cons (pv 0) (pa_cons (pe_bltn (v := .ty "str") (by rfl) T.F.U.M.U.str (by decide +kernel) rfl) pa_nil))))) (pw_or1 (pt_cmpR op_notIn_seq (pv 0) (pe_glob (v := .ref T.pN) rfl T.gN rfl) (by rfl))))) (pss_one ps_never) pss_nil)), ?_⟩
    refine ⟨_, rfl, _, _, _, _, true, rfl, .ty "str", .base (.str nm), kit_ty (by decide +kernel), true, rfl, iteF ?_⟩
    refine ⟨_, rfl, T.pN, _, rfl, .inr (T.lN _), rfl, rfl, _, rfl, ?_⟩
    rw [nameN hn]
    exact iteF k
theorem mk_src (U : TxU K mg) {H : Hp} {A B E' : Str} {E : XK} {R : Hp → Prop} {x dx : Addr} (hA : isAm A) (hB : isPa B) (hE : isEn E') (nx : H x = none) (ndx : H dx = none) (q : ∀ (H' : Hp), Same H H' → SrcU U.C H' x A B E' → R H') :
    spUI U.C [.ref x, .str A, .str B, .str E'] (upd (upd H dx (.own x)) x (.ins U.C dx [])) (fun v H2 => v = .non ∧ R H2) E :=
  ⟨x, dx, A, B, E', rfl, hA, hB, hE, upd_same, fun H' o h => ⟨rfl, q H' (made_same nx ndx o) ⟨dx, h⟩⟩⟩
def spSo (C : Addr) : Sp := fun vs H Q _ => ∃ A B E : Str, vs = [.str (kindT A B E)] ∧ isAm A ∧ isPa B ∧ isEn E ∧ ∀ (H' : Hp) (so : Addr), Same H H' → SrcU C H' so A B E → Q (.ref so) H'
abbrev NSo : List Str := ["text", "words", "amount", "patience", "end"]
theorem scSo : FnScope NSo ["text"] (defScope sSo) := ⟨rfl, rfl, rfl, by decide +kernel, rfl, by decide +kernel, by decide +kernel⟩
theorem ok_so (T : TxHf w K mg) : FnOk P w K mg base CX0 4 T.so.f T.so.fd ["text"] (spSo T.F.U.M.U.C) := by
  have GU : FnOk P w K mg base CX0 2 T.F.U.M.U.fI T.F.U.M.U.fdI ["self", "amount", "patience", "end"] (spUI T.F.U.M.U.C) := ok_ui T.F.U.M.U
  refine T.so.F.ok scSo (fun vs H Q E h => ?_) (fun cdv A outer s H vs Q E hr h => ?_)
  · obtain ⟨A, B, E', rfl, _⟩ := h
    rfl
  · obtain ⟨A1, B1, E1, rfl, hA, hB, hE, k⟩ := h
    obtain ⟨es, ln⟩ := kind_split hA hB hE
    have hr3 : Room (2 + 1) _ := hr.mono (by decide)
    refine ⟨_, (pss_cons (ps_set (i := 1) scSo.nd rfl (.inl rfl) (pe_ifExp (pt_val (pe_callB call_isi (by rfl) T.F.U.k.isi (by decide +kernel) (pa_cons (pv 0) (pa_cons (pe_bltn (v := .ty "str") (by rfl) T.F.U.M.U.str (by decide +kernel) rfl) pa_nil)))) (pe_split (pv 0) pe_str) (pe_lst pa_nil))) (pss_cons (ps_if (pt_cmpR op_ne (pe_callB call_len_seq (by rfl) T.F.N.X.len PySem.boot_len (pa_cons (pv 1) pa_nil)) pe_int (nomark _)) (pss_one ps_never) pss_nil) (pss_cons (ps_asg (pv 1) (pg_lst rfl (pgs_cons (pg_name (i := 2) scSo.nd rfl (.inl rfl)) (pgs_cons (pg_name (i := 3) scSo.nd rfl (.inl rfl)) (pgs_cons (pg_name (i := 4) scSo.nd rfl (.inl rfl)) pgs_nil))))) (pss_one (ps_ret (pe_make T.F.U.M.U.MI GU hr3 rfl T.F.U.M.U.gC T.F.U.M.U.bI .nil pass0 (pa_cons (pv 2) (pa_cons (pv 3) (pa_cons (pv 4) pa_nil))))))))), ?_⟩
    generalize kindT A1 B1 E1 = kt at es ln
    refine ⟨_, rfl, _, _, _, _, true, rfl, .ty "str", .base (.str kt), kit_ty (by decide +kernel), _, rfl, iteT ?_⟩
    refine ⟨_, rfl, ⟨_, rfl⟩, kt, " ", rfl, rfl, by decide +kernel, Nat.le_trans (Nat.add_le_add_right ln 2) (by decide), fun q nq => ?_⟩
    rw [es]
    have s1 := same_new (o := .lst (svs [A1, B1, E1])) nq
    refine ⟨_, rfl, q, _, rfl, .inl (SqL.of upd_same), rfl, _, rfl, iteF ?_⟩
    refine ⟨_, rfl, q, _, rfl, SqL.of upd_same, rfl, _, _, rfl, _, _, rfl, _, _, rfl, rfl, ?_⟩
    refine ⟨_, rfl, _, rfl, _, rfl, ?_⟩
    exact fun x dx nx ndx nex => mk_src T.F.U.M.U hA hB hE nx ndx fun H2 s2 hx => k H2 x (Same.trans s1 s2) hx
def spITO : Sp := fun vs H Q _ => ∃ (a : Addr) (xs : List V) (n : Nat), vs = [.ref a, .int (n : Nat)] ∧ H a = some (.tup xs) ∧ Q (.bl (decide (xs.length = n))) H
theorem scITO : FnScope ["value", "many"] ["value", "many"] (defScope sITO) := ⟨rfl, rfl, rfl, by decide +kernel, rfl, by decide +kernel, by decide +kernel⟩
theorem ok_ito (T : TxHf w K mg) : FnOk P w K mg base CX0 1 T.ito.f T.ito.fd ["value", "many"] spITO := by
  refine T.ito.F.ok scITO (fun vs H Q E h => ?_) (fun cdv A outer s H vs Q E hr h => ?_)
  · obtain ⟨a, xs, n, rfl, _⟩ := h
    rfl
  · obtain ⟨a, xs, n, rfl, ha, k⟩ := h
    refine ⟨_, (pss_one (ps_ret (pe_and (pe_callB call_isi (by rfl) T.F.U.k.isi (by decide +kernel) (pa_cons (pv 0) (pa_cons (pe_bltn (v := .ty "tuple") (by rfl) T.tuple (by decide +kernel) rfl) pa_nil))) (pe_one (pe_cmpR op_eq (pe_callB call_len_seq (by rfl) T.F.N.X.len PySem.boot_len (pa_cons (pv 0) pa_nil)) (pv 1) (nomark _)))))), ?_⟩
    refine ⟨_, rfl, _, _, _, _, true, rfl, .ty "tuple", .base (.tup ha), kit_ty (show kitB "tuple" "tuple" = some true by decide +kernel), true, rfl, iteT ⟨_, rfl, a, _, rfl, .inr (SqT.of ha), _, rfl, rfl, ?_⟩⟩
    rw [dI, show decide (((xs.length : Nat) : Int) = ((n : Nat) : Int)) = decide (xs.length = n) from decide_eq_decide.mpr (by omega)]
    exact k
/-! ### shows_fault -/
/-- the word on a paper -/
def dueF (t A B E nm : Str) (n sz : Nat) (rs : FJ.Rep) : Bool := allowsU A B E (sz : Int) (n : Int) rs && FJ.isF sz (ordsR t) (ordsE t) (mustU E 0 0) nm n rs
def Ppr (H : Hp) (vs : List V) (t A B E nm : Str) (n sz : Nat) (xs : List V) : Prop := ∃ c p q : Addr, vs = [.ref c, .ref p] ∧ H c = some (.tup [.str "fault", .str t, .str (kindT A B E), .str nm]) ∧ H p = some (.tup [.int (n : Nat), .int (sz : Nat), .ref q]) ∧ H q = some (.tup xs) ∧ goodText t = true ∧ Bd t ∧ isAm A ∧ isPa B ∧ isEn E ∧ FJ.Names nm ∧ n ≤ 1000 ∧ 1 ≤ sz ∧ sz ≤ 1000
def spSF (T : TxFa w K mg) : Sp := fun vs H Q E => ∃ (t A B En nm : Str) (n sz : Nat) (xs : List V), Ppr H vs t A B En nm n sz xs ∧
  ((100 < xs.length ∧ ∀ (H' : Hp) (d : Addr), Same H H' → H' d = none → E (.ref T.U.k.eR.C) (some d) (upd H' d (.xd [("index", .non)]))) ∨
   ∃ rs : FJ.Rep, Rps H xs rs ∧ rs.length ≤ 100 ∧ rs.length * sz ≤ 100 ∧ (∀ r ∈ rs, r.1 ≤ 1000) ∧ ∀ H', Same H H' → Q (.bl (dueF t A B En nm n sz rs)) H')
abbrev NSF : List Str := ["claim", "paper", "loop", "source", "name", "items", "size", "replies"]
theorem scSF : FnScope NSF ["claim", "paper"] (defScope sSF) := ⟨rfl, rfl, rfl, by decide +kernel, rfl, by decide +kernel, by decide +kernel⟩
theorem ok_sf (T : TxHf w K mg) : FnOk P w K mg base (L2.CX P w) 8 T.sf.f T.sf.fd ["claim", "paper"] (spSF T.F) := by
  have GM : FnOk P w K mg base (L2.CX P w) 4 T.F.N.T.fI T.F.N.T.fdI ["self", "text"] (spLI K T.F.N.T.C T.F.N.T.E.C) := ok_li T.F.N.T
  have GS : FnOk P w K mg base CX0 4 T.so.f T.so.fd ["text"] (spSo T.F.U.M.U.C) := ok_so T
  have GC : FnOk P w K mg base CX0 1 T.ckn.f T.ckn.fd ["name"] spCkn := ok_ckn T
  have GT : FnOk P w K mg base CX0 1 T.ito.f T.ito.fd ["value", "many"] spITO := ok_ito T
  have GA : FnOk P w K mg base (L2.CX P w) 4 T.F.U.al.f T.F.U.al.fd ["self", "items", "size", "replies"] (spUA K T.F.U.M.U.C T.F.U.eI.C T.F.U.k.eS.C T.F.U.k.eR.C) := ok_ua T.F.U
  have GF : FnOk P w K mg base CX0 7 T.isf.f T.isf.fd PF6 (spIsF T.F) := ok_isf T
  refine T.sf.F.okX scSF (fun vs H Q E h => ?_) (fun cdv A outer s H vs Q E hr h => ?_)
  · obtain ⟨_, _, _, _, _, _, _, _, ⟨_, _, _, rfl, _⟩, _⟩ := h
    rfl
  · obtain ⟨t, A1, B1, E1, nm, n, sz, xs, ⟨c, p, q, rfl, hc, hp, hq, gt, bt, hA, hB, hE, hn, n1, z1, z2⟩, hh⟩ := h
    have hr1 : Room 1 _ := hr.mono (by decide)
    have hr4 : Room 4 _ := hr.mono (by decide)
    have hr5 : Room (4 + 1) _ := hr.mono (by decide)
    have hr7 : Room 7 _ := hr.mono (by decide)
    refine ⟨_, (pss_cons (ps_set (i := 2) scSF.nd rfl (.inl rfl) (pe_make T.F.N.T.MI GM hr5 rfl T.F.N.T.gC T.F.N.T.bI .nil pass_none (pa_cons (pe_ix ix_tup (pv 0) pe_int (fun _ _ => rfl)) pa_nil))) (pss_cons (ps_set (i := 3) scSF.nd rfl (.inl rfl) (pe_call GS hr4 rfl T.so.g T.so.k T.so.b .nil pass0 (pa_cons (pe_ix ix_tup (pv 0) pe_int (fun _ _ => rfl)) pa_nil))) (pss_cons (ps_set (i := 4) scSF.nd rfl (.inl rfl) (pe_ix ix_tup (pv 0) pe_int (fun _ _ => rfl))) (pss_cons (ps_expr (pe_call GC hr1 rfl T.ckn.g T.ckn.k T.ckn.b .nil pass0 (pa_cons (pv 4) pa_nil))) (pss_cons (ps_if (pt_not (pt_val (pe_call GT hr1 rfl T.ito.g T.ito.k T.ito.b .nil pass0 (pa_cons (pv 1) (pa_cons pe_int pa_nil))))) (pss_one (ps_ret pe_bl)) pss_nil) (pss_cons (ps_asg (pv 1) (pg_tup rfl (pgs_cons (pg_name (i := 5) scSF.nd rfl (.inl rfl)) (pgs_cons (pg_name (i := 6) scSF.nd rfl (.inl rfl)) (pgs_cons (pg_name (i := 7) scSF.nd rfl (.inl rfl)) pgs_nil))))) (pss_one (ps_ret (pe_and (pe_meth (E := E) (pv 3) T.F.U.M.U.cl T.F.U.al.m GA hr4 T.F.U.al.b .nil (passes_call (takes_of rfl rfl rfl rfl) fun _ _ _ _ z => z) (pa_cons (pv 5) (pa_cons (pv 6) (pa_cons (pv 7) pa_nil)))) (pe_one (pe_call GF hr7 rfl T.isf.g T.isf.k T.isf.b .nil pass0 (pa_cons (pv 2) (pa_cons (pv 3) (pa_cons (pv 4) (pa_cons (pv 5) (pa_cons (pv 6) (pa_cons (pv 7) pa_nil))))))))))))))))), ?_⟩
    refine ⟨_, rfl, c, _, 1, _, rfl, rfl, SqT.of hc, rfl, fun x dx nx ndx nex => ?_⟩
    refine ⟨x, dx, _, rfl, upd_same, typed_str _, bt, fun t0 et _ H1 o1 l1 => ⟨rfl, ?_⟩, fun z => absurd (gt.symm.trans z) (by decide)⟩
    cases et
    have s1 : Same H H1 := made_same nx ndx o1
    refine ⟨_, rfl, c, _, 2, _, rfl, rfl, SqT.of (s1 _ _ hc), rfl, A1, B1, E1, rfl, hA, hB, hE, fun H2 so s2 hso => ?_⟩
    have s02 := Same.trans s1 s2
    refine ⟨_, rfl, c, _, 3, _, rfl, rfl, SqT.of (s02 _ _ hc), rfl, _, rfl, nm, rfl, hn, ?_⟩
    refine ⟨_, rfl, p, _, 3, rfl, s02 _ _ hp, _, rfl, iteF ?_⟩
    refine ⟨_, rfl, p, _, rfl, SqT.of (s02 _ _ hp), rfl, _, _, rfl, _, _, rfl, _, _, rfl, rfl, ?_⟩
    obtain ⟨dU, hdU⟩ := id hso
    refine ⟨_, rfl, so, dU, _, rfl, hdU, (by rfl), _, rfl, _, rfl, _, rfl, so, A1, B1, E1, _, _, _, rfl, hso, typed_int _, typed_int _, .inr ⟨n, rfl, n1, .inr ⟨sz, rfl, z1, z2, ?_⟩⟩⟩
    rcases hh with ⟨h100, kE⟩ | ⟨rs, hR, l1', l2', c1, k⟩
    · exact .inl ⟨.inr ⟨q, xs, rfl, s02 _ _ hq, h100⟩, fun d nd => kE _ d s02 nd⟩
    · refine .inr (.inr ⟨q, xs, rs, rfl, s02 _ _ hq, hR.same s02, l1', c1, fun H3 s3 => ⟨_, rfl, ?_⟩⟩)
      have s03 := Same.trans s02 s3
      cases ha : allowsU A1 B1 E1 (sz : Int) (n : Int) rs with
      | false =>
        have := k H3 s03
        unfold dueF at this
        rw [ha, Bool.false_and] at this
        exact iteF this
      | true =>
        refine iteT ⟨_, rfl, _, rfl, _, rfl, _, rfl, _, rfl, _, rfl, x, so, q, t, A1, B1, E1, nm, n, sz, xs, rs, rfl, (l1.same s2).same s3, gt, hso.same s3, hn, n1, z1, z2, s03 _ _ hq, hR.same s03, l1', l2', alw_le hA rs n ha, fun H4 s4 => ?_⟩
        have := k H4 (Same.trans s03 s4)
        unfold dueF at this
        rw [ha, Bool.true_and] at this
        exact this
/-! ### form_of -/
def spFo (T : TxHf w K mg) : Sp := fun vs H Q _ => ∃ (c : Addr) (t t' E : Str), vs = [.ref c] ∧ H c = some (.tup [.str "fault", .str t, .str t', .str E]) ∧ Q (.ref T.sf.f) H
theorem scFo : FnScope ["claim"] ["claim"] (defScope sFo) := ⟨rfl, rfl, rfl, by decide +kernel, rfl, by decide +kernel, by decide +kernel⟩
theorem ok_fo (T : TxHf w K mg) : FnOk P w K mg base CX0 2 T.fo.f T.fo.fd ["claim"] (spFo T) := by
  have GT : FnOk P w K mg base CX0 1 T.ito.f T.ito.fd ["value", "many"] spITO := ok_ito T
  obtain ⟨es, nd, D⟩ := He.dicW_ok T.dw
  refine T.fo.F.ok scFo (fun vs H Q E h => ?_) (fun cdv A outer s H vs Q E hr h => ?_)
  · obtain ⟨c, t, t', E', rfl, _⟩ := h
    rfl
  · obtain ⟨c, t, t', E', rfl, hc, k⟩ := h
    refine ⟨_, (pss_cons (ps_if (PW.pt (pw_and (pt_val (pe_call GT hr rfl T.ito.g T.ito.k T.ito.b .nil pass0 (pa_cons (pv 0) (pa_cons pe_int pa_nil)))) (pw_and1 (pt_val (pe_callB call_isi (by rfl) T.F.U.k.isi (by decide +kernel) (pa_cons (pe_ix ix_tup (pv 0) pe_int (fun _ _ => rfl)) (pa_cons (pe_bltn (v := .ty "str") (by rfl) T.F.U.M.U.str (by decide +kernel) rfl) pa_nil))))))) (pss_one (ps_ret (RwR.pe_kget D (pe_glob (v := .ref T.dF) rfl T.gF rfl) (pe_ix ix_tup (pv 0) pe_int (fun _ _ => rfl)) ⟨rfl, rfl, rfl, rfl⟩))) pss_nil) (pss_cons (ps_if (PW.pt (pw_and (pt_val (pe_call GT hr rfl T.ito.g T.ito.k T.ito.b .nil pass0 (pa_cons (pv 0) (pa_cons pe_int pa_nil)))) (pw_and1 (pt_val (pe_callB call_isi (by rfl) T.F.U.k.isi (by decide +kernel) (pa_cons (pe_ix ix_tup (pv 0) pe_int (fun _ _ => rfl)) (pa_cons (pe_bltn (v := .ty "str") (by rfl) T.F.U.M.U.str (by decide +kernel) rfl) pa_nil))))))) (pss_one ps_never) pss_nil) (pss_one (ps_ret pe_non)))), ?_⟩
    refine ⟨_, rfl, c, _, 4, rfl, hc, _, rfl, iteT ?_⟩
    refine ⟨_, rfl, c, _, 0, _, rfl, rfl, SqT.of hc, rfl, _, _, _, _, true, rfl, .ty "str", .base (.str _), kit_ty (show kitB "str" "str" = some true by decide +kernel), _, rfl, iteT ?_⟩
    exact ⟨rfl, _, rfl, c, _, 0, _, rfl, rfl, SqT.of hc, rfl, "fault", _, .ref T.sf.f, rfl, T.nk, rfl, k⟩
/-! ### holds -/
def spHo : Sp := fun vs H Q _ => ∃ (t A B En nm : Str) (n sz : Nat) (xs : List V), Ppr H vs t A B En nm n sz xs ∧
  ((100 < xs.length ∧ ∀ H', Same H H' → Q (.bl false) H') ∨
   ∃ rs : FJ.Rep, Rps H xs rs ∧ rs.length ≤ 100 ∧ rs.length * sz ≤ 100 ∧ (∀ r ∈ rs, r.1 ≤ 1000) ∧ ∀ H', Same H H' → Q (.bl (dueF t A B En nm n sz rs)) H')
theorem scHo : FnScope ["claim", "paper", "form"] ["claim", "paper"] (defScope sHo) := ⟨rfl, rfl, rfl, by decide +kernel, rfl, by decide +kernel, by decide +kernel⟩
theorem ok_ho (T : TxHf w K mg) : FnOk P w K mg base CX0 9 T.ho.f T.ho.fd ["claim", "paper"] spHo := by
  have GF : FnOk P w K mg base CX0 2 T.fo.f T.fo.fd ["claim"] (spFo T) := ok_fo T
  have GS : FnOk P w K mg base (L2.CX P w) 8 T.sf.f T.sf.fd ["claim", "paper"] (spSF T.F) := ok_sf T
  refine T.ho.F.ok scHo (fun vs H Q E h => ?_) (fun cdv A outer s H vs Q E hr h => ?_)
  · obtain ⟨_, _, _, _, _, _, _, _, ⟨_, _, _, rfl, _⟩, _⟩ := h
    rfl
  · obtain ⟨t, A1, B1, E1, nm, n, sz, xs, hP, hh⟩ := h
    obtain ⟨c, p, q, rfl, hc, hrest⟩ := id hP
    have hr2 : Room 2 _ := hr.mono (by decide)
    have hr8 : Room 8 _ := hr.mono (by decide)
    refine ⟨_, pss_cons (ps_set (i := 2) scHo.nd rfl (.inl rfl) (pe_call GF hr2 rfl T.fo.g T.fo.k T.fo.b .nil pass0 (pa_cons (pv 0) pa_nil))) (pss_cons (ps_if (pt_cmpR op_isN (pv 2) pe_non (nomark _)) (pss_one ps_never) pss_nil)
      (pss_one (ps_try_only (X := (cxOf CX0 P w K mg base ["claim", "paper", "form"] "holds" (defScope sHo) T.ho.f cdv A outer s H E).nox) (Wout := fun _ _ _ _ => False) (c := .ref T.CI)
        (tb := fun W D σ H => ∃ (Ech : XK) (c p : Addr), (∀ cls d σ' H', Ech cls d H' → W cls d σ' H') ∧ σ = [some (.ref c), some (.ref p), some (.ref T.sf.f)] ∧ spSF T.F [.ref c, .ref p] H D.rt Ech)
        (ts := fun _ _ _ D σ H => D.rt (.bl false) H)
        rfl rfl ⟨rfl, by decide, .inl T.gI⟩ LamX.takes0
        (fun W pn xe tk _ => ⟨fun pins s2 σ H2 D I ⟨Ech, c, p, hW, h0, h1⟩ => ?_⟩)
        (fun a oe cls d pn _ _ => CmH.ss_imp (pss_one (ps_ret pe_bl)) (fun D σ H h => h))))), ?_⟩
    · subst h0
      refine' PSs.run (?h : PSs _ _ _) pins s2 _ H2 D I ?r
      case h => exact (pss_one (ps_ret (pe_callL (E := Ech) (i := 2) GS hr8 rfl (.inl rfl) T.sf.k T.sf.b .nil (passes_call tk hW) (pa_cons (pv 0) (pa_cons (pv 1) pa_nil)))))
      exact ⟨rfl, _, rfl, _, rfl, h1⟩
    refine ⟨_, rfl, c, t, _, nm, rfl, hc, ?_⟩
    refine ⟨_, rfl, rfl, _, rfl, iteF ?_⟩
    refine ⟨fun cls d H' => cls = .ref T.F.U.k.eR.C ∧ 100 < xs.length ∧ ∃ (H1 : Hp) (d : Addr), Same H H1 ∧ H1 d = none ∧ H' = upd H1 d (.xd [("index", .non)]), c, p, ?_, rfl, t, A1, B1, E1, nm, n, sz, xs, hP, ?_⟩
    · rintro cls d σ' H' ⟨rfl, hx, H1, d1, s1, nd1, rfl⟩
      rcases hh with ⟨_, kF⟩ | ⟨rs, hR, l1, _⟩
      · exact ⟨true, T.xc, fun _ e ne => kF _ (Same.trans s1 (same_new nd1)), fun z => Bool.noConfusion z⟩
      · have := hR.len
        omega
    · rcases hh with ⟨hx, kF⟩ | h
      · exact .inl ⟨hx, fun H' d s' nd => ⟨rfl, hx, H', d, s', nd, rfl⟩⟩
      · exact .inr h
end
end My

/-! f(k = v, ..): a def called by keywords alone -/
namespace FKw
open PySem L2
def tCallK0 (sp : Sp) (gV : List V → List V → List V) (E : XK) (tk : TA) : TE := fun σ H Q => tk σ H fun zs H2 => sp (gV [] zs) H2 Q E
theorem pe_callK0 {X : Cx} {CX : CXT} {k : Nat} {f : Addr} {fd : FuncData} {ps ks : List Str} {sp : Sp} {E : XK} {x : Str} {p pos : Pos} {kws : List Keyword} {tk : TA} {g : List Value → List Value → List Value} {gV : List V → List V → List V}
    (F : FnOk X.prog X.w X.K X.mg X.base CX k f fd ps sp) (hr : Room k X.A) (hg : Gl X x) (hm : X.mg x = some (.ref f)) (hk : PySem.W.keepIn X.K (.ref f) = true) (hb : KBinds X.K fd ps ks g gV) (hx : Passes CX X E) (hkw : PK X kws tk)
    (hall : (backToKw pos (keywordEach kws X.env)).all (·.1.isSome) = true := by rfl) (hks : (backToKw pos (keywordEach kws X.env)).filterMap (·.1) = ks := by rfl) (hdb : (x == ("__debug__" : Str)) = false := by decide)
    (hpl : ((backTo pos (starEach [] X.env)).any (·.1) || (backToKw pos (keywordEach kws X.env)).any (·.1.isNone)) = false := by rfl) :
    PE X (.Call (.Name x p) [] kws pos) (tCallK0 sp gV E tk) := by
  refine ⟨fun pins s σ H Q I h => ?_⟩
  refine wpAny_Call_Name_kw (ld_glob I hg hm ?_ hdb)
  refine PySem.W.callWith_KW0 (first := []) (h₀ := X.base) I.ok.mod.kin hk hall ?_ hpl
  refine thn (hkw.run pos pins s σ H _ I h) fun ws s2 ⟨zs, H2, I2, rz, q2⟩ => ⟨I2.kIn, ?_⟩
  rw [hks]
  exact run_fnk (us := []) (vs := []) F hr hb hx I2 .nil rz q2
end FKw

/-! is, is not of two bools -/
namespace IsB
open PySem PySem.Spec PyProof.Rows L2
section
variable {X : Cx}
theorem op_isB : OpR X (compareOp .Is) (fun x y H Q => ∃ a b : Bool, x = .bl a ∧ y = .bl b ∧ Q (.bl (decide (a = b))) H) := by
  intro pins s σ H x y v u Q I rx ry h
  obtain ⟨a, b, rfl, rfl, q⟩ := h
  cases (show v = Value.bool a from rx)
  cases (show u = Value.bool b from ry)
  exact wpAny_is_plain (by cases a <;> cases b <;> rfl) (fin_bl I q (by cases a <;> cases b <;> rfl))
theorem op_isnotB : OpR X (compareOp .IsNot) (fun x y H Q => ∃ a b : Bool, x = .bl a ∧ y = .bl b ∧ Q (.bl (!decide (a = b))) H) := by
  intro pins s σ H x y v u Q I rx ry h
  obtain ⟨a, b, rfl, rfl, q⟩ := h
  cases (show v = Value.bool a from rx)
  cases (show u = Value.bool b from ry)
  exact wpAny_isNot_plain (by cases a <;> cases b <;> rfl) (fin_bl I q (by cases a <;> cases b <;> rfl))
end
end IsB

/-! shown data as data: code points, lengths -/
namespace SkT
open PySem
theorem ok_of (s : String) : PyData.strOk (Str.ofString s) = true := by
  unfold PyData.strOk
  rw [Str.ofString_eq_toList, List.all_toArray, List.all_eq_true]
  intro n hn
  obtain ⟨c, _, rfl⟩ := List.mem_map.mp hn
  refine decide_eq_true ?_
  have := c.valid
  unfold Char.toNat
  rcases this with h | h
  · exact Nat.lt_trans h (by decide)
  · exact h.2
theorem ok_app {a b : Str} (h1 : PyData.strOk a = true) (h2 : PyData.strOk b = true) : PyData.strOk (a ++ b) = true := by
  unfold PyData.strOk at h1 h2 ⊢
  show (a.cps ++ b.cps).all _ = true
  rw [Array.all_append, h1, h2]
  rfl
theorem ok_join {sep : Str} (hs : PyData.strOk sep = true) : ∀ {ts : List Str}, (∀ t ∈ ts, PyData.strOk t = true) → PyData.strOk (Str.join sep ts) = true
  | [], _ => (by decide +kernel : PyData.strOk Str.empty = true)
  | [x], h => h x List.mem_cons_self
  | x :: y :: r, h => ok_app (ok_app (h x List.mem_cons_self) hs) (ok_join hs fun t ht => h t (List.mem_cons_of_mem _ ht))
theorem ok_from : ∀ {ts : List Str} {k : Nat} {acc : Str}, PyData.strOk acc = true → (∀ t ∈ ts, PyData.strOk t = true) → PyData.strOk (textFrom k acc ts) = true
  | [], _, _, ha, _ => ha
  | t :: r, k, acc, ha, h => by
    rw [textFrom]
    exact ok_from (ok_app (ok_app ha (ok_of _)) (h t List.mem_cons_self)) fun x hx => h x (List.mem_cons_of_mem _ hx)
theorem ok_list {ts : List Str} (h : ∀ t ∈ ts, PyData.strOk t = true) : PyData.strOk (listText ts) = true := ok_app (ok_from (ok_of _) h) (ok_of _)
theorem ok_tup {ts : List Str} (h : ∀ t ∈ ts, PyData.strOk t = true) : PyData.strOk (tupleText ts) = true := ok_app (ok_app (ok_of _) (ok_join (ok_of _) h)) (ok_of _)
theorem join_le : ∀ ts : List Str, (Str.join ", " ts).length ≤ (ts.map fun t => t.length + 2).sum
  | [] => Nat.le_refl _
  | [x] => by
    show x.length ≤ _
    simp
  | x :: y :: r => by
    show (x ++ ", " ++ Str.join ", " (y :: r)).length ≤ _
    rw [strLen_append, strLen_append, show (", " : Str).length = 2 by decide +kernel]
    have := join_le (y :: r)
    rw [List.map_cons, List.sum_cons]
    omega
theorem tup_le (ts : List Str) : (tupleText ts).length ≤ (ts.map fun t => t.length + 2).sum + 3 := by
  unfold tupleText
  rw [strLen_append, strLen_append, show ("(" : Str).length = 1 by decide +kernel]
  have := join_le ts
  have : (Str.ofString (if ts.length == 1 then ",)" else ")" : String)).length ≤ 2 := by
    split
    · decide +kernel
    · decide +kernel
  omega
theorem from_le : ∀ (ts : List Str) (k : Nat) (acc : Str), (textFrom k acc ts).length ≤ acc.length + (ts.map fun t => t.length + 2).sum
  | [], _, _ => by simp [textFrom]
  | t :: r, k, acc => by
    rw [textFrom]
    have ih := from_le r (k + 1) (acc ++ (if k > 0 then ", " else "" : String) ++ t)
    rw [strLen_append, strLen_append] at ih
    have : (Str.ofString (if k > 0 then ", " else "" : String)).length ≤ 2 := by
      split
      · decide +kernel
      · decide +kernel
    rw [List.map_cons, List.sum_cons]
    omega
theorem list_le (ts : List Str) : (listText ts).length ≤ (ts.map fun t => t.length + 2).sum + 2 := by
  unfold listText
  rw [strLen_append, show ("]" : Str).length = 1 by decide +kernel]
  have := from_le ts 0 "["
  rw [show ("[" : Str).length = 1 by decide +kernel] at this
  omega
/-- data that can be shown; n bounds its text, k its depth -/
structure Sw (n k : Nat) (d : PyData) : Prop where
  sh : d.showable = true
  dp : d.depth ≤ k
  ln : d.shown.length ≤ n
  ok : PyData.strOk d.shown = true
theorem Sw.mono {n m k j : Nat} {d : PyData} (h : Sw n k d) (a : n ≤ m) (b : k ≤ j) : Sw m j d := ⟨h.sh, Nat.le_trans h.dp b, Nat.le_trans h.ln a, h.ok⟩
theorem sw_all {n k : Nat} : ∀ {ds : List PyData}, (∀ x ∈ ds, Sw n k x) → PyData.showableAll ds = true ∧ PyData.depthAll ds ≤ k ∧ ((PyData.shownAll ds).map fun t => t.length + 2).sum ≤ (n + 2) * ds.length ∧ ∀ t ∈ PyData.shownAll ds, PyData.strOk t = true
  | [], _ => ⟨rfl, by simp [PyData.depthAll], by simp [PyData.shownAll], fun t h => by simp [PyData.shownAll] at h⟩
  | d :: r, h => by
    obtain ⟨a, b, c, e⟩ := sw_all (ds := r) fun x hx => h x (List.mem_cons_of_mem _ hx)
    have hd := h d List.mem_cons_self
    refine ⟨?_, ?_, ?_, ?_⟩
    · rw [PyData.showableAll, a, hd.sh]; rfl
    · rw [PyData.depthAll]; exact Nat.max_le.mpr ⟨hd.dp, b⟩
    · rw [PyData.shownAll, List.map_cons, List.sum_cons, List.length_cons, Nat.mul_succ]
      have := hd.ln
      omega
    · intro t ht
      rw [PyData.shownAll] at ht
      rcases List.mem_cons.mp ht with rfl | z
      · exact hd.ok
      · exact e t z
theorem sw_tup {n k : Nat} {ds : List PyData} (h : ∀ x ∈ ds, Sw n k x) : Sw ((n + 2) * ds.length + 3) (k + 1) (.tuple ds) := by
  obtain ⟨a, b, c, e⟩ := sw_all h
  refine ⟨by rw [PyData.showable]; exact a, by rw [PyData.depth]; omega, ?_, ?_⟩
  · rw [PyData.shown]
    exact Nat.le_trans (tup_le _) (by omega)
  · rw [PyData.shown]
    exact ok_tup e
theorem sw_lst {n k : Nat} {ds : List PyData} (h : ∀ x ∈ ds, Sw n k x) : Sw ((n + 2) * ds.length + 2) (k + 1) (.list ds) := by
  obtain ⟨a, b, c, e⟩ := sw_all h
  refine ⟨by rw [PyData.showable]; exact a, by rw [PyData.depth]; omega, ?_, ?_⟩
  · rw [PyData.shown]
    exact Nat.le_trans (list_le _) (by omega)
  · rw [PyData.shown]
    exact ok_list e
theorem log_nat {n : Nat} (h : n < 10 ^ 20) : (n : Nat).log2 < 1920 := by
  by_cases h0 : n = 0
  · rw [h0]; decide
  · exact Nat.lt_of_lt_of_le ((Nat.log2_lt h0).mpr (Nat.lt_of_lt_of_le h (show 10 ^ 20 ≤ 2 ^ 70 by decide))) (by decide)
theorem sw_int {i : Int} {n : Nat} (h : i.natAbs < 10 ^ 20) (hl : (PyData.shown (.int i)).length ≤ n) : Sw n 0 (.int i) := ⟨by simp only [PyData.showable, decide_eq_true_eq]; exact log_nat h, by simp [PyData.depth], hl, ok_of _⟩
theorem sw_bl (b : Bool) : Sw 5 0 (.bool b) := by cases b <;> exact ⟨rfl, by simp [PyData.depth], by decide +kernel, by decide +kernel⟩
theorem sw_non : Sw 4 0 .none := ⟨rfl, by simp [PyData.depth], by decide +kernel, by decide +kernel⟩
/-- two rows of two words as data -/
theorem shaped2 {a b : Str} (h1 : PyData.strOk a = true) (h2 : PyData.strOk b = true) : SeqAt.shaped (.list [.str a, .str b]) = true := by
  unfold SeqAt.shaped
  simp [PyData.canLay0, PyData.canLayAll0, h1, h2, PyData.depth, PyData.depthAll]
theorem shaped3 {a b : Str} {c : Bool} (h1 : PyData.strOk a = true) (h2 : PyData.strOk b = true) : SeqAt.shaped (.list [.str a, .str b, .bool c]) = true := by
  unfold SeqAt.shaped
  simp [PyData.canLay0, PyData.canLayAll0, h1, h2, PyData.depth, PyData.depthAll]
end SkT

/-! repr of any plain data, also behind a caught error; the types of plain data; slices of lists of counts -/
namespace RpA
open PySem L2 Gd
theorem ext_same {H H' : Hp} (s : Same H H') : LamX.ExtN H H' := fun b o e _ => s b o e
mutual
theorem dq_ext {H H' : Hp} (s : LamX.ExtN H H') : ∀ {v : V} {d : PyData}, Dq H v d → Dq H' v d
  | _, _, .non => .non
  | _, _, .bl b => .bl b
  | _, _, .int i => .int i
  | _, _, .str x => .str x
  | _, _, .lst ha hd => .lst (s _ _ ha (by intro ps z; cases z)) (dqa_ext s hd)
  | _, _, .tup ha hd => .tup (s _ _ ha (by intro ps z; cases z)) (dqa_ext s hd)
  | _, _, .dct ha => .dct (s _ _ ha (by intro ps z; cases z))
theorem dqa_ext {H H' : Hp} (s : LamX.ExtN H H') : ∀ {vs : List V} {ds : List PyData}, DqA H vs ds → DqA H' vs ds
  | _, _, .nil => .nil
  | _, _, .cons a b => .cons (dq_ext s a) (dqa_ext s b)
end
theorem dqa_app {H : Hp} : ∀ {vs ws : List V} {ds es : List PyData}, DqA H vs ds → DqA H ws es → DqA H (vs ++ ws) (ds ++ es)
  | _, _, _, _, .nil, b => b
  | _, _, _, _, .cons a t, b => .cons a (dqa_app t b)
theorem dqa_len {H : Hp} : ∀ {vs : List V} {ds : List PyData}, DqA H vs ds → vs.length = ds.length
  | _, _, .nil => rfl
  | _, _, .cons _ t => by rw [List.length_cons, List.length_cons, dqa_len t]
theorem dqa_mem {H : Hp} : ∀ {vs : List V} {ds : List PyData}, DqA H vs ds → ∀ x ∈ vs, ∃ d ∈ ds, Dq H x d
  | _, _, .nil, _, h => nomatch h
  | _, _, .cons a t, x, h => by
    rcases List.mem_cons.mp h with rfl | z
    · exact ⟨_, List.mem_cons_self, a⟩
    · obtain ⟨d, m, q⟩ := dqa_mem t x z
      exact ⟨d, List.mem_cons_of_mem _ m, q⟩
/-- the name of the type -/
def tyN : PyData → String
  | .none => "NoneType"
  | .bool _ => "bool"
  | .int _ => "int"
  | .str _ => "str"
  | .list _ => "list"
  | .tuple _ => "tuple"
  | .dict _ => "dict"
theorem dq_ty {K : PySem.W.Frag} {H : Hp} {v : V} {d : PyData} (q : Dq H v d) : TyX K H v (.type (tyN d)) := by
  cases q with
  | non => exact .base .non
  | bl b => exact .base (.bl b)
  | int i => exact .base (.int i)
  | str x => exact .base (.str x)
  | lst h _ => exact .base (.lst h)
  | tup h _ => exact .base (.tup h)
  | dct h => exact .base (.dK h)
/-- repr of such data -/
def rReprA : List V → Hp → VK → Prop := fun xs H Q => ∃ (v : V) (d : PyData) (n : Nat), xs = [v] ∧ Dq H v d ∧ SkT.Sw n 64 d ∧ n ≤ sizeLine ∧ Q (.str d.shown) H
theorem call_reprA {X : Cx} {ob : Obj} (hg : X.A.guards = some []) (hu : X.A.units + 66 < cLine) (sm : X.base.get? sysModules = some ob) : CallR X (.builtin "repr") rReprA := by
  intro pins s σ H xs us Q I r h
  obtain ⟨v, d, n, rfl, hd, hs, hn, q⟩ := h
  obtain ⟨u, rfl, ru⟩ := vals1 r
  have ref : ∀ a, v = .ref a → wpAny (model X.prog X.w) X.A (PySem.call (.builtin "repr") [u]) (fun u' s' => ∃ (v' : V) (H' : Hp), Inv X pins σ H' s' ∧ RelV v' u' ∧ Q v' H') X.xe s := fun a e => by
    subst e
    cases (show u = Value.ref a from ru)
    obtain ⟨as, h1, h2⟩ := hd.reads I (u := .ref a) rfl
    have no : sysModules ∉ as := fun hm => h2 _ hm (I.env0.bs _ _ sm).2
    have := hs.dp
    refine repr_of_reads' h1 hs.sh (fun _ => no) hg (by omega) (fun _ _ e => e) (fun h' u tk hk => ?_) (Nat.le_trans hs.ln hn)
    exact ⟨.str d.shown, H, I.kept (t' := tk) hk, ⟨_, rfl⟩, q⟩
  cases hd with
  | non =>
    cases ru
    exact PySem.P.repr_of_none ⟨.str _, H, I.tok _, ⟨_, rfl⟩, q⟩
  | bl b =>
    cases ru
    exact PySem.P.repr_of_bool ⟨.str _, H, I.tok _, ⟨_, rfl⟩, q⟩
  | int i =>
    obtain ⟨t, rfl⟩ := ru
    exact PySem.P.repr_of_int (by have := hs.sh; simpa [PyData.showable] using this) ⟨.str _, H, I.tok _, ⟨_, rfl⟩, q⟩
  | str x =>
    obtain ⟨t, rfl⟩ := ru
    exact PySem.P.repr_of_str ⟨.str _, H, I.tok _, ⟨_, rfl⟩, q⟩ (Nat.le_trans hs.ln hn)
  | lst ha hd => exact ref _ rfl
  | tup ha hd => exact ref _ rfl
  | dct ha => exact ref _ rfl
theorem sl_from {K : PySem.W.Frag} {Q : VK} {H : Hp} {l : Addr} {vs : List V} {n : Int} {k : Nat} (hl : H l = some (.lst vs)) (e : n = (k : Nat)) (h : ∀ z, H z = none → ∀ H', Same H H' → H' z = some (.lst (vs.drop k)) → Q (.ref z) H') : rSlL K (.ref l) (some n) none H Q := by
  refine ⟨l, vs, rfl, SqL.of hl, fun z nz => ?_⟩
  rw [e, Cm.cut_from]
  exact h z nz _ (fun b o q => by rw [upd_ne (ne_of_none q nz)]; exact q) upd_same
theorem sl_to {K : PySem.W.Frag} {Q : VK} {H : Hp} {l : Addr} {vs : List V} {n : Int} {k : Nat} (hl : H l = some (.lst vs)) (e : n = (k : Nat)) (hk : k ≤ vs.length) (h : ∀ z, H z = none → ∀ H', Same H H' → H' z = some (.lst (vs.take k)) → Q (.ref z) H') : rSlL K (.ref l) none (some n) H Q := by
  refine ⟨l, vs, rfl, SqL.of hl, fun z nz => ?_⟩
  rw [e, Cm.cut_to _ _ hk]
  exact h z nz _ (fun b o q => by rw [upd_ne (ne_of_none q nz)]; exact q) upd_same
theorem cat {Q : VK} {H : Hp} {p r : Addr} {xs ys : List V} (hp : H p = some (.lst xs)) (hr : H r = some (.lst ys)) (hl : xs.length + ys.length ≤ sizeLine) (k : ∀ z, H z = none → ∀ H', Same H H' → H' z = some (.lst (xs ++ ys)) → Q (.ref z) H') : rCat (.ref p) (.ref r) H Q :=
  ⟨p, r, xs, ys, rfl, rfl, hp, hr, hl, fun z nz => k z nz _ (fun b o q => by rw [upd_ne (ne_of_none q nz)]; exact q) upd_same⟩
end RpA

namespace My
open PySem L2 Cm LM EM
abbrev sLim : Stmt := top 139
abbrev sRight : Stmt := top 140
def gK0 (us ws : List Value) : List Value := match us, ws with | [], [i, c] => [c, i] | _, _ => []
def gK0V (us ws : List V) : List V := match us, ws with | [], [i, c] => [c, i] | _, _ => []
theorem gK0_rel {vs zs : List V} {us ws : List Value} (h1 : Vals vs us) (h2 : Vals zs ws) : Vals (gK0V vs zs) (gK0 us ws) := by
  cases h1 with
  | nil =>
    cases h2 with
    | nil => exact .nil
    | cons a t =>
      cases t with
      | nil => exact .nil
      | cons b t2 =>
        cases t2 with
        | nil => exact .cons b (.cons a .nil)
        | cons _ _ => exact .nil
  | cons _ _ => exact .nil
structure TxR (w : World) (K : PySem.W.Frag) (mg : Str → Option Value) where
  H : TxHf w K mg
  I : TxIp K mg
  repr : mg "repr" = none
  max : mg "max" = none
  KF : KBinds K H.ho.fd ["claim", "paper"] ["paper", "claim"] gK0 gK0V
  lim : Df K mg "_law_limit_right" sLim []
theorem rep_rps {H : Hp} {z : Addr} (h : H z = some (.tup [.int (0 : Nat), .bl false])) : ∀ n : Nat, Rps H ((List.replicate n [V.ref z]).flatten) (List.replicate n ((0 : Nat), false))
  | 0 => .nil
  | n + 1 => by
    rw [List.replicate_succ, List.replicate_succ, List.flatten_cons]
    exact .cons h (rep_rps h n)
def limR : FJ.Rep := List.replicate 99 (0, false) ++ [(1, false)]
theorem lim_due : dueF "ask" "exact" "waiting" "empty" "ends" 1 1 limR = true := by decide +kernel
theorem ord_rounds {B E : List Str} (rB : isRound B = true) (rE : isEnding E = true) : ordsR (textOf B E) = ords B ∧ ordsE (textOf B E) = ords E := by
  have tw := text_words rB rE
  unfold ordsR ordsE
  rw [tw.1, tw.2]
  exact ⟨rfl, rfl⟩
/-- both words on a paper of a drawn loop -/
theorem due_is {B E : List Str} {A1 B1 E1 nm : Str} (hA : isAm A1) (hE : isEn E1) (hn : FJ.Names nm) (n sz : Nat) (rs : FJ.Rep) (rB : isRound B = true) (rE : isEnding E = true) : dueF (textOf B E) A1 B1 E1 nm n sz rs = isPL B E A1 B1 E1 nm n sz rs := by
  have g := text_good rB rE
  obtain ⟨e1, e2⟩ : ordsR (textOf B E) = ords B ∧ ordsE (textOf B E) = ords E := by
    obtain ⟨a, b⟩ := ord_rounds rB rE
    exact ⟨a, b⟩
  unfold dueF isPL
  rw [FJ.is_paper (te0 := decide (E1 ≠ "empty")) (opt_zero A1 B1 E1 sz) (fun l r h => (opt_le hA hE h).1) hn, alw_eq hA hE, e1, e2]
  congr 2
  rcases hE with rfl | rfl | rfl <;> decide +kernel
section
variable {P : Program} {w : World} {K : PySem.W.Frag} {mg : Str → Option Value} {base : Heap}
def spLim : Sp := fun vs H Q _ => vs = [] ∧ ∀ H', Same H H' → Q (.bl true) H'
theorem scLim : FnScope ["_law_claim_here", "_law_many"] [] (defScope sLim) := ⟨rfl, rfl, rfl, by decide +kernel, rfl, by decide +kernel, by decide +kernel⟩
theorem ok_lim (R : TxR w K mg) : FnOk P w K mg base CX0 10 R.lim.f R.lim.fd [] spLim := by
  have GH : FnOk P w K mg base CX0 9 R.H.ho.f R.H.ho.fd ["claim", "paper"] spHo := ok_ho R.H
  refine R.lim.F.ok scLim (fun vs H Q E h => ?_) (fun cdv A outer s H vs Q E hr h => ?_)
  · obtain ⟨rfl, _⟩ := h
    rfl
  · obtain ⟨rfl, k⟩ := h
    have hr9 : Room 9 _ := hr.mono (by decide)
    refine ⟨_, (pss_cons (ps_par (i := 0) (j := 1) rfl scLim.nd rfl rfl (by decide) rfl rfl (pa_cons (pe_tup (pa_cons pe_str (pa_cons pe_str (pa_cons pe_str (pa_cons pe_str pa_nil))))) (pa_cons (pe_op op_cat (pe_op op_rep (pe_lst (pa_cons (pe_tup (pa_cons pe_int (pa_cons pe_bl pa_nil))) pa_nil)) pe_int) (pe_lst (pa_cons (pe_tup (pa_cons pe_int (pa_cons pe_bl pa_nil))) pa_nil))) pa_nil)) (by rfl)) (pss_cons (ps_if (pt_cmpR IsB.op_isnotB (pe_call GH hr9 rfl R.H.ho.g R.H.ho.k R.H.ho.b .nil pass0 (pa_cons (pv 0) (pa_cons (pe_tup (pa_cons pe_int (pa_cons pe_int (pa_cons (pe_callTy call_tuple_of (by rfl) R.H.tuple (by decide +kernel) (pa_cons (pv 1) pa_nil)) pa_nil)))) pa_nil))) pe_bl (nomark _)) (pss_one (ps_ret pe_bl)) pss_nil) (pss_one (ps_ret (pe_cmpR IsB.op_isB (pe_call GH hr9 rfl R.H.ho.g R.H.ho.k R.H.ho.b .nil pass0 (pa_cons (pv 0) (pa_cons (pe_tup (pa_cons pe_int (pa_cons pe_int (pa_cons (pe_callTy call_tuple_of (by rfl) R.H.tuple (by decide +kernel) (pa_cons (pe_op op_cat (pe_lst (pa_cons (pe_tup (pa_cons pe_int (pa_cons pe_bl pa_nil))) pa_nil)) (pv 1)) pa_nil)) pa_nil)))) pa_nil))) pe_bl (nomark _)))))), ?_⟩
    have ek : kindT "exact" "waiting" "empty" = "exact waiting empty" := by decide +kernel
    refine ⟨(by show 4 ≤ sizeLine; decide), fun c nc => ?_⟩
    have u1 := same_new (o := .tup [.str "fault", .str "ask", .str "exact waiting empty", .str "ends"]) nc
    have hc0 : (upd H c (.tup [.str "fault", .str "ask", .str "exact waiting empty", .str "ends"])) c = some (.tup [.str "fault", .str "ask", .str (kindT "exact" "waiting" "empty"), .str "ends"]) := by rw [ek]; exact upd_same
    generalize upd H c (.tup [.str "fault", .str "ask", .str "exact waiting empty", .str "ends"]) = H1 at u1 hc0 ⊢
    refine ⟨(by show 2 ≤ sizeLine; decide), fun z nz => ⟨(by show 1 ≤ sizeLine; decide), fun l nl => ?_⟩⟩
    have u2 := same_new (o := .tup [.int 0, .bl false]) nz
    have u3 := same_new (o := .lst [.ref z]) nl
    refine ⟨l, 99, _, rfl, rfl, upd_same, by decide, by decide, (by show 1 * 99 ≤ sizeLine; decide), fun l2 nl2 => ?_⟩
    have u4 := same_new (o := .lst (List.replicate (99 : Int).toNat [V.ref z]).flatten) nl2
    refine ⟨(by show 2 ≤ sizeLine; decide), fun z2 nz2 => ⟨(by show 1 ≤ sizeLine; decide), fun l3 nl3 => ?_⟩⟩
    have u5 := same_new (o := .tup [.int 1, .bl false]) nz2
    have u6 := same_new (o := .lst [.ref z2]) nl3
    refine ⟨l2, l3, _, _, rfl, rfl, u6 _ _ (u5 _ _ upd_same), upd_same, ?_, fun l4 nl4 => ?_⟩
    · show (List.replicate 99 [V.ref z]).flatten.length + 1 ≤ sizeLine
      rw [List.length_flatten, List.map_replicate, List.sum_replicate_nat]
      show 99 * 1 + 1 ≤ sizeLine
      decide
    have u7 := same_new (o := .lst ((List.replicate (99 : Int).toNat [V.ref z]).flatten ++ [.ref z2])) nl4
    refine ⟨_, _, rfl, ?_⟩
    have s27 := Same.trans u2 (Same.trans u3 (Same.trans u4 (Same.trans u5 (Same.trans u6 u7))))
    have hz : (upd (upd (upd (upd (upd (upd H1 z (.tup [.int 0, .bl false])) l (.lst [.ref z])) l2 (.lst (List.replicate (99 : Int).toNat [V.ref z]).flatten)) z2 (.tup [.int 1, .bl false])) l3 (.lst [.ref z2])) l4 (.lst ((List.replicate (99 : Int).toNat [V.ref z]).flatten ++ [.ref z2]))) z = some (.tup [.int (0 : Nat), .bl false]) := u7 _ _ (u6 _ _ (u5 _ _ (u4 _ _ (u3 _ _ upd_same))))
    have hz2 : (upd (upd (upd (upd (upd (upd H1 z (.tup [.int 0, .bl false])) l (.lst [.ref z])) l2 (.lst (List.replicate (99 : Int).toNat [V.ref z]).flatten)) z2 (.tup [.int 1, .bl false])) l3 (.lst [.ref z2])) l4 (.lst ((List.replicate (99 : Int).toNat [V.ref z]).flatten ++ [.ref z2]))) z2 = some (.tup [.int (1 : Nat), .bl false]) := u7 _ _ (u6 _ _ upd_same)
    have hl4 : (upd (upd (upd (upd (upd (upd H1 z (.tup [.int 0, .bl false])) l (.lst [.ref z])) l2 (.lst (List.replicate (99 : Int).toNat [V.ref z]).flatten)) z2 (.tup [.int 1, .bl false])) l3 (.lst [.ref z2])) l4 (.lst ((List.replicate (99 : Int).toNat [V.ref z]).flatten ++ [.ref z2]))) l4 = some (.lst ((List.replicate 99 [V.ref z]).flatten ++ [.ref z2])) := upd_same
    show tSeq _ _ _ _ (upd (upd (upd (upd (upd (upd H1 z (.tup [.int 0, .bl false])) l (.lst [.ref z])) l2 (.lst (List.replicate (99 : Int).toNat [V.ref z]).flatten)) z2 (.tup [.int 1, .bl false])) l3 (.lst [.ref z2])) l4 (.lst ((List.replicate (99 : Int).toNat [V.ref z]).flatten ++ [.ref z2])))
    generalize upd (upd (upd (upd (upd (upd H1 z (.tup [.int 0, .bl false])) l (.lst [.ref z])) l2 (.lst (List.replicate (99 : Int).toNat [V.ref z]).flatten)) z2 (.tup [.int 1, .bl false])) l3 (.lst [.ref z2])) l4 (.lst ((List.replicate (99 : Int).toNat [V.ref z]).flatten ++ [.ref z2])) = H2 at s27 hz hz2 hl4 ⊢
    clear u2 u3 u4 u5 u6 u7 nz nl nl2 nz2 nl3 nl4
    have hc2 := s27 _ _ hc0
    have hRp : Rps H2 ((List.replicate 99 [V.ref z]).flatten ++ [.ref z2]) limR := (rep_rps hz 99).app (.cons hz2 .nil)
    have lR := hRp.len
    have l100 : limR.length = 100 := by decide +kernel
    have c1000 : ∀ r ∈ limR, r.1 ≤ 1000 := by decide +kernel
    generalize (List.replicate 99 [V.ref z]).flatten ++ [V.ref z2] = xs at hl4 hRp lR
    have names : FJ.Names "ends" := .inr (.inr (.inr (.inr rfl)))
    have ga : goodText "ask" = true := by decide +kernel
    have ba : Bd "ask" := (by decide +kernel : ("ask" : Str).length ≤ 100000)
    -- a hundred replies
    refine ⟨_, rfl, _, rfl, l4, _, rfl, .inl ⟨SqL.of hl4, fun q nq => ?_⟩⟩
    have v1 := same_new (o := .tup xs) nq
    refine ⟨(by show 3 ≤ sizeLine; decide), fun p np => ?_⟩
    have v2 := same_new (o := .tup [.int 1, .int 1, .ref q]) np
    have v12 := Same.trans v1 v2
    refine ⟨"ask", "exact", "waiting", "empty", "ends", 1, 1, xs, ⟨c, p, q, rfl, v12 _ _ hc2, upd_same, v2 _ _ upd_same, ga, ba, .inl rfl, .inr rfl, .inl rfl, names, by decide, by decide, by decide⟩, .inr ⟨limR, hRp.same v12, by omega, by omega, c1000, fun H3 s3 => ?_⟩⟩
    rw [lim_due]
    refine ⟨true, true, rfl, rfl, _, rfl, iteF ?_⟩
    have s03 := Same.trans v12 s3
    have hl5 := s03 _ _ hl4
    have hc3 := s03 _ _ hc2
    -- one more
    refine ⟨_, rfl, (by show 2 ≤ sizeLine; decide), fun z5 nz5 => ⟨(by show 1 ≤ sizeLine; decide), fun l5 nl5 => ?_⟩⟩
    have w1 := same_new (o := .tup [.int 0, .bl false]) nz5
    have w2 := same_new (o := .lst [.ref z5]) nl5
    refine ⟨_, rfl, l5, l4, _, _, rfl, rfl, upd_same, w2 _ _ (w1 _ _ hl5), Nat.le_of_lt (szM (by show 1 + xs.length ≤ _; omega)), fun l6 nl6 => ?_⟩
    have w3 := same_new (o := .lst ([.ref z5] ++ xs)) nl6
    refine ⟨l6, _, rfl, .inl ⟨SqL.of upd_same, fun q6 nq6 => ?_⟩⟩
    have w4 := same_new (o := .tup ([.ref z5] ++ xs)) nq6
    refine ⟨(by show 3 ≤ sizeLine; decide), fun p6 np6 => ?_⟩
    have w5 := same_new (o := .tup [.int 1, .int 1, .ref q6]) np6
    have w15 := Same.trans w1 (Same.trans w2 (Same.trans w3 (Same.trans w4 w5)))
    refine ⟨"ask", "exact", "waiting", "empty", "ends", 1, 1, [.ref z5] ++ xs, ⟨c, p6, q6, rfl, w15 _ _ hc3, upd_same, w5 _ _ upd_same, ga, ba, .inl rfl, .inr rfl, .inl rfl, names, by decide, by decide, by decide⟩, .inl ⟨by rw [List.length_append, List.length_singleton]; omega, fun H7 s7 => ?_⟩⟩
    refine ⟨false, false, rfl, rfl, ?_⟩
    exact k _ (Same.trans u1 (Same.trans s27 (Same.trans s03 (Same.trans w15 s7))))
end
end My

/-! the law's turn -/
namespace My
open PySem L2 Cm LM EM
/-- a row of replies, away from the jar -/
structure TlJ (j : Addr) (H : Hp) (p : Addr) (rs : FJ.Rep) : Prop where
  np : p ≠ j
  ex : ∃ tvs, H p = some (.lst tvs) ∧ Rps H tvs rs
  l : rs.length ≤ 9
  c : ∀ r ∈ rs, r.1 ≤ 1000
theorem TlJ.off {j : Addr} {H H' : Hp} {p : Addr} {rs : FJ.Rep} (o : Off j H H') (J : Jar H j) (h : TlJ j H p rs) : TlJ j H' p rs := by
  obtain ⟨tvs, h1, h2⟩ := h.ex
  exact ⟨h.np, ⟨tvs, o _ _ h.np h1, h2.jar o J⟩, h.l, h.c⟩
theorem TlJ.same {j : Addr} {H H' : Hp} {p : Addr} {rs : FJ.Rep} (s : Same H H') (h : TlJ j H p rs) : TlJ j H' p rs := by
  obtain ⟨tvs, h1, h2⟩ := h.ex
  exact ⟨h.np, ⟨tvs, s _ _ h1, h2.same s⟩, h.l, h.c⟩
/-- rows that begin a row -/
inductive Bgs (H : Hp) : List V → List FJ.Rep → Prop
  | nil : Bgs H [] []
  | cons {p : Addr} {tvs vs : List V} {rs : FJ.Rep} {ws : List FJ.Rep} (h : H p = some (.lst tvs)) (hR : Rps H tvs rs) (t : Bgs H vs ws) : Bgs H (.ref p :: vs) (rs :: ws)
theorem Bgs.same {H H' : Hp} (s : Same H H') : ∀ {vs ws}, Bgs H vs ws → Bgs H' vs ws
  | _, _, .nil => .nil
  | _, _, .cons h hR t => .cons (s _ _ h) (hR.same s) (t.same s)
theorem Bgs.app {H : Hp} : ∀ {vs ws vs2 ws2}, Bgs H vs ws → Bgs H vs2 ws2 → Bgs H (vs ++ vs2) (ws ++ ws2)
  | _, _, _, _, .nil, h => h
  | _, _, _, _, .cons h hR t, h2 => .cons h hR (t.app h2)
theorem Bgs.len {H : Hp} : ∀ {vs ws}, Bgs H vs ws → vs.length = ws.length
  | _, _, .nil => rfl
  | _, _, .cons _ _ t => congrArg (· + 1) t.len
theorem Bgs.get {H : Hp} : ∀ {vs ws} {i : Nat} {y : V}, Bgs H vs ws → vs[i]? = some y → ∃ (p : Addr) (tvs : List V) (rs : FJ.Rep), y = .ref p ∧ H p = some (.lst tvs) ∧ Rps H tvs rs ∧ rs ∈ ws
  | _, _, i, y, .nil, h => by simp at h
  | _, _, 0, y, .cons h hR t, e => ⟨_, _, _, (Option.some.inj e).symm, h, hR, List.mem_cons_self ..⟩
  | _, _, i + 1, y, .cons _ _ t, e => by
    obtain ⟨p, tvs, rs, a, b, c, d⟩ := t.get (i := i) e
    exact ⟨p, tvs, rs, a, b, c, List.mem_cons_of_mem _ d⟩
theorem Bgs.upd {H : Hp} {D : Addr} {x0 x1 : List V} (hD : H D = some (.lst x0)) : ∀ {vs ws}, (∀ v ∈ vs, v ≠ .ref D) → Bgs H vs ws → Bgs (upd H D (.lst x1)) vs ws
  | _, _, _, .nil => .nil
  | _, _, ne, .cons h hR t => .cons (by rw [upd_ne (fun z => ne _ (List.mem_cons_self ..) (by rw [z]))]; exact h) (hR.mono (tup_stays hD (by intro xs z; cases z))) (t.upd hD fun v hv => ne v (List.mem_cons_of_mem _ hv))
theorem Rps.take {H : Hp} : ∀ {vs rs} (k : Nat), Rps H vs rs → Rps H (vs.take k) (rs.take k)
  | _, _, 0, _ => .nil
  | _, _, k + 1, .nil => .nil
  | _, _, k + 1, .cons h t => .cons h (t.take k)
theorem Rps.set {H : Hp} {z : Addr} {r : Nat × Bool} (h : H z = some (.tup [.int (r.1 : Nat), .bl r.2])) : ∀ {vs rs} (k : Nat), Rps H vs rs → Rps H (vs.set k (.ref z)) (rs.set k r)
  | _, _, _, .nil => .nil
  | _, _, 0, .cons _ t => .cons h t
  | _, _, k + 1, .cons a t => .cons a (t.set h k)
def nms : List Str := ["whole", "filled", "even", "quiet", "ends"]
theorem nop9 {σ : L2.St} {H : Hp} {Q : Option Int → Hp → Prop} (h : Q none H) : tNoPart σ H Q := h
theorem nms_get {i : Nat} {y : V} (h : (svs nms)[i]? = some y) : ∃ nm, y = .str nm ∧ FJ.Names nm := by
  match i, h with
  | 0, h => exact ⟨_, (Option.some.inj h).symm, .inl rfl⟩
  | 1, h => exact ⟨_, (Option.some.inj h).symm, .inr (.inl rfl)⟩
  | 2, h => exact ⟨_, (Option.some.inj h).symm, .inr (.inr (.inl rfl))⟩
  | 3, h => exact ⟨_, (Option.some.inj h).symm, .inr (.inr (.inr (.inl rfl)))⟩
  | 4, h => exact ⟨_, (Option.some.inj h).symm, .inr (.inr (.inr (.inr rfl)))⟩
/-- behind a walk -/
def St69 (j ma q : Addr) (tn : V) (B E : List Str) (A1 B1 E1 : Str) (H : Hp) : L2.St → Hp → Prop := fun σ H' => ∃ (N sz : Nat) (p c : Addr) (nm : Str) (rs : FJ.Rep) (v4 v8 v11 v12 v13 : Option V), σ = [some (.ref j), some tn, some (.ref ma), some (.ref q), v4, some (.int (N : Nat)), some (.int (sz : Nat)), some (.ref p), v8, some (.str nm), some (.ref c), v11, v12, v13] ∧ Off j H H' ∧ MkJ j H' ma q B E A1 B1 E1 ∧ TlJ j H' p rs ∧ N ≤ 5 ∧ 1 ≤ sz ∧ sz ≤ 5 ∧ FJ.Names nm ∧ H' c = some (.tup [.str "fault", .str (textOf B E), .str (kindT A1 B1 E1), .str nm])
section
variable {P : Program} {w : World} {K : PySem.W.Frag} {mg : Str → Option Value} {base : Heap}
def tSlT : TE := fun σ H Q => ∃ (p : Addr) (xs : List V) (k : Nat), σ[7]? = some (some (.ref p)) ∧ σ[13]? = some (some (.int (k : Nat))) ∧ H p = some (.lst xs) ∧ k ≤ xs.length ∧ ∀ z, H z = none → Q (.ref z) (upd H z (.lst (xs.take k)))
def spRight : Sp := fun vs H Q _ => ∃ j : Addr, vs = [.ref j] ∧ Jar H j ∧ ∀ H', Off j H H' → Q (.bl true) H'
abbrev NR : List Str := ["_law_jar_here", "_law_turn", "_law_made", "_law_kind_here", "_law_again", "_law_many", "_law_wide", "_law_tale", "_law_at", "_law_prop", "_law_claim_here", "_law_some", "_law_paper_here", "_law_k"]
theorem scRight : FnScope NR ["_law_jar_here"] (defScope sRight) := ⟨rfl, rfl, rfl, by decide +kernel, rfl, by decide +kernel, by decide +kernel⟩
theorem ok_right {f : Addr} {fd : FuncData} (F : Fun K "_law_right" "_law_right" sRight f fd) (R : TxR w K mg) (sm : ∃ ob, base.get? sysModules = some ob) : Gd.FnG P w K mg base CX0 10 f fd ["_law_jar_here"] spRight := by
  have GI : FnOk P w K mg base CX0 1 R.I.L.D.sip.f R.I.L.D.sip.fd ["_law_jar_here", "_law_many"] spSip := gk_sip R.I.L.D
  have GF : FnOk P w K mg base CX0 2 R.I.L.D.frm.f R.I.L.D.frm.fd ["_law_jar_here", "_law_things"] (spFrom K) := gk_from R.I.L.D
  have GO : FnOk P w K mg base CX0 4 R.I.L.D.lop.f R.I.L.D.lop.fd ["_law_jar_here", "_law_most"] spLoop := ok_loop R.I.L.D
  have GN : FnOk P w K mg base CX0 1 R.I.L.D.lin.f R.I.L.D.lin.fd ["_law_begun", "_law_ended"] spLine := ok_line R.I.L.D
  have GK : FnOk P w K mg base CX0 3 R.I.L.knd.f R.I.L.knd.fd ["_law_jar_here"] spKind := ok_kind R.I.L
  have GW : FnOk P w K mg base CX0 4 R.I.wlk.f R.I.wlk.fd PWk5 spWk := ok_wk R.I
  have GP : ∀ j, FnOk P w K mg base CX0 6 R.I.isp.f R.I.isp.fd ["_law_made", "_law_kind_here", "_law_prop", "_law_paper_here"] (spIp j) := ok_ip R.I
  have GH : FnOk P w K mg base CX0 9 R.H.ho.f R.H.ho.fd ["claim", "paper"] spHo := ok_ho R.H
  obtain ⟨ob, sm⟩ := sm
  refine Gd.okG F scRight (fun vs H Q E h => ?_) (fun cdv A outer s H vs Q E _ _ _ hgd hr h => ?_)
  · obtain ⟨j, rfl, _⟩ := h
    rfl
  · obtain ⟨j, rfl, hJ, k⟩ := h
    have hr1 : Room 1 _ := hr.mono (by decide)
    have hr2 : Room 2 _ := hr.mono (by decide)
    have hr3 : Room 3 _ := hr.mono (by decide)
    have hr4 : Room 4 _ := hr.mono (by decide)
    have hr6 : Room 6 _ := hr.mono (by decide)
    have hr9 : Room 9 _ := hr.mono (by decide)
    have GPj := GP j
    have hu : ((cxOf CX0 P w K mg base NR "_law_right" (defScope sRight) f cdv A outer s H E).nox).A.units + 100 < cLine := by
      have := hr.un
      show (A.deeper _).units + 100 < cLine
      omega
    have hu64 : ((cxOf CX0 P w K mg base NR "_law_right" (defScope sRight) f cdv A outer s H E).nox).A.units + 64 < cLine := by omega
    refine ⟨_, (pss_cons (ps_for PassesOwn.never rfl (pi_range1 rfl R.I.L.D.range (pa_cons pe_int pa_nil)) (pg_name (i := 1) scRight.nd rfl (.inl rfl)) (C8.pss_cut (ps_par (i := 2) (j := 3) rfl scRight.nd rfl rfl (by decide) rfl rfl (pa_cons (pe_call GO hr4 rfl R.I.L.D.lop.g R.I.L.D.lop.k R.I.L.D.lop.b .nil pass0 (pa_cons (pv 0) (pa_cons pe_int pa_nil))) (pa_cons (pe_call GK hr3 rfl R.I.L.knd.g R.I.L.knd.k R.I.L.knd.b .nil pass0 (pa_cons (pv 0) pa_nil)) pa_nil)) (by rfl)) (C8.pss_cut (ps_for PassesOwn.never rfl (pi_range1 rfl R.I.L.D.range (pa_cons pe_int pa_nil)) (pg_name (i := 4) scRight.nd rfl (.inl rfl)) (C8.pss_cut (ps_par (i := 5) (j := 6) rfl scRight.nd rfl rfl (by decide) rfl rfl (pa_cons (pe_call GI hr1 rfl R.I.L.D.sip.g R.I.L.D.sip.k R.I.L.D.sip.b .nil pass0 (pa_cons (pv 0) (pa_cons pe_int pa_nil))) (pa_cons (pe_op op_add pe_int (pe_call GI hr1 rfl R.I.L.D.sip.g R.I.L.D.sip.k R.I.L.D.sip.b .nil pass0 (pa_cons (pv 0) (pa_cons pe_int pa_nil)))) pa_nil)) (by rfl)) (C8.pss_cut (ps_set (i := 7) scRight.nd rfl (.inr rfl) (pe_call GW hr4 rfl R.I.wlk.g R.I.wlk.k R.I.wlk.b .nil pass0 (pa_cons (pv 0) (pa_cons (pv 2) (pa_cons (pv 3) (pa_cons (pv 5) (pa_cons (pv 6) pa_nil))))))) (C8.pss_cut (ps_if (PW.pt (pw_and (pt_cmpR (op_neD hu64) (pv 7) (pe_lst pa_nil) (nomark _)) (pw_and1 (pt_cmpR op_eq (pe_call GI hr1 rfl R.I.L.D.sip.g R.I.L.D.sip.k R.I.L.D.sip.b .nil pass0 (pa_cons (pv 0) (pa_cons pe_int pa_nil))) pe_int (nomark _))))) (C8.pss_cut (ps_set (i := 8) scRight.nd rfl (.inl rfl) (pe_call GI hr1 rfl R.I.L.D.sip.g R.I.L.D.sip.k R.I.L.D.sip.b .nil pass0 (pa_cons (pv 0) (pa_cons (pe_callB call_len_seq (by rfl) R.I.L.D.J.len PySem.boot_len (pa_cons (pv 7) pa_nil)) pa_nil)))) (pss_one (ps_asg (pe_tup (pa_cons (pe_callB (call_max2 rfl) (by rfl) R.max (by decide +kernel) (pa_cons pe_int (pa_cons (pe_op op_add (pe_ix ix_tup (pe_ix ix_list (pv 7) (pv 8) (fun _ _ => rfl)) pe_int (fun _ _ => rfl)) (pe_call GF hr2 rfl R.I.L.D.frm.g R.I.L.D.frm.k R.I.L.D.frm.b .nil pass0 (pa_cons (pv 0) (pa_cons (pe_lst (pa_cons (pe_un un_neg pe_int) (pa_cons pe_int (pa_cons pe_int pa_nil)))) pa_nil)))) pa_nil))) (pa_cons (pe_cmpR op_eq (pe_call GI hr1 rfl R.I.L.D.sip.g R.I.L.D.sip.k R.I.L.D.sip.b .nil pass0 (pa_cons (pv 0) (pa_cons pe_int pa_nil))) pe_int (nomark _)) pa_nil))) (pg_sub (pv 7) (pv 8) set_list)))) pss_nil) (pss_one (ps_for PassesOwn.never rfl (pi_list (pe_lst (pa_cons pe_str (pa_cons pe_str (pa_cons pe_str (pa_cons pe_str (pa_cons pe_str pa_nil))))))) (pg_name (i := 9) scRight.nd rfl (.inl rfl)) (C8.pss_cut (ps_set (i := 10) scRight.nd rfl (.inl rfl) (pe_tup (pa_cons pe_str (pa_cons (pe_call GN hr1 rfl R.I.L.D.lin.g R.I.L.D.lin.k R.I.L.D.lin.b .nil pass0 (pa_cons (pe_ix ix_tup (pv 2) pe_int (fun _ _ => rfl)) (pa_cons (pe_ix ix_tup (pv 2) pe_int (fun _ _ => rfl)) pa_nil))) (pa_cons (pe_join pe_str (pv 3)) (pa_cons (pv 9) pa_nil)))))) (pss_one (ps_for PassesOwn.never rfl (pi_list (pe_op op_cat (pe_lst (pa_cons (pv 7) pa_nil)) (pe_lc (own := [("_law_k", 13)]) (g := gName 13) (tt := tYes) (te := tSlT) rfl scRight.nd (pi_range1 rfl R.I.L.D.range (pa_cons (pe_callB call_len_seq (by rfl) R.I.L.D.J.len PySem.boot_len (pa_cons (pv 7) pa_nil)) pa_nil)) (blkOk_by (own := [("_law_k", 13)]) (N := NR) (sc := defScope sRight) (by decide +kernel)) (fun _ _ _ _ _ => pg_name (i := 13) scRight.nd rfl (Or.inl rfl)) (fun _ _ _ _ _ => pts_nil) (fun _ _ _ _ _ => by exact pe_imp (t' := tSlT) (pe_slice sl_list (pv 7) po_none (po_some (pv 13))) (fun σ H1 Q1 ⟨p, xs, k, h7, h13, hp, hk, q⟩ => ⟨_, h7, nop9 ⟨_, h13, _, rfl, p, xs, rfl, SqL.of hp, fun z nz => (by rw [cut_to xs k hk]; exact q z nz)⟩⟩))))) (pg_name (i := 11) scRight.nd rfl (.inl rfl)) (C8.pss_cut (ps_set (i := 12) scRight.nd rfl (.inl rfl) (pe_tup (pa_cons (pv 5) (pa_cons (pv 6) (pa_cons (pe_callTy call_tuple_of (by rfl) R.H.tuple (by decide +kernel) (pa_cons (pv 11) pa_nil)) pa_nil))))) (pss_one (ps_if (pt_cmpR op_ne (pe_callB (RpA.call_reprA hgd (by omega) sm) (by rfl) R.repr (by decide +kernel) (pa_cons (pe_call GH hr9 rfl R.H.ho.g R.H.ho.k R.H.ho.b .nil pass0 (pa_cons (pv 10) (pa_cons (pv 12) pa_nil))) pa_nil)) (pe_callB (RpA.call_reprA hgd (by omega) sm) (by rfl) R.repr (by decide +kernel) (pa_cons (pe_call GPj hr6 rfl R.I.isp.g R.I.isp.k R.I.isp.b .nil pass0 (pa_cons (pv 2) (pa_cons (pv 3) (pa_cons (pv 9) (pa_cons (pv 12) pa_nil))))) pa_nil)) (nomark _)) (pss_one (ps_ret pe_bl)) pss_nil)))))))))))) (C8.pss_cut (ps_set (i := 12) scRight.nd rfl (.inl rfl) (pe_tup (pa_cons (pv 5) (pa_cons (pv 6) (pa_cons (pe_callTy call_tuple_of (by rfl) R.H.tuple (by decide +kernel) (pa_cons (pv 7) pa_nil)) pa_nil))))) (pss_one (ps_if (pt_cmpR op_ne (FKw.pe_callK0 GH hr9 rfl R.H.ho.g R.H.ho.k R.KF pass0 (pk_cons (pv 12) (pk_cons (pv 10) pk_nil))) (pe_call GPj hr6 rfl R.I.isp.g R.I.isp.k R.I.isp.b .nil pass0 (pa_cons (pv 2) (pa_cons (pv 3) (pa_cons (pv 9) (pa_cons (pv 12) pa_nil))))) (nomark _)) (pss_one (ps_ret pe_bl)) pss_nil)))))) (pss_one (ps_ret pe_bl))), ?_⟩
    have rb : ∀ b : Bool, SkT.Sw 20 64 (.bool b) := fun b => (SkT.sw_bl _).mono (by decide) (by decide)
    have bl_ := szl (show 20 ≤ 1000 by decide)
    refine ⟨3, rfl, by decide, by decide, for_range (lo := 0) (n := 3) (fun i σ H' => (∃ v1 v2 v3 v4 v5 v6 v7 v8 v9 v10 v11 v12 v13 : Option V, σ = [some (.ref j), v1, v2, v3, v4, v5, v6, v7, v8, v9, v10, v11, v12, v13]) ∧ Off j H H' ∧ Jar H' j)
      ⟨⟨none, none, none, none, none, none, none, none, none, none, none, none, none, rfl⟩, Off.refl, hJ⟩ ?_ ?_⟩
    rotate_left
    · rintro σ H' ⟨⟨v1, v2, v3, v4, v5, v6, v7, v8, v9, v10, v11, v12, v13, rfl⟩, o, J⟩
      exact k H' o
    rintro i σ H1 hi ⟨⟨v1, v2, v3, v4, v5, v6, v7, v8, v9, v10, v11, v12, v13, rfl⟩, o1, J1⟩
    -- the words, the kind
    refine ⟨fun σ H' => ∃ (ma q : Addr) (B E' : List Str) (A1 B1 E1 : Str), σ = [some (.ref j), some (.int (0 + (i : Int))), some (.ref ma), some (.ref q), v4, v5, v6, v7, v8, v9, v10, v11, v12, v13] ∧ Off j H H' ∧ MkJ j H' ma q B E' A1 B1 E1 ∧ isAm A1 ∧ isPa B1 ∧ isEn E1, ?_, ?_⟩
    · refine ⟨_, rfl, j, 5, rfl, J1, by decide, by decide, fun H2 ma a b B E' W hm => ?_⟩
      refine ⟨_, rfl, j, rfl, W.J, fun H3 q A1 B1 E1 o3 J3 nq hA hB hE hq => ?_⟩
      have n1 : ma ≠ j := fun z => by obtain ⟨x, y, u, h⟩ := W.J; rw [z, h] at hm; cases hm
      have n2 : a ≠ j := jar_n J1 W.na
      have n3 : b ≠ j := jar_n J1 W.nb
      exact ⟨_, _, rfl, ma, q, B, E', A1, B1, E1, rfl, (o1.trans W.o).trans o3, ⟨⟨a, b, o3 _ _ n1 hm, o3 _ _ n2 W.ha, o3 _ _ n3 W.hb, n1, n2, n3⟩, W.rB, W.rE, hq, nq, J3⟩, hA, hB, hE⟩
    rintro _ H2 ⟨ma, q, B, E', A1, B1, E1, rfl, o2, hM2, hA, hB, hE⟩
    clear o1 J1
    have rB := hM2.rB
    have rE := hM2.rE
    have gt := text_good rB rE
    have bt : Bd (textOf B E') := Nat.le_trans (text_len rB rE) (by decide)
    have nB : B ≠ [] := round_ne rB
    -- the walks
    refine ⟨St69 j ma q (.int (0 + (i : Int))) B E' A1 B1 E1 H, ?_, ?_⟩
    · refine ⟨4, rfl, by decide, by decide, for_range (lo := 0) (n := 4) (fun i' σ H' => (∃ v4 v5 v6 v7 v8 v9 v10 v11 v12 v13 : Option V, σ = [some (.ref j), some (.int (0 + (i : Int))), some (.ref ma), some (.ref q), v4, v5, v6, v7, v8, v9, v10, v11, v12, v13]) ∧ Off j H H' ∧ MkJ j H' ma q B E' A1 B1 E1 ∧ (0 < i' → St69 j ma q (.int (0 + (i : Int))) B E' A1 B1 E1 H σ H'))
        ⟨⟨v4, v5, v6, v7, v8, v9, v10, v11, v12, v13, rfl⟩, o2, hM2, fun z => absurd z (Nat.lt_irrefl 0)⟩ ?_ ?_⟩
      rotate_left
      · rintro σ H' ⟨_, _, _, h⟩
        exact h (by decide)
      clear o2 hM2
      rintro i' σ H3 hi' ⟨⟨v4, v5, v6, v7, v8, v9, v10, v11, v12, v13, rfl⟩, o3, hM3, _⟩
      -- the numbers
      refine ⟨fun σ H' => ∃ N sz : Nat, σ = [some (.ref j), some (.int (0 + (i : Int))), some (.ref ma), some (.ref q), some (.int (0 + (i' : Int))), some (.int (N : Nat)), some (.int (sz : Nat)), v7, v8, v9, v10, v11, v12, v13] ∧ Off j H H' ∧ MkJ j H' ma q B E' A1 B1 E1 ∧ N ≤ 5 ∧ 1 ≤ sz ∧ sz ≤ 5, ?_, ?_⟩
      · refine ⟨_, rfl, j, 6, rfl, hM3.J, by decide, by decide, fun H4 d d0 d1 o4 J4 => ?_⟩
        obtain ⟨N, rfl⟩ := Int.eq_ofNat_of_zero_le d0
        refine ⟨_, rfl, j, 5, rfl, J4, by decide, by decide, fun H5 e e0 e1 o5 J5 => ?_⟩
        obtain ⟨m, rfl⟩ := Int.eq_ofNat_of_zero_le e0
        have em : (1 : Int) + (m : Int) = ((1 + m : Nat) : Int) := by omega
        refine ⟨_, _, rfl, rfl, _, _, rfl, N, 1 + m, ?_, (o3.trans o4).trans o5, (hM3.off o4 J4).off o5 J5, by omega, by omega, by omega⟩
        rw [← em]
        rfl
      rintro _ H4 ⟨N, sz, rfl, o4, hM4, hN, z1, z2⟩
      clear o3 hM3
      -- the tale
      refine ⟨fun σ H' => ∃ (p : Addr) (rs : FJ.Rep), σ = [some (.ref j), some (.int (0 + (i : Int))), some (.ref ma), some (.ref q), some (.int (0 + (i' : Int))), some (.int (N : Nat)), some (.int (sz : Nat)), some (.ref p), v8, v9, v10, v11, v12, v13] ∧ H p = none ∧ Off j H H' ∧ MkJ j H' ma q B E' A1 B1 E1 ∧ TlJ j H' p rs ∧ ∀ r ∈ rs, r.1 ≤ 5, ?_, ?_⟩
      · refine ⟨_, rfl, _, rfl, _, rfl, _, rfl, _, rfl, j, ma, q, B, E', A1, B1, E1, N, sz, rfl, hM4, hA, hE, by omega, z1, by omega, fun H5 p tvs rs np0 o5 J5 pj hp hR hl hc => ?_⟩
        exact ⟨p, rs, rfl, off_free o4 np0 pj, o4.trans o5, hM4.off o5 J5, ⟨pj, ⟨tvs, hp, hR⟩, hl, fun r hr => (by have := hc r hr; omega)⟩, fun r hr => (by have := hc r hr; omega)⟩
      rintro _ H5 ⟨p, rs, rfl, np0, o5, hM5, hT5, hc5⟩
      clear o4 hM4
      -- the tale changed
      refine ⟨fun σ H' => ∃ (v8 : Option V) (rs : FJ.Rep), σ = [some (.ref j), some (.int (0 + (i : Int))), some (.ref ma), some (.ref q), some (.int (0 + (i' : Int))), some (.int (N : Nat)), some (.int (sz : Nat)), some (.ref p), v8, v9, v10, v11, v12, v13] ∧ Off j H H' ∧ MkJ j H' ma q B E' A1 B1 E1 ∧ TlJ j H' p rs, ?_, ?_⟩
      · obtain ⟨tvs, hp, hR⟩ := hT5.ex
        refine ⟨_, rfl, Nat.zero_le _, fun z nz => ?_⟩
        have u1 := same_new (o := .lst []) nz
        refine ⟨.list (rpD rs), .list [], .lst (SqL.of (u1 _ _ hp)) (rp_dp (hR.same u1)), .lst (SqL.of upd_same) .nil, rp_shaped _, by decide, _, rfl, ?_⟩
        rw [rp_nil]
        have o6 := o5.trans (Same.off (j := j) u1)
        have hM6 := hM5.same u1
        have hT6 := hT5.same u1
        generalize upd H5 z (.lst []) = H6 at o6 hM6 hT6 ⊢
        by_cases c0 : rs = []
        · rw [decide_eq_true c0]
          exact iteF ⟨v8, rs, rfl, o6, hM6, hT6⟩
        rw [decide_eq_false c0]
        refine iteT ⟨_, rfl, j, 4, rfl, hM6.J, by decide, by decide, fun H7 d d0 d1 o7 J7 => ⟨rfl, _, rfl, ?_⟩⟩
        have o07 := o6.trans o7
        have hM7 := hM6.off o7 J7
        have hT7 := hT6.off o7 hM6.J
        by_cases dz : V.int d = V.int 0
        rotate_left
        · rw [decide_eq_false dz]
          exact iteF ⟨v8, rs, rfl, o07, hM7, hT7⟩
        rw [decide_eq_true dz]
        refine iteT ?_
        clear hp hR
        -- at
        refine ⟨fun σ H' => ∃ at_ : Nat, σ = [some (.ref j), some (.int (0 + (i : Int))), some (.ref ma), some (.ref q), some (.int (0 + (i' : Int))), some (.int (N : Nat)), some (.int (sz : Nat)), some (.ref p), some (.int (at_ : Nat)), v9, v10, v11, v12, v13] ∧ at_ < rs.length ∧ Off j H H' ∧ MkJ j H' ma q B E' A1 B1 E1 ∧ TlJ j H' p rs, ?_, ?_⟩
        · obtain ⟨tvs, hp, hR⟩ := hT7.ex
          have lt := hR.len
          have pos : 0 < rs.length := List.length_pos_iff.mpr c0
          have l9 := hT7.l
          refine ⟨_, rfl, _, rfl, p, _, rfl, .inl (SqL.of hp), j, _, rfl, hM7.J, by omega, by omega, fun H8 e e0 e1 o8 J8 => ?_⟩
          obtain ⟨m, rfl⟩ := Int.eq_ofNat_of_zero_le e0
          exact ⟨m, rfl, by omega, o07.trans o8, hM7.off o8 J8, hT7.off o8 hM7.J⟩
        rintro _ H8 ⟨at_, rfl, hat, o8, hM8, hT8⟩
        clear o07 hM7 hT7 o7 J7 o6 hM6 hT6
        obtain ⟨tvs, hp, hR⟩ := hT8.ex
        have lt := hR.len
        obtain ⟨y, hy⟩ : ∃ y, tvs[at_]? = some y := ⟨_, List.getElem?_eq_getElem (by omega)⟩
        obtain ⟨qr, r, hr0, rfl, hqr⟩ := hR.get hy
        refine ⟨_, rfl, _, rfl, p, _, _, _, rfl, rfl, SqL.of hp, atI_nat hy, qr, _, 0, _, rfl, rfl, SqT.of hqr, rfl, ?_⟩
        refine ⟨_, rfl, _, rfl, (by show 3 ≤ sizeLine; decide), fun l nl => ?_⟩
        have s9 := same_new (o := .lst [.int (-1), .int 0, .int 1]) nl
        refine ⟨j, l, _, rfl, hM8.J.same s9, jar_ne hM8.J nl, SqL.of upd_same, (by show 0 < 3; decide), (by show 3 < 1073741824; decide), fun H9 n9 y9 hy9 o9 J9 => ?_⟩
        obtain ⟨dd, rfl, dd1, dd2⟩ : ∃ dd : Int, y9 = .int dd ∧ -1 ≤ dd ∧ dd ≤ 1 := by
          match n9, hy9 with
          | 0, h => exact ⟨-1, (Option.some.inj h).symm, by decide, by decide⟩
          | 1, h => exact ⟨0, (Option.some.inj h).symm, by decide, by decide⟩
          | 2, h => exact ⟨1, (Option.some.inj h).symm, by decide, by decide⟩
        have o89 := (Same.off (j := j) s9).trans o9
        have hM9 := hM8.off o89 J9
        have hT9 := hT8.off o89 hM8.J
        refine ⟨_, _, rfl, rfl, _, _, rfl, ?_⟩
        have r5 := hc5 r (List.mem_of_getElem? hr0)
        obtain ⟨c9, ec9, hc9⟩ : ∃ c9 : Nat, (if ((r.1 : Nat) : Int) + dd > 0 then ((r.1 : Nat) : Int) + dd else 0) = ((c9 : Nat) : Int) ∧ c9 ≤ 1000 := by
          by_cases h : ((r.1 : Nat) : Int) + dd > 0
          · rw [if_pos h]
            exact ⟨(((r.1 : Nat) : Int) + dd).toNat, by omega, by omega⟩
          · rw [if_neg h]
            exact ⟨0, rfl, by decide⟩
        show tCons _ _ _ H9 _
        refine ⟨_, rfl, j, 2, rfl, J9, by decide, by decide, fun H10 e e0 e1 o10 J10 => ⟨rfl, (by show 2 ≤ sizeLine; decide), fun z nz => ?_⟩⟩
        have hM10 := hM9.off o10 J10
        have hT10 := hT9.off o10 J9
        obtain ⟨tv2, hp10, hR10⟩ := hT10.ex
        have lt2 := hR10.len
        obtain ⟨y2, hy2⟩ : ∃ y, tv2[at_]? = some y := ⟨_, List.getElem?_eq_getElem (by omega)⟩
        obtain ⟨jx, hjx⟩ : ∃ jx, ixN tv2.length ((at_ : Nat) : Int) = some jx := ⟨at_, by unfold ixN; rw [if_pos (by omega), if_pos (by omega)]; rfl⟩
        have u11 := same_new (o := .tup [.int (if ((r.1 : Nat) : Int) + dd > 0 then ((r.1 : Nat) : Int) + dd else 0), .bl (decide (V.int e = V.int 0))]) nz
        have hz : (upd H10 z (.tup [.int (if ((r.1 : Nat) : Int) + dd > 0 then ((r.1 : Nat) : Int) + dd else 0), .bl (decide (V.int e = V.int 0))])) z = some (.tup [.int (c9 : Nat), .bl (decide (V.int e = V.int 0))]) := by rw [ec9]; exact upd_same
        have hp11 := u11 _ _ hp10
        have hM11 := hM10.same u11
        have hR11 := hR10.same u11
        have o11 := ((o8.trans o89).trans o10).trans (Same.off (j := j) u11)
        show tVar 7 _ (upd H10 z (.tup [.int (if ((r.1 : Nat) : Int) + dd > 0 then ((r.1 : Nat) : Int) + dd else 0), .bl (decide (V.int e = V.int 0))])) _
        generalize upd H10 z (.tup [.int (if ((r.1 : Nat) : Int) + dd > 0 then ((r.1 : Nat) : Int) + dd else 0), .bl (decide (V.int e = V.int 0))]) = H11 at hz hp11 hM11 hR11 o11 ⊢
        refine ⟨_, rfl, _, rfl, p, _, _, jx, rfl, rfl, hp11, hjx, ?_⟩
        obtain ⟨a, b0, h1, h2, h3, n1, n2, n3⟩ := hM11.ex
        have ne0 : tv2 ≠ [] := fun z => by rw [z] at hy2; cases hy2
        have hd : ∃ (q0 : Addr) (t0 : List V), tv2 = .ref q0 :: t0 := by
          generalize hx : rs = rs' at hR11
          cases hR11 with
          | nil => exact absurd rfl ne0
          | cons h t => exact ⟨_, _, rfl⟩
        obtain ⟨q0, t0, etv⟩ := hd
        have pq : ∀ {x : Addr} {ys : List Str}, H11 x = some (.lst (svs ys)) → x ≠ p := fun {x ys} hx z => by
          rw [z, hp11, etv] at hx
          have hx := HO.lst.inj (Option.some.inj hx)
          cases ys with
          | nil => cases hx
          | cons y ys => cases hx
        have st : ∀ {x : Addr} {o : HO}, x ≠ p → H11 x = some o → (upd H11 p (.lst (tv2.set jx (.ref z)))) x = some o := fun n e => by rw [upd_ne n]; exact e
        have pm : ma ≠ p := ne_of h1 hp11 (by intro z; cases z)
        refine ⟨_, rs.set jx (c9, decide (V.int e = V.int 0)), rfl, fun b u n e => ?_, ⟨⟨a, b0, st pm h1, st (pq h2) h2, st (pq h3) h3, n1, n2, n3⟩, rB, rE, st (pq (ys := [A1, B1, E1]) hM11.kq) hM11.kq, hM11.nq, ?_⟩, ⟨hT8.np, ⟨_, upd_same, (hR11.set hz jx).mono (tup_stays hp11 (by intro xs z; cases z))⟩, by rw [List.length_set]; exact hT8.l, fun r' hr' => ?_⟩⟩
        · by_cases c : b = p
          · rw [c, np0] at e
            cases e
          · rw [upd_ne c]
            exact o11 _ _ n e
        · obtain ⟨x, y, u, h⟩ := hM11.J
          exact ⟨x, y, u, st (fun z => hT8.np z.symm) h⟩
        · rcases List.mem_or_eq_of_mem_set hr' with h | h
          · exact hT8.c r' h
          · rw [h]; exact hc9
      rintro _ H6 ⟨v8, rs, rfl, o6, hM6, hT6⟩
      clear o5 hM5 hT5 hc5
      obtain ⟨tvs, hp6, hR6⟩ := hT6.ex
      have l9 := hT6.l
      have lt6 := hR6.len
      -- the properties
      refine ⟨(by show 5 ≤ sizeLine; decide), fun pl npl => ?_⟩
      have u7 := same_new (o := .lst (svs nms)) npl
      have hpl : (upd H6 pl (.lst (svs nms))) pl = some (.lst (svs nms)) := upd_same
      refine ⟨pl, rfl, ⟨_, SqL.of upd_same⟩, ?_⟩
      show ∃ _, _
      refine for_list (K := K) (a := pl) (xs := svs nms) (fun i3 σ H' => ∃ v9 v10 v11 v12 v13 : Option V, σ = [some (.ref j), some (.int (0 + (i : Int))), some (.ref ma), some (.ref q), some (.int (0 + (i' : Int))), some (.int (N : Nat)), some (.int (sz : Nat)), some (.ref p), v8, v9, v10, v11, v12, v13] ∧ Same (upd H6 pl (.lst (svs nms))) H' ∧ (0 < i3 → ∃ (nm : Str) (c : Addr), v9 = some (.str nm) ∧ v10 = some (.ref c) ∧ FJ.Names nm ∧ H' c = some (.tup [.str "fault", .str (textOf B E'), .str (kindT A1 B1 E1), .str nm])))
        ⟨v9, v10, v11, v12, v13, rfl, Same.refl _, fun z => absurd z (Nat.lt_irrefl 0)⟩ (fun i σ H' _ ⟨_, _, _, _, _, _, s', _⟩ => SqL.of (s' _ _ hpl)) ?_ ?_
      rotate_left
      · rintro σ H7 ⟨v9, v10, v11, v12, v13, rfl, s7, h⟩
        obtain ⟨nm, c, rfl, rfl, hn, hc⟩ := h (by decide)
        have s67 := Same.trans u7 s7
        exact ⟨⟨_, _, _, _, _, _, _, _, _, _, rfl⟩, o6.trans (Same.off s67), hM6.same s67, fun _ => ⟨N, sz, p, c, nm, rs, _, _, _, _, _, rfl, o6.trans (Same.off s67), hM6.same s67, hT6.same s67, hN, z1, z2, hn, hc⟩⟩
      rintro i3 y σ H7 hy ⟨v9, v10, v11, v12, v13, rfl, s7, _⟩
      obtain ⟨nm, rfl, hn⟩ := nms_get hy
      have s67 := Same.trans u7 s7
      have hM7 := hM6.same s67
      have hp7 := s67 _ _ hp6
      have hR7 := hR6.same s67
      -- the claim
      refine ⟨fun σ H' => ∃ c : Addr, σ = [some (.ref j), some (.int (0 + (i : Int))), some (.ref ma), some (.ref q), some (.int (0 + (i' : Int))), some (.int (N : Nat)), some (.int (sz : Nat)), some (.ref p), v8, some (.str nm), some (.ref c), v11, v12, v13] ∧ Same H7 H' ∧ H' c = some (.tup [.str "fault", .str (textOf B E'), .str (kindT A1 B1 E1), .str nm]), ?_, ?_⟩
      · obtain ⟨a, b0, h1, h2, h3, _⟩ := hM7.ex
        refine ⟨_, rfl, ma, _, 0, _, rfl, rfl, SqT.of h1, rfl, _, rfl, ma, _, 1, _, rfl, rfl, SqT.of h1, rfl, a, b0, B, E', rfl, h2, h3, (round_sht rB).mono (by decide), (ending_sht rE).mono (by decide), ending_asc rE, fun H8 s8 => ?_⟩
        rw [line_text nB]
        refine ⟨⟨_, rfl⟩, _, rfl, " ", q, [A1, B1, E1], rfl, rfl, .inl (SqL.of (s8 _ _ hM7.kq)), ?_, _, rfl, (by show 4 ≤ sizeLine; decide), fun c nc => ?_⟩
        · rcases hA with rfl | rfl <;> rcases hB with rfl | rfl <;> rcases hE with rfl | rfl | rfl <;> decide +kernel
        exact ⟨c, rfl, Same.trans s8 (same_new nc), upd_same⟩
      rintro _ H8 ⟨c, rfl, s8, hc8⟩
      have s68 := Same.trans s67 s8
      have hM8 := hM6.same s68
      have hp8 := s68 _ _ hp6
      have hR8 := hR6.same s68
      -- the rows
      refine ⟨_, rfl, (by show 1 ≤ sizeLine; decide), fun l1 nl1 => ?_⟩
      have u9 := same_new (o := .lst [.ref p]) nl1
      have hl1 : (upd H8 l1 (.lst [.ref p])) l1 = some (.lst [.ref p]) := upd_same
      have hp9 := u9 _ _ hp8
      have hR9 := hR8.same u9
      have hc9 := u9 _ _ hc8
      have s69 := Same.trans s68 u9
      have s79 := Same.trans s8 u9
      generalize upd H8 l1 (.lst [.ref p]) = H9 at hl1 hp9 hR9 hc9 s69 s79 ⊢
      refine ⟨_, rfl, p, _, rfl, .inl (SqL.of hp9), _, rfl, by omega, by omega, fun D nD => ?_⟩
      refine lc_range (lo := 0) (n := (((tvs.length : Nat) : Int)).toNat) (fun i4 H' => Same H9 H' ∧ ∃ ys, H' D = some (.lst ys) ∧ Bgs H' ys ((List.range i4).map fun k => rs.take k) ∧ ∀ v ∈ ys, v ≠ .ref D) ⟨same_new nD, [], upd_same, .nil, fun _ h => (nomatch h)⟩ ?_ ?_
      · rintro i4 Ha hi4 ⟨sa, ys, hDa, hBa, hna⟩
        have hi5 : i4 < tvs.length := by omega
        have lya := hBa.len
        rw [List.length_map, List.length_range] at lya
        refine ⟨rfl, p, tvs, i4, rfl, (by rw [show ((0 : Int) + (i4 : Nat)) = ((i4 : Nat) : Int) from Int.zero_add _]; rfl), sa _ _ hp9, by omega, fun z nz => ?_⟩
        have ua := same_new (o := .lst (tvs.take i4)) nz
        have zD : V.ref z ≠ .ref D := fun e => by rw [V.ref.inj e, hDa] at nz; cases nz
        refine ⟨ys, ua _ _ hDa, szM (by omega), fun b o e => ?_, ys ++ [.ref z], upd_same, ?_, fun v hv => ?_⟩
        · rw [upd_ne (ne_of_none e nD)]
          exact ua _ _ (sa _ _ e)
        · rw [List.range_succ, List.map_append]
          refine Bgs.upd (ua _ _ hDa) (fun v hv => ?_) ((hBa.same ua).app (.cons upd_same (((hR9.same sa).same ua).take i4) .nil))
          rcases List.mem_append.mp hv with hv | hv
          · exact hna v hv
          · rw [List.mem_singleton.mp hv]; exact zD
        · rcases List.mem_append.mp hv with hv | hv
          · exact hna v hv
          · rw [List.mem_singleton.mp hv]; exact zD
      rintro Ha ⟨sa, ys, hDa, hBa, _⟩
      have lya := hBa.len
      rw [List.length_map, List.length_range] at lya
      refine ⟨l1, D, _, _, rfl, rfl, sa _ _ hl1, hDa, Nat.le_of_lt (szM (by show 1 + ys.length ≤ _; omega)), fun lw nlw => ?_⟩
      have ub := same_new (o := .lst ([.ref p] ++ ys)) nlw
      have hlw : (upd Ha lw (.lst ([.ref p] ++ ys))) lw = some (.lst ([.ref p] ++ ys)) := upd_same
      have hBw : Bgs (upd Ha lw (.lst ([.ref p] ++ ys))) ([.ref p] ++ ys) ([rs] ++ (List.range (((tvs.length : Nat) : Int)).toNat).map fun k => rs.take k) := (Bgs.cons (ub _ _ (sa _ _ hp9)) ((hR9.same sa).same ub) .nil).app (hBa.same ub)
      have s6b := Same.trans s69 (Same.trans sa ub)
      have s7b := Same.trans s79 (Same.trans sa ub)
      have hcb := ub _ _ (sa _ _ hc9)
      generalize upd Ha lw (.lst ([.ref p] ++ ys)) = Hb at hlw hBw s6b s7b hcb ⊢
      clear sa ub hBa hDa hl1 hp9 hR9 hc9 s69 s79 hp8 hR8 hM8 s68 hc8
      generalize [V.ref p] ++ ys = rows at hlw hBw
      refine ⟨lw, rfl, ⟨_, SqL.of hlw⟩, ?_⟩
      refine for_list (K := K) (a := lw) (xs := rows) (fun i5 σ H' => ∃ v11 v12 v13 : Option V, σ = [some (.ref j), some (.int (0 + (i : Int))), some (.ref ma), some (.ref q), some (.int (0 + (i' : Int))), some (.int (N : Nat)), some (.int (sz : Nat)), some (.ref p), v8, some (.str nm), some (.ref c), v11, v12, v13] ∧ Same Hb H') ⟨v11, v12, v13, rfl, Same.refl _⟩ (fun i σ H' _ ⟨_, _, _, _, s'⟩ => SqL.of (s' _ _ hlw)) ?_ ?_
      rotate_left
      · rintro σ Hc ⟨v11, v12, v13, rfl, sc⟩
        exact ⟨_, _, _, _, _, rfl, Same.trans s7 (Same.trans s7b sc), fun _ => ⟨nm, c, rfl, rfl, hn, sc _ _ hcb⟩⟩
      rintro i5 y5 σ Hc hy5 ⟨v11, v12, v13, rfl, sc⟩
      obtain ⟨pw, tw, rw', rfl, hpw, hRw, hmem⟩ := hBw.get hy5
      have facts : rw'.length ≤ 9 ∧ ∀ r ∈ rw', r.1 ≤ 1000 := by
        rcases List.mem_append.mp hmem with h | h
        · rw [List.mem_singleton.mp h]
          exact ⟨l9, hT6.c⟩
        · obtain ⟨k5, _, rfl⟩ := List.mem_map.mp h
          exact ⟨by rw [List.length_take]; omega, fun r hr => hT6.c r (List.mem_of_mem_take hr)⟩
      obtain ⟨lw9, cw⟩ := facts
      have lsz : rw'.length * sz ≤ 9 * 5 := Nat.mul_le_mul lw9 z2
      -- the paper
      refine ⟨fun σ H' => ∃ pp qq : Addr, σ = [some (.ref j), some (.int (0 + (i : Int))), some (.ref ma), some (.ref q), some (.int (0 + (i' : Int))), some (.int (N : Nat)), some (.int (sz : Nat)), some (.ref p), v8, some (.str nm), some (.ref c), some (.ref pw), some (.ref pp), v13] ∧ Same Hb H' ∧ H' pp = some (.tup [.int (N : Nat), .int (sz : Nat), .ref qq]) ∧ H' qq = some (.tup tw), ?_, ?_⟩
      · refine ⟨_, rfl, _, rfl, _, rfl, pw, _, rfl, .inl ⟨SqL.of (sc _ _ hpw), fun qq nqq => ?_⟩⟩
        have ud := same_new (o := .tup tw) nqq
        refine ⟨(by show 3 ≤ sizeLine; decide), fun pp npp => ?_⟩
        have ue := same_new (o := .tup [.int (N : Nat), .int (sz : Nat), .ref qq]) npp
        exact ⟨pp, qq, rfl, Same.trans sc (Same.trans ud ue), upd_same, ue _ _ upd_same⟩
      rintro _ Hd ⟨pp, qq, rfl, sd, hpp, hqq⟩
      have hMd := (hM6.same s6b).same sd
      refine ⟨_, rfl, _, rfl, textOf B E', A1, B1, E1, nm, N, sz, tw, ⟨c, pp, qq, rfl, sd _ _ hcb, hpp, hqq, gt, bt, hA, hB, hE, hn, by omega, z1, by omega⟩, .inr ⟨rw', hRw.same sd, by omega, by omega, cw, fun He se => ?_⟩⟩
      refine ⟨_, _, _, rfl, .bl _, rb _, bl_, _, rfl, _, rfl, _, rfl, _, rfl, ma, q, pp, qq, B, E', A1, B1, E1, nm, N, sz, tw, rw', rfl, (hMd.same se).at, se _ _ hpp, se _ _ hqq, (hRw.same sd).same se, by omega, by omega, hA, hE, hn, by omega, z1, by omega, fun Hf sf => ?_⟩
      refine ⟨_, _, _, rfl, .bl _, rb _, bl_, rfl, _, rfl, ?_⟩
      rw [due_is hA hE hn N sz rw' rB rE]
      rw [decide_eq_true (show V.str (PyData.bool (isPL B E' A1 B1 E1 nm N sz rw')).shown = V.str (PyData.bool (isPL B E' A1 B1 E1 nm N sz rw')).shown from rfl)]
      exact iteF ⟨_, _, _, rfl, Same.trans sd (Same.trans se sf)⟩
    -- the last paper
    rintro _ H5 ⟨N, sz, p, c, nm, rs, v4, v8, v11, v12, v13, rfl, o5, hM5, hT5, hN, z1, z2, hn, hc5⟩
    clear o2 hM2
    obtain ⟨tvs, hp5, hR5⟩ := hT5.ex
    have l9 := hT5.l
    have lsz : rs.length * sz ≤ 9 * 5 := Nat.mul_le_mul l9 z2
    refine ⟨fun σ H' => ∃ pp qq : Addr, σ = [some (.ref j), some (.int (0 + (i : Int))), some (.ref ma), some (.ref q), v4, some (.int (N : Nat)), some (.int (sz : Nat)), some (.ref p), v8, some (.str nm), some (.ref c), v11, some (.ref pp), v13] ∧ Same H5 H' ∧ H' pp = some (.tup [.int (N : Nat), .int (sz : Nat), .ref qq]) ∧ H' qq = some (.tup tvs), ?_, ?_⟩
    · refine ⟨_, rfl, _, rfl, _, rfl, p, _, rfl, .inl ⟨SqL.of hp5, fun qq nqq => ?_⟩⟩
      have ud := same_new (o := .tup tvs) nqq
      refine ⟨(by show 3 ≤ sizeLine; decide), fun pp npp => ?_⟩
      have ue := same_new (o := .tup [.int (N : Nat), .int (sz : Nat), .ref qq]) npp
      exact ⟨pp, qq, rfl, Same.trans ud ue, upd_same, ue _ _ upd_same⟩
    rintro _ H6 ⟨pp, qq, rfl, s6, hpp, hqq⟩
    refine ⟨_, rfl, _, rfl, textOf B E', A1, B1, E1, nm, N, sz, tvs, ⟨c, pp, qq, rfl, s6 _ _ hc5, hpp, hqq, gt, bt, hA, hB, hE, hn, by omega, z1, by omega⟩, .inr ⟨rs, hR5.same s6, by omega, by omega, hT5.c, fun H7 s7 => ?_⟩⟩
    refine ⟨_, rfl, _, rfl, _, rfl, _, rfl, ma, q, pp, qq, B, E', A1, B1, E1, nm, N, sz, tvs, rs, rfl, ((hM5.same s6).same s7).at, s7 _ _ hpp, s7 _ _ hqq, (hR5.same s6).same s7, by omega, by omega, hA, hE, hn, by omega, z1, by omega, fun H8 s8 => ?_⟩
    refine ⟨rfl, _, rfl, ?_⟩
    rw [due_is hA hE hn N sz rs rB rE, decide_eq_true (show V.bl (isPL B E' A1 B1 E1 nm N sz rs) = V.bl (isPL B E' A1 B1 E1 nm N sz rs) from rfl)]
    have s58 := Same.trans s6 (Same.trans s7 s8)
    exact iteF ⟨⟨_, _, _, _, _, _, _, _, _, _, _, _, _, rfl⟩, o5.trans (Same.off s58), (hM5.same s58).J⟩
end
end My

namespace My
open PySem L2 Cm LM
abbrev sLaw : Stmt := top 141
def spLaw (K : PySem.W.Frag) : Sp := fun vs H Q _ => ∃ (a : Addr) (ns : List Int), vs = [.ref a] ∧ SqL K H a (ns.map V.int) ∧ ns.length ≤ 63 ∧ ∀ H', Q (.bl true) H'
theorem scLaw : FnScope ["_law_script", "_law_k"] ["_law_script"] (defScope sLaw) := ⟨rfl, rfl, rfl, by decide +kernel, rfl, by decide +kernel, by decide +kernel⟩
theorem all_true : ∀ n : Nat, (List.replicate n true).all id = true
  | 0 => rfl
  | n + 1 => all_true n
section
variable {P : Program} {w : World} {K : PySem.W.Frag} {mg : Str → Option Value} {base : Heap}
theorem ok_law {f fJ fR : Addr} {fd fdJ fdR : FuncData} (F : Fun K "law" "law" sLaw f fd) (TJ : TxtJ mg) (mrange : mg "range" = none) (mall : mg "all" = none) (kR9 : Nat) (GR : Gd.FnG P w K mg base CX0 kR9 fR fdR ["_law_jar_here"] spRight)
    (FJ : Fun K "_law_jar" "_law_jar" sJar fJ fdJ) (bJ : Binds K fdJ ["_law_script", "_law_k"] []) (gJ : mg "_law_jar" = some (.ref fJ)) (kJ : PySem.W.keepIn K (.ref fJ) = true) (k1 : 1 ≤ kR9)
    (DL : Df K mg "_law_limit_right" sLim []) (GL : FnOk P w K mg base CX0 kR9 DL.f DL.fd [] spLim)
    (bR : Binds K fdR ["_law_jar_here"] []) (gR : mg "_law_right" = some (.ref fR)) (kR : PySem.W.keepIn K (.ref fR) = true) (mmax : mg "max" = none) (mmin : mg "min" = none) :
    Gd.FnG P w K mg base CX0 (kR9 + 1) f fd ["_law_script"] (spLaw K) := by
  have GJ : FnOk P w K mg base CX0 1 fJ fdJ ["_law_script", "_law_k"] (spJar K) := ok_jar FJ TJ
  refine Gd.okG F scLaw (fun vs H Q E h => ?_) (fun cdv A outer s H vs Q E _ _ _ hgd hr h => ?_)
  · obtain ⟨a, ns, rfl, _⟩ := h
    rfl
  · obtain ⟨a, ns, rfl, hS, hl, k⟩ := h
    have hr1 : Room 1 _ := hr.mono k1
    have hr9 : Room kR9 _ := hr.mono (Nat.le_refl _)
    refine ⟨_, pss_one (ps_ret (pe_and (pe_call0 GL hr9 rfl DL.g DL.k DL.b .nil pass0) (pe_one (pe_callB (cr_all rfl) (by rfl) mall (by decide +kernel) (pa_cons (pe_lc (own := [("_law_k", 1)]) (g := gName 1) (tt := tYes) rfl scLaw.nd
      (pi_range1 rfl mrange (pa_cons (pe_callB (call_max2 rfl) (by rfl) mmax (by decide +kernel) (pa_cons pe_int (pa_cons (pe_callB (call_min2 rfl) (by rfl) mmin (by decide +kernel) (pa_cons (pe_callB call_len_seq (by rfl) TJ.len PySem.boot_len (pa_cons (pv 0) pa_nil)) (pa_cons pe_int pa_nil))) pa_nil))) pa_nil))
      (blkOk_by (own := [("_law_k", 1)]) (N := ["_law_script", "_law_k"]) (sc := defScope sLaw) (by decide +kernel)) (fun _ _ _ _ _ => pg_name (i := 1) scLaw.nd rfl (Or.inl rfl)) (fun _ _ _ _ _ => pts_nil)
      (fun _ _ _ _ _ => Gd.pe_callG GR hgd hr rfl gR kR bR .nil pass0 (pa_cons (pe_call GJ hr1 rfl gJ kJ bJ .nil pass0 (pa_cons (pv 0) (pa_cons (pv 1) pa_nil))) pa_nil))) pa_nil))))), ?_⟩
    refine ⟨rfl, fun H0 s0 => ⟨_, rfl, iteT ?_⟩⟩
    replace hS := s0.seq hS
    refine ⟨_, rfl, a, _, rfl, .inl hS, _, _, rfl, _, _, rfl, ?_⟩
    rw [List.length_map]
    have hm : ∃ n : Nat, (if (if (5 : Int) < (ns.length : Int) then 5 else (ns.length : Int)) > 2 then (if (5 : Int) < (ns.length : Int) then 5 else (ns.length : Int)) else 2) = (n : Int) ∧ n ≤ 5 := by
      by_cases h5 : (5 : Int) < (ns.length : Int)
      · rw [if_pos h5]
        exact ⟨5, rfl, Nat.le_refl _⟩
      · rw [if_neg h5]
        by_cases h2 : (ns.length : Int) > 2
        · rw [if_pos h2]
          exact ⟨ns.length, rfl, by omega⟩
        · rw [if_neg h2]
          exact ⟨2, rfl, by omega⟩
    obtain ⟨n, en, hn⟩ := hm
    refine ⟨_, rfl, by rw [en]; omega, by rw [en]; omega, fun D nD => ?_⟩
    rw [en]
    refine lc_range (lo := 0) (n := ((n : Int)).toNat) (fun i H' => Same H0 H' ∧ H' D = some (.lst ((List.replicate i true).map V.bl))) ⟨same_upd nD, upd_same⟩ ?_ ?_
    · rintro i H1 hi ⟨s1, hD⟩
      refine ⟨rfl, _, rfl, _, rfl, a, ns, i, by rw [Int.zero_add]; rfl, s1.seq hS, hl, fun H2 j s2 nj J2 => ?_⟩
      refine ⟨j, rfl, J2, fun H3 o3 => ?_⟩
      have s3 : Same H1 H3 := fun b o q => o3 b o (fun z => by rw [z, nj] at q; cases q) (s2 b o q)
      refine ⟨_, s3 _ _ hD, small1000 (by rw [List.length_map, List.length_replicate]; omega), fun b o q => ?_, ?_⟩
      · rw [upd_ne (ne_of_none q nD)]
        exact s3 _ _ (s1 _ _ q)
      · rw [upd_same, List.replicate_succ', List.map_append]
        rfl
    · rintro H1 ⟨s1, hD⟩
      refine ⟨D, List.replicate _ true, rfl, SqL.of hD, ?_⟩
      rw [all_true]
      exact k H1
end
theorem all_mk {l : PySem.W.OpenLaw} {w : World} {K : PySem.W.Frag} {h : Heap} {mg : Str → Option Value} {fa pT pR pE fwo foo fiw faw fir fie CIT fIT CL fli fiib fisr fcks fckr CES fES CER fER CX fxi fxa fxq fxp fxr fxc flx flt pUA pUP pUE fckw CU fui fur fxno fumu fcki CEI fEI fual fuca funv fbw fbf fbe fbq fbn pNM dB fisf fckn fso fito fsf dF ffo fho CIn fsip ffrm fwds flop flin fpas fsli fdon ffed fbox fknd fopt ffev fflt fshw fisp fwlk flim fjar frt flaw : Addr} (X : K.In h) (G : h.Ns mainGlobals mg) (hfa : mg "law" = some (.ref fa))
    {odT odR odE odwo anwo odoo anoo odiw aniw odaw anaw odir anir odie anie odIT anIT odli anli odiib aniib odisr anisr odcks ancks odckr anckr odES anES odER anER odxi anxi odxa anxa odxq anxq odxp anxp odxr anxr odxc anxc odlx anlx odlt anlt odUA odUP odUE odckw anckw odui anui odur anur odxno anxno odumu anumu odcki ancki odEI anEI odual anual oduca anuca odunv anunv odbw anbw odbf anbf odbe anbe odbq anbq odbn anbn odNM odisf anisf odckn anckn odso anso odito anito odsf ansf odfo anfo odho anho odsip ansip odfrm anfrm odwds anwds odlop anlop odlin anlin odpas anpas odsli ansli oddon andon odfed anfed odbox anbox odknd anknd odopt anopt odfev anfev odflt anflt odshw anshw odisp anisp odwlk anwlk odlim anlim odjar anjar odrt anrt odlaw anlaw : Option Addr}
    {slT slR slE slwo sloo sliw slaw slir slie slIT slli sliib slisr slcks slckr slES slER slxi slxa slxq slxp slxr slxc sllx sllt slUA slUP slUE slckw slui slur slxno slumu slcki slEI slual sluca slunv slbw slbf slbe slbq slbn slNM slisf slckn slso slito slsf slfo slho slsip slfrm slwds sllop sllin slpas slsli sldon slfed slbox slknd slopt slfev slflt slshw slisp slwlk sllim sljar slrt sllaw : Array (Option Value)}
    {ocwo kVwo dcwo pmwo cdwo ctwo ocoo kVoo dcoo pmoo cdoo ctoo ociw kViw dciw pmiw cdiw ctiw ocaw kVaw dcaw pmaw cdaw ctaw ocir kVir dcir pmir cdir ctir ocie kVie dcie pmie cdie ctie ocIT kVIT dcIT pmIT cdIT ctIT ocli kVli dcli pmli cdli ctli ociib kViib dciib pmiib cdiib ctiib ocisr kVisr dcisr pmisr cdisr ctisr occks kVcks dccks pmcks cdcks ctcks occkr kVckr dcckr pmckr cdckr ctckr ocES kVES dcES pmES cdES ctES ocER kVER dcER pmER cdER ctER ocxi kVxi dcxi pmxi cdxi ctxi ocxa kVxa dcxa pmxa cdxa ctxa ocxq kVxq dcxq pmxq cdxq ctxq ocxp kVxp dcxp pmxp cdxp ctxp ocxr kVxr dcxr pmxr cdxr ctxr ocxc kVxc dcxc pmxc cdxc ctxc oclx kVlx dclx pmlx cdlx ctlx oclt kVlt dclt pmlt cdlt ctlt occkw kVckw dcckw pmckw cdckw ctckw ocui kVui dcui pmui cdui ctui ocur kVur dcur pmur cdur ctur ocxno kVxno dcxno pmxno cdxno ctxno ocumu kVumu dcumu pmumu cdumu ctumu occki kVcki dccki pmcki cdcki ctcki ocEI kVEI dcEI pmEI cdEI ctEI ocual kVual dcual pmual cdual ctual ocuca kVuca dcuca pmuca cduca ctuca ocunv kVunv dcunv pmunv cdunv ctunv ocbw kVbw dcbw pmbw cdbw ctbw ocbf kVbf dcbf pmbf cdbf ctbf ocbe kVbe dcbe pmbe cdbe ctbe ocbq kVbq dcbq pmbq cdbq ctbq ocbn kVbn dcbn pmbn cdbn ctbn ocisf kVisf dcisf pmisf cdisf ctisf occkn kVckn dcckn pmckn cdckn ctckn ocso kVso dcso pmso cdso ctso ocito kVito dcito pmito cdito ctito ocsf kVsf dcsf pmsf cdsf ctsf ocfo kVfo dcfo pmfo cdfo ctfo ocho kVho dcho pmho cdho ctho ocsip kVsip dcsip pmsip cdsip ctsip ocfrm kVfrm dcfrm pmfrm cdfrm ctfrm ocwds kVwds dcwds pmwds cdwds ctwds oclop kVlop dclop pmlop cdlop ctlop oclin kVlin dclin pmlin cdlin ctlin ocpas kVpas dcpas pmpas cdpas ctpas ocsli kVsli dcsli pmsli cdsli ctsli ocdon kVdon dcdon pmdon cddon ctdon ocfed kVfed dcfed pmfed cdfed ctfed ocbox kVbox dcbox pmbox cdbox ctbox ocknd kVknd dcknd pmknd cdknd ctknd ocopt kVopt dcopt pmopt cdopt ctopt ocfev kVfev dcfev pmfev cdfev ctfev ocflt kVflt dcflt pmflt cdflt ctflt ocshw kVshw dcshw pmshw cdshw ctshw ocisp kVisp dcisp pmisp cdisp ctisp ocwlk kVwlk dcwlk pmwlk cdwlk ctwlk oclim kVlim dclim pmlim cdlim ctlim ocjar kVjar dcjar pmjar cdjar ctjar ocrt kVrt dcrt pmrt cdrt ctrt oclaw kVlaw dclaw pmlaw cdlaw ctlaw : Value}
    {tkT0 tkT1 tkT2 tkT3 tkT4 tkT5 tkT6 tkT7 tkR0 tkR1 tkR2 tkR3 tkR4 tkR5 tkE0 tkE1 tkE2 tkB tkMR tkME tkMP tkMI tkUA0 tkUA1 tkUP0 tkUP1 tkUE0 tkUE1 tkUE2 tkNM0 tkNM1 tkNM2 tkNM3 tkNM4 : Tok}
    {nT nR nE nUA nUP nUE nNM : Nat}
    {nmIT qIT : Str} {NIT : Addr} {bsIT bmIT : List Value} {snIT : List Str} {subIT : List Value} {abIT : Bool} {colIT : Option Bool} {ddIT : Option Addr} {m0IT m1IT m2IT m3IT m5IT : Option Value}
    {nmES qES : Str} {NES : Addr} {bsES bmES : List Value} {snES : List Str} {subES : List Value} {abES : Bool} {colES : Option Bool} {ddES : Option Addr} {m0ES m1ES m2ES m3ES m5ES : Option Value}
    {nmER qER : Str} {NER : Addr} {bsER bmER : List Value} {snER : List Str} {subER : List Value} {abER : Bool} {colER : Option Bool} {ddER : Option Addr} {m0ER m1ER m2ER m3ER m5ER : Option Value}
    {nmEI qEI : Str} {NEI : Addr} {bsEI bmEI : List Value} {snEI : List Str} {subEI : List Value} {abEI : Bool} {colEI : Option Bool} {ddEI : Option Addr} {m0EI m1EI m2EI m3EI m5EI : Option Value}
    (gT : PySem.W.nsIn K mainGlobals "TESTS" = some (some (.ref pT)))
    (tT : K.lookup pT = some ⟨.type "tuple", odT, .seq #[.str "empty" tkT0, .str "some" tkT1, .str "short" tkT2, .str "full" tkT3, .str "told" tkT4, .str "open" tkT5, .str "rest" tkT6, .str "bare" tkT7] nT, slT⟩)
    (gR : PySem.W.nsIn K mainGlobals "ROUND_STEPS" = some (some (.ref pR)))
    (tR : K.lookup pR = some ⟨.type "tuple", odR, .seq #[.str "add" tkR0, .str "hand" tkR1, .str "cut" tkR2, .str "flush" tkR3, .str "stop" tkR4, .str "again" tkR5] nR, slR⟩)
    (gE : PySem.W.nsIn K mainGlobals "ENDING_STEPS" = some (some (.ref pE)))
    (tE : K.lookup pE = some ⟨.type "tuple", odE, .seq #[.str "hand" tkE0, .str "cut" tkE1, .str "flush" tkE2] nE, slE⟩)
    (mB : PySem.W.nsIn K mainGlobals "BAR" = some (some (.str " | " tkB)))
    (mMR : PySem.W.nsIn K mainGlobals "MOST_ROUND" = some (some (.int 12 tkMR)))
    (mME : PySem.W.nsIn K mainGlobals "MOST_ENDING" = some (some (.int 6 tkME)))
    (awo : PySem.W.nsIn K mainGlobals "words_of" = some (some (.ref fwo)))
    (lwo : K.lookup fwo = some ⟨ocwo, odwo, .func (PySem.W.fnOf "words_of" "words_of" (defArgs sWO) (defBody sWO) (defScope sWO) .none kVwo dcwo pmwo anwo cdwo ctwo), slwo⟩)
    (cwo : PySem.W.codeIn K cdwo "words_of" = true)
    (kwo : PySem.W.keepIn K (.ref fwo) = true)
    (aoo : PySem.W.nsIn K mainGlobals "order_of" = some (some (.ref foo)))
    (loo : K.lookup foo = some ⟨ocoo, odoo, .func (PySem.W.fnOf "order_of" "order_of" (defArgs sOO) (defBody sOO) (defScope sOO) .none kVoo dcoo pmoo anoo cdoo ctoo), sloo⟩)
    (coo : PySem.W.codeIn K cdoo "order_of" = true)
    (koo : PySem.W.keepIn K (.ref foo) = true)
    (aiw : PySem.W.nsIn K mainGlobals "is_word" = some (some (.ref fiw)))
    (liw : K.lookup fiw = some ⟨ociw, odiw, .func (PySem.W.fnOf "is_word" "is_word" (defArgs sIW) (defBody sIW) (defScope sIW) .none kViw dciw pmiw aniw cdiw ctiw), sliw⟩)
    (ciw : PySem.W.codeIn K cdiw "is_word" = true)
    (kiw : PySem.W.keepIn K (.ref fiw) = true)
    (aaw : PySem.W.nsIn K mainGlobals "are_words" = some (some (.ref faw)))
    (law : K.lookup faw = some ⟨ocaw, odaw, .func (PySem.W.fnOf "are_words" "are_words" (defArgs sAW) (defBody sAW) (defScope sAW) .none kVaw dcaw pmaw anaw cdaw ctaw), slaw⟩)
    (caw : PySem.W.codeIn K cdaw "are_words" = true)
    (kaw : PySem.W.keepIn K (.ref faw) = true)
    (air : PySem.W.nsIn K mainGlobals "is_round" = some (some (.ref fir)))
    (lir : K.lookup fir = some ⟨ocir, odir, .func (PySem.W.fnOf "is_round" "is_round" (defArgs sIR) (defBody sIR) (defScope sIR) .none kVir dcir pmir anir cdir ctir), slir⟩)
    (cir : PySem.W.codeIn K cdir "is_round" = true)
    (kir : PySem.W.keepIn K (.ref fir) = true)
    (aie : PySem.W.nsIn K mainGlobals "is_ending" = some (some (.ref fie)))
    (lie : K.lookup fie = some ⟨ocie, odie, .func (PySem.W.fnOf "is_ending" "is_ending" (defArgs sIE) (defBody sIE) (defScope sIE) .none kVie dcie pmie anie cdie ctie), slie⟩)
    (cie : PySem.W.codeIn K cdie "is_ending" = true)
    (kie : PySem.W.keepIn K (.ref fie) = true)
    (aCIT : PySem.W.nsIn K mainGlobals "InvalidText" = some (some (.ref CIT)))
    (aIT : PySem.W.findIn K (.ref CIT) "__init__" = some (some (.ref fIT)))
    (iIT : PySem.W.isFn K (.ref fIT) = true)
    (lIT : K.lookup fIT = some ⟨ocIT, odIT, .func (PySem.W.fnOf "__init__" "InvalidText.__init__" (defArgs sEI) (defBody sEI) (defScope sEI) .none kVIT dcIT pmIT anIT cdIT ctIT), slIT⟩)
    (cIT : PySem.W.codeIn K cdIT "InvalidText.__init__" = true)
    (kIT : PySem.W.keepIn K (.ref fIT) = true)
    (xIT : K.lookup CIT = some (excClassObj nmIT qIT CIT NIT bsIT bmIT true snIT subIT abIT colIT ddIT m0IT m1IT m2IT m3IT m5IT "ValueError.__new__"))
    (xrIT : PySem.HandSPX.refsVE bmIT = true)
    (e1IT : PySem.W.findIn K (.ref CIT) "__setattr__" = some (some (.builtin "object.__setattr__")))
    (e2IT : PySem.W.subIn K (.ref CIT) (.type "BaseException") = some true)
    (e3IT : PySem.W.typeIn K (.ref CIT) = some (.type "type"))
    (e4IT : PySem.W.keepIn K (.ref CIT) = true)
    (e5IT : PySem.W.typeIn K (.ref fIT) = some (.type "function"))
    (e6IT : PySem.W.findIn K (.ref CIT) "value" = some none)
    (aCL : PySem.W.nsIn K mainGlobals "Loop" = some (some (.ref CL)))
    (pgL : PySem.W.plainGet K CL Str.empty = true)
    (hdL : PySem.W.hasDictIn K CL = true)
    (poL : PySem.W.plainOver K CL = true)
    (saL : PySem.W.findIn K (.ref CL) "__setattr__" = some (some (.builtin "object.__setattr__")))
    (mkL : PySem.W.makesIn K CL = true)
    (kcL : PySem.W.keepIn K (.ref CL) = true)
    (nL0 : PySem.W.findIn K (.ref CL) "text" = some none)
    (nL1 : PySem.W.findIn K (.ref CL) "round" = some none)
    (nL2 : PySem.W.findIn K (.ref CL) "ending" = some none)
    (nL3 : PySem.W.findIn K (.ref CL) "round_orders" = some none)
    (nL4 : PySem.W.findIn K (.ref CL) "ending_orders" = some none)
    (ali : PySem.W.findIn K (.ref CL) "__init__" = some (some (.ref fli)))
    (ili : PySem.W.isFn K (.ref fli) = true)
    (lli : K.lookup fli = some ⟨ocli, odli, .func (PySem.W.fnOf "__init__" "Loop.__init__" (defArgs sLI) (defBody sLI) (defScope sLI) .none kVli dcli pmli anli cdli ctli), slli⟩)
    (cli : PySem.W.codeIn K cdli "Loop.__init__" = true)
    (kli : PySem.W.keepIn K (.ref fli) = true)
    (mMP : PySem.W.nsIn K mainGlobals "MOST_REPLIES" = some (some (.int 100 tkMP)))
    (mMI : PySem.W.nsIn K mainGlobals "MOST_ITEMS" = some (some (.int 1000 tkMI)))
    (aiib : PySem.W.nsIn K mainGlobals "is_integer_between" = some (some (.ref fiib)))
    (liib : K.lookup fiib = some ⟨ociib, odiib, .func (PySem.W.fnOf "is_integer_between" "is_integer_between" (defArgs sIIB) (defBody sIIB) (defScope sIIB) .none kViib dciib pmiib aniib cdiib ctiib), sliib⟩)
    (ciib : PySem.W.codeIn K cdiib "is_integer_between" = true)
    (kiib : PySem.W.keepIn K (.ref fiib) = true)
    (aisr : PySem.W.nsIn K mainGlobals "is_reply" = some (some (.ref fisr)))
    (lisr : K.lookup fisr = some ⟨ocisr, odisr, .func (PySem.W.fnOf "is_reply" "is_reply" (defArgs sISR) (defBody sISR) (defScope sISR) .none kVisr dcisr pmisr anisr cdisr ctisr), slisr⟩)
    (cisr : PySem.W.codeIn K cdisr "is_reply" = true)
    (kisr : PySem.W.keepIn K (.ref fisr) = true)
    (acks : PySem.W.nsIn K mainGlobals "check_size" = some (some (.ref fcks)))
    (lcks : K.lookup fcks = some ⟨occks, odcks, .func (PySem.W.fnOf "check_size" "check_size" (defArgs sCKS) (defBody sCKS) (defScope sCKS) .none kVcks dccks pmcks ancks cdcks ctcks), slcks⟩)
    (ccks : PySem.W.codeIn K cdcks "check_size" = true)
    (kcks : PySem.W.keepIn K (.ref fcks) = true)
    (ackr : PySem.W.nsIn K mainGlobals "check_replies" = some (some (.ref fckr)))
    (lckr : K.lookup fckr = some ⟨occkr, odckr, .func (PySem.W.fnOf "check_replies" "check_replies" (defArgs sCKR) (defBody sCKR) (defScope sCKR) .none kVckr dcckr pmckr anckr cdckr ctckr), slckr⟩)
    (cckr : PySem.W.codeIn K cdckr "check_replies" = true)
    (kckr : PySem.W.keepIn K (.ref fckr) = true)
    (aCES : PySem.W.nsIn K mainGlobals "InvalidSize" = some (some (.ref CES)))
    (aES : PySem.W.findIn K (.ref CES) "__init__" = some (some (.ref fES)))
    (iES : PySem.W.isFn K (.ref fES) = true)
    (lES : K.lookup fES = some ⟨ocES, odES, .func (PySem.W.fnOf "__init__" "InvalidSize.__init__" (defArgs sES) (defBody sES) (defScope sES) .none kVES dcES pmES anES cdES ctES), slES⟩)
    (cES : PySem.W.codeIn K cdES "InvalidSize.__init__" = true)
    (kES : PySem.W.keepIn K (.ref fES) = true)
    (xES : K.lookup CES = some (excClassObj nmES qES CES NES bsES bmES true snES subES abES colES ddES m0ES m1ES m2ES m3ES m5ES "ValueError.__new__"))
    (xrES : PySem.HandSPX.refsVE bmES = true)
    (e1ES : PySem.W.findIn K (.ref CES) "__setattr__" = some (some (.builtin "object.__setattr__")))
    (e2ES : PySem.W.subIn K (.ref CES) (.type "BaseException") = some true)
    (e3ES : PySem.W.typeIn K (.ref CES) = some (.type "type"))
    (e4ES : PySem.W.keepIn K (.ref CES) = true)
    (e5ES : PySem.W.typeIn K (.ref fES) = some (.type "function"))
    (e6ES : PySem.W.findIn K (.ref CES) "value" = some none)
    (aCER : PySem.W.nsIn K mainGlobals "InvalidReplies" = some (some (.ref CER)))
    (aER : PySem.W.findIn K (.ref CER) "__init__" = some (some (.ref fER)))
    (iER : PySem.W.isFn K (.ref fER) = true)
    (lER : K.lookup fER = some ⟨ocER, odER, .func (PySem.W.fnOf "__init__" "InvalidReplies.__init__" (defArgs sER) (defBody sER) (defScope sER) .none kVER dcER pmER anER cdER ctER), slER⟩)
    (cER : PySem.W.codeIn K cdER "InvalidReplies.__init__" = true)
    (kER : PySem.W.keepIn K (.ref fER) = true)
    (xER : K.lookup CER = some (excClassObj nmER qER CER NER bsER bmER true snER subER abER colER ddER m0ER m1ER m2ER m3ER m5ER "ValueError.__new__"))
    (xrER : PySem.HandSPX.refsVE bmER = true)
    (e1ER : PySem.W.findIn K (.ref CER) "__setattr__" = some (some (.builtin "object.__setattr__")))
    (e2ER : PySem.W.subIn K (.ref CER) (.type "BaseException") = some true)
    (e3ER : PySem.W.typeIn K (.ref CER) = some (.type "type"))
    (e4ER : PySem.W.keepIn K (.ref CER) = true)
    (e5ER : PySem.W.typeIn K (.ref fER) = some (.type "function"))
    (e6ER : PySem.W.findIn K (.ref CER) "index" = some none)
    (aCX : PySem.W.nsIn K mainGlobals "Execution" = some (some (.ref CX)))
    (pgX : PySem.W.plainGet K CX Str.empty = true)
    (hdX : PySem.W.hasDictIn K CX = true)
    (poX : PySem.W.plainOver K CX = true)
    (saX : PySem.W.findIn K (.ref CX) "__setattr__" = some (some (.builtin "object.__setattr__")))
    (mkX : PySem.W.makesIn K CX = true)
    (kcX : PySem.W.keepIn K (.ref CX) = true)
    (nX0 : PySem.W.findIn K (.ref CX) "round_orders" = some none)
    (nX1 : PySem.W.findIn K (.ref CX) "ending_orders" = some none)
    (nX2 : PySem.W.findIn K (.ref CX) "size" = some none)
    (nX3 : PySem.W.findIn K (.ref CX) "held" = some none)
    (nX4 : PySem.W.findIn K (.ref CX) "told" = some none)
    (nX5 : PySem.W.findIn K (.ref CX) "kept" = some none)
    (nX6 : PySem.W.findIn K (.ref CX) "handed" = some none)
    (nX7 : PySem.W.findIn K (.ref CX) "asked" = some none)
    (nX8 : PySem.W.findIn K (.ref CX) "over" = some none)
    (axi : PySem.W.findIn K (.ref CX) "__init__" = some (some (.ref fxi)))
    (ixi : PySem.W.isFn K (.ref fxi) = true)
    (lxi : K.lookup fxi = some ⟨ocxi, odxi, .func (PySem.W.fnOf "__init__" "Execution.__init__" (defArgs sXI) (defBody sXI) (defScope sXI) .none kVxi dcxi pmxi anxi cdxi ctxi), slxi⟩)
    (cxi : PySem.W.codeIn K cdxi "Execution.__init__" = true)
    (kxi : PySem.W.keepIn K (.ref fxi) = true)
    (axa : PySem.W.findIn K (.ref CX) "answer" = some (some (.ref fxa)))
    (ixa : PySem.W.isFn K (.ref fxa) = true)
    (lxa : K.lookup fxa = some ⟨ocxa, odxa, .func (PySem.W.fnOf "answer" "Execution.answer" (defArgs sXA) (defBody sXA) (defScope sXA) .none kVxa dcxa pmxa anxa cdxa ctxa), slxa⟩)
    (cxa : PySem.W.codeIn K cdxa "Execution.answer" = true)
    (kxa : PySem.W.keepIn K (.ref fxa) = true)
    (axq : PySem.W.findIn K (.ref CX) "finish" = some (some (.ref fxq)))
    (ixq : PySem.W.isFn K (.ref fxq) = true)
    (lxq : K.lookup fxq = some ⟨ocxq, odxq, .func (PySem.W.fnOf "finish" "Execution.finish" (defArgs sXF) (defBody sXF) (defScope sXF) .none kVxq dcxq pmxq anxq cdxq ctxq), slxq⟩)
    (cxq : PySem.W.codeIn K cdxq "Execution.finish" = true)
    (kxq : PySem.W.keepIn K (.ref fxq) = true)
    (axp : PySem.W.findIn K (.ref CX) "passes" = some (some (.ref fxp)))
    (ixp : PySem.W.isFn K (.ref fxp) = true)
    (lxp : K.lookup fxp = some ⟨ocxp, odxp, .func (PySem.W.fnOf "passes" "Execution.passes" (defArgs sXP) (defBody sXP) (defScope sXP) .none kVxp dcxp pmxp anxp cdxp ctxp), slxp⟩)
    (cxp : PySem.W.codeIn K cdxp "Execution.passes" = true)
    (kxp : PySem.W.keepIn K (.ref fxp) = true)
    (axr : PySem.W.findIn K (.ref CX) "perform" = some (some (.ref fxr)))
    (ixr : PySem.W.isFn K (.ref fxr) = true)
    (lxr : K.lookup fxr = some ⟨ocxr, odxr, .func (PySem.W.fnOf "perform" "Execution.perform" (defArgs sXR) (defBody sXR) (defScope sXR) .none kVxr dcxr pmxr anxr cdxr ctxr), slxr⟩)
    (cxr : PySem.W.codeIn K cdxr "Execution.perform" = true)
    (kxr : PySem.W.keepIn K (.ref fxr) = true)
    (axc : PySem.W.findIn K (.ref CX) "cut_off" = some (some (.ref fxc)))
    (ixc : PySem.W.isFn K (.ref fxc) = true)
    (lxc : K.lookup fxc = some ⟨ocxc, odxc, .func (PySem.W.fnOf "cut_off" "Execution.cut_off" (defArgs sXC) (defBody sXC) (defScope sXC) .none kVxc dcxc pmxc anxc cdxc ctxc), slxc⟩)
    (cxc : PySem.W.codeIn K cdxc "Execution.cut_off" = true)
    (kxc : PySem.W.keepIn K (.ref fxc) = true)
    (alx : PySem.W.findIn K (.ref CL) "execution" = some (some (.ref flx)))
    (ilx : PySem.W.isFn K (.ref flx) = true)
    (llx : K.lookup flx = some ⟨oclx, odlx, .func (PySem.W.fnOf "execution" "Loop.execution" (defArgs sLX) (defBody sLX) (defScope sLX) .none kVlx dclx pmlx anlx cdlx ctlx), sllx⟩)
    (clx : PySem.W.codeIn K cdlx "Loop.execution" = true)
    (klx : PySem.W.keepIn K (.ref flx) = true)
    (alt : PySem.W.findIn K (.ref CL) "work_through" = some (some (.ref flt)))
    (ilt : PySem.W.isFn K (.ref flt) = true)
    (llt : K.lookup flt = some ⟨oclt, odlt, .func (PySem.W.fnOf "work_through" "Loop.work_through" (defArgs sLT) (defBody sLT) (defScope sLT) .none kVlt dclt pmlt anlt cdlt ctlt), sllt⟩)
    (clt : PySem.W.codeIn K cdlt "Loop.work_through" = true)
    (klt : PySem.W.keepIn K (.ref flt) = true)
    (gUA : PySem.W.nsIn K mainGlobals "AMOUNTS" = some (some (.ref pUA)))
    (tUA : K.lookup pUA = some ⟨.type "tuple", odUA, .seq #[.str "exact" tkUA0, .str "short" tkUA1] nUA, slUA⟩)
    (gUP : PySem.W.nsIn K mainGlobals "PATIENCES" = some (some (.ref pUP)))
    (tUP : K.lookup pUP = some ⟨.type "tuple", odUP, .seq #[.str "prompt" tkUP0, .str "waiting" tkUP1] nUP, slUP⟩)
    (gUE : PySem.W.nsIn K mainGlobals "ENDS" = some (some (.ref pUE)))
    (tUE : K.lookup pUE = some ⟨.type "tuple", odUE, .seq #[.str "empty" tkUE0, .str "with" tkUE1, .str "behind" tkUE2] nUE, slUE⟩)
    (ackw : PySem.W.nsIn K mainGlobals "check_word" = some (some (.ref fckw)))
    (lckw : K.lookup fckw = some ⟨occkw, odckw, .func (PySem.W.fnOf "check_word" "check_word" (defArgs sQW) (defBody sQW) (defScope sQW) .none kVckw dcckw pmckw anckw cdckw ctckw), slckw⟩)
    (cckw : PySem.W.codeIn K cdckw "check_word" = true)
    (kckw : PySem.W.keepIn K (.ref fckw) = true)
    (aCU : PySem.W.nsIn K mainGlobals "Source" = some (some (.ref CU)))
    (pgU : PySem.W.plainGet K CU Str.empty = true)
    (hdU : PySem.W.hasDictIn K CU = true)
    (poU : PySem.W.plainOver K CU = true)
    (saU : PySem.W.findIn K (.ref CU) "__setattr__" = some (some (.builtin "object.__setattr__")))
    (mkU : PySem.W.makesIn K CU = true)
    (kcU : PySem.W.keepIn K (.ref CU) = true)
    (nU0 : PySem.W.findIn K (.ref CU) "amount" = some none)
    (nU1 : PySem.W.findIn K (.ref CU) "patience" = some none)
    (nU2 : PySem.W.findIn K (.ref CU) "end" = some none)
    (aui : PySem.W.findIn K (.ref CU) "__init__" = some (some (.ref fui)))
    (iui : PySem.W.isFn K (.ref fui) = true)
    (lui : K.lookup fui = some ⟨ocui, odui, .func (PySem.W.fnOf "__init__" "Source.__init__" (defArgs sUI) (defBody sUI) (defScope sUI) .none kVui dcui pmui anui cdui ctui), slui⟩)
    (cui : PySem.W.codeIn K cdui "Source.__init__" = true)
    (kui : PySem.W.keepIn K (.ref fui) = true)
    (aur : PySem.W.findIn K (.ref CU) "__repr__" = some (some (.ref fur)))
    (iur : PySem.W.isFn K (.ref fur) = true)
    (lur : K.lookup fur = some ⟨ocur, odur, .func (PySem.W.fnOf "__repr__" "Source.__repr__" (defArgs sUR) (defBody sUR) (defScope sUR) .none kVur dcur pmur anur cdur ctur), slur⟩)
    (cur : PySem.W.codeIn K cdur "Source.__repr__" = true)
    (kur : PySem.W.keepIn K (.ref fur) = true)
    (y1U : PySem.W.findIn K (.ref CU) "__class__" = some (some (.builtin "object.__class__")))
    (y2U : PySem.W.specialIn K (.builtin "object.__class__") "__get__" = some (some (.builtin "getset_descriptor.__get__")))
    (y3U : PySem.W.takesIn K (.builtin "object.__class__") = some true)
    (y4U : PySem.W.mroIn K CU (.type "object") = some true)
    (y5U : PySem.W.kitOne K (.ref CU) (.ref CU) = some true)
    (axno : PySem.W.findIn K (.ref CX) "answer_nothing" = some (some (.ref fxno)))
    (ixno : PySem.W.isFn K (.ref fxno) = true)
    (lxno : K.lookup fxno = some ⟨ocxno, odxno, .func (PySem.W.fnOf "answer_nothing" "Execution.answer_nothing" (defArgs sXN) (defBody sXN) (defScope sXN) .none kVxno dcxno pmxno anxno cdxno ctxno), slxno⟩)
    (cxno : PySem.W.codeIn K cdxno "Execution.answer_nothing" = true)
    (kxno : PySem.W.keepIn K (.ref fxno) = true)
    (aumu : PySem.W.findIn K (.ref CU) "must_tell" = some (some (.ref fumu)))
    (iumu : PySem.W.isFn K (.ref fumu) = true)
    (lumu : K.lookup fumu = some ⟨ocumu, odumu, .func (PySem.W.fnOf "must_tell" "Source.must_tell" (defArgs sUM) (defBody sUM) (defScope sUM) .none kVumu dcumu pmumu anumu cdumu ctumu), slumu⟩)
    (cumu : PySem.W.codeIn K cdumu "Source.must_tell" = true)
    (kumu : PySem.W.keepIn K (.ref fumu) = true)
    (acki : PySem.W.nsIn K mainGlobals "check_items" = some (some (.ref fcki)))
    (lcki : K.lookup fcki = some ⟨occki, odcki, .func (PySem.W.fnOf "check_items" "check_items" (defArgs sQI) (defBody sQI) (defScope sQI) .none kVcki dccki pmcki ancki cdcki ctcki), slcki⟩)
    (ccki : PySem.W.codeIn K cdcki "check_items" = true)
    (kcki : PySem.W.keepIn K (.ref fcki) = true)
    (aCEI : PySem.W.nsIn K mainGlobals "InvalidItems" = some (some (.ref CEI)))
    (aEI : PySem.W.findIn K (.ref CEI) "__init__" = some (some (.ref fEI)))
    (iEI : PySem.W.isFn K (.ref fEI) = true)
    (lEI : K.lookup fEI = some ⟨ocEI, odEI, .func (PySem.W.fnOf "__init__" "InvalidItems.__init__" (defArgs sQE) (defBody sQE) (defScope sQE) .none kVEI dcEI pmEI anEI cdEI ctEI), slEI⟩)
    (cEI : PySem.W.codeIn K cdEI "InvalidItems.__init__" = true)
    (kEI : PySem.W.keepIn K (.ref fEI) = true)
    (xEI : K.lookup CEI = some (excClassObj nmEI qEI CEI NEI bsEI bmEI true snEI subEI abEI colEI ddEI m0EI m1EI m2EI m3EI m5EI "ValueError.__new__"))
    (xrEI : PySem.HandSPX.refsVE bmEI = true)
    (e1EI : PySem.W.findIn K (.ref CEI) "__setattr__" = some (some (.builtin "object.__setattr__")))
    (e2EI : PySem.W.subIn K (.ref CEI) (.type "BaseException") = some true)
    (e3EI : PySem.W.typeIn K (.ref CEI) = some (.type "type"))
    (e4EI : PySem.W.keepIn K (.ref CEI) = true)
    (e5EI : PySem.W.typeIn K (.ref fEI) = some (.type "function"))
    (e6EI : PySem.W.findIn K (.ref CEI) "value" = some none)
    (aual : PySem.W.findIn K (.ref CU) "allows" = some (some (.ref fual)))
    (iual : PySem.W.isFn K (.ref fual) = true)
    (lual : K.lookup fual = some ⟨ocual, odual, .func (PySem.W.fnOf "allows" "Source.allows" (defArgs sUA) (defBody sUA) (defScope sUA) .none kVual dcual pmual anual cdual ctual), slual⟩)
    (cual : PySem.W.codeIn K cdual "Source.allows" = true)
    (kual : PySem.W.keepIn K (.ref fual) = true)
    (auca : PySem.W.findIn K (.ref CU) "can_hand_out" = some (some (.ref fuca)))
    (iuca : PySem.W.isFn K (.ref fuca) = true)
    (luca : K.lookup fuca = some ⟨ocuca, oduca, .func (PySem.W.fnOf "can_hand_out" "Source.can_hand_out" (defArgs sUC) (defBody sUC) (defScope sUC) .none kVuca dcuca pmuca anuca cduca ctuca), sluca⟩)
    (cuca : PySem.W.codeIn K cduca "Source.can_hand_out" = true)
    (kuca : PySem.W.keepIn K (.ref fuca) = true)
    (aunv : PySem.W.nsIn K mainGlobals "is_uneven" = some (some (.ref funv)))
    (lunv : K.lookup funv = some ⟨ocunv, odunv, .func (PySem.W.fnOf "is_uneven" "is_uneven" (defArgs sUnv) (defBody sUnv) (defScope sUnv) .none kVunv dcunv pmunv anunv cdunv ctunv), slunv⟩)
    (cunv : PySem.W.codeIn K cdunv "is_uneven" = true)
    (kunv : PySem.W.keepIn K (.ref funv) = true)
    (abw : PySem.W.nsIn K mainGlobals "breaks_whole" = some (some (.ref fbw)))
    (lbw : K.lookup fbw = some ⟨ocbw, odbw, .func (PySem.W.fnOf "breaks_whole" "breaks_whole" (defArgs sBw) (defBody sBw) (defScope sBw) .none kVbw dcbw pmbw anbw cdbw ctbw), slbw⟩)
    (cbw : PySem.W.codeIn K cdbw "breaks_whole" = true)
    (kbw : PySem.W.keepIn K (.ref fbw) = true)
    (abf : PySem.W.nsIn K mainGlobals "breaks_filled" = some (some (.ref fbf)))
    (lbf : K.lookup fbf = some ⟨ocbf, odbf, .func (PySem.W.fnOf "breaks_filled" "breaks_filled" (defArgs sBf) (defBody sBf) (defScope sBf) .none kVbf dcbf pmbf anbf cdbf ctbf), slbf⟩)
    (cbf : PySem.W.codeIn K cdbf "breaks_filled" = true)
    (kbf : PySem.W.keepIn K (.ref fbf) = true)
    (abe : PySem.W.nsIn K mainGlobals "breaks_even" = some (some (.ref fbe)))
    (lbe : K.lookup fbe = some ⟨ocbe, odbe, .func (PySem.W.fnOf "breaks_even" "breaks_even" (defArgs sBe) (defBody sBe) (defScope sBe) .none kVbe dcbe pmbe anbe cdbe ctbe), slbe⟩)
    (cbe : PySem.W.codeIn K cdbe "breaks_even" = true)
    (kbe : PySem.W.keepIn K (.ref fbe) = true)
    (abq : PySem.W.nsIn K mainGlobals "breaks_quiet" = some (some (.ref fbq)))
    (lbq : K.lookup fbq = some ⟨ocbq, odbq, .func (PySem.W.fnOf "breaks_quiet" "breaks_quiet" (defArgs sBq) (defBody sBq) (defScope sBq) .none kVbq dcbq pmbq anbq cdbq ctbq), slbq⟩)
    (cbq : PySem.W.codeIn K cdbq "breaks_quiet" = true)
    (kbq : PySem.W.keepIn K (.ref fbq) = true)
    (abn : PySem.W.nsIn K mainGlobals "breaks_ends" = some (some (.ref fbn)))
    (lbn : K.lookup fbn = some ⟨ocbn, odbn, .func (PySem.W.fnOf "breaks_ends" "breaks_ends" (defArgs sBn) (defBody sBn) (defScope sBn) .none kVbn dcbn pmbn anbn cdbn ctbn), slbn⟩)
    (cbn : PySem.W.codeIn K cdbn "breaks_ends" = true)
    (kbn : PySem.W.keepIn K (.ref fbn) = true)
    (gNM : PySem.W.nsIn K mainGlobals "NAMES" = some (some (.ref pNM)))
    (tNM : K.lookup pNM = some ⟨.type "tuple", odNM, .seq #[.str "whole" tkNM0, .str "filled" tkNM1, .str "even" tkNM2, .str "quiet" tkNM3, .str "ends" tkNM4] nNM, slNM⟩)
    (gdB : PySem.W.nsIn K mainGlobals "BREAKS" = some (some (.ref dB)))
    (dwB : He.dicW K dB = some (He.keysIn w.params ["whole", "filled", "even"]))
    (nkBwhole : PySem.W.nsIn K dB "whole" = some (some (.ref fbw)))
    (nkBfilled : PySem.W.nsIn K dB "filled" = some (some (.ref fbf)))
    (nkBeven : PySem.W.nsIn K dB "even" = some (some (.ref fbe)))
    (aisf : PySem.W.nsIn K mainGlobals "is_fault" = some (some (.ref fisf)))
    (lisf : K.lookup fisf = some ⟨ocisf, odisf, .func (PySem.W.fnOf "is_fault" "is_fault" (defArgs sIsF) (defBody sIsF) (defScope sIsF) .none kVisf dcisf pmisf anisf cdisf ctisf), slisf⟩)
    (cisf : PySem.W.codeIn K cdisf "is_fault" = true)
    (kisf : PySem.W.keepIn K (.ref fisf) = true)
    (ackn : PySem.W.nsIn K mainGlobals "check_name" = some (some (.ref fckn)))
    (lckn : K.lookup fckn = some ⟨occkn, odckn, .func (PySem.W.fnOf "check_name" "check_name" (defArgs sCKN) (defBody sCKN) (defScope sCKN) .none kVckn dcckn pmckn anckn cdckn ctckn), slckn⟩)
    (cckn : PySem.W.codeIn K cdckn "check_name" = true)
    (kckn : PySem.W.keepIn K (.ref fckn) = true)
    (aso : PySem.W.nsIn K mainGlobals "source_of" = some (some (.ref fso)))
    (lso : K.lookup fso = some ⟨ocso, odso, .func (PySem.W.fnOf "source_of" "source_of" (defArgs sSo) (defBody sSo) (defScope sSo) .none kVso dcso pmso anso cdso ctso), slso⟩)
    (cso : PySem.W.codeIn K cdso "source_of" = true)
    (kso : PySem.W.keepIn K (.ref fso) = true)
    (aito : PySem.W.nsIn K mainGlobals "is_tuple_of" = some (some (.ref fito)))
    (lito : K.lookup fito = some ⟨ocito, odito, .func (PySem.W.fnOf "is_tuple_of" "is_tuple_of" (defArgs sITO) (defBody sITO) (defScope sITO) .none kVito dcito pmito anito cdito ctito), slito⟩)
    (cito : PySem.W.codeIn K cdito "is_tuple_of" = true)
    (kito : PySem.W.keepIn K (.ref fito) = true)
    (asf : PySem.W.nsIn K mainGlobals "shows_fault" = some (some (.ref fsf)))
    (lsf : K.lookup fsf = some ⟨ocsf, odsf, .func (PySem.W.fnOf "shows_fault" "shows_fault" (defArgs sSF) (defBody sSF) (defScope sSF) .none kVsf dcsf pmsf ansf cdsf ctsf), slsf⟩)
    (csf : PySem.W.codeIn K cdsf "shows_fault" = true)
    (ksf : PySem.W.keepIn K (.ref fsf) = true)
    (gdF : PySem.W.nsIn K mainGlobals "LONG_FORMS" = some (some (.ref dF)))
    (dwF : He.dicW K dF = some (He.keysIn w.params ["always", "fault", "unlike"]))
    (nkF : PySem.W.nsIn K dF "fault" = some (some (.ref fsf)))
    (afo : PySem.W.nsIn K mainGlobals "form_of" = some (some (.ref ffo)))
    (lfo : K.lookup ffo = some ⟨ocfo, odfo, .func (PySem.W.fnOf "form_of" "form_of" (defArgs sFo) (defBody sFo) (defScope sFo) .none kVfo dcfo pmfo anfo cdfo ctfo), slfo⟩)
    (cfo : PySem.W.codeIn K cdfo "form_of" = true)
    (kfo : PySem.W.keepIn K (.ref ffo) = true)
    (aho : PySem.W.nsIn K mainGlobals "holds" = some (some (.ref fho)))
    (lho : K.lookup fho = some ⟨ocho, odho, .func (PySem.W.fnOf "holds" "holds" (defArgs sHo) (defBody sHo) (defScope sHo) .none kVho dcho pmho anho cdho ctho), slho⟩)
    (cho : PySem.W.codeIn K cdho "holds" = true)
    (kho : PySem.W.keepIn K (.ref fho) = true)
    (aCIn : PySem.W.nsIn K mainGlobals "InputError" = some (some (.ref CIn)))
    (xhe : PySem.W.exmOne K (.ref CER) (.ref CIn) = some true)
    (asip : PySem.W.nsIn K mainGlobals "_law_sip" = some (some (.ref fsip)))
    (lsip : K.lookup fsip = some ⟨ocsip, odsip, .func (PySem.W.fnOf "_law_sip" "_law_sip" (defArgs sSip) (defBody sSip) (defScope sSip) .none kVsip dcsip pmsip ansip cdsip ctsip), slsip⟩)
    (csip : PySem.W.codeIn K cdsip "_law_sip" = true)
    (ksip : PySem.W.keepIn K (.ref fsip) = true)
    (afrm : PySem.W.nsIn K mainGlobals "_law_from" = some (some (.ref ffrm)))
    (lfrm : K.lookup ffrm = some ⟨ocfrm, odfrm, .func (PySem.W.fnOf "_law_from" "_law_from" (defArgs sFrom) (defBody sFrom) (defScope sFrom) .none kVfrm dcfrm pmfrm anfrm cdfrm ctfrm), slfrm⟩)
    (cfrm : PySem.W.codeIn K cdfrm "_law_from" = true)
    (kfrm : PySem.W.keepIn K (.ref ffrm) = true)
    (awds : PySem.W.nsIn K mainGlobals "_law_words" = some (some (.ref fwds)))
    (lwds : K.lookup fwds = some ⟨ocwds, odwds, .func (PySem.W.fnOf "_law_words" "_law_words" (defArgs sWords) (defBody sWords) (defScope sWords) .none kVwds dcwds pmwds anwds cdwds ctwds), slwds⟩)
    (cwds : PySem.W.codeIn K cdwds "_law_words" = true)
    (kwds : PySem.W.keepIn K (.ref fwds) = true)
    (alop : PySem.W.nsIn K mainGlobals "_law_loop" = some (some (.ref flop)))
    (llop : K.lookup flop = some ⟨oclop, odlop, .func (PySem.W.fnOf "_law_loop" "_law_loop" (defArgs sLoop) (defBody sLoop) (defScope sLoop) .none kVlop dclop pmlop anlop cdlop ctlop), sllop⟩)
    (clop : PySem.W.codeIn K cdlop "_law_loop" = true)
    (klop : PySem.W.keepIn K (.ref flop) = true)
    (alin : PySem.W.nsIn K mainGlobals "_law_line" = some (some (.ref flin)))
    (llin : K.lookup flin = some ⟨oclin, odlin, .func (PySem.W.fnOf "_law_line" "_law_line" (defArgs sLine) (defBody sLine) (defScope sLine) .none kVlin dclin pmlin anlin cdlin ctlin), sllin⟩)
    (clin : PySem.W.codeIn K cdlin "_law_line" = true)
    (klin : PySem.W.keepIn K (.ref flin) = true)
    (apas : PySem.W.nsIn K mainGlobals "_law_passed" = some (some (.ref fpas)))
    (lpas : K.lookup fpas = some ⟨ocpas, odpas, .func (PySem.W.fnOf "_law_passed" "_law_passed" (defArgs sPassed) (defBody sPassed) (defScope sPassed) .none kVpas dcpas pmpas anpas cdpas ctpas), slpas⟩)
    (cpas : PySem.W.codeIn K cdpas "_law_passed" = true)
    (kpas : PySem.W.keepIn K (.ref fpas) = true)
    (asli : PySem.W.nsIn K mainGlobals "_law_sliced" = some (some (.ref fsli)))
    (lsli : K.lookup fsli = some ⟨ocsli, odsli, .func (PySem.W.fnOf "_law_sliced" "_law_sliced" (defArgs sSliced) (defBody sSliced) (defScope sSliced) .none kVsli dcsli pmsli ansli cdsli ctsli), slsli⟩)
    (csli : PySem.W.codeIn K cdsli "_law_sliced" = true)
    (ksli : PySem.W.keepIn K (.ref fsli) = true)
    (adon : PySem.W.nsIn K mainGlobals "_law_done" = some (some (.ref fdon)))
    (ldon : K.lookup fdon = some ⟨ocdon, oddon, .func (PySem.W.fnOf "_law_done" "_law_done" (defArgs sDone) (defBody sDone) (defScope sDone) .none kVdon dcdon pmdon andon cddon ctdon), sldon⟩)
    (cdon : PySem.W.codeIn K cddon "_law_done" = true)
    (kdon : PySem.W.keepIn K (.ref fdon) = true)
    (afed : PySem.W.nsIn K mainGlobals "_law_fed" = some (some (.ref ffed)))
    (lfed : K.lookup ffed = some ⟨ocfed, odfed, .func (PySem.W.fnOf "_law_fed" "_law_fed" (defArgs sFed) (defBody sFed) (defScope sFed) .none kVfed dcfed pmfed anfed cdfed ctfed), slfed⟩)
    (cfed : PySem.W.codeIn K cdfed "_law_fed" = true)
    (kfed : PySem.W.keepIn K (.ref ffed) = true)
    (abox : PySem.W.nsIn K mainGlobals "_law_box" = some (some (.ref fbox)))
    (lbox : K.lookup fbox = some ⟨ocbox, odbox, .func (PySem.W.fnOf "_law_box" "_law_box" (defArgs sBox) (defBody sBox) (defScope sBox) .none kVbox dcbox pmbox anbox cdbox ctbox), slbox⟩)
    (cbox : PySem.W.codeIn K cdbox "_law_box" = true)
    (kbox : PySem.W.keepIn K (.ref fbox) = true)
    (aknd : PySem.W.nsIn K mainGlobals "_law_kind" = some (some (.ref fknd)))
    (lknd : K.lookup fknd = some ⟨ocknd, odknd, .func (PySem.W.fnOf "_law_kind" "_law_kind" (defArgs sKind) (defBody sKind) (defScope sKind) .none kVknd dcknd pmknd anknd cdknd ctknd), slknd⟩)
    (cknd : PySem.W.codeIn K cdknd "_law_kind" = true)
    (kknd : PySem.W.keepIn K (.ref fknd) = true)
    (aopt : PySem.W.nsIn K mainGlobals "_law_options" = some (some (.ref fopt)))
    (lopt : K.lookup fopt = some ⟨ocopt, odopt, .func (PySem.W.fnOf "_law_options" "_law_options" (defArgs sOpt) (defBody sOpt) (defScope sOpt) .none kVopt dcopt pmopt anopt cdopt ctopt), slopt⟩)
    (copt : PySem.W.codeIn K cdopt "_law_options" = true)
    (kopt : PySem.W.keepIn K (.ref fopt) = true)
    (afev : PySem.W.nsIn K mainGlobals "_law_for_ever" = some (some (.ref ffev)))
    (lfev : K.lookup ffev = some ⟨ocfev, odfev, .func (PySem.W.fnOf "_law_for_ever" "_law_for_ever" (defArgs sFev) (defBody sFev) (defScope sFev) .none kVfev dcfev pmfev anfev cdfev ctfev), slfev⟩)
    (cfev : PySem.W.codeIn K cdfev "_law_for_ever" = true)
    (kfev : PySem.W.keepIn K (.ref ffev) = true)
    (aflt : PySem.W.nsIn K mainGlobals "_law_flat" = some (some (.ref fflt)))
    (lflt : K.lookup fflt = some ⟨ocflt, odflt, .func (PySem.W.fnOf "_law_flat" "_law_flat" (defArgs sFlat) (defBody sFlat) (defScope sFlat) .none kVflt dcflt pmflt anflt cdflt ctflt), slflt⟩)
    (cflt : PySem.W.codeIn K cdflt "_law_flat" = true)
    (kflt : PySem.W.keepIn K (.ref fflt) = true)
    (ashw : PySem.W.nsIn K mainGlobals "_law_shown" = some (some (.ref fshw)))
    (lshw : K.lookup fshw = some ⟨ocshw, odshw, .func (PySem.W.fnOf "_law_shown" "_law_shown" (defArgs sShw) (defBody sShw) (defScope sShw) .none kVshw dcshw pmshw anshw cdshw ctshw), slshw⟩)
    (cshw : PySem.W.codeIn K cdshw "_law_shown" = true)
    (kshw : PySem.W.keepIn K (.ref fshw) = true)
    (aisp : PySem.W.nsIn K mainGlobals "_law_is_paper" = some (some (.ref fisp)))
    (lisp : K.lookup fisp = some ⟨ocisp, odisp, .func (PySem.W.fnOf "_law_is_paper" "_law_is_paper" (defArgs sIsP) (defBody sIsP) (defScope sIsP) .none kVisp dcisp pmisp anisp cdisp ctisp), slisp⟩)
    (cisp : PySem.W.codeIn K cdisp "_law_is_paper" = true)
    (kisp : PySem.W.keepIn K (.ref fisp) = true)
    (awlk : PySem.W.nsIn K mainGlobals "_law_walked" = some (some (.ref fwlk)))
    (lwlk : K.lookup fwlk = some ⟨ocwlk, odwlk, .func (PySem.W.fnOf "_law_walked" "_law_walked" (defArgs sWlk) (defBody sWlk) (defScope sWlk) .none kVwlk dcwlk pmwlk anwlk cdwlk ctwlk), slwlk⟩)
    (cwlk : PySem.W.codeIn K cdwlk "_law_walked" = true)
    (kwlk : PySem.W.keepIn K (.ref fwlk) = true)
    (alim : PySem.W.nsIn K mainGlobals "_law_limit_right" = some (some (.ref flim)))
    (llim : K.lookup flim = some ⟨oclim, odlim, .func (PySem.W.fnOf "_law_limit_right" "_law_limit_right" (defArgs sLim) (defBody sLim) (defScope sLim) .none kVlim dclim pmlim anlim cdlim ctlim), sllim⟩)
    (clim : PySem.W.codeIn K cdlim "_law_limit_right" = true)
    (klim : PySem.W.keepIn K (.ref flim) = true)
    (ajar : PySem.W.nsIn K mainGlobals "_law_jar" = some (some (.ref fjar)))
    (ljar : K.lookup fjar = some ⟨ocjar, odjar, .func (PySem.W.fnOf "_law_jar" "_law_jar" (defArgs sJar) (defBody sJar) (defScope sJar) .none kVjar dcjar pmjar anjar cdjar ctjar), sljar⟩)
    (cjar : PySem.W.codeIn K cdjar "_law_jar" = true)
    (kjar : PySem.W.keepIn K (.ref fjar) = true)
    (art : PySem.W.nsIn K mainGlobals "_law_right" = some (some (.ref frt)))
    (lrt : K.lookup frt = some ⟨ocrt, odrt, .func (PySem.W.fnOf "_law_right" "_law_right" (defArgs sRight) (defBody sRight) (defScope sRight) .none kVrt dcrt pmrt anrt cdrt ctrt), slrt⟩)
    (crt : PySem.W.codeIn K cdrt "_law_right" = true)
    (krt : PySem.W.keepIn K (.ref frt) = true)
    (alaw : PySem.W.nsIn K mainGlobals "law" = some (some (.ref flaw)))
    (llaw : K.lookup flaw = some ⟨oclaw, odlaw, .func (PySem.W.fnOf "law" "law" (defArgs sLaw) (defBody sLaw) (defScope sLaw) .none kVlaw dclaw pmlaw anlaw cdlaw ctlaw), sllaw⟩)
    (claw : PySem.W.codeIn K cdlaw "law" = true)
    (klaw : PySem.W.keepIn K (.ref flaw) = true)
    (z_tuple : PySem.W.nsIn K mainGlobals "tuple" = some none)
    (z_len : PySem.W.nsIn K mainGlobals "len" = some none)
    (z_all : PySem.W.nsIn K mainGlobals "all" = some none)
    (z_isinstance : PySem.W.nsIn K mainGlobals "isinstance" = some none)
    (z_str : PySem.W.nsIn K mainGlobals "str" = some none)
    (z_int : PySem.W.nsIn K mainGlobals "int" = some none)
    (z_bool : PySem.W.nsIn K mainGlobals "bool" = some none)
    (z_enumerate : PySem.W.nsIn K mainGlobals "enumerate" = some none)
    (z_range : PySem.W.nsIn K mainGlobals "range" = some none)
    (z_min : PySem.W.nsIn K mainGlobals "min" = some none)
    (z_list : PySem.W.nsIn K mainGlobals "list" = some none)
    (z_sum : PySem.W.nsIn K mainGlobals "sum" = some none)
    (z_abs : PySem.W.nsIn K mainGlobals "abs" = some none)
    (z_divmod : PySem.W.nsIn K mainGlobals "divmod" = some none)
    (z_any : PySem.W.nsIn K mainGlobals "any" = some none)
    (z_repr : PySem.W.nsIn K mainGlobals "repr" = some none)
    (z_max : PySem.W.nsIn K mainGlobals "max" = some none) :
    Gd.LawG l w K 11 63 "_law_script" mg fa h := by
  have e := hfa.symm.trans (PySem.W.mg_of X G alaw)
  cases e
  have Fwo := fun_mk (st := sWO) lwo cwo kwo
  have bwo := Fwo.binds (ps := ["text"]) fun _ _ _ _ _ _ => Ln.len1 fun _  => rfl
  have Foo := fun_mk (st := sOO) loo coo koo
  have boo := Foo.binds (ps := ["word"]) fun _ _ _ _ _ _ => Ln.len1 fun _  => rfl
  have Fiw := fun_mk (st := sIW) liw ciw kiw
  have biw := Fiw.binds (ps := ["word", "steps"]) fun _ _ _ _ _ _ => Ln.len2 fun _ _  => rfl
  have Faw := fun_mk (st := sAW) law caw kaw
  have baw := Faw.binds (ps := ["words", "steps"]) fun _ _ _ _ _ _ => Ln.len2 fun _ _  => rfl
  have Fir := fun_mk (st := sIR) lir cir kir
  have bir := Fir.binds (ps := ["words"]) fun _ _ _ _ _ _ => Ln.len1 fun _  => rfl
  have Fie := fun_mk (st := sIE) lie cie kie
  have bie := Fie.binds (ps := ["words"]) fun _ _ _ _ _ _ => Ln.len1 fun _  => rfl
  let TL : TxL K mg := ⟨PySem.W.mg_none_of X G z_tuple, PySem.W.mg_none_of X G z_len, PySem.W.mg_none_of X G z_all, ⟨_, PySem.W.mg_of X G mB⟩, ⟨_, PySem.W.mg_of X G mMR⟩, ⟨_, PySem.W.mg_of X G mME⟩, pT, pR, pE, PySem.W.mg_of X G gT, PySem.W.mg_of X G gR, PySem.W.mg_of X G gE, fun H => .inr ⟨_, _, _, tT, rfl, rfl, (by show 8 ≤ sizeLine; decide), .cons ⟨_, rfl⟩ (.cons ⟨_, rfl⟩ (.cons ⟨_, rfl⟩ (.cons ⟨_, rfl⟩ (.cons ⟨_, rfl⟩ (.cons ⟨_, rfl⟩ (.cons ⟨_, rfl⟩ (.cons ⟨_, rfl⟩ (.nil))))))))⟩, fun H => .inr ⟨_, _, _, tR, rfl, rfl, (by show 6 ≤ sizeLine; decide), .cons ⟨_, rfl⟩ (.cons ⟨_, rfl⟩ (.cons ⟨_, rfl⟩ (.cons ⟨_, rfl⟩ (.cons ⟨_, rfl⟩ (.cons ⟨_, rfl⟩ (.nil))))))⟩, fun H => .inr ⟨_, _, _, tE, rfl, rfl, (by show 3 ≤ sizeLine; decide), .cons ⟨_, rfl⟩ (.cons ⟨_, rfl⟩ (.cons ⟨_, rfl⟩ (.nil)))⟩, ⟨fwo, _, Fwo, bwo, PySem.W.mg_of X G awo, kwo⟩, ⟨foo, _, Foo, boo, PySem.W.mg_of X G aoo, koo⟩, ⟨fiw, _, Fiw, biw, PySem.W.mg_of X G aiw, kiw⟩, ⟨faw, _, Faw, baw, PySem.W.mg_of X G aaw, kaw⟩, ⟨fir, _, Fir, bir, PySem.W.mg_of X G air, kir⟩, ⟨fie, _, Fie, bie, PySem.W.mg_of X G aie, kie⟩⟩
  have FIT := fun_mk (st := sEI) lIT cIT kIT
  have bIT := FIT.binds (ps := ["self", "value"]) fun _ _ _ _ _ _ => Ln.len2 fun _ _  => rfl
  have Fli := fun_mk (st := sLI) lli cli kli
  have bli := Fli.binds (ps := ["self", "text"]) fun _ _ _ _ _ _ => Ln.len2 fun _ _  => rfl
  let TC : TxC K mg := ⟨TL, ⟨CIT, fIT, _, PySem.W.mg_of X G aCIT, ⟨⟨nmIT, qIT, NIT, bsIT, bmIT, snIT, subIT, abIT, colIT, ddIT, m0IT, m1IT, m2IT, m3IT, m5IT, xIT, xrIT⟩, e1IT, e2IT, e3IT, e4IT⟩, aIT, e5IT, e6IT, FIT, bIT⟩, PySem.W.mg_none_of X G z_isinstance, PySem.W.mg_none_of X G z_str, CL, PySem.W.mg_of X G aCL, ⟨pgL, hdL, poL, saL⟩, nL0, nL1, nL2, nL3, nL4, fli, _, Fli, bli, ⟨mkL, ali, ili, kcL⟩⟩
  have Fiib := fun_mk (st := sIIB) liib ciib kiib
  have biib := Fiib.binds (ps := ["value", "low", "high"]) fun _ _ _ _ _ _ => Ln.len3 fun _ _ _  => rfl
  have Fisr := fun_mk (st := sISR) lisr cisr kisr
  have bisr := Fisr.binds (ps := ["value", "most"]) fun _ _ _ _ _ _ => Ln.len2 fun _ _  => rfl
  have Fcks := fun_mk (st := sCKS) lcks ccks kcks
  have bcks := Fcks.binds (ps := ["size"]) fun _ _ _ _ _ _ => Ln.len1 fun _  => rfl
  have Fckr := fun_mk (st := sCKR) lckr cckr kckr
  have bckr := Fckr.binds (ps := ["replies", "most"]) fun _ _ _ _ _ _ => Ln.len2 fun _ _  => rfl
  have FES := fun_mk (st := sES) lES cES kES
  have bES := FES.binds (ps := ["self", "value"]) fun _ _ _ _ _ _ => Ln.len2 fun _ _  => rfl
  have FER := fun_mk (st := sER) lER cER kER
  have bER := FER.binds (ps := ["self", "index"]) fun _ _ _ _ _ _ => Ln.len2 fun _ _  => rfl
  let TK : TxK K mg := ⟨PySem.W.mg_none_of X G z_isinstance, PySem.W.mg_none_of X G z_int, PySem.W.mg_none_of X G z_bool, PySem.W.mg_none_of X G z_tuple, PySem.W.mg_none_of X G z_len, PySem.W.mg_none_of X G z_enumerate, ⟨_, PySem.W.mg_of X G mMP⟩, ⟨_, PySem.W.mg_of X G mMI⟩, ⟨fiib, _, Fiib, biib, PySem.W.mg_of X G aiib, kiib⟩, ⟨fisr, _, Fisr, bisr, PySem.W.mg_of X G aisr, kisr⟩, ⟨fcks, _, Fcks, bcks, PySem.W.mg_of X G acks, kcks⟩, ⟨fckr, _, Fckr, bckr, PySem.W.mg_of X G ackr, kckr⟩, ⟨CES, fES, _, PySem.W.mg_of X G aCES, ⟨⟨nmES, qES, NES, bsES, bmES, snES, subES, abES, colES, ddES, m0ES, m1ES, m2ES, m3ES, m5ES, xES, xrES⟩, e1ES, e2ES, e3ES, e4ES⟩, aES, e5ES, e6ES, FES, bES⟩, ⟨CER, fER, _, PySem.W.mg_of X G aCER, ⟨⟨nmER, qER, NER, bsER, bmER, snER, subER, abER, colER, ddER, m0ER, m1ER, m2ER, m3ER, m5ER, xER, xrER⟩, e1ER, e2ER, e3ER, e4ER⟩, aER, e5ER, e6ER, FER, bER⟩⟩
  have Fxi := fun_mk (st := sXI) lxi cxi kxi
  have bxi := Fxi.binds (ps := ["self", "round_orders", "ending_orders", "size", "kept"]) fun _ _ _ _ _ _ => Ln.len5 fun _ _ _ _ _  => rfl
  have Fxa := fun_mk (st := sXA) lxa cxa kxa
  have bxa := Fxa.binds (ps := ["self", "held", "told"]) fun _ _ _ _ _ _ => Ln.len3 fun _ _ _  => rfl
  have Fxq := fun_mk (st := sXF) lxq cxq kxq
  have bxq := Fxq.binds (ps := ["self"]) fun _ _ _ _ _ _ => Ln.len1 fun _  => rfl
  have Fxp := fun_mk (st := sXP) lxp cxp kxp
  have bxp := Fxp.binds (ps := ["self", "test"]) fun _ _ _ _ _ _ => Ln.len2 fun _ _  => rfl
  have Fxr := fun_mk (st := sXR) lxr cxr kxr
  have bxr := Fxr.binds (ps := ["self", "step"]) fun _ _ _ _ _ _ => Ln.len2 fun _ _  => rfl
  have Fxc := fun_mk (st := sXC) lxc cxc kxc
  have bxc := Fxc.binds (ps := ["self"]) fun _ _ _ _ _ _ => Ln.len1 fun _  => rfl
  let TX : TxX K mg := ⟨PySem.W.mg_none_of X G z_len, PySem.W.mg_none_of X G z_range, CX, PySem.W.mg_of X G aCX, ⟨pgX, hdX, poX, saX⟩, nX0, nX1, nX2, nX3, nX4, nX5, nX6, nX7, nX8, fxi, _, Fxi, bxi, ⟨mkX, axi, ixi, kcX⟩, ⟨fxa, _, Fxa, bxa, ⟨axa, ixa, kxa⟩⟩, ⟨fxq, _, Fxq, bxq, ⟨axq, ixq, kxq⟩⟩, ⟨fxp, _, Fxp, bxp, ⟨axp, ixp, kxp⟩⟩, ⟨fxr, _, Fxr, bxr, ⟨axr, ixr, kxr⟩⟩, ⟨fxc, _, Fxc, bxc, ⟨axc, ixc, kxc⟩⟩⟩
  have Flx := fun_mk (st := sLX) llx clx klx
  have blx := Flx.binds (ps := ["self", "size", "kept"]) fun _ _ _ _ _ _ => Ln.len3 fun _ _ _  => rfl
  have Flt := fun_mk (st := sLT) llt clt klt
  have blt := Flt.binds (ps := ["self", "size", "replies"]) fun _ _ _ _ _ _ => Ln.len3 fun _ _ _  => rfl
  let TN : TxN K mg := ⟨TC, TX, TK, ⟨flx, _, Flx, blx, ⟨alx, ilx, klx⟩⟩, ⟨flt, _, Flt, blt, ⟨alt, ilt, klt⟩⟩⟩
  have Fckw := fun_mk (st := sQW) lckw cckw kckw
  have bckw := Fckw.binds (ps := ["word", "words"]) fun _ _ _ _ _ _ => Ln.len2 fun _ _  => rfl
  have Fui := fun_mk (st := sUI) lui cui kui
  have bui := Fui.binds (ps := ["self", "amount", "patience", "end"]) fun _ _ _ _ _ _ => Ln.len4 fun _ _ _ _  => rfl
  have Fur := fun_mk (st := sUR) lur cur kur
  have bur := Fur.binds (ps := ["self"]) fun _ _ _ _ _ _ => Ln.len1 fun _  => rfl
  let TU : TxU K mg := ⟨PySem.W.mg_none_of X G z_isinstance, PySem.W.mg_none_of X G z_str, pUA, pUP, pUE, PySem.W.mg_of X G gUA, PySem.W.mg_of X G gUP, PySem.W.mg_of X G gUE, fun H => .inr ⟨_, _, _, tUA, rfl, rfl, (by show 2 ≤ sizeLine; decide), .cons ⟨_, rfl⟩ (.cons ⟨_, rfl⟩ (.nil))⟩, fun H => .inr ⟨_, _, _, tUP, rfl, rfl, (by show 2 ≤ sizeLine; decide), .cons ⟨_, rfl⟩ (.cons ⟨_, rfl⟩ (.nil))⟩, fun H => .inr ⟨_, _, _, tUE, rfl, rfl, (by show 3 ≤ sizeLine; decide), .cons ⟨_, rfl⟩ (.cons ⟨_, rfl⟩ (.cons ⟨_, rfl⟩ (.nil)))⟩, ⟨fckw, _, Fckw, bckw, PySem.W.mg_of X G ackw, kckw⟩, CU, PySem.W.mg_of X G aCU, ⟨pgU, hdU, poU, saU⟩, nU0, nU1, nU2, fui, _, Fui, bui, ⟨mkU, aui, iui, kcU⟩, ⟨fur, _, Fur, bur, aur, iur⟩, y1U, y2U, y3U, y4U, y5U⟩
  have Fxno := fun_mk (st := sXN) lxno cxno kxno
  have bxno := Fxno.binds (ps := ["self", "told"]) fun _ _ _ _ _ _ => Ln.len2 fun _ _  => rfl
  have Fumu := fun_mk (st := sUM) lumu cumu kumu
  have bumu := Fumu.binds (ps := ["self", "before", "after"]) fun _ _ _ _ _ _ => Ln.len3 fun _ _ _  => rfl
  let TUm : TxUm K mg := ⟨TU, ⟨fumu, _, Fumu, bumu, ⟨aumu, iumu, kumu⟩⟩⟩
  let TXn : TxXn K mg := ⟨TX, ⟨fxno, _, Fxno, bxno, ⟨axno, ixno, kxno⟩⟩⟩
  have Fcki := fun_mk (st := sQI) lcki ccki kcki
  have bcki := Fcki.binds (ps := ["items"]) fun _ _ _ _ _ _ => Ln.len1 fun _  => rfl
  have FEI := fun_mk (st := sQE) lEI cEI kEI
  have bEI := FEI.binds (ps := ["self", "value"]) fun _ _ _ _ _ _ => Ln.len2 fun _ _  => rfl
  have Fual := fun_mk (st := sUA) lual cual kual
  have bual := Fual.binds (ps := ["self", "items", "size", "replies"]) fun _ _ _ _ _ _ => Ln.len4 fun _ _ _ _  => rfl
  have Fuca := fun_mk (st := sUC) luca cuca kuca
  have buca := Fuca.binds (ps := ["self", "left", "size", "count"]) fun _ _ _ _ _ _ => Ln.len4 fun _ _ _ _  => rfl
  let TUa : TxUa K mg := ⟨TUm, TK, PySem.W.mg_none_of X G z_min, ⟨fcki, _, Fcki, bcki, PySem.W.mg_of X G acki, kcki⟩, ⟨CEI, fEI, _, PySem.W.mg_of X G aCEI, ⟨⟨nmEI, qEI, NEI, bsEI, bmEI, snEI, subEI, abEI, colEI, ddEI, m0EI, m1EI, m2EI, m3EI, m5EI, xEI, xrEI⟩, e1EI, e2EI, e3EI, e4EI⟩, aEI, e5EI, e6EI, FEI, bEI⟩, ⟨fual, _, Fual, bual, ⟨aual, iual, kual⟩⟩, ⟨fuca, _, Fuca, buca, ⟨auca, iuca, kuca⟩⟩⟩
  have Funv := fun_mk (st := sUnv) lunv cunv kunv
  have bunv := Funv.binds (ps := ["work"]) fun _ _ _ _ _ _ => Ln.len1 fun _  => rfl
  have Fbw := fun_mk (st := sBw) lbw cbw kbw
  have bbw := Fbw.binds (ps := ["before", "work", "items"]) fun _ _ _ _ _ _ => Ln.len3 fun _ _ _  => rfl
  have Fbf := fun_mk (st := sBf) lbf cbf kbf
  have bbf := Fbf.binds (ps := ["before", "work", "items"]) fun _ _ _ _ _ _ => Ln.len3 fun _ _ _  => rfl
  have Fbe := fun_mk (st := sBe) lbe cbe kbe
  have bbe := Fbe.binds (ps := ["before", "work", "items"]) fun _ _ _ _ _ _ => Ln.len3 fun _ _ _  => rfl
  have Fbq := fun_mk (st := sBq) lbq cbq kbq
  have bbq := Fbq.binds (ps := ["work", "replies"]) fun _ _ _ _ _ _ => Ln.len2 fun _ _  => rfl
  have Fbn := fun_mk (st := sBn) lbn cbn kbn
  have bbn := Fbn.binds (ps := ["work", "source", "items", "replies"]) fun _ _ _ _ _ _ => Ln.len4 fun _ _ _ _  => rfl
  let TFa : TxFa w K mg := ⟨TUa, TN, TXn, rfl, PySem.W.mg_none_of X G z_list, PySem.W.mg_none_of X G z_sum, ⟨funv, _, Funv, bunv, PySem.W.mg_of X G aunv, kunv⟩, ⟨fbw, _, Fbw, bbw, PySem.W.mg_of X G abw, kbw⟩, ⟨fbf, _, Fbf, bbf, PySem.W.mg_of X G abf, kbf⟩, ⟨fbe, _, Fbe, bbe, PySem.W.mg_of X G abe, kbe⟩, ⟨fbq, _, Fbq, bbq, PySem.W.mg_of X G abq, kbq⟩, ⟨fbn, _, Fbn, bbn, PySem.W.mg_of X G abn, kbn⟩⟩
  have Fisf := fun_mk (st := sIsF) lisf cisf kisf
  have bisf := Fisf.binds (ps := ["loop", "source", "name", "items", "size", "replies"]) fun _ _ _ _ _ _ => Ln.len6 fun _ _ _ _ _ _  => rfl
  have Fckn := fun_mk (st := sCKN) lckn cckn kckn
  have bckn := Fckn.binds (ps := ["name"]) fun _ _ _ _ _ _ => Ln.len1 fun _  => rfl
  have Fso := fun_mk (st := sSo) lso cso kso
  have bso := Fso.binds (ps := ["text"]) fun _ _ _ _ _ _ => Ln.len1 fun _  => rfl
  have Fito := fun_mk (st := sITO) lito cito kito
  have bito := Fito.binds (ps := ["value", "many"]) fun _ _ _ _ _ _ => Ln.len2 fun _ _  => rfl
  have Fsf := fun_mk (st := sSF) lsf csf ksf
  have bsf := Fsf.binds (ps := ["claim", "paper"]) fun _ _ _ _ _ _ => Ln.len2 fun _ _  => rfl
  have Ffo := fun_mk (st := sFo) lfo cfo kfo
  have bfo := Ffo.binds (ps := ["claim"]) fun _ _ _ _ _ _ => Ln.len1 fun _  => rfl
  have Fho := fun_mk (st := sHo) lho cho kho
  have bho := Fho.binds (ps := ["claim", "paper"]) fun _ _ _ _ _ _ => Ln.len2 fun _ _  => rfl
  let THf : TxHf w K mg := ⟨TFa, PySem.W.mg_none_of X G z_tuple, pNM, PySem.W.mg_of X G gNM, fun H => .inr ⟨_, _, _, tNM, rfl, rfl, (by show 5 ≤ sizeLine; decide), .cons ⟨_, rfl⟩ (.cons ⟨_, rfl⟩ (.cons ⟨_, rfl⟩ (.cons ⟨_, rfl⟩ (.cons ⟨_, rfl⟩ (.nil)))))⟩, dB, PySem.W.mg_of X G gdB, dwB, ⟨nkBwhole, nkBfilled, nkBeven⟩, ⟨fisf, _, Fisf, bisf, PySem.W.mg_of X G aisf, kisf⟩, ⟨fckn, _, Fckn, bckn, PySem.W.mg_of X G ackn, kckn⟩, ⟨fso, _, Fso, bso, PySem.W.mg_of X G aso, kso⟩, ⟨fito, _, Fito, bito, PySem.W.mg_of X G aito, kito⟩, ⟨fsf, _, Fsf, bsf, PySem.W.mg_of X G asf, ksf⟩, dF, PySem.W.mg_of X G gdF, dwF, nkF, ⟨ffo, _, Ffo, bfo, PySem.W.mg_of X G afo, kfo⟩, ⟨fho, _, Fho, bho, PySem.W.mg_of X G aho, kho⟩, CIn, PySem.W.mg_of X G aCIn, xhe⟩
  have Fsip := fun_mk (st := sSip) lsip csip ksip
  have bsip := Fsip.binds (ps := ["_law_jar_here", "_law_many"]) fun _ _ _ _ _ _ => Ln.len2 fun _ _  => rfl
  have Ffrm := fun_mk (st := sFrom) lfrm cfrm kfrm
  have bfrm := Ffrm.binds (ps := ["_law_jar_here", "_law_things"]) fun _ _ _ _ _ _ => Ln.len2 fun _ _  => rfl
  have Fwds := fun_mk (st := sWords) lwds cwds kwds
  have bwds := Fwds.binds (ps := ["_law_jar_here", "_law_steps", "_law_many"]) fun _ _ _ _ _ _ => Ln.len3 fun _ _ _  => rfl
  have Flop := fun_mk (st := sLoop) llop clop klop
  have blop := Flop.binds (ps := ["_law_jar_here", "_law_most"]) fun _ _ _ _ _ _ => Ln.len2 fun _ _  => rfl
  have Flin := fun_mk (st := sLine) llin clin klin
  have blin := Flin.binds (ps := ["_law_begun", "_law_ended"]) fun _ _ _ _ _ _ => Ln.len2 fun _ _  => rfl
  let TD : TxD K mg := ⟨⟨PySem.W.mg_none_of X G z_len, PySem.W.mg_none_of X G z_int, PySem.W.mg_none_of X G z_abs, PySem.W.mg_none_of X G z_divmod⟩, PySem.W.mg_none_of X G z_range, ⟨fsip, _, Fsip, bsip, PySem.W.mg_of X G asip, ksip⟩, ⟨ffrm, _, Ffrm, bfrm, PySem.W.mg_of X G afrm, kfrm⟩, ⟨fwds, _, Fwds, bwds, PySem.W.mg_of X G awds, kwds⟩, ⟨flop, _, Flop, blop, PySem.W.mg_of X G alop, klop⟩, ⟨flin, _, Flin, blin, PySem.W.mg_of X G alin, klin⟩⟩
  have Fpas := fun_mk (st := sPassed) lpas cpas kpas
  have bpas := Fpas.binds (ps := ["_law_test", "_law_got", "_law_box_here", "_law_said", "_law_wide"]) fun _ _ _ _ _ _ => Ln.len5 fun _ _ _ _ _  => rfl
  have Fsli := fun_mk (st := sSliced) lsli csli ksli
  have bsli := Fsli.binds (ps := ["_law_row_here", "_law_wide", "_law_many"]) fun _ _ _ _ _ _ => Ln.len3 fun _ _ _  => rfl
  have Fdon := fun_mk (st := sDone) ldon cdon kdon
  have bdon := Fdon.binds (ps := ["_law_words_here", "_law_got", "_law_box_here", "_law_said", "_law_wide"]) fun _ _ _ _ _ _ => Ln.len5 fun _ _ _ _ _  => rfl
  have Ffed := fun_mk (st := sFed) lfed cfed kfed
  have bfed := Ffed.binds (ps := ["_law_made", "_law_box_here", "_law_many", "_law_said", "_law_wide"]) fun _ _ _ _ _ _ => Ln.len5 fun _ _ _ _ _  => rfl
  have Fbox := fun_mk (st := sBox) lbox cbox kbox
  have bbox := Fbox.binds (ps := []) fun _ _ _ _ _ _ => Ln.len0 fun (_ : Unit) => rfl
  let TB : TxB K mg := ⟨⟨PySem.W.mg_none_of X G z_len, PySem.W.mg_none_of X G z_int, PySem.W.mg_none_of X G z_abs, PySem.W.mg_none_of X G z_divmod⟩, PySem.W.mg_none_of X G z_range, PySem.W.mg_none_of X G z_tuple, PySem.W.mg_none_of X G z_list, ⟨fpas, _, Fpas, bpas, PySem.W.mg_of X G apas, kpas⟩, ⟨fsli, _, Fsli, bsli, PySem.W.mg_of X G asli, ksli⟩, ⟨fdon, _, Fdon, bdon, PySem.W.mg_of X G adon, kdon⟩, ⟨ffed, _, Ffed, bfed, PySem.W.mg_of X G afed, kfed⟩, ⟨fbox, _, Fbox, bbox, PySem.W.mg_of X G abox, kbox⟩⟩
  have Fknd := fun_mk (st := sKind) lknd cknd kknd
  have bknd := Fknd.binds (ps := ["_law_jar_here"]) fun _ _ _ _ _ _ => Ln.len1 fun _  => rfl
  have Fopt := fun_mk (st := sOpt) lopt copt kopt
  have bopt := Fopt.binds (ps := ["_law_kind_here", "_law_left", "_law_wide"]) fun _ _ _ _ _ _ => Ln.len3 fun _ _ _  => rfl
  have Ffev := fun_mk (st := sFev) lfev cfev kfev
  have bfev := Ffev.binds (ps := ["_law_made", "_law_kind_here", "_law_box_here", "_law_wide"]) fun _ _ _ _ _ _ => Ln.len4 fun _ _ _ _  => rfl
  have Fflt := fun_mk (st := sFlat) lflt cflt kflt
  have bflt := Fflt.binds (ps := ["_law_out"]) fun _ _ _ _ _ _ => Ln.len1 fun _  => rfl
  have Fshw := fun_mk (st := sShw) lshw cshw kshw
  have bshw := Fshw.binds (ps := ["_law_made", "_law_kind_here", "_law_tale", "_law_prop", "_law_left", "_law_box_here", "_law_wide"]) fun _ _ _ _ _ _ => Ln.len7 fun _ _ _ _ _ _ _  => rfl
  let TLw : TxLw K mg := ⟨TB, TD, PySem.W.mg_none_of X G z_min, PySem.W.mg_none_of X G z_any, ⟨fknd, _, Fknd, bknd, PySem.W.mg_of X G aknd, kknd⟩, ⟨fopt, _, Fopt, bopt, PySem.W.mg_of X G aopt, kopt⟩, ⟨ffev, _, Ffev, bfev, PySem.W.mg_of X G afev, kfev⟩, ⟨fflt, _, Fflt, bflt, PySem.W.mg_of X G aflt, kflt⟩, ⟨fshw, _, Fshw, bshw, PySem.W.mg_of X G ashw, kshw⟩⟩
  have Fisp := fun_mk (st := sIsP) lisp cisp kisp
  have bisp := Fisp.binds (ps := ["_law_made", "_law_kind_here", "_law_prop", "_law_paper_here"]) fun _ _ _ _ _ _ => Ln.len4 fun _ _ _ _  => rfl
  have Fwlk := fun_mk (st := sWlk) lwlk cwlk kwlk
  have bwlk := Fwlk.binds (ps := ["_law_jar_here", "_law_made", "_law_kind_here", "_law_many", "_law_wide"]) fun _ _ _ _ _ _ => Ln.len5 fun _ _ _ _ _  => rfl
  let TIp : TxIp K mg := ⟨TLw, ⟨fisp, _, Fisp, bisp, PySem.W.mg_of X G aisp, kisp⟩, ⟨fwlk, _, Fwlk, bwlk, PySem.W.mg_of X G awlk, kwlk⟩⟩
  have Flim := fun_mk (st := sLim) llim clim klim
  have blim := Flim.binds (ps := []) fun _ _ _ _ _ _ => Ln.len0 fun (_ : Unit) => rfl
  have KF : KBinds K (PySem.W.fnOf "holds" "holds" (defArgs sHo) (defBody sHo) (defScope sHo) .none kVho dcho pmho anho cdho ctho) ["claim", "paper"] ["paper", "claim"] gK0 gK0V := ⟨fun s us ws _ hl => by
      match us, ws, hl with
      | [], [_, _], _ => exact .of_eq rfl, fun h1 h2 => gK0_rel h1 h2⟩
  have Fjar := fun_mk (st := sJar) ljar cjar kjar
  have bjar := Fjar.binds (ps := ["_law_script", "_law_k"]) fun _ _ _ _ _ _ => Ln.len2 fun _ _  => rfl
  have Frt := fun_mk (st := sRight) lrt crt krt
  have brt := Frt.binds (ps := ["_law_jar_here"]) fun _ _ _ _ _ _ => Ln.len1 fun _  => rfl
  have Flaw := fun_mk (st := sLaw) llaw claw klaw
  let R : TxR w K mg := ⟨THf, TIp, PySem.W.mg_none_of X G z_repr, PySem.W.mg_none_of X G z_max, KF, ⟨flim, _, Flim, blim, PySem.W.mg_of X G alim, klim⟩⟩
  exact ⟨_, [], spLaw K, fun p hp => (nomatch hp), fun p hp => (nomatch hp), fun p hp => (nomatch hp), fun s v => .of_eq rfl, fun H a ns hl _ hS => ⟨a, ns, rfl, hS, hl, fun _ => rfl⟩, fun base _ _ sm _ => ok_law Flaw TD.J TD.range (PySem.W.mg_none_of X G z_all) 10 (ok_right Frt R sm) Fjar bjar (PySem.W.mg_of X G ajar) kjar (by decide) R.lim (ok_lim R) brt (PySem.W.mg_of X G art) krt (PySem.W.mg_none_of X G z_max) (PySem.W.mg_none_of X G z_min)⟩
end My
open PySem PySem.W PyProof.Rows in
set_option maxRecDepth 100000 in
set_option maxHeartbeats 0 in
theorem PySem.Challenge.cw_lastshort_k69_whole_papers_of_faults_jud_holds : PySem.Challenge.rw_lastshort_k69_whole_papers_of_faults_jud.Holds := by
  refine Hd69 ?_
  k_fill
  refine Gd.walk_ofG (l := PySem.Challenge.rw_lastshort_k69_whole_papers_of_faults_jud) (n := 63) (k := 11) (x := "_law_script") rfl (by decide) rfl (by decide +kernel) ⟨rfl, by decide, by decide⟩ (fun w h Y => PySem.W.kIn_of Y) ?F
  case F =>
    intro w mg fa h Y KX G hmg
    refine' My.all_mk KX G hmg ?gT ?tT ?gR ?tR ?gE ?tE ?mB ?mMR ?mME ?awo ?lwo ?cwo ?kwo ?aoo ?loo ?coo ?koo ?aiw ?liw ?ciw ?kiw ?aaw ?law ?caw ?kaw ?air ?lir ?cir ?kir ?aie ?lie ?cie ?kie ?aCIT ?aIT ?iIT ?lIT ?cIT ?kIT ?xIT ?xrIT ?e1IT ?e2IT ?e3IT ?e4IT ?e5IT ?e6IT ?aCL ?pgL ?hdL ?poL ?saL ?mkL ?kcL ?nL0 ?nL1 ?nL2 ?nL3 ?nL4 ?ali ?ili ?lli ?cli ?kli ?mMP ?mMI ?aiib ?liib ?ciib ?kiib ?aisr ?lisr ?cisr ?kisr ?acks ?lcks ?ccks ?kcks ?ackr ?lckr ?cckr ?kckr ?aCES ?aES ?iES ?lES ?cES ?kES ?xES ?xrES ?e1ES ?e2ES ?e3ES ?e4ES ?e5ES ?e6ES ?aCER ?aER ?iER ?lER ?cER ?kER ?xER ?xrER ?e1ER ?e2ER ?e3ER ?e4ER ?e5ER ?e6ER ?aCX ?pgX ?hdX ?poX ?saX ?mkX ?kcX ?nX0 ?nX1 ?nX2 ?nX3 ?nX4 ?nX5 ?nX6 ?nX7 ?nX8 ?axi ?ixi ?lxi ?cxi ?kxi ?axa ?ixa ?lxa ?cxa ?kxa ?axq ?ixq ?lxq ?cxq ?kxq ?axp ?ixp ?lxp ?cxp ?kxp ?axr ?ixr ?lxr ?cxr ?kxr ?axc ?ixc ?lxc ?cxc ?kxc ?alx ?ilx ?llx ?clx ?klx ?alt ?ilt ?llt ?clt ?klt ?gUA ?tUA ?gUP ?tUP ?gUE ?tUE ?ackw ?lckw ?cckw ?kckw ?aCU ?pgU ?hdU ?poU ?saU ?mkU ?kcU ?nU0 ?nU1 ?nU2 ?aui ?iui ?lui ?cui ?kui ?aur ?iur ?lur ?cur ?kur ?y1U ?y2U ?y3U ?y4U ?y5U ?axno ?ixno ?lxno ?cxno ?kxno ?aumu ?iumu ?lumu ?cumu ?kumu ?acki ?lcki ?ccki ?kcki ?aCEI ?aEI ?iEI ?lEI ?cEI ?kEI ?xEI ?xrEI ?e1EI ?e2EI ?e3EI ?e4EI ?e5EI ?e6EI ?aual ?iual ?lual ?cual ?kual ?auca ?iuca ?luca ?cuca ?kuca ?aunv ?lunv ?cunv ?kunv ?abw ?lbw ?cbw ?kbw ?abf ?lbf ?cbf ?kbf ?abe ?lbe ?cbe ?kbe ?abq ?lbq ?cbq ?kbq ?abn ?lbn ?cbn ?kbn ?gNM ?tNM ?gdB ?dwB ?nkBwhole ?nkBfilled ?nkBeven ?aisf ?lisf ?cisf ?kisf ?ackn ?lckn ?cckn ?kckn ?aso ?lso ?cso ?kso ?aito ?lito ?cito ?kito ?asf ?lsf ?csf ?ksf ?gdF ?dwF ?nkF ?afo ?lfo ?cfo ?kfo ?aho ?lho ?cho ?kho ?aCIn ?xhe ?asip ?lsip ?csip ?ksip ?afrm ?lfrm ?cfrm ?kfrm ?awds ?lwds ?cwds ?kwds ?alop ?llop ?clop ?klop ?alin ?llin ?clin ?klin ?apas ?lpas ?cpas ?kpas ?asli ?lsli ?csli ?ksli ?adon ?ldon ?cdon ?kdon ?afed ?lfed ?cfed ?kfed ?abox ?lbox ?cbox ?kbox ?aknd ?lknd ?cknd ?kknd ?aopt ?lopt ?copt ?kopt ?afev ?lfev ?cfev ?kfev ?aflt ?lflt ?cflt ?kflt ?ashw ?lshw ?cshw ?kshw ?aisp ?lisp ?cisp ?kisp ?awlk ?lwlk ?cwlk ?kwlk ?alim ?llim ?clim ?klim ?ajar ?ljar ?cjar ?kjar ?art ?lrt ?crt ?krt ?alaw ?llaw ?claw ?klaw ?z_tuple ?z_len ?z_all ?z_isinstance ?z_str ?z_int ?z_bool ?z_enumerate ?z_range ?z_min ?z_list ?z_sum ?z_abs ?z_divmod ?z_any ?z_repr ?z_max
    (case gT => k_is)
    (case tT => k_is)
    (case gR => k_is)
    (case tR => k_is)
    (case gE => k_is)
    (case tE => k_is)
    (case mB => k_is)
    (case mMR => k_is)
    (case mME => k_is)
    (case awo => k_is)
    (case lwo => k_is)
    (case cwo => k_is)
    (case kwo => k_is)
    (case aoo => k_is)
    (case loo => k_is)
    (case coo => k_is)
    (case koo => k_is)
    (case aiw => k_is)
    (case liw => k_is)
    (case ciw => k_is)
    (case kiw => k_is)
    (case aaw => k_is)
    (case law => k_is)
    (case caw => k_is)
    (case kaw => k_is)
    (case air => k_is)
    (case lir => k_is)
    (case cir => k_is)
    (case kir => k_is)
    (case aie => k_is)
    (case lie => k_is)
    (case cie => k_is)
    (case kie => k_is)
    (case aCIT => k_is)
    (case aIT => k_is)
    (case iIT => k_is)
    (case lIT => k_is)
    (case cIT => k_is)
    (case kIT => k_is)
    (case xIT => k_is)
    (case xrIT => decide +kernel)
    (case e1IT => k_is)
    (case e2IT => k_is)
    (case e3IT => k_is)
    (case e4IT => k_is)
    (case e5IT => k_is)
    (case e6IT => k_is)
    (case aCL => k_is)
    (case pgL => k_is)
    (case hdL => k_is)
    (case poL => k_is)
    (case saL => k_is)
    (case mkL => k_is)
    (case kcL => k_is)
    (case nL0 => k_is)
    (case nL1 => k_is)
    (case nL2 => k_is)
    (case nL3 => k_is)
    (case nL4 => k_is)
    (case ali => k_is)
    (case ili => k_is)
    (case lli => k_is)
    (case cli => k_is)
    (case kli => k_is)
    (case mMP => k_is)
    (case mMI => k_is)
    (case aiib => k_is)
    (case liib => k_is)
    (case ciib => k_is)
    (case kiib => k_is)
    (case aisr => k_is)
    (case lisr => k_is)
    (case cisr => k_is)
    (case kisr => k_is)
    (case acks => k_is)
    (case lcks => k_is)
    (case ccks => k_is)
    (case kcks => k_is)
    (case ackr => k_is)
    (case lckr => k_is)
    (case cckr => k_is)
    (case kckr => k_is)
    (case aCES => k_is)
    (case aES => k_is)
    (case iES => k_is)
    (case lES => k_is)
    (case cES => k_is)
    (case kES => k_is)
    (case xES => k_is)
    (case xrES => decide +kernel)
    (case e1ES => k_is)
    (case e2ES => k_is)
    (case e3ES => k_is)
    (case e4ES => k_is)
    (case e5ES => k_is)
    (case e6ES => k_is)
    (case aCER => k_is)
    (case aER => k_is)
    (case iER => k_is)
    (case lER => k_is)
    (case cER => k_is)
    (case kER => k_is)
    (case xER => k_is)
    (case xrER => decide +kernel)
    (case e1ER => k_is)
    (case e2ER => k_is)
    (case e3ER => k_is)
    (case e4ER => k_is)
    (case e5ER => k_is)
    (case e6ER => k_is)
    (case aCX => k_is)
    (case pgX => k_is)
    (case hdX => k_is)
    (case poX => k_is)
    (case saX => k_is)
    (case mkX => k_is)
    (case kcX => k_is)
    (case nX0 => k_is)
    (case nX1 => k_is)
    (case nX2 => k_is)
    (case nX3 => k_is)
    (case nX4 => k_is)
    (case nX5 => k_is)
    (case nX6 => k_is)
    (case nX7 => k_is)
    (case nX8 => k_is)
    (case axi => k_is)
    (case ixi => k_is)
    (case lxi => k_is)
    (case cxi => k_is)
    (case kxi => k_is)
    (case axa => k_is)
    (case ixa => k_is)
    (case lxa => k_is)
    (case cxa => k_is)
    (case kxa => k_is)
    (case axq => k_is)
    (case ixq => k_is)
    (case lxq => k_is)
    (case cxq => k_is)
    (case kxq => k_is)
    (case axp => k_is)
    (case ixp => k_is)
    (case lxp => k_is)
    (case cxp => k_is)
    (case kxp => k_is)
    (case axr => k_is)
    (case ixr => k_is)
    (case lxr => k_is)
    (case cxr => k_is)
    (case kxr => k_is)
    (case axc => k_is)
    (case ixc => k_is)
    (case lxc => k_is)
    (case cxc => k_is)
    (case kxc => k_is)
    (case alx => k_is)
    (case ilx => k_is)
    (case llx => k_is)
    (case clx => k_is)
    (case klx => k_is)
    (case alt => k_is)
    (case ilt => k_is)
    (case llt => k_is)
    (case clt => k_is)
    (case klt => k_is)
    (case gUA => k_is)
    (case tUA => k_is)
    (case gUP => k_is)
    (case tUP => k_is)
    (case gUE => k_is)
    (case tUE => k_is)
    (case ackw => k_is)
    (case lckw => k_is)
    (case cckw => k_is)
    (case kckw => k_is)
    (case aCU => k_is)
    (case pgU => k_is)
    (case hdU => k_is)
    (case poU => k_is)
    (case saU => k_is)
    (case mkU => k_is)
    (case kcU => k_is)
    (case nU0 => k_is)
    (case nU1 => k_is)
    (case nU2 => k_is)
    (case aui => k_is)
    (case iui => k_is)
    (case lui => k_is)
    (case cui => k_is)
    (case kui => k_is)
    (case aur => k_is)
    (case iur => k_is)
    (case lur => k_is)
    (case cur => k_is)
    (case kur => k_is)
    (case y1U => k_is)
    (case y2U => k_is)
    (case y3U => k_is)
    (case y4U => k_is)
    (case y5U => kernel_rfl)
    (case axno => k_is)
    (case ixno => k_is)
    (case lxno => k_is)
    (case cxno => k_is)
    (case kxno => k_is)
    (case aumu => k_is)
    (case iumu => k_is)
    (case lumu => k_is)
    (case cumu => k_is)
    (case kumu => k_is)
    (case acki => k_is)
    (case lcki => k_is)
    (case ccki => k_is)
    (case kcki => k_is)
    (case aCEI => k_is)
    (case aEI => k_is)
    (case iEI => k_is)
    (case lEI => k_is)
    (case cEI => k_is)
    (case kEI => k_is)
    (case xEI => k_is)
    (case xrEI => decide +kernel)
    (case e1EI => k_is)
    (case e2EI => k_is)
    (case e3EI => k_is)
    (case e4EI => k_is)
    (case e5EI => k_is)
    (case e6EI => k_is)
    (case aual => k_is)
    (case iual => k_is)
    (case lual => k_is)
    (case cual => k_is)
    (case kual => k_is)
    (case auca => k_is)
    (case iuca => k_is)
    (case luca => k_is)
    (case cuca => k_is)
    (case kuca => k_is)
    (case aunv => k_is)
    (case lunv => k_is)
    (case cunv => k_is)
    (case kunv => k_is)
    (case abw => k_is)
    (case lbw => k_is)
    (case cbw => k_is)
    (case kbw => k_is)
    (case abf => k_is)
    (case lbf => k_is)
    (case cbf => k_is)
    (case kbf => k_is)
    (case abe => k_is)
    (case lbe => k_is)
    (case cbe => k_is)
    (case kbe => k_is)
    (case abq => k_is)
    (case lbq => k_is)
    (case cbq => k_is)
    (case kbq => k_is)
    (case abn => k_is)
    (case lbn => k_is)
    (case cbn => k_is)
    (case kbn => k_is)
    (case gNM => k_is)
    (case tNM => k_is)
    (case gdB => k_is)
    (case dwB => kernel_rfl)
    (case nkBwhole => k_is)
    (case nkBfilled => k_is)
    (case nkBeven => k_is)
    (case aisf => k_is)
    (case lisf => k_is)
    (case cisf => k_is)
    (case kisf => k_is)
    (case ackn => k_is)
    (case lckn => k_is)
    (case cckn => k_is)
    (case kckn => k_is)
    (case aso => k_is)
    (case lso => k_is)
    (case cso => k_is)
    (case kso => k_is)
    (case aito => k_is)
    (case lito => k_is)
    (case cito => k_is)
    (case kito => k_is)
    (case asf => k_is)
    (case lsf => k_is)
    (case csf => k_is)
    (case ksf => k_is)
    (case gdF => k_is)
    (case dwF => kernel_rfl)
    (case nkF => k_is)
    (case afo => k_is)
    (case lfo => k_is)
    (case cfo => k_is)
    (case kfo => k_is)
    (case aho => k_is)
    (case lho => k_is)
    (case cho => k_is)
    (case kho => k_is)
    (case aCIn => k_is)
    (case xhe => kernel_rfl)
    (case asip => k_is)
    (case lsip => k_is)
    (case csip => k_is)
    (case ksip => k_is)
    (case afrm => k_is)
    (case lfrm => k_is)
    (case cfrm => k_is)
    (case kfrm => k_is)
    (case awds => k_is)
    (case lwds => k_is)
    (case cwds => k_is)
    (case kwds => k_is)
    (case alop => k_is)
    (case llop => k_is)
    (case clop => k_is)
    (case klop => k_is)
    (case alin => k_is)
    (case llin => k_is)
    (case clin => k_is)
    (case klin => k_is)
    (case apas => k_is)
    (case lpas => k_is)
    (case cpas => k_is)
    (case kpas => k_is)
    (case asli => k_is)
    (case lsli => k_is)
    (case csli => k_is)
    (case ksli => k_is)
    (case adon => k_is)
    (case ldon => k_is)
    (case cdon => k_is)
    (case kdon => k_is)
    (case afed => k_is)
    (case lfed => k_is)
    (case cfed => k_is)
    (case kfed => k_is)
    (case abox => k_is)
    (case lbox => k_is)
    (case cbox => k_is)
    (case kbox => k_is)
    (case aknd => k_is)
    (case lknd => k_is)
    (case cknd => k_is)
    (case kknd => k_is)
    (case aopt => k_is)
    (case lopt => k_is)
    (case copt => k_is)
    (case kopt => k_is)
    (case afev => k_is)
    (case lfev => k_is)
    (case cfev => k_is)
    (case kfev => k_is)
    (case aflt => k_is)
    (case lflt => k_is)
    (case cflt => k_is)
    (case kflt => k_is)
    (case ashw => k_is)
    (case lshw => k_is)
    (case cshw => k_is)
    (case kshw => k_is)
    (case aisp => k_is)
    (case lisp => k_is)
    (case cisp => k_is)
    (case kisp => k_is)
    (case awlk => k_is)
    (case lwlk => k_is)
    (case cwlk => k_is)
    (case kwlk => k_is)
    (case alim => k_is)
    (case llim => k_is)
    (case clim => k_is)
    (case klim => k_is)
    (case ajar => k_is)
    (case ljar => k_is)
    (case cjar => k_is)
    (case kjar => k_is)
    (case art => k_is)
    (case lrt => k_is)
    (case crt => k_is)
    (case krt => k_is)
    (case alaw => k_is)
    (case llaw => k_is)
    (case claw => k_is)
    (case klaw => k_is)
    (case z_tuple => k_is)
    (case z_len => k_is)
    (case z_all => k_is)
    (case z_isinstance => k_is)
    (case z_str => k_is)
    (case z_int => k_is)
    (case z_bool => k_is)
    (case z_enumerate => k_is)
    (case z_range => k_is)
    (case z_min => k_is)
    (case z_list => k_is)
    (case z_sum => k_is)
    (case z_abs => k_is)
    (case z_divmod => k_is)
    (case z_any => k_is)
    (case z_repr => k_is)
    (case z_max => k_is)
