import PyProof.Rows.All
import Wide.All
import OpenK.AllK
import Wide.FinOn
import HandS.ForMost
import HandS.Codes
import HandS.IsInst
import HandS.TupAny
import HandS.SlotsOwn
import HandS.ExcInit
import HandS.ExcField
import HandS.WordsExc
import KE.KCallOwn
import OpenK.KOps
import HandS.FStr
import HandS.RaiseMore
import PyProof.Rows.ChunkEnd
import HandS.Conv
import KE.GoesEnum
import PyProof.ReprRoads
import HandS.Small
import HandS.ExcOwn
import HandS.ExcIs
import PyProof.ExcBaseAll.LookupError
import HandS.Property
import HandS.ExcValue
import HandS.MakeKwOnly
import KE.KExcIs
import HandS.TryMany
import HandS.Lambda
import HandS.StrMore
import PyProof.StrLawsAffix
import PyProof.ReprReads
import HandS.Text
import PyProof.StrBlock2
import HandS.Call
import HandS.JoinGen
import HandS.Walk
import PySem.Challenge.RW_lastshort_k66_whole_consoles
set_option Elab.async false
set_option linter.all false
set_option maxRecDepth 100000
set_option maxHeartbeats 8000000
/-! the trees of the stages get no twins: their names are taken -/
def PySem.W.Fast.tw9645515860919683118 : Unit := ()
def PySem.W.Fast.tw4650159252657164784 : Unit := ()
def PySem.W.Fast.tw10445892880789008214 : Unit := ()
def PySem.W.Fast.tw2772832983638195109 : Unit := ()
def PySem.W.Fast.tw17063270765040367469 : Unit := ()
def PySem.W.Fast.tw17301344027880240856 : Unit := ()
def PySem.W.Fast.tw16705334272679016034 : Unit := ()
def PySem.W.Fast.tw1485366712474358130 : Unit := ()
def PySem.W.Fast.tw9367562967977590823 : Unit := ()
def PySem.W.Fast.tw12663150432351914971 : Unit := ()
def PySem.W.Fast.tw12876137769273623243 : Unit := ()
def PySem.W.Fast.tw5308328028622200326 : Unit := ()
def PySem.W.Fast.tw14303852630714180984 : Unit := ()
def PySem.W.Fast.tw6766703693469736131 : Unit := ()
def PySem.W.Fast.tw2862252138991313675 : Unit := ()
def PySem.W.Fast.tw7151266730660933775 : Unit := ()
def PySem.W.Fast.tw17006226344518708029 : Unit := ()
def PySem.W.Fast.tw10576220656819128328 : Unit := ()
def PySem.W.Fast.tw2594649016470041431 : Unit := ()
def PySem.W.Fast.tw5159339599473977712 : Unit := ()
def PySem.W.Fast.tw14107844298474037825 : Unit := ()
def PySem.W.Fast.tw10807332002780127244 : Unit := ()
def PySem.W.Fast.tw13548586021048034295 : Unit := ()
def PySem.W.Fast.tw15841271271739411434 : Unit := ()
open PySem PySem.W PyProof.Rows in
set_option maxRecDepth 100000 in
set_option maxHeartbeats 0 in
open_top Hd66 for PySem.Challenge.rw_lastshort_k66_whole_consoles

/-! lists of a known length: smaller than a match in the place -/
namespace Ln
theorem len0 {α : Type} {p : List α → Prop} (h : Unit → p []) : ∀ us : List α, us.length = 0 → p us
  | [], _ => h ()
theorem len1 {α : Type} {p : List α → Prop} (h : ∀ a0, p [a0]) : ∀ us : List α, us.length = 1 → p us
  | [a0], _ => h a0
theorem len2 {α : Type} {p : List α → Prop} (h : ∀ a0 a1, p [a0, a1]) : ∀ us : List α, us.length = 2 → p us
  | [a0, a1], _ => h a0 a1
theorem len3 {α : Type} {p : List α → Prop} (h : ∀ a0 a1 a2, p [a0, a1, a2]) : ∀ us : List α, us.length = 3 → p us
  | [a0, a1, a2], _ => h a0 a1 a2
theorem len4 {α : Type} {p : List α → Prop} (h : ∀ a0 a1 a2 a3, p [a0, a1, a2, a3]) : ∀ us : List α, us.length = 4 → p us
  | [a0, a1, a2, a3], _ => h a0 a1 a2 a3
theorem len5 {α : Type} {p : List α → Prop} (h : ∀ a0 a1 a2 a3 a4, p [a0, a1, a2, a3, a4]) : ∀ us : List α, us.length = 5 → p us
  | [a0, a1, a2, a3, a4], _ => h a0 a1 a2 a3 a4
theorem len6 {α : Type} {p : List α → Prop} (h : ∀ a0 a1 a2 a3 a4 a5, p [a0, a1, a2, a3, a4, a5]) : ∀ us : List α, us.length = 6 → p us
  | [a0, a1, a2, a3, a4, a5], _ => h a0 a1 a2 a3 a4 a5
theorem len7 {α : Type} {p : List α → Prop} (h : ∀ a0 a1 a2 a3 a4 a5 a6, p [a0, a1, a2, a3, a4, a5, a6]) : ∀ us : List α, us.length = 7 → p us
  | [a0, a1, a2, a3, a4, a5, a6], _ => h a0 a1 a2 a3 a4 a5 a6
theorem len8 {α : Type} {p : List α → Prop} (h : ∀ a0 a1 a2 a3 a4 a5 a6 a7, p [a0, a1, a2, a3, a4, a5, a6, a7]) : ∀ us : List α, us.length = 8 → p us
  | [a0, a1, a2, a3, a4, a5, a6, a7], _ => h a0 a1 a2 a3 a4 a5 a6 a7
theorem len9 {α : Type} {p : List α → Prop} (h : ∀ a0 a1 a2 a3 a4 a5 a6 a7 a8, p [a0, a1, a2, a3, a4, a5, a6, a7, a8]) : ∀ us : List α, us.length = 9 → p us
  | [a0, a1, a2, a3, a4, a5, a6, a7, a8], _ => h a0 a1 a2 a3 a4 a5 a6 a7 a8
end Ln

/-! the draws of the law: jar, sip, from -/
namespace My
open PySem L2
def top (i : Nat) : Stmt := PySem.Challenge.pw_lastshort_k66_whole_consoles.main.body.getD i (.Pass ⟨0, 0, 0, 0⟩)
abbrev sJar : Stmt := top 53
abbrev sSip : Stmt := top 54
abbrev sFrom : Stmt := top 55
/-! ### heaps -/
/-- all but what stands at j is as it was -/
def Off (j : Addr) (H H' : Hp) : Prop := ∀ b o, b ≠ j → H b = some o → H' b = some o
theorem Off.refl {j : Addr} {H : Hp} : Off j H H := fun _ _ _ e => e
theorem Off.trans {j : Addr} {H H1 H2 : Hp} (a : Off j H H1) (b : Off j H1 H2) : Off j H H2 := fun c o n e => b c o n (a c o n e)
theorem Off.new {j p : Addr} {H H1 : Hp} {o : HO} (a : Off j H H1) (n : H1 p = none) : Off j H (upd H1 p o) := fun b u nb e => by
  rw [upd_ne (ne_of_none (a b u nb e) n)]
  exact a b u nb e
theorem Off.put {j : Addr} {H H1 : Hp} {o : HO} (a : Off j H H1) : Off j H (upd H1 j o) := fun b u nb e => by
  rw [upd_ne nb]
  exact a b u nb e
theorem Off.seq {K : PySem.W.Frag} {j a : Addr} {H H' : Hp} {xs : List V} (e : Off j H H') (n : a ≠ j) (h : SqL K H a xs) : SqL K H' a xs := by
  rcases h with (h | ⟨o, h⟩) | h
  · exact .inl (.inl (e _ _ n h))
  · exact .inl (.inr ⟨o, e _ _ n h⟩)
  · exact .inr h
theorem Off.set {K : PySem.W.Frag} {j a : Addr} {H H' : Hp} {xs : List V} (e : Off j H H') (n : a ≠ j) (h : SqT K H a xs) : SqT K H' a xs := by
  rcases h with (h | ⟨o, h⟩) | h
  · exact .inl (.inl (e _ _ n h))
  · exact .inl (.inr ⟨o, e _ _ n h⟩)
  · exact .inr h
theorem Off.same {j : Addr} {H0 H H' : Hp} (e : Off j H H') (s : Same H0 H) (n : H0 j = none) : Same H0 H' := fun b o q => e b o (fun z => by rw [z, n] at q; cases q) (s b o q)
theorem same_upd {H : Hp} {p : Addr} {o : HO} (h : H p = none) : Same H (upd H p o) := fun b x e => by
  rw [upd_ne (ne_of_none e h)]
  exact e
theorem Same.off {j : Addr} {H H' : Hp} (s : Same H H') : Off j H H' := fun b o _ e => s b o e
/-- a jar: three whole numbers -/
def Jar (H : Hp) (j : Addr) : Prop := ∃ a b c : Int, H j = some (.lst [.int a, .int b, .int c])
theorem Jar.new {H : Hp} {j p : Addr} {o : HO} (a : Jar H j) (n : H p = none) : Jar (upd H p o) j := by
  obtain ⟨x, y, z, h⟩ := a
  exact ⟨x, y, z, by rw [upd_ne (ne_of_none h n)]; exact h⟩
theorem Jar.same {H H' : Hp} {j : Addr} (a : Jar H j) (s : Same H H') : Jar H' j := by
  obtain ⟨x, y, z, h⟩ := a
  exact ⟨x, y, z, s _ _ h⟩
/-! ### promises -/
def spSip : Sp := fun vs H Q _ => ∃ (j : Addr) (m : Int), vs = [.ref j, .int m] ∧ Jar H j ∧ 0 < m ∧ m < 1073741824 ∧
  ∀ (H' : Hp) (d : Int), 0 ≤ d → d < m → Off j H H' → Jar H' j → Q (.int d) H'
def spFrom (K : PySem.W.Frag) : Sp := fun vs H Q _ => ∃ (j p : Addr) (xs : List V), vs = [.ref j, .ref p] ∧ Jar H j ∧ p ≠ j ∧ SqL K H p xs ∧ 0 < xs.length ∧ xs.length < 1073741824 ∧
  ∀ (H' : Hp) (i : Nat) (x : V), xs[i]? = some x → Off j H H' → Jar H' j → Q x H'
def spJar (K : PySem.W.Frag) : Sp := fun vs H Q _ => ∃ (a : Addr) (ns : List Int) (k : Nat), vs = [.ref a, .int k] ∧ SqL K H a (ns.map V.int) ∧ ns.length ≤ 63 ∧
  ∀ (H' : Hp) (j : Addr), Same H H' → H j = none → Jar H' j → Q (.ref j) H'
/-- the built-ins of the draws are still the built-ins -/
structure TxtJ (mg : Str → Option Value) : Prop where
  len : mg "len" = none
  int : mg "int" = none
  abs : mg "abs" = none
  divmod : mg "divmod" = none
section
variable {P : Program} {w : World} {K : PySem.W.Frag} {mg : Str → Option Value} {base : Heap}
theorem scSip : FnScope ["_law_jar_here", "_law_many", "_law_digit"] ["_law_jar_here", "_law_many"] (defScope sSip) := ⟨rfl, rfl, rfl, by decide +kernel, rfl, by decide +kernel, by decide +kernel⟩
theorem ok_sip {f : Addr} {fd : FuncData} (F : Fun K "_law_sip" "_law_sip" sSip f fd) (T : TxtJ mg) : FnOk P w K mg base CX0 1 f fd ["_law_jar_here", "_law_many"] spSip := by
  refine F.ok scSip (fun vs H Q E h => ?_) (fun cdv A outer s H vs Q E hr h => ?_)
  · obtain ⟨j, m, rfl, _⟩ := h
    rfl
  · obtain ⟨j, m, rfl, ⟨a, b, c, hj⟩, m0, m1, k⟩ := h
    refine ⟨_, pss_cons (ps_asg (pe_op op_add (pe_ix ix_list (pv 0) pe_int (fun _ _ => rfl)) pe_int) (pg_sub (pv 0) pe_int set_list))
      (pss_cons (ps_if (pt_cmpR op_gt (pe_ix ix_list (pv 0) pe_int (fun _ _ => rfl)) pe_int (nomark _))
        (pss_cons (ps_asg (pe_callB call_divmod (by rfl) T.divmod (by decide +kernel) (pa_cons (pe_callTy call_int1 (by rfl) T.int (by decide +kernel) (pa_cons (pe_ix ix_list (pv 0) pe_int (fun _ _ => rfl)) pa_nil)) (pa_cons (pv 1) pa_nil)))
            (pg_tup (by rfl) (pgs_cons (pg_sub (pv 0) pe_int set_list) (pgs_cons (pg_name (i := 2) scSip.nd rfl (.inl rfl)) pgs_nil))))
          (pss_one (ps_ret (pv 2)))) pss_nil)
      (pss_cons (ps_asg (pe_op op_mod (pe_callTy call_int1 (by rfl) T.int (by decide +kernel) (pa_cons (pe_op op_add (pe_op op_add (pe_op op_mul (pe_ix ix_list (pv 0) pe_int (fun _ _ => rfl)) pe_int) (pe_op op_mul (pe_ix ix_list (pv 0) pe_int (fun _ _ => rfl)) pe_int))
            (pe_op op_mul (pe_op op_fdiv (pe_ix ix_list (pv 0) pe_int (fun _ _ => rfl)) pe_int) pe_int)) pa_nil)) pe_int) (pg_sub (pv 0) pe_int set_list))
      (pss_one (ps_ret (pe_op op_mod (pe_callTy call_int1 (by rfl) T.int (by decide +kernel) (pa_cons (pe_op op_fdiv (pe_ix ix_list (pv 0) pe_int (fun _ _ => rfl)) pe_int) pa_nil)) (pv 1)))))), ?_⟩
    -- jar[2] = jar[2] + 1
    refine ⟨_, rfl, j, _, 2, _, rfl, rfl, SqL.of hj, rfl, _, _, rfl, rfl, _, rfl, j, _, 2, 2, rfl, rfl, hj, rfl, ?_⟩
    -- if jar[0] > 0
    refine ⟨_, rfl, j, _, 0, _, rfl, rfl, SqL.of upd_same, rfl, _, _, rfl, rfl, _, rfl, ?_⟩
    have o1 : Off j H (upd H j (.lst [.int a, .int b, .int (c + 1)])) := Off.put Off.refl
    refine ite2 (fun _ => ?_) (fun _ => ?_)
    · refine ⟨_, rfl, j, _, 0, _, rfl, rfl, SqL.of upd_same, rfl, .inl ⟨_, rfl, _, rfl, a, m, rfl, ⟨m0, m1⟩, fun p np => ?_⟩⟩
      have npj : p ≠ j := fun e => by
        rw [e, upd_same] at np
        cases np
      refine ⟨p, _, rfl, SqT.of upd_same, rfl, _, _, rfl, _, rfl, j, _, 0, 0, rfl, rfl, (by rw [upd_ne npj.symm]; exact upd_same), rfl, _, _, rfl, rfl, ?_⟩
      refine ⟨_, rfl, ?_⟩
      exact k _ _ (Int.emod_nonneg _ (by omega)) (Int.emod_lt_of_pos _ m0) (Off.put (Off.new o1 np)) ⟨_, _, _, upd_same⟩
    · refine ⟨_, rfl, j, _, 1, _, rfl, rfl, SqL.of upd_same, rfl, _, _, rfl, rfl, .inr (by decide), ?_⟩
      refine ⟨_, rfl, j, _, 2, _, rfl, rfl, SqL.of upd_same, rfl, _, _, rfl, rfl, .inr (by decide), _, _, rfl, rfl, ?_⟩
      refine ⟨_, rfl, j, _, 1, _, rfl, rfl, SqL.of upd_same, rfl, _, _, rfl, rfl, ⟨by decide, by decide⟩, _, _, rfl, rfl, .inr (by decide), _, _, rfl, rfl, .inl ⟨_, rfl, _, _, rfl, rfl, (by show (0 : Int) < 1999999927; decide), ?_⟩⟩
      refine ⟨_, rfl, j, _, 1, 1, rfl, rfl, upd_same, rfl, ?_⟩
      refine ⟨_, rfl, j, _, 1, _, rfl, rfl, SqL.of upd_same, rfl, _, _, rfl, rfl, ⟨by decide, by decide⟩, .inl ⟨_, rfl, _, rfl, _, _, rfl, rfl, m0, ?_⟩⟩
      exact k _ _ (Int.emod_nonneg _ (by omega)) (Int.emod_lt_of_pos _ m0) (Off.put o1) ⟨_, _, _, upd_same⟩

/-! ### from -/
structure TxtS (K : PySem.W.Frag) (mg : Str → Option Value) (fS : Addr) : Prop where
  g : mg "_law_sip" = some (.ref fS)
  k : PySem.W.keepIn K (.ref fS) = true
theorem scFrom : FnScope ["_law_jar_here", "_law_things"] ["_law_jar_here", "_law_things"] (defScope sFrom) := ⟨rfl, rfl, rfl, by decide +kernel, rfl, by decide +kernel, by decide +kernel⟩
theorem ok_from {f fS : Addr} {fd fdS : FuncData} (F : Fun K "_law_from" "_law_from" sFrom f fd) (T : TxtJ mg) (S : TxtS K mg fS) (FS : Fun K "_law_sip" "_law_sip" sSip fS fdS) (bS : Binds K fdS ["_law_jar_here", "_law_many"] []) :
    FnOk P w K mg base CX0 2 f fd ["_law_jar_here", "_law_things"] (spFrom K) := by
  have GS : FnOk P w K mg base CX0 1 fS fdS ["_law_jar_here", "_law_many"] spSip := ok_sip FS T
  refine F.ok scFrom (fun vs H Q E h => ?_) (fun cdv A outer s H vs Q E hr h => ?_)
  · obtain ⟨j, p, xs, rfl, _⟩ := h
    rfl
  · obtain ⟨j, p, xs, rfl, hJ, npj, hS, l0, l1, k⟩ := h
    refine ⟨_, pss_one (ps_ret (pe_ix ix_list (pv 1) (pe_call GS hr rfl S.g S.k bS .nil pass0 (pa_cons (pv 0) (pa_cons (pe_callB call_len_seq (by rfl) T.len PySem.boot_len (pa_cons (pv 1) pa_nil)) pa_nil))) (fun _ _ => rfl))), ?_⟩
    refine ⟨_, rfl, _, rfl, _, rfl, p, xs, rfl, .inl hS, j, _, rfl, hJ, by omega, by omega, fun H' d d0 d1 o J => ?_⟩
    obtain ⟨n, rfl⟩ := Int.eq_ofNat_of_zero_le d0
    have hn : n < xs.length := by omega
    exact ⟨p, xs, _, xs[n], rfl, rfl, o.seq npj hS, atI_nat (List.getElem?_eq_getElem hn), k H' n _ (List.getElem?_eq_getElem hn) o J⟩
/-! ### jar -/
theorem scJar : FnScope ["_law_script", "_law_k", "_law_own", "_law_mixed", "_law_entry"] ["_law_script", "_law_k"] (defScope sJar) := ⟨rfl, rfl, rfl, by decide +kernel, rfl, by decide +kernel, by decide +kernel⟩
theorem int_of_map {ns : List Int} {i : Nat} {y : V} (h : (ns.map V.int)[i]? = some y) : ∃ u, y = V.int u := by
  rw [List.getElem?_map] at h
  cases e : ns[i]? with
  | none =>
    rw [e] at h
    cases h
  | some u =>
    rw [e] at h
    exact ⟨u, (Option.some.inj h).symm⟩
theorem cut_map (ns : List Int) (lo hi : Option Int) : ∃ ms : List Int, cutV (ns.map V.int) lo hi = ms.map V.int :=
  ⟨(ns.drop (HT.sIx (ns.map V.int).length 0 lo)).take (HT.sIx (ns.map V.int).length (ns.map V.int).length hi - HT.sIx (ns.map V.int).length 0 lo), by
    unfold cutV
    rw [List.map_take, List.map_drop]⟩
theorem ok_jar {f : Addr} {fd : FuncData} (F : Fun K "_law_jar" "_law_jar" sJar f fd) (T : TxtJ mg) : FnOk P w K mg base CX0 1 f fd ["_law_script", "_law_k"] (spJar K) := by
  refine F.ok scJar (fun vs H Q E h => ?_) (fun cdv A outer s H vs Q E hr h => ?_)
  · obtain ⟨a, ns, k, rfl, _⟩ := h
    rfl
  · obtain ⟨a, ns, k, rfl, hS, hl, q⟩ := h
    refine ⟨_, C8.pss_cut (ps_set (i := 2) scJar.nd rfl (.inl rfl) (pe_ifExp (pt_cmpR op_lt (pv 1) (pe_callB call_len_seq (by rfl) T.len PySem.boot_len (pa_cons (pv 0) pa_nil)) (nomark _))
          (pe_callTy call_int1 (by rfl) T.int (by decide +kernel) (pa_cons (pe_ix ix_list (pv 0) (pv 1) (fun _ _ => rfl)) pa_nil)) (pe_op op_add (pe_op op_mul pe_int (pv 1)) pe_int)))
      (pss_cons (ps_set (i := 3) scJar.nd rfl (.inl rfl) (pe_op op_add pe_int (pe_op op_mul pe_int (pv 1))))
      (pss_cons (ps_for PassesOwn.never rfl (pi_list (pe_slice sl_list (pv 0) po_none (po_some pe_int))) (pg_name (i := 4) scJar.nd rfl (.inl rfl))
        (pss_one (ps_set (i := 3) scJar.nd rfl (.inl rfl) (pe_op op_mod (pe_callTy call_int1 (by rfl) T.int (by decide +kernel) (pa_cons (pe_op op_add (pe_op op_mul (pv 3) pe_int) (pe_op op_mod (pe_callTy call_int1 (by rfl) T.int (by decide +kernel) (pa_cons (pv 4) pa_nil)) pe_int)) pa_nil)) pe_int))))
      (pss_one (ps_ret (pe_lst (pa_cons (pe_ifExp (PW.pt (pw_or (pt_cmpR op_lt (pv 2) pe_int (nomark _)) (pw_or1 (pt_cmpR op_ge (pv 2) (pe_op op_pow pe_int pe_int) (nomark _))))) (pe_callB call_abs (by rfl) T.abs (by decide +kernel) (pa_cons (pv 2) pa_nil)) pe_int)
        (pa_cons (pe_op op_mod (pe_callTy call_int1 (by rfl) T.int (by decide +kernel) (pa_cons (pe_op op_add (pe_op op_mul (pv 3) pe_int) (pe_op op_mod (pv 2) pe_int)) pa_nil)) pe_int) (pa_cons pe_int pa_nil)))))))), ?_⟩
    refine ⟨fun σ H' => H = H' ∧ ∃ own : Int, σ = [some (.ref a), some (.int k), some (.int own), none, none], ?_, ?_⟩
    · refine ⟨_, rfl, _, rfl, a, _, rfl, .inl hS, _, _, rfl, rfl, _, rfl, ?_⟩
      refine ite2 (fun c => ?_) (fun c => ?_)
      · have hk : k < ns.length := by
          have c' := of_decide_eq_true c
          rw [List.length_map] at c'
          omega
        exact ⟨_, rfl, _, rfl, a, _, _, .int ns[k], rfl, rfl, hS, atI_nat (by rw [List.getElem?_map, List.getElem?_eq_getElem hk]; rfl), .inl ⟨_, rfl, rfl, _, rfl⟩⟩
      · exact ⟨_, rfl, _, _, rfl, rfl, .inl (by decide), _, _, rfl, rfl, rfl, _, rfl⟩
    · rintro _ _ ⟨rfl, own, rfl⟩
      refine ⟨_, rfl, _, _, rfl, rfl, .inl (by decide), _, _, rfl, rfl, ?_⟩
      refine ⟨_, rfl, 13, rfl, a, _, rfl, hS, fun p np => ?_⟩
      obtain ⟨ms, ems⟩ := cut_map ns none (some 13)
      rw [ems]
      refine ⟨p, rfl, ⟨_, SqL.of upd_same⟩, for_list (K := K) (a := p) (xs := ms.map V.int) (fun i σ H' => ∃ (mx : Int) (v : Option V), σ = [some (.ref a), some (.int k), some (.int own), some (.int mx), v] ∧ H' = upd H p (.lst (ms.map V.int)))
        ⟨_, none, rfl, rfl⟩ (fun i σ H' _ ⟨_, _, _, e⟩ => by rw [e]; exact SqL.of upd_same) ?_ ?_⟩
      · rintro i y σ H' hi ⟨mx, v, rfl, rfl⟩
        obtain ⟨u, rfl⟩ := int_of_map hi
        refine ⟨_, rfl, _, _, rfl, rfl, .inr (by decide), ?_⟩
        refine ⟨_, rfl, .inl ⟨_, rfl, _, _, rfl, rfl, (by show (0 : Int) < 1999999927; decide), _, _, rfl, rfl, .inl ⟨_, rfl, _, _, rfl, rfl, (by show (0 : Int) < 1999999927; decide), ?_⟩⟩⟩
        exact ⟨_, _, rfl, rfl⟩
      · rintro σ H' ⟨mx, v, rfl, rfl⟩
        have fin : ∀ (x : Int), tCons (tOp (rI (fun x j => 0 < j) fun i j => V.int (i % j)) (tCB (fun xs H Q => (∃ i, xs = [V.int i] ∧ Q (V.int i) H) ∨ ∃ k, xs = [V.bl k] ∧ Q (V.int (if k = true then 1 else 0)) H)
            (tCons (tOp (rI0 fun i j => V.int (i + j)) (tOp (rI CMul fun i j => V.int (i * j)) (tVar 3) (tC (V.int 5))) (tOp (rI (fun x j => 0 < j) fun i j => V.int (i % j)) (tVar 2) (tC (V.int 1999999927)))) tNil)) (tC (V.int 1999999927)))
          (tCons (tC (V.int 0)) tNil) [some (.ref a), some (.int k), some (.int own), some (.int mx), v] (upd H p (.lst (ms.map V.int))) (fun xs H1 => (V.int x :: xs).length ≤ sizeLine ∧ ∀ p, H1 p = none → Q (.ref p) (upd H1 p (.lst (V.int x :: xs)))) := by
          intro x
          refine ⟨_, rfl, _, _, rfl, rfl, .inr (by decide), _, rfl, _, _, rfl, rfl, (by show (0 : Int) < 1999999927; decide), _, _, rfl, rfl, .inl ⟨_, rfl, _, _, rfl, rfl, (by show (0 : Int) < 1999999927; decide), ?_⟩⟩
          refine ⟨(by show 3 ≤ sizeLine; decide), fun jj nj => ?_⟩
          exact q _ jj (Same.trans (same_upd np) (same_upd nj)) ((same_upd np).free nj) ⟨_, _, _, upd_same⟩
        refine ⟨_, rfl, _, _, rfl, rfl, _, rfl, ?_⟩
        refine ite2 (fun _ => ?_) (fun _ => ?_)
        · refine iteT ?_
          exact ⟨_, rfl, _, rfl, fin _⟩
        · refine ⟨_, rfl, _, _, rfl, rfl, ⟨by decide, by decide, by decide⟩, _, _, rfl, rfl, _, rfl, ?_⟩
          refine ite2 (fun _ => ?_) (fun _ => ?_)
          · exact ⟨_, rfl, _, rfl, fin _⟩
          · exact fin _
end
end My

/-! what every proof about a program of several defs wants -/
namespace Cm
open PySem PySem.Spec PyProof.Rows L2
/-- a def of the module -/
structure Df (K : PySem.W.Frag) (mg : Str → Option Value) (x : Str) (st : Stmt) (ps : List Str) where
  f : Addr
  fd : FuncData
  F : Fun K x x st f fd
  b : Binds K fd ps []
  g : mg x = some (.ref f)
  k : PySem.W.keepIn K (.ref f) = true
/-- a method of the class at C -/
structure Mt (K : PySem.W.Frag) (C : Addr) (x q : Str) (st : Stmt) (ps : List Str) where
  f : Addr
  fd : FuncData
  F : Fun K x q st f fd
  b : Binds K fd ps []
  m : Meth K C x f
theorem dI (a b : Int) : decide (V.int a = V.int b) = decide (a = b) := decide_eq_decide.mpr ⟨fun z => by cases z; rfl, fun z => by rw [z]⟩
theorem dS (a b : Str) : decide (V.str a = V.str b) = decide (a = b) := decide_eq_decide.mpr ⟨fun z => by cases z; rfl, fun z => by rw [z]⟩
theorem dB (a b : Bool) : decide (V.bl a = V.bl b) = decide (a = b) := decide_eq_decide.mpr ⟨fun z => by cases z; rfl, fun z => by rw [z]⟩
theorem putF_len (f : Str) (v : V) : ∀ fs : List (Str × V), (putF f v fs).length ≤ fs.length + 1
  | [] => Nat.le_refl _
  | (g, x) :: r => by
    unfold putF
    by_cases h : g = f
    · rw [if_pos h]
      exact Nat.le_succ _
    · rw [if_neg h]
      exact Nat.succ_le_succ (putF_len f v r)
theorem szl {n : Nat} (h : n ≤ 1000) : n ≤ sizeLine := Nat.le_of_lt (small1000 h)
theorem szM {n : Nat} (h : n ≤ 1000000) : n < sizeLine := Nat.lt_of_le_of_lt h (by decide)
theorem Same.set {K : PySem.W.Frag} {H H' : Hp} {a : Addr} {xs : List V} (e : Same H H') (h : SqT K H a xs) : SqT K H' a xs := by
  rcases h with (h | ⟨o, h⟩) | h
  · exact .inl (.inl (e _ _ h))
  · exact .inl (.inr ⟨o, e _ _ h⟩)
  · exact .inr h
theorem same_new {H : Hp} {p : Addr} {o : HO} (h : H p = none) : Same H (upd H p o) := fun b x e => by
  rw [upd_ne (ne_of_none e h)]
  exact e
theorem pass_none {P : Program} {w : World} {X : Cx} : Passes (L2.CX P w) X (fun _ _ _ => False) := fun pins σ H s e s2 I h => by
  obtain ⟨_, _, _, _, _, _, _, _, _, _, _, _, h⟩ := h
  exact h.elim
/-! ### len and truth of an instance with an own __len__ -/
section
variable {X : Cx} {C g : Addr} {n : Nat} {sp : Sp}
theorem inst_of {pins : List (Addr × Obj)} {σ : L2.St} {H : Hp} {s : Shared} {a dx : Addr} {fs : List (Str × V)} (I : Inv X pins σ H s) (e : H a = some (.ins C dx fs)) : ∃ (ox : Obj) (od : Option Obj), PySem.W.InstAt s.heap a ox C od := by
  obtain ⟨mA, O, _⟩ := ins_get I.hok e
  obtain ⟨od, J, _⟩ := O.look
  exact ⟨_, _, J⟩
def rLenO (C : Addr) (sp : Sp) : List V → Hp → VK → Prop := fun xs H Q => ∃ (a dx : Addr) (fs : List (Str × V)), xs = [.ref a] ∧ H a = some (.ins C dx fs) ∧ sp [.ref a] H (fun v H2 => ∃ k : Nat, v = .int k ∧ k ≤ 1000000 ∧ Q (.int k) H2) fun _ _ _ => False
theorem call_lenO (hs : PySem.W.findIn X.K (.ref C) "__len__" = some (some (.ref g))) (hf : PySem.W.isFn X.K (.ref g) = true) (F : FnR X.prog X.w X.K X.mg X.base CX0 n g sp) (hr : Room (n + 1) X.A) : CallR X (.builtin "len") (rLenO C sp) := by
  intro pins s σ H xs us Q I r h
  obtain ⟨a, dx, fs, rfl, ha, q⟩ := h
  obtain ⟨u, rfl, ru⟩ := vals1 r
  cases (show u = Value.ref a from ru)
  obtain ⟨ox, od, J⟩ := inst_of I ha
  obtain ⟨m, fr⟩ := I.fr
  refine PySem.W.len_K fr I.ok.mod.kin J hs hf ?_
  refine wpAny_mono (wpAny_call (SlX.run_at (us := [.ref a]) (ws := [.ref a]) F hr.in1 I.env0.in1 pass0 I (.cons rfl .nil) q)) (fun z s2 hz => ?_) fun _ _ e => e
  obtain ⟨z2, H2, I2, rz, k, rfl, hk, qz⟩ := hz
  obtain ⟨tk, rfl⟩ := (show ∃ tk, z = Value.int k tk from rz)
  exact ⟨⟨by omega, by omega⟩, .int k, H2, I2.tok _, ⟨_, rfl⟩, qz⟩
end
/-! ### bool of an instance with an own __len__ -/
section
variable {prog : Program} {w : World} {A : Around} {E : Value → Shared → Prop} {s : Shared} {K : PySem.W.Frag} {x C f : Addr} {ox : Obj} {od : Option Obj}
theorem len_bodyK {Q : Value → Shared → Prop} (X : K.In s.heap) (I : PySem.W.InstAt s.heap x ox C od) (hs : PySem.W.findIn K (.ref C) "__len__" = some (some (.ref f))) (hf : PySem.W.isFn K (.ref f) = true)
    (h : wpAny (model prog w) A (call (.ref f) [.ref x]) (PySem.W.LenBack Q) E s) : wpAny (model prog w) A (Builtin.«len» ⟨[.ref x], []⟩) (fun fin s' => ∃ r, fin = .done (.ret r) ∧ Q r s') E s := by
  unfold Builtin.«len»
  refine wpAny_bind (m := oneArg "len" _) (wpAny_pure ?_)
  refine wpAny_bind (m := callSpecial? (.ref x) (Str.ofString "__len__")) (PySem.W.special_fn X I hs (beq_iff_eq.mp hf) (wpAny_mono h (fun r s' hr => ?_) fun _ _ y => y))
  cases r <;> first | exact hr.elim | skip
  rename_i n u
  obtain ⟨⟨h0, h1⟩, hq⟩ := hr
  refine wpAny_bind (wpAny_holding (wpAny_pure ?_))
  refine wpAny_bind (wpAny_letGo ?_)
  show wpAny _ _ (if n < 0 then _ else _) _ _ _
  rw [if_neg (by omega)]
  show wpAny _ _ (if n ≥ 2 ^ 63 then _ else _) _ _ _
  rw [if_neg (by omega)]
  exact wpAny_bind (wpAny_mkInt (wpAny_pure ⟨_, rfl, hq⟩))
theorem truthy_KL {Q : Bool → Shared → Prop} (X : K.In s.heap) (I : PySem.W.InstAt s.heap x ox C od) (hb : PySem.W.findIn K (.ref C) "__bool__" = some none) (hl : PySem.W.findIn K (.ref C) "__len__" = some (some (.ref f))) (hf : PySem.W.isFn K (.ref f) = true)
    (h : wpAny (model prog w) A.in1 (call (.ref f) [.ref x]) (PySem.W.LenBack fun v s' => ∃ n t, v = .int n t ∧ Q (n != 0) s') E s) : wpAny (model prog w) A (truthy (.ref x)) Q E s := by
  have key : wpAny (model prog w) A (runValue (.builtin "len" ⟨[.ref x], []⟩)) (fun r s' => ∃ n t, r = .int n t ∧ Q (n != 0) s') E s := by
    refine wpAny_runValue (codeAny_builtin entry_len ?_)
    rw [Around.under_plainId plain_len _]
    exact wpAny_mono (len_bodyK X I hl hf h) (fun fin s' h' => by obtain ⟨r, rfl, hq⟩ := h'; exact hq) fun _ _ e => e
  unfold truthy
  refine wpAny_bind (m := callSpecial? (.ref x) (Str.ofString "__bool__")) (wpAny_bind (wpAny_bind (I.type.here ((PySem.W.looks_findIn X hb).here (wpAny_pure ?_)))))
  refine wpAny_bind (wpAny_bind (I.type.here ((PySem.W.looks_findIn X hl).here ?_)))
  exact wpAny_bind (wpAny_mono key (fun r s' h' => by obtain ⟨n, t, rfl, hq⟩ := h'; exact wpAny_pure hq) fun _ _ e => e)
theorem bool_KL {Q : Value → Shared → Prop} (X : K.In s.heap) (I : PySem.W.InstAt s.heap x ox C od) (hb : PySem.W.findIn K (.ref C) "__bool__" = some none) (hl : PySem.W.findIn K (.ref C) "__len__" = some (some (.ref f))) (hf : PySem.W.isFn K (.ref f) = true)
    (h : wpAny (model prog w) A.in1.in1.in1 (call (.ref f) [.ref x]) (PySem.W.LenBack fun v s' => ∃ n t, v = .int n t ∧ Q (.bool (n != 0)) s') E s) : wpAny (model prog w) A (call (.type "bool") [.ref x]) Q E s := by
  refine callType_codes (T := "bool") (Bi := Builtin.«object.__init__») (Q₁ := fun r s₁ => ∃ b, r = .bool b ∧ Q r s₁) PySem.F.called_bool (PySem.F.typeCall_bool_1 _) PySem.F.entry_object_init ?_ ?_
  · refine codeAny_of_tree ?_
    show wpAny _ A.in1.in1 (do checkBuiltinCall "bool.__new__" ⟨[.type "bool", .ref x], []⟩; again (.builtin "bool.__new__" ⟨[.type "bool", .ref x], []⟩)) _ _ s
    refine wpAny_bind (wpAny_of_eq (PySem.F.newCall_bool_1 _) (wpAny_pure ⟨plainId_quiet (by decide +kernel) _, codeAny_builtin PySem.F.entry_bool_new ?_⟩))
    rw [Around.under_plainId (by decide +kernel) _]
    have f1 := PySem.F.conv_sub_bool
    have key : wpAny (model prog w) A.in1.in1 (truthy (.ref x)) (fun b s1 => Q (.bool b) s1) E s := truthy_KL X I hb hl hf (wpAny_mono h (fun v s1 hv => by
      cases v <;> first | exact hv.elim | skip
      obtain ⟨h01, n, t, e, hq⟩ := hv
      cases e
      exact ⟨h01, _, _, rfl, hq⟩) fun _ _ z => z)
    unfold Builtin.«bool.__new__»
    show wpAny _ _ (isType (.type "bool") >>= _) _ _ s
    refine wpAny_bind (wpAny_pure ?_)
    refine wpAny_bind (wpAny_of_eq f1 ?_)
    refine wpAny_bind (wpAny_pure ?_)
    exact wpAny_bind (wpAny_mono key (fun b s1 hb1 => wpAny_pure ⟨_, rfl, hb1⟩) fun _ _ z => z)
  · rintro obj s₁ ⟨b, rfl, hq⟩
    exact ⟨rfl, PySem.F.args_object_init_2 _ _, object_init_meets PySem.F.called_bool.init.lookup PySem.F.called_bool.made (by decide) prog w A.in1 _ s₁ ⟨rfl, rfl, hq⟩⟩
end
section
variable {X : Cx} {C g : Addr} {n : Nat} {sp : Sp}
def rBoolL (C : Addr) (sp : Sp) : List V → Hp → VK → Prop := fun xs H Q => ∃ (a dx : Addr) (fs : List (Str × V)), xs = [.ref a] ∧ H a = some (.ins C dx fs) ∧ sp [.ref a] H (fun v H2 => ∃ k : Nat, v = .int k ∧ k ≤ 1000000 ∧ Q (.bl ((k : Int) != 0)) H2) fun _ _ _ => False
theorem call_boolLO (hb : PySem.W.findIn X.K (.ref C) "__bool__" = some none) (hs : PySem.W.findIn X.K (.ref C) "__len__" = some (some (.ref g))) (hf : PySem.W.isFn X.K (.ref g) = true) (F : FnR X.prog X.w X.K X.mg X.base CX0 n g sp) (hr : Room (n + 3) X.A) : CallR X (.type "bool") (rBoolL C sp) := by
  intro pins s σ H xs us Q I r h
  obtain ⟨a, dx, fs, rfl, ha, q⟩ := h
  obtain ⟨u, rfl, ru⟩ := vals1 r
  cases (show u = Value.ref a from ru)
  obtain ⟨ox, od, J⟩ := inst_of I ha
  have hr2 : Room (n + 2) X.A.in1 := hr.in1
  have hr1 : Room (n + 1) X.A.in1.in1 := hr2.in1
  refine bool_KL I.kIn J hb hs hf ?_
  refine wpAny_mono (wpAny_call (SlX.run_at (us := [.ref a]) (ws := [.ref a]) F hr1.in1 I.env0.in1.in1.in1 pass0 I (.cons rfl .nil) q)) (fun z s2 hz => ?_) fun _ _ e => e
  obtain ⟨z2, H2, I2, rz, k, rfl, hk, qz⟩ := hz
  obtain ⟨tk, rfl⟩ := (show ∃ tk, z = Value.int k tk from rz)
  exact ⟨⟨by omega, by omega⟩, _, _, rfl, .bl _, H2, I2.tok _, rfl, qz⟩
end
/-! ### tuples cut and put together -/
theorem cut_to (xs : List V) (k : Nat) (h : k ≤ xs.length) : cutV xs none (some (k : Int)) = xs.take k := by
  unfold cutV
  rw [HT.sIx_none, HT.sIx_nat, Nat.min_eq_left h]
  rfl
theorem cut_from (xs : List V) (k : Nat) : cutV xs (some (k : Int)) none = xs.drop k := by
  unfold cutV
  rw [HT.sIx_none, HT.sIx_nat]
  by_cases h : k ≤ xs.length
  · rw [Nat.min_eq_left h]
    exact List.take_of_length_le (by rw [List.length_drop]; omega)
  · rw [Nat.min_eq_right (by omega), List.drop_length, List.drop_eq_nil_of_le (by omega)]
    simp
section
variable {X : Cx}
def rSlS (K : PySem.W.Frag) : V → Option Int → Option Int → Hp → VK → Prop := fun x lo hi H Q => ∃ a xs, x = .ref a ∧ SqT K H a xs ∧ ∀ (H' : Hp) (q : Addr), Same H H' → SqT K H' q (cutV xs lo hi) → Q (.ref q) H'
theorem sl_tupS : SlR X (rSlS X.K) := by
  intro pins s σ H x v vl vu lo hi sl Q I rx hs pl pu h
  obtain ⟨a, xs, rfl, hx, q⟩ := h
  refine sl_tupA pins s σ H _ v vl vu lo hi sl Q I rx hs pl pu ⟨a, xs, rfl, hx, fun z => ?_, fun _ p np => q _ p (same_new np) (SqT.of upd_same)⟩
  refine q H a (Same.refl _) ?_
  have e : cutV xs lo hi = xs := by
    unfold cutV
    rw [z.1, z.2]
    simp
  rw [e]
  exact hx
def rCatS (K : PySem.W.Frag) : R2 := fun x y H Q => ∃ a b xs ys, x = .ref a ∧ y = .ref b ∧ SqT K H a xs ∧ SqT K H b ys ∧ xs.length + ys.length ≤ sizeLine ∧ ∀ (H' : Hp) (q : Addr), Same H H' → SqT K H' q (xs ++ ys) → Q (.ref q) H'
theorem op_catS : OpR X (binaryOp .Add) (rCatS X.K) := by
  intro pins s σ H x y v u Q I rx ry h
  obtain ⟨a, b, xs, ys, rfl, rfl, ha, hb, hz, q⟩ := h
  refine op_catA pins s σ H _ _ v u Q I rx ry ⟨a, b, xs, ys, rfl, rfl, ha, hb, hz, fun z => ?_, fun _ z => ?_, fun _ _ p np => q _ p (same_new np) (SqT.of upd_same)⟩
  · refine q H b (Same.refl _) ?_
    rw [z]
    exact hb
  · refine q H a (Same.refl _) ?_
    rw [z, List.append_nil]
    exact ha
end
/-! ### a reading may be asked for more -/
section
variable {X : Cx} {e : Expr} {es : List Expr} {st : Stmt} {sts : List Stmt}
theorem pe_imp {t t' : TE} (h : PE X e t) (k : ∀ σ H Q, t' σ H Q → t σ H Q) : PE X e t' := ⟨fun pins s σ H Q I q => h.run pins s σ H Q I (k σ H Q q)⟩
theorem pa_imp {t t' : TA} (h : PA X es t) (k : ∀ σ H Q, t' σ H Q → t σ H Q) : PA X es t' := ⟨fun pos pins s σ H Q I q => h.run pos pins s σ H Q I (k σ H Q q)⟩
theorem pt_imp {t t' : TT} (h : PT X e t) (k : ∀ σ H Q, t' σ H Q → t σ H Q) : PT X e t' := ⟨fun pins s σ H Q I q => h.run pins s σ H Q I (k σ H Q q)⟩
theorem ps_imp {t t' : TS} (h : PS X st t) (k : ∀ D σ H, t' D σ H → t D σ H) : PS X st t' := ⟨fun pins s σ H D I q => h.run pins s σ H D I (k D σ H q)⟩
theorem pss_imp {t t' : TS} (h : PSs X sts t) (k : ∀ D σ H, t' D σ H → t D σ H) : PSs X sts t' := ⟨fun pins s σ H D I q => h.run pins s σ H D I (k D σ H q)⟩
end
theorem hu64 {A : Around} {k : Nat} (hr : Room k A) : A.units + 64 < cLine := by
  have := hr.un
  omega
/-! ### the same, for tuples that are tracked -/
section
variable {X : Cx}
def rSlH : V → Option Int → Option Int → Hp → VK → Prop := fun x lo hi H Q => ∃ a xs, x = .ref a ∧ H a = some (.tup xs) ∧ ∀ (H' : Hp) (q : Addr), Same H H' → H' q = some (.tup (cutV xs lo hi)) → Q (.ref q) H'
theorem sl_tupH : SlR X rSlH := by
  intro pins s σ H x v vl vu lo hi sl Q I rx hs pl pu h
  obtain ⟨a, xs, rfl, hx, q⟩ := h
  refine sl_tupA pins s σ H _ v vl vu lo hi sl Q I rx hs pl pu ⟨a, xs, rfl, SqT.of hx, fun z => ?_, fun _ p np => q _ p (same_new np) upd_same⟩
  refine q H a (Same.refl _) ?_
  have e : cutV xs lo hi = xs := by
    unfold cutV
    rw [z.1, z.2]
    simp
  rw [e]
  exact hx
def rCatH : R2 := fun x y H Q => ∃ a b xs ys, x = .ref a ∧ y = .ref b ∧ H a = some (.tup xs) ∧ H b = some (.tup ys) ∧ xs.length + ys.length ≤ sizeLine ∧ ∀ (H' : Hp) (q : Addr), Same H H' → H' q = some (.tup (xs ++ ys)) → Q (.ref q) H'
theorem op_catH : OpR X (binaryOp .Add) rCatH := by
  intro pins s σ H x y v u Q I rx ry h
  obtain ⟨a, b, xs, ys, rfl, rfl, ha, hb, hz, q⟩ := h
  refine op_catA pins s σ H _ _ v u Q I rx ry ⟨a, b, xs, ys, rfl, rfl, SqT.of ha, SqT.of hb, hz, fun z => ?_, fun _ z => ?_, fun _ _ p np => q _ p (same_new np) upd_same⟩
  · refine q H b (Same.refl _) ?_
    rw [z]
    exact hb
  · refine q H a (Same.refl _) ?_
    rw [z, List.append_nil]
    exact ha
end
theorem cut_mid (xs : List V) (a b : Nat) (h1 : a ≤ b) (h2 : b ≤ xs.length) : cutV xs (some (a : Int)) (some (b : Int)) = (xs.drop a).take (b - a) := by
  unfold cutV
  rw [HT.sIx_nat, HT.sIx_nat, Nat.min_eq_left h2, Nat.min_eq_left (by omega)]
end Cm

/-! texts of loops: what their words are, and when they are right -/
namespace LM
open PySem L2 TL
def tests : List Str := ["empty", "some", "short", "full", "told", "open", "rest", "bare"]
def rsteps : List Str := ["add", "hand", "cut", "flush", "stop", "again"]
def esteps : List Str := ["hand", "cut", "flush"]
def wordsR (t : Str) : List Str := Txt.split (Txt.partition t " | ").1 " "
def wordsE (t : Str) : List Str := if (Txt.partition t " | ").2.1.length != 0 then Txt.split (Txt.partition t " | ").2.2 " " else []
def orderOf (w : Str) : Str × Str := if (Txt.partition w ":").2.1.length != 0 then ((Txt.partition w ":").1, (Txt.partition w ":").2.2) else ("", w)
def isWord (w : Str) (ss : List Str) : Bool := if (Txt.partition w ":").2.1.length != 0 then decide ((Txt.partition w ":").1 ∈ tests) && decide ((Txt.partition w ":").2.2 ∈ ss) else decide (w ∈ ss)
def areWords (ws ss : List Str) : Bool := ws.all fun w => isWord w ss
def isAdd (w : Str) : Bool := decide ((orderOf w).2 = "add")
def isRound (ws : List Str) : Bool := decide (ws.head? = some "ask") && (decide (ws.length ≤ 12) && (decide ((ws.filter isAdd).length ≤ 1) && areWords ws.tail rsteps))
def isEnding (ws : List Str) : Bool := decide (ws.length ≤ 6) && areWords ws esteps
def goodText (t : Str) : Bool := isRound (wordsR t) && isEnding (wordsE t)
def svs (ws : List Str) : List V := ws.map V.str
theorem svs_flat : ∀ ws : List Str, (svs ws).all flatV = true
  | [] => rfl
  | _ :: r => svs_flat r
theorem inV_svs (w : Str) : ∀ ws : List Str, inV (.str w) (svs ws) = decide (w ∈ ws)
  | [] => by simp [inV, svs]
  | x :: r => by
    have ih := inV_svs w r
    show (eqV (.str x) (.str w) || inV (.str w) (svs r)) = _
    rw [ih]
    show ((x == w) || decide (w ∈ r)) = _
    by_cases h : x = w
    · subst h
      simp
    · have h2 : (x == w) = false := by
        cases hh : (x == w) with
        | false => rfl
        | true => exact absurd (eq_of_beq hh) h
      rw [h2, Bool.false_or]
      refine decide_eq_decide.mpr ⟨fun z => List.mem_cons_of_mem _ z, fun z => ?_⟩
      rcases List.mem_cons.mp z with z | z
      · exact absurd z.symm h
      · exact z
theorem split_ne (x y : Str) : Txt.split x y ≠ [] := by
  unfold Txt.split
  split
  · simp
  · split
    · simp
    · rw [PySem.StrLaws.partsBetween_eq]
      cases Builtin.Str.occurrences x y 0 x.length (x.length + 1) <;> simp [PySem.StrLaws.partsFrom]
/-! ### drawn words -/
/-- a step of these, or a test before it -/
def Wd (ss : List Str) (w : Str) : Prop := ∃ s ∈ ss, w = s ∨ ∃ t ∈ tests, w = t ++ (":" : Str) ++ s
def allWd (ss : List Str) : List Str := ss ++ (tests.map fun t : Str => ss.map fun s : Str => t ++ (":" : Str) ++ s).flatten
theorem Wd.mem {ss : List Str} {w : Str} (h : Wd ss w) : w ∈ allWd ss := by
  obtain ⟨s, hs, rfl | ⟨t, ht, rfl⟩⟩ := h
  · exact List.mem_append.mpr (.inl hs)
  · exact List.mem_append.mpr (.inr (List.mem_flatten.mpr ⟨_, List.mem_map.mpr ⟨t, ht, rfl⟩, List.mem_map.mpr ⟨s, hs, rfl⟩⟩))
theorem Wd.mono {ss zs : List Str} {w : Str} (f : ∀ s ∈ ss, s ∈ zs) (h : Wd ss w) : Wd zs w := let ⟨s, hs, q⟩ := h; ⟨s, f s hs, q⟩
/-- what is known of a word -/
def wdOk (w : Str) : Bool := isWord w rsteps && (decide (32 ∉ tl w) && (decide (124 ∉ tl w) && decide (w.length ≤ 11)))
theorem wd_ok : ∀ w ∈ allWd rsteps, wdOk w = true := by decide +kernel
theorem wd_end : ∀ w ∈ allWd esteps, isWord w esteps = true := by decide +kernel
theorem wd_noadd : ∀ w ∈ allWd ["hand", "cut", "flush", "stop", "again"], isAdd w = false := by decide +kernel
/-! ### lines -/
def line (B E : List Str) : Str := if E = [] then Txt.join " " B else Txt.join " " (B ++ [("|" : Str)] ++ E)
def textOf (B E : List Str) : Str := if E = [] then Txt.join " " B else Txt.join " " B ++ " | " ++ Txt.join " " E
/-- no space and no bar is in it -/
def Fre (w : Str) : Prop := 32 ∉ tl w ∧ 124 ∉ tl w
theorem tlSp : tl (" " : Str) = [32] := by decide +kernel
theorem tlBar : tl (" | " : Str) = [32, 124, 32] := by decide +kernel
theorem tlB1 : tl ("|" : Str) = [124] := by decide +kernel
theorem joinL_app (S : List Nat) : ∀ (a b : List (List Nat)), a ≠ [] → b ≠ [] → joinL S (a ++ b) = joinL S a ++ (S ++ joinL S b)
  | [], _, h, _ => absurd rfl h
  | [p], b, _, hb => by
    cases b with
    | nil => exact absurd rfl hb
    | cons q r => rfl
  | p :: q :: r, b, _, hb => by
    show p ++ (S ++ joinL S (q :: r ++ b)) = p ++ (S ++ joinL S (q :: r)) ++ (S ++ joinL S b)
    rw [joinL_app S (q :: r) b (by simp) hb]
    simp [List.append_assoc]
theorem joinL_mem {S : List Nat} {c : Nat} : ∀ {a : List (List Nat)}, c ∈ joinL S a → c ∈ S ∨ ∃ p ∈ a, c ∈ p
  | [], h => nomatch h
  | [p], h => .inr ⟨p, List.mem_singleton.mpr rfl, h⟩
  | p :: q :: r, h => by
    rcases List.mem_append.mp (show c ∈ p ++ (S ++ joinL S (q :: r)) from h) with h | h
    · exact .inr ⟨p, List.mem_cons_self .., h⟩
    · rcases List.mem_append.mp h with h | h
      · exact .inl h
      · rcases joinL_mem h with h | ⟨z, hz, hc⟩
        · exact .inl h
        · exact .inr ⟨z, List.mem_cons_of_mem _ hz, hc⟩
theorem tl_joinSp (B : List Str) : tl (Txt.join " " B) = joinL [32] (B.map tl) := by rw [join_eq, tl_join, tlSp]
theorem nobar {B : List Str} (h : ∀ w ∈ B, Fre w) : 124 ∉ tl (Txt.join " " B) := by
  rw [tl_joinSp]
  intro hm
  rcases joinL_mem hm with hm | ⟨p, hp, hc⟩
  · exact absurd hm (by decide)
  · obtain ⟨w, hw, rfl⟩ := List.mem_map.mp hp
    exact (h w hw).2 hc
theorem line_text {B E : List Str} (hB : B ≠ []) : line B E = textOf B E := by
  unfold line textOf
  by_cases hE : E = []
  · rw [if_pos hE, if_pos hE]
  · rw [if_neg hE, if_neg hE]
    refine ext_tl ?_
    rw [tl_append, tl_append, tl_joinSp, tl_joinSp, tl_joinSp, tlBar, List.map_append, List.map_append, joinL_app _ _ _ (by simp) (by simpa using hE), joinL_app _ _ _ (by simpa using hB) (by simp)]
    simp [joinL, tlB1]
theorem pre_bar {l : List Nat} (h : pre [32, 124, 32] l = true) : ∃ r, l = 32 :: 124 :: 32 :: r := by
  have e : l.take 3 = [32, 124, 32] := eq_of_beq h
  match l, e with
  | a :: b :: c :: r, e =>
    simp at e
    obtain ⟨rfl, rfl, rfl⟩ := e
    exact ⟨r, rfl⟩
theorem no_bar {p q : List Nat} (h : 124 ∉ p) (hq : q = [] ∨ ∃ r, q = 32 :: r) : ∀ i, i < p.length → pre [32, 124, 32] ((p ++ q).drop i) = false := by
  intro i hi
  cases hp : pre [32, 124, 32] ((p ++ q).drop i) with
  | false => rfl
  | true =>
    obtain ⟨r, e⟩ := pre_bar hp
    have e1 : (p ++ q)[i + 1]? = some 124 := by
      have : ((p ++ q).drop i)[1]? = some 124 := by rw [e]; rfl
      rw [List.getElem?_drop] at this
      exact this
    by_cases h1 : i + 1 < p.length
    · rw [List.getElem?_append_left h1] at e1
      exact absurd (List.mem_of_getElem? e1) h
    · rw [List.getElem?_append_right (by omega)] at e1
      rcases hq with rfl | ⟨r, rfl⟩
      · simp at e1
      · have : i + 1 - p.length = 0 := by omega
        rw [this] at e1
        simp at e1
theorem part_no {x : Str} (h : 124 ∉ tl x) : Txt.partition x " | " = (x, Str.empty, Str.empty) := by
  rw [partition_par _ _ (by rw [tlBar]; simp), tlBar, par_none]
  intro i hi
  have := no_bar (q := []) h (.inl rfl) i hi
  rwa [List.append_nil] at this
theorem part_yes {x y : Str} (h : 124 ∉ tl x) : Txt.partition (x ++ " | " ++ y) " | " = (x, (" | " : Str), y) := by
  rw [partition_par _ _ (by rw [tlBar]; simp), tl_append, tl_append, List.append_assoc, tlBar, par_part (by simp) (no_bar h (.inr ⟨_, rfl⟩))]
  show ((⟨([] ++ tl x).toArray⟩ : Str), _, (⟨(tl y).toArray⟩ : Str)) = _
  rw [List.nil_append, mk_tl, mk_tl]
theorem split_words {B : List Str} (hB : B ≠ []) (h : ∀ w ∈ B, Fre w) : Txt.split (Txt.join " " B) " " = B :=
  split_join (s := 32) (S := []) tlSp (by decide +kernel) hB fun p hp => (h p hp).1
theorem words_text {B E : List Str} (hB : B ≠ []) (h1 : ∀ w ∈ B, Fre w) (h2 : ∀ w ∈ E, Fre w) : wordsR (textOf B E) = B ∧ wordsE (textOf B E) = E := by
  unfold wordsR wordsE textOf
  by_cases hE : E = []
  · rw [if_pos hE, part_no (nobar h1)]
    refine ⟨split_words hB h1, ?_⟩
    rw [hE]
    rfl
  · rw [if_neg hE, part_yes (nobar h1)]
    refine ⟨split_words hB h1, ?_⟩
    exact (if_pos (show ((" | " : Str).length != 0) = true by decide +kernel)).trans (split_words hE h2)
theorem words_line {B E : List Str} (hB : B ≠ []) (h1 : ∀ w ∈ B, Fre w) (h2 : ∀ w ∈ E, Fre w) : wordsR (line B E) = B ∧ wordsE (line B E) = E := by
  rw [line_text hB]
  exact words_text hB h1 h2
/-! ### lengths -/
theorem sum_le {n : Nat} : ∀ {B : List Str}, (∀ w ∈ B, w.length ≤ n) → (B.map (·.length)).sum ≤ n * B.length
  | [], _ => Nat.zero_le _
  | w :: r, h => by
    have a := h w (List.mem_cons_self ..)
    have b := sum_le (B := r) fun z hz => h z (List.mem_cons_of_mem _ hz)
    rw [List.map_cons, List.sum_cons, List.length_cons, Nat.mul_succ]
    omega
theorem join_len : ∀ B : List Str, (Txt.join " " B).length ≤ (B.map (·.length)).sum + B.length := by
  intro B
  rw [len_tl, tl_joinSp]
  induction B with
  | nil => simp [joinL]
  | cons w r ih =>
    cases r with
    | nil =>
      show (tl w).length ≤ _
      rw [← len_tl]
      simp
    | cons x r =>
      show (tl w ++ ([32] ++ joinL [32] ((x :: r).map tl))).length ≤ _
      rw [List.length_append, List.length_append, ← len_tl]
      simp only [List.map_cons, List.sum_cons, List.length_cons, List.length_nil] at ih ⊢
      omega
/-- short words, not many -/
def Sht (n : Nat) (B : List Str) : Prop := (∀ w ∈ B, w.length ≤ 11) ∧ B.length ≤ n
theorem Sht.sum {n : Nat} {B : List Str} (h : Sht n B) : (B.map (·.length)).sum + B.length * 1 ≤ 12 * n := by
  have := sum_le h.1
  have := h.2
  omega
theorem Sht.join {n : Nat} {B : List Str} (h : Sht n B) : (Txt.join " " B).length ≤ 12 * n := by
  have := h.sum
  have := join_len B
  omega
/-! ### bounds of what is cut -/
theorem spl_len (S : List Nat) : ∀ (k : Nat) (acc l : List Nat), (spl S k acc l).length ≤ l.length + 1
  | k, acc, [] => by rw [spl_nil]; simp
  | 0, acc, c :: r => by
    cases h : pre S (c :: r) with
    | true =>
      rw [spl_hit h, List.length_cons, List.length_cons]
      have := spl_len S (S.length - 1) [] r
      omega
    | false =>
      rw [spl_miss h, List.length_cons]
      have := spl_len S 0 (acc ++ [c]) r
      omega
  | k + 1, acc, _ :: r => by
    show (spl S k acc r).length ≤ _
    have := spl_len S k acc r
    rw [List.length_cons]
    omega
theorem spl_word (S : List Nat) : ∀ (k : Nat) (acc l : List Nat), ∀ p ∈ spl S k acc l, p.length ≤ acc.length + l.length
  | k, acc, [], p, hp => by
    rw [spl_nil] at hp
    rw [List.mem_singleton.mp hp]
    omega
  | 0, acc, c :: r, p, hp => by
    cases h : pre S (c :: r) with
    | true =>
      rw [spl_hit h] at hp
      rcases List.mem_cons.mp hp with rfl | hp
      · omega
      · have := spl_word S (S.length - 1) [] r p hp
        simp at this ⊢
        omega
    | false =>
      rw [spl_miss h] at hp
      have := spl_word S 0 (acc ++ [c]) r p hp
      simp at this ⊢
      omega
  | k + 1, acc, _ :: r, p, hp => by
    have := spl_word S k acc r p hp
    simp at this ⊢
    omega
theorem split_sp (x : Str) : (Txt.split x " ").map tl = spl [32] 0 [] (tl x) := by
  have := split_spl x " " (by rw [tlSp]; simp) (kind_ok (by decide +kernel))
  rwa [tlSp] at this
theorem split_len (x : Str) : (Txt.split x " ").length ≤ x.length + 1 := by
  have := spl_len [32] 0 [] (tl x)
  rw [← split_sp, List.length_map, ← len_tl] at this
  exact this
theorem split_word {x w : Str} (h : w ∈ Txt.split x " ") : w.length ≤ x.length := by
  have := spl_word [32] 0 [] (tl x) (tl w) (by rw [← split_sp]; exact List.mem_map.mpr ⟨w, h, rfl⟩)
  rw [← len_tl, ← len_tl] at this
  simpa using this
theorem part_len (x y : Str) : (Txt.partition x y).1.length ≤ x.length ∧ (Txt.partition x y).2.1.length ≤ y.length ∧ (Txt.partition x y).2.2.length ≤ x.length := by
  rcases PyProof.Rows.partition_whole x y with ⟨e, _⟩ | ⟨i, e, _, _⟩
  · rw [e]
    exact ⟨Nat.le_refl _, Nat.zero_le _, Nat.zero_le _⟩
  · rw [e]
    refine ⟨?_, Nat.le_refl _, ?_⟩
    · rw [len_tl, tl_strSub, List.length_take, List.length_drop, ← len_tl]
      omega
    · rw [len_tl, tl_strSub_end, List.length_drop, ← len_tl]
      omega
/-- the words of a text of at most n signs -/
theorem wordsR_len (t : Str) : (wordsR t).length ≤ t.length + 1 := by
  have := split_len (Txt.partition t " | ").1
  have := (part_len t " | ").1
  unfold wordsR
  omega
theorem wordsE_len (t : Str) : (wordsE t).length ≤ t.length + 1 := by
  unfold wordsE
  split
  · have := split_len (Txt.partition t " | ").2.2
    have := (part_len t " | ").2.2
    omega
  · simp
theorem wordsR_word {t w : Str} (h : w ∈ wordsR t) : w.length ≤ t.length := Nat.le_trans (split_word h) (part_len t " | ").1
theorem wordsE_word {t w : Str} (h : w ∈ wordsE t) : w.length ≤ t.length := by
  unfold wordsE at h
  split at h
  · exact Nat.le_trans (split_word h) (part_len t " | ").2.2
  · exact nomatch h
theorem wordsR_ne (t : Str) : wordsR t ≠ [] := split_ne _ _
end LM

/-! what many parts want: the error about texts, small lemmas -/
namespace My
open PySem L2 Cm LM
abbrev sEI : Stmt := inClass (top 4) 0
theorem nz (n : Nat) : ((n : Int) != 0) = (n != 0) := by
  cases n with
  | zero => rfl
  | succ k => simp; omega
/-- no text is longer -/
def Bd (t : Str) : Prop := t.length ≤ 100000
theorem Bd.part {t : Str} (y : Str) (h : Bd t) : Bd (Txt.partition t y).1 ∧ Bd (Txt.partition t y).2.2 := ⟨Nat.le_trans (part_len t y).1 h, Nat.le_trans (part_len t y).2.2 h⟩
theorem Bd.line {t : Str} (h : Bd t) : t.length ≤ sizeLine := Nat.le_of_lt (szM (Nat.le_trans h (by decide)))
theorem Bd.line2 {t : Str} (h : Bd t) : t.length + 2 ≤ sizeLine := Nat.le_of_lt (szM (by unfold Bd at h; omega))
theorem svs_get {ws : List Str} {i : Nat} {x : V} (h : (svs ws)[i]? = some x) : ∃ z, ws[i]? = some z ∧ x = .str z := by
  unfold svs at h
  rw [List.getElem?_map] at h
  cases e : ws[i]? with
  | none => rw [e] at h; cases h
  | some z =>
    rw [e] at h
    exact ⟨z, rfl, (Option.some.inj h).symm⟩
theorem take_snoc {α : Type} {xs : List α} {i : Nat} {x : α} (h : xs[i]? = some x) : xs.take (i + 1) = xs.take i ++ [x] := by
  rw [List.take_succ, h]
  rfl
theorem lt_of_get {α : Type} {xs : List α} {i : Nat} {x : α} (h : xs[i]? = some x) : i < xs.length := (List.getElem?_eq_some_iff.mp h).1
/-- not many words, none too long -/
def BdW (ws : List Str) : Prop := (∀ z ∈ ws, Bd z) ∧ ws.length ≤ 100001
theorem made_same {H H' : Hp} {x dx C : Addr} (nx : H x = none) (ndx : H dx = none) (o : Off x (upd (upd H dx (.own x)) x (.ins C dx [])) H') : Same H H' := fun b u e => o b u (ne_of_none e nx) (by rw [upd_ne (ne_of_none e nx), upd_ne (ne_of_none e ndx)]; exact e)
/-- a special method of the class at C -/
structure Sm (K : PySem.W.Frag) (C : Addr) (x q : Str) (st : Stmt) (ps : List Str) where
  f : Addr
  fd : FuncData
  F : Fun K x q st f fd
  b : Binds K fd ps []
  i : PySem.W.findIn K (.ref C) x = some (some (.ref f))
  fn : PySem.W.isFn K (.ref f) = true
theorem TyX_same {K : PySem.W.Frag} {H H' : Hp} (s : Same H H') {x : V} {t : Value} (h : TyX K H x t) : TyX K H' x t := by
  cases h with
  | base b =>
    refine .base ?_
    cases b with
    | non => exact .non
    | bl x => exact .bl x
    | int i => exact .int i
    | str x => exact .str x
    | flt x => exact .flt x
    | lst e => exact .lst (s _ _ e)
    | frz e => exact .frz (s _ _ e)
    | tup e => exact .tup (s _ _ e)
    | dK e => exact .dK (s _ _ e)
    | dT e => exact .dT (s _ _ e)
    | ins e a b c d f => exact .ins (s _ _ e) a b c d f
  | byt b => exact .byt b
  | set e => exact .set (s _ _ e)
  | kList e c => exact .kList e c
  | kTuple e c => exact .kTuple e c
  | kDict e c => exact .kDict e c
  | fTuple e => exact .fTuple (s _ _ e)
  | fDict e => exact .fDict (s _ _ e)
theorem jar_ne {H : Hp} {j p : Addr} (a : Jar H j) (n : H p = none) : p ≠ j := fun z => by
  obtain ⟨_, _, _, q⟩ := a
  rw [z, q] at n
  cases n
theorem Jar.put {H : Hp} {j p : Addr} {o : HO} (a : Jar H j) (n : p ≠ j) : Jar (upd H p o) j := by
  obtain ⟨x, y, z, q⟩ := a
  exact ⟨x, y, z, by rw [upd_ne n.symm]; exact q⟩
/-- a store to what was not there at first -/
theorem Off.put2 {j q : Addr} {H H1 : Hp} {o : HO} (a : Off j H H1) (n : H q = none) : Off j H (upd H1 q o) := fun b u nb e => by
  rw [upd_ne (ne_of_none e n)]
  exact a b u nb e
/-- tuples that stand stay, if what is written is no tuple -/
theorem tup_stays {H : Hp} {x : Addr} {o o' : HO} (hx : H x = some o) (n : ∀ xs, o ≠ .tup xs) : ∀ (p : Addr) (xs : List V), H p = some (.tup xs) → (upd H x o') p = some (.tup xs) := fun p xs e => by
  rw [upd_ne]
  · exact e
  · intro z
    rw [z, hx] at e
    exact n xs (Option.some.inj e)
def isS : V → Bool
  | .str _ => true
  | _ => false
/-- its type is told -/
def Typed (K : PySem.W.Frag) (H : Hp) (x : V) : Prop := ∃ t, TyX K H x t ∧ PySem.W.kitOne K t (.type "str") = some (isS x)
theorem typed_str {K : PySem.W.Frag} {H : Hp} (x : Str) : Typed K H (.str x) := ⟨_, .base (.str x), kit_ty (show kitB "str" "str" = some true by decide +kernel)⟩
/-! ### the error -/
structure TxE (K : PySem.W.Frag) (mg : Str → Option Value) where
  C : Addr
  f : Addr
  fd : FuncData
  g : mg "InvalidText" = some (.ref C)
  o : OexC K C
  i : PySem.W.findIn K (.ref C) "__init__" = some (some (.ref f))
  t : PySem.W.typeIn K (.ref f) = some (.type "function")
  n : PySem.W.findIn K (.ref C) "value" = some none
  F : Fun K "__init__" "InvalidText.__init__" sEI f fd
  b : Binds K fd ["self", "value"] []
section
variable {P : Program} {w : World} {K : PySem.W.Frag} {mg : Str → Option Value} {base : Heap}
def spEI (CE : Addr) : Sp := fun vs H Q _ => ∃ (a : Addr) (v : V), vs = [.ref a, v] ∧ H a = some (exo a CE none) ∧ ∀ dx, H dx = none → dx ≠ a → Q .non (upd (upd H dx (exd dx [("value", v)])) a (exo a CE (some dx)))
theorem scEI : FnScope ["self", "value"] ["self", "value"] (defScope sEI) := ⟨rfl, rfl, rfl, by decide +kernel, rfl, by decide +kernel, by decide +kernel⟩
theorem ok_ei (T : TxE K mg) : FnOk P w K mg base CX0 1 T.f T.fd ["self", "value"] (spEI T.C) := by
  refine T.F.ok scEI (fun vs H Q E h => ?_) (fun cdv A outer s H vs Q E hr h => ?_)
  · obtain ⟨a, v, rfl, _⟩ := h
    rfl
  · obtain ⟨a, v, rfl, ha, k⟩ := h
    refine ⟨_, pss_one (ps_ost (pv 0) (pv 1)), ?_⟩
    exact ⟨_, rfl, _, rfl, a, T.C, rfl, T.o, T.n, .inl ⟨ha, fun dx n ne => k dx n ne⟩⟩
/-- raise X(x), as its making is read -/
theorem mk_err {CE : Addr} {ta : TA} {σ : St} {H : Hp} {Q : XK} {x : V} (h : ta σ H fun vs H1 => vs = [x] ∧ H1 = H) (mono : ∀ {R R' : List V → Hp → Prop}, ta σ H R → (∀ v H1, R v H1 → R' v H1) → ta σ H R')
    (q : ∀ d, H d = none → Q (.ref CE) (some d) (upd H d (.xd [("value", x)]))) : tMkO CE (spEI CE) [] ta σ H Q := by
  refine mono h fun vs H1 hh => ?_
  obtain ⟨rfl, rfl⟩ := hh
  refine ⟨by show 1 ≤ 1000; decide, fun a na => ⟨a, x, rfl, upd_same, fun dx ndx nda => ⟨rfl, dx, [("value", x)], upd_same, ?_, ?_, ?_⟩⟩⟩
  · rw [upd_ne nda, upd_same]
  · rw [upd_ne nda] at ndx
    exact ndx
  · have e : upd (del (upd (upd (upd H1 a (exo a CE none)) dx (exd dx [("value", x)])) a (exo a CE (some dx))) a) dx (.xd [("value", x)]) = upd H1 dx (.xd [("value", x)]) := by
      funext b
      by_cases h1 : b = dx
      · rw [h1, upd_same, upd_same]
      · rw [upd_ne h1, upd_ne h1]
        by_cases h2 : b = a
        · rw [h2, del_same, na]
        · rw [del_ne h2, upd_ne h2, upd_ne h1, upd_ne h2]
    rw [e]
    rw [upd_ne nda] at ndx
    exact q dx ndx
end
end My

/-! the defs about texts of loops -/
namespace My
open PySem L2 Cm LM
abbrev sWO : Stmt := top 30
abbrev sOO : Stmt := top 31
abbrev sIW : Stmt := top 32
abbrev sAW : Stmt := top 33
abbrev sIR : Stmt := top 34
abbrev sIE : Stmt := top 35
/-- what the module's top has for these defs -/
structure TxL (K : PySem.W.Frag) (mg : Str → Option Value) where
  tuple : mg "tuple" = none
  len : mg "len" = none
  all : mg "all" = none
  bar : ∃ t, mg "BAR" = some (.str " | " t)
  mr : ∃ t, mg "MOST_ROUND" = some (.int 12 t)
  me : ∃ t, mg "MOST_ENDING" = some (.int 6 t)
  pT : Addr
  pR : Addr
  pE : Addr
  gT : mg "TESTS" = some (.ref pT)
  gR : mg "ROUND_STEPS" = some (.ref pR)
  gE : mg "ENDING_STEPS" = some (.ref pE)
  lT : ∀ H, SqT K H pT (svs tests)
  lR : ∀ H, SqT K H pR (svs rsteps)
  lE : ∀ H, SqT K H pE (svs esteps)
  wo : Df K mg "words_of" sWO ["text"]
  oo : Df K mg "order_of" sOO ["word"]
  iw : Df K mg "is_word" sIW ["word", "steps"]
  aw : Df K mg "are_words" sAW ["words", "steps"]
  ir : Df K mg "is_round" sIR ["words"]
  ie : Df K mg "is_ending" sIE ["words"]
section
variable {P : Program} {w : World} {K : PySem.W.Frag} {mg : Str → Option Value} {base : Heap}
/-! ### words_of -/
def spWO : Sp := fun vs H Q _ => ∃ t : Str, vs = [.str t] ∧ Bd t ∧ ∀ (H' : Hp) (p a b : Addr), Same H H' → H' p = some (.tup [.ref a, .ref b]) → H' a = some (.tup (svs (wordsR t))) → H' b = some (.tup (svs (wordsE t))) → Q (.ref p) H'
theorem scWO : FnScope ["text", "head", "bar", "tail"] ["text"] (defScope sWO) := ⟨rfl, rfl, rfl, by decide +kernel, rfl, by decide +kernel, by decide +kernel⟩
theorem ok_wo (T : TxL K mg) : FnOk P w K mg base CX0 1 T.wo.f T.wo.fd ["text"] spWO := by
  obtain ⟨tb, hb⟩ := T.bar
  refine T.wo.F.ok scWO (fun vs H Q E h => ?_) (fun cdv A outer s H vs Q E hr h => ?_)
  · obtain ⟨t, rfl, _⟩ := h
    rfl
  · obtain ⟨t, rfl, bd, k⟩ := h
    refine ⟨_, pss_cons (ps_asg (pe_partition (pv 0) (pe_glob (v := .str " | ") rfl hb ⟨_, rfl⟩)) (pg_tup rfl (pgs_cons (pg_name (i := 1) scWO.nd rfl (.inl rfl)) (pgs_cons (pg_name (i := 2) scWO.nd rfl (.inl rfl)) (pgs_cons (pg_name (i := 3) scWO.nd rfl (.inl rfl)) pgs_nil)))))
      (pss_one (ps_ret (pe_tup (pa_cons (pe_callTy call_tuple_of (by rfl) T.tuple (by decide +kernel) (pa_cons (pe_split (pv 1) pe_str) pa_nil))
        (pa_cons (pe_ifExp (pt_truth (pv 2) (by intro _; rfl)) (pe_callTy call_tuple_of (by rfl) T.tuple (by decide +kernel) (pa_cons (pe_split (pv 3) pe_str) pa_nil)) (pe_tup pa_nil)) pa_nil))))), ?_⟩
    have bp := Bd.part " | " bd
    refine ⟨_, rfl, ⟨_, rfl⟩, t, " | ", rfl, rfl, by decide +kernel, bd.line, fun q nq => ?_⟩
    refine ⟨q, _, rfl, SqT.of upd_same, rfl, _, _, rfl, _, _, rfl, _, _, rfl, rfl, ?_⟩
    have s1 : Same H (upd H q (.tup [.str (Txt.partition t " | ").1, .str (Txt.partition t " | ").2.1, .str (Txt.partition t " | ").2.2])) := same_new nq
    generalize upd H q (.tup [.str (Txt.partition t " | ").1, .str (Txt.partition t " | ").2.1, .str (Txt.partition t " | ").2.2]) = H1 at s1 ⊢
    refine ⟨_, rfl, ⟨_, rfl⟩, _, " ", rfl, rfl, by decide +kernel, bp.1.line2, fun l nl => ?_⟩
    refine ⟨l, _, rfl, .inl ⟨SqL.of upd_same, fun a na => ?_⟩⟩
    have s2 : Same H1 (upd (upd H1 l (.lst (svs (wordsR t)))) a (.tup (svs (wordsR t)))) := Same.trans (same_new nl) (same_new na)
    have ha : (upd (upd H1 l (.lst (svs (wordsR t)))) a (.tup (svs (wordsR t)))) a = some (.tup (svs (wordsR t))) := upd_same
    show tCons _ _ _ (upd (upd H1 l (.lst (svs (wordsR t)))) a (.tup (svs (wordsR t)))) _
    generalize upd (upd H1 l (.lst (svs (wordsR t)))) a (.tup (svs (wordsR t))) = H2 at s2 ha ⊢
    refine ⟨_, rfl, _, ⟨Nat.le_trans (part_len t " | ").2.1 (by decide +kernel), rfl⟩, ?_⟩
    rw [nz]
    cases hc : ((Txt.partition t " | ").2.1.length != 0) with
    | true =>
      have e : wordsE t = Txt.split (Txt.partition t " | ").2.2 " " := by unfold wordsE; rw [if_pos hc]
      refine iteT ?_
      refine ⟨_, rfl, ⟨_, rfl⟩, _, " ", rfl, rfl, by decide +kernel, bp.2.line2, fun l2 nl2 => ?_⟩
      rw [← e]
      refine ⟨l2, _, rfl, .inl ⟨SqL.of upd_same, fun b nb => ?_⟩⟩
      refine ⟨(by show 2 ≤ sizeLine; decide), fun p np => ?_⟩
      exact k _ p a b (Same.trans s1 (Same.trans s2 (Same.trans (same_new nl2) (Same.trans (same_new nb) (same_new np))))) upd_same (same_new np _ _ (same_new nb _ _ (same_new nl2 _ _ ha))) (same_new np _ _ upd_same)
    | false =>
      have e : wordsE t = [] := by unfold wordsE; rw [if_neg (by rw [hc]; exact Bool.false_ne_true)]
      refine iteF ?_
      refine ⟨Nat.zero_le _, fun b nb => ?_⟩
      refine ⟨(by show 2 ≤ sizeLine; decide), fun p np => ?_⟩
      refine k _ p a b (Same.trans s1 (Same.trans s2 (Same.trans (same_new nb) (same_new np)))) upd_same (same_new np _ _ (same_new nb _ _ ha)) ?_
      rw [e]
      exact same_new np _ _ upd_same
/-! ### order_of -/
def spOO : Sp := fun vs H Q _ => ∃ t : Str, vs = [.str t] ∧ Bd t ∧ ∀ (H' : Hp) (p : Addr), Same H H' → H p = none → H' p = some (.tup [.str (orderOf t).1, .str (orderOf t).2]) → Q (.ref p) H'
theorem scOO : FnScope ["word", "test", "colon", "step"] ["word"] (defScope sOO) := ⟨rfl, rfl, rfl, by decide +kernel, rfl, by decide +kernel, by decide +kernel⟩
theorem ok_oo (T : TxL K mg) : FnOk P w K mg base CX0 1 T.oo.f T.oo.fd ["word"] spOO := by
  refine T.oo.F.ok scOO (fun vs H Q E h => ?_) (fun cdv A outer s H vs Q E hr h => ?_)
  · obtain ⟨t, rfl, _⟩ := h
    rfl
  · obtain ⟨t, rfl, bd, k⟩ := h
    refine ⟨_, pss_cons (ps_asg (pe_partition (pv 0) pe_str) (pg_tup rfl (pgs_cons (pg_name (i := 1) scOO.nd rfl (.inl rfl)) (pgs_cons (pg_name (i := 2) scOO.nd rfl (.inl rfl)) (pgs_cons (pg_name (i := 3) scOO.nd rfl (.inl rfl)) pgs_nil)))))
      (pss_one (ps_ret (pe_ifExp (pt_truth (pv 2) (by intro _; rfl)) (pe_tup (pa_cons (pv 1) (pa_cons (pv 3) pa_nil))) (pe_tup (pa_cons pe_str (pa_cons (pv 0) pa_nil)))))), ?_⟩
    refine ⟨_, rfl, ⟨_, rfl⟩, t, ":", rfl, rfl, by decide +kernel, bd.line, fun q nq => ?_⟩
    refine ⟨q, _, rfl, SqT.of upd_same, rfl, _, _, rfl, _, _, rfl, _, _, rfl, rfl, ?_⟩
    have s1 : Same H (upd H q (.tup [.str (Txt.partition t ":").1, .str (Txt.partition t ":").2.1, .str (Txt.partition t ":").2.2])) := same_new nq
    generalize upd H q (.tup [.str (Txt.partition t ":").1, .str (Txt.partition t ":").2.1, .str (Txt.partition t ":").2.2]) = H1 at s1 ⊢
    refine ⟨_, rfl, _, ⟨Nat.le_trans (part_len t ":").2.1 (by decide +kernel), rfl⟩, ?_⟩
    rw [nz]
    unfold orderOf at k
    cases hc : ((Txt.partition t ":").2.1.length != 0) with
    | true =>
      rw [if_pos hc] at k
      refine iteT ?_
      refine ⟨_, rfl, _, rfl, (by show 2 ≤ sizeLine; decide), fun p np => ?_⟩
      exact k _ p (Same.trans s1 (same_new np)) (s1.free np) upd_same
    | false =>
      rw [if_neg (by rw [hc]; exact Bool.false_ne_true)] at k
      refine iteF ?_
      refine ⟨_, rfl, (by show 2 ≤ sizeLine; decide), fun p np => ?_⟩
      exact k _ p (Same.trans s1 (same_new np)) (s1.free np) upd_same
/-! ### is_word -/
def spIW (K : PySem.W.Frag) : Sp := fun vs H Q _ => ∃ (t : Str) (p : Addr) (ss : List Str), vs = [.str t, .ref p] ∧ Bd t ∧ SqT K H p (svs ss) ∧ ∀ H' : Hp, Same H H' → Q (.bl (isWord t ss)) H'
theorem scIW : FnScope ["word", "steps", "test", "colon", "step"] ["word", "steps"] (defScope sIW) := ⟨rfl, rfl, rfl, by decide +kernel, rfl, by decide +kernel, by decide +kernel⟩
theorem ok_iw (T : TxL K mg) : FnOk P w K mg base CX0 1 T.iw.f T.iw.fd ["word", "steps"] (spIW K) := by
  refine T.iw.F.ok scIW (fun vs H Q E h => ?_) (fun cdv A outer s H vs Q E hr h => ?_)
  · obtain ⟨t, p, ss, rfl, _⟩ := h
    rfl
  · obtain ⟨t, p, ss, rfl, bd, hp, k⟩ := h
    refine ⟨_, pss_cons (ps_asg (pe_partition (pv 0) pe_str) (pg_tup rfl (pgs_cons (pg_name (i := 2) scIW.nd rfl (.inl rfl)) (pgs_cons (pg_name (i := 3) scIW.nd rfl (.inl rfl)) (pgs_cons (pg_name (i := 4) scIW.nd rfl (.inl rfl)) pgs_nil)))))
      (pss_one (ps_ret (pe_ifExp (pt_truth (pv 3) (by intro _; rfl)) (pe_and (pe_cmpR op_in_seq (pv 2) (pe_glob (v := .ref T.pT) rfl T.gT rfl) (by rfl)) (pe_one (pe_cmpR op_in_seq (pv 4) (pv 1) (by rfl)))) (pe_cmpR op_in_seq (pv 0) (pv 1) (by rfl))))), ?_⟩
    refine ⟨_, rfl, ⟨_, rfl⟩, t, ":", rfl, rfl, by decide +kernel, bd.line, fun q nq => ?_⟩
    refine ⟨q, _, rfl, SqT.of upd_same, rfl, _, _, rfl, _, _, rfl, _, _, rfl, rfl, ?_⟩
    have s1 : Same H (upd H q (.tup [.str (Txt.partition t ":").1, .str (Txt.partition t ":").2.1, .str (Txt.partition t ":").2.2])) := same_new nq
    generalize upd H q (.tup [.str (Txt.partition t ":").1, .str (Txt.partition t ":").2.1, .str (Txt.partition t ":").2.2]) = H1 at s1 ⊢
    refine ⟨_, rfl, _, ⟨Nat.le_trans (part_len t ":").2.1 (by decide +kernel), rfl⟩, ?_⟩
    rw [nz]
    have k1 := k H1 s1
    unfold isWord at k1
    cases hc : ((Txt.partition t ":").2.1.length != 0) with
    | true =>
      rw [if_pos hc] at k1
      refine iteT ?_
      refine ⟨_, rfl, T.pT, _, rfl, .inr (T.lT _), rfl, svs_flat _, _, rfl, ?_⟩
      show if (inV _ (svs tests)) = true then _ else _
      rw [inV_svs]
      by_cases h1 : (Txt.partition t ":").1 ∈ tests
      · rw [decide_eq_true h1] at k1 ⊢
        refine iteT ⟨_, rfl, _, rfl, p, _, rfl, .inr (Cm.Same.set s1 hp), rfl, svs_flat _, ?_⟩
        show _
        rw [Bool.true_and] at k1
        have := inV_svs (Txt.partition t ":").2.2 ss
        rw [← this] at k1
        exact k1
      · rw [decide_eq_false h1] at k1 ⊢
        exact iteF k1
    | false =>
      rw [if_neg (by rw [hc]; exact Bool.false_ne_true)] at k1
      refine iteF ?_
      refine ⟨_, rfl, _, rfl, p, _, rfl, .inr (Cm.Same.set s1 hp), rfl, svs_flat _, ?_⟩
      rw [← inV_svs] at k1
      exact k1
end
end My

namespace My
open PySem L2 Cm LM
section
variable {P : Program} {w : World} {K : PySem.W.Frag} {mg : Str → Option Value} {base : Heap}
/-! ### are_words -/
def spAW (K : PySem.W.Frag) : Sp := fun vs H Q _ => ∃ (a p : Addr) (ws ss : List Str), vs = [.ref a, .ref p] ∧ BdW ws ∧ SqT K H a (svs ws) ∧ SqT K H p (svs ss) ∧ ∀ H' : Hp, Same H H' → Q (.bl (areWords ws ss)) H'
theorem scAW : FnScope ["words", "steps", "word"] ["words", "steps"] (defScope sAW) := ⟨rfl, rfl, rfl, by decide +kernel, rfl, by decide +kernel, by decide +kernel⟩
theorem ok_aw (T : TxL K mg) : FnOk P w K mg base CX0 2 T.aw.f T.aw.fd ["words", "steps"] (spAW K) := by
  have G1 : FnOk P w K mg base CX0 1 T.iw.f T.iw.fd ["word", "steps"] (spIW K) := ok_iw T
  refine T.aw.F.ok scAW (fun vs H Q E h => ?_) (fun cdv A outer s H vs Q E hr h => ?_)
  · obtain ⟨a, p, ws, ss, rfl, _⟩ := h
    rfl
  · obtain ⟨a, p, ws, ss, rfl, bd, ha, hp, k⟩ := h
    refine ⟨_, pss_one (ps_ret (pe_callB (cr_all rfl) (by rfl) T.all (by decide +kernel) (pa_cons (pe_lc (own := [("word", 2)]) (g := gName 2) (tt := tYes) (te := tCall (spIW K) [] E0 (tCons (tVar 2) (tCons (tVar 1) tNil))) rfl scAW.nd (pi_tup (pv 0))
      (blkOk_by (own := [("word", 2)]) (N := ["words", "steps", "word"]) (sc := defScope sAW) (by decide +kernel)) (fun _ _ _ _ _ => pg_name (i := 2) scAW.nd rfl (Or.inl rfl)) (fun _ _ _ _ _ => pts_nil)
      (fun _ _ _ _ _ => by exact pe_call G1 hr rfl T.iw.g T.iw.k T.iw.b .nil pass0 (pa_cons (pv 2) (pa_cons (pv 1) pa_nil)))) pa_nil))), ?_⟩
    refine ⟨_, rfl, a, rfl, ⟨_, ha⟩, fun D nD => lc_tup (K := K) (a := a) (xs := svs ws) (fun i H' => Same H H' ∧ H' D = some (.lst (((ws.take i).map fun z => isWord z ss).map V.bl))) ⟨same_new nD, upd_same⟩ (fun i H' _ ⟨s', _⟩ => Cm.Same.set s' ha) ?_ ?_⟩
    · rintro i x H' hx ⟨s', hD⟩
      obtain ⟨z, hz, rfl⟩ := svs_get hx
      refine ⟨rfl, _, rfl, _, rfl, z, p, ss, rfl, bd.1 z (List.mem_of_getElem? hz), Cm.Same.set s' hp, fun H2 s2 => ?_⟩
      refine ⟨_, s2 _ _ hD, szM ?_, fun b o q => ?_, ?_⟩
      · rw [List.length_map, List.length_map, List.length_take]
        have := bd.2
        omega
      · rw [upd_ne (ne_of_none q nD)]
        exact s2 _ _ (s' _ _ q)
      · rw [upd_same, take_snoc hz]
        simp
    · rintro H' ⟨s', hD⟩
      have e : (svs ws).length = ws.length := List.length_map ..
      rw [e, List.take_length] at hD
      refine ⟨D, ws.map fun z => isWord z ss, rfl, SqL.of hD, ?_⟩
      have k1 := k H' s'
      unfold areWords at k1
      rw [List.all_map]
      exact k1
/-! ### is_round -/
def spIR (K : PySem.W.Frag) : Sp := fun vs H Q _ => ∃ (a : Addr) (ws : List Str), vs = [.ref a] ∧ ws ≠ [] ∧ BdW ws ∧ SqT K H a (svs ws) ∧ ∀ H' : Hp, Same H H' → Q (.bl (isRound ws)) H'
theorem scIR : FnScope ["words", "adding", "word"] ["words"] (defScope sIR) := ⟨rfl, rfl, rfl, by decide +kernel, rfl, by decide +kernel, by decide +kernel⟩
def ttAdd (K : PySem.W.Frag) : TT := tTest (tOp rEq (tOp (rIxT K) (tCall spOO [] E0 (tCons (tVar 2) tNil)) (tC (.int 1))) (tC (.str "add")))
theorem ok_ir (T : TxL K mg) : FnOk P w K mg base CX0 3 T.ir.f T.ir.fd ["words"] (spIR K) := by
  have GO : FnOk P w K mg base CX0 1 T.oo.f T.oo.fd ["word"] spOO := ok_oo T
  have GA : FnOk P w K mg base CX0 2 T.aw.f T.aw.fd ["words", "steps"] (spAW K) := ok_aw T
  obtain ⟨tm, mr⟩ := T.mr
  refine T.ir.F.ok scIR (fun vs H Q E h => ?_) (fun cdv A outer s H vs Q E hr h => ?_)
  · obtain ⟨a, ws, rfl, _⟩ := h
    rfl
  · obtain ⟨a, ws, rfl, ne, bd, ha, k⟩ := h
    have hr1 : Room 1 _ := hr.mono (by decide)
    refine ⟨_, pss_cons (ps_if (PW.pt (pw_or (pt_cmpR op_ne (pe_ix ix_tup (pv 0) pe_int (fun _ _ => rfl)) pe_str (nomark _)) (pw_or1 (pt_cmpR op_gt (pe_callB call_len_seq (by rfl) T.len PySem.boot_len (pa_cons (pv 0) pa_nil)) (pe_glob (v := .int 12) rfl mr ⟨_, rfl⟩) (nomark _))))) (pss_one (ps_ret pe_bl)) pss_nil)
      (pss_cons (ps_setLc (i := 1) (own := [("word", 2)]) (g := gName 2) (tt := ttAdd K) (te := tVar 2) rfl scIR.nd rfl rfl (sw_true rfl rfl rfl (by decide +kernel)) (pi_tup (pv 0)) (blkOk_by (own := [("word", 2)]) (N := ["words", "adding", "word"]) (sc := defScope sIR) (by decide +kernel)) (fun _ _ _ _ _ => pg_name (i := 2) scIR.nd rfl (Or.inl rfl))
          (fun _ _ _ _ _ => by exact pts_one (pt_cmpR op_eq (pe_ix ix_tup (pe_call (E := E0) GO hr1 rfl T.oo.g T.oo.k T.oo.b .nil pass0 (pa_cons (pv 2) pa_nil)) pe_int (fun _ _ => rfl)) pe_str (nomark _))) (fun _ _ _ _ _ => pv 2))
      (pss_one (ps_ret (pe_and (pe_cmpR op_le (pe_callB call_len_seq (by rfl) T.len PySem.boot_len (pa_cons (pv 1) pa_nil)) pe_int (nomark _)) (pe_one (pe_call GA hr rfl T.aw.g T.aw.k T.aw.b .nil pass0 (pa_cons (pe_slice sl_tupA (pv 0) (po_some pe_int) po_none) (pa_cons (pe_glob (v := .ref T.pR) rfl T.gR rfl) pa_nil))))))))
      , ?_⟩
    obtain ⟨w0, r, rfl⟩ : ∃ w0 r, ws = w0 :: r := by
      cases ws with
      | nil => exact absurd rfl ne
      | cons w0 r => exact ⟨w0, r, rfl⟩
    refine ⟨_, rfl, a, _, 0, .str w0, rfl, rfl, ha, (show atI (svs (w0 :: r)) ((0 : Nat) : Int) = some (V.str w0) from atI_nat rfl), rfl, _, rfl, ?_⟩
    unfold isRound at k
    rw [dS]
    by_cases h0 : w0 = "ask"
    · subst h0
      rw [show decide ((("ask" : Str) :: r).head? = some "ask") = true from decide_eq_true rfl, Bool.true_and] at k
      rw [decide_eq_true rfl]
      refine iteF ?_
      refine ⟨_, rfl, a, _, rfl, .inr ha, _, _, rfl, rfl, _, rfl, ?_⟩
      have el : (svs ((("ask" : Str)) :: r)).length = ((("ask" : Str)) :: r).length := List.length_map ..
      rw [el]
      by_cases h12 : ((("ask" : Str)) :: r).length ≤ 12
      · rw [decide_eq_false (show ¬ ((12 : Int) < ((("ask" : Str) :: r).length : Int)) by omega)]
        rw [decide_eq_true h12, Bool.true_and] at k
        refine iteF ?_
        refine ⟨_, rfl, a, rfl, ⟨_, ha⟩, fun D nD => lc_tup (K := K) (a := a) (xs := svs (("ask" : Str) :: r)) (fun i H' => Same H H' ∧ H' D = some (.lst (svs (((("ask" : Str) :: r).take i).filter isAdd)))) ⟨same_new nD, upd_same⟩ (fun i H' _ ⟨s', _⟩ => Cm.Same.set s' ha) ?_ ?_⟩
        · rintro i x H' hx ⟨s', hD⟩
          obtain ⟨z, hz, rfl⟩ := svs_get hx
          refine ⟨rfl, _, rfl, z, rfl, bd.1 z (List.mem_of_getElem? hz), fun H2 p s2 np hp => ?_⟩
          refine ⟨p, _, 1, _, rfl, rfl, SqT.of hp, rfl, rfl, _, rfl, ?_⟩
          rw [dS]
          have ed : decide ((orderOf z).2 = "add") = isAdd z := rfl
          rw [ed]
          rw [take_snoc hz, List.filter_append]
          cases hc : isAdd z with
          | true =>
            refine iteT ?_
            refine ⟨_, rfl, _, s2 _ _ hD, szM ?_, fun b o q => ?_, ?_⟩
            · rw [show (svs (List.filter isAdd (List.take i (("ask" : Str) :: r)))).length = _ from List.length_map ..]
              have := List.length_filter_le isAdd (List.take i (("ask" : Str) :: r))
              rw [List.length_take] at this
              have := bd.2
              omega
            · rw [upd_ne (ne_of_none q nD)]
              exact s2 _ _ (s' _ _ q)
            · rw [upd_same]
              simp [svs, hc]
          | false =>
            refine iteF ?_
            refine ⟨Same.trans s' s2, ?_⟩
            rw [s2 _ _ hD]
            simp [hc]
        · rintro H' ⟨s', hD⟩
          rw [el, List.take_length] at hD
          refine ⟨_, rfl, D, _, rfl, .inl (SqL.of hD), _, _, rfl, rfl, _, rfl, ?_⟩
          have ef : (svs (List.filter isAdd (("ask" : Str) :: r))).length = (List.filter isAdd (("ask" : Str) :: r)).length := List.length_map ..
          rw [ef]
          by_cases h1 : (List.filter isAdd (("ask" : Str) :: r)).length ≤ 1
          · rw [decide_eq_true (show (((List.filter isAdd (("ask" : Str) :: r)).length : Int) ≤ 1) by omega)]
            rw [decide_eq_true h1, Bool.true_and] at k
            refine iteT ?_
            have cut : cutV (svs (("ask" : Str) :: r)) (some 1) none = svs r := by
              unfold cutV
              rw [HT.sIx_none, show (some (1 : Int)) = some ((1 : Nat) : Int) from rfl, HT.sIx_nat, el]
              simp [svs]
              exact List.take_of_length_le (by simp)
            refine ⟨_, rfl, 1, rfl, a, _, rfl, Cm.Same.set s' ha, fun z => ?_, fun _ p np => ?_⟩
            · exfalso
              have := z.1
              rw [show (some (1 : Int)) = some ((1 : Nat) : Int) from rfl, HT.sIx_nat, el] at this
              simp at this
            · rw [cut]
              refine ⟨p, T.pR, r, rsteps, rfl, ⟨fun z hz => bd.1 z (List.mem_cons_of_mem _ hz), ?_⟩, SqT.of upd_same, T.lR _, fun H2 s2 => ?_⟩
              · have := bd.2
                rw [List.length_cons] at this
                omega
              · exact k _ (Same.trans s' (Same.trans (same_new np) s2))
          · rw [decide_eq_false (show ¬ (((List.filter isAdd (("ask" : Str) :: r)).length : Int) ≤ 1) by omega)]
            rw [decide_eq_false h1, Bool.false_and] at k
            exact iteF (k H' s')
      · rw [decide_eq_true (show ((12 : Int) < ((("ask" : Str) :: r).length : Int)) by omega)]
        rw [decide_eq_false h12, Bool.false_and] at k
        exact iteT (k H (Same.refl _))
    · rw [decide_eq_false h0]
      rw [show decide ((w0 :: r).head? = some "ask") = false from decide_eq_false (fun z => h0 (Option.some.inj z)), Bool.false_and] at k
      exact iteT (iteT (k H (Same.refl _)))
/-! ### is_ending -/
def spIE (K : PySem.W.Frag) : Sp := fun vs H Q _ => ∃ (a : Addr) (ws : List Str), vs = [.ref a] ∧ BdW ws ∧ SqT K H a (svs ws) ∧ ∀ H' : Hp, Same H H' → Q (.bl (isEnding ws)) H'
theorem scIE : FnScope ["words"] ["words"] (defScope sIE) := ⟨rfl, rfl, rfl, by decide +kernel, rfl, by decide +kernel, by decide +kernel⟩
theorem ok_ie (T : TxL K mg) : FnOk P w K mg base CX0 3 T.ie.f T.ie.fd ["words"] (spIE K) := by
  have GA : FnOk P w K mg base CX0 2 T.aw.f T.aw.fd ["words", "steps"] (spAW K) := ok_aw T
  obtain ⟨tm, me⟩ := T.me
  refine T.ie.F.ok scIE (fun vs H Q E h => ?_) (fun cdv A outer s H vs Q E hr h => ?_)
  · obtain ⟨a, ws, rfl, _⟩ := h
    rfl
  · obtain ⟨a, ws, rfl, bd, ha, k⟩ := h
    refine ⟨_, pss_one (ps_ret (pe_and (pe_cmpR op_le (pe_callB call_len_seq (by rfl) T.len PySem.boot_len (pa_cons (pv 0) pa_nil)) (pe_glob (v := .int 6) rfl me ⟨_, rfl⟩) (nomark _)) (pe_one (pe_call GA hr rfl T.aw.g T.aw.k T.aw.b .nil pass0 (pa_cons (pv 0) (pa_cons (pe_glob (v := .ref T.pE) rfl T.gE rfl) pa_nil)))))), ?_⟩
    refine ⟨_, rfl, a, _, rfl, .inr ha, _, _, rfl, rfl, _, rfl, ?_⟩
    have el : (svs ws).length = ws.length := List.length_map ..
    rw [el]
    unfold isEnding at k
    by_cases h6 : ws.length ≤ 6
    · rw [decide_eq_true (show ((ws.length : Int) ≤ 6) by omega)]
      rw [decide_eq_true h6, Bool.true_and] at k
      exact iteT ⟨_, rfl, a, T.pE, ws, esteps, rfl, bd, ha, T.lE _, k⟩
    · rw [decide_eq_false (show ¬ ((ws.length : Int) ≤ 6) by omega)]
      rw [decide_eq_false h6, Bool.false_and] at k
      exact iteF (k H (Same.refl _))
end
end My

/-! the class Loop: its making -/
namespace My
open PySem L2 Cm LM
abbrev sLI : Stmt := inClass (top 37) 0
section
variable {P : Program} {w : World} {K : PySem.W.Frag} {mg : Str → Option Value} {base : Heap}
/-! ### loops as objects -/
def lf (t : Str) (pr pe po pq : Addr) : List (Str × V) := putF "ending_orders" (.ref pq) (putF "round_orders" (.ref po) (putF "ending" (.ref pe) (putF "round" (.ref pr) (putF "text" (.str t) []))))
theorem lf_text (t : Str) (pr pe po pq : Addr) : (lf t pr pe po pq).lookup ("text" : Str) = some (.str t) := by
  unfold lf
  rw [lookup_putF, if_neg (by decide +kernel), lookup_putF, if_neg (by decide +kernel), lookup_putF, if_neg (by decide +kernel), lookup_putF, if_neg (by decide +kernel), lookup_putF, if_pos rfl]
theorem lf_round (t : Str) (pr pe po pq : Addr) : (lf t pr pe po pq).lookup ("round" : Str) = some (.ref pr) := by
  unfold lf
  rw [lookup_putF, if_neg (by decide +kernel), lookup_putF, if_neg (by decide +kernel), lookup_putF, if_neg (by decide +kernel), lookup_putF, if_pos rfl]
theorem lf_ending (t : Str) (pr pe po pq : Addr) : (lf t pr pe po pq).lookup ("ending" : Str) = some (.ref pe) := by
  unfold lf
  rw [lookup_putF, if_neg (by decide +kernel), lookup_putF, if_neg (by decide +kernel), lookup_putF, if_pos rfl]
theorem lf_ro (t : Str) (pr pe po pq : Addr) : (lf t pr pe po pq).lookup ("round_orders" : Str) = some (.ref po) := by
  unfold lf
  rw [lookup_putF, if_neg (by decide +kernel), lookup_putF, if_pos rfl]
theorem lf_eo (t : Str) (pr pe po pq : Addr) : (lf t pr pe po pq).lookup ("ending_orders" : Str) = some (.ref pq) := by
  unfold lf
  rw [lookup_putF, if_pos rfl]
theorem lf_no (t : Str) (pr pe po pq : Addr) {m : Str} (h1 : ¬ m = "ending_orders") (h2 : ¬ m = "round_orders") (h3 : ¬ m = "ending") (h4 : ¬ m = "round") (h5 : ¬ m = "text") : (lf t pr pe po pq).lookup m = none := by
  unfold lf
  rw [lookup_putF, if_neg h1, lookup_putF, if_neg h2, lookup_putF, if_neg h3, lookup_putF, if_neg h4, lookup_putF, if_neg h5]
  rfl
/-- rows of pairs of texts -/
inductive Prs (H : Hp) : List V → List (Str × Str) → Prop
  | nil : Prs H [] []
  | cons {p : Addr} {o : Str × Str} {xs : List V} {os : List (Str × Str)} (h : H p = some (.tup [.str o.1, .str o.2])) (t : Prs H xs os) : Prs H (.ref p :: xs) (o :: os)
theorem Prs.mono {H H' : Hp} (f : ∀ (p : Addr) (xs : List V), H p = some (.tup xs) → H' p = some (.tup xs)) : ∀ {xs os}, Prs H xs os → Prs H' xs os
  | _, _, .nil => .nil
  | _, _, .cons h t => .cons (f _ _ h) (t.mono f)
theorem Prs.same {H H' : Hp} (s : Same H H') {xs os} (h : Prs H xs os) : Prs H' xs os := h.mono fun _ _ q => s _ _ q
theorem Prs.snoc {H : Hp} {p : Addr} {o : Str × Str} (h : H p = some (.tup [.str o.1, .str o.2])) : ∀ {xs os}, Prs H xs os → Prs H (xs ++ [.ref p]) (os ++ [o])
  | _, _, .nil => .cons h .nil
  | _, _, .cons a t => .cons a (t.snoc h)
theorem Prs.len {H : Hp} : ∀ {xs os}, Prs H xs os → xs.length = os.length
  | _, _, .nil => rfl
  | _, _, .cons _ t => congrArg (· + 1) t.len
def Ords (H : Hp) (p : Addr) (ws : List Str) : Prop := ∃ xs, H p = some (.tup xs) ∧ Prs H xs (ws.map orderOf)
/-- a loop of this text stands at o -/
def LoopAt (C : Addr) (H : Hp) (o : Addr) (t : Str) : Prop := ∃ dx pr pe po pq, H o = some (.ins C dx (lf t pr pe po pq)) ∧ H pr = some (.tup (svs (wordsR t))) ∧ H pe = some (.tup (svs (wordsE t))) ∧ Ords H po (wordsR t) ∧ Ords H pq (wordsE t)
theorem Ords.mono {H H' : Hp} (f : ∀ (p : Addr) (xs : List V), H p = some (.tup xs) → H' p = some (.tup xs)) {p : Addr} {ws : List Str} (h : Ords H p ws) : Ords H' p ws := let ⟨xs, e, q⟩ := h; ⟨xs, f _ _ e, q.mono f⟩
theorem LoopAt.same {C : Addr} {H H' : Hp} {o : Addr} {t : Str} (s : Same H H') (h : LoopAt C H o t) : LoopAt C H' o t := let ⟨dx, pr, pe, po, pq, a, b, c, d, e⟩ := h; ⟨dx, pr, pe, po, pq, s _ _ a, s _ _ b, s _ _ c, d.mono fun _ _ z => s _ _ z, e.mono fun _ _ z => s _ _ z⟩
theorem LoopAt.off {C j : Addr} {H H' : Hp} {o : Addr} {t : Str} (s : Off j H H') (hj : Jar H j) (h : LoopAt C H o t) : LoopAt C H' o t := by
  obtain ⟨x, y, z, hj⟩ := hj
  have f : ∀ (p : Addr) (xs : List V), H p = some (.tup xs) → H' p = some (.tup xs) := fun p xs e => s _ _ (ne_of e hj (by intro z; cases z)) e
  obtain ⟨dx, pr, pe, po, pq, a, b, c, d, e⟩ := h
  exact ⟨dx, pr, pe, po, pq, s _ _ (ne_of a hj (by intro z; cases z)) a, f _ _ b, f _ _ c, d.mono f, e.mono f⟩
/-! ### the text of the class -/
structure TxC (K : PySem.W.Frag) (mg : Str → Option Value) where
  L : TxL K mg
  E : TxE K mg
  isi : mg "isinstance" = none
  str : mg "str" = none
  C : Addr
  gC : mg "Loop" = some (.ref C)
  cl : Cls K C
  nT : NoAttr K C "text"
  nR : NoAttr K C "round"
  nE : NoAttr K C "ending"
  nO : NoAttr K C "round_orders"
  nQ : NoAttr K C "ending_orders"
  fI : Addr
  fdI : FuncData
  FI : Fun K "__init__" "Loop.__init__" sLI fI fdI
  bI : Binds K fdI ["self", "text"] []
  MI : Mk K C fI
/-- v makes a loop -/
def good : V → Bool
  | .str t => goodText t
  | _ => false
def BdV : V → Prop
  | .str t => Bd t
  | _ => True
def spLI (K : PySem.W.Frag) (C CE : Addr) : Sp := fun vs H Q E => ∃ (x dx : Addr) (v : V), vs = [.ref x, v] ∧ H x = some (.ins C dx []) ∧ Typed K H v ∧ BdV v ∧
  (∀ t, v = .str t → goodText t = true → ∀ H' : Hp, Off x H H' → LoopAt C H' x t → Q .non H') ∧
  (good v = false → ∀ (H' : Hp) (d : Addr), Same H H' → H' d = none → E (.ref CE) (some d) (upd H' d (.xd [("value", v)])))
theorem scLI : FnScope ["self", "text", "first_words", "last_words", "word"] ["self", "text"] (defScope sLI) := ⟨rfl, rfl, rfl, by decide +kernel, rfl, by decide +kernel, by decide +kernel⟩
/-- [order_of(word) for word in words] -/
theorem ords_lc {K : PySem.W.Frag} {σ : St} {H1 : Hp} {D a : Addr} {ws : List Str} {Qd : Hp → Prop} (h4 : ∀ v, ((wipe σ [4]).set 4 (some v))[4]? = some (some v) ∧ wipe ((wipe σ [4]).set 4 (some v)) [4] = wipe σ [4])
    (ha : H1 a = some (.tup (svs ws))) (bd : BdW ws) (nD : H1 D = none) (hd : ∀ (H' : Hp) (xs : List V), Same H1 H' → H' D = some (.lst xs) → Prs H' xs (ws.map orderOf) → Qd H') :
    ∃ W : Nat → Nat → Hp → Prop, (∃ m, W 0 m (upd H1 D (.lst []))) ∧ ∀ (i m : Nat) (H : Hp), W i m H →
      ((Itt K a).stop i H ∧ Qd H) ∨ ((Itt K a).go i H ∧ ∃ Nx : Hp → Prop, (∀ H', Nx H' → ∃ m', m' < m ∧ W (i + 1) m' H') ∧ ∀ (x : V) (H' : Hp), (Itt K a).yld i H x H' → gName 4 x (wipe σ [4]) H' fun σ2 H2 => wipe σ2 [4] = wipe σ [4] ∧ tYes σ2 H2 fun b H3 =>
        if b = true then tCall spOO [] E0 (tCons (tVar 4) tNil) σ2 H3 fun y H4 => ∃ acc, H4 D = some (.lst acc) ∧ acc.length < sizeLine ∧ Nx (upd H4 D (.lst (acc ++ [y]))) else Nx H3) := by
  refine lc_tup (K := K) (a := a) (xs := svs ws) (fun i H' => Same H1 H' ∧ ∃ acc, H' D = some (.lst acc) ∧ Prs H' acc ((ws.take i).map orderOf)) ⟨same_new nD, [], upd_same, .nil⟩ (fun i H' _ ⟨s, _⟩ => SqT.of (s _ _ ha)) ?_ ?_
  · rintro i x H' hx ⟨s, acc, hD, hP⟩
    obtain ⟨z, hz, rfl⟩ := svs_get hx
    obtain ⟨z4, zw⟩ := h4 (.str z)
    refine ⟨zw, _, z4, z, rfl, bd.1 z (List.mem_of_getElem? hz), fun H2 p s2 np hp => ?_⟩
    have hD2 := s2 _ _ hD
    have st := tup_stays (o' := .lst (acc ++ [.ref p])) hD2 (by intro xs z; cases z)
    have la := hP.len
    rw [List.length_map, List.length_take] at la
    have := bd.2
    refine ⟨acc, hD2, szM (by omega), fun b o q => ?_, _, upd_same, ?_⟩
    · rw [upd_ne (ne_of_none q nD)]
      exact s2 _ _ (s _ _ q)
    · rw [take_snoc hz, List.map_append]
      exact Prs.snoc (st _ _ hp) ((hP.same s2).mono st)
  · rintro H' ⟨s, acc, hD, hP⟩
    have e : (svs ws).length = ws.length := List.length_map ..
    rw [e, List.take_length] at hP
    exact hd H' acc s hD hP
theorem ok_li (T : TxC K mg) : FnOk P w K mg base (L2.CX P w) 4 T.fI T.fdI ["self", "text"] (spLI K T.C T.E.C) := by
  have GW : FnOk P w K mg base CX0 1 T.L.wo.f T.L.wo.fd ["text"] spWO := ok_wo T.L
  have GO : FnOk P w K mg base CX0 1 T.L.oo.f T.L.oo.fd ["word"] spOO := ok_oo T.L
  have GR : FnOk P w K mg base CX0 3 T.L.ir.f T.L.ir.fd ["words"] (spIR K) := ok_ir T.L
  have GN : FnOk P w K mg base CX0 3 T.L.ie.f T.L.ie.fd ["words"] (spIE K) := ok_ie T.L
  have GE : FnOk P w K mg base CX0 1 T.E.f T.E.fd ["self", "value"] (spEI T.E.C) := ok_ei T.E
  refine T.FI.okX scLI (fun vs H Q E h => ?_) (fun cdv A outer s H vs Q E hr h => ?_)
  · obtain ⟨x, dx, v, rfl, _⟩ := h
    rfl
  · obtain ⟨x, dx, v, rfl, hx, ⟨t, ty, kt⟩, bd, kg, kb⟩ := h
    have hr1 : Room 1 _ := hr.mono (by decide)
    have hr2 : Room 2 _ := hr.mono (by decide)
    have ps : Bool := true
    refine ⟨_, pss_cons (ps_if (pt_not (pt_val (pe_callB call_isi (by rfl) T.isi (by decide +kernel) (pa_cons (pv 1) (pa_cons (pe_bltn (v := .ty "str") (by rfl) T.str (by decide +kernel) rfl) pa_nil))))) (pss_one (ps_raise rfl (takes_of rfl rfl rfl rfl) (pmk_oex T.E.o T.E.i T.E.t GE hr2 T.E.b .nil pass0 rfl T.E.g (pa_cons (pv 1) pa_nil)))) pss_nil)
      (pss_cons (ps_asg (pe_call GW hr1 rfl T.L.wo.g T.L.wo.k T.L.wo.b .nil pass0 (pa_cons (pv 1) pa_nil)) (pg_tup rfl (pgs_cons (pg_name (i := 2) scLI.nd rfl (.inl rfl)) (pgs_cons (pg_name (i := 3) scLI.nd rfl (.inl rfl)) pgs_nil))))
      (pss_cons (ps_if (PW.pt (pw_or (pt_not (pt_val (pe_call GR hr rfl T.L.ir.g T.L.ir.k T.L.ir.b .nil pass0 (pa_cons (pv 2) pa_nil)))) (pw_or1 (pt_not (pt_val (pe_call GN hr rfl T.L.ie.g T.L.ie.k T.L.ie.b .nil pass0 (pa_cons (pv 3) pa_nil)))))))
          (pss_one (ps_raise rfl (takes_of rfl rfl rfl rfl) (pmk_oex T.E.o T.E.i T.E.t GE hr2 T.E.b .nil pass0 rfl T.E.g (pa_cons (pv 1) pa_nil)))) pss_nil)
      (pss_cons (ps_fld (pv 0) (pv 1) rfl) (pss_cons (ps_fld (pv 0) (pv 2) rfl) (pss_cons (ps_fld (pv 0) (pv 3) rfl)
      (pss_cons (ps_fld (pv 0) (pe_callTy call_tuple_of (by rfl) T.L.tuple (by decide +kernel) (pa_cons (pe_lc (own := [("word", 4)]) (g := gName 4) (tt := tYes) (te := tCall spOO [] E0 (tCons (tVar 4) tNil)) rfl scLI.nd (pi_tup (pv 2)) (blkOk_by (own := [("word", 4)]) (N := ["self", "text", "first_words", "last_words", "word"]) (sc := defScope sLI) (by decide +kernel))
          (fun _ _ _ _ _ => pg_name (i := 4) scLI.nd rfl (Or.inl rfl)) (fun _ _ _ _ _ => pts_nil) (fun _ _ _ _ _ => by exact pe_call GO hr1 rfl T.L.oo.g T.L.oo.k T.L.oo.b .nil pass0 (pa_cons (pv 4) pa_nil))) pa_nil)) rfl)
      (pss_one (ps_fld (pv 0) (pe_callTy call_tuple_of (by rfl) T.L.tuple (by decide +kernel) (pa_cons (pe_lc (own := [("word", 4)]) (g := gName 4) (tt := tYes) (te := tCall spOO [] E0 (tCons (tVar 4) tNil)) rfl scLI.nd (pi_tup (pv 3)) (blkOk_by (own := [("word", 4)]) (N := ["self", "text", "first_words", "last_words", "word"]) (sc := defScope sLI) (by decide +kernel))
          (fun _ _ _ _ _ => pg_name (i := 4) scLI.nd rfl (Or.inl rfl)) (fun _ _ _ _ _ => pts_nil) (fun _ _ _ _ _ => by exact pe_call GO hr1 rfl T.L.oo.g T.L.oo.k T.L.oo.b .nil pass0 (pa_cons (pv 4) pa_nil))) pa_nil)) rfl)))))))), ?_⟩
    refine ⟨_, rfl, _, _, _, _, isS v, rfl, .ty "str", ty, kt, _, rfl, ?_⟩
    cases hs : isS v with
    | false =>
      refine iteT ?_
      have gv : good v = false := by
        cases v <;> first | rfl | cases hs
      exact mk_err (x := v) ⟨v, rfl, rfl, rfl⟩ (fun {R R'} ⟨v, e1, q⟩ f => ⟨v, e1, f _ _ q⟩) (kb gv H · (Same.refl _))
    | true =>
      obtain ⟨t, rfl⟩ : ∃ t, v = .str t := by
        cases v <;> first | exact ⟨_, rfl⟩ | cases hs
      have bd : Bd t := bd
      have kg := kg t rfl
      refine iteF ?_
      refine ⟨_, rfl, t, rfl, bd, fun H1 p a b s1 hp ha hb => ?_⟩
      refine ⟨p, _, rfl, SqT.of hp, rfl, _, _, rfl, _, _, rfl, rfl, ?_⟩
      have bR : BdW (wordsR t) := ⟨fun z hz => Nat.le_trans (wordsR_word hz) bd, Nat.le_trans (wordsR_len t) (by unfold Bd at bd; omega)⟩
      have bE : BdW (wordsE t) := ⟨fun z hz => Nat.le_trans (wordsE_word hz) bd, Nat.le_trans (wordsE_len t) (by unfold Bd at bd; omega)⟩
      refine ⟨_, rfl, a, wordsR t, rfl, wordsR_ne t, bR, SqT.of ha, fun H2 s2 => ?_⟩
      have gt : goodText t = (isRound (wordsR t) && isEnding (wordsE t)) := rfl
      have gv : good (.str t) = goodText t := rfl
      rw [gv] at kb
      refine ⟨_, rfl, ?_⟩
      cases h1 : isRound (wordsR t) with
      | false =>
        rw [gt, h1] at kb
        refine iteT (iteT ?_)
        exact mk_err (x := .str t) ⟨.str t, rfl, rfl, rfl⟩ (fun {R R'} ⟨v, e1, q⟩ f => ⟨v, e1, f _ _ q⟩) (kb rfl H2 · (Same.trans s1 s2))
      | true =>
        refine iteF ?_
        refine ⟨_, rfl, b, wordsE t, rfl, bE, SqT.of (s2 _ _ hb), fun H3 s3 => ?_⟩
        refine ⟨_, rfl, ?_⟩
        have s13 := Same.trans s1 (Same.trans s2 s3)
        cases h2 : isEnding (wordsE t) with
        | false =>
          rw [gt, h1, h2] at kb
          refine iteT ?_
          exact mk_err (x := .str t) ⟨.str t, rfl, rfl, rfl⟩ (fun {R R'} ⟨v, e1, q⟩ f => ⟨v, e1, f _ _ q⟩) (kb rfl H3 · s13)
        | true =>
          have kg := kg (by rw [gt, h1, h2]; rfl)
          refine iteF ?_
          have hx3 := s13 _ _ hx
          have ha3 := s3 _ _ (s2 _ _ ha)
          have hb3 := s3 _ _ (s2 _ _ hb)
          have o3 : Off x H H3 := Same.off s13
          clear s1 s2 s3 hp ha hb hx kb s13
          -- text
          refine ⟨_, rfl, _, rfl, x, T.C, dx, _, rfl, hx3, T.cl, T.nT, (by show 0 < 1000; decide), ?_⟩
          have st := tup_stays (o' := .ins T.C dx (putF "text" (.str t) [])) hx3 (by intro xs z; cases z)
          have hx4 : (upd H3 x (.ins T.C dx (putF "text" (.str t) []))) x = some (.ins T.C dx (putF "text" (.str t) [])) := upd_same
          have ha4 := st _ _ ha3
          have hb4 := st _ _ hb3
          have o4 : Off x H (upd H3 x (.ins T.C dx (putF "text" (.str t) []))) := o3.put
          generalize upd H3 x (.ins T.C dx (putF "text" (.str t) [])) = H4 at hx4 ha4 hb4 o4 ⊢
          clear st ha3 hb3 o3 hx3
          -- round
          refine ⟨_, rfl, _, rfl, x, T.C, dx, _, rfl, hx4, T.cl, T.nR, (by show 1 < 1000; decide), ?_⟩
          have st := tup_stays (o' := .ins T.C dx (putF "round" (.ref a) (putF "text" (.str t) []))) hx4 (by intro xs z; cases z)
          have hx5 : (upd H4 x (.ins T.C dx (putF "round" (.ref a) (putF "text" (.str t) [])))) x = some (.ins T.C dx (putF "round" (.ref a) (putF "text" (.str t) []))) := upd_same
          have ha5 := st _ _ ha4
          have hb5 := st _ _ hb4
          have o5 : Off x H (upd H4 x (.ins T.C dx (putF "round" (.ref a) (putF "text" (.str t) [])))) := o4.put
          generalize upd H4 x (.ins T.C dx (putF "round" (.ref a) (putF "text" (.str t) []))) = H5 at hx5 ha5 hb5 o5 ⊢
          clear st ha4 hb4 o4 hx4
          -- ending
          refine ⟨_, rfl, _, rfl, x, T.C, dx, _, rfl, hx5, T.cl, T.nE, Nat.lt_of_le_of_lt (putF_len _ _ _) (Nat.lt_of_le_of_lt (Nat.add_le_add_right (putF_len _ _ _) 1) (by decide)), ?_⟩
          have st := tup_stays (o' := .ins T.C dx (putF "ending" (.ref b) (putF "round" (.ref a) (putF "text" (.str t) [])))) hx5 (by intro xs z; cases z)
          have hx6 : (upd H5 x (.ins T.C dx (putF "ending" (.ref b) (putF "round" (.ref a) (putF "text" (.str t) []))))) x = some (.ins T.C dx (putF "ending" (.ref b) (putF "round" (.ref a) (putF "text" (.str t) [])))) := upd_same
          have ha6 := st _ _ ha5
          have hb6 := st _ _ hb5
          have o6 : Off x H (upd H5 x (.ins T.C dx (putF "ending" (.ref b) (putF "round" (.ref a) (putF "text" (.str t) []))))) := o5.put
          generalize upd H5 x (.ins T.C dx (putF "ending" (.ref b) (putF "round" (.ref a) (putF "text" (.str t) [])))) = H6 at hx6 ha6 hb6 o6 ⊢
          clear st ha5 hb5 o5 hx5
          -- round_orders
          refine ⟨_, rfl, a, rfl, ⟨_, SqT.of ha6⟩, fun D nD => ords_lc (K := K) (a := a) (ws := wordsR t) (fun v => ⟨rfl, rfl⟩) ha6 bR nD fun H7 os s7 hD hP => ?_⟩
          refine ⟨D, os, rfl, .inl ⟨SqL.of hD, fun po npo => ?_⟩⟩
          have s8 : Same H6 (upd H7 po (.tup os)) := Same.trans s7 (same_new npo)
          have hpo : (upd H7 po (.tup os)) po = some (.tup os) := upd_same
          have hP8 := hP.same (same_new (o := .tup os) npo)
          refine ⟨_, rfl, x, T.C, dx, _, rfl, s8 _ _ hx6, T.cl, T.nO, Nat.lt_of_le_of_lt (putF_len _ _ _) (Nat.lt_of_le_of_lt (Nat.add_le_add_right (putF_len _ _ _) 1) (Nat.lt_of_le_of_lt (Nat.add_le_add_right (Nat.add_le_add_right (putF_len _ _ _) 1) 1) (by decide))), ?_⟩
          generalize upd H7 po (.tup os) = H8 at s8 hpo hP8 ⊢
          have hx8 := s8 _ _ hx6
          have o8 : Off x H H8 := o6.trans (Same.off s8)
          have ha8 := s8 _ _ ha6
          have hb8 := s8 _ _ hb6
          clear ha6 hb6 o6 hx6 s8 hD hP npo s7 nD
          have st := tup_stays (o' := .ins T.C dx (putF "round_orders" (.ref po) (putF "ending" (.ref b) (putF "round" (.ref a) (putF "text" (.str t) []))))) hx8 (by intro xs z; cases z)
          have hx9 : (upd H8 x (.ins T.C dx (putF "round_orders" (.ref po) (putF "ending" (.ref b) (putF "round" (.ref a) (putF "text" (.str t) [])))))) x = some (.ins T.C dx (putF "round_orders" (.ref po) (putF "ending" (.ref b) (putF "round" (.ref a) (putF "text" (.str t) []))))) := upd_same
          have ha9 := st _ _ ha8
          have hb9 := st _ _ hb8
          have hpo9 : Ords _ po (wordsR t) := ⟨os, st _ _ hpo, hP8.mono st⟩
          have o9 : Off x H (upd H8 x (.ins T.C dx (putF "round_orders" (.ref po) (putF "ending" (.ref b) (putF "round" (.ref a) (putF "text" (.str t) [])))))) := o8.put
          generalize upd H8 x (.ins T.C dx (putF "round_orders" (.ref po) (putF "ending" (.ref b) (putF "round" (.ref a) (putF "text" (.str t) []))))) = H9 at hx9 ha9 hb9 o9 hpo9 ⊢
          clear st ha8 hb8 o8 hx8 hpo hP8
          -- ending_orders
          refine ⟨_, rfl, b, rfl, ⟨_, SqT.of hb9⟩, fun D nD => ords_lc (K := K) (a := b) (ws := wordsE t) (fun v => ⟨rfl, rfl⟩) hb9 bE nD fun H10 os2 s10 hD hP => ?_⟩
          refine ⟨D, os2, rfl, .inl ⟨SqL.of hD, fun pq npq => ?_⟩⟩
          have s11 : Same H9 (upd H10 pq (.tup os2)) := Same.trans s10 (same_new npq)
          have hpq : (upd H10 pq (.tup os2)) pq = some (.tup os2) := upd_same
          have hP11 := hP.same (same_new (o := .tup os2) npq)
          refine ⟨_, rfl, x, T.C, dx, _, rfl, s11 _ _ hx9, T.cl, T.nQ, Nat.lt_of_le_of_lt (putF_len _ _ _) (Nat.lt_of_le_of_lt (Nat.add_le_add_right (putF_len _ _ _) 1) (Nat.lt_of_le_of_lt (Nat.add_le_add_right (Nat.add_le_add_right (putF_len _ _ _) 1) 1) (Nat.lt_of_le_of_lt (Nat.add_le_add_right (Nat.add_le_add_right (Nat.add_le_add_right (putF_len _ _ _) 1) 1) 1) (by decide)))), ?_⟩
          generalize upd H10 pq (.tup os2) = H11 at s11 hpq hP11 ⊢
          have hx11 := s11 _ _ hx9
          have st := tup_stays (o' := .ins T.C dx (lf t a b po pq)) hx11 (by intro xs z; cases z)
          refine kg _ (Off.put (o9.trans (Same.off s11))) ⟨dx, a, b, po, pq, upd_same, st _ _ (s11 _ _ ha9), st _ _ (s11 _ _ hb9), (hpo9.mono fun _ _ z => s11 _ _ z).mono st, os2, st _ _ hpq, hP11.mono st⟩
end
end My

/-! what a loop does with a reply -/
namespace EM
open PySem L2
def ivs (xs : List Int) : List V := xs.map V.int
theorem ivs_len (xs : List Int) : (ivs xs).length = xs.length := List.length_map ..
/-- what the words of a round change -/
structure RP where
  rest : List Int
  pieces : List (List Int)
def passM (size : Nat) (held : List Int) (told : Bool) (t : Str) (rest : List Int) : Bool :=
  if t = "" then true
  else if t = "told" ∨ t = "open" then told == decide (t = "told")
  else if t = "rest" ∨ t = "bare" then decide (0 < rest.length) == decide (t = "rest")
  else if t = "empty" ∨ t = "some" then decide (0 < held.length) == decide (t = "some")
  else decide (held.length < size) == decide (t = "short")
def cutN (size : Nat) (rest : List Int) (n : Nat) : List (List Int) := (List.range n).map fun k => (rest.drop (k * size)).take size
def perfM (size : Nat) (held : List Int) (s : Str) (x : RP) : RP :=
  if s = "add" then ⟨x.rest ++ held, x.pieces⟩
  else if s = "hand" then ⟨x.rest, x.pieces ++ [held]⟩
  else if s = "cut" then ⟨x.rest.drop (x.rest.length / size * size), x.pieces ++ cutN size x.rest (x.rest.length / size)⟩
  else if s = "flush" then ⟨[], x.pieces ++ [x.rest]⟩
  else x
def runW (size : Nat) (held : List Int) (told : Bool) : List (Str × Str) → RP → RP × Bool
  | [], x => (x, false)
  | (t, s) :: r, x => if passM size held told t x.rest = true then (if s = "again" then (x, false) else if s = "stop" then (x, true) else runW size held told r (perfM size held s x)) else runW size held told r x
def endW (size : Nat) (held : List Int) (told : Bool) : List (Str × Str) → RP → RP
  | [], x => x
  | (t, s) :: r, x => endW size held told r (if passM size held told t x.rest = true then perfM size held s x else x)
def ansM (size : Nat) (ro eo : List (Str × Str)) (held : List Int) (told : Bool) (x : RP) : RP × Bool :=
  if (runW size held told ro x).2 = true then (endW size held told eo (runW size held told ro x).1, true) else ((runW size held told ro x).1, false)
/-! ### bounds -/
/-- the rest has at most k sizes of items, and there are at most c pieces -/
def Few (size k c : Nat) (x : RP) : Prop := x.rest.length ≤ k * size ∧ x.pieces.length ≤ c
theorem Few.mono {size k c k' c' : Nat} {x : RP} (h : Few size k c x) (hk : k ≤ k') (hc : c ≤ c') : Few size k' c' x := ⟨Nat.le_trans h.1 (Nat.mul_le_mul_right _ hk), Nat.le_trans h.2 hc⟩
theorem few_perf {size k c : Nat} {held : List Int} {s : Str} {x : RP} (hs : 1 ≤ size) (hh : held.length ≤ size) (h : Few size k c x) : Few size (k + 1) (c + (k + 1)) (perfM size held s x) := by
  have e : (k + 1) * size = k * size + size := Nat.succ_mul k size
  have q : x.rest.length / size ≤ k := by
    have := Nat.div_le_div_right (c := size) h.1
    rwa [Nat.mul_div_cancel _ (by omega)] at this
  obtain ⟨h1, h2⟩ := h
  unfold perfM Few
  split
  · refine ⟨?_, by show x.pieces.length ≤ _; omega⟩
    show (x.rest ++ held).length ≤ _
    rw [List.length_append]
    omega
  · split
    · refine ⟨by show x.rest.length ≤ _; omega, ?_⟩
      show (x.pieces ++ [held]).length ≤ _
      rw [List.length_append]
      show x.pieces.length + 1 ≤ _
      omega
    · split
      · refine ⟨?_, ?_⟩
        · show (x.rest.drop _).length ≤ _
          rw [List.length_drop]
          omega
        · show (x.pieces ++ cutN size x.rest (x.rest.length / size)).length ≤ _
          rw [List.length_append, cutN, List.length_map, List.length_range]
          omega
      · split
        · refine ⟨Nat.zero_le _, ?_⟩
          show (x.pieces ++ [x.rest]).length ≤ _
          rw [List.length_append]
          show x.pieces.length + 1 ≤ _
          omega
        · exact ⟨by omega, by omega⟩
theorem few_run {size : Nat} {held : List Int} {told : Bool} (hs : 1 ≤ size) (hh : held.length ≤ size) : ∀ (ro : List (Str × Str)) (k c : Nat) (x : RP), Few size k c x → Few size (k + ro.length) (c + ro.length * (k + ro.length)) (runW size held told ro x).1
  | [], k, c, x, h => by simpa [runW] using h
  | (t, s) :: r, k, c, x, h => by
    have m : Few size (k + (r.length + 1)) (c + (r.length + 1) * (k + (r.length + 1))) x := h.mono (by omega) (by omega)
    unfold runW
    rw [List.length_cons]
    split
    · split
      · exact m
      · split
        · exact m
        · have ih := few_run (told := told) hs hh r (k + 1) (c + (k + 1)) _ (few_perf (s := s) hs hh h)
          refine ih.mono (by omega) ?_
          rw [Nat.succ_mul]
          have e1 : k + 1 + r.length = k + (r.length + 1) := by omega
          rw [e1]
          omega
    · have ih := few_run (told := told) hs hh r k c x h
      refine ih.mono (by omega) ?_
      have : r.length * (k + r.length) ≤ (r.length + 1) * (k + (r.length + 1)) := Nat.mul_le_mul (by omega) (by omega)
      omega
theorem few_end {size : Nat} {held : List Int} {told : Bool} (hs : 1 ≤ size) (hh : held.length ≤ size) : ∀ (eo : List (Str × Str)) (k c : Nat) (x : RP), Few size k c x → Few size (k + eo.length) (c + eo.length * (k + eo.length)) (endW size held told eo x)
  | [], k, c, x, h => by simpa [endW] using h
  | (t, s) :: r, k, c, x, h => by
    unfold endW
    rw [List.length_cons]
    have h2 : Few size (k + 1) (c + (k + 1)) (if passM size held told t x.rest = true then perfM size held s x else x) := by
      split
      · exact few_perf hs hh h
      · exact h.mono (by omega) (by omega)
    have ih := few_end (told := told) hs hh r (k + 1) (c + (k + 1)) _ h2
    refine ih.mono (by omega) ?_
    rw [Nat.succ_mul]
    have e1 : k + 1 + r.length = k + (r.length + 1) := by omega
    rw [e1]
    omega
/-- after one reply -/
theorem few_ans {size : Nat} {ro eo : List (Str × Str)} {held : List Int} {told : Bool} {k c : Nat} {x : RP} (hs : 1 ≤ size) (hh : held.length ≤ size) (l1 : ro.length ≤ 12) (l2 : eo.length ≤ 6) (h : Few size k c x) :
    Few size (k + 18) (c + 18 * (k + 18)) (ansM size ro eo held told x).1 := by
  have a := few_run (told := told) hs hh ro k c x h
  have a1 : Few size (k + 12) (c + 12 * (k + 12)) (runW size held told ro x).1 := a.mono (by omega) (Nat.add_le_add_left (Nat.mul_le_mul l1 (by omega)) _)
  unfold ansM
  split
  · have b := few_end (told := told) hs hh eo _ _ _ a1
    refine b.mono (by omega) ?_
    have : eo.length * (k + 12 + eo.length) ≤ 6 * (k + 18) := Nat.mul_le_mul l2 (by omega)
    omega
  · exact a1.mono (by omega) (by omega)
end EM

/-! the class Execution -/
namespace My
open PySem L2 Cm LM EM
abbrev sXI : Stmt := inClass (top 24) 0
abbrev sXA : Stmt := inClass (top 24) 1
abbrev sXF : Stmt := inClass (top 24) 3
abbrev sXP : Stmt := inClass (top 24) 4
abbrev sXR : Stmt := inClass (top 24) 5
abbrev sXC : Stmt := inClass (top 24) 6
/-! ### the data -/
def xf (ro eo : Addr) (ak sz : Nat) (h : Addr) (t : Bool) (r p : Addr) (st : Bool) : List (Str × V) := [("round_orders", .ref ro), ("ending_orders", .ref eo), ("size", .int sz), ("held", .ref h), ("told", .bl t), ("kept", .ref r), ("handed", .ref p), ("asked", .int ak), ("over", .bl st)]
section
variable (ro eo h r p h' : Addr) (ak ak' sz : Nat) (t st b : Bool)
theorem xf_ro : (xf ro eo ak sz h t r p st).lookup ("round_orders" : Str) = some (.ref ro) := by kernel_rfl
theorem xf_eo : (xf ro eo ak sz h t r p st).lookup ("ending_orders" : Str) = some (.ref eo) := by kernel_rfl
theorem xf_sz : (xf ro eo ak sz h t r p st).lookup ("size" : Str) = some (.int sz) := by kernel_rfl
theorem xf_h : (xf ro eo ak sz h t r p st).lookup ("held" : Str) = some (.ref h) := by kernel_rfl
theorem xf_t : (xf ro eo ak sz h t r p st).lookup ("told" : Str) = some (.bl t) := by kernel_rfl
theorem xf_r : (xf ro eo ak sz h t r p st).lookup ("kept" : Str) = some (.ref r) := by kernel_rfl
theorem xf_p : (xf ro eo ak sz h t r p st).lookup ("handed" : Str) = some (.ref p) := by kernel_rfl
theorem xf_st : (xf ro eo ak sz h t r p st).lookup ("over" : Str) = some (.bl st) := by kernel_rfl
theorem put_h : putF "held" (.ref h') (xf ro eo ak sz h t r p st) = xf ro eo ak sz h' t r p st := by kernel_rfl
theorem put_t : putF "told" (.bl b) (xf ro eo ak sz h t r p st) = xf ro eo ak sz h b r p st := by kernel_rfl
theorem put_r : putF "kept" (.ref h') (xf ro eo ak sz h t r p st) = xf ro eo ak sz h t h' p st := by kernel_rfl
theorem xf_ak : (xf ro eo ak sz h t r p st).lookup ("asked" : Str) = some (.int ak) := by kernel_rfl
theorem put_ak : putF "asked" (.int ak') (xf ro eo ak sz h t r p st) = xf ro eo ak' sz h t r p st := by kernel_rfl
theorem put_st : putF "over" (.bl b) (xf ro eo ak sz h t r p st) = xf ro eo ak sz h t r p b := by kernel_rfl
theorem xf_mk : putF "over" (.bl st) (putF "asked" (.int ak) (putF "handed" (.ref p) (putF "kept" (.ref r) (putF "told" (.bl t) (putF "held" (.ref h) (putF "size" (.int sz) (putF "ending_orders" (.ref eo) (putF "round_orders" (.ref ro) [])))))))) = xf ro eo ak sz h t r p st := by kernel_rfl
theorem xf_len : (xf ro eo ak sz h t r p st).length = 9 := rfl
theorem xf_noA : (xf ro eo ak sz h t r p st).lookup ("answer" : Str) = none ∧ (xf ro eo ak sz h t r p st).lookup ("finish" : Str) = none ∧ (xf ro eo ak sz h t r p st).lookup ("passes" : Str) = none ∧ (xf ro eo ak sz h t r p st).lookup ("perform" : Str) = none ∧ (xf ro eo ak sz h t r p st).lookup ("cut_off" : Str) = none ∧ (xf ro eo ak sz h t r p st).lookup ("answer_nothing" : Str) = none := ⟨by kernel_rfl, by kernel_rfl, by kernel_rfl, by kernel_rfl, by kernel_rfl, by kernel_rfl⟩
end
/-- rows of pieces -/
inductive Pcs (H : Hp) : List V → List (List Int) → Prop
  | nil : Pcs H [] []
  | cons {q : Addr} {x : List Int} {vs : List V} {xs : List (List Int)} (h : H q = some (.tup (ivs x))) (t : Pcs H vs xs) : Pcs H (.ref q :: vs) (x :: xs)
theorem Pcs.mono {H H' : Hp} (f : ∀ (p : Addr) (xs : List V), H p = some (.tup xs) → H' p = some (.tup xs)) : ∀ {vs xs}, Pcs H vs xs → Pcs H' vs xs
  | _, _, .nil => .nil
  | _, _, .cons h t => .cons (f _ _ h) (t.mono f)
theorem Pcs.snoc {H : Hp} {q : Addr} {x : List Int} (h : H q = some (.tup (ivs x))) : ∀ {vs xs}, Pcs H vs xs → Pcs H (vs ++ [.ref q]) (xs ++ [x])
  | _, _, .nil => .cons h .nil
  | _, _, .cons a t => .cons a (t.snoc h)
theorem Pcs.len {H : Hp} : ∀ {vs xs}, Pcs H vs xs → vs.length = xs.length
  | _, _, .nil => rfl
  | _, _, .cons _ t => congrArg (· + 1) t.len
/-- tuples stay -/
def TS (H H' : Hp) : Prop := ∀ (p : Addr) (xs : List V), H p = some (.tup xs) → H' p = some (.tup xs)
theorem TS.refl {H : Hp} : TS H H := fun _ _ e => e
theorem TS.trans {H H1 H2 : Hp} (a : TS H H1) (b : TS H1 H2) : TS H H2 := fun p xs e => b p xs (a p xs e)
theorem Same.ts {H H' : Hp} (s : Same H H') : TS H H' := fun _ _ e => s _ _ e
/-- an execution stands at o, its pieces at p -/
structure ExAt (C : Addr) (H : Hp) (o dx ro eo p : Addr) (ak sz : Nat) (held : List Int) (told : Bool) (x : RP) (st : Bool) : Prop where
  ex : ∃ h r vs, H o = some (.ins C dx (xf ro eo ak sz h told r p st)) ∧ H h = some (.tup (ivs held)) ∧ H r = some (.tup (ivs x.rest)) ∧ H p = some (.lst vs) ∧ Pcs H vs x.pieces
theorem ExAt.same {C : Addr} {H H' : Hp} {o dx ro eo p : Addr} {ak sz : Nat} {held : List Int} {told : Bool} {x : RP} {st : Bool} (s : Same H H') (h : ExAt C H o dx ro eo p ak sz held told x st) : ExAt C H' o dx ro eo p ak sz held told x st := by
  obtain ⟨h', r, vs, a, b, c, d, e⟩ := h.ex
  exact ⟨h', r, vs, s _ _ a, s _ _ b, s _ _ c, s _ _ d, e.mono fun _ _ q => s _ _ q⟩
/-- all but what stands at o and at p is as it was -/
def Off2 (o p : Addr) (H H' : Hp) : Prop := ∀ b u, b ≠ o → b ≠ p → H b = some u → H' b = some u
theorem Off2.refl {o p : Addr} {H : Hp} : Off2 o p H H := fun _ _ _ _ e => e
theorem Off2.trans {o p : Addr} {H H1 H2 : Hp} (a : Off2 o p H H1) (b : Off2 o p H1 H2) : Off2 o p H H2 := fun c u n m e => b c u n m (a c u n m e)
theorem Off2.same {o p : Addr} {H H1 H2 : Hp} (a : Off2 o p H H1) (s : Same H1 H2) : Off2 o p H H2 := fun c u n m e => s _ _ (a c u n m e)
theorem Off2.putO {o p : Addr} {H H1 : Hp} {u : HO} (a : Off2 o p H H1) : Off2 o p H (upd H1 o u) := fun c u n m e => by
  rw [upd_ne n]
  exact a c u n m e
theorem Off2.putP {o p : Addr} {H H1 : Hp} {u : HO} (a : Off2 o p H H1) : Off2 o p H (upd H1 p u) := fun c u n m e => by
  rw [upd_ne m]
  exact a c u n m e
structure TxX (K : PySem.W.Frag) (mg : Str → Option Value) where
  len : mg "len" = none
  range : mg "range" = none
  C : Addr
  gC : mg "Execution" = some (.ref C)
  cl : Cls K C
  nRo : NoAttr K C "round_orders"
  nEo : NoAttr K C "ending_orders"
  nSz : NoAttr K C "size"
  nH : NoAttr K C "held"
  nT : NoAttr K C "told"
  nR : NoAttr K C "kept"
  nP : NoAttr K C "handed"
  nA : NoAttr K C "asked"
  nSt : NoAttr K C "over"
  fI : Addr
  fdI : FuncData
  FI : Fun K "__init__" "Execution.__init__" sXI fI fdI
  bI : Binds K fdI ["self", "round_orders", "ending_orders", "size", "kept"] []
  MI : Mk K C fI
  an : Mt K C "answer" "Execution.answer" sXA ["self", "held", "told"]
  fi : Mt K C "finish" "Execution.finish" sXF ["self"]
  ps : Mt K C "passes" "Execution.passes" sXP ["self", "test"]
  pf : Mt K C "perform" "Execution.perform" sXR ["self", "step"]
  co : Mt K C "cut_off" "Execution.cut_off" sXC ["self"]
section
variable {P : Program} {w : World} {K : PySem.W.Frag} {mg : Str → Option Value} {base : Heap}
/-! ### __init__ -/
def spXI (C : Addr) : Sp := fun vs H Q _ => ∃ (o dx ro eo r : Addr) (sz : Nat) (rest : List Int), vs = [.ref o, .ref ro, .ref eo, .int sz, .ref r] ∧ H o = some (.ins C dx []) ∧ H r = some (.tup (ivs rest)) ∧
  ∀ (H' : Hp) (p : Addr), Off o H H' → H p = none → ExAt C H' o dx ro eo p 0 sz [] false ⟨rest, []⟩ false → Q .non H'
theorem scXI : FnScope ["self", "round_orders", "ending_orders", "size", "kept"] ["self", "round_orders", "ending_orders", "size", "kept"] (defScope sXI) := ⟨rfl, rfl, rfl, by decide +kernel, rfl, by decide +kernel, by decide +kernel⟩
theorem small8 {fs : List (Str × V)} (h : fs.length ≤ 8) : fs.length < 1000 := by omega
theorem putF8 {f : Str} {v : V} {fs : List (Str × V)} {n : Nat} (h : fs.length ≤ n) : (putF f v fs).length ≤ n + 1 := Nat.le_trans (putF_len f v fs) (by omega)
theorem ok_xi (T : TxX K mg) : FnOk P w K mg base CX0 1 T.fI T.fdI ["self", "round_orders", "ending_orders", "size", "kept"] (spXI T.C) := by
  refine T.FI.ok scXI (fun vs H Q E h => ?_) (fun cdv A outer s H vs Q E hr h => ?_)
  · obtain ⟨o, dx, ro, eo, r, sz, rest, rfl, _⟩ := h
    rfl
  · obtain ⟨o, dx, ro, eo, r, sz, rest, rfl, ho, hr', k⟩ := h
    refine ⟨_, pss_cons (ps_fld (pv 0) (pv 1) rfl) (pss_cons (ps_fld (pv 0) (pv 2) rfl) (pss_cons (ps_fld (pv 0) (pv 3) rfl) (pss_cons (ps_fld (pv 0) (pe_tup pa_nil) rfl) (pss_cons (ps_fld (pv 0) pe_bl rfl) (pss_cons (ps_fld (pv 0) (pv 4) rfl)
      (pss_cons (ps_fld (pv 0) (pe_lst pa_nil) rfl) (pss_cons (ps_fld (pv 0) pe_int rfl) (pss_one (ps_fld (pv 0) pe_bl rfl))))))))), ?_⟩
    have l0 : ([] : List (Str × V)).length ≤ 0 := Nat.le_refl _
    refine ⟨_, rfl, _, rfl, o, T.C, dx, _, rfl, ho, T.cl, T.nRo, by decide, ?_⟩
    refine ⟨_, rfl, _, rfl, o, T.C, dx, _, rfl, upd_same, T.cl, T.nEo, Nat.lt_of_le_of_lt (putF8 l0) (by decide), ?_⟩
    refine ⟨_, rfl, _, rfl, o, T.C, dx, _, rfl, upd_same, T.cl, T.nSz, Nat.lt_of_le_of_lt (putF8 (putF8 l0)) (by decide), ?_⟩
    refine ⟨Nat.zero_le _, fun h nh => ?_⟩
    have no : h ≠ o := fun z => by rw [z, upd_same] at nh; cases nh
    refine ⟨_, rfl, o, T.C, dx, _, rfl, (by rw [upd_ne no.symm]; exact upd_same), T.cl, T.nH, Nat.lt_of_le_of_lt (putF8 (putF8 (putF8 l0))) (by decide), ?_⟩
    refine ⟨_, rfl, o, T.C, dx, _, rfl, upd_same, T.cl, T.nT, Nat.lt_of_le_of_lt (putF8 (putF8 (putF8 (putF8 l0)))) (by decide), ?_⟩
    refine ⟨_, rfl, _, rfl, o, T.C, dx, _, rfl, upd_same, T.cl, T.nR, Nat.lt_of_le_of_lt (putF8 (putF8 (putF8 (putF8 (putF8 l0))))) (by decide), ?_⟩
    refine ⟨Nat.zero_le _, fun p np => ?_⟩
    have po : p ≠ o := fun z => by rw [z, upd_same] at np; cases np
    refine ⟨_, rfl, o, T.C, dx, _, rfl, (by rw [upd_ne po.symm]; exact upd_same), T.cl, T.nP, Nat.lt_of_le_of_lt (putF8 (putF8 (putF8 (putF8 (putF8 (putF8 l0)))))) (by decide), ?_⟩
    refine ⟨_, rfl, o, T.C, dx, _, rfl, upd_same, T.cl, T.nA, Nat.lt_of_le_of_lt (putF8 (putF8 (putF8 (putF8 (putF8 (putF8 (putF8 l0))))))) (by decide), ?_⟩
    refine ⟨_, rfl, o, T.C, dx, _, rfl, upd_same, T.cl, T.nSt, Nat.lt_of_le_of_lt (putF8 (putF8 (putF8 (putF8 (putF8 (putF8 (putF8 (putF8 l0)))))))) (by decide), ?_⟩
    rw [show V.int 0 = V.int ((0 : Nat) : Int) from rfl, xf_mk]
    rw [upd_ne po, upd_ne po, upd_ne po] at np
    have ph : p ≠ h := fun z => by rw [z, upd_same] at np; cases np
    rw [upd_ne ph, upd_ne po, upd_ne po, upd_ne po] at np
    rw [upd_ne no, upd_ne no, upd_ne no] at nh
    have r1 : r ≠ o := ne_of hr' ho (by intro z; cases z)
    have r2 : r ≠ h := ne_of_none hr' nh
    have r3 : r ≠ p := ne_of_none hr' np
    refine k _ p (fun b u nb e => ?_) np ⟨h, r, [], upd_same, ?_, ?_, ?_, .nil⟩
    · have b2 : b ≠ h := ne_of_none e nh
      have b3 : b ≠ p := ne_of_none e np
      rw [upd_ne nb, upd_ne nb, upd_ne nb, upd_ne b3, upd_ne nb, upd_ne nb, upd_ne nb, upd_ne b2, upd_ne nb, upd_ne nb, upd_ne nb]
      exact e
    · rw [upd_ne no, upd_ne no, upd_ne no, upd_ne ph.symm, upd_ne no, upd_ne no, upd_ne no, upd_same]
      rfl
    · rw [upd_ne r1, upd_ne r1, upd_ne r1, upd_ne r3, upd_ne r1, upd_ne r1, upd_ne r1, upd_ne r2, upd_ne r1, upd_ne r1, upd_ne r1]
      exact hr'
    · rw [upd_ne po, upd_ne po, upd_ne po, upd_same]
end
end My

namespace My
open PySem L2 Cm LM EM
theorem in2 (t a b : Str) : inV (.str t) [.str a, .str b] = decide (t = a ∨ t = b) := by
  have e : inV (.str t) [.str a, .str b] = decide (t ∈ [a, b]) := inV_svs t [a, b]
  rw [e]
  exact decide_eq_decide.mpr (by simp)
theorem rgC_up {q s : Nat} (hs : 1 ≤ s) (h1 : s ≤ 1000) (h2 : q * s ≤ 4000000) : RgC 0 ((q * s : Nat) : Int) (s : Int) q := by
  have sz : Builtin.Range.rangeSize 0 ((q * s : Nat) : Int) (s : Int) = (q : Int) := by
    rw [PyProof.Rows.rangeSize_pos (by omega) (by omega)]
    have e : ((q * s : Nat) : Int) + (s : Int) - 1 = ((s : Int) - 1) + (q : Int) * (s : Int) := by
      rw [Int.natCast_mul]
      omega
    rw [e, Int.add_mul_ediv_right _ _ (by omega), Int.ediv_eq_zero_of_lt (by omega) (by omega)]
    omega
  refine ⟨by omega, by omega, ?_, sz⟩
  have hq : q ≤ 4000000 := Nat.le_trans (Nat.le_mul_of_pos_right q hs) h2
  unfold Builtin.Range.small
  rw [sz]
  generalize q * s = m at h2 ⊢
  simp only [Builtin.Range.rangeFitsLong, Bool.and_eq_true, Bool.or_eq_true, decide_eq_true_eq, beq_iff_eq, show (s : Int) > 0 by omega, if_true]
  omega
section
variable {P : Program} {w : World} {K : PySem.W.Frag} {mg : Str → Option Value} {base : Heap}
/-! ### passes -/
def spXP (C : Addr) : Sp := fun vs H Q _ => ∃ (o dx ro eo p : Addr) (ak sz : Nat) (held : List Int) (told : Bool) (x : RP) (st : Bool) (t : Str), vs = [.ref o, .str t] ∧ ExAt C H o dx ro eo p ak sz held told x st ∧ ∀ H', Same H H' → Q (.bl (passM sz held told t x.rest)) H'
theorem scXP : FnScope ["self", "test"] ["self", "test"] (defScope sXP) := ⟨rfl, rfl, rfl, by decide +kernel, rfl, by decide +kernel, by decide +kernel⟩
theorem pos_dec (n : Nat) : decide ((n : Int) > 0) = decide (0 < n) := decide_eq_decide.mpr ⟨fun z => by omega, fun z => by omega⟩
theorem lt_dec (n m : Nat) : decide ((n : Int) < (m : Int)) = decide (n < m) := decide_eq_decide.mpr ⟨fun z => by omega, fun z => by omega⟩
theorem ok_xp (T : TxX K mg) : FnOk P w K mg base CX0 1 T.ps.f T.ps.fd ["self", "test"] (spXP T.C) := by
  refine T.ps.F.ok scXP (fun vs H Q E h => ?_) (fun cdv A outer s H vs Q E hr h => ?_)
  · obtain ⟨o, dx, ro, eo, p, ak, sz, held, told, x, st, t, rfl, _⟩ := h
    rfl
  · obtain ⟨o, dx, ro, eo, p, ak, sz, held, told, x, st, t, rfl, hX, k⟩ := h
    refine ⟨_, pss_cons (ps_if (pt_cmpR op_eq (pv 1) pe_str (nomark _)) (pss_one (ps_ret pe_bl)) pss_nil)
      (pss_cons (ps_if (pt_cmpR op_in_seq (pv 1) (pe_tup (pa_cons pe_str (pa_cons pe_str pa_nil))) (by rfl)) (pss_one (ps_ret (pe_cmpR op_eq (pe_fld (pv 0) rfl) (pe_cmpR op_eq (pv 1) pe_str (nomark _)) (nomark _)))) pss_nil)
      (pss_cons (ps_if (pt_cmpR op_in_seq (pv 1) (pe_tup (pa_cons pe_str (pa_cons pe_str pa_nil))) (by rfl)) (pss_one (ps_ret (pe_cmpR op_eq (pe_cmpR op_gt (pe_callB call_len_seq (by rfl) T.len PySem.boot_len (pa_cons (pe_fld (pv 0) rfl) pa_nil)) pe_int (nomark _)) (pe_cmpR op_eq (pv 1) pe_str (nomark _)) (nomark _)))) pss_nil)
      (pss_cons (ps_if (pt_cmpR op_in_seq (pv 1) (pe_tup (pa_cons pe_str (pa_cons pe_str pa_nil))) (by rfl)) (pss_one (ps_ret (pe_cmpR op_eq (pe_cmpR op_gt (pe_callB call_len_seq (by rfl) T.len PySem.boot_len (pa_cons (pe_fld (pv 0) rfl) pa_nil)) pe_int (nomark _)) (pe_cmpR op_eq (pv 1) pe_str (nomark _)) (nomark _)))) pss_nil)
      (pss_one (ps_ret (pe_cmpR op_eq (pe_cmpR op_lt (pe_callB call_len_seq (by rfl) T.len PySem.boot_len (pa_cons (pe_fld (pv 0) rfl) pa_nil)) (pe_fld (pv 0) rfl) (nomark _)) (pe_cmpR op_eq (pv 1) pe_str (nomark _)) (nomark _))))))), ?_⟩
    unfold passM at k
    refine ⟨_, rfl, rfl, _, rfl, ?_⟩
    rw [dS]
    by_cases h0 : t = ""
    · rw [decide_eq_true h0]
      rw [if_pos h0] at k
      exact iteT (k H (Same.refl _))
    rw [decide_eq_false h0]
    rw [if_neg h0] at k
    refine iteF ?_
    refine ⟨_, rfl, (by show 2 ≤ sizeLine; decide), fun t1 n1 => ⟨t1, _, rfl, .inr (SqT.of upd_same), rfl, rfl, _, rfl, ?_⟩⟩
    have s1 : Same H (upd H t1 (.tup [.str "told", .str "open"])) := same_new n1
    generalize upd H t1 (.tup [.str "told", .str "open"]) = H1 at s1 ⊢
    have X1 := hX.same s1
    obtain ⟨h, r, vs, eo1, hh1, hr1, hp1, _⟩ := id X1.ex
    rw [show (if false = true then !inV (V.str t) [V.str "told", V.str "open"] else inV (V.str t) [V.str "told", V.str "open"]) = decide (t = "told" ∨ t = "open") from in2 ..]
    by_cases h1 : t = "told" ∨ t = "open"
    · rw [decide_eq_true h1]
      rw [if_pos h1] at k
      refine iteT ⟨_, rfl, o, T.C, dx, _, _, rfl, eo1, T.cl, T.nT, xf_t .., _, rfl, rfl, rfl, ?_⟩
      rw [dS, dB]
      exact k H1 s1
    rw [decide_eq_false h1]
    rw [if_neg h1] at k
    refine iteF ?_
    refine ⟨_, rfl, (by show 2 ≤ sizeLine; decide), fun t2 n2 => ⟨t2, _, rfl, .inr (SqT.of upd_same), rfl, rfl, _, rfl, ?_⟩⟩
    have s2 : Same H (upd H1 t2 (.tup [.str "rest", .str "bare"])) := Same.trans s1 (same_new n2)
    generalize upd H1 t2 (.tup [.str "rest", .str "bare"]) = H2 at s2 ⊢
    have X2 := hX.same s2
    clear eo1 hh1 hr1 hp1 X1
    obtain ⟨h, r, vs, eo1, hh1, hr1, hp1, _⟩ := id X2.ex
    rw [show (if false = true then !inV (V.str t) [V.str "rest", V.str "bare"] else inV (V.str t) [V.str "rest", V.str "bare"]) = decide (t = "rest" ∨ t = "bare") from in2 ..]
    by_cases h2 : t = "rest" ∨ t = "bare"
    · rw [decide_eq_true h2]
      rw [if_pos h2] at k
      refine iteT ⟨_, rfl, o, T.C, dx, _, _, rfl, eo1, T.cl, T.nR, xf_r .., r, _, rfl, .inr (SqT.of hr1), _, _, rfl, rfl, _, rfl, rfl, rfl, ?_⟩
      rw [dS, dB, ivs_len, pos_dec]
      exact k H2 s2
    rw [decide_eq_false h2]
    rw [if_neg h2] at k
    refine iteF ?_
    refine ⟨_, rfl, (by show 2 ≤ sizeLine; decide), fun t3 n3 => ⟨t3, _, rfl, .inr (SqT.of upd_same), rfl, rfl, _, rfl, ?_⟩⟩
    have s3 : Same H (upd H2 t3 (.tup [.str "empty", .str "some"])) := Same.trans s2 (same_new n3)
    generalize upd H2 t3 (.tup [.str "empty", .str "some"]) = H3 at s3 ⊢
    have X3 := hX.same s3
    clear eo1 hh1 hr1 hp1 X2
    obtain ⟨h, r, vs, eo1, hh1, hr1, hp1, _⟩ := id X3.ex
    rw [show (if false = true then !inV (V.str t) [V.str "empty", V.str "some"] else inV (V.str t) [V.str "empty", V.str "some"]) = decide (t = "empty" ∨ t = "some") from in2 ..]
    by_cases h3 : t = "empty" ∨ t = "some"
    · rw [decide_eq_true h3]
      rw [if_pos h3] at k
      refine iteT ⟨_, rfl, o, T.C, dx, _, _, rfl, eo1, T.cl, T.nH, xf_h .., h, _, rfl, .inr (SqT.of hh1), _, _, rfl, rfl, _, rfl, rfl, rfl, ?_⟩
      rw [dS, dB, ivs_len, pos_dec]
      exact k H3 s3
    rw [decide_eq_false h3]
    rw [if_neg h3] at k
    refine iteF ?_
    refine ⟨_, rfl, o, T.C, dx, _, _, rfl, eo1, T.cl, T.nH, xf_h .., h, _, rfl, .inr (SqT.of hh1), _, rfl, o, T.C, dx, _, _, rfl, eo1, T.cl, T.nSz, xf_sz .., _, _, rfl, rfl, _, rfl, rfl, rfl, ?_⟩
    rw [dS, dB, ivs_len, lt_dec]
    exact k H3 s3
/-! ### cut_off -/
/-- not too much -/
structure Fit (sz : Nat) (held : List Int) (x : RP) : Prop where
  s1 : 1 ≤ sz
  s2 : sz ≤ 1000
  h : held.length ≤ sz
  r : x.rest.length ≤ 3000000
  p : x.pieces.length ≤ 8000000
def spXC (C : Addr) : Sp := fun vs H Q _ => ∃ (o dx ro eo p : Addr) (ak sz : Nat) (held : List Int) (told : Bool) (x : RP) (st : Bool), vs = [.ref o] ∧ ExAt C H o dx ro eo p ak sz held told x st ∧ Fit sz held x ∧
  ∀ H', Off2 o p H H' → ExAt C H' o dx ro eo p ak sz held told (perfM sz held "cut" x) st → Q .non H'
theorem scXC : FnScope ["self", "end", "start"] ["self"] (defScope sXC) := ⟨rfl, rfl, rfl, by decide +kernel, rfl, by decide +kernel, by decide +kernel⟩
theorem cutN_succ (sz : Nat) (xs : List Int) (i : Nat) : cutN sz xs (i + 1) = cutN sz xs i ++ [(xs.drop (i * sz)).take sz] := by
  unfold cutN
  rw [List.range_succ, List.map_append]
  rfl
theorem ok_xc (T : TxX K mg) : FnOk P w K mg base CX0 1 T.co.f T.co.fd ["self"] (spXC T.C) := by
  refine T.co.F.ok scXC (fun vs H Q E h => ?_) (fun cdv A outer s H vs Q E hr h => ?_)
  · obtain ⟨o, dx, ro, eo, p, ak, sz, held, told, x, st, rfl, _⟩ := h
    rfl
  · obtain ⟨o, dx, ro, eo, p, ak, sz, held, told, x, st, rfl, hX, hF, k⟩ := h
    refine ⟨_, pss_cons (ps_set (i := 1) scXC.nd rfl (.inl rfl) (pe_op op_mul (pe_op op_fdiv (pe_callB call_len_seq (by rfl) T.len PySem.boot_len (pa_cons (pe_fld (pv 0) rfl) pa_nil)) (pe_fld (pv 0) rfl)) (pe_fld (pv 0) rfl)))
      (pss_cons (ps_for PassesOwn.never rfl (pi_range3 rfl T.range (pa_cons pe_int (pa_cons (pv 1) (pa_cons (pe_fld (pv 0) rfl) pa_nil)))) (pg_name (i := 2) scXC.nd rfl (Or.inl rfl))
        (pss_one (ps_expr (pe_bm PySem.F.plainAttrs_list PySem.F.slot_list_append PySem.F.type_list_append mt_append (pe_fld (pv 0) rfl) (pa_cons (pe_slice sl_tupH (pe_fld (pv 0) rfl) (po_some (pv 2)) (po_some (pe_op op_add (pv 2) (pe_fld (pv 0) rfl)))) pa_nil)))))
      (pss_one (ps_fld (pv 0) (pe_slice sl_tupH (pe_fld (pv 0) rfl) (po_some (pv 1)) po_none) rfl))), ?_⟩
    obtain ⟨h0, r0, vs0, e0, hh0, hr0, hp0, hP0⟩ := id hX.ex
    have s1 := hF.s1
    have s2 := hF.s2
    have s3 := hF.r
    have s4 := hF.p
    refine ⟨_, rfl, o, T.C, dx, _, _, rfl, e0, T.cl, T.nR, xf_r .., r0, _, rfl, .inr (SqT.of hr0), _, rfl, o, T.C, dx, _, _, rfl, e0, T.cl, T.nSz, xf_sz .., _, _, rfl, rfl, ⟨by omega, by omega⟩, _, rfl, o, T.C, dx, _, _, rfl, e0, T.cl, T.nSz, xf_sz .., _, _, rfl, rfl, .inr ⟨by omega, by omega⟩, ?_⟩
    have eq : ((ivs x.rest).length : Int) / (sz : Int) * (sz : Int) = ((x.rest.length / sz * sz : Nat) : Int) := by
      rw [ivs_len, Int.natCast_mul, Int.natCast_ediv]
    simp only [eq]
    have le : x.rest.length / sz * sz ≤ x.rest.length := Nat.div_mul_le_self _ _
    generalize hq : x.rest.length / sz = q at le ⊢
    refine ⟨_, rfl, _, rfl, o, T.C, dx, _, _, rfl, e0, T.cl, T.nSz, xf_sz .., _, _, _, q, rfl, rgC_up s1 s2 (by omega), ?_⟩
    refine for_rangeC (lo := 0) (c := (sz : Int)) (n := q) (fun i σ H' => ∃ v2, σ = [some (.ref o), some (.int ((q * sz : Nat) : Int)), v2] ∧ Off2 o p H H' ∧ ExAt T.C H' o dx ro eo p ak sz held told ⟨x.rest, x.pieces ++ cutN sz x.rest i⟩ st) ⟨none, rfl, Off2.refl, ?_⟩ ?_ ?_
    · refine ⟨h0, r0, vs0, e0, hh0, hr0, hp0, ?_⟩
      rw [show x.pieces ++ cutN sz x.rest 0 = x.pieces from List.append_nil _]
      exact hP0
    · rintro i σ H' hi ⟨v2, rfl, o1, X1⟩
      obtain ⟨h1, r1, vs1, e1, hh1, hr1, hp1, hP1⟩ := id X1.ex
      have m1 : (i + 1) * sz ≤ x.rest.length := Nat.le_trans (Nat.mul_le_mul_right _ hi) le
      have m2 : (i + 1) * sz = i * sz + sz := Nat.succ_mul i sz
      refine ⟨_, rfl, o, T.C, dx, _, _, rfl, e1, T.cl, T.nP, xf_p .., .inl ⟨rfl, _, SqL.of hp1⟩, ?_⟩
      refine ⟨_, rfl, o, T.C, dx, _, _, rfl, e1, T.cl, T.nR, xf_r .., _, rfl, ((i * sz : Nat) : Int), by rw [Int.zero_add, Int.natCast_mul], _, rfl, _, rfl, o, T.C, dx, _, _, rfl, e1, T.cl, T.nSz, xf_sz .., _, _, rfl, rfl, ((i * sz + sz : Nat) : Int), by rw [Int.zero_add, Int.natCast_add, Int.natCast_mul], r1, _, rfl, hr1, fun H2 qq s2' hq2 => ?_⟩
      rw [cut_mid _ _ _ (by omega) (by rw [ivs_len]; show i * sz + sz ≤ x.rest.length; omega), show i * sz + sz - i * sz = sz by omega] at hq2
      have hp2 := s2' _ _ hp1
      have lp := hP1.len
      refine ⟨p, vs1, _, rfl, rfl, hp2, ?_, ?_⟩
      · rw [lp]
        show (x.pieces ++ cutN sz x.rest i).length < sizeLine
        rw [List.length_append, cutN, List.length_map, List.length_range]
        have : q ≤ x.rest.length := Nat.le_trans (Nat.le_mul_of_pos_right q s1) le
        exact Nat.lt_of_le_of_lt (show x.pieces.length + i ≤ 11000000 by omega) (by decide)
      have st := tup_stays (o' := .lst (vs1 ++ [.ref qq])) hp2 (by intro xs z; cases z)
      have po : o ≠ p := ne_of (s2' _ _ e1) hp2 (by intro z; cases z)
      refine ⟨_, rfl, (o1.same s2').putP, h1, r1, _, by rw [upd_ne po]; exact s2' _ _ e1, st _ _ (s2' _ _ hh1), st _ _ (s2' _ _ hr1), upd_same, ?_⟩
      rw [cutN_succ, ← List.append_assoc]
      refine Pcs.snoc ?_ ((hP1.mono fun _ _ z => s2' _ _ z).mono st)
      rw [st _ _ hq2]
      simp [ivs, List.map_take, List.map_drop]
    · rintro σ H' ⟨v2, rfl, o1, X1⟩
      obtain ⟨h1, r1, vs1, e1, hh1, hr1, hp1, hP1⟩ := id X1.ex
      refine ⟨_, rfl, o, T.C, dx, _, _, rfl, e1, T.cl, T.nR, xf_r .., _, rfl, ((q * sz : Nat) : Int), rfl, r1, _, rfl, hr1, fun H2 r2 s2' hq2 => ?_⟩
      rw [cut_from] at hq2
      refine ⟨_, rfl, o, T.C, dx, _, rfl, s2' _ _ e1, T.cl, T.nR, by rw [xf_len]; decide, ?_⟩
      rw [put_r]
      have st := tup_stays (o' := .ins T.C dx (xf ro eo ak sz h1 told r2 p st)) (s2' _ _ e1) (by intro xs z; cases z)
      have po : p ≠ o := ne_of hp1 e1 (by intro z; cases z)
      refine k _ (o1.same s2').putO ⟨h1, r2, vs1, upd_same, st _ _ (s2' _ _ hh1), ?_, by rw [upd_ne po]; exact s2' _ _ hp1, ?_⟩
      · rw [st _ _ hq2]
        unfold perfM
        rw [if_neg (by decide +kernel), if_neg (by decide +kernel), if_pos rfl, hq]
        simp [ivs, List.map_drop]
      · unfold perfM
        rw [if_neg (by decide +kernel), if_neg (by decide +kernel), if_pos rfl, hq]
        exact (hP1.mono fun _ _ z => s2' _ _ z).mono st
end
end My

namespace My
open PySem L2 Cm LM EM
section
variable {P : Program} {w : World} {K : PySem.W.Frag} {mg : Str → Option Value} {base : Heap}
/-! ### perform -/
def spXR (C : Addr) : Sp := fun vs H Q _ => ∃ (o dx ro eo p : Addr) (ak sz : Nat) (held : List Int) (told : Bool) (x : RP) (st : Bool) (s : Str), vs = [.ref o, .str s] ∧ ExAt C H o dx ro eo p ak sz held told x st ∧ Fit sz held x ∧
  ∀ H', Off2 o p H H' → ExAt C H' o dx ro eo p ak sz held told (perfM sz held s x) st → Q .non H'
theorem scXR : FnScope ["self", "step"] ["self", "step"] (defScope sXR) := ⟨rfl, rfl, rfl, by decide +kernel, rfl, by decide +kernel, by decide +kernel⟩
theorem ok_xr (T : TxX K mg) : FnOk P w K mg base CX0 2 T.pf.f T.pf.fd ["self", "step"] (spXR T.C) := by
  have GC : FnOk P w K mg base CX0 1 T.co.f T.co.fd ["self"] (spXC T.C) := ok_xc T
  refine T.pf.F.ok scXR (fun vs H Q E h => ?_) (fun cdv A outer s H vs Q E hr h => ?_)
  · obtain ⟨o, dx, ro, eo, p, ak, sz, held, told, x, st, s, rfl, _⟩ := h
    rfl
  · obtain ⟨o, dx, ro, eo, p, ak, sz, held, told, x, st, s, rfl, hX, hF, k⟩ := h
    refine ⟨_, pss_one (ps_if (pt_cmpR op_eq (pv 1) pe_str (nomark _)) (pss_one (ps_fld (pv 0) (pe_op op_catH (pe_fld (pv 0) rfl) (pe_fld (pv 0) rfl)) rfl))
      (pss_one (ps_if (pt_cmpR op_eq (pv 1) pe_str (nomark _)) (pss_one (ps_expr (pe_bm PySem.F.plainAttrs_list PySem.F.slot_list_append PySem.F.type_list_append mt_append (pe_fld (pv 0) rfl) (pa_cons (pe_fld (pv 0) rfl) pa_nil))))
      (pss_one (ps_if (pt_cmpR op_eq (pv 1) pe_str (nomark _)) (pss_one (ps_expr (pe_meth0 (pv 0) T.cl T.co.m GC hr T.co.b .nil pass0)))
      (pss_one (ps_if (pt_cmpR op_eq (pv 1) pe_str (nomark _)) (pss_cons (ps_expr (pe_bm PySem.F.plainAttrs_list PySem.F.slot_list_append PySem.F.type_list_append mt_append (pe_fld (pv 0) rfl) (pa_cons (pe_fld (pv 0) rfl) pa_nil))) (pss_one (ps_fld (pv 0) (pe_tup pa_nil) rfl))) pss_nil))))))), ?_⟩
    obtain ⟨h0, r0, vs0, e0, hh0, hr0, hp0, hP0⟩ := id hX.ex
    have s1 := hF.s1
    have s2 := hF.s2
    have s3 := hF.r
    have s4 := hF.p
    have s5 := hF.h
    have po : p ≠ o := ne_of hp0 e0 (by intro z; cases z)
    have lp := hP0.len
    refine ⟨_, rfl, rfl, _, rfl, ?_⟩
    rw [dS]
    by_cases h1 : s = "add"
    · rw [decide_eq_true h1]
      refine iteT ?_
      unfold perfM at k
      rw [if_pos h1] at k
      refine ⟨_, rfl, o, T.C, dx, _, _, rfl, e0, T.cl, T.nR, xf_r .., _, rfl, o, T.C, dx, _, _, rfl, e0, T.cl, T.nH, xf_h .., r0, h0, _, _, rfl, rfl, hr0, hh0, ?_, fun H2 q s2' hq => ?_⟩
      · rw [ivs_len, ivs_len]
        exact Nat.le_trans (show x.rest.length + held.length ≤ 4000000 by omega) (by decide)
      refine ⟨_, rfl, o, T.C, dx, _, rfl, s2' _ _ e0, T.cl, T.nR, by rw [xf_len]; decide, ?_⟩
      rw [put_r]
      have st' := tup_stays (o' := .ins T.C dx (xf ro eo ak sz h0 told q p st)) (s2' _ _ e0) (by intro xs z; cases z)
      refine k _ ((Off2.refl).same s2').putO ⟨h0, q, vs0, upd_same, st' _ _ (s2' _ _ hh0), ?_, by rw [upd_ne po]; exact s2' _ _ hp0, (hP0.mono fun _ _ z => s2' _ _ z).mono st'⟩
      rw [st' _ _ hq]
      simp [ivs]
    rw [decide_eq_false h1]
    refine iteF ⟨_, rfl, rfl, _, rfl, ?_⟩
    rw [dS]
    by_cases h2 : s = "hand"
    · rw [decide_eq_true h2]
      refine iteT ?_
      unfold perfM at k
      rw [if_neg h1, if_pos h2] at k
      refine ⟨_, rfl, o, T.C, dx, _, _, rfl, e0, T.cl, T.nP, xf_p .., .inl ⟨rfl, _, SqL.of hp0⟩, _, rfl, o, T.C, dx, _, _, rfl, e0, T.cl, T.nH, xf_h .., p, vs0, _, rfl, rfl, hp0, ?_, ?_⟩
      · rw [lp]
        exact Nat.lt_of_le_of_lt s4 (by decide)
      have st' := tup_stays (o' := .lst (vs0 ++ [.ref h0])) hp0 (by intro xs z; cases z)
      exact k _ Off2.refl.putP ⟨h0, r0, _, by rw [upd_ne po.symm]; exact e0, st' _ _ hh0, st' _ _ hr0, upd_same, Pcs.snoc (st' _ _ hh0) (hP0.mono st')⟩
    rw [decide_eq_false h2]
    refine iteF ⟨_, rfl, rfl, _, rfl, ?_⟩
    rw [dS]
    by_cases h3 : s = "cut"
    · rw [decide_eq_true h3]
      refine iteT ?_
      rw [h3] at k
      exact ⟨_, rfl, o, dx, _, rfl, e0, (xf_noA ..).2.2.2.2.1, o, dx, ro, eo, p, ak, sz, held, told, x, st, rfl, hX, hF, k⟩
    rw [decide_eq_false h3]
    refine iteF ⟨_, rfl, rfl, _, rfl, ?_⟩
    rw [dS]
    by_cases h4 : s = "flush"
    · rw [decide_eq_true h4]
      refine iteT ?_
      unfold perfM at k
      rw [if_neg h1, if_neg h2, if_neg h3, if_pos h4] at k
      refine ⟨_, rfl, o, T.C, dx, _, _, rfl, e0, T.cl, T.nP, xf_p .., .inl ⟨rfl, _, SqL.of hp0⟩, _, rfl, o, T.C, dx, _, _, rfl, e0, T.cl, T.nR, xf_r .., p, vs0, _, rfl, rfl, hp0, ?_, ?_⟩
      · rw [lp]
        exact Nat.lt_of_le_of_lt s4 (by decide)
      have st1 := tup_stays (o' := .lst (vs0 ++ [.ref r0])) hp0 (by intro xs z; cases z)
      refine ⟨Nat.zero_le _, fun q nq => ?_⟩
      have e1 : (upd (upd H p (.lst (vs0 ++ [.ref r0]))) q (.tup [])) o = some (.ins T.C dx (xf ro eo ak sz h0 told r0 p st)) := same_new nq _ _ (by rw [upd_ne po.symm]; exact e0)
      refine ⟨_, rfl, o, T.C, dx, _, rfl, e1, T.cl, T.nR, by rw [xf_len]; decide, ?_⟩
      rw [put_r]
      have st2 := tup_stays (o' := .ins T.C dx (xf ro eo ak sz h0 told q p st)) e1 (by intro xs z; cases z)
      have f : ∀ (a : Addr) (xs : List V), H a = some (.tup xs) → (upd (upd (upd H p (.lst (vs0 ++ [.ref r0]))) q (.tup [])) o (.ins T.C dx (xf ro eo ak sz h0 told q p st))) a = some (.tup xs) := fun a xs z => st2 _ _ (same_new nq _ _ (st1 _ _ z))
      refine k _ ((Off2.refl.putP).same (same_new nq)).putO ⟨h0, q, _, upd_same, f _ _ hh0, st2 _ _ upd_same, ?_, Pcs.snoc (f _ _ hr0) (hP0.mono f)⟩
      rw [upd_ne po]
      exact same_new nq _ _ upd_same
    rw [decide_eq_false h4]
    unfold perfM at k
    rw [if_neg h1, if_neg h2, if_neg h3, if_neg h4] at k
    exact iteF (k H Off2.refl hX)
/-! ### finish -/
theorem Off2.ts {C : Addr} {H H' : Hp} {o dx ro eo p : Addr} {ak sz : Nat} {held : List Int} {told : Bool} {x : RP} {st : Bool} (a : Off2 o p H H') (h : ExAt C H o dx ro eo p ak sz held told x st) : TS H H' := fun q xs e => by
  obtain ⟨h0, r0, vs0, e0, _, _, hp0, _⟩ := h.ex
  exact a _ _ (ne_of e e0 (by intro z; cases z)) (ne_of e hp0 (by intro z; cases z)) e
/-- a row of orders stands -/
def OrdT (H : Hp) (p : Addr) (os : List (Str × Str)) : Prop := ∃ xs, H p = some (.tup xs) ∧ Prs H xs os
theorem OrdT.ts {H H' : Hp} {p : Addr} {os : List (Str × Str)} (s : TS H H') (h : OrdT H p os) : OrdT H' p os := let ⟨xs, e, q⟩ := h; ⟨xs, s _ _ e, q.mono s⟩
theorem Prs.get {H : Hp} : ∀ {xs os} {i : Nat} {y : V}, Prs H xs os → xs[i]? = some y → ∃ (q : Addr) (o : Str × Str), os[i]? = some o ∧ y = .ref q ∧ H q = some (.tup [.str o.1, .str o.2])
  | _, _, i, y, .nil, h => by simp at h
  | _, _, 0, y, .cons h _, e => ⟨_, _, rfl, (Option.some.inj e).symm, h⟩
  | _, _, i + 1, y, .cons _ t, e => t.get (i := i) e
theorem endW_app (sz : Nat) (held : List Int) (told : Bool) : ∀ (a b : List (Str × Str)) (x : RP), endW sz held told (a ++ b) x = endW sz held told b (endW sz held told a x)
  | [], _, _ => rfl
  | (t, s) :: r, b, x => endW_app sz held told r b _
/-- enough room for a round and an ending -/
structure FitK (sz : Nat) (held : List Int) (k c : Nat) (x : RP) : Prop where
  s1 : 1 ≤ sz
  s2 : sz ≤ 1000
  h : held.length ≤ sz
  hk : k ≤ 2500
  hc : c ≤ 7900000
  f : Few sz k c x
theorem FitK.fit {sz : Nat} {held : List Int} {k c : Nat} {x : RP} (h : FitK sz held k c x) : Fit sz held x := by
  refine ⟨h.s1, h.s2, h.h, Nat.le_trans h.f.1 ?_, Nat.le_trans h.f.2 (Nat.le_trans h.hc (by decide))⟩
  exact Nat.le_trans (Nat.mul_le_mul h.hk h.s2) (by decide)
def spXF (C : Addr) : Sp := fun vs H Q _ => ∃ (o dx ro eo p : Addr) (ak sz : Nat) (held : List Int) (told : Bool) (x : RP) (st : Bool) (os : List (Str × Str)) (k c : Nat), vs = [.ref o] ∧ ExAt C H o dx ro eo p ak sz held told x st ∧ OrdT H eo os ∧ os.length ≤ 6 ∧ FitK sz held k c x ∧ k ≤ 2400 ∧ c ≤ 7800000 ∧
  ∀ H', Off2 o p H H' → ExAt C H' o dx ro eo p ak sz held told (endW sz held told os x) true → Q .non H'
theorem scXF : FnScope ["self", "test", "step"] ["self"] (defScope sXF) := ⟨rfl, rfl, rfl, by decide +kernel, rfl, by decide +kernel, by decide +kernel⟩
theorem ok_xfin (T : TxX K mg) : FnOk P w K mg base CX0 3 T.fi.f T.fi.fd ["self"] (spXF T.C) := by
  have GP : FnOk P w K mg base CX0 1 T.ps.f T.ps.fd ["self", "test"] (spXP T.C) := ok_xp T
  have GR : FnOk P w K mg base CX0 2 T.pf.f T.pf.fd ["self", "step"] (spXR T.C) := ok_xr T
  refine T.fi.F.ok scXF (fun vs H Q E h => ?_) (fun cdv A outer s H vs Q E hr h => ?_)
  · obtain ⟨o, dx, ro, eo, p, ak, sz, held, told, x, st, os, k, c, rfl, _⟩ := h
    rfl
  · obtain ⟨o, dx, ro, eo, p, ak, sz, held, told, x, st, os, kk, cc, rfl, hX, hO, hl, hF, hk, hc, k⟩ := h
    have hr1 : Room 1 _ := hr.mono (by decide)
    refine ⟨_, pss_cons (ps_for PassesOwn.never rfl (pi_tup (pe_fld (pv 0) rfl)) (pg_tup rfl (pgs_cons (pg_name (i := 1) scXF.nd rfl (.inl rfl)) (pgs_cons (pg_name (i := 2) scXF.nd rfl (.inl rfl)) pgs_nil)))
        (pss_one (ps_if (pt_val (pe_meth (pv 0) T.cl T.ps.m GP hr1 T.ps.b .nil pass0 (pa_cons (pv 1) pa_nil))) (pss_one (ps_expr (pe_meth (pv 0) T.cl T.pf.m GR hr T.pf.b .nil pass0 (pa_cons (pv 2) pa_nil)))) pss_nil)))
      (pss_one (ps_fld (pv 0) pe_bl rfl)), ?_⟩
    obtain ⟨h0, r0, vs0, e0, _⟩ := id hX.ex
    obtain ⟨xs, hxs, hPr⟩ := id hO
    have lx := hPr.len
    refine ⟨_, rfl, o, T.C, dx, _, _, rfl, e0, T.cl, T.nEo, xf_eo .., eo, rfl, ⟨_, SqT.of hxs⟩, ?_⟩
    refine for_tup (K := K) (a := eo) (xs := xs) (fun i σ H' => ∃ v1 v2, σ = [some (.ref o), v1, v2] ∧ Off2 o p H H' ∧ ExAt T.C H' o dx ro eo p ak sz held told (endW sz held told (os.take i) x) st) ⟨none, none, rfl, Off2.refl, hX⟩ (fun i σ H' _ ⟨_, _, _, o1, _⟩ => SqT.of (o1.ts hX _ _ hxs)) ?_ ?_
    · rintro i y σ H' hy ⟨v1, v2, rfl, o1, X1⟩
      obtain ⟨q, od, hod, rfl, hq⟩ := hPr.get hy
      have hq1 := o1.ts hX _ _ hq
      have li : i < os.length := lt_of_get hod
      refine ⟨q, _, rfl, SqT.of hq1, rfl, _, _, rfl, _, _, rfl, rfl, ?_⟩
      obtain ⟨h1, r1, vs1, e1, _⟩ := id X1.ex
      refine ⟨_, rfl, o, dx, _, rfl, e1, (xf_noA ..).2.2.1, _, rfl, o, dx, ro, eo, p, ak, sz, held, told, _, st, od.1, rfl, X1, fun H2 s2 => ⟨_, rfl, ?_⟩⟩
      have X2 := X1.same s2
      have tk : os.take (i + 1) = os.take i ++ [od] := take_snoc hod
      have ef : endW sz held told (os.take (i + 1)) x = (if passM sz held told od.1 (endW sz held told (os.take i) x).rest = true then perfM sz held od.2 (endW sz held told (os.take i) x) else endW sz held told (os.take i) x) := by
        rw [tk, endW_app]
        rfl
      have fe := few_end (told := told) hF.s1 hF.h (os.take i) kk cc x hF.f
      have lt : (os.take i).length ≤ 6 := by rw [List.length_take]; omega
      have fk : FitK sz held (kk + 6) (cc + 6 * (kk + 6)) (endW sz held told (os.take i) x) := ⟨hF.s1, hF.s2, hF.h, by omega, by omega, fe.mono (by omega) (Nat.add_le_add_left (Nat.mul_le_mul lt (by omega)) _)⟩
      obtain ⟨h2, r2, vs2, e2, _⟩ := id X2.ex
      refine ite2 (fun c => ?_) (fun c => ?_)
      · rw [if_pos c] at ef
        refine ⟨_, rfl, o, dx, _, rfl, e2, (xf_noA ..).2.2.2.1, _, rfl, o, dx, ro, eo, p, ak, sz, held, told, _, st, od.2, rfl, X2, fk.fit, fun H3 o3 X3 => ?_⟩
        exact ⟨_, _, rfl, (o1.same s2).trans o3, by rw [ef]; exact X3⟩
      · rw [if_neg c] at ef
        exact ⟨_, _, rfl, o1.same s2, by rw [ef]; exact X2⟩
    · rintro σ H' ⟨v1, v2, rfl, o1, X1⟩
      rw [lx, List.take_length] at X1
      obtain ⟨h1, r1, vs1, e1, hh1, hr1', hp1, hP1⟩ := id X1.ex
      refine ⟨_, rfl, o, T.C, dx, _, rfl, e1, T.cl, T.nSt, by rw [xf_len]; decide, ?_⟩
      rw [put_st]
      have st' := tup_stays (o' := .ins T.C dx (xf ro eo ak sz h1 told r1 p true)) e1 (by intro xs z; cases z)
      have po : p ≠ o := ne_of hp1 e1 (by intro z; cases z)
      exact k _ o1.putO ⟨h1, r1, vs1, upd_same, st' _ _ hh1, st' _ _ hr1', by rw [upd_ne po]; exact hp1, hP1.mono st'⟩
/-! ### answer -/
/-- not stopped and not left so far -/
def goes (sz : Nat) (held : List Int) (told : Bool) : List (Str × Str) → RP → Bool
  | [], _ => true
  | (t, s) :: r, x => if passM sz held told t x.rest = true then (if s = "again" then false else if s = "stop" then false else goes sz held told r (perfM sz held s x)) else goes sz held told r x
theorem runW_cons (sz : Nat) (held : List Int) (told : Bool) (t s : Str) (r : List (Str × Str)) (x : RP) : runW sz held told ((t, s) :: r) x = if passM sz held told t x.rest = true then (if s = "again" then (x, false) else if s = "stop" then (x, true) else runW sz held told r (perfM sz held s x)) else runW sz held told r x := rfl
theorem goes_cons (sz : Nat) (held : List Int) (told : Bool) (t s : Str) (r : List (Str × Str)) (x : RP) : goes sz held told ((t, s) :: r) x = if passM sz held told t x.rest = true then (if s = "again" then false else if s = "stop" then false else goes sz held told r (perfM sz held s x)) else goes sz held told r x := rfl
theorem run_goes (sz : Nat) (held : List Int) (told : Bool) : ∀ (a b : List (Str × Str)) (x : RP), goes sz held told a x = true →
    runW sz held told (a ++ b) x = runW sz held told b (runW sz held told a x).1 ∧ goes sz held told (a ++ b) x = goes sz held told b (runW sz held told a x).1 ∧ (runW sz held told a x).2 = false
  | [], _, _, _ => ⟨rfl, rfl, rfl⟩
  | (t, s) :: r, b, x, h => by
    rw [goes_cons] at h
    rw [List.cons_append, runW_cons, runW_cons, goes_cons]
    by_cases c : passM sz held told t x.rest = true
    · rw [if_pos c] at h
      rw [if_pos c, if_pos c, if_pos c]
      by_cases c1 : s = "again"
      · rw [if_pos c1] at h
        cases h
      rw [if_neg c1] at h
      rw [if_neg c1, if_neg c1, if_neg c1]
      by_cases c2 : s = "stop"
      · rw [if_pos c2] at h
        cases h
      rw [if_neg c2] at h
      rw [if_neg c2, if_neg c2, if_neg c2]
      exact run_goes sz held told r b _ h
    · rw [if_neg c] at h
      rw [if_neg c, if_neg c, if_neg c]
      exact run_goes sz held told r b _ h
def spXA (C : Addr) : Sp := fun vs H Q _ => ∃ (o dx ro eo p h : Addr) (ak sz : Nat) (held0 held : List Int) (told0 told : Bool) (x : RP) (rs es : List (Str × Str)) (k c : Nat), vs = [.ref o, .ref h, .bl told] ∧ ExAt C H o dx ro eo p ak sz held0 told0 x false ∧ H h = some (.tup (ivs held)) ∧ OrdT H ro rs ∧ OrdT H eo es ∧ rs.length ≤ 12 ∧ es.length ≤ 6 ∧ FitK sz held k c x ∧ k ≤ 2300 ∧ c ≤ 7700000 ∧
  ∀ H', Off2 o p H H' → ExAt C H' o dx ro eo p (ak + 1) sz held told (ansM sz rs es held told x).1 (ansM sz rs es held told x).2 → Q .non H'
theorem scXA : FnScope ["self", "held", "told", "test", "step"] ["self", "held", "told"] (defScope sXA) := ⟨rfl, rfl, rfl, by decide +kernel, rfl, by decide +kernel, by decide +kernel⟩
theorem ok_xa (T : TxX K mg) : FnOk P w K mg base CX0 4 T.an.f T.an.fd ["self", "held", "told"] (spXA T.C) := by
  have GP : FnOk P w K mg base CX0 1 T.ps.f T.ps.fd ["self", "test"] (spXP T.C) := ok_xp T
  have GR : FnOk P w K mg base CX0 2 T.pf.f T.pf.fd ["self", "step"] (spXR T.C) := ok_xr T
  have GF : FnOk P w K mg base CX0 3 T.fi.f T.fi.fd ["self"] (spXF T.C) := ok_xfin T
  refine T.an.F.ok scXA (fun vs H Q E h => ?_) (fun cdv A outer s H vs Q E hr h => ?_)
  · obtain ⟨o, dx, ro, eo, p, h, ak, sz, held0, held, told0, told, x, rs, es, k, c, rfl, _⟩ := h
    rfl
  · obtain ⟨o, dx, ro, eo, p, h, ak, sz, held0, held, told0, told, x, rs, es, kk, cc, rfl, hX, hh, hO, hE, l1, l2, hF, hk, hc, k⟩ := h
    have hr1 : Room 1 _ := hr.mono (by decide)
    have hr2 : Room 2 _ := hr.mono (by decide)
    refine ⟨_, pss_cons (ps_fld (pv 0) (pv 1) rfl) (pss_cons (ps_fld (pv 0) (pv 2) rfl) (pss_cons (ps_fldaug (pv 0) pe_int in_add)
      (pss_one (ps_for PassesOwn.never rfl (pi_tup (pe_fld (pv 0) rfl)) (pg_tup rfl (pgs_cons (pg_name (i := 3) scXA.nd rfl (.inl rfl)) (pgs_cons (pg_name (i := 4) scXA.nd rfl (.inl rfl)) pgs_nil)))
        (pss_one (ps_if (pt_val (pe_meth (pv 0) T.cl T.ps.m GP hr1 T.ps.b .nil pass0 (pa_cons (pv 3) pa_nil)))
          (pss_cons (ps_if (pt_cmpR op_eq (pv 4) pe_str (nomark _)) (pss_one ps_retN) pss_nil)
          (pss_cons (ps_if (pt_cmpR op_eq (pv 4) pe_str (nomark _)) (pss_cons (ps_expr (pe_meth0 (pv 0) T.cl T.fi.m GF hr T.fi.b .nil pass0)) (pss_one ps_retN)) pss_nil)
          (pss_one (ps_expr (pe_meth (pv 0) T.cl T.pf.m GR hr2 T.pf.b .nil pass0 (pa_cons (pv 4) pa_nil)))))) pss_nil)))))), ?_⟩
    obtain ⟨h0, r0, vs0, e0, hh0, hr0, hp0, hP0⟩ := id hX.ex
    refine ⟨_, rfl, _, rfl, o, T.C, dx, _, rfl, e0, T.cl, T.nH, by rw [xf_len]; decide, ?_⟩
    rw [put_h]
    refine ⟨_, rfl, _, rfl, o, T.C, dx, _, rfl, upd_same, T.cl, T.nT, by rw [xf_len]; decide, ?_⟩
    rw [put_t]
    refine ⟨_, rfl, o, T.C, dx, _, _, rfl, upd_same, T.cl, T.nA, xf_ak .., _, _, rfl, rfl, dx, _, upd_same, by rw [xf_len]; decide, ?_⟩
    rw [show V.int ((ak : Int) + 1) = V.int ((ak + 1 : Nat) : Int) from rfl, put_ak]
    have po : p ≠ o := ne_of hp0 e0 (by intro z; cases z)
    have ts0 : TS H (upd (upd (upd H o (.ins T.C dx (xf ro eo ak sz h told0 r0 p false))) o (.ins T.C dx (xf ro eo ak sz h told r0 p false))) o (.ins T.C dx (xf ro eo (ak + 1) sz h told r0 p false))) := fun q xs e => tup_stays (o := .ins T.C dx (xf ro eo ak sz h told r0 p false)) upd_same (by intro xs z; cases z) _ _ (tup_stays (o := .ins T.C dx (xf ro eo ak sz h told0 r0 p false)) upd_same (by intro xs z; cases z) _ _ (tup_stays e0 (by intro xs z; cases z) _ _ e))
    have X0 : ExAt T.C (upd (upd (upd H o (.ins T.C dx (xf ro eo ak sz h told0 r0 p false))) o (.ins T.C dx (xf ro eo ak sz h told r0 p false))) o (.ins T.C dx (xf ro eo (ak + 1) sz h told r0 p false))) o dx ro eo p (ak + 1) sz held told x false := ⟨h, r0, vs0, upd_same, ts0 _ _ hh, ts0 _ _ hr0, by rw [upd_ne po, upd_ne po, upd_ne po]; exact hp0, hP0.mono ts0⟩
    have o0 : Off2 o p H (upd (upd (upd H o (.ins T.C dx (xf ro eo ak sz h told0 r0 p false))) o (.ins T.C dx (xf ro eo ak sz h told r0 p false))) o (.ins T.C dx (xf ro eo (ak + 1) sz h told r0 p false))) := Off2.refl.putO.putO.putO
    have hO1 := hO.ts ts0
    have hE1 := hE.ts ts0
    generalize upd (upd (upd H o (.ins T.C dx (xf ro eo ak sz h told0 r0 p false))) o (.ins T.C dx (xf ro eo ak sz h told r0 p false))) o (.ins T.C dx (xf ro eo (ak + 1) sz h told r0 p false)) = H1 at X0 o0 hO1 hE1 ⊢
    clear ts0 hO hE
    obtain ⟨xs, hxs, hPr⟩ := id hO1
    have lx := hPr.len
    obtain ⟨h1, r1, vs1, e1, _⟩ := id X0.ex
    refine ⟨_, rfl, o, T.C, dx, _, _, rfl, e1, T.cl, T.nRo, xf_ro .., ro, rfl, ⟨_, SqT.of hxs⟩, ?_⟩
    refine for_tup (K := K) (a := ro) (xs := xs) (fun i σ H' => ∃ v1 v2, σ = [some (.ref o), some (.ref h), some (.bl told), v1, v2] ∧ Off2 o p H1 H' ∧ ExAt T.C H' o dx ro eo p (ak + 1) sz held told (runW sz held told (rs.take i) x).1 false ∧ goes sz held told (rs.take i) x = true) ⟨none, none, rfl, Off2.refl, X0, rfl⟩ (fun i σ H' _ ⟨_, _, _, o1, _⟩ => SqT.of (o1.ts X0 _ _ hxs)) ?_ ?_
    · rintro i y σ H' hy ⟨v1, v2, rfl, o1, X1, g1⟩
      obtain ⟨q, od, hod, rfl, hq⟩ := hPr.get hy
      have hq1 := o1.ts X0 _ _ hq
      have li : i < rs.length := lt_of_get hod
      refine ⟨q, _, rfl, SqT.of hq1, rfl, _, _, rfl, _, _, rfl, rfl, ?_⟩
      obtain ⟨h1, r1, vs1, e1, _⟩ := id X1.ex
      refine ⟨_, rfl, o, dx, _, rfl, e1, (xf_noA ..).2.2.1, _, rfl, o, dx, ro, eo, p, ak + 1, sz, held, told, _, false, od.1, rfl, X1, fun H2 s2 => ⟨_, rfl, ?_⟩⟩
      have X2 := X1.same s2
      have tk : rs.take (i + 1) = rs.take i ++ [od] := take_snoc hod
      have rg := run_goes sz held told (rs.take i) [od] x g1
      rw [← tk] at rg
      have rw1 : rs = rs.take i ++ (od :: rs.drop (i + 1)) := by
        have e := List.take_append_drop i rs
        rw [List.drop_eq_getElem_cons li] at e
        have : rs[i] = od := (List.getElem?_eq_some_iff.mp hod).2
        rw [this] at e
        exact e.symm
      have rgs := (run_goes sz held told (rs.take i) (od :: rs.drop (i + 1)) x g1).1
      rw [← rw1] at rgs
      have fe := few_run (told := told) hF.s1 hF.h (rs.take i) kk cc x hF.f
      have lt : (rs.take i).length ≤ 12 := by rw [List.length_take]; omega
      have fk : FitK sz held (kk + 12) (cc + 12 * (kk + 12)) (runW sz held told (rs.take i) x).1 := ⟨hF.s1, hF.s2, hF.h, by omega, by omega, fe.mono (by omega) (Nat.add_le_add_left (Nat.mul_le_mul lt (by omega)) _)⟩
      obtain ⟨h2, r2, vs2, e2, _⟩ := id X2.ex
      generalize hy0 : (runW sz held told (rs.take i) x).1 = y at rg rgs fk X1 X2 ⊢
      obtain ⟨t1, s1⟩ := od
      rw [runW_cons] at rgs
      have r1e := rg.1
      have r2e := rg.2.1
      rw [runW_cons] at r1e
      rw [goes_cons] at r2e
      refine ite2 (fun c => ?_) (fun c => ?_)
      · rw [if_pos c] at rgs r1e r2e
        refine ⟨_, rfl, rfl, _, rfl, ?_⟩
        rw [dS]
        by_cases c1 : s1 = "again"
        · rw [decide_eq_true c1]
          refine iteT ?_
          rw [if_pos c1] at rgs
          refine k _ (o0.trans (o1.same s2)) ?_
          unfold ansM
          rw [rgs]
          exact X2
        rw [decide_eq_false c1]
        rw [if_neg c1] at rgs r1e r2e
        refine iteF ⟨_, rfl, rfl, _, rfl, ?_⟩
        rw [dS]
        by_cases c2 : s1 = "stop"
        · rw [decide_eq_true c2]
          refine iteT ?_
          rw [if_pos c2] at rgs
          refine ⟨_, rfl, o, dx, _, rfl, e2, (xf_noA ..).2.1, o, dx, ro, eo, p, ak + 1, sz, held, told, y, false, es, _, _, rfl, X2, hE1.ts ((o1.same s2).ts X0), l2, fk, by omega, by omega, fun H3 o3 X3 => ?_⟩
          refine k _ ((o0.trans (o1.same s2)).trans o3) ?_
          unfold ansM
          rw [rgs]
          exact X3
        rw [decide_eq_false c2]
        rw [if_neg c2] at rgs r1e r2e
        refine iteF ?_
        refine ⟨_, rfl, o, dx, _, rfl, e2, (xf_noA ..).2.2.2.1, _, rfl, o, dx, ro, eo, p, ak + 1, sz, held, told, y, false, s1, rfl, X2, fk.fit, fun H3 o3 X3 => ?_⟩
        exact ⟨_, _, rfl, (o1.same s2).trans o3, by rw [r1e]; exact X3, r2e⟩
      · rw [if_neg c] at rgs r1e r2e
        exact ⟨_, _, rfl, o1.same s2, by rw [r1e]; exact X2, r2e⟩
    · rintro σ H' ⟨v1, v2, rfl, o1, X1, g1⟩
      rw [lx, List.take_length] at X1 g1
      refine k _ (o0.trans o1) ?_
      unfold ansM
      rw [(run_goes sz held told rs [] x g1).2.2]
      exact X1
end
end My

/-! enumerate of a tuple, as a walk of the hand layer -/
namespace ETup
open PySem PySem.Spec PyProof.Rows L2
open Sem (wp)
/-- what enumerate(v) makes: the inner iterator, then itself -/
abbrev eo (n : Addr) : Obj := { cls := .type "enumerate", data := .fields #[.none, .bool false, .ref n, rawInt 0, .none, .none] }
theorem new1 {v : Value} {ob : Obj} {HP : Heap → Prop} (B : Begins v ob HP) :
    Meets (Builtin.«enumerate.__new__» ⟨[.type "enumerate", v], []⟩) (fun _ R st => HP st.heap ∧
      R (.ok (.ret (.ref (st.heap.push ob).objs.size))) { st with heap := (st.heap.push ob).push (eo st.heap.objs.size) }) :=
  .of_wp fun pr wo Ar R st hh => by
    obtain ⟨hp, g, dd, tk, os⟩ := st; obtain ⟨a1, a2⟩ := hh
    have subE := sub_enumerate
    have run : ∀ {A2 : Around} {E2 : Value → Shared → Prop} {Q2 : Value → Shared → Prop}, Q2 (.ref hp.objs.size) ⟨hp.push ob, g, dd, tk, os⟩ →
        wpAny (model pr wo) A2 (pyIter v) Q2 E2 ⟨hp, g, dd, tk, os⟩ := fun z => B.iter pr wo _ _ ⟨hp, g, dd, tk, os⟩ _ a1 z
    wp_walk using run
    refine wpAny_stack_any fun stk => wpAny_pure ?_
    split
    next c _ _ _ _ _ =>
      cases (c == Value.type "enumerate") <;> (wp_walk using run; exact ⟨_, rfl, a2⟩)
    next => wp_walk using run; exact ⟨_, rfl, a2⟩
section
variable {prog : Program} {w : World} {A : Around} {E : Value → Shared → Prop} {s : Shared}
theorem made {v : Value} {ob : Obj} {HP : Heap → Prop} {Q : Value → Shared → Prop} (B : Begins v ob HP) (h1 : HP s.heap)
    (k : ∀ hn, IsEnum hn (s.heap.objs.size + 1) s.heap.objs.size 0 .none → hn.get? s.heap.objs.size = some ob → (∀ b u, s.heap.get? b = some u → hn.get? b = some u) → Q (.ref (s.heap.objs.size + 1)) { s with heap := hn }) :
    wpAny (model prog w) A (call (.type "enumerate") [v]) Q E s := by
  refine callType_new F.called_enumerate (by decide) (F.typeCall_enumerate_1 _) (F.newCall_enumerate_1 _) (fun ob2 => F.args_object_init_2 ob2 _) F.entry_enumerate_new (new1 B) ⟨h1, ?_⟩
  have sz : (s.heap.push ob).objs.size = s.heap.objs.size + 1 := Heap.size_push ..
  show _ ∧ _
  rw [sz]
  have isE : IsEnum ((s.heap.push ob).push (eo s.heap.objs.size)) (s.heap.objs.size + 1) s.heap.objs.size 0 .none := by
    have g1 := Heap.get?_push_size (s.heap.push ob) (o := eo s.heap.objs.size) rfl
    rw [sz] at g1
    exact g1
  exact ⟨⟨_, isE, rfl⟩, k _ isE (Heap.get?_push_of_some _ (Heap.get?_push_size _ B.free)) fun b u x => Heap.get?_push_of_some _ (Heap.get?_push_of_some _ x)⟩
end
/-- the tuple at a, each item in a new pair with its place -/
def Itu (K : PySem.W.Frag) (a : Addr) : It :=
  ⟨fun i H => ∃ (xs : List V) (x : V), SqT K H a xs ∧ xs[i]? = some x,
   fun i H v H' => ∃ T x, v = .ref T ∧ H T = none ∧ H' = upd H T (.tup [.int (i : Nat), x]) ∧ ∀ xs, SqT K H a xs → xs[i]? = some x,
   fun i H => ∃ xs : List V, SqT K H a xs ∧ xs.length ≤ i⟩
theorem turn {P : Program} {w : World} {K : PySem.W.Frag} {elts : List Expr} {kk : Nat} {tpos : Pos} (a e it : Addr) :
    Turn P w K (.Tuple elts kk tpos) (Itu K a) [e, it] e (fun i h => (∃ old, IsEnum h e it ((i : Nat) : Int) old) ∧ h.IsTupleIter it a i ∧ e ≠ it ∧ a ≠ it ∧ e ≠ a) where
  mem := by simp
  obj := fun i h st b hb => by
    obtain ⟨⟨old, isE⟩, ⟨ob, ho, hc, hd⟩, _⟩ := st
    have two : b = e ∨ b = it := by simpa using hb
    rcases two with rfl | rfl
    · exact ⟨_, isE, fun v q => nomatch q⟩
    · exact ⟨ob, ho, fun v q => by rw [hd] at q; cases q⟩
  keep := fun i h h2 st k => let ⟨⟨old, isE⟩, isT, r⟩ := st; ⟨⟨old, k e (by simp) _ isE⟩, isT.at fun ob q => k it (by simp) ob q, r⟩
  item := by
    intro X hP hw hK hcalm i pins s σ H E I fpo st hg
    subst hP hw hK
    obtain ⟨⟨old, isE⟩, isT, nei, nai, nea⟩ := st
    obtain ⟨xs, x, hq, hx⟩ := hg
    obtain ⟨its, rv, tp, hz⟩ := I.tuple hq
    obtain ⟨u, hu, ru⟩ := rv.get hx
    have ltE : e < s.heap.objs.size := Heap.lt_size isE
    have ltI : it < s.heap.objs.size := by obtain ⟨_, q, _⟩ := isT; exact Heap.lt_size q
    have hsz : i < its.toArray.size := by
      have z := (List.getElem?_eq_some_iff.mp hu).1
      simpa using z
    have D := Draws.tuple (prog := X.prog) (w := X.w) (A := X.A.in1) (show X.A.in1.handled = none from I.ok.hd hcalm) it a nai its.toArray
    refine wpAny_pyNext_enum_itemD D isE ⟨isT, tp⟩ hsz nei (by simp [nei, nea]) fun y h2 tk hy ho st2 hT hsz2 hk => ?_
    have ey : y = u := by
      have z : its[i]? = some y := by simpa using hy
      rw [hu] at z
      exact (Option.some.inj z).symm
    subst ey
    refine ⟨_, rfl, wpAny_letOwnedTupleGo_enum (s := { s with heap := h2, toks := tk + 1 }) ho fun h3 isE3 sb => ?_⟩
    have hT3 : h3.get? s.heap.objs.size = some { cls := .type "tuple", data := .seq #[.int i tk, y] } := (sb.2 _ (Nat.ne_of_gt ltE)).trans hT
    have ok : ObjOk X.prog X.w (upd H s.heap.objs.size (.tup [.int (i : Nat), x])) h3 s.heap.objs.size (.tup [.int (i : Nat), x]) :=
      ⟨by show 2 ≤ sizeLine; decide, [.int i tk, y], .cons ⟨_, rfl⟩ (.cons ru .nil), ⟨_, hT3, rfl, _, rfl⟩⟩
    have J : Inv X pins σ (upd H s.heap.objs.size (.tup [.int (i : Nat), x])) { s with heap := h3, toks := tk + 1 } :=
      I.turnedNew (ch := [e, it]) (fun b ob hb q => (sb.2 b (fun z => hb (by simp [z]))).trans (hk b ob (fun z => hb (by simp [z])) (fun z => hb (by simp [z])) q)) fpo (Nat.le_refl _) ok
    refine ⟨.ref s.heap.objs.size, _, J, rfl, ⟨_, x, rfl, I.hok.fresh (Nat.le_refl _), rfl, fun ys hy => by rw [I.tuple_inj hy hq]; exact hx⟩, ⟨⟨y, ?_⟩, st2.1.at fun ob q => (sb.2 it (Ne.symm nei)).trans q, nei, nai, nea⟩, fun b hb => ?_⟩
    · have e1 : ((i + 1 : Nat) : Int) = (i : Int) + 1 := by omega
      rw [e1]
      exact isE3
    · have lt2 : b < s.heap.objs.size := by
        have two : b = e ∨ b = it := by simpa using hb
        rcases two with rfl | rfl
        · exact ltE
        · exact ltI
      rw [upd_ne (Nat.ne_of_lt lt2)]
      exact (fpo b hb).1
  done := by
    intro X hP hw hK hcalm i pins s σ H E I fpo st hg
    subst hP hw hK
    obtain ⟨⟨old, isE⟩, isT, nei, nai, nea⟩ := st
    obtain ⟨xs, hq, hx⟩ := hg
    obtain ⟨its, rv, tp, hz⟩ := I.tuple hq
    obtain ⟨f0, f1, f2, f3, f4, f5⟩ := fpo it (by simp)
    have hl := rv.length
    have hT : s.TypeIs (.ref e) "enumerate" := ⟨_, isE, rfl⟩
    unfold pyNext
    refine wpAny_bind (wpAny_attempt (wpAny_callSpecial?_slot (name := Str.ofString "__next__") hT F.slot_enumerate_next
      (wpAny_call_entry F.slot_enumerate_next hT F.entry_enumerate_next ?_ (F.args_enumerate_next_1 _))))
    show wpAny (model X.prog X.w) _ (field (Value.ref e) 2 >>= _) _ _ s
    refine wpAny_bind (wpAny_field isE rfl (x := .ref it) rfl ?_)
    refine wpAny_bind (wpAny_nextOf_tuple_end (show X.A.in1.handled = none from I.ok.hd hcalm) isT tp (by simp; omega) fun h2 x eb hx2 => ?_)
    obtain ⟨ob, ho, hc⟩ := hx2
    refine wpAny_bind (wpAny_isInstance (T := "StopIteration") (b := true) ⟨ob, ho, hc⟩ isSubtype_stop ?_)
    exact wpAny_pure ⟨rfl, I.turned (t' := s.toks) (fun b ob hb q => eb b ob hb q) f0 f1 f3 f4 f5⟩
  self := fun A i s Q E st h => let ⟨⟨_, isE⟩, _⟩ := st; wpAny_pyIter_enum isE h
def iEnumT (K : PySem.W.Frag) (ta : TA) : TI := fun σ H R => ta σ H fun vs H1 => ∃ a xs, vs = [.ref a] ∧ SqT K H1 a xs ∧ R (Itu K a) H1
/-- for i, x in enumerate(t), t a tuple -/
theorem pi_enumT {X : Cx} {e : Expr} {ta : TA} {p pos tpos : Pos} {elts : List Expr} {kk : Nat} (hg : Gl X "enumerate") (hm : X.mg "enumerate" = none) (ha : PA X [e] ta) (hs : starEach [e] X.env = [(false, eval e X.env)] := by rfl) :
    PI X (.Tuple elts kk tpos) (.Call (.Name "enumerate" p) [e] [] pos) (iEnumT X.K ta) := by
  refine ⟨fun pins s σ H R I h => ?_⟩
  refine Call_ (ld_blt I hg hm boot_enumerate (PyProof.Rows.callWith_type1 (thn (ha.run pos pins s σ H _ I h) fun us s1 ⟨vs, H1, I1, r1, q1⟩ => ?_) hs rfl))
  obtain ⟨a, xs, ex, hq, q⟩ := q1
  subst ex
  cases r1 with
  | cons r rr =>
    cases rr
    cases r
    obtain ⟨its, rv, tp, hz⟩ := I1.tuple hq
    have lta : a < s1.heap.objs.size := by obtain ⟨_, z, _⟩ := tp; exact Heap.lt_size z
    refine made (begins_tuple a its.toArray) tp fun hn isE isT hk => wpAny_pyIter_enum isE ?_
    have I2 : Inv X pins σ H1 { s1 with heap := hn } := I1.kept (t' := s1.toks) hk
    refine ⟨s1.heap.objs.size + 1, [s1.heap.objs.size + 1, s1.heap.objs.size], _, _, H1, rfl, I2, turn a (s1.heap.objs.size + 1) s1.heap.objs.size,
      ⟨⟨.none, isE⟩, ⟨_, isT, rfl, rfl⟩, Nat.succ_ne_self _, Nat.ne_of_lt lta, Nat.ne_of_gt (Nat.lt_succ_of_lt lta)⟩, fun b hb => ?_, q⟩
    have two : b = s1.heap.objs.size + 1 ∨ b = s1.heap.objs.size := by simpa using hb
    have hle : s1.heap.objs.size ≤ b := by rcases two with rfl | rfl <;> omega
    exact I1.fpOk hle (I1.hok.fresh hle)
/-- the loop's word -/
theorem for_enumT {K : PySem.W.Frag} {a : Addr} {xs : List V} {g : TG} {tb : TS} {D : Ends} {σ : L2.St} {H : Hp} (Pv : Nat → L2.St → Hp → Prop) (h0 : Pv 0 σ H) (hl : ∀ i σ H, i ≤ xs.length → Pv i σ H → SqT K H a xs)
    (hs : ∀ i x σ H T, xs[i]? = some x → Pv i σ H → H T = none → g (.ref T) σ (upd H T (.tup [.int (i : Nat), x])) fun σ2 H2 => tb { D with nx := Pv (i + 1), ct := Pv (i + 1), bk := D.nx } σ2 H2) (hd : ∀ σ H, Pv xs.length σ H → D.nx σ H) :
    ∃ W : Nat → Nat → L2.St → Hp → Prop, (∃ m, W 0 m σ H) ∧ ∀ i m σ H, W i m σ H →
      ((Itu K a).stop i H ∧ D.nx σ H) ∨ ((Itu K a).go i H ∧ ∃ N : L2.St → Hp → Prop, (∀ σ' H', N σ' H' → ∃ m', m' < m ∧ W (i + 1) m' σ' H') ∧ ∀ x H', (Itu K a).yld i H x H' → g x σ H' fun σ2 H2 => tb { D with nx := N, ct := N, bk := D.nx } σ2 H2) := by
  refine ⟨fun i m σ H => m = xs.length - i ∧ i ≤ xs.length ∧ Pv i σ H, ⟨xs.length, by simp, Nat.zero_le _, h0⟩, ?_⟩
  rintro i m σ H ⟨rfl, hi, p⟩
  have q := hl i σ H hi p
  rcases Nat.lt_or_ge i xs.length with lt | ge
  · refine .inr ⟨⟨xs, xs[i], q, by simp [lt]⟩, Pv (i + 1), fun σ2 H2 p2 => ⟨xs.length - (i + 1), by omega, rfl, lt, p2⟩, fun x H2 y => ?_⟩
    obtain ⟨T, z, rfl, nT, rfl, hz⟩ := y
    exact hs i z σ H T (hz xs q) p nT
  · obtain rfl : i = xs.length := by omega
    exact .inl ⟨⟨xs, q, Nat.le_refl _⟩, hd σ H p⟩
end ETup

/-! the checks of sizes and replies -/
namespace My
open PySem L2 Cm LM
abbrev sIIB : Stmt := top 21
abbrev sCKS : Stmt := top 22
abbrev sES : Stmt := inClass (top 5) 0
structure TxEr (K : PySem.W.Frag) (mg : Str → Option Value) (name fld : Str) (st : Stmt) (qual : Str) where
  C : Addr
  f : Addr
  fd : FuncData
  g : mg name = some (.ref C)
  o : OexC K C
  i : PySem.W.findIn K (.ref C) "__init__" = some (some (.ref f))
  t : PySem.W.typeIn K (.ref f) = some (.type "function")
  n : PySem.W.findIn K (.ref C) fld = some none
  F : Fun K "__init__" qual st f fd
  b : Binds K fd ["self", fld] []
structure TxK (K : PySem.W.Frag) (mg : Str → Option Value) where
  isi : mg "isinstance" = none
  int : mg "int" = none
  bool : mg "bool" = none
  tuple : mg "tuple" = none
  len : mg "len" = none
  mr : ∃ t, mg "MOST_REPLIES" = some (.int 100 t)
  mi : ∃ t, mg "MOST_ITEMS" = some (.int 1000 t)
  iib : Df K mg "is_integer_between" sIIB ["value", "low", "high"]
  cks : Df K mg "check_size" sCKS ["size"]
  eS : TxEr K mg "InvalidSize" "value" sES "InvalidSize.__init__"
section
variable {P : Program} {w : World} {K : PySem.W.Frag} {mg : Str → Option Value} {base : Heap}
def spER (fld : Str) (CE : Addr) : Sp := fun vs H Q _ => ∃ (a : Addr) (v : V), vs = [.ref a, v] ∧ H a = some (exo a CE none) ∧ ∀ dx, H dx = none → dx ≠ a → Q .non (upd (upd H dx (exd dx [(fld, v)])) a (exo a CE (some dx)))
theorem scES : FnScope ["self", "value"] ["self", "value"] (defScope sES) := ⟨rfl, rfl, rfl, by decide +kernel, rfl, by decide +kernel, by decide +kernel⟩
theorem ok_eS (T : TxEr K mg "InvalidSize" "value" sES "InvalidSize.__init__") : FnOk P w K mg base CX0 1 T.f T.fd ["self", "value"] (spER "value" T.C) := by
  refine T.F.ok scES (fun vs H Q E h => ?_) (fun cdv A outer s H vs Q E hr h => ?_)
  · obtain ⟨a, v, rfl, _⟩ := h
    rfl
  · obtain ⟨a, v, rfl, ha, k⟩ := h
    exact ⟨_, pss_one (ps_ost (pv 0) (pv 1)), _, rfl, _, rfl, a, T.C, rfl, T.o, T.n, .inl ⟨ha, fun dx n ne => k dx n ne⟩⟩
theorem mk_er {fld : Str} {CE : Addr} {ta : TA} {σ : St} {H : Hp} {Q : XK} {x : V} (h : ta σ H fun vs H1 => vs = [x] ∧ H1 = H) (mono : ∀ {R R' : List V → Hp → Prop}, ta σ H R → (∀ v H1, R v H1 → R' v H1) → ta σ H R')
    (q : ∀ d, H d = none → Q (.ref CE) (some d) (upd H d (.xd [(fld, x)]))) : tMkO CE (spER fld CE) [] ta σ H Q := by
  refine mono h fun vs H1 hh => ?_
  obtain ⟨rfl, rfl⟩ := hh
  refine ⟨by show 1 ≤ 1000; decide, fun a na => ⟨a, x, rfl, upd_same, fun dx ndx nda => ⟨rfl, dx, [(fld, x)], upd_same, ?_, ?_, ?_⟩⟩⟩
  · rw [upd_ne nda, upd_same]
  · rw [upd_ne nda] at ndx
    exact ndx
  · have e : upd (del (upd (upd (upd H1 a (exo a CE none)) dx (exd dx [(fld, x)])) a (exo a CE (some dx))) a) dx (.xd [(fld, x)]) = upd H1 dx (.xd [(fld, x)]) := by
      funext b
      by_cases h1 : b = dx
      · rw [h1, upd_same, upd_same]
      · rw [upd_ne h1, upd_ne h1]
        by_cases h2 : b = a
        · rw [h2, del_same, na]
        · rw [del_ne h2, upd_ne h2, upd_ne h1, upd_ne h2]
    rw [e]
    rw [upd_ne nda] at ndx
    exact q dx ndx
/-! ### is_integer_between -/
def isI : V → Bool
  | .int _ => true
  | _ => false
def isB : V → Bool
  | .bl _ => true
  | _ => false
/-- an integer within these bounds -/
def btw (lo hi : Int) : V → Bool
  | .int i => decide (lo ≤ i ∧ i ≤ hi)
  | _ => false
def TypedI (K : PySem.W.Frag) (H : Hp) (x : V) : Prop := ∃ t, TyX K H x t ∧ PySem.W.kitOne K t (.type "int") = some (isI x || isB x) ∧ PySem.W.kitOne K t (.type "bool") = some (isB x)
theorem TypedI.same {H H' : Hp} {x : V} (s : Same H H') (h : TypedI K H x) : TypedI K H' x := let ⟨t, a, b⟩ := h; ⟨t, TyX_same s a, b⟩
theorem typed_int {H : Hp} (i : Int) : TypedI K H (.int i) := ⟨_, .base (.int i), kit_ty (show kitB "int" "int" = some true by decide +kernel), kit_ty (show kitB "int" "bool" = some false by decide +kernel)⟩
theorem typed_bl {H : Hp} (i : Bool) : TypedI K H (.bl i) := ⟨_, .base (.bl i), kit_ty (show kitB "bool" "int" = some true by decide +kernel), kit_ty (show kitB "bool" "bool" = some true by decide +kernel)⟩
def spIIB (K : PySem.W.Frag) : Sp := fun vs H Q _ => ∃ (v : V) (lo hi : Int), vs = [v, .int lo, .int hi] ∧ TypedI K H v ∧ Q (.bl (btw lo hi v)) H
theorem scIIB : FnScope ["value", "low", "high"] ["value", "low", "high"] (defScope sIIB) := ⟨rfl, rfl, rfl, by decide +kernel, rfl, by decide +kernel, by decide +kernel⟩
theorem ok_iib (M : TxK K mg) : FnOk P w K mg base CX0 1 M.iib.f M.iib.fd ["value", "low", "high"] (spIIB K) := by
  refine M.iib.F.ok scIIB (fun vs H Q E h => ?_) (fun cdv A outer s H vs Q E hr h => ?_)
  · obtain ⟨v, lo, hi, rfl, _⟩ := h
    rfl
  · obtain ⟨v, lo, hi, rfl, ⟨t, ty, k1, k2⟩, k⟩ := h
    refine ⟨_, pss_one (ps_ret (pe_and (pe_callB call_isi (by rfl) M.isi (by decide +kernel) (pa_cons (pv 0) (pa_cons (pe_bltn (v := .ty "int") (by rfl) M.int (by decide +kernel) rfl) pa_nil)))
      (pe_and (pe_not (pe_callB call_isi (by rfl) M.isi (by decide +kernel) (pa_cons (pv 0) (pa_cons (pe_bltn (v := .ty "bool") (by rfl) M.bool (by decide +kernel) rfl) pa_nil))))
        (pe_one (pe_chain op_le op_le (pv 1) (pv 0) (pv 2)))))), ?_⟩
    refine ⟨_, rfl, _, _, _, _, _, rfl, .ty "int", ty, k1, _, rfl, ?_⟩
    cases hv : (isI v || isB v) with
    | false =>
      refine iteF ?_
      have e : btw lo hi v = false := by
        cases v <;> first | rfl | cases hv
      rw [e] at k
      exact k
    | true =>
      refine iteT ?_
      refine ⟨_, rfl, _, _, _, _, _, rfl, .ty "bool", ty, k2, _, rfl, _, rfl, ?_⟩
      cases hb : isB v with
      | true =>
        have e : btw lo hi v = false := by
          cases v <;> first | rfl | cases hb
        rw [e] at k
        exact iteF k
      | false =>
        refine iteT ?_
        rw [hb, Bool.or_false] at hv
        obtain ⟨i, rfl⟩ : ∃ i, v = .int i := by
          cases v <;> first | exact ⟨_, rfl⟩ | cases hv
        refine ⟨_, rfl, _, rfl, _, _, rfl, rfl, _, rfl, ?_⟩
        have k : Q (.bl (decide (lo ≤ i ∧ i ≤ hi))) H := k
        refine ite2 (fun c => ?_) (fun c => ?_)
        · refine ⟨_, rfl, _, _, rfl, rfl, ?_⟩
          have c1 : lo ≤ i := of_decide_eq_true c
          have e : decide (lo ≤ i ∧ i ≤ hi) = decide (i ≤ hi) := decide_eq_decide.mpr ⟨fun z => z.2, fun z => ⟨c1, z⟩⟩
          rw [e] at k
          exact k
        · have c1 : ¬ lo ≤ i := fun z => c (decide_eq_true z)
          rw [show decide (lo ≤ i ∧ i ≤ hi) = false from decide_eq_false fun z => c1 z.1] at k
          exact k
/-! ### check_size -/
def spCKS (K : PySem.W.Frag) (CE : Addr) : Sp := fun vs H Q E => ∃ v : V, vs = [v] ∧ TypedI K H v ∧ (btw 1 1000 v = true → Q .non H) ∧ (btw 1 1000 v = false → ∀ d, H d = none → E (.ref CE) (some d) (upd H d (.xd [("value", v)])))
theorem scCKS : FnScope ["size"] ["size"] (defScope sCKS) := ⟨rfl, rfl, rfl, by decide +kernel, rfl, by decide +kernel, by decide +kernel⟩
theorem ok_cks (M : TxK K mg) : FnOk P w K mg base (L2.CX P w) 3 M.cks.f M.cks.fd ["size"] (spCKS K M.eS.C) := by
  have GI : FnOk P w K mg base CX0 1 M.iib.f M.iib.fd ["value", "low", "high"] (spIIB K) := ok_iib M
  have GE : FnOk P w K mg base CX0 1 M.eS.f M.eS.fd ["self", "value"] (spER "value" M.eS.C) := ok_eS M.eS
  obtain ⟨tm, mi⟩ := M.mi
  refine M.cks.F.okX scCKS (fun vs H Q E h => ?_) (fun cdv A outer s H vs Q E hr h => ?_)
  · obtain ⟨v, rfl, _⟩ := h
    rfl
  · obtain ⟨v, rfl, ty, k1, k2⟩ := h
    have hr1 : Room 1 _ := hr.mono (by decide)
    refine ⟨_, pss_one (ps_if (pt_not (pt_val (pe_call GI hr1 rfl M.iib.g M.iib.k M.iib.b .nil pass0 (pa_cons (pv 0) (pa_cons pe_int (pa_cons (pe_glob (v := .int 1000) rfl mi ⟨_, rfl⟩) pa_nil))))))
      (pss_one (ps_raise rfl (takes_of rfl rfl rfl rfl) (pmk_oex M.eS.o M.eS.i M.eS.t GE hr M.eS.b .nil pass0 rfl M.eS.g (pa_cons (pv 0) pa_nil)))) pss_nil), ?_⟩
    refine ⟨_, rfl, v, 1, 1000, rfl, ty, _, rfl, ?_⟩
    cases hb : btw 1 1000 v with
    | true => exact iteF (k1 hb)
    | false => exact iteT (mk_er (x := v) ⟨v, rfl, rfl, rfl⟩ (fun {R R'} ⟨v, e1, q⟩ f => ⟨v, e1, f _ _ q⟩) (k2 hb))
end
end My

/-! right loops: their words, and loops without a word -/
namespace LM
open PySem L2 TL
theorem part_back {x y : Str} (h : ((Txt.partition x y).2.1.length != 0) = true) : x = (Txt.partition x y).1 ++ y ++ (Txt.partition x y).2.2 := by
  rcases PyProof.Rows.partition_whole x y with ⟨e, _⟩ | ⟨i, e, hi, _⟩
  · rw [e] at h
    exact absurd (show ((Str.empty).length != 0) = true from h) (by decide)
  · rw [e]
    refine ext_tl ?_
    rw [tl_append, tl_append, tl_strSub, tl_strSub_end, List.drop_zero, Nat.sub_zero]
    by_cases hy : tl y = []
    · have : y.length = 0 := by rw [len_tl, hy]; rfl
      rw [hy, this, List.append_nil, Nat.add_zero, List.take_append_drop]
    · have hp := (at_iff hy i).mp hi
      have e2 : ((tl x).drop i).take (tl y).length = tl y := eq_of_beq hp
      have e3 : tl y ++ (tl x).drop (i + y.length) = (tl x).drop i := by
        rw [len_tl y, ← drop_two]
        have := List.take_append_drop (tl y).length ((tl x).drop i)
        rw [e2] at this
        exact this
      rw [List.append_assoc, e3, List.take_append_drop]
theorem word_wd {w : Str} {ss : List Str} (h : isWord w ss = true) : Wd ss w := by
  unfold isWord at h
  cases hc : ((Txt.partition w ":").2.1.length != 0) with
  | true =>
    rw [if_pos hc] at h
    have h2 := Bool.and_eq_true_iff.mp h
    exact ⟨_, of_decide_eq_true h2.2, .inr ⟨_, of_decide_eq_true h2.1, part_back hc⟩⟩
  | false =>
    rw [if_neg (by rw [hc]; exact Bool.false_ne_true)] at h
    exact ⟨w, of_decide_eq_true h, .inl rfl⟩
/-- free and short -/
def FS (w : Str) : Prop := Fre w ∧ w.length ≤ 11
theorem wd_fs {w : Str} (h : Wd rsteps w) : FS w := by
  have := wd_ok w h.mem
  unfold wdOk at this
  simp only [Bool.and_eq_true, decide_eq_true_eq] at this
  exact ⟨⟨this.2.1, this.2.2.1⟩, this.2.2.2⟩
theorem e_r : ∀ s ∈ esteps, s ∈ rsteps := by decide +kernel
theorem ask_fs : FS "ask" := ⟨⟨by decide +kernel, by decide +kernel⟩, by decide +kernel⟩
theorem areWords_iff {ws ss : List Str} : areWords ws ss = true ↔ ∀ w ∈ ws, isWord w ss = true := List.all_eq_true
theorem isRound_iff {B : List Str} : isRound B = true ↔ ∃ r, B = ("ask" : Str) :: r ∧ B.length ≤ 12 ∧ (B.filter isAdd).length ≤ 1 ∧ ∀ w ∈ r, isWord w rsteps = true := by
  unfold isRound
  simp only [Bool.and_eq_true, decide_eq_true_eq, areWords_iff]
  constructor
  · rintro ⟨h1, h2, h3, h4⟩
    cases B with
    | nil => cases h1
    | cons x r =>
      have : x = "ask" := Option.some.inj h1
      subst this
      exact ⟨r, rfl, h2, h3, h4⟩
  · rintro ⟨r, rfl, h2, h3, h4⟩
    exact ⟨rfl, h2, h3, h4⟩
theorem isEnding_iff {E : List Str} : isEnding E = true ↔ E.length ≤ 6 ∧ ∀ w ∈ E, isWord w esteps = true := by
  unfold isEnding
  simp only [Bool.and_eq_true, decide_eq_true_eq, areWords_iff]
theorem round_fs {B : List Str} (h : isRound B = true) : ∀ w ∈ B, FS w := by
  obtain ⟨r, rfl, _, _, h4⟩ := isRound_iff.mp h
  intro w hw
  rcases List.mem_cons.mp hw with rfl | hw
  · exact ask_fs
  · exact wd_fs (word_wd (h4 w hw))
theorem ending_fs {E : List Str} (h : isEnding E = true) : ∀ w ∈ E, FS w := fun w hw => wd_fs ((word_wd ((isEnding_iff.mp h).2 w hw)).mono e_r)
theorem round_ne {B : List Str} (h : isRound B = true) : B ≠ [] := by
  obtain ⟨r, rfl, _⟩ := isRound_iff.mp h
  simp
theorem round_sht {B : List Str} (h : isRound B = true) : Sht 12 B := ⟨fun w hw => (round_fs h w hw).2, let ⟨_, _, h2, _⟩ := isRound_iff.mp h; h2⟩
theorem ending_sht {E : List Str} (h : isEnding E = true) : Sht 6 E := ⟨fun w hw => (ending_fs h w hw).2, (isEnding_iff.mp h).1⟩
theorem Sht.mono {n m : Nat} {B : List Str} (h : Sht n B) (l : n ≤ m) : Sht m B := ⟨h.1, Nat.le_trans h.2 l⟩
theorem text_words {B E : List Str} (hB : isRound B = true) (hE : isEnding E = true) : wordsR (textOf B E) = B ∧ wordsE (textOf B E) = E := words_text (round_ne hB) (fun w hw => (round_fs hB w hw).1) (fun w hw => (ending_fs hE w hw).1)
theorem text_good {B E : List Str} (hB : isRound B = true) (hE : isEnding E = true) : goodText (textOf B E) = true := by
  have := text_words hB hE
  unfold goodText
  rw [this.1, this.2, hB, hE]
  rfl
theorem text_len {B E : List Str} (hB : isRound B = true) (hE : isEnding E = true) : (textOf B E).length ≤ 300 := by
  have h1 := (round_sht hB).join
  have h2 := (ending_sht hE).join
  unfold textOf
  split
  · omega
  · rw [strLen_append, strLen_append]
    have : (" | " : Str).length = 3 := by decide +kernel
    omega
/-- without the word at i -/
theorem round_erase {B : List Str} {i : Nat} (hB : isRound B = true) (hi : 1 ≤ i) : isRound (B.eraseIdx i) = true := by
  obtain ⟨r, rfl, h2, h3, h4⟩ := isRound_iff.mp hB
  obtain ⟨k, rfl⟩ : ∃ k, i = k + 1 := ⟨i - 1, by omega⟩
  have sub : (("ask" : Str) :: r.eraseIdx k).Sublist (("ask" : Str) :: r) := (List.eraseIdx_sublist r k).cons_cons _
  refine isRound_iff.mpr ⟨r.eraseIdx k, rfl, Nat.le_trans sub.length_le h2, Nat.le_trans (sub.filter isAdd).length_le h3, fun w hw => h4 w ((List.eraseIdx_sublist r k).subset hw)⟩
theorem ending_erase {E : List Str} {i : Nat} (hE : isEnding E = true) : isEnding (E.eraseIdx i) = true := by
  have h := isEnding_iff.mp hE
  exact isEnding_iff.mpr ⟨Nat.le_trans (List.eraseIdx_sublist E i).length_le h.1, fun w hw => h.2 w ((List.eraseIdx_sublist E i).subset hw)⟩
theorem good_iff {t : Str} : goodText t = true ↔ isRound (wordsR t) = true ∧ isEnding (wordsE t) = true := Bool.and_eq_true_iff
end LM

/-! Loop.execution, Loop.run -/
namespace My
open PySem L2 Cm LM EM
abbrev sLX : Stmt := inClass (top 37) 8
/-! ### the mirror -/
def itemsF (f c : Nat) : List Int := (List.range c).map fun i => (f : Int) + (i : Nat)
theorem itemsF_len (f c : Nat) : (itemsF f c).length = c := by rw [itemsF, List.length_map, List.length_range]
theorem rgV_items (f c : Nat) : rgV (f : Int) ((f : Int) + (c : Int)) = ivs (itemsF f c) := by
  unfold rgV itemsF ivs
  rw [show ((f : Int) + (c : Int) - (f : Int)).toNat = c by omega, List.map_map]
  rfl
/-- what a run has done: the row, the first item that comes next, the replies used, whether it has stopped -/
structure RS where
  x : RP
  f : Nat
  u : Nat
  st : Bool
def stepM (sz : Nat) (ro eo : List (Str × Str)) (s : RS) (r : Nat × Bool) : RS := if s.st = true then s else ⟨(ansM sz ro eo (itemsF s.f r.1) r.2 s.x).1, s.f + r.1, s.u + 1, (ansM sz ro eo (itemsF s.f r.1) r.2 s.x).2⟩
def runM (sz : Nat) (ro eo : List (Str × Str)) (rs : List (Nat × Bool)) : RS := rs.foldl (stepM sz ro eo) ⟨⟨[], []⟩, 0, 0, false⟩
theorem runM_stop {sz : Nat} {ro eo : List (Str × Str)} : ∀ {rs : List (Nat × Bool)} {s : RS}, s.st = true → rs.foldl (stepM sz ro eo) s = s
  | [], _, _ => rfl
  | r :: rs, s, h => by
    rw [List.foldl_cons, show stepM sz ro eo s r = s by unfold stepM; rw [if_pos h]]
    exact runM_stop h
theorem fold_bound {sz : Nat} {ro eo : List (Str × Str)} (hs : 1 ≤ sz) (l1 : ro.length ≤ 12) (l2 : eo.length ≤ 6) : ∀ (rs : List (Nat × Bool)) (k : Nat) (s : RS), k + rs.length ≤ 100 → (∀ r ∈ rs, r.1 ≤ sz) → Few sz (18 * k) (k * 32724) s.x → s.f ≤ k * sz → s.u ≤ k →
    Few sz (18 * (k + rs.length)) ((k + rs.length) * 32724) (rs.foldl (stepM sz ro eo) s).x ∧ (rs.foldl (stepM sz ro eo) s).f ≤ (k + rs.length) * sz ∧ (rs.foldl (stepM sz ro eo) s).u ≤ k + rs.length
  | [], k, s, _, _, f1, f2, f3 => ⟨f1, f2, f3⟩
  | r :: rs, k, s, hn, hr, f1, f2, f3 => by
    rw [List.length_cons] at hn
    have em : (k + 1) * sz = k * sz + sz := Nat.succ_mul _ _
    have hr1 : r.1 ≤ sz := hr r (List.mem_cons_self ..)
    have st : Few sz (18 * (k + 1)) ((k + 1) * 32724) (stepM sz ro eo s r).x ∧ (stepM sz ro eo s r).f ≤ (k + 1) * sz ∧ (stepM sz ro eo s r).u ≤ k + 1 := by
      unfold stepM
      split
      · exact ⟨f1.mono (by omega) (by omega), by omega, by omega⟩
      · refine ⟨?_, by show s.f + r.1 ≤ _; omega, by show s.u + 1 ≤ _; omega⟩
        have := few_ans (ro := ro) (eo := eo) (held := itemsF s.f r.1) (told := r.2) hs (by rw [itemsF_len]; exact hr1) l1 l2 f1
        exact this.mono (by omega) (by omega)
    have ih := fold_bound hs l1 l2 rs (k + 1) (stepM sz ro eo s r) (by omega) (fun q hq => hr q (List.mem_cons_of_mem _ hq)) st.1 st.2.1 st.2.2
    rw [List.foldl_cons, List.length_cons, show k + (rs.length + 1) = k + 1 + rs.length by omega]
    exact ih
theorem runM_bound {sz : Nat} {ro eo : List (Str × Str)} (hs : 1 ≤ sz) (l1 : ro.length ≤ 12) (l2 : eo.length ≤ 6) (rs : List (Nat × Bool)) (hn : rs.length ≤ 100) (hr : ∀ r ∈ rs, r.1 ≤ sz) :
    Few sz (18 * rs.length) (rs.length * 32724) (runM sz ro eo rs).x ∧ (runM sz ro eo rs).f ≤ rs.length * sz ∧ (runM sz ro eo rs).u ≤ rs.length := by
  have := fold_bound (ro := ro) (eo := eo) hs l1 l2 rs 0 ⟨⟨[], []⟩, 0, 0, false⟩ (by omega) hr ⟨Nat.zero_le _, Nat.zero_le _⟩ (Nat.zero_le _) (Nat.zero_le _)
  rw [Nat.zero_add] at this
  exact this
/-- rows of replies -/
inductive Rps (H : Hp) : List V → List (Nat × Bool) → Prop
  | nil : Rps H [] []
  | cons {q : Addr} {r : Nat × Bool} {vs : List V} {rs : List (Nat × Bool)} (h : H q = some (.tup [.int r.1, .bl r.2])) (t : Rps H vs rs) : Rps H (.ref q :: vs) (r :: rs)
theorem Rps.mono {H H' : Hp} (f : ∀ (p : Addr) (xs : List V), H p = some (.tup xs) → H' p = some (.tup xs)) : ∀ {vs rs}, Rps H vs rs → Rps H' vs rs
  | _, _, .nil => .nil
  | _, _, .cons h t => .cons (f _ _ h) (t.mono f)
theorem Rps.same {H H' : Hp} (s : Same H H') {vs rs} (h : Rps H vs rs) : Rps H' vs rs := h.mono fun _ _ e => s _ _ e
theorem Rps.len {H : Hp} : ∀ {vs rs}, Rps H vs rs → vs.length = rs.length
  | _, _, .nil => rfl
  | _, _, .cons _ t => congrArg (· + 1) t.len
theorem Rps.get {H : Hp} : ∀ {vs rs} {i : Nat} {y : V}, Rps H vs rs → vs[i]? = some y → ∃ (q : Addr) (r : Nat × Bool), rs[i]? = some r ∧ y = .ref q ∧ H q = some (.tup [.int r.1, .bl r.2])
  | _, _, i, y, .nil, h => by simp at h
  | _, _, 0, y, .cons h _, e => ⟨_, _, rfl, (Option.some.inj e).symm, h⟩
  | _, _, i + 1, y, .cons _ t, e => t.get (i := i) e
structure TxN (K : PySem.W.Frag) (mg : Str → Option Value) where
  T : TxC K mg
  X : TxX K mg
  k : TxK K mg
  lx : Mt K T.C "execution" "Loop.execution" sLX ["self", "size", "kept"]
def ordsR (t : Str) : List (Str × Str) := (wordsR t).map orderOf
def ordsE (t : Str) : List (Str × Str) := (wordsE t).map orderOf
section
variable {P : Program} {w : World} {K : PySem.W.Frag} {mg : Str → Option Value} {base : Heap}
def spLX (CL CX : Addr) : Sp := fun vs H Q _ => ∃ (o r : Addr) (t : Str) (sz : Nat) (rest : List Int), vs = [.ref o, .int sz, .ref r] ∧ LoopAt CL H o t ∧ H r = some (.tup (ivs rest)) ∧
  ∀ (H' : Hp) (x dx ro eo p : Addr), Same H H' → H x = none → H p = none → ExAt CX H' x dx ro eo p 0 sz [] false ⟨rest, []⟩ false → OrdT H' ro (ordsR t) → OrdT H' eo (ordsE t) → Q (.ref x) H'
theorem scLX : FnScope ["self", "size", "kept"] ["self", "size", "kept"] (defScope sLX) := ⟨rfl, rfl, rfl, by decide +kernel, rfl, by decide +kernel, by decide +kernel⟩
theorem ok_lx (N : TxN K mg) : FnOk P w K mg base CX0 3 N.lx.f N.lx.fd ["self", "size", "kept"] (spLX N.T.C N.X.C) := by
  have GI : FnOk P w K mg base CX0 1 N.X.fI N.X.fdI ["self", "round_orders", "ending_orders", "size", "kept"] (spXI N.X.C) := ok_xi N.X
  refine N.lx.F.ok scLX (fun vs H Q E h => ?_) (fun cdv A outer s H vs Q E hr h => ?_)
  · obtain ⟨o, r, t, sz, rest, rfl, _⟩ := h
    rfl
  · obtain ⟨o, r, t, sz, rest, rfl, ⟨dx, pr, pe, po, pq, e, _, _, h1, h2⟩, hr', k⟩ := h
    refine ⟨_, pss_one (ps_ret (pe_make N.X.MI GI hr rfl N.X.gC N.X.bI .nil pass0 (pa_cons (pe_fld (pv 0) rfl) (pa_cons (pe_fld (pv 0) rfl) (pa_cons (pv 1) (pa_cons (pv 2) pa_nil)))))), ?_⟩
    refine ⟨_, rfl, o, N.T.C, dx, _, _, rfl, e, N.T.cl, N.T.nO, lf_ro .., _, rfl, o, N.T.C, dx, _, _, rfl, e, N.T.cl, N.T.nQ, lf_eo .., _, rfl, _, rfl, ?_⟩
    intro x dx' nx ndx nex
    refine ⟨x, dx', po, pq, r, sz, rest, rfl, upd_same, ?_, fun H2 p o2 np X2 => ⟨rfl, ?_⟩⟩
    · rw [upd_ne (ne_of_none hr' nx), upd_ne (ne_of_none hr' ndx)]
      exact hr'
    · have s2 := made_same nx ndx o2
      have np0 : H p = none := by
        by_cases e1 : p = x
        · rw [e1]; exact nx
        · rw [upd_ne e1] at np
          by_cases e2 : p = dx'
          · rw [e2]; exact ndx
          · rw [upd_ne e2] at np
            exact np
      exact k H2 x dx' po pq p s2 nx np0 X2 (h1.mono fun _ _ z => s2 _ _ z) (h2.mono fun _ _ z => s2 _ _ z)
end
theorem Pcs.app {H : Hp} : ∀ {vs xs ws ys}, Pcs H vs xs → Pcs H ws ys → Pcs H (vs ++ ws) (xs ++ ys)
  | _, _, _, _, .nil, h => h
  | _, _, _, _, .cons a t, h => .cons a (t.app h)
theorem Pcs.same {H H' : Hp} (s : Same H H') {vs xs} (h : Pcs H vs xs) : Pcs H' vs xs := h.mono fun _ _ e => s _ _ e
def intD (xs : List Int) : List PyData := xs.map PyData.int
theorem dpI {K : PySem.W.Frag} {H : Hp} : ∀ xs : List Int, DpAll K H (ivs xs) (intD xs)
  | [] => .nil
  | x :: r => .cons (.int x) (dpI r)
theorem intD_lay : ∀ xs : List Int, PyData.canLayAll0 (intD xs) = true
  | [] => by simp [intD, PyData.canLayAll0]
  | x :: r => by
    have := intD_lay r
    simp only [intD, List.map_cons, PyData.canLayAll0, PyData.canLay0, Bool.true_and] at this ⊢
    exact this
theorem intD_depth : ∀ xs : List Int, PyData.depthAll (intD xs) ≤ 1
  | [] => by simp [intD, PyData.depthAll]
  | x :: r => by
    have := intD_depth r
    simp only [intD, List.map_cons, PyData.depthAll, PyData.depth] at this ⊢
    omega
theorem intD_shaped (xs : List Int) : SeqAt.shaped (.list (intD xs)) = true := by
  have := intD_depth xs
  refine Bool.and_eq_true_iff.mpr ⟨by simp only [PyData.canLay0]; exact intD_lay xs, decide_eq_true ?_⟩
  simp only [PyData.depth]
  omega
theorem eqv_inil (xs : List Int) : PyData.eqv (.list (intD xs)) (.list []) = decide (xs = []) := by
  cases xs with
  | nil => simp [intD, PyData.eqv, PyData.eqvAll]
  | cons x r => simp [intD, PyData.eqv, PyData.eqvAll]
theorem pos_nil (xs : List Int) : decide (0 < xs.length) = !decide (xs = []) := by cases xs <;> simp
end My

/-! shown data as data: code points, lengths -/
namespace SkT
open PySem
theorem ok_of (s : String) : PyData.strOk (Str.ofString s) = true := by
  unfold PyData.strOk
  rw [Str.ofString_eq_toList, List.all_toArray, List.all_eq_true]
  intro n hn
  obtain ⟨c, _, rfl⟩ := List.mem_map.mp hn
  refine decide_eq_true ?_
  have := c.valid
  unfold Char.toNat
  rcases this with h | h
  · exact Nat.lt_trans h (by decide)
  · exact h.2
theorem ok_app {a b : Str} (h1 : PyData.strOk a = true) (h2 : PyData.strOk b = true) : PyData.strOk (a ++ b) = true := by
  unfold PyData.strOk at h1 h2 ⊢
  show (a.cps ++ b.cps).all _ = true
  rw [Array.all_append, h1, h2]
  rfl
theorem ok_join {sep : Str} (hs : PyData.strOk sep = true) : ∀ {ts : List Str}, (∀ t ∈ ts, PyData.strOk t = true) → PyData.strOk (Str.join sep ts) = true
  | [], _ => (by decide +kernel : PyData.strOk Str.empty = true)
  | [x], h => h x List.mem_cons_self
  | x :: y :: r, h => ok_app (ok_app (h x List.mem_cons_self) hs) (ok_join hs fun t ht => h t (List.mem_cons_of_mem _ ht))
theorem ok_from : ∀ {ts : List Str} {k : Nat} {acc : Str}, PyData.strOk acc = true → (∀ t ∈ ts, PyData.strOk t = true) → PyData.strOk (textFrom k acc ts) = true
  | [], _, _, ha, _ => ha
  | t :: r, k, acc, ha, h => by
    rw [textFrom]
    exact ok_from (ok_app (ok_app ha (ok_of _)) (h t List.mem_cons_self)) fun x hx => h x (List.mem_cons_of_mem _ hx)
theorem ok_list {ts : List Str} (h : ∀ t ∈ ts, PyData.strOk t = true) : PyData.strOk (listText ts) = true := ok_app (ok_from (ok_of _) h) (ok_of _)
theorem ok_tup {ts : List Str} (h : ∀ t ∈ ts, PyData.strOk t = true) : PyData.strOk (tupleText ts) = true := ok_app (ok_app (ok_of _) (ok_join (ok_of _) h)) (ok_of _)
theorem join_le : ∀ ts : List Str, (Str.join ", " ts).length ≤ (ts.map fun t => t.length + 2).sum
  | [] => Nat.le_refl _
  | [x] => by
    show x.length ≤ _
    simp
  | x :: y :: r => by
    show (x ++ ", " ++ Str.join ", " (y :: r)).length ≤ _
    rw [strLen_append, strLen_append, show (", " : Str).length = 2 by decide +kernel]
    have := join_le (y :: r)
    rw [List.map_cons, List.sum_cons]
    omega
theorem tup_le (ts : List Str) : (tupleText ts).length ≤ (ts.map fun t => t.length + 2).sum + 3 := by
  unfold tupleText
  rw [strLen_append, strLen_append, show ("(" : Str).length = 1 by decide +kernel]
  have := join_le ts
  have : (Str.ofString (if ts.length == 1 then ",)" else ")" : String)).length ≤ 2 := by
    split
    · decide +kernel
    · decide +kernel
  omega
theorem from_le : ∀ (ts : List Str) (k : Nat) (acc : Str), (textFrom k acc ts).length ≤ acc.length + (ts.map fun t => t.length + 2).sum
  | [], _, _ => by simp [textFrom]
  | t :: r, k, acc => by
    rw [textFrom]
    have ih := from_le r (k + 1) (acc ++ (if k > 0 then ", " else "" : String) ++ t)
    rw [strLen_append, strLen_append] at ih
    have : (Str.ofString (if k > 0 then ", " else "" : String)).length ≤ 2 := by
      split
      · decide +kernel
      · decide +kernel
    rw [List.map_cons, List.sum_cons]
    omega
theorem list_le (ts : List Str) : (listText ts).length ≤ (ts.map fun t => t.length + 2).sum + 2 := by
  unfold listText
  rw [strLen_append, show ("]" : Str).length = 1 by decide +kernel]
  have := from_le ts 0 "["
  rw [show ("[" : Str).length = 1 by decide +kernel] at this
  omega
/-- data that can be shown; n bounds its text, k its depth -/
structure Sw (n k : Nat) (d : PyData) : Prop where
  sh : d.showable = true
  dp : d.depth ≤ k
  ln : d.shown.length ≤ n
  ok : PyData.strOk d.shown = true
theorem Sw.mono {n m k j : Nat} {d : PyData} (h : Sw n k d) (a : n ≤ m) (b : k ≤ j) : Sw m j d := ⟨h.sh, Nat.le_trans h.dp b, Nat.le_trans h.ln a, h.ok⟩
theorem sw_all {n k : Nat} : ∀ {ds : List PyData}, (∀ x ∈ ds, Sw n k x) → PyData.showableAll ds = true ∧ PyData.depthAll ds ≤ k ∧ ((PyData.shownAll ds).map fun t => t.length + 2).sum ≤ (n + 2) * ds.length ∧ ∀ t ∈ PyData.shownAll ds, PyData.strOk t = true
  | [], _ => ⟨rfl, by simp [PyData.depthAll], by simp [PyData.shownAll], fun t h => by simp [PyData.shownAll] at h⟩
  | d :: r, h => by
    obtain ⟨a, b, c, e⟩ := sw_all (ds := r) fun x hx => h x (List.mem_cons_of_mem _ hx)
    have hd := h d List.mem_cons_self
    refine ⟨?_, ?_, ?_, ?_⟩
    · rw [PyData.showableAll, a, hd.sh]; rfl
    · rw [PyData.depthAll]; exact Nat.max_le.mpr ⟨hd.dp, b⟩
    · rw [PyData.shownAll, List.map_cons, List.sum_cons, List.length_cons, Nat.mul_succ]
      have := hd.ln
      omega
    · intro t ht
      rw [PyData.shownAll] at ht
      rcases List.mem_cons.mp ht with rfl | z
      · exact hd.ok
      · exact e t z
theorem sw_tup {n k : Nat} {ds : List PyData} (h : ∀ x ∈ ds, Sw n k x) : Sw ((n + 2) * ds.length + 3) (k + 1) (.tuple ds) := by
  obtain ⟨a, b, c, e⟩ := sw_all h
  refine ⟨by rw [PyData.showable]; exact a, by rw [PyData.depth]; omega, ?_, ?_⟩
  · rw [PyData.shown]
    exact Nat.le_trans (tup_le _) (by omega)
  · rw [PyData.shown]
    exact ok_tup e
theorem sw_lst {n k : Nat} {ds : List PyData} (h : ∀ x ∈ ds, Sw n k x) : Sw ((n + 2) * ds.length + 2) (k + 1) (.list ds) := by
  obtain ⟨a, b, c, e⟩ := sw_all h
  refine ⟨by rw [PyData.showable]; exact a, by rw [PyData.depth]; omega, ?_, ?_⟩
  · rw [PyData.shown]
    exact Nat.le_trans (list_le _) (by omega)
  · rw [PyData.shown]
    exact ok_list e
theorem log_nat {n : Nat} (h : n < 10 ^ 20) : (n : Nat).log2 < 1920 := by
  by_cases h0 : n = 0
  · rw [h0]; decide
  · exact Nat.lt_of_lt_of_le ((Nat.log2_lt h0).mpr (Nat.lt_of_lt_of_le h (show 10 ^ 20 ≤ 2 ^ 70 by decide))) (by decide)
theorem sw_int {i : Int} {n : Nat} (h : i.natAbs < 10 ^ 20) (hl : (PyData.shown (.int i)).length ≤ n) : Sw n 0 (.int i) := ⟨by simp only [PyData.showable, decide_eq_true_eq]; exact log_nat h, by simp [PyData.depth], hl, ok_of _⟩
theorem sw_bl (b : Bool) : Sw 5 0 (.bool b) := by cases b <;> exact ⟨rfl, by simp [PyData.depth], by decide +kernel, by decide +kernel⟩
theorem sw_non : Sw 4 0 .none := ⟨rfl, by simp [PyData.depth], by decide +kernel, by decide +kernel⟩
/-- two rows of two words as data -/
theorem shaped2 {a b : Str} (h1 : PyData.strOk a = true) (h2 : PyData.strOk b = true) : SeqAt.shaped (.list [.str a, .str b]) = true := by
  unfold SeqAt.shaped
  simp [PyData.canLay0, PyData.canLayAll0, h1, h2, PyData.depth, PyData.depthAll]
theorem shaped3 {a b : Str} {c : Bool} (h1 : PyData.strOk a = true) (h2 : PyData.strOk b = true) : SeqAt.shaped (.list [.str a, .str b, .bool c]) = true := by
  unfold SeqAt.shaped
  simp [PyData.canLay0, PyData.canLayAll0, h1, h2, PyData.depth, PyData.depthAll]
end SkT

/-! replies and pieces as data -/
namespace My
open PySem L2 Cm LM EM
def repsD (rs : List (Nat × Bool)) : List PyData := rs.map fun r => PyData.tuple [.int (r.1 : Nat), .bool r.2]
def pcsD (ps : List (List Int)) : List PyData := ps.map fun p => PyData.tuple (intD p)
theorem rps_dp {K : PySem.W.Frag} {H : Hp} : ∀ {vs rs}, Rps H vs rs → DpAll K H vs (repsD rs)
  | _, _, .nil => .nil
  | _, _, .cons h t => .cons (.tup (SqT.of h) (.cons (.int _) (.cons (.bl _) .nil))) (rps_dp t)
theorem pcs_dp {K : PySem.W.Frag} {H : Hp} : ∀ {vs ps}, Pcs H vs ps → DpAll K H vs (pcsD ps)
  | _, _, .nil => .nil
  | _, _, .cons h t => .cons (.tup (SqT.of h) (dpI _)) (pcs_dp t)
theorem repsD_lay : ∀ rs : List (Nat × Bool), PyData.canLayAll0 (repsD rs) = true ∧ PyData.depthAll (repsD rs) ≤ 1
  | [] => ⟨by simp [repsD, PyData.canLayAll0], by simp [repsD, PyData.depthAll]⟩
  | r :: q => by
    obtain ⟨a, b⟩ := repsD_lay q
    have e : repsD (r :: q) = PyData.tuple [.int (r.1 : Nat), .bool r.2] :: repsD q := rfl
    rw [e]
    refine ⟨?_, ?_⟩
    · rw [PyData.canLayAll0, a]; simp [PyData.canLay0, PyData.canLayAll0]
    · rw [PyData.depthAll]; exact Nat.max_le.mpr ⟨by simp [PyData.depth, PyData.depthAll], b⟩
theorem pcsD_lay : ∀ ps : List (List Int), PyData.canLayAll0 (pcsD ps) = true ∧ PyData.depthAll (pcsD ps) ≤ 2
  | [] => ⟨by simp [pcsD, PyData.canLayAll0], by simp [pcsD, PyData.depthAll]⟩
  | p :: q => by
    obtain ⟨a, b⟩ := pcsD_lay q
    have e : pcsD (p :: q) = PyData.tuple (intD p) :: pcsD q := rfl
    have h := intD_depth p
    rw [e]
    refine ⟨?_, ?_⟩
    · rw [PyData.canLayAll0, a, PyData.canLay0, intD_lay]; rfl
    · rw [PyData.depthAll]; exact Nat.max_le.mpr ⟨by rw [PyData.depth]; omega, b⟩
end My

/-! raise C() of an own class without own __init__ -/
namespace MkO
open PySem PySem.Spec PyProof.Rows L2
section
variable {X : Cx}
theorem pmk_own0 {C : Addr} {bmB : List Value} {B newId initId : String} {x : Str} {p pos : Pos} (F : ExcBaseFacts B newId initId bmB) (q : PySem.W.excIn X.K C bmB newId = true) (gC : X.mg x = some (.ref C))
    (kC : PySem.W.keepIn X.K (.ref C) = true) (r : Raises X (.ref C)) (hg : Gl X x) (hdb : (x == ("__debug__" : Str)) = false := by decide) :
    PMk X (.Call (.Name x p) [] [] pos) (fun _ H Q => Q (.ref C) none H) := by
  intro pins s σ H Q I h
  refine wpAny_Call_Name_kw (ld_glob I hg gC ?_ hdb)
  refine PySem.W.callWith_K0 I.kIn kC ?_
  show wpAny _ _ (call (.ref C) []) _ _ _
  obtain ⟨bm, N, nm, qn, bs, hdct, sn, sub, ab, col, dd, k0, k1, k2, k3, k5, mN, hC, hN, hni, T⟩ := exc_obj I.kIn q
  refine wpAny_call_exc_subT F T hC hN hni (fun h' e hm => ?_) (by show 0 ≤ sizeLine; rw [sizeLine_eq]; omega)
  exact mk_of I hm r h (I.hok.gone hm.new)
end
end MkO

/-! pieces that were handed before do not matter -/
namespace EM
open PySem L2
def addP (ps : List (List Int)) (x : RP) : RP := ⟨x.rest, ps ++ x.pieces⟩
theorem addP_rest (ps : List (List Int)) (x : RP) : (addP ps x).rest = x.rest := rfl
theorem perf_add (size : Nat) (held : List Int) (s : Str) (ps : List (List Int)) (x : RP) : perfM size held s (addP ps x) = addP ps (perfM size held s x) := by
  unfold perfM addP
  split
  · rfl
  · split
    · show RP.mk _ _ = RP.mk _ _
      rw [List.append_assoc]
    · split
      · show RP.mk _ _ = RP.mk _ _
        rw [List.append_assoc]
      · split
        · show RP.mk _ _ = RP.mk _ _
          rw [List.append_assoc]
        · rfl
theorem run_add (size : Nat) (held : List Int) (told : Bool) (ps : List (List Int)) : ∀ (os : List (Str × Str)) (x : RP), runW size held told os (addP ps x) = (addP ps (runW size held told os x).1, (runW size held told os x).2)
  | [], x => rfl
  | (t, s) :: r, x => by
    unfold runW
    rw [addP_rest]
    split
    · split
      · rfl
      · split
        · rfl
        · rw [perf_add]
          exact run_add size held told ps r _
    · exact run_add size held told ps r x
theorem end_add (size : Nat) (held : List Int) (told : Bool) (ps : List (List Int)) : ∀ (os : List (Str × Str)) (x : RP), endW size held told os (addP ps x) = addP ps (endW size held told os x)
  | [], x => rfl
  | (t, s) :: r, x => by
    unfold endW
    rw [addP_rest]
    split
    · rw [perf_add]
      exact end_add size held told ps r _
    · exact end_add size held told ps r x
theorem ans_add (size : Nat) (ro eo : List (Str × Str)) (held : List Int) (told : Bool) (ps : List (List Int)) (x : RP) : ansM size ro eo held told (addP ps x) = (addP ps (ansM size ro eo held told x).1, (ansM size ro eo held told x).2) := by
  unfold ansM
  rw [run_add]
  split
  · rw [end_add]
  · rfl
/-- from the rest alone -/
theorem ans_from (size : Nat) (ro eo : List (Str × Str)) (held : List Int) (told : Bool) (x : RP) : ansM size ro eo held told x = (⟨(ansM size ro eo held told ⟨x.rest, []⟩).1.rest, x.pieces ++ (ansM size ro eo held told ⟨x.rest, []⟩).1.pieces⟩, (ansM size ro eo held told ⟨x.rest, []⟩).2) := by
  have e : x = addP x.pieces ⟨x.rest, []⟩ := by
    obtain ⟨r, p⟩ := x
    show RP.mk r p = RP.mk r (p ++ [])
    rw [List.append_nil]
  conv => lhs; rw [e, ans_add]
  rfl
end EM

/-! readings: Moment, Reading -/
namespace My
open PySem L2 Cm LM EM
abbrev sMmI : Stmt := inClass (top 39) 0
abbrev sRdI : Stmt := inClass (top 42) 0
abbrev sRdG : Stmt := inClass (top 42) 1
abbrev sRdH : Stmt := inClass (top 42) 2
abbrev sRdK : Stmt := inClass (top 42) 3
abbrev sRdO : Stmt := inClass (top 42) 4
abbrev sRdL : Stmt := inClass (top 42) 5
abbrev sRdR : Stmt := inClass (top 42) 6
abbrev sRdF : Stmt := inClass (top 42) 7
abbrev sRdU : Stmt := inClass (top 42) 9
abbrev sRdCf : Stmt := inClass (top 42) 11
abbrev sRdCr : Stmt := inClass (top 42) 12
abbrev sRdT : Stmt := inClass (top 42) 13
abbrev sCKL : Stmt := top 36
/-! ### what has been read, from the last reply on -/
def stR (sz : Nat) (ro eo : List (Str × Str)) : List (Nat × Bool) → RS
  | [] => ⟨⟨[], []⟩, 0, 0, false⟩
  | r :: rr => stepM sz ro eo (stR sz ro eo rr) r
def OkR (sz : Nat) (ro eo : List (Str × Str)) : List (Nat × Bool) → Prop
  | [] => True
  | _ :: rr => (stR sz ro eo rr).st = false ∧ OkR sz ro eo rr
section
variable {sz : Nat} {ro eo : List (Str × Str)}
theorem st_run : ∀ rr : List (Nat × Bool), runM sz ro eo rr.reverse = stR sz ro eo rr
  | [] => rfl
  | r :: rr => by
    have ih := st_run rr
    unfold runM at ih ⊢
    rw [List.reverse_cons, List.foldl_append, ih]
    rfl
theorem st_cons {r : Nat × Bool} {rr : List (Nat × Bool)} (h : (stR sz ro eo rr).st = false) : stR sz ro eo (r :: rr) = ⟨(ansM sz ro eo (itemsF (stR sz ro eo rr).f r.1) r.2 (stR sz ro eo rr).x).1, (stR sz ro eo rr).f + r.1, (stR sz ro eo rr).u + 1, (ansM sz ro eo (itemsF (stR sz ro eo rr).f r.1) r.2 (stR sz ro eo rr).x).2⟩ := by
  show stepM sz ro eo (stR sz ro eo rr) r = _
  unfold stepM
  rw [if_neg (by rw [h]; decide)]
theorem ok_u : ∀ {rr : List (Nat × Bool)}, OkR sz ro eo rr → (stR sz ro eo rr).u = rr.length
  | [], _ => rfl
  | r :: rr, h => by
    rw [st_cons h.1]
    show (stR sz ro eo rr).u + 1 = _
    rw [ok_u h.2]
    rfl
theorem ok_f : ∀ {rr : List (Nat × Bool)}, OkR sz ro eo rr → (stR sz ro eo rr).f = (rr.reverse.map (·.1)).sum
  | [], _ => rfl
  | r :: rr, h => by
    rw [st_cons h.1]
    show (stR sz ro eo rr).f + r.1 = _
    rw [ok_f h.2, List.reverse_cons, List.map_append, List.sum_append]
    simp
end
/-! ### the objects -/
def mf (b : V) (g h k : Addr) (ov : Bool) : List (Str × V) := [("before", b), ("given", .ref g), ("handed", .ref h), ("kept", .ref k), ("over", .bl ov)]
def rf (lo : Addr) (sz : Nat) (bs : Bool) (m : Addr) : List (Str × V) := [("loop", .ref lo), ("size", .int sz), ("busy", .bl bs), ("moment", .ref m)]
section
variable (b : V) (g h k lo m m' : Addr) (ov bs : Bool) (sz : Nat)
theorem mf_b : (mf b g h k ov).lookup ("before" : Str) = some b := by kernel_rfl
theorem mf_g : (mf b g h k ov).lookup ("given" : Str) = some (.ref g) := by kernel_rfl
theorem mf_h : (mf b g h k ov).lookup ("handed" : Str) = some (.ref h) := by kernel_rfl
theorem mf_k : (mf b g h k ov).lookup ("kept" : Str) = some (.ref k) := by kernel_rfl
theorem mf_o : (mf b g h k ov).lookup ("over" : Str) = some (.bl ov) := by kernel_rfl
theorem rf_l : (rf lo sz bs m).lookup ("loop" : Str) = some (.ref lo) := by kernel_rfl
theorem rf_s : (rf lo sz bs m).lookup ("size" : Str) = some (.int sz) := by kernel_rfl
theorem rf_b : (rf lo sz bs m).lookup ("busy" : Str) = some (.bl bs) := by kernel_rfl
theorem rf_m : (rf lo sz bs m).lookup ("moment" : Str) = some (.ref m) := by kernel_rfl
theorem rf_pm : putF "moment" (.ref m') (rf lo sz bs m) = rf lo sz bs m' := by kernel_rfl
theorem rf_n1 : (rf lo sz bs m).lookup ("feed" : Str) = none := by kernel_rfl
theorem rf_n2 : (rf lo sz bs m).lookup ("undo" : Str) = none := by kernel_rfl
theorem rf_n3 : (rf lo sz bs m).lookup ("take" : Str) = none := by kernel_rfl
theorem rf_n4 : (rf lo sz bs m).lookup ("check_free" : Str) = none := by kernel_rfl
theorem rf_n5 : (rf lo sz bs m).lookup ("check_reply" : Str) = none := by kernel_rfl
end
/-- the replies, the pieces and the rest of a moment -/
def MsAt (H : Hp) (g h k : Addr) (rs : List (Nat × Bool)) (x : RP) : Prop := ∃ gs hs, H g = some (.tup gs) ∧ Rps H gs rs ∧ H h = some (.tup hs) ∧ Pcs H hs x.pieces ∧ H k = some (.tup (ivs x.rest))
theorem MsAt.mono {H H' : Hp} {g h k : Addr} {rs : List (Nat × Bool)} {x : RP} (f : ∀ (p : Addr) (xs : List V), H p = some (.tup xs) → H' p = some (.tup xs)) (a : MsAt H g h k rs x) : MsAt H' g h k rs x := let ⟨gs, hs, a, b, c, d, e⟩ := a; ⟨gs, hs, f _ _ a, b.mono f, f _ _ c, d.mono f, f _ _ e⟩
inductive Mom (C : Addr) (sz : Nat) (ro eo : List (Str × Str)) (H : Hp) : Addr → List (Nat × Bool) → Prop
  | nil {m dm g h k : Addr} (e : H m = some (.ins C dm (mf .non g h k false))) (a : MsAt H g h k [] ⟨[], []⟩) : Mom C sz ro eo H m []
  | cons {m m' dm g h k : Addr} {r : Nat × Bool} {rr : List (Nat × Bool)} (e : H m = some (.ins C dm (mf (.ref m') g h k (stR sz ro eo (r :: rr)).st))) (a : MsAt H g h k (r :: rr).reverse (stR sz ro eo (r :: rr)).x) (t : Mom C sz ro eo H m' rr) : Mom C sz ro eo H m (r :: rr)
theorem Mom.mono {C : Addr} {sz : Nat} {ro eo : List (Str × Str)} {H H' : Hp} (f : ∀ (p : Addr) (xs : List V), H p = some (.tup xs) → H' p = some (.tup xs)) (f2 : ∀ (p dm : Addr) (b : V) (g h k : Addr) (ov : Bool), H p = some (.ins C dm (mf b g h k ov)) → H' p = some (.ins C dm (mf b g h k ov))) :
    ∀ {m rr}, Mom C sz ro eo H m rr → Mom C sz ro eo H' m rr
  | _, _, .nil e a => .nil (f2 _ _ _ _ _ _ _ e) (a.mono f)
  | _, _, .cons e a t => .cons (f2 _ _ _ _ _ _ _ e) (a.mono f) (t.mono f f2)
theorem Mom.head {C : Addr} {sz : Nat} {ro eo : List (Str × Str)} {H : Hp} {m : Addr} {rr : List (Nat × Bool)} (h : Mom C sz ro eo H m rr) : ∃ (dm g h k : Addr) (b : V), H m = some (.ins C dm (mf b g h k (stR sz ro eo rr).st)) ∧ MsAt H g h k rr.reverse (stR sz ro eo rr).x ∧ ((rr = [] ∧ b = .non) ∨ ∃ (r : Nat × Bool) (q : List (Nat × Bool)) (m' : Addr), rr = r :: q ∧ b = .ref m' ∧ Mom C sz ro eo H m' q) := by
  cases h with
  | nil e a => exact ⟨_, _, _, _, _, e, a, .inl ⟨rfl, rfl⟩⟩
  | cons e a t => exact ⟨_, _, _, _, _, e, a, .inr ⟨_, _, _, rfl, rfl, t⟩⟩
/-- a property -/
structure Pr (K : PySem.W.Frag) (C : Addr) (x q : Str) (st : Stmt) where
  p : Addr
  f : Addr
  fd : FuncData
  F : Fun K x q st f fd
  b : Binds K fd ["self"] []
  o : PropOf K C x p f
/-- an error without fields, over LookupError -/
structure Ex0 (K : PySem.W.Frag) (mg : Str → Option Value) (name : Str) where
  C : Addr
  g : mg name = some (.ref C)
  q : PySem.W.excIn K C [.type "LookupError", .type "Exception", .type "BaseException", .type "object"] "LookupError.__new__" = true
  k : PySem.W.keepIn K (.ref C) = true
  s : PySem.W.subIn K (.ref C) (.type "BaseException") = some true
  t : PySem.W.typeIn K (.ref C) = some (.type "type")
structure TxRd (K : PySem.W.Frag) (mg : Str → Option Value) where
  N : TxN K mg
  sum : mg "sum" = none
  CM : Addr
  gM : mg "Moment" = some (.ref CM)
  clM : Cls K CM
  nMb : NoAttr K CM "before"
  nMg : NoAttr K CM "given"
  nMh : NoAttr K CM "handed"
  nMk : NoAttr K CM "kept"
  nMo : NoAttr K CM "over"
  fM : Addr
  fdM : FuncData
  FM : Fun K "__init__" "Moment.__init__" sMmI fM fdM
  bM : Binds K fdM ["self", "before", "given", "handed", "kept", "over"] []
  MM : Mk K CM fM
  CR : Addr
  gR : mg "Reading" = some (.ref CR)
  clR : Cls K CR
  nRl : NoAttr K CR "loop"
  nRs : NoAttr K CR "size"
  nRb : NoAttr K CR "busy"
  nRm : NoAttr K CR "moment"
  fR : Addr
  fdR : FuncData
  FR : Fun K "__init__" "Reading.__init__" sRdI fR fdR
  bR : Binds K fdR ["self", "loop", "size"] []
  MR : Mk K CR fR
  ckl : Df K mg "check_loop" sCKL ["loop"]
  y1 : PySem.W.findIn K (.ref N.T.C) "__class__" = some (some (.builtin "object.__class__"))
  y2 : PySem.W.specialIn K (.builtin "object.__class__") "__get__" = some (some (.builtin "getset_descriptor.__get__"))
  y3 : PySem.W.takesIn K (.builtin "object.__class__") = some true
  y4 : PySem.W.mroIn K N.T.C (.type "object") = some true
  y5 : PySem.W.kitOne K (.ref N.T.C) (.ref N.T.C) = some true
  pG : Pr K CR "replies" "Reading.replies" sRdG
  pH : Pr K CR "pieces" "Reading.pieces" sRdH
  pK : Pr K CR "rest" "Reading.rest" sRdK
  pO : Pr K CR "stopped" "Reading.stopped" sRdO
  rl : Sm K CR "__len__" "Reading.__len__" sRdL ["self"]
  rr : Sm K CR "__repr__" "Reading.__repr__" sRdR ["self"]
  fe : Mt K CR "feed" "Reading.feed" sRdF ["self", "count", "told"]
  un : Mt K CR "undo" "Reading.undo" sRdU ["self"]
  cf : Mt K CR "check_free" "Reading.check_free" sRdCf ["self"]
  cr : Mt K CR "check_reply" "Reading.check_reply" sRdCr ["self", "count", "told"]
  ta : Mt K CR "take" "Reading.take" sRdT ["self", "count", "told"]
  xS : Ex0 K mg "Stopped"
  xN : Ex0 K mg "NothingToUndo"
section
variable {P : Program} {w : World} {K : PySem.W.Frag} {mg : Str → Option Value} {base : Heap}
/-- a reading stands at lv -/
structure RdAt (T : TxRd K mg) (H : Hp) (lv dx lo m : Addr) (sz : Nat) (t : Str) (rr : List (Nat × Bool)) : Prop where
  at_ : H lv = some (.ins T.CR dx (rf lo sz false m))
  lo : LoopAt T.N.T.C H lo t
  mo : Mom T.CM sz (ordsR t) (ordsE t) H m rr
theorem RdAt.same {T : TxRd K mg} {H H' : Hp} {lv dx lo m : Addr} {sz : Nat} {t : Str} {rr : List (Nat × Bool)} (s : Same H H') (h : RdAt T H lv dx lo m sz t rr) : RdAt T H' lv dx lo m sz t rr := ⟨s _ _ h.at_, h.lo.same s, h.mo.mono (fun _ _ e => s _ _ e) fun _ _ _ _ _ _ _ e => s _ _ e⟩
theorem rf_ne_mf {C D dx dm lo m g h k : Addr} {sz : Nat} {bs ov : Bool} {b : V} : (HO.ins C dx (rf lo sz bs m)) ≠ .ins D dm (mf b g h k ov) := fun z => by
  have e := (HO.ins.inj z).2.2
  simp [rf, mf] at e
theorem rf_ne_lf {C D dx dm lo m pr pe po pq : Addr} {sz : Nat} {bs : Bool} {t : Str} : (HO.ins C dx (rf lo sz bs m)) ≠ .ins D dm (lf t pr pe po pq) := fun z => by
  have e := congrArg List.length (HO.ins.inj z).2.2
  have : (lf t pr pe po pq).length = 5 := rfl
  rw [this] at e
  simp [rf] at e
/-- the reading itself may change -/
theorem Mom.off {C CR lv dx lo m0 : Addr} {s0 : Nat} {bs : Bool} {sz : Nat} {ro eo : List (Str × Str)} {H H' : Hp} (a : H lv = some (.ins CR dx (rf lo s0 bs m0))) (o : Off lv H H') {m : Addr} {rr : List (Nat × Bool)} (h : Mom C sz ro eo H m rr) : Mom C sz ro eo H' m rr :=
  h.mono (fun p xs e => o _ _ (ne_of e a (by intro z; cases z)) e) fun p dm b g h k ov e => o _ _ (ne_of e a fun z => rf_ne_mf z.symm) e
theorem LoopAt.off3 {C CR lv dx lo m0 : Addr} {s0 : Nat} {bs : Bool} {H H' : Hp} (a : H lv = some (.ins CR dx (rf lo s0 bs m0))) (o : Off lv H H') {q : Addr} {t : Str} (h : LoopAt C H q t) : LoopAt C H' q t := by
  have f : ∀ (p : Addr) (xs : List V), H p = some (.tup xs) → H' p = some (.tup xs) := fun p xs e => o _ _ (ne_of e a (by intro z; cases z)) e
  obtain ⟨dx, pr, pe, po, pq, e1, e2, e3, e4, e5⟩ := h
  exact ⟨dx, pr, pe, po, pq, o _ _ (ne_of e1 a fun z => rf_ne_lf z.symm) e1, f _ _ e2, f _ _ e3, e4.mono f, e5.mono f⟩
/-! ### Moment.__init__ -/
def spMmI (C : Addr) : Sp := fun vs H Q _ => ∃ (x dx g h k : Addr) (b : V) (ov : Bool), vs = [.ref x, b, .ref g, .ref h, .ref k, .bl ov] ∧ H x = some (.ins C dx []) ∧ ∀ H' : Hp, Off x H H' → H' x = some (.ins C dx (mf b g h k ov)) → Q .non H'
theorem scMmI : FnScope ["self", "before", "given", "handed", "kept", "over"] ["self", "before", "given", "handed", "kept", "over"] (defScope sMmI) := ⟨rfl, rfl, rfl, by decide +kernel, rfl, by decide +kernel, by decide +kernel⟩
theorem ok_mmi (T : TxRd K mg) : FnOk P w K mg base CX0 1 T.fM T.fdM ["self", "before", "given", "handed", "kept", "over"] (spMmI T.CM) := by
  refine T.FM.ok scMmI (fun vs H Q E h => ?_) (fun cdv A outer s H vs Q E hr h => ?_)
  · obtain ⟨x, dx, g, h, k, b, ov, rfl, _⟩ := h
    rfl
  · obtain ⟨x, dx, g, h, kk, b, ov, rfl, hx, k⟩ := h
    refine ⟨_, pss_cons (ps_fld (pv 0) (pv 1) rfl) (pss_cons (ps_fld (pv 0) (pv 2) rfl) (pss_cons (ps_fld (pv 0) (pv 3) rfl) (pss_cons (ps_fld (pv 0) (pv 4) rfl) (pss_one (ps_fld (pv 0) (pv 5) rfl))))), ?_⟩
    refine ⟨_, rfl, _, rfl, x, T.CM, dx, _, rfl, hx, T.clM, T.nMb, (by show 0 < 1000; decide), ?_⟩
    refine ⟨_, rfl, _, rfl, x, T.CM, dx, _, rfl, upd_same, T.clM, T.nMg, (by show 1 < 1000; decide), ?_⟩
    refine ⟨_, rfl, _, rfl, x, T.CM, dx, _, rfl, upd_same, T.clM, T.nMh, small8 (Nat.le_trans (putF8 (n := 1) (by show 1 ≤ 1; decide)) (by decide)), ?_⟩
    refine ⟨_, rfl, _, rfl, x, T.CM, dx, _, rfl, upd_same, T.clM, T.nMk, small8 (Nat.le_trans (putF8 (putF8 (n := 1) (by show 1 ≤ 1; decide))) (by decide)), ?_⟩
    refine ⟨_, rfl, _, rfl, x, T.CM, dx, _, rfl, upd_same, T.clM, T.nMo, small8 (Nat.le_trans (putF8 (putF8 (putF8 (n := 1) (by show 1 ≤ 1; decide)))) (by decide)), ?_⟩
    refine k _ (fun b o nb e => ?_) upd_same
    rw [upd_ne nb, upd_ne nb, upd_ne nb, upd_ne nb, upd_ne nb]
    exact e
/-! ### the properties, len -/
def spRd (T : TxRd K mg) (val : Addr → Addr → Addr → Bool → V) : Sp := fun vs H Q _ => ∃ (lv dx lo m dm g h k : Addr) (sz : Nat) (bs : Bool) (b : V) (ov : Bool), vs = [.ref lv] ∧ H lv = some (.ins T.CR dx (rf lo sz bs m)) ∧ H m = some (.ins T.CM dm (mf b g h k ov)) ∧ Q (val g h k ov) H
theorem scRdG : FnScope ["self"] ["self"] (defScope sRdG) := ⟨rfl, rfl, rfl, by decide +kernel, rfl, by decide +kernel, by decide +kernel⟩
theorem scRdH : FnScope ["self"] ["self"] (defScope sRdH) := ⟨rfl, rfl, rfl, by decide +kernel, rfl, by decide +kernel, by decide +kernel⟩
theorem scRdK : FnScope ["self"] ["self"] (defScope sRdK) := ⟨rfl, rfl, rfl, by decide +kernel, rfl, by decide +kernel, by decide +kernel⟩
theorem scRdO : FnScope ["self"] ["self"] (defScope sRdO) := ⟨rfl, rfl, rfl, by decide +kernel, rfl, by decide +kernel, by decide +kernel⟩
theorem ok_rdg (T : TxRd K mg) : FnOk P w K mg base CX0 1 T.pG.f T.pG.fd ["self"] (spRd T fun g _ _ _ => .ref g) := by
  refine T.pG.F.ok scRdG (fun vs H Q E h => ?_) (fun cdv A outer s H vs Q E hr h => ?_)
  · obtain ⟨lv, _, _, _, _, _, _, _, _, _, _, _, rfl, _⟩ := h
    rfl
  · obtain ⟨lv, dx, lo, m, dm, g, h, kk, sz, bs, b, ov, rfl, h1, h2, k⟩ := h
    exact ⟨_, pss_one (ps_ret (pe_fld (pe_fld (pv 0) rfl) rfl)), _, rfl, lv, T.CR, dx, _, _, rfl, h1, T.clR, T.nRm, rf_m .., m, T.CM, dm, _, _, rfl, h2, T.clM, T.nMg, mf_g .., k⟩
theorem ok_rdh (T : TxRd K mg) : FnOk P w K mg base CX0 1 T.pH.f T.pH.fd ["self"] (spRd T fun _ h _ _ => .ref h) := by
  refine T.pH.F.ok scRdH (fun vs H Q E h => ?_) (fun cdv A outer s H vs Q E hr h => ?_)
  · obtain ⟨lv, _, _, _, _, _, _, _, _, _, _, _, rfl, _⟩ := h
    rfl
  · obtain ⟨lv, dx, lo, m, dm, g, h, kk, sz, bs, b, ov, rfl, h1, h2, k⟩ := h
    exact ⟨_, pss_one (ps_ret (pe_fld (pe_fld (pv 0) rfl) rfl)), _, rfl, lv, T.CR, dx, _, _, rfl, h1, T.clR, T.nRm, rf_m .., m, T.CM, dm, _, _, rfl, h2, T.clM, T.nMh, mf_h .., k⟩
theorem ok_rdk (T : TxRd K mg) : FnOk P w K mg base CX0 1 T.pK.f T.pK.fd ["self"] (spRd T fun _ _ k _ => .ref k) := by
  refine T.pK.F.ok scRdK (fun vs H Q E h => ?_) (fun cdv A outer s H vs Q E hr h => ?_)
  · obtain ⟨lv, _, _, _, _, _, _, _, _, _, _, _, rfl, _⟩ := h
    rfl
  · obtain ⟨lv, dx, lo, m, dm, g, h, kk, sz, bs, b, ov, rfl, h1, h2, k⟩ := h
    exact ⟨_, pss_one (ps_ret (pe_fld (pe_fld (pv 0) rfl) rfl)), _, rfl, lv, T.CR, dx, _, _, rfl, h1, T.clR, T.nRm, rf_m .., m, T.CM, dm, _, _, rfl, h2, T.clM, T.nMk, mf_k .., k⟩
theorem ok_rdo (T : TxRd K mg) : FnOk P w K mg base CX0 1 T.pO.f T.pO.fd ["self"] (spRd T fun _ _ _ ov => .bl ov) := by
  refine T.pO.F.ok scRdO (fun vs H Q E h => ?_) (fun cdv A outer s H vs Q E hr h => ?_)
  · obtain ⟨lv, _, _, _, _, _, _, _, _, _, _, _, rfl, _⟩ := h
    rfl
  · obtain ⟨lv, dx, lo, m, dm, g, h, kk, sz, bs, b, ov, rfl, h1, h2, k⟩ := h
    exact ⟨_, pss_one (ps_ret (pe_fld (pe_fld (pv 0) rfl) rfl)), _, rfl, lv, T.CR, dx, _, _, rfl, h1, T.clR, T.nRm, rf_m .., m, T.CM, dm, _, _, rfl, h2, T.clM, T.nMo, mf_o .., k⟩
def spRdL (T : TxRd K mg) : Sp := fun vs H Q _ => ∃ (lv dx lo m dm g h k : Addr) (sz : Nat) (bs : Bool) (b : V) (ov : Bool) (gs : List V), vs = [.ref lv] ∧ H lv = some (.ins T.CR dx (rf lo sz bs m)) ∧ H m = some (.ins T.CM dm (mf b g h k ov)) ∧ H g = some (.tup gs) ∧ Q (.int (gs.length : Nat)) H
theorem scRdL : FnScope ["self"] ["self"] (defScope sRdL) := ⟨rfl, rfl, rfl, by decide +kernel, rfl, by decide +kernel, by decide +kernel⟩
theorem ok_rdl (T : TxRd K mg) : FnOk P w K mg base CX0 1 T.rl.f T.rl.fd ["self"] (spRdL T) := by
  refine T.rl.F.ok scRdL (fun vs H Q E h => ?_) (fun cdv A outer s H vs Q E hr h => ?_)
  · obtain ⟨lv, _, _, _, _, _, _, _, _, _, _, _, _, rfl, _⟩ := h
    rfl
  · obtain ⟨lv, dx, lo, m, dm, g, h, kk, sz, bs, b, ov, gs, rfl, h1, h2, h3, k⟩ := h
    exact ⟨_, (pss_one (ps_ret (pe_callB call_len_seq (by rfl) T.N.k.len PySem.boot_len (pa_cons (pe_fld (pe_fld (pv 0) rfl) rfl) pa_nil)))), _, rfl, lv, T.CR, dx, _, _, rfl, h1, T.clR, T.nRm, rf_m .., m, T.CM, dm, _, _, rfl, h2, T.clM, T.nMg, mf_g .., g, _, rfl, .inr (SqT.of h3), k⟩
end
end My

namespace My
open PySem L2 Cm LM EM
section
variable {P : Program} {w : World} {K : PySem.W.Frag} {mg : Str → Option Value} {base : Heap}
/-! ### __repr__ -/
def rdS (n : Nat) : Str := Str.empty ++ ("Reading(" : Str) ++ Str.ofString (toString ((n : Nat) : Int)) ++ (" replies)" : Str)
def spRdR (T : TxRd K mg) : Sp := fun vs H Q _ => ∃ (lv dx lo m dm g h k : Addr) (sz : Nat) (bs : Bool) (b : V) (ov : Bool) (gs : List V), vs = [.ref lv] ∧ H lv = some (.ins T.CR dx (rf lo sz bs m)) ∧ H m = some (.ins T.CM dm (mf b g h k ov)) ∧ H g = some (.tup gs) ∧ gs.length ≤ 1000 ∧ Q (.str (rdS gs.length)) H
theorem scRdR : FnScope ["self"] ["self"] (defScope sRdR) := ⟨rfl, rfl, rfl, by decide +kernel, rfl, by decide +kernel, by decide +kernel⟩
theorem num_short {n : Nat} (h : n ≤ 1000) : (Str.ofString (toString ((n : Nat) : Int))).length ≤ 20 := by
  rw [TL.len_tl, TL.tl_num]
  exact TL.numL_len (by decide) (by omega)
theorem ok_rdr (T : TxRd K mg) : FnOk P w K mg base CX0 1 T.rr.f T.rr.fd ["self"] (spRdR T) := by
  refine T.rr.F.ok scRdR (fun vs H Q E h => ?_) (fun cdv A outer s H vs Q E hr h => ?_)
  · obtain ⟨lv, _, _, _, _, _, _, _, _, _, _, _, _, rfl, _⟩ := h
    rfl
  · obtain ⟨lv, dx, lo, m, dm, g, h, kk, sz, bs, b, ov, gs, rfl, h1, h2, h3, hl, k⟩ := h
    refine ⟨_, (pss_one (ps_ret (pe_joined (.cons pe_str (.cons (pe_fmt (pe_callB call_len_seq (by rfl) T.N.k.len PySem.boot_len (pa_cons (pe_fld (pe_fld (pv 0) rfl) rfl) pa_nil))) (.cons pe_str .nil)))))), ?_⟩
    have l1 : (Str.empty).length = 0 := rfl
    have l2 : ("Reading(" : Str).length = 8 := by decide +kernel
    have l3 : (" replies)" : Str).length = 9 := by decide +kernel
    have l4 := num_short hl
    have lg : ((gs.length : Nat) : Int).natAbs.log2 < 1920 := by
      rw [Int.natAbs_natCast]
      exact Nat.lt_of_le_of_lt (Nat.log2_le_self _) (by omega)
    refine ⟨_, rfl, szl (by rw [strLen_append]; omega), ?_⟩
    refine ⟨_, rfl, lv, T.CR, dx, _, _, rfl, h1, T.clR, T.nRm, rf_m .., m, T.CM, dm, _, _, rfl, h2, T.clM, T.nMg, mf_g .., g, _, rfl, .inr (SqT.of h3), .inr ⟨_, rfl, lg, _, rfl, szl (by rw [strLen_append, strLen_append]; omega), ?_⟩⟩
    refine ⟨_, rfl, szl (by rw [strLen_append, strLen_append, strLen_append]; omega), ?_⟩
    exact k
/-! ### check_free -/
def spRdCf (T : TxRd K mg) : Sp := fun vs H Q _ => ∃ (lv dx lo m : Addr) (sz : Nat), vs = [.ref lv] ∧ H lv = some (.ins T.CR dx (rf lo sz false m)) ∧ Q .non H
theorem scRdCf : FnScope ["self"] ["self"] (defScope sRdCf) := ⟨rfl, rfl, rfl, by decide +kernel, rfl, by decide +kernel, by decide +kernel⟩
theorem ok_rdcf (T : TxRd K mg) : FnOk P w K mg base CX0 1 T.cf.f T.cf.fd ["self"] (spRdCf T) := by
  refine T.cf.F.ok scRdCf (fun vs H Q E h => ?_) (fun cdv A outer s H vs Q E hr h => ?_)
  · obtain ⟨lv, _, _, _, _, rfl, _⟩ := h
    rfl
  · obtain ⟨lv, dx, lo, m, sz, rfl, h1, k⟩ := h
    exact ⟨_, (pss_one (ps_if (pt_val (pe_fld (pv 0) rfl)) (pss_one ps_never) pss_nil)), _, rfl, lv, T.CR, dx, _, _, rfl, h1, T.clR, T.nRb, rf_b .., false, rfl, iteF k⟩
/-! ### check_reply -/
def spRdCr (T : TxRd K mg) : Sp := fun vs H Q E => ∃ (lv dx lo m : Addr) (sz n : Nat) (said : Bool) (t : Str) (rr : List (Nat × Bool)), vs = [.ref lv, .int n, .bl said] ∧ RdAt T H lv dx lo m sz t rr ∧ n ≤ sz ∧ rr.length < 100 ∧
  ((stR sz (ordsR t) (ordsE t) rr).st = true → E (.ref T.xS.C) none H) ∧ ((stR sz (ordsR t) (ordsE t) rr).st = false → Q .non H)
theorem scRdCr : FnScope ["self", "count", "told"] ["self", "count", "told"] (defScope sRdCr) := ⟨rfl, rfl, rfl, by decide +kernel, rfl, by decide +kernel, by decide +kernel⟩
theorem ok_rdcr (T : TxRd K mg) : FnOk P w K mg base (L2.CX P w) 3 T.cr.f T.cr.fd ["self", "count", "told"] (spRdCr T) := by
  have GI : FnOk P w K mg base CX0 1 T.N.k.iib.f T.N.k.iib.fd ["value", "low", "high"] (spIIB K) := ok_iib T.N.k
  have GO : FnOk P w K mg base CX0 1 T.pO.f T.pO.fd ["self"] (spRd T fun _ _ _ ov => .bl ov) := ok_rdo T
  have GL : FnR P w K mg base CX0 1 T.rl.f (fun vs H Q E => spRdL T (vs ++ []) H Q E) := (ok_rdl T).raw T.rl.b .nil
  obtain ⟨tm, mr⟩ := T.N.k.mr
  refine T.cr.F.okX scRdCr (fun vs H Q E h => ?_) (fun cdv A outer s H vs Q E hr h => ?_)
  · obtain ⟨lv, _, _, _, _, _, _, _, _, rfl, _⟩ := h
    rfl
  · obtain ⟨lv, dx, lo, m, sz, n, said, t, rr, rfl, hR, hn, hl, kE, k⟩ := h
    have hr1 : Room 1 _ := hr.mono (by decide)
    refine ⟨_, (pss_cons (ps_if (pt_not (pt_val (pe_call GI hr1 rfl T.N.k.iib.g T.N.k.iib.k T.N.k.iib.b .nil pass0 (pa_cons (pv 1) (pa_cons pe_int (pa_cons (pe_fld (pv 0) rfl) pa_nil)))))) (pss_one ps_never) pss_nil) (pss_cons (ps_if (pt_not (pt_val (pe_callB call_isi (by rfl) T.N.k.isi (by decide +kernel) (pa_cons (pv 2) (pa_cons (pe_bltn (v := .ty "bool") (by rfl) T.N.k.bool (by decide +kernel) rfl) pa_nil))))) (pss_one ps_never) pss_nil) (pss_cons (ps_if (pt_val (pe_prop (pv 0) T.clR T.pO.o GO hr T.pO.b .nil pass0 (by rfl))) (pss_one (ps_raise rfl (takes_of rfl rfl rfl rfl) (MkO.pmk_own0 PySem.F.excBase_LookupError T.xS.q T.xS.g T.xS.k (raises_own T.xS.s T.xS.t) rfl))) pss_nil) (pss_one (ps_if (pt_cmpR op_ge (pe_callB (call_lenO T.rl.i T.rl.fn GL hr) (by rfl) T.N.k.len PySem.boot_len (pa_cons (pv 0) pa_nil)) (pe_glob (v := .int 100) rfl mr ⟨_, rfl⟩) (nomark _)) (pss_one ps_never) pss_nil))))), ?_⟩
    obtain ⟨dm, g, h, kk, b, hm, hMs, _⟩ := hR.mo.head
    obtain ⟨gs, hs, hg, hRp, _⟩ := id hMs
    have bt : btw 0 (sz : Int) (.int (n : Nat)) = true := decide_eq_true (show (0 : Int) ≤ (n : Int) ∧ (n : Int) ≤ (sz : Int) from ⟨by omega, by omega⟩)
    refine ⟨_, rfl, _, rfl, lv, T.CR, dx, _, _, rfl, hR.at_, T.clR, T.nRs, rf_s .., _, 0, sz, rfl, typed_int _, _, rfl, ?_⟩
    rw [bt]
    refine iteF ?_
    refine ⟨_, rfl, _, _, _, _, true, rfl, .ty "bool", .base (.bl said), kit_ty (by decide +kernel), true, rfl, iteF ?_⟩
    refine ⟨_, rfl, lv, dx, _, rfl, hR.at_, lv, dx, lo, m, dm, g, h, kk, sz, false, b, _, rfl, hR.at_, hm, _, rfl, ?_⟩
    cases hst : (stR sz (ordsR t) (ordsE t) rr).st with
    | true => exact iteT (kE hst)
    | false =>
      refine iteF ?_
      have lg : gs.length = rr.length := by rw [hRp.len, List.length_reverse]
      refine ⟨_, rfl, lv, dx, _, rfl, hR.at_, lv, dx, lo, m, dm, g, h, kk, sz, false, b, _, gs, rfl, hR.at_, hm, hg, gs.length, rfl, by omega, _, _, rfl, rfl, _, rfl, ?_⟩
      rw [show decide ((100 : Int) ≤ ((gs.length : Nat) : Int)) = false from decide_eq_false (by omega)]
      exact iteF (k hst)
/-! ### undo -/
def spRdU (T : TxRd K mg) : Sp := fun vs H Q E => ∃ (lv dx lo m : Addr) (sz : Nat) (t : Str) (rr : List (Nat × Bool)), vs = [.ref lv] ∧ RdAt T H lv dx lo m sz t rr ∧
  (rr = [] → E (.ref T.xN.C) none H) ∧ ∀ r q, rr = r :: q → ∀ (H' : Hp) (m' : Addr), Off lv H H' → RdAt T H' lv dx lo m' sz t q → Q .non H'
theorem scRdU : FnScope ["self"] ["self"] (defScope sRdU) := ⟨rfl, rfl, rfl, by decide +kernel, rfl, by decide +kernel, by decide +kernel⟩
theorem ok_rdu (T : TxRd K mg) : FnOk P w K mg base (L2.CX P w) 2 T.un.f T.un.fd ["self"] (spRdU T) := by
  have GC : FnOk P w K mg base CX0 1 T.cf.f T.cf.fd ["self"] (spRdCf T) := ok_rdcf T
  refine T.un.F.okX scRdU (fun vs H Q E h => ?_) (fun cdv A outer s H vs Q E hr h => ?_)
  · obtain ⟨lv, _, _, _, _, _, _, rfl, _⟩ := h
    rfl
  · obtain ⟨lv, dx, lo, m, sz, t, rr, rfl, hR, kE, k⟩ := h
    refine ⟨_, (pss_cons (ps_expr (pe_meth0 (pv 0) T.clR T.cf.m GC hr T.cf.b .nil pass0)) (pss_cons (ps_if (pt_cmpR op_isN (pe_fld (pe_fld (pv 0) rfl) rfl) pe_non (nomark _)) (pss_one (ps_raise rfl (takes_of rfl rfl rfl rfl) (MkO.pmk_own0 PySem.F.excBase_LookupError T.xN.q T.xN.g T.xN.k (raises_own T.xN.s T.xN.t) rfl))) pss_nil) (pss_one (ps_fld (pv 0) (pe_fld (pe_fld (pv 0) rfl) rfl) rfl)))), ?_⟩
    obtain ⟨dm, g, h, kk, b, hm, hMs, hb⟩ := hR.mo.head
    refine ⟨_, rfl, lv, dx, _, rfl, hR.at_, rf_n4 .., lv, dx, lo, m, sz, rfl, hR.at_, ?_⟩
    refine ⟨_, rfl, lv, T.CR, dx, _, _, rfl, hR.at_, T.clR, T.nRm, rf_m .., m, T.CM, dm, _, _, rfl, hm, T.clM, T.nMb, mf_b .., rfl, _, rfl, ?_⟩
    rcases hb with ⟨rfl, rfl⟩ | ⟨r, q, m', rfl, rfl, hM'⟩
    · rw [decide_eq_true rfl]
      exact iteT (kE rfl)
    · rw [show decide (V.ref m' = V.non) = false from decide_eq_false (by intro z; cases z)]
      refine iteF ?_
      refine ⟨_, rfl, lv, T.CR, dx, _, _, rfl, hR.at_, T.clR, T.nRm, rf_m .., m, T.CM, dm, _, _, rfl, hm, T.clM, T.nMb, mf_b .., _, rfl, lv, T.CR, dx, _, rfl, hR.at_, T.clR, T.nRm, (by show 4 < 1000; decide), ?_⟩
      rw [rf_pm]
      have o : Off lv H (upd H lv (.ins T.CR dx (rf lo sz false m'))) := Off.put Off.refl
      exact k r q rfl _ m' o ⟨upd_same, hR.lo.off3 hR.at_ o, hM'.off hR.at_ o⟩
end
end My

namespace My
open PySem L2 Cm LM EM
section
variable {P : Program} {w : World} {K : PySem.W.Frag} {mg : Str → Option Value} {base : Heap}
theorem sumI : ∀ rs : List (Nat × Bool), (rs.map fun r => ((r.1 : Nat) : Int)).sum = (((rs.map (·.1)).sum : Nat) : Int)
  | [] => rfl
  | r :: q => by
    rw [List.map_cons, List.sum_cons, sumI q, List.map_cons, List.sum_cons]
    omega
theorem rps_snoc {H : Hp} {q : Addr} {r : Nat × Bool} (h : H q = some (.tup [.int r.1, .bl r.2])) : ∀ {vs rs}, Rps H vs rs → Rps H (vs ++ [.ref q]) (rs ++ [r])
  | _, _, .nil => .cons h .nil
  | _, _, .cons a t => .cons a (rps_snoc h t)
theorem st_from {sz : Nat} {ro eo : List (Str × Str)} {r : Nat × Bool} {rr : List (Nat × Bool)} (h : (stR sz ro eo rr).st = false) :
    (stR sz ro eo (r :: rr)).x = ⟨(ansM sz ro eo (itemsF (stR sz ro eo rr).f r.1) r.2 ⟨(stR sz ro eo rr).x.rest, []⟩).1.rest, (stR sz ro eo rr).x.pieces ++ (ansM sz ro eo (itemsF (stR sz ro eo rr).f r.1) r.2 ⟨(stR sz ro eo rr).x.rest, []⟩).1.pieces⟩ ∧
    (stR sz ro eo (r :: rr)).st = (ansM sz ro eo (itemsF (stR sz ro eo rr).f r.1) r.2 ⟨(stR sz ro eo rr).x.rest, []⟩).2 := by
  rw [st_cons h]
  show (ansM sz ro eo (itemsF (stR sz ro eo rr).f r.1) r.2 (stR sz ro eo rr).x).1 = _ ∧ (ansM sz ro eo (itemsF (stR sz ro eo rr).f r.1) r.2 (stR sz ro eo rr).x).2 = _
  rw [ans_from]
  exact ⟨rfl, rfl⟩
/-! ### take -/
/-- the pieces that a reply hands on -/
def newP (sz : Nat) (t : Str) (rr : List (Nat × Bool)) (n : Nat) (said : Bool) : List (List Int) := (ansM sz (ordsR t) (ordsE t) (itemsF (stR sz (ordsR t) (ordsE t) rr).f n) said ⟨(stR sz (ordsR t) (ordsE t) rr).x.rest, []⟩).1.pieces
def spRdT (T : TxRd K mg) : Sp := fun vs H Q E => ∃ (lv dx lo m : Addr) (sz n : Nat) (said : Bool) (t : Str) (rr : List (Nat × Bool)), vs = [.ref lv, .int n, .bl said] ∧ RdAt T H lv dx lo m sz t rr ∧ goodText t = true ∧ 1 ≤ sz ∧ sz ≤ 1000 ∧ n ≤ sz ∧ rr.length < 100 ∧ OkR sz (ordsR t) (ordsE t) rr ∧ (∀ r ∈ rr, r.1 ≤ sz) ∧
  ((stR sz (ordsR t) (ordsE t) rr).st = true → E (.ref T.xS.C) none H) ∧
  ((stR sz (ordsR t) (ordsE t) rr).st = false → ∀ (H' : Hp) (m' q : Addr) (hs : List V), Off lv H H' → RdAt T H' lv dx lo m' sz t ((n, said) :: rr) → H q = none → H' q = some (.tup hs) → Pcs H' hs (newP sz t rr n said) → Q (.ref q) H')
abbrev NT : List Str := ["self", "count", "told", "now", "first", "work", "handed", "reply"]
theorem scRdT : FnScope NT ["self", "count", "told"] (defScope sRdT) := ⟨rfl, rfl, rfl, by decide +kernel, rfl, by decide +kernel, by decide +kernel⟩
/-- reply[0] -/
def tRe0 : TE := fun σ H Q => ∃ (q : Addr) (c : Nat) (b : Bool), σ[7]? = some (some (.ref q)) ∧ H q = some (.tup [.int (c : Nat), .bl b]) ∧ Q (.int (c : Nat)) H
theorem ok_rdt (T : TxRd K mg) : FnOk P w K mg base (L2.CX P w) 5 T.ta.f T.ta.fd ["self", "count", "told"] (spRdT T) := by
  have GC : FnOk P w K mg base (L2.CX P w) 3 T.cr.f T.cr.fd ["self", "count", "told"] (spRdCr T) := ok_rdcr T
  have GX : FnOk P w K mg base CX0 3 T.N.lx.f T.N.lx.fd ["self", "size", "kept"] (spLX T.N.T.C T.N.X.C) := ok_lx T.N
  have GA : FnOk P w K mg base CX0 4 T.N.X.an.f T.N.X.an.fd ["self", "held", "told"] (spXA T.N.X.C) := ok_xa T.N.X
  have GM : FnOk P w K mg base CX0 1 T.fM T.fdM ["self", "before", "given", "handed", "kept", "over"] (spMmI T.CM) := ok_mmi T
  refine T.ta.F.okX scRdT (fun vs H Q E h => ?_) (fun cdv A outer s H vs Q E hr h => ?_)
  · obtain ⟨lv, _, _, _, _, _, _, _, _, rfl, _⟩ := h
    rfl
  · obtain ⟨lv, dx, lo, m, sz, n, said, t, rr, rfl, hR, gt, z1, z2, hn, hl, hok, hc, kE, k⟩ := h
    have hr3 : Room 3 _ := hr.mono (by decide)
    have hr2 : Room 2 _ := hr.mono (by decide)
    refine ⟨_, (pss_cons (ps_expr (pe_meth (E := E) (pv 0) T.clR T.cr.m GC hr3 T.cr.b .nil (passes_call (takes_of rfl rfl rfl rfl) fun _ _ _ _ z => z) (pa_cons (pv 1) (pa_cons (pv 2) pa_nil)))) (pss_cons (ps_set (i := 3) scRdT.nd rfl (.inl rfl) (pe_fld (pv 0) rfl)) (C8.pss_cut (ps_set (i := 4) scRdT.nd rfl (.inl rfl) (pe_callB (cr_sum rfl) (by rfl) T.sum (by decide +kernel) (pa_cons (pe_lc (own := [("reply", 7)]) (g := gName 7) (tt := tYes) (te := tRe0) rfl scRdT.nd (pi_tup (pe_fld (pv 3) rfl)) (blkOk_by (own := [("reply", 7)]) (N := NT) (sc := defScope sRdT) (by decide +kernel)) (fun _ _ _ _ _ => pg_name (i := 7) scRdT.nd rfl (Or.inl rfl)) (fun _ _ _ _ _ => pts_nil) (fun _ _ _ _ _ => by exact pe_imp (t' := tRe0) (pe_ix ix_tup (pv 7) pe_int (fun _ _ => rfl)) (fun σ H Q ⟨q, c, b, h7, hq, k⟩ => ⟨_, h7, q, _, 0, _, rfl, rfl, SqT.of hq, rfl, k⟩))) pa_nil))) (pss_cons (ps_set (i := 5) scRdT.nd rfl (.inl rfl) (pe_meth (pe_fld (pv 0) rfl) T.N.T.cl T.N.lx.m GX hr3 T.N.lx.b .nil pass0 (pa_cons (pe_fld (pv 0) rfl) (pa_cons (pe_fld (pv 3) rfl) pa_nil)))) (pss_cons (ps_expr (pe_meth (pv 5) T.N.X.cl T.N.X.an.m GA hr T.N.X.an.b .nil pass0 (pa_cons (pe_tupRg rfl rfl T.N.k.tuple (prg_2 rfl T.N.X.range (pv 4) (pe_op op_add (pv 4) (pv 1)))) (pa_cons (pv 2) pa_nil)))) (pss_cons (ps_set (i := 6) scRdT.nd rfl (.inl rfl) (pe_callTy call_tuple_of (by rfl) T.N.k.tuple (by decide +kernel) (pa_cons (pe_fld (pv 5) rfl) pa_nil))) (pss_cons (ps_fld (pv 0) (pe_make T.MM GM hr2 rfl T.gM T.bM .nil pass0 (pa_cons (pv 3) (pa_cons (pe_op op_catH (pe_fld (pv 3) rfl) (pe_tup (pa_cons (pe_tup (pa_cons (pv 1) (pa_cons (pv 2) pa_nil))) pa_nil))) (pa_cons (pe_op op_catH (pe_fld (pv 3) rfl) (pv 6)) (pa_cons (pe_fld (pv 5) rfl) (pa_cons (pe_fld (pv 5) rfl) pa_nil)))))) rfl) (pss_one (ps_ret (pv 6)))))))))), ?_⟩
    obtain ⟨dm, g, h, kk, b, hm, hMs, _⟩ := hR.mo.head
    refine ⟨_, rfl, lv, dx, _, rfl, hR.at_, rf_n5 .., _, rfl, _, rfl, lv, dx, lo, m, sz, n, said, t, rr, rfl, hR, hn, hl, kE, fun hst => ?_⟩
    have k := k hst
    obtain ⟨gs, hs, hg, hRp, hh, hP, hk⟩ := id hMs
    refine ⟨_, rfl, lv, T.CR, dx, _, _, rfl, hR.at_, T.clR, T.nRm, rf_m .., ?_⟩
    have lg := hRp.len
    rw [List.length_reverse] at lg
    have ef := ok_f hok
    have gn := good_iff.mp gt
    have lR : (ordsR t).length ≤ 12 := by rw [ordsR, List.length_map]; exact (round_sht gn.1).2
    have lE : (ordsE t).length ≤ 6 := by rw [ordsE, List.length_map]; exact (ending_sht gn.2).2
    have bd := runM_bound (ro := ordsR t) (eo := ordsE t) z1 lR lE rr.reverse (by rw [List.length_reverse]; omega) fun q hq => hc q (List.mem_reverse.mp hq)
    rw [st_run, List.length_reverse] at bd
    have f1 : (stR sz (ordsR t) (ordsE t) rr).f ≤ 99 * 1000 := Nat.le_trans bd.2.1 (Nat.mul_le_mul (by omega) z2)
    have l99 : rr.length ≤ 99 := by omega
    have few : Few sz (18 * 99) (99 * 32724) ⟨(stR sz (ordsR t) (ordsE t) rr).x.rest, []⟩ := ⟨Nat.le_trans bd.1.1 (Nat.mul_le_mul_right _ (Nat.mul_le_mul_left _ l99)), Nat.zero_le _⟩
    have fa := few_ans (ro := ordsR t) (eo := ordsE t) (held := itemsF (stR sz (ordsR t) (ordsE t) rr).f n) (told := said) z1 (by rw [itemsF_len]; exact hn) lR lE (⟨few.1, Nat.zero_le _⟩ : Few sz (18 * 99) 0 ⟨(stR sz (ordsR t) (ordsE t) rr).x.rest, []⟩)
    have sf := st_from (r := (n, said)) hst
    have en : newP sz t rr n said = (ansM sz (ordsR t) (ordsE t) (itemsF (stR sz (ordsR t) (ordsE t) rr).f n) said ⟨(stR sz (ordsR t) (ordsE t) rr).x.rest, []⟩).1.pieces := rfl
    rw [en] at k
    have pl : (stR sz (ordsR t) (ordsE t) rr).x.pieces.length ≤ 99 * 32724 := Nat.le_trans bd.1.2 (Nat.mul_le_mul_right _ l99)
    generalize (stR sz (ordsR t) (ordsE t) rr).f = ff at *
    -- first
    refine ⟨fun σ H' => σ = [some (.ref lv), some (.int n), some (.bl said), some (.ref m), some (.int ff), none, none, none] ∧ Same H H', ?_, ?_⟩
    · refine ⟨_, rfl, m, T.CM, dm, _, _, rfl, hm, T.clM, T.nMg, mf_g .., g, rfl, ⟨_, SqT.of hg⟩, fun D nD => lc_tup (K := K) (a := g) (xs := gs) (fun i H' => Same H H' ∧ H' D = some (.lst (((rr.reverse.take i).map fun r => ((r.1 : Nat) : Int)).map V.int))) ⟨same_new nD, upd_same⟩ (fun i H' _ ⟨s', _⟩ => SqT.of (s' _ _ hg)) ?_ ?_⟩
      · rintro i y H' hy ⟨s', hD⟩
        obtain ⟨q, r, hr0, rfl, hq⟩ := hRp.get hy
        refine ⟨rfl, q, r.1, r.2, rfl, s' _ _ hq, _, hD, szM (by rw [List.length_map, List.length_map, List.length_take, List.length_reverse]; omega), fun b o z => ?_, ?_⟩
        · rw [upd_ne (ne_of_none z nD)]
          exact s' _ _ z
        · rw [upd_same, take_snoc hr0, List.map_append, List.map_append]
          rfl
      · rintro H' ⟨s', hD⟩
        rw [lg, ← List.length_reverse, List.take_length] at hD
        refine ⟨D, _, rfl, SqL.of hD, ?_⟩
        rw [sumI, ← ef]
        exact ⟨rfl, s'⟩
    rintro _ H1 ⟨rfl, s1⟩
    -- work
    have hR1 := hR.same s1
    have hm1 := s1 _ _ hm
    obtain ⟨dlo, pr, pe, po, pq, elo, _⟩ := id hR1.lo
    refine ⟨_, rfl, lv, T.CR, dx, _, _, rfl, hR1.at_, T.clR, T.nRl, rf_l .., lo, dlo, _, rfl, elo, lf_no _ _ _ _ _ (by decide +kernel) (by decide +kernel) (by decide +kernel) (by decide +kernel) (by decide +kernel), ?_⟩
    refine ⟨_, rfl, lv, T.CR, dx, _, _, rfl, hR1.at_, T.clR, T.nRs, rf_s .., _, rfl, m, T.CM, dm, _, _, rfl, hm1, T.clM, T.nMk, mf_k .., ?_⟩
    refine ⟨lo, kk, t, sz, _, rfl, hR1.lo, s1 _ _ hk, fun H2 x dxx ro eo pp s2 nx np X2 hRo hEo => ?_⟩
    obtain ⟨h0, r0, vs0, ee, _⟩ := id X2.ex
    refine ⟨_, rfl, x, dxx, _, rfl, ee, (xf_noA ..).1, _, rfl, _, rfl, _, rfl, _, _, rfl, rfl, _, _, rfl, rfl, RgOk.of_le (by omega) (by omega) (by omega) (by omega), fun z nz => ?_⟩
    rw [rgV_items]
    have s3 : Same H2 (upd H2 z (.tup (ivs (itemsF ff n)))) := same_new nz
    refine ⟨_, rfl, x, dxx, ro, eo, pp, z, _, sz, [], itemsF ff n, false, said, ⟨(stR sz (ordsR t) (ordsE t) rr).x.rest, []⟩, ordsR t, ordsE t, 18 * 99, 99 * 32724, rfl, X2.same s3, upd_same, hRo.ts fun _ _ e => s3 _ _ e, hEo.ts fun _ _ e => s3 _ _ e, lR, lE, ⟨z1, z2, by rw [itemsF_len]; exact hn, by decide, by decide, few⟩, by decide, by decide, fun H4 o4 X4 => ?_⟩
    have s14 : Same H1 H4 := fun b u e => o4 b u (ne_of_none e nx) (ne_of_none e np) (s3 _ _ (s2 _ _ e))
    have s04 := Same.trans s1 s14
    generalize ansM sz (ordsR t) (ordsE t) (itemsF ff n) said ⟨(stR sz (ordsR t) (ordsE t) rr).x.rest, []⟩ = AA at X4 k sf fa
    obtain ⟨h4, r4, vs4, ee4, hh4, hr4, hp4, hP4⟩ := id X4.ex
    -- handed
    refine ⟨_, rfl, x, T.N.X.C, dxx, _, _, rfl, ee4, T.N.X.cl, T.N.X.nP, xf_p .., pp, vs4, rfl, .inl ⟨SqL.of hp4, fun q nq => ?_⟩⟩
    have s5 := same_new (o := .tup vs4) nq
    have hq5 : (upd H4 q (.tup vs4)) q = some (.tup vs4) := upd_same
    have s05 := Same.trans s04 s5
    have ee5 := s5 _ _ ee4
    have hr5 := s5 _ _ hr4
    have hP5 := hP4.same s5
    have nq0 : H q = none := s04.free nq
    show tSeq _ _ _ _ (upd H4 q (.tup vs4))
    generalize upd H4 q (.tup vs4) = H5 at s5 hq5 s05 ee5 hr5 hP5 ⊢
    have lv4 : vs4.length = AA.1.pieces.length := hP4.len
    -- the new moment
    have hm5 := s05 _ _ hm
    refine ⟨_, rfl, _, rfl, m, T.CM, dm, _, _, rfl, hm5, T.clM, T.nMg, mf_g .., _, rfl, _, rfl, (by show 2 ≤ sizeLine; decide), fun a1 n1 => ⟨(by show 1 ≤ sizeLine; decide), fun a2 n2 => ?_⟩⟩
    have u1 := same_new (o := .tup [.int n, .bl said]) n1
    have u2 := same_new (o := .tup [.ref a1]) n2
    have lh : hs.length = (stR sz (ordsR t) (ordsE t) rr).x.pieces.length := hP.len
    have la : AA.1.pieces.length ≤ 0 + 18 * (18 * 99 + 18) := fa.2
    have big : 99 * 32724 + 32400 ≤ sizeLine := by decide
    refine ⟨g, a2, _, _, rfl, rfl, u2 _ _ (u1 _ _ (s05 _ _ hg)), upd_same, szl (by rw [lg]; show rr.length + 1 ≤ 1000; omega), fun H6 q1 s6 h6 => ?_⟩
    have s56 := Same.trans u1 (Same.trans u2 s6)
    refine ⟨_, rfl, m, T.CM, dm, _, _, rfl, s56 _ _ hm5, T.clM, T.nMh, mf_h .., _, rfl, h, q, _, _, rfl, rfl, s56 _ _ (s05 _ _ hh), s56 _ _ hq5, by omega, fun H7 q2 s7 h7 => ?_⟩
    have s57 := Same.trans s56 s7
    refine ⟨_, rfl, x, T.N.X.C, dxx, _, _, rfl, s57 _ _ ee5, T.N.X.cl, T.N.X.nR, xf_r .., _, rfl, x, T.N.X.C, dxx, _, _, rfl, s57 _ _ ee5, T.N.X.cl, T.N.X.nSt, xf_st .., ?_⟩
    intro y dy ny ndy ney
    refine ⟨y, dy, q1, q2, r4, .ref m, AA.2, rfl, upd_same, fun H8 o8 hy => ⟨rfl, ?_⟩⟩
    have s78 := made_same ny ndy o8
    have s58 := Same.trans s57 s78
    have s08 := Same.trans s05 s58
    have at8 := s08 _ _ hR.at_
    have yl : y ≠ lv := (ne_of_none (s57 _ _ (s05 _ _ hR.at_)) ny).symm
    refine ⟨_, rfl, lv, T.CR, dx, _, rfl, at8, T.clR, T.nRm, (by show 4 < 1000; decide), ?_⟩
    rw [rf_pm]
    refine ⟨_, rfl, ?_⟩
    have oL : Off lv H8 (upd H8 lv (.ins T.CR dx (rf lo sz false y))) := Off.put Off.refl
    have ft : ∀ (p : Addr) (xs : List V), H8 p = some (.tup xs) → (upd H8 lv (.ins T.CR dx (rf lo sz false y))) p = some (.tup xs) := fun p xs e => oL _ _ (ne_of e at8 (by intro z; cases z)) e
    have ms : MsAt H8 q1 q2 r4 ((n, said) :: rr).reverse (stR sz (ordsR t) (ordsE t) ((n, said) :: rr)).x := by
      rw [sf.1, List.reverse_cons]
      exact ⟨_, _, s78 _ _ (s7 _ _ h6), rps_snoc (r := (n, said)) (s78 _ _ (s7 _ _ (s6 _ _ (u2 _ _ upd_same)))) (hRp.same s08), s78 _ _ h7, (hP.same s08).app (hP5.same s58), s58 _ _ hr5⟩
    refine k _ y q vs4 (fun b o nb e => by rw [upd_ne nb]; exact s08 _ _ e) ⟨upd_same, (hR.lo.same s08).off3 at8 oL, ?_⟩ nq0 (ft _ _ (s58 _ _ hq5)) ((hP5.same s58).mono ft)
    refine .cons (m' := m) (dm := dy) ?_ (ms.mono ft) ((hR.same s08).mo.off at8 oL)
    rw [upd_ne yl, hy, sf.2]
/-! ### feed -/
theorem scRdF : FnScope ["self", "count", "told"] ["self", "count", "told"] (defScope sRdF) := ⟨rfl, rfl, rfl, by decide +kernel, rfl, by decide +kernel, by decide +kernel⟩
theorem ok_rdf (T : TxRd K mg) : FnOk P w K mg base (L2.CX P w) 6 T.fe.f T.fe.fd ["self", "count", "told"] (spRdT T) := by
  have GC : FnOk P w K mg base CX0 1 T.cf.f T.cf.fd ["self"] (spRdCf T) := ok_rdcf T
  have GT : FnOk P w K mg base (L2.CX P w) 5 T.ta.f T.ta.fd ["self", "count", "told"] (spRdT T) := ok_rdt T
  refine T.fe.F.okX scRdF (fun vs H Q E h => ?_) (fun cdv A outer s H vs Q E hr h => ?_)
  · obtain ⟨lv, _, _, _, _, _, _, _, _, rfl, _⟩ := h
    rfl
  · obtain ⟨lv, dx, lo, m, sz, n, said, t, rr, rfl, hR, rest⟩ := h
    have hr1 : Room 1 _ := hr.mono (by decide)
    refine ⟨_, (pss_cons (ps_expr (pe_meth0 (pv 0) T.clR T.cf.m GC hr1 T.cf.b .nil pass0)) (pss_one (ps_ret (pe_meth (E := E) (pv 0) T.clR T.ta.m GT hr T.ta.b .nil (passes_call (takes_of rfl rfl rfl rfl) fun _ _ _ _ z => z) (pa_cons (pv 1) (pa_cons (pv 2) pa_nil)))))), ?_⟩
    refine ⟨_, rfl, lv, dx, _, rfl, hR.at_, rf_n4 .., lv, dx, lo, m, sz, rfl, hR.at_, ?_⟩
    exact ⟨_, rfl, lv, dx, _, rfl, hR.at_, rf_n3 .., _, rfl, _, rfl, lv, dx, lo, m, sz, n, said, t, rr, rfl, hR, rest⟩
/-! ### check_loop, __init__ -/
def spCKL (T : TxRd K mg) : Sp := fun vs H Q _ => ∃ (lo : Addr) (t : Str), vs = [.ref lo] ∧ LoopAt T.N.T.C H lo t ∧ Q .non H
theorem scCKL : FnScope ["loop"] ["loop"] (defScope sCKL) := ⟨rfl, rfl, rfl, by decide +kernel, rfl, by decide +kernel, by decide +kernel⟩
theorem loop_ty (T : TxRd K mg) {H : Hp} {o : Addr} {t : Str} (h : LoopAt T.N.T.C H o t) : TyX K H (.ref o) (.ref T.N.T.C) := by
  obtain ⟨dx, pr, pe, po, pq, e, _⟩ := h
  exact .base (.ins e T.N.T.cl T.y1 T.y2 T.y3 T.y4)
theorem ok_ckl (T : TxRd K mg) : FnOk P w K mg base CX0 1 T.ckl.f T.ckl.fd ["loop"] (spCKL T) := by
  refine T.ckl.F.ok scCKL (fun vs H Q E h => ?_) (fun cdv A outer s H vs Q E hr h => ?_)
  · obtain ⟨lo, t, rfl, _⟩ := h
    rfl
  · obtain ⟨lo, t, rfl, hL, k⟩ := h
    exact ⟨_, (pss_one (ps_if (pt_not (pt_val (pe_callB call_isi (by rfl) T.N.k.isi (by decide +kernel) (pa_cons (pv 0) (pa_cons (pe_glob (v := .ref T.N.T.C) rfl T.N.T.gC rfl) pa_nil))))) (pss_one ps_never) pss_nil)), _, rfl, _, _, _, _, true, rfl, .own T.N.T.C, loop_ty T hL, T.y5, true, rfl, iteF k⟩
def spRdI (T : TxRd K mg) : Sp := fun vs H Q _ => ∃ (x dx lo : Addr) (sz : Nat) (t : Str), vs = [.ref x, .ref lo, .int sz] ∧ H x = some (.ins T.CR dx []) ∧ LoopAt T.N.T.C H lo t ∧ 1 ≤ sz ∧ sz ≤ 1000 ∧ ∀ (H' : Hp) (m : Addr), Off x H H' → RdAt T H' x dx lo m sz t [] → Q .non H'
theorem scRdI : FnScope ["self", "loop", "size"] ["self", "loop", "size"] (defScope sRdI) := ⟨rfl, rfl, rfl, by decide +kernel, rfl, by decide +kernel, by decide +kernel⟩
theorem ok_rdi (T : TxRd K mg) : FnOk P w K mg base (L2.CX P w) 4 T.fR T.fdR ["self", "loop", "size"] (spRdI T) := by
  have GK : FnOk P w K mg base CX0 1 T.ckl.f T.ckl.fd ["loop"] (spCKL T) := ok_ckl T
  have GS : FnOk P w K mg base (L2.CX P w) 3 T.N.k.cks.f T.N.k.cks.fd ["size"] (spCKS K T.N.k.eS.C) := ok_cks T.N.k
  have GM : FnOk P w K mg base CX0 1 T.fM T.fdM ["self", "before", "given", "handed", "kept", "over"] (spMmI T.CM) := ok_mmi T
  refine T.FR.okX scRdI (fun vs H Q E h => ?_) (fun cdv A outer s H vs Q E hr h => ?_)
  · obtain ⟨x, dx, lo, sz, t, rfl, _⟩ := h
    rfl
  · obtain ⟨x, dx, lo, sz, t, rfl, hx, hL, z1, z2, k⟩ := h
    have hr1 : Room 1 _ := hr.mono (by decide)
    have hr2 : Room 2 _ := hr.mono (by decide)
    refine ⟨_, (pss_cons (ps_expr (pe_call GK hr1 rfl T.ckl.g T.ckl.k T.ckl.b .nil pass0 (pa_cons (pv 1) pa_nil))) (pss_cons (ps_expr (pe_call GS hr rfl T.N.k.cks.g T.N.k.cks.k T.N.k.cks.b .nil pass_none (pa_cons (pv 2) pa_nil))) (pss_cons (ps_fld (pv 0) (pv 1) rfl) (pss_cons (ps_fld (pv 0) (pv 2) rfl) (pss_cons (ps_fld (pv 0) pe_bl rfl) (pss_one (ps_fld (pv 0) (pe_make T.MM GM hr2 rfl T.gM T.bM .nil pass0 (pa_cons pe_non (pa_cons (pe_tup pa_nil) (pa_cons (pe_tup pa_nil) (pa_cons (pe_tup pa_nil) (pa_cons pe_bl pa_nil)))))) rfl))))))), ?_⟩
    refine ⟨_, rfl, lo, t, rfl, hL, ?_⟩
    have hb : btw 1 1000 (.int (sz : Int)) = true := decide_eq_true (show (1 : Int) ≤ (sz : Int) ∧ (sz : Int) ≤ 1000 from ⟨by omega, by omega⟩)
    refine ⟨_, rfl, .int sz, rfl, typed_int _, fun _ => ?_, fun z => absurd (hb.symm.trans z) (by decide)⟩
    refine ⟨_, rfl, _, rfl, x, T.CR, dx, _, rfl, hx, T.clR, T.nRl, (by show 0 < 1000; decide), ?_⟩
    refine ⟨_, rfl, _, rfl, x, T.CR, dx, _, rfl, upd_same, T.clR, T.nRs, (by show 1 < 1000; decide), ?_⟩
    refine ⟨_, rfl, x, T.CR, dx, _, rfl, upd_same, T.clR, T.nRb, small8 (Nat.le_trans (putF8 (n := 1) (by show 1 ≤ 1; decide)) (by decide)), ?_⟩
    have o1 : Off x H (upd (upd (upd H x (.ins T.CR dx (putF "loop" (.ref lo) []))) x (.ins T.CR dx (putF "size" (.int sz) (putF "loop" (.ref lo) [])))) x (.ins T.CR dx (putF "busy" (.bl false) (putF "size" (.int sz) (putF "loop" (.ref lo) []))))) := fun b o nb e => by
      rw [upd_ne nb, upd_ne nb, upd_ne nb]
      exact e
    have hx1 : (upd (upd (upd H x (.ins T.CR dx (putF "loop" (.ref lo) []))) x (.ins T.CR dx (putF "size" (.int sz) (putF "loop" (.ref lo) [])))) x (.ins T.CR dx (putF "busy" (.bl false) (putF "size" (.int sz) (putF "loop" (.ref lo) []))))) x = some (.ins T.CR dx (putF "busy" (.bl false) (putF "size" (.int sz) (putF "loop" (.ref lo) [])))) := upd_same
    generalize upd (upd (upd H x (.ins T.CR dx (putF "loop" (.ref lo) []))) x (.ins T.CR dx (putF "size" (.int sz) (putF "loop" (.ref lo) [])))) x (.ins T.CR dx (putF "busy" (.bl false) (putF "size" (.int sz) (putF "loop" (.ref lo) [])))) = H1 at o1 hx1 ⊢
    refine ⟨(by show 0 ≤ sizeLine; decide), fun g ng => ⟨(by show 0 ≤ sizeLine; decide), fun h nh => ⟨(by show 0 ≤ sizeLine; decide), fun kk nk => ?_⟩⟩⟩
    have u1 := same_new (o := .tup []) ng
    have u2 := same_new (o := .tup []) nh
    have u3 := same_new (o := .tup []) nk
    intro y dy ny ndy ney
    refine ⟨y, dy, g, h, kk, .non, false, rfl, upd_same, fun H8 o8 hy => ⟨rfl, ?_⟩⟩
    have s8 := Same.trans u1 (Same.trans u2 (Same.trans u3 (made_same ny ndy o8)))
    have hx8 := s8 _ _ hx1
    have yx : y ≠ x := (ne_of_none (u3 _ _ (u2 _ _ (u1 _ _ hx1))) ny).symm
    have sy := made_same ny ndy o8
    refine ⟨_, rfl, x, T.CR, dx, _, rfl, hx8, T.clR, T.nRm, small8 (Nat.le_trans (putF8 (putF8 (n := 1) (by show 1 ≤ 1; decide))) (by decide)), ?_⟩
    have oF : Off x H (upd H8 x (.ins T.CR dx (rf lo sz false y))) := fun b o nb e => by
      rw [upd_ne nb]
      exact s8 _ _ (o1 _ _ nb e)
    have ft : ∀ (p : Addr) (xs : List V), H8 p = some (.tup xs) → (upd H8 x (.ins T.CR dx (rf lo sz false y))) p = some (.tup xs) := fun p xs e => by
      rw [upd_ne (ne_of e hx8 (by intro z; cases z))]
      exact e
    refine k (upd H8 x (.ins T.CR dx (rf lo sz false y))) y oF ⟨upd_same, ?_, ?_⟩
    · have f0 : ∀ (p : Addr) (xs : List V), H p = some (.tup xs) → (upd H8 x (.ins T.CR dx (rf lo sz false y))) p = some (.tup xs) := fun p xs e => oF _ _ (ne_of e hx (by intro z; cases z)) e
      obtain ⟨dlo, pr, pe, po, pq, e1, e2, e3, e4, e5⟩ := hL
      exact ⟨dlo, pr, pe, po, pq, oF _ _ (ne_of e1 hx fun z => by have e := congrArg List.length (HO.ins.inj z).2.2; have l5 : (lf t pr pe po pq).length = 5 := rfl; rw [l5] at e; cases e) e1, f0 _ _ e2, f0 _ _ e3, e4.mono f0, e5.mono f0⟩
    · refine .nil (dm := dy) (g := g) (h := h) (k := kk) (by rw [upd_ne yx]; exact hy) ⟨[], [], ft _ _ (sy _ _ (u3 _ _ (u2 _ _ upd_same))), .nil, ft _ _ (sy _ _ (u3 _ _ upd_same)), .nil, ft _ _ (sy _ _ upd_same)⟩
end
end My

/-! own exceptions as values: made by position and by keyword, read, asked for their classes -/
namespace ExV
open PySem PySem.W PySem.Calls PyProof.Rows PySem.HandSPX Builtin
section
variable {prog : Program} {w : World} {A : Around} {Er : Value → Shared → Prop} {R : Result → Shared → Prop} {hp : Heap} {g : Array GenState} {dr : Drawn} {tk : Nat} {os : OsState}
variable {nm q : Str} {C N : Addr} {bs bm tail : List Value} {hasD : Bool} {sn : List Str} {sub : List Value} {ab : Bool} {col : Option Bool} {dd : Option Addr} {k0 k1 k2 k3 k5 : Option Value} {B nId iId : String} {kw : List (Str × Value)}
theorem chkK {M : Model} {Q : Unit → Shared → Prop} (F : ExcBaseFacts B nId iId tail) (same : ∀ Y : String, bm.contains (.type Y) = tail.contains (.type Y)) (atC : hp.get? C = some (excClassObj nm q C N bs bm hasD sn sub ab col dd k0 k1 k2 k3 k5 nId)) (hq : Q () ⟨hp, g, dr, tk, os⟩) :
    wpAny M A (checkBuiltinCall nId ⟨[.ref C], kw⟩) Q Er ⟨hp, g, dr, tk, os⟩ := by
  have inB : (Value.ref C :: bm).contains (.type B) = true := by
    rw [List.contains_cons, same, F.hasB]
    simp
  have noS := F.noStar
  unfold checkBuiltinCall
  simp only [F.newKind, F.newSplit, F.newRow]
  repeat (first | refine wpAny_loadPart_at atC ?_ | (refine wpAny_isSubtype_exc atC ?_; rw [inB]) | refine wpAny_staticBase_exc atC ?_ | refine wpAny_madeBy_exc atC ?_ | simp only [bne_self_eq_false, Bool.false_eq_true, if_false] | wp_step)
  exact hq
theorem newK (F : ExcBaseFacts B nId iId tail) (same : ∀ Y : String, bm.contains (.type Y) = tail.contains (.type Y)) (atC : hp.get? C = some (excClassObj nm q C N bs bm hasD sn sub ab col dd k0 k1 k2 k3 k5 nId))
    (hq : R (.ok (.ret (.ref (hp.objs.size + 1)))) ⟨(hp.push (kdv_tup [])).push (excO C hp.objs.size), g, dr, tk, os⟩) : codeAny (model prog w) A (.builtin nId ⟨[.ref C], kw⟩) R ⟨hp, g, dr, tk, os⟩ := by
  have ends := F.ends
  have inB : (Value.ref C :: bm).contains (.type B) = true := by
    rw [List.contains_cons, same, F.hasB]
    simp
  have inA : (Value.ref C :: bm).contains (.type "AttributeError") = false := by
    rw [List.contains_cons, same, F.noAttr]
    rfl
  have inN : (Value.ref C :: bm).contains (.type "NameError") = false := by
    rw [List.contains_cons, same, F.noName]
    rfl
  have few : ([] : List Value).length ≤ sizeLine := Nat.zero_le _
  refine codeAny_builtinAt F.entry ?_
  unfold Builtin.«BaseException.__new__»
  refine PySem.wpAt_bind ?_
  show PySem.wpAt _ _ _ (stack >>= _) _ _ _
  refine PySem.wpAt_bind (PySem.wpAt_stack fun p below => PySem.wpAt_of_wpAny ?_)
  wp_walk
  refine PySem.wpAt_of_wpAny ?_
  rw [F.owner]
  repeat (first | with_reducible refine wpAny_madeHere_exc F.canon atC ?_ | with_reducible refine wpAny_loadPart_at atC ?_ | (with_reducible refine wpAny_isSubtype_exc atC ?_; first | rw [inB] | rw [inA] | rw [inN]) | wp_step)
  show R _ _
  rw [Heap.size_push]
  exact hq
theorem typeK {fI : Addr} {Q : Fin → Shared → Prop} (F : ExcBaseFacts B nId iId tail) (same : ∀ Y : String, bm.contains (.type Y) = tail.contains (.type Y)) (atC : hp.get? C = some (excClassObj nm q C N bs bm hasD sn sub ab col dd k0 k1 k2 k3 k5 nId))
    (find : Looks (model prog w) hp (typeLookup (.ref C) "__init__") (some (.ref fI))) (bind : ∀ self, Looks (model prog w) hp (bindSpecial (.ref fI) self) (.ref fI, [self]))
    (hq : codeAny (model prog w) A (.call (.ref fI) ⟨[.ref (hp.objs.size + 1)], kw⟩) (fun r s' => match r with | .ok (.ret v) => v = .none ∧ Q (.done (.ret (.ref (hp.objs.size + 1)))) s' | .ok _ => False | .error e => Er e s')
      ⟨(hp.push (kdv_tup [])).push (excO C hp.objs.size), g, dr, tk, os⟩) : wpAny (model prog w) A (Builtin.«type.__call__» ⟨[.ref C], kw⟩) Q Er ⟨hp, g, dr, tk, os⟩ := by
  repeat (first | with_reducible refine wpAny_loadPart_at atC ?_ | with_reducible refine wpAny_madeBy_exc atC ?_ | wp_step)
  refine codeAny_call_builtin_code (Code.quiet_builtin _ F.quiet) (chkK F same atC ?_)
  refine newK F same atC ?_
  show wpAny _ _ _ _ _ _
  have stay : ∀ b o, hp.get? b = some o → ((hp.push (kdv_tup [])).push (excO C hp.objs.size)).get? b = some o := fun b o e => Heap.get?_push_of_some _ (Heap.get?_push_of_some _ e)
  have atC1 := stay _ _ atC
  have new : ((hp.push (kdv_tup [])).push (excO C hp.objs.size)).get? (hp.objs.size + 1) = some (excO C hp.objs.size) := by heap_get
  have itself : (Value.ref C :: bm).contains (.ref C) = true := by simp
  have f1 := find.keeps stay
  have b1 := (bind (.ref (hp.objs.size + 1))).keeps stay
  unfold isInstance
  repeat (first | with_reducible refine wpAny_loadPart_at new ?_ | (with_reducible refine wpAny_isSubtype_exc atC1 ?_; rw [itself]) | wp_step)
  show wpAny _ _ (typeLookup (.ref C) _) _ _ _
  refine f1.at ?_
  refine wpAny_holding (wpAny_bind (b1.at ?_))
  refine wpAny_bind (wpAny_call (codeAny_mono hq fun r s' z => ?_))
  rcases r with e | (v | _ | _ | _) <;> first | exact z | exact z.elim | skip
  obtain ⟨rfl, z⟩ := z
  first
    | exact wpAny_pure (wpAny_pure z)
    | (wp_walk; exact z)
theorem callK {fI : Addr} (F : ExcBaseFacts B nId iId tail) (same : ∀ Y : String, bm.contains (.type Y) = tail.contains (.type Y)) (atC : hp.get? C = some (excClassObj nm q C N bs bm hasD sn sub ab col dd k0 k1 k2 k3 k5 nId))
    (find : Looks (model prog w) hp (typeLookup (.ref C) "__init__") (some (.ref fI))) (bind : ∀ self, Looks (model prog w) hp (bindSpecial (.ref fI) self) (.ref fI, [self]))
    (hq : codeAny (model prog w) (A.under (.builtin "type.__call__" ⟨[.ref C], kw⟩)) (.call (.ref fI) ⟨[.ref (hp.objs.size + 1)], kw⟩) (InitBack (hp.objs.size + 1) R) ⟨(hp.push (kdv_tup [])).push (excO C hp.objs.size), g, dr, tk, os⟩) :
    codeAny (model prog w) A (.call (.ref C) ⟨[], kw⟩) R ⟨hp, g, dr, tk, os⟩ := by
  have f1 := tc_lookup
  have f2 := tc_bind (.ref C)
  have isTy : (⟨hp, g, dr, tk, os⟩ : Shared).TypeIs (.ref C) "type" := ⟨_, atC, rfl⟩
  refine codeAny_of_tree ?_
  show wpAny _ _ (callAny (.ref C) _) _ _ _
  repeat (any_goals (first | assumption | with_reducible refine wpAny_loadPart_at atC ?_ | wp_step))
  refine ⟨rfl, ?_⟩
  refine codeAny_call_builtin_at (Code.quiet_builtin _ (by decide +kernel)) entry_typeCall (wpAny_check_type_call_sub atC (typeK F same atC find bind ?_))
  refine codeAny_mono hq fun r s' z => ?_
  rcases r with e | (v | _ | _ | _) <;> exact z
end
/-! ### what stands behind the own classes -/
inductive Behind (tail : List Value) : List Value → Prop
  | here : Behind tail tail
  | own {c : Addr} {r : List Value} : Behind tail r → Behind tail (.ref c :: r)
structure Tail (B nId iId : String) (tail : List Value) : Prop where
  F : ExcBaseFacts B nId iId tail
  pass : ∀ self, refuseLoop self "__setattr__" tail = pure ()
  obj : tail.contains (.type "object") = true
  ne : tail.isEmpty = false
theorem tail_V : Tail "ValueError" "ValueError.__new__" "ValueError.__init__" [.type "ValueError", .type "Exception", .type "BaseException", .type "object"] := ⟨PySem.F.excBase_ValueError, fun self => PySem.F.store_ValueError.passes self, by decide +kernel, rfl⟩
theorem tail_A : Tail "ArithmeticError" "ArithmeticError.__new__" "ArithmeticError.__init__" [.type "ArithmeticError", .type "Exception", .type "BaseException", .type "object"] := ⟨PySem.F.excBase_ArithmeticError, fun self => PySem.F.store_ArithmeticError.passes self, by decide +kernel, rfl⟩
theorem Behind.contains {tail l : List Value} (h : Behind tail l) (Y : String) : l.contains (.type Y) = tail.contains (.type Y) := by
  induction h with
  | here => rfl
  | own _ ih =>
    rw [List.contains_cons, ih]
    rfl
theorem Behind.pass {B nId iId : String} {tail l : List Value} (T : Tail B nId iId tail) (h : Behind tail l) (self : Value) : refuseLoop self "__setattr__" l = pure () := by
  induction h with
  | here => exact T.pass self
  | own _ ih =>
    rw [refuseLoop_ref]
    exact ih
theorem Behind.ne {B nId iId : String} {tail l : List Value} (T : Tail B nId iId tail) (h : Behind tail l) : l.isEmpty = false := by
  cases h with
  | here => exact T.ne
  | own _ => rfl
section
open ObjectAttr
variable {prog : Program} {w : World} {A : Around} {R : Result → Shared → Prop} {hp : Heap} {g : Array GenState} {dr : Drawn} {tk : Nat} {os : OsState}
/-- the first field of an exception -/
theorem osaT {K : Frag} {name : Str} {tn : Tok} {v : Value} {x C : Addr} {fv : Array Value} {cd : ClassData} {B nId iId : String} {tail : List Value} (T : Tail B nId iId tail)
    (X : K.In hp) (hx : hp.get? x = some { cls := .ref C, data := .fields fv }) (hcd : clsIn K C = some cd) (hm : Behind tail cd.mro) (hh : cd.hasDict = true) (no : findIn K (.ref C) name = some none)
    (hq : ∀ h' tk', (∀ b o, b ≠ x → hp.get? b = some o → h'.get? b = some o) → h'.get? x = some { cls := .ref C, dict := some hp.objs.size, data := .fields fv } →
      h'.Ns1 hp.objs.size (fun y => if y = name then some v else none) → R (.ok (.ret .none)) ⟨h', g, dr, tk', os⟩) :
    codeAny (model prog w) A (.call (.builtin "object.__setattr__") ⟨[.ref x, .str name tn, v], []⟩) R ⟨hp, g, dr, tk, os⟩ := by
  have at_ : InstAt hp x { cls := .ref C, data := .fields fv } C none := ⟨hx, rfl, rfl, trivial⟩
  have S := PySem.F.store_object
  have mroHas : cd.mro.contains (.type "object") = true := (hm.contains "object").trans T.obj
  have apart : x ≠ hp.objs.size := Nat.ne_of_lt (Heap.lt_size hx)
  have isObj : Looks (model prog w) hp (isInstance (.ref x) (.type "object")) true := at_.type.andThen (looks_mroIn X (by
    unfold mroIn
    rw [hcd, Option.bind_some, if_neg (by rw [hm.ne T]; decide), mroHas]))
  refine codeAny_call_builtin S.slot.plain S.entry ?_
  refine @check_slot (model prog w) _ _ ⟨hp, g, dr, tk, os⟩ "object.__setattr__" "object" "__setattr__" (.ref x) [.str name tn, v] [] _ S.kind S.split isObj (S.args (.ref x) (.str name tn) v) ?_
  have mroIs : Looks (model prog w) hp (mroOf (.ref C)) cd.mro := (looks_clsIn X hcd).andThen .now
  have noTaker : Looks (model prog w) hp (storeTaker? none) none := .now
  have dataIs : Looks (model prog w) hp (classData C) cd := looks_clsIn X hcd
  rw [osa_eq, refuse_eq]
  refine wpAny_bind (wpAny_bind (at_.type.at (wpAny_bind (mroIs.at ?_))))
  rw [hm.pass T]
  refine wpAny_pure (wpAny_bind (at_.type.at (wpAny_bind ((looks_findIn X no).at (wpAny_bind (noTaker.at ?_))))))
  show wpAny _ _ (storeInOwnDict (.ref x) (.ref C) (.str name tn) name v false) _ _ _
  obtain ⟨c1, c2, c3, c4, c5, c6, c7, c8, c9, ca, cb⟩ := cd
  dsimp only at hh
  subst hh
  unfold storeInOwnDict ownDictForStores
  repeat (first | with_reducible refine store_in_new ?_ ?_ | with_reducible refine wpAny_loadPart_at hx ?_ | with_reducible refine dataIs.at ?_ | wp_step)
  · exact ⟨_, #[], _, (Heap.get?_update_ne _ _ _ _ apart.symm).trans (Heap.get?_push_at rfl rfl), rfl, fun e he => absurd he (by simp), fun _ => rfl⟩
  · intro h' tk' ns but
    have hx1 : (hp.push { cls := .type "dict", data := .dict #[] }).get? x = some { cls := .ref C, data := .fields fv } := Heap.get?_push_of_some _ hx
    refine hq h' tk' (fun b o nb e => ?_) ((but.2 x apart).trans (Heap.get?_update_self _ hx1 rfl)) ns
    refine (but.2 b (Nat.ne_of_lt (Heap.lt_size e))).trans ?_
    rw [Heap.get?_update_ne _ _ _ _ nb]
    exact Heap.get?_push_of_some _ e
end
end ExV

namespace ExV
open PySem PySem.Spec PyProof.Rows L2
/-- what the written part says of an own exception class -/
structure XvC (K : PySem.W.Frag) (C : Addr) (nId : String) (tail : List Value) : Prop where
  cls : ∃ nm q N bs bm sn sub ab col dd k0 k1 k2 k3 k5, K.lookup C = some (excClassObj nm q C N bs bm true sn sub ab col dd k0 k1 k2 k3 k5 nId) ∧ Behind tail bm
  sa : PySem.W.findIn K (.ref C) "__setattr__" = some (some (.builtin "object.__setattr__"))
  kC : PySem.W.keepIn K (.ref C) = true
/-- an error of the class at C, at a: its field f holds v -/
def Err (H : Hp) (a C : Addr) (f : Str) (v : V) : Prop := ∃ dx, H a = some (exo a C (some dx)) ∧ H dx = some (exd dx [(f, v)])
theorem Err.same {H H' : Hp} {a C : Addr} {f : Str} {v : V} (h : Err H a C f v) (s : ∀ b o, H b = some o → H' b = some o) : Err H' a C f v := let ⟨dx, x, y⟩ := h; ⟨dx, s _ _ x, s _ _ y⟩
section
variable {X : Cx} {pins : List (Addr × Obj)} {σ : L2.St} {H : Hp} {s : Shared} {a C : Addr} {f : Str} {y : V} {u : Value} {Q : Unit → Shared → Prop} {Er : Value → Shared → Prop} {A : Around} {B nId iId : String} {tail : List Value}
theorem ostV (T : Tail B nId iId tail) (VC : XvC X.K C nId tail) (I : Inv X pins σ H s) (e : H a = some (exo a C none)) (no : PySem.W.findIn X.K (.ref C) f = some none) (ry : RelV y u)
    (h : ∀ dx s', H dx = none → dx ≠ a → Inv X pins σ (upd (upd H dx (exd dx [(f, y)])) a (exo a C (some dx))) s' → Q () s') : wpAny (model X.prog X.w) A (setAttr (.ref a) f u) Q Er s := by
  obtain ⟨nm, q, N, bs, bm, sn, sub, ab, col, dd, k0, k1, k2, k3, k5, lC, beh⟩ := VC.cls
  have cd : PySem.W.clsIn X.K C = some { name := nm, bases := bs, mro := .ref C :: bm, ns := N, qualname := q, hasDict := true, slotNames := sn, subclasses := sub, abstract := ab, collection := col, hasDel := false } := by
    unfold PySem.W.clsIn
    rw [lC] <;> rfl
  obtain ⟨t1, at_⟩ := exo_at I.hok e
  obtain ⟨hp, g, d, t, os⟩ := s
  refine PySem.W.set_plain I.kIn (ox := { cls := .ref C, dict := none, data := .fields #[.ref t1, .none, .none, .none, .bool false, .none] }) (od := none) ⟨at_, rfl, rfl, trivial⟩ VC.sa ?_
  refine osaT T I.kIn at_ cd (.own beh) rfl no fun h' tk' k hx hn => ?_
  have nd : H hp.objs.size = none := I.hok.fresh (Nat.le_refl _)
  have ne : hp.objs.size ≠ a := Nat.ne_of_gt (Heap.lt_size at_)
  obtain ⟨oD, es, ep, atD, rD⟩ := id hn
  have fr : oD.isFreed = false := by
    obtain ⟨r1, _⟩ := rD
    cases oD
    dsimp only at r1
    subst r1
    rfl
  have J1 : Inv X pins σ (upd H hp.objs.size (exd hp.objs.size [(f, y)])) ⟨hp.push oD, g, d, tk', os⟩ :=
    I.laid (t' := tk') (fun b o q => Heap.get?_push_of_some _ q) (Nat.le_refl _) (exd_ok (mA := fun z => if z = f then some u else none) ⟨oD, es, ep, Heap.get?_push_at rfl fr, rD⟩ (relO_put (fs := []) ry fun _ => True.intro))
  have stay : ∀ b o, b ≠ a → (hp.push oD).get? b = some o → h'.get? b = some o := fun b o nb q => by
    rcases Heap.get?_push_cases q with ⟨rfl, rfl⟩ | q
    · exact atD
    · exact k b o nb q
  have e1 : (upd H hp.objs.size (exd hp.objs.size [(f, y)])) a = some (exo a C none) := by
    rw [upd_ne (Ne.symm ne)]
    exact e
  exact h _ _ nd ne (J1.write (t' := tk') (x := a) (e := a) (o := exo a C (some hp.objs.size)) (by rw [e1]; exact True.intro) (.inl rfl) stay ⟨_, hx⟩ (exo_ok hx))
end
/-- self.f = e, where self has no field yet -/
def tOstV (K : PySem.W.Frag) (f : Str) (to te : TE) : TS := fun D σ H => te σ H fun y H1 => to σ H1 fun x H2 => ∃ (a C : Addr) (B nId iId : String) (tail : List Value), x = .ref a ∧ Tail B nId iId tail ∧ XvC K C nId tail ∧ PySem.W.findIn K (.ref C) f = some none ∧
  H2 a = some (exo a C none) ∧ ∀ dx, H2 dx = none → dx ≠ a → D.nx σ (upd (upd H2 dx (exd dx [(f, y)])) a (exo a C (some dx)))
/-- what such an __init__ promises -/
def spIni (C : Addr) (f : Str) : Sp := fun vs H Q _ => ∃ (a : Addr) (v : V), vs = [.ref a, v] ∧ H a = some (exo a C none) ∧ ∀ dx, H dx = none → dx ≠ a → Q .non (upd (upd H dx (exd dx [(f, v)])) a (exo a C (some dx)))
theorem made {C a : Addr} {f : Str} {v : V} {H1 : Hp} {Q : VK} (na : H1 a = none) (q : ∀ (a : Addr) (H' : Hp), Same H1 H' → Err H' a C f v → Q (.ref a) H') :
    spIni C f [.ref a, v] (upd H1 a (exo a C none)) (fun r H2 => r = .non ∧ Q (.ref a) H2) fun _ _ _ => False := by
  refine ⟨a, v, rfl, upd_same, fun dx ndx nda => ⟨rfl, q a _ (fun b o e => ?_) ⟨dx, upd_same, ?_⟩⟩⟩
  · rw [upd_ne nda] at ndx
    rw [upd_ne (ne_of_none e na), upd_ne (ne_of_none e ndx), upd_ne (ne_of_none e na)]
    exact e
  · rw [upd_ne nda, upd_same]
def tMkV (C : Addr) (f : Str) (te : TE) : TE := fun σ H Q => te σ H fun v H1 => ∀ (a : Addr) (H' : Hp), Same H1 H' → Err H' a C f v → Q (.ref a) H'
section
variable {X : Cx} {o e : Expr} {to te : TE} {f : Str} {p p' pos : Pos}
theorem ps_ostV (ho : PE X o to) (he : PE X e te) (hs : swapsWith e (some (.Attribute o f p')) pos.line X.env = pure false := by rfl) : PS X (.Assign [.Attribute o f p'] e pos) (tOstV X.K f to te) := by
  refine ⟨fun pins s σ H D I h => ?_⟩
  refine plainObj_wpAny_Assign_Attribute (thn (he.run pins s σ H _ I h) fun v s1 w1 => ?_) hs
  obtain ⟨y, H1, I1, r1, q1⟩ := w1
  refine thn (ho.run pins s1 σ H1 _ I1 q1) fun u s2 w2 => ?_
  obtain ⟨x, H2, I2, r2, a, C, B, nId, iId, tail, rfl, T, VC, no, ea, q⟩ := w2
  cases r2
  exact ostV T VC I2 ea no r1 fun dx s' n ne J => ⟨σ, _, J, q dx n ne⟩
/-- C(e), as a value -/
theorem pe_mkV {x : Str} {C fI : Addr} {k : Nat} {fd : FuncData} {n1 n2 : Str} {B nId iId : String} {tail : List Value} (T : Tail B nId iId tail) (VC : XvC X.K C nId tail) (iC : PySem.W.findIn X.K (.ref C) "__init__" = some (some (.ref fI))) (tI : PySem.W.typeIn X.K (.ref fI) = some (.type "function"))
    (F1 : FnOk X.prog X.w X.K X.mg X.base CX0 k fI fd [n1, n2] (spIni C f)) (hr : Room (k + 1) X.A) (hb : Binds X.K fd [n1, n2] []) (hg : Gl X x) (hm : X.mg x = some (.ref C)) (he : PE X e te)
    (hdb : (x == ("__debug__" : Str)) = false := by decide) (hs : starEach [e] X.env = (false, eval e X.env) :: starEach [] X.env := by rfl) :
    PE X (.Call (.Name x p) [e] [] pos) (tMkV C f te) := by
  refine ⟨fun pins s σ H Q I h => ?_⟩
  obtain ⟨nm, q, N, bs, bm, sn, sub, ab, col, dd, k0, k1, k2, k3, k5, lC, beh⟩ := VC.cls
  refine wpAny_Call_Name_kw (ld_glob I hg hm ?_ hdb)
  refine PySem.W.callWith_K (h₀ := X.base) I.ok.mod.kin VC.kC ?_ hs (by rfl)
  rw [hs]
  refine Calls.spliced_cons (thn (he.run pins s σ H _ I h) fun u s1 ⟨v, H1, I1, r1, q1⟩ => Calls.spliced_nil ⟨I1.kIn, ?_⟩)
  show wpAny _ _ (call (.ref C) [u]) _ _ _
  obtain ⟨hp, g, dr, tk, os⟩ := s1
  have room : hp.objs.size ≤ hp.objs.size + 1 := Nat.le_succ _
  have na : H1 (hp.objs.size + 1) = none := I1.hok.fresh room
  have hq := made (C := C) (f := f) (Q := Q) na q1
  have I2 : Inv X pins σ (upd H1 (hp.objs.size + 1) (exo (hp.objs.size + 1) C none)) ⟨(hp.push (PySem.W.kdv_tup [u])).push (PySem.HandSPX.excO C hp.objs.size), g, dr, tk, os⟩ :=
    I1.laid (t' := tk) (fun b o z => Heap.get?_push_of_some _ (Heap.get?_push_of_some _ z)) room (exo_ok (t1 := hp.objs.size) (by heap_get))
  have r2 : Vals [V.ref (hp.objs.size + 1), v] [Value.ref (hp.objs.size + 1), u] := .cons rfl (.cons r1 .nil)
  refine wpAny_call (PySem.HandSPX.call_own T.F (fun Y => beh.contains Y) (I1.kIn _ _ lC) (PySem.W.looks_findIn I1.kIn iC) (fun self => PySem.W.bind_fn I1.kIn self tI) (by show 1 ≤ sizeLine; decide) ?_)
  refine codeAny_mono (F1.run _ X.stack _ _ ⟨[Value.ref (hp.objs.size + 1), u], []⟩ [Value.ref (hp.objs.size + 1), u] _ _ _ (hr.make C [u] []) (I2.env0.make C [u] []) (hb _ [Value.ref (hp.objs.size + 1), u] I2.kIn rfl) r2 hq) fun r s' hq' => ?_
  match r, hq' with
  | .error er, hq' => exact (show False from hq').elim
  | .ok (.ret z), hq' =>
    obtain ⟨v2, H', I3, rv, rfl, q3⟩ := I2.after hq'
    exact ⟨rv, ⟨V.ref (hp.objs.size + 1), H', I3, rfl, q3⟩⟩
/-- C(f=e), as a value -/
theorem pe_mkVK {x : Str} {C fI : Addr} {k : Nat} {fd : FuncData} {n1 n2 : Str} {kws : List Keyword} {tk : TA} {B nId iId : String} {tail : List Value} {gF : List Value → List Value → List Value} {gV : List V → List V → List V} (T : Tail B nId iId tail) (VC : XvC X.K C nId tail) (iC : PySem.W.findIn X.K (.ref C) "__init__" = some (some (.ref fI))) (tI : PySem.W.typeIn X.K (.ref fI) = some (.type "function"))
    (F1 : FnOk X.prog X.w X.K X.mg X.base CX0 k fI fd [n1, n2] (spIni C f)) (hr : Room (k + 1) X.A) (hb : KBn X.K fd [n1, n2] 1 [n2] gF gV) (hgV : ∀ x y, gV [x] [y] = [x, y]) (hg : Gl X x) (hm : X.mg x = some (.ref C)) (hkw : PK X kws tk)
    (hall : (backToKw pos (keywordEach kws X.env)).all (·.1.isSome) = true := by rfl) (hks : (backToKw pos (keywordEach kws X.env)).filterMap (·.1) = [n2] := by rfl) (hdb : (x == ("__debug__" : Str)) = false := by decide)
    (hpl : ((backTo pos (starEach [] X.env)).any (·.1) || (backToKw pos (keywordEach kws X.env)).any (·.1.isNone)) = false := by rfl) :
    PE X (.Call (.Name x p) [] kws pos) (fun σ H Q => tk σ H fun vs H1 => ∃ v, vs = [v] ∧ ∀ (a : Addr) (H' : Hp), Same H1 H' → Err H' a C f v → Q (.ref a) H') := by
  refine ⟨fun pins s σ H Q I h => ?_⟩
  obtain ⟨nm, q, N, bs, bm, sn, sub, ab, col, dd, k0, k1, k2, k3, k5, lC, beh⟩ := VC.cls
  refine wpAny_Call_Name_kw (ld_glob I hg hm ?_ hdb)
  refine PySem.W.callWith_KW0 (h₀ := X.base) I.ok.mod.kin VC.kC hall ?_ hpl
  refine thn (hkw.run pos pins s σ H _ I h) fun ws s1 ⟨zs, H1, I1, rz, v, ev, q1⟩ => ⟨I1.kIn, ?_⟩
  rw [hks]
  subst ev
  obtain ⟨u, rfl, r1⟩ := vals1 rz
  show wpAny _ _ (call (.ref C) [] [(n2, u)]) _ _ _
  obtain ⟨hp, g, dr, tk, os⟩ := s1
  have room : hp.objs.size ≤ hp.objs.size + 1 := Nat.le_succ _
  have na : H1 (hp.objs.size + 1) = none := I1.hok.fresh room
  have hq := made (C := C) (f := f) (Q := Q) na q1
  have I2 : Inv X pins σ (upd H1 (hp.objs.size + 1) (exo (hp.objs.size + 1) C none)) ⟨(hp.push (PySem.W.kdv_tup [])).push (PySem.HandSPX.excO C hp.objs.size), g, dr, tk, os⟩ :=
    I1.laid (t' := tk) (fun b o z => Heap.get?_push_of_some _ (Heap.get?_push_of_some _ z)) room (exo_ok (t1 := hp.objs.size) (by heap_get))
  have r2 : Vals (gV [V.ref (hp.objs.size + 1)] [v]) (gF [Value.ref (hp.objs.size + 1)] [u]) := hb.rel (.cons rfl .nil) (.cons r1 .nil)
  rw [hgV] at r2
  refine wpAny_call (callK T.F (fun Y => beh.contains Y) (I1.kIn _ _ lC) (PySem.W.looks_findIn I1.kIn iC) (fun self => PySem.W.bind_fn I1.kIn self tI) ?_)
  refine codeAny_mono (F1.run _ X.stack _ _ ⟨[Value.ref (hp.objs.size + 1)], [(n2, u)]⟩ _ _ _ _ (hr.make C [] [(n2, u)]) (I2.env0.make C [] [(n2, u)]) (hb.to _ [Value.ref (hp.objs.size + 1)] [u] I2.kIn rfl rfl) r2 hq) fun r s' hq' => ?_
  match r, hq' with
  | .error er, hq' => exact (show False from hq').elim
  | .ok (.ret z), hq' =>
    obtain ⟨v2, H', I3, rv, rfl, q3⟩ := I2.after hq'
    exact ⟨rv, ⟨V.ref (hp.objs.size + 1), H', I3, rfl, q3⟩⟩
/-- C(), C without own __init__, as a value -/
theorem pe_mk0 {C : Addr} {tail : List Value} {B nId iId : String} {x : Str} (F : ExcBaseFacts B nId iId tail) (q : PySem.W.excIn X.K C tail nId = true) (gC : X.mg x = some (.ref C)) (kC : PySem.W.keepIn X.K (.ref C) = true) (hg : Gl X x) (hdb : (x == ("__debug__" : Str)) = false := by decide) :
    PE X (.Call (.Name x p) [] [] pos) (fun σ H Q => ∀ (a : Addr) (H' : Hp), Same H H' → H' a = some (ExO (.ref C) a) → Q (.ref a) H') := by
  refine ⟨fun pins s σ H Q I h => ?_⟩
  refine wpAny_Call_Name_kw (ld_glob I hg gC ?_ hdb)
  refine PySem.W.callWith_K0 I.kIn kC ?_
  show wpAny _ _ (call (.ref C) []) _ _ _
  obtain ⟨bm, N, nm, qn, bs, hdct, sn, sub, ab, col, dd, k0, k1, k2, k3, k5, mN, hC, hN, hni, T⟩ := exc_obj I.kIn q
  refine wpAny_call_exc_subT F T hC hN hni (fun h' a hm => ?_) (Nat.zero_le _)
  have hn : H a = none := I.hok.gone hm.new
  obtain ⟨t, ht, _, _⟩ := hm.there
  exact ⟨.ref a, upd H a (ExO (.ref C) a), I.laidN hm.keeps hm.new hn (exO_ok ht ⟨rfl, rfl⟩ rfl rfl rfl (show 4 < 6 by decide)), rfl, h a _ (fun b o z => by rw [upd_ne (ne_of_none z hn)]; exact z) upd_same⟩
/-- e.f -/
def tXv (K : PySem.W.Frag) (n : Str) (te : TE) : TE := fun σ H Q => te σ H fun x H1 => ∃ (a C : Addr) (v : V), x = .ref a ∧ XfC K C ∧ PySem.W.findIn K (.ref C) n = some none ∧ Err H1 a C n v ∧ Q v H1
theorem pe_xv {n : Str} (he : PE X e te) (hb : attributeBase e n X.env (eval e X.env) = eval e X.env := by rfl) : PE X (.Attribute e n pos) (tXv X.K n te) := by
  refine ⟨fun pins s σ H Q I h => ?_⟩
  refine attr_of hb (thn (he.run pins s σ H _ I h) fun u s1 w1 => ?_)
  obtain ⟨x, H1, I1, rx, a, C, v, rfl, T, no, ⟨dx, ea, ed⟩, q⟩ := w1
  cases rx
  obtain ⟨t1, ha⟩ := exo_at I1.hok ea
  obtain ⟨mA, hns, hr⟩ := exd_at I1.hok ed
  obtain ⟨od, ho, hl⟩ := lookIn_ns hns
  obtain ⟨u, hu, ru⟩ := RelO.some_of (v := v) (o := mA n) (by
    have z := hr n
    rw [lookup_put, if_pos rfl] at z
    exact z)
  have J : PySem.W.InstAt s1.heap a { cls := .ref C, dict := some dx, data := .fields #[.ref t1, .none, .none, .none, .bool false, .none] } C (some od) := ⟨ha, rfl, rfl, ho⟩
  exact HandSPX.exc_get I1.kIn J T.ga T.gg T.exC (PySem.W.findObj_own T.hdC no rfl (by rw [hl, hu])) (handed_of ru) ⟨v, H1, I1.tok _, ru, q⟩
end
/-! ### isinstance -/
structure XiC (K : PySem.W.Frag) (D : Addr) : Prop where
  xf : XfC K D
  ic : (PySem.W.clsIn K D).isSome = true
  c1 : PySem.W.findIn K (.ref D) "__class__" = some (some (.builtin "object.__class__"))
  c2 : PySem.W.specialIn K (.builtin "object.__class__") "__get__" = some (some (.builtin "getset_descriptor.__get__"))
  c3 : PySem.W.takesIn K (.builtin "object.__class__") = some true
  c4 : PySem.W.mroIn K D (.type "object") = some true
/-- at a stands an exception of the class at C -/
def Exn (H : Hp) (a C : Addr) : Prop := (∃ d, H a = some (exo a C (some d)) ∧ ∃ fs, H d = some (exd d fs)) ∨ H a = some (ExO (.ref C) a)
theorem Exn.same {H H' : Hp} {a C : Addr} (h : Exn H a C) (s : ∀ b o, H b = some o → H' b = some o) : Exn H' a C := by
  rcases h with ⟨d, x, fs, y⟩ | x
  · exact .inl ⟨d, s _ _ x, fs, s _ _ y⟩
  · exact .inr (s _ _ x)
theorem Err.exn {H : Hp} {a C : Addr} {f : Str} {v : V} (h : Err H a C f v) : Exn H a C := let ⟨d, x, y⟩ := h; .inl ⟨d, x, _, y⟩
def rIsV (K : PySem.W.Frag) : List V → Hp → VK → Prop := fun xs H Q => ∃ (a C : Addr) (c : V) (cv : Value) (b : Bool), xs = [.ref a, c] ∧ (∀ u, RelV c u → u = cv) ∧ Exn H a C ∧ XiC K C ∧ PySem.W.kitOne K (.ref C) cv = some b ∧ Q (.bl b) H
theorem call_isV {X : Cx} : CallR X (.builtin "isinstance") (rIsV X.K) := by
  intro pins s σ H xs us Q I r h
  obtain ⟨a, C, c, cv, b, rfl, hcv, hex, XC, e, q⟩ := h
  cases r with
  | cons rx rr =>
    cases rr with
    | cons rt rr =>
      cases rr
      cases rx
      cases hcv _ rt
      have at_ : ∃ (oe : Obj) (od : Option Obj), PySem.W.InstAt s.heap a oe C od := by
        rcases hex with ⟨d, ea, fs, ed⟩ | ea
        · obtain ⟨t1, ha⟩ := exo_at I.hok ea
          obtain ⟨mA, hns, _⟩ := exd_at I.hok ed
          obtain ⟨od, ho, _⟩ := lookIn_ns hns
          exact ⟨_, some od, ha, rfl, rfl, ho⟩
        · obtain ⟨⟨oe, vs, ho, hz, hd, _⟩, _, _⟩ := I.hok a _ ea
          refine ⟨oe, none, ho, hz.1, by unfold PySem.W.notCls; rw [hd] <;> rfl, ?_⟩
          rw [hz.2]
          exact trivial
      obtain ⟨oe, od, J⟩ := at_
      exact PySem.W.kia_one (PySem.W.kitx_exc (gt := none) XC.ic XC.xf.ga XC.xf.gg XC.xf.exC XC.c1 XC.c2 XC.c3 XC.c4) I.kIn J e (fun z => nomatch z) fun tk => ⟨.bl b, H, I.kept (t' := tk) fun _ _ z => z, rfl, q⟩
end ExV

/-! raise C(e), C an own class with an own __init__ of one field, over any base -/
namespace ExV
open PySem PySem.Spec PyProof.Rows L2
section
variable {X : Cx} {e : Expr} {te : TE} {f : Str} {p pos : Pos}
def tRz (C : Addr) (f : Str) (te : TE) : L2.St → Hp → XK → Prop := fun σ H Q => te σ H fun v H1 => ∀ d, H1 d = none → Q (.ref C) (some d) (upd H1 d (.xd [(f, v)]))
theorem rz_mk {C a : Addr} {f : Str} {v : V} {H1 : Hp} {Q : XK} (na : H1 a = none) (q : ∀ d, H1 d = none → Q (.ref C) (some d) (upd H1 d (.xd [(f, v)]))) :
    spIni C f [.ref a, v] (upd H1 a (exo a C none)) (fun r H2 => r = .non ∧ ∃ (d : Addr) (fs : List (Str × V)), H2 a = some (exo a C (some d)) ∧ H2 d = some (exd d fs) ∧ H1 d = none ∧ Q (.ref C) (some d) (upd (del H2 a) d (.xd fs))) fun _ _ _ => False := by
  refine ⟨a, v, rfl, upd_same, fun dx ndx nda => ⟨rfl, dx, [(f, v)], upd_same, ?_, ?_, ?_⟩⟩
  · rw [upd_ne nda, upd_same]
  · rw [upd_ne nda] at ndx
    exact ndx
  · have e : upd (del (upd (upd (upd H1 a (exo a C none)) dx (exd dx [(f, v)])) a (exo a C (some dx))) a) dx (.xd [(f, v)]) = upd H1 dx (.xd [(f, v)]) := by
      funext b
      by_cases h1 : b = dx
      · rw [h1, upd_same, upd_same]
      · rw [upd_ne h1, upd_ne h1]
        by_cases h2 : b = a
        · rw [h2, del_same, na]
        · rw [del_ne h2, upd_ne h2, upd_ne h1, upd_ne h2]
    rw [e]
    rw [upd_ne nda] at ndx
    exact q dx ndx
theorem pmk_V {x : Str} {C fI : Addr} {k : Nat} {fd : FuncData} {n1 n2 : Str} {B nId iId : String} {tail : List Value} (T : Tail B nId iId tail) (VC : XvC X.K C nId tail) (rz : Raises X (.ref C)) (iC : PySem.W.findIn X.K (.ref C) "__init__" = some (some (.ref fI))) (tI : PySem.W.typeIn X.K (.ref fI) = some (.type "function"))
    (F1 : FnOk X.prog X.w X.K X.mg X.base CX0 k fI fd [n1, n2] (spIni C f)) (hr : Room (k + 1) X.A) (hb : Binds X.K fd [n1, n2] []) (hg : Gl X x) (hm : X.mg x = some (.ref C)) (he : PE X e te)
    (hdb : (x == ("__debug__" : Str)) = false := by decide) (hs : starEach [e] X.env = (false, eval e X.env) :: starEach [] X.env := by rfl) :
    PMk X (.Call (.Name x p) [e] [] pos) (tRz C f te) := by
  intro pins s σ H Q I h
  obtain ⟨nm, q, N, bs, bm, sn, sub, ab, col, dd, k0, k1, k2, k3, k5, lC, beh⟩ := VC.cls
  refine wpAny_Call_Name_kw (ld_glob I hg hm ?_ hdb)
  refine PySem.W.callWith_K (h₀ := X.base) I.ok.mod.kin VC.kC ?_ hs (by rfl)
  rw [hs]
  refine Calls.spliced_cons (thn (he.run pins s σ H _ I h) fun u s1 ⟨v, H1, I1, r1, q1⟩ => Calls.spliced_nil ⟨I1.kIn, ?_⟩)
  show wpAny _ _ (call (.ref C) [u]) _ _ _
  obtain ⟨hp, g, dr, tk, os⟩ := s1
  have room : hp.objs.size ≤ hp.objs.size + 1 := Nat.le_succ _
  have na : H1 (hp.objs.size + 1) = none := I1.hok.fresh room
  have hq := rz_mk (C := C) (f := f) (Q := Q) na q1
  have kk : ∀ b o, hp.get? b = some o → ((hp.push (PySem.W.kdv_tup [u])).push (PySem.HandSPX.excO C hp.objs.size)).get? b = some o := fun b o z => Heap.get?_push_of_some _ (Heap.get?_push_of_some _ z)
  have I2 : Inv X pins σ (upd H1 (hp.objs.size + 1) (exo (hp.objs.size + 1) C none)) ⟨(hp.push (PySem.W.kdv_tup [u])).push (PySem.HandSPX.excO C hp.objs.size), g, dr, tk, os⟩ :=
    I1.laid (t' := tk) kk room (exo_ok (t1 := hp.objs.size) (by heap_get))
  have r2 : Vals [V.ref (hp.objs.size + 1), v] [Value.ref (hp.objs.size + 1), u] := .cons rfl (.cons r1 .nil)
  refine wpAny_call (PySem.HandSPX.call_own T.F (fun Y => beh.contains Y) (I1.kIn _ _ lC) (PySem.W.looks_findIn I1.kIn iC) (fun self => PySem.W.bind_fn I1.kIn self tI) (by show 1 ≤ sizeLine; decide) ?_)
  refine codeAny_mono (F1.run _ X.stack _ _ ⟨[Value.ref (hp.objs.size + 1), u], []⟩ [Value.ref (hp.objs.size + 1), u] _ _ _ (hr.make C [u] []) (I2.env0.make C [u] []) (hb _ [Value.ref (hp.objs.size + 1), u] I2.kIn rfl) r2 hq) fun r s' hq' => ?_
  match r, hq' with
  | .error er, hq' => exact (show False from hq').elim
  | .ok (.ret z), hq' =>
    obtain ⟨v2, H2, os2, bare2, un2, hok2, rv, ev, d, fs, ea, ed, hd1, q2⟩ := hq'
    subst ev
    obtain ⟨h2, g2, d2, t2, os'⟩ := s'
    exact ⟨rv, mk_end rz I1 room kk un2 hok2 os2 bare2 ea ed hd1 q2⟩
end
end ExV

/-! try with several clauses `except C as n`, all of one name -/
namespace TryAs
open PySem PySem.Spec PyProof.Rows L2
/-- a clause: its class, and what its suite does -/
structure Cl where
  c : Value
  ts : Addr → Value → Option Addr → TS
/-- behind a suite the name is gone -/
def bare (i : Nat) (D : Ends) : Ends := ⟨fun σ H => D.nx (σ.set i none) H, D.rt, fun σ H => D.bk (σ.set i none) H, fun σ H => D.ct (σ.set i none) H⟩
def wish (K : PySem.W.Frag) (i : Nat) (out : WX) (D : Ends) : List Cl → WX
  | [] => out
  | k :: ks => fun cls d σ H => ∃ yes, PySem.W.exmOne K cls k.c = some yes ∧ cond yes (∀ e, H e = none → k.ts e cls d (bare i D) (σ.set i (some (.ref e))) H) (wish K i out D ks cls d σ H)
inductive Cls (X : Cx) (n : Str) : List ExceptHandler → List Cl → Prop
  | stop : Cls X n [] []
  | more {x : Str} {k : Cl} {st : Stmt} {sts : List Stmt} {p1 p2 : Pos} {hds : List ExceptHandler} {ks : List Cl} : Names X x k.c →
      (∀ (e : Addr) (o : Obj) (cls : Value) (d : Option Addr) (pn : List (Addr × Obj)), Zc cls d o → (∃ vs, o.data = .fields vs) → PSs (X.suite e ((e, o) :: pn)) (st :: sts) (k.ts e cls d)) → Cls X n hds ks →
      Cls X n (.ExceptHandler (some (.Name x p1)) (some n) (st :: sts) p2 :: hds) (k :: ks)
section
variable {X : Cx} {n : Str} {i : Nat} {out : WX} {D : Ends} {pins : List (Addr × Obj)} {σ : L2.St} {H : Hp} {sI : Shared} {B : Heap} {e : Addr} {cls : Value} {d : Option Addr}
/-- an error that has come down in X, sI is the state without it -/
structure Down (X : Cx) (pins : List (Addr × Obj)) (σ : L2.St) (H : Hp) (sI : Shared) (B : Heap) (e : Addr) (cls : Value) (d : Option Addr) (h : Heap) : Prop where
  J : Inv X pins σ H sI
  nb : ∀ b o, sI.heap.get? b = some o → b ∉ frs X.stack → B.get? b = some o
  up : sI.heap.UpToSlots h
  fl : HandSPX.FlyingZ B (X.env :: X.outer) e (Zc cls d) h
  na : H e = none
theorem Down.here {h : Heap} {s : Shared} (Z : Down X pins σ H sI B e cls d h) (os : s.os = sI.os) (ag : AllBare s.gens) : Inv X pins σ H { s with heap := h } := Z.J.landed Z.nb Z.fl.1 Z.up os ag
theorem Down.outside {h : Heap} (Z : Down X pins σ H sI B e cls d h) (hf : X.env.frame = some X.env.locals) : e ≠ X.env.locals ∧ e ∉ X.fs := by
  have no : e ∉ frs (X.env :: X.outer) := fun m => by
    obtain ⟨o1, vs, g1, _, f1⟩ := Z.fl.there
    obtain ⟨_, o2, g2, f2⟩ := Z.fl.2.2.1.mem m
    exact f2 vs ((congrArg Obj.data (Option.some.inj (g2.symm.trans g1))).trans f1)
  refine ⟨fun q => no ?_, fun q => no ?_⟩
  · exact q ▸ List.mem_filterMap.mpr ⟨X.env, List.mem_cons_self, hf⟩
  · obtain ⟨v, h1, h2⟩ := List.mem_filterMap.mp q
    exact List.mem_filterMap.mpr ⟨v, List.mem_cons_of_mem _ h1, h2⟩
/-- no clause has taken it: it goes on -/
theorem Down.on {h : Heap} {s : Shared} (Z : Down X pins σ H sI B e cls d h) (hs : X.stack = X.env :: X.outer) (hf : X.env.frame = some X.env.locals) (tk : Takes X out) (os : s.os = sI.os) (ag : AllBare s.gens) (w : out cls d σ H) :
    wpAny (model X.prog X.w) X.A (handleBy (.ref e) X.env []) (SP X pins D) X.xe { s with heap := h } := by
  refine wpAny_handleBy_nil ?_
  have last : wpAny (model X.prog X.w) X.A (setFlight (.ref e) X.env.frame) (fun _ t => wpAny (model X.prog X.w) X.A (throw (.ref e) : Sem Flow) (SP X pins D) X.xe t) X.xe { s with heap := h } := by
    rw [hf]
    exact HandSPX.setFlight_upZ Z.fl fun g held u => wpAny_throw (tk _ _ ⟨e, B, sI, pins, σ, H, cls, d, rfl, Z.J, Z.nb, Z.up.trans u, .inr (.inr (hs ▸ held)), Z.na, os, ag, w⟩)
  obtain ⟨_, _, _, o, vs, T, _, _, g1, _, g2, g3, _⟩ := id Z.fl
  unfold PySem.passOn
  refine wpAny_bind (wpAny_field g1 g2 g3 ?_)
  have ne : ¬ ((Value.ref T == Value.none) = true) := by simp
  rw [if_neg ne]
  first
    | exact wpAny_bind (wpAny_pure (wpAny_bind last))
    | exact wpAny_bind last
theorem Cls.run (hs : X.stack = X.env :: X.outer) (hf : X.env.frame = some X.env.locals) (nd : X.N.Nodup) (hi : X.N[i]? = some n) (ln : X.env.kindOf n = some .local) (tk : Takes X out) {h : Heap} {s : Shared} (Z : Down X pins σ H sI B e cls d h) (os : s.os = sI.os) (ag : AllBare s.gens) :
    ∀ {hds : List ExceptHandler} {ks : List Cl}, Cls X n hds ks → wish X.K i out D ks cls d σ H → wpAny (model X.prog X.w) X.A (handleBy (.ref e) X.env hds) (SP X pins D) X.xe { s with heap := h }
  | _, _, .stop, w => Z.on hs hf tk os ag w
  | _, _, .more (x := x) (k := k) (p1 := p1) (p2 := p2) nm ru re, w => by
    obtain ⟨yes, ex, w⟩ := w
    have I3 := Z.here os ag
    obtain ⟨n1, n2⟩ := Z.outside hf
    obtain ⟨o3, v3, g3, z3, f3⟩ := Z.fl.there
    have S3 := I3.suite g3 f3 Z.na n1 n2
    have ty : PySem.W.Looks (model X.prog X.w) h (typeOf (.ref e)) cls := fun _ _ _ _ kk q => wpAny_typeOf_ref (kk _ _ g3) (z3.1.symm ▸ q)
    have mt := PySem.W.exm_one (M := model X.prog X.w) I3.kIn ty ex
    have look : ∀ {Q E : Value → Shared → Prop}, Q k.c { s with heap := h } → wpAny (model X.prog X.w) (X.A.mark (some (.ref e))) (eval (.Name x p1) X.env) Q E { s with heap := h } := fun {Q E} q => by
      obtain ⟨gl, db, m1 | ⟨m1, m2, m3⟩⟩ := nm
      · exact ld_glob (X := X.suite e ((e, o3) :: (X.pn ++ pins))) S3 gl m1 q db
      · exact ld_blt (X := X.suite e ((e, o3) :: (X.pn ++ pins))) S3 gl m1 m2 q m3 db
    refine wpAny_handleBy_cons (codeAny_handlers_test (look (mt.here ?_))) fun q => nomatch q
    cases yes with
    | false => exact Cls.run hs hf nd hi ln tk Z os ag re w
    | true =>
      refine codeAny_handlers_suite_as (HandSPX.lands_againZ Z.fl fun g fl u => ?_)
      have Z4 : Down X pins σ H sI B e cls d g := ⟨Z.J, Z.nb, Z.up.trans u, fl, Z.na⟩
      have I4 := Z4.here os ag
      obtain ⟨o4, v4, g4, z4, f4⟩ := fl.there
      refine store_ok (X := X.suite e ((e, o4) :: (X.pn ++ pins))) (v := .ref e) (I4.suite g4 f4 Z.na n1 n2) nd hi (.inl ln) rfl (fun s5 S5 => ?_) (.inr ln)
      have run5 := (ru e o4 cls d (X.pn ++ pins) z4 ⟨v4, f4⟩).run [] s5 _ H (bare i D) S5 (w e Z.na)
      refine wpAny_mono run5 (fun fw s6 r6 => ?_) fun _ _ z => z.elim
      have gone : ∀ {σ6 : L2.St} {H6 : Hp} {q : Addr × Obj} {Q : Shared → Prop}, Inv (X.suite e (q :: (X.pn ++ pins))) [] σ6 H6 s6 → (∀ s7, Inv X pins (σ6.set i none) H6 s7 → Q s7) → wpAny (model X.prog X.w) X.A (do bindName X.env n .none; unbindBehindTheSuite X.env n p2) (fun _ s7 => Q s7) X.xe s6 :=
        fun S6 k => gone_ok (S6.unsuite Z.J.ok) nd hi ln k
      match fw, r6 with
      | .next, ⟨σ6, H6, S6, k6⟩ => exact gone S6 fun s7 I7 => ⟨_, _, I7, k6⟩
      | .brk, ⟨σ6, H6, S6, k6⟩ => exact gone S6 fun s7 I7 => ⟨_, _, I7, k6⟩
      | .cont, ⟨σ6, H6, S6, k6⟩ => exact gone S6 fun s7 I7 => ⟨_, _, I7, k6⟩
      | .ret v, ⟨v6, σ6, H6, S6, rv, k6⟩ => exact gone S6 fun s7 I7 => ⟨_, _, _, I7, rv, k6⟩
variable {body : List Stmt} {hd : ExceptHandler} {hds : List ExceptHandler} {ks : List Cl} {pos : Pos} {tb : WX → TS}
/-- the rule -/
theorem ps_try_asN (hs : X.stack = X.env :: X.outer) (hf : X.env.frame = some X.env.locals) (nd : X.N.Nodup) (hi : X.N[i]? = some n) (ln : X.env.kindOf n = some .local) (tk : Takes X out)
    (hb : ∀ (W : WX) (pn : List (Addr × Obj)) (xe : Value → Shared → Prop), Takes (X.tr pn xe) W → PassesOwn (model X.prog X.w) X.A X.env xe → PSs (X.tr pn xe) body (tb W)) (hh : Cls X n (hd :: hds) ks) :
    PS X (.Try body (hd :: hds) [] [] pos) fun D σ H => tb (wish X.K i out D ks) D σ H := by
  refine ⟨fun pins s σ H D I h => wpAny_Try_except ?_⟩
  have fr : X.A.frames = some (X.env :: X.outer) := I.ok.frames.trans (congrArg some hs)
  refine wpAny_mono ((hb _ (X.pn ++ pins) _ ?_ PassesOwn.looking).run [] s σ H D (I.toTry _) h) (fun fw t r => ?_) fun _ _ z => z
  · rintro _ t ⟨e, B, sI, _, σ1, H1, cls, d, rfl, J, nb, up, sky, na, os, ag, w⟩
    refine Sky.land Zc.steady fr hf (hs ▸ sky) fun g fl u => ?_
    exact Cls.run hs hf nd hi ln tk ⟨J.ofTry I.ok, nb, up.trans u, fl, na⟩ os ag hh w
  · match fw, r with
    | .next, ⟨_, _, J, q⟩ => exact wpAny_execs_nil ⟨_, _, J.ofTry I.ok, q⟩
    | .brk, ⟨_, _, J, q⟩ => exact ⟨_, _, J.ofTry I.ok, q⟩
    | .cont, ⟨_, _, J, q⟩ => exact ⟨_, _, J.ofTry I.ok, q⟩
    | .ret v, ⟨_, _, _, J, rv, q⟩ => exact ⟨_, _, _, J.ofTry I.ok, rv, q⟩
end
end TryAs

namespace IsX
open PySem L2
/-! ### isinstance of a caught error that bears a field -/
structure XiC (K : PySem.W.Frag) (D : Addr) : Prop where
  xf : XfC K D
  ic : (PySem.W.clsIn K D).isSome = true
  c1 : PySem.W.findIn K (.ref D) "__class__" = some (some (.builtin "object.__class__"))
  c2 : PySem.W.specialIn K (.builtin "object.__class__") "__get__" = some (some (.builtin "getset_descriptor.__get__"))
  c3 : PySem.W.takesIn K (.builtin "object.__class__") = some true
  c4 : PySem.W.mroIn K D (.type "object") = some true
def rIsX (K : PySem.W.Frag) (D a : Addr) (cls : Value) (d : Option Addr) : List V → Hp → VK → Prop := fun xs H Q => ∃ (c : V) (cv : Value) (b : Bool) (dd : Addr) (fs : List (Str × V)), xs = [.ref a, c] ∧ (∀ u, RelV c u → u = cv) ∧ cls = .ref D ∧ d = some dd ∧ H dd = some (.xd fs) ∧ PySem.W.kitOne K (.ref D) cv = some b ∧ Q (.bl b) H
theorem call_isX {X : Cx} {a D : Addr} {oe : Obj} {cls : Value} {d : Option Addr} {pn : List (Addr × Obj)} (C : XiC X.K D) (hz : Zc cls d oe) (hf : ∃ vs, oe.data = .fields vs) : CallR (X.suite a ((a, oe) :: pn)) (.builtin "isinstance") (rIsX X.K D a cls d) := by
  intro pins s σ H xs us Q I r h
  obtain ⟨c, cv, b, dd, fs, rfl, hcv, rfl, rfl, hdd, e, q⟩ := h
  cases r with
  | cons rx rr =>
    cases rr with
    | cons rt rr =>
      cases rr
      cases rx
      cases hcv _ rt
      obtain ⟨hget, _⟩ := I.pin (a, oe) (List.mem_append.mpr (.inl List.mem_cons_self))
      obtain ⟨vs, hv⟩ := hf
      have hx : ObjOk X.prog X.w H s.heap dd (.xd fs) := I.hok dd _ hdd
      obtain ⟨mA, hns, _⟩ := hx
      obtain ⟨od, ho, _⟩ := lookIn_ns hns
      have J : PySem.W.InstAt s.heap a oe D (some od) := ⟨hget, hz.1, by unfold PySem.W.notCls; rw [hv] <;> rfl, by rw [hz.2]; exact ho⟩
      exact PySem.W.kia_one (PySem.W.kitx_exc (gt := none) C.ic C.xf.ga C.xf.gg C.xf.exC C.c1 C.c2 C.c3 C.c4) I.kIn J e (fun z => nomatch z) fun tk => ⟨.bl b, H, I.kept (t' := tk) fun _ _ z => z, rfl, q⟩
/-- the slots are as many as the names -/
theorem takes_len {X : Cx} {W : WX} (tk : Takes X W) : Takes X (fun cls d σ H => σ.length = X.N.length → W cls d σ H) := fun u s2 ⟨a, B, sI, pins, σ, H, cls, d, e, I, nb, up, sky, na, os, ag, h⟩ =>
  tk u s2 ⟨a, B, sI, pins, σ, H, cls, d, e, I, nb, up, sky, na, os, ag, h I.len⟩
theorem len3 {σ : St} (h : σ.length = 3) : ∃ a b c, σ = [a, b, c] := by
  match σ, h with
  | [a, b, c], _ => exact ⟨a, b, c, rfl⟩
end IsX

/-! readings, where they refuse -/
namespace My
open PySem L2 Cm LM EM
abbrev sEL : Stmt := inClass (top 3) 0
abbrev sEC : Stmt := inClass (top 6) 0
abbrev sET : Stmt := inClass (top 7) 0
abbrev sEM : Stmt := inClass (top 15) 0
/-- an error with one field, over ArithmeticError -/
structure TxMx (K : PySem.W.Frag) (mg : Str → Option Value) where
  C : Addr
  f : Addr
  fd : FuncData
  g : mg "TooManyReplies" = some (.ref C)
  V : ExV.XvC K C "ArithmeticError.__new__" [.type "ArithmeticError", .type "Exception", .type "BaseException", .type "object"]
  s : PySem.W.subIn K (.ref C) (.type "BaseException") = some true
  ty : PySem.W.typeIn K (.ref C) = some (.type "type")
  i : PySem.W.findIn K (.ref C) "__init__" = some (some (.ref f))
  t : PySem.W.typeIn K (.ref f) = some (.type "function")
  n : PySem.W.findIn K (.ref C) "limit" = some none
  F : Fun K "__init__" "TooManyReplies.__init__" sEM f fd
  b : Binds K fd ["self", "limit"] []
structure TxRe (K : PySem.W.Frag) (mg : Str → Option Value) where
  R : TxRd K mg
  eL : TxEr K mg "NotALoop" "value" sEL "NotALoop.__init__"
  eC : TxEr K mg "InvalidCount" "value" sEC "InvalidCount.__init__"
  eT : TxEr K mg "InvalidTold" "value" sET "InvalidTold.__init__"
  xM : TxMx K mg
/-- it is told to be no instance of the class at C -/
def NoIn (K : PySem.W.Frag) (C : Addr) (H : Hp) (v : V) : Prop := ∃ t, TyX K H v t ∧ PySem.W.kitOne K t (.ref C) = some false
theorem NoIn.same {K : PySem.W.Frag} {C : Addr} {H H' : Hp} {v : V} (s : Same H H') (h : NoIn K C H v) : NoIn K C H' v := let ⟨t, a, b⟩ := h; ⟨t, TyX_same s a, b⟩
section
variable {P : Program} {w : World} {K : PySem.W.Frag} {mg : Str → Option Value} {base : Heap}
theorem scEL : FnScope ["self", "value"] ["self", "value"] (defScope sEL) := ⟨rfl, rfl, rfl, by decide +kernel, rfl, by decide +kernel, by decide +kernel⟩
theorem scEC : FnScope ["self", "value"] ["self", "value"] (defScope sEC) := ⟨rfl, rfl, rfl, by decide +kernel, rfl, by decide +kernel, by decide +kernel⟩
theorem scET : FnScope ["self", "value"] ["self", "value"] (defScope sET) := ⟨rfl, rfl, rfl, by decide +kernel, rfl, by decide +kernel, by decide +kernel⟩
theorem scEM : FnScope ["self", "limit"] ["self", "limit"] (defScope sEM) := ⟨rfl, rfl, rfl, by decide +kernel, rfl, by decide +kernel, by decide +kernel⟩
theorem ok_eL (T : TxEr K mg "NotALoop" "value" sEL "NotALoop.__init__") : FnOk P w K mg base CX0 1 T.f T.fd ["self", "value"] (spER "value" T.C) := by
  refine T.F.ok scEL (fun vs H Q E h => ?_) (fun cdv A outer s H vs Q E hr h => ?_)
  · obtain ⟨a, v, rfl, _⟩ := h
    rfl
  · obtain ⟨a, v, rfl, ha, k⟩ := h
    exact ⟨_, pss_one (ps_ost (pv 0) (pv 1)), _, rfl, _, rfl, a, T.C, rfl, T.o, T.n, .inl ⟨ha, fun dx n ne => k dx n ne⟩⟩
theorem ok_eC (T : TxEr K mg "InvalidCount" "value" sEC "InvalidCount.__init__") : FnOk P w K mg base CX0 1 T.f T.fd ["self", "value"] (spER "value" T.C) := by
  refine T.F.ok scEC (fun vs H Q E h => ?_) (fun cdv A outer s H vs Q E hr h => ?_)
  · obtain ⟨a, v, rfl, _⟩ := h
    rfl
  · obtain ⟨a, v, rfl, ha, k⟩ := h
    exact ⟨_, pss_one (ps_ost (pv 0) (pv 1)), _, rfl, _, rfl, a, T.C, rfl, T.o, T.n, .inl ⟨ha, fun dx n ne => k dx n ne⟩⟩
theorem ok_eT (T : TxEr K mg "InvalidTold" "value" sET "InvalidTold.__init__") : FnOk P w K mg base CX0 1 T.f T.fd ["self", "value"] (spER "value" T.C) := by
  refine T.F.ok scET (fun vs H Q E h => ?_) (fun cdv A outer s H vs Q E hr h => ?_)
  · obtain ⟨a, v, rfl, _⟩ := h
    rfl
  · obtain ⟨a, v, rfl, ha, k⟩ := h
    exact ⟨_, pss_one (ps_ost (pv 0) (pv 1)), _, rfl, _, rfl, a, T.C, rfl, T.o, T.n, .inl ⟨ha, fun dx n ne => k dx n ne⟩⟩
theorem ok_eM (T : TxMx K mg) : FnOk P w K mg base CX0 1 T.f T.fd ["self", "limit"] (ExV.spIni T.C "limit") := by
  refine T.F.ok scEM (fun vs H Q E h => ?_) (fun cdv A outer s H vs Q E hr h => ?_)
  · obtain ⟨a, v, rfl, _⟩ := h
    rfl
  · obtain ⟨a, v, rfl, ha, k⟩ := h
    exact ⟨_, pss_one (ExV.ps_ostV (pv 0) (pv 1)), _, rfl, _, rfl, a, T.C, _, _, _, _, rfl, ExV.tail_A, T.V, T.n, ha, fun dx n ne => k dx n ne⟩
/-! ### check_loop, where it refuses -/
def spCKLe (T : TxRe K mg) : Sp := fun vs H _ E => ∃ v : V, vs = [v] ∧ NoIn K T.R.N.T.C H v ∧ ∀ d, H d = none → E (.ref T.eL.C) (some d) (upd H d (.xd [("value", v)]))
theorem ok_ckle (T : TxRe K mg) : FnOk P w K mg base (L2.CX P w) 3 T.R.ckl.f T.R.ckl.fd ["loop"] (spCKLe T) := by
  have GE : FnOk P w K mg base CX0 1 T.eL.f T.eL.fd ["self", "value"] (spER "value" T.eL.C) := ok_eL T.eL
  refine T.R.ckl.F.okX scCKL (fun vs H Q E h => ?_) (fun cdv A outer s H vs Q E hr h => ?_)
  · obtain ⟨v, rfl, _⟩ := h
    rfl
  · obtain ⟨v, rfl, ⟨t, ty, kt⟩, k⟩ := h
    exact ⟨_, (pss_one (ps_if (pt_not (pt_val (pe_callB call_isi (by rfl) T.R.N.k.isi (by decide +kernel) (pa_cons (pv 0) (pa_cons (pe_glob (v := .ref T.R.N.T.C) rfl T.R.N.T.gC rfl) pa_nil))))) (pss_one (ps_raise rfl (takes_of rfl rfl rfl rfl) (pmk_oex T.eL.o T.eL.i T.eL.t GE hr T.eL.b .nil pass0 rfl T.eL.g (pa_cons (pv 0) pa_nil)))) pss_nil)), _, rfl, _, _, _, _, false, rfl, .own T.R.N.T.C, ty, kt, false, rfl, iteT (mk_er (x := v) ⟨v, rfl, rfl, rfl⟩ (fun {R R'} ⟨v, e1, q⟩ f => ⟨v, e1, f _ _ q⟩) k)⟩
/-! ### Reading(.., ..), where it refuses -/
def spRdIe (T : TxRe K mg) : Sp := fun vs H _ E => ∃ (x : Addr) (v z : V), vs = [.ref x, v, z] ∧
  ((NoIn K T.R.N.T.C H v ∧ ∀ d, H d = none → E (.ref T.eL.C) (some d) (upd H d (.xd [("value", v)]))) ∨
   ∃ (lo : Addr) (t : Str), v = .ref lo ∧ LoopAt T.R.N.T.C H lo t ∧ TypedI K H z ∧ btw 1 1000 z = false ∧ ∀ d, H d = none → E (.ref T.R.N.k.eS.C) (some d) (upd H d (.xd [("value", z)])))
theorem fn_or {CX : CXT} {k : Nat} {f : Addr} {fd : FuncData} {ps : List Str} {s1 s2 : Sp} (F1 : FnOk P w K mg base CX k f fd ps s1) (F2 : FnOk P w K mg base CX k f fd ps s2) : FnOk P w K mg base CX k f fd ps (fun vs H Q E => s1 vs H Q E ∨ s2 vs H Q E) :=
  ⟨fun vs H Q E h => h.elim (F1.len vs H Q E) (F2.len vs H Q E), fun A outer s H args us vs Q E hr e0 hb r h => h.elim (F1.run A outer s H args us vs Q E hr e0 hb r) (F2.run A outer s H args us vs Q E hr e0 hb r)⟩
theorem fn_up {k : Nat} {f : Addr} {fd : FuncData} {ps : List Str} {sp : Sp} (F : FnOk P w K mg base CX0 k f fd ps sp) (h0 : ∀ vs H Q (E E' : XK), sp vs H Q E → sp vs H Q E') : FnOk P w K mg base (L2.CX P w) k f fd ps sp :=
  ⟨F.len, fun A outer s H args us vs Q E hr e0 hb r h => codeAny_mono (F.run A outer s H args us vs Q (fun _ _ _ => False) hr e0 hb r (h0 _ _ _ _ _ h)) fun r s' q => by
    cases r with
    | error e => exact (show False from q).elim
    | ok fl => cases fl <;> exact q⟩
theorem ok_rdie (T : TxRe K mg) : FnOk P w K mg base (L2.CX P w) 4 T.R.fR T.R.fdR ["self", "loop", "size"] (spRdIe T) := by
  have GK : FnOk P w K mg base (L2.CX P w) 3 T.R.ckl.f T.R.ckl.fd ["loop"] (fun vs H Q E => spCKLe T vs H Q E ∨ spCKL T.R vs H Q E) := fn_or (ok_ckle T) ((fn_up (ok_ckl T.R) fun vs H Q E E' ⟨a, b, c⟩ => ⟨a, b, c⟩).mono (by decide))
  have GS : FnOk P w K mg base (L2.CX P w) 3 T.R.N.k.cks.f T.R.N.k.cks.fd ["size"] (spCKS K T.R.N.k.eS.C) := ok_cks T.R.N.k
  refine T.R.FR.okX scRdI (fun vs H Q E h => ?_) (fun cdv A outer s H vs Q E hr h => ?_)
  · obtain ⟨x, v, z, rfl, _⟩ := h
    rfl
  · obtain ⟨x, v, z, rfl, h⟩ := h
    refine ⟨_, (pss_cons (ps_expr (pe_call (E := E) GK hr rfl T.R.ckl.g T.R.ckl.k T.R.ckl.b .nil (passes_call (takes_of rfl rfl rfl rfl) fun _ _ _ _ z => z) (pa_cons (pv 1) pa_nil))) (pss_cons (ps_expr (pe_call (E := E) GS hr rfl T.R.N.k.cks.g T.R.N.k.cks.k T.R.N.k.cks.b .nil (passes_call (takes_of rfl rfl rfl rfl) fun _ _ _ _ z => z) (pa_cons (pv 2) pa_nil))) (pss_cons ps_never (pss_cons ps_never (pss_cons ps_never (pss_one ps_never)))))), ?_⟩
    rcases h with ⟨hn, k⟩ | ⟨lo, t, rfl, hL, ty, hb, k⟩
    · exact ⟨_, rfl, .inl ⟨v, rfl, hn, k⟩⟩
    · exact ⟨_, rfl, .inr ⟨lo, t, rfl, hL, _, rfl, z, rfl, ty, fun q => absurd (hb.symm.trans q) (by decide), fun _ => k⟩⟩
/-! ### check_reply, take, feed, where they refuse -/
def BadR (T : TxRe K mg) (sz : Nat) (t : Str) (rr : List (Nat × Bool)) (c b : V) (H : Hp) (E : XK) : Prop :=
  (btw 0 (sz : Int) c = false ∧ ∀ d, H d = none → E (.ref T.eC.C) (some d) (upd H d (.xd [("value", c)]))) ∨
  (btw 0 (sz : Int) c = true ∧ ((isB b = false ∧ ∀ d, H d = none → E (.ref T.eT.C) (some d) (upd H d (.xd [("value", b)]))) ∨
    (isB b = true ∧ (((stR sz (ordsR t) (ordsE t) rr).st = true ∧ E (.ref T.R.xS.C) none H) ∨
      ((stR sz (ordsR t) (ordsE t) rr).st = false ∧ rr.length = 100 ∧ ∀ d, H d = none → E (.ref T.xM.C) (some d) (upd H d (.xd [("limit", .int 100)])))))))
def spRdCe (T : TxRe K mg) : Sp := fun vs H _ E => ∃ (lv dx lo m : Addr) (sz : Nat) (c b : V) (t : Str) (rr : List (Nat × Bool)), vs = [.ref lv, c, b] ∧ RdAt T.R H lv dx lo m sz t rr ∧ TypedI K H c ∧ TypedI K H b ∧ rr.length ≤ 100 ∧ BadR T sz t rr c b H E
theorem ok_rdcre (T : TxRe K mg) : FnOk P w K mg base (L2.CX P w) 3 T.R.cr.f T.R.cr.fd ["self", "count", "told"] (spRdCe T) := by
  have GI : FnOk P w K mg base CX0 1 T.R.N.k.iib.f T.R.N.k.iib.fd ["value", "low", "high"] (spIIB K) := ok_iib T.R.N.k
  have GO : FnOk P w K mg base CX0 1 T.R.pO.f T.R.pO.fd ["self"] (spRd T.R fun _ _ _ ov => .bl ov) := ok_rdo T.R
  have GL : FnR P w K mg base CX0 1 T.R.rl.f (fun vs H Q E => spRdL T.R (vs ++ []) H Q E) := (ok_rdl T.R).raw T.R.rl.b .nil
  have G1 : FnOk P w K mg base CX0 1 T.eC.f T.eC.fd ["self", "value"] (spER "value" T.eC.C) := ok_eC T.eC
  have G2 : FnOk P w K mg base CX0 1 T.eT.f T.eT.fd ["self", "value"] (spER "value" T.eT.C) := ok_eT T.eT
  have G3 : FnOk P w K mg base CX0 1 T.xM.f T.xM.fd ["self", "limit"] (ExV.spIni T.xM.C "limit") := ok_eM T.xM
  obtain ⟨tm, mr⟩ := T.R.N.k.mr
  refine T.R.cr.F.okX scRdCr (fun vs H Q E h => ?_) (fun cdv A outer s H vs Q E hr h => ?_)
  · obtain ⟨lv, _, _, _, _, _, _, _, _, rfl, _⟩ := h
    rfl
  · obtain ⟨lv, dx, lo, m, sz, c, bb, t, rr, rfl, hR, tc, tb, hl, bad⟩ := h
    have hr1 : Room 1 _ := hr.mono (by decide)
    refine ⟨_, (pss_cons (ps_if (pt_not (pt_val (pe_call GI hr1 rfl T.R.N.k.iib.g T.R.N.k.iib.k T.R.N.k.iib.b .nil pass0 (pa_cons (pv 1) (pa_cons pe_int (pa_cons (pe_fld (pv 0) rfl) pa_nil)))))) (pss_one (ps_raise rfl (takes_of rfl rfl rfl rfl) (pmk_oex T.eC.o T.eC.i T.eC.t G1 hr T.eC.b .nil pass0 rfl T.eC.g (pa_cons (pv 1) pa_nil)))) pss_nil) (pss_cons (ps_if (pt_not (pt_val (pe_callB call_isi (by rfl) T.R.N.k.isi (by decide +kernel) (pa_cons (pv 2) (pa_cons (pe_bltn (v := .ty "bool") (by rfl) T.R.N.k.bool (by decide +kernel) rfl) pa_nil))))) (pss_one (ps_raise rfl (takes_of rfl rfl rfl rfl) (pmk_oex T.eT.o T.eT.i T.eT.t G2 hr T.eT.b .nil pass0 rfl T.eT.g (pa_cons (pv 2) pa_nil)))) pss_nil) (pss_cons (ps_if (pt_val (pe_prop (pv 0) T.R.clR T.R.pO.o GO hr T.R.pO.b .nil pass0 (by rfl))) (pss_one (ps_raise rfl (takes_of rfl rfl rfl rfl) (MkO.pmk_own0 PySem.F.excBase_LookupError T.R.xS.q T.R.xS.g T.R.xS.k (raises_own T.R.xS.s T.R.xS.t) rfl))) pss_nil) (pss_one (ps_if (pt_cmpR op_ge (pe_callB (call_lenO T.R.rl.i T.R.rl.fn GL hr) (by rfl) T.R.N.k.len PySem.boot_len (pa_cons (pv 0) pa_nil)) (pe_glob (v := .int 100) rfl mr ⟨_, rfl⟩) (nomark _)) (pss_one (ps_raise rfl (takes_of rfl rfl rfl rfl) (ExV.pmk_V ExV.tail_A T.xM.V (raises_own T.xM.s T.xM.ty) T.xM.i T.xM.t G3 hr T.xM.b rfl T.xM.g (pe_glob (v := .int 100) rfl mr ⟨_, rfl⟩)))) pss_nil))))), ?_⟩
    obtain ⟨dm, g, h, kk, b0, hm, hMs, _⟩ := hR.mo.head
    obtain ⟨gs, hs, hg, hRp, _⟩ := id hMs
    refine ⟨_, rfl, _, rfl, lv, T.R.CR, dx, _, _, rfl, hR.at_, T.R.clR, T.R.nRs, rf_s .., _, 0, sz, rfl, tc, _, rfl, ?_⟩
    rcases bad with ⟨h1, k⟩ | ⟨h1, bad⟩
    · rw [h1]
      exact iteT (mk_er (x := c) ⟨c, rfl, rfl, rfl⟩ (fun {R R'} ⟨v, e1, q⟩ f => ⟨v, e1, f _ _ q⟩) k)
    rw [h1]
    refine iteF ?_
    obtain ⟨ty, ty1, ty2, ty3⟩ := tb
    refine ⟨_, rfl, _, _, _, _, isB bb, rfl, .ty "bool", ty1, ty3, _, rfl, ?_⟩
    rcases bad with ⟨h2, k⟩ | ⟨h2, bad⟩
    · rw [h2]
      exact iteT (mk_er (x := bb) ⟨bb, rfl, rfl, rfl⟩ (fun {R R'} ⟨v, e1, q⟩ f => ⟨v, e1, f _ _ q⟩) k)
    rw [h2]
    refine iteF ?_
    refine ⟨_, rfl, lv, dx, _, rfl, hR.at_, lv, dx, lo, m, dm, g, h, kk, sz, false, b0, _, rfl, hR.at_, hm, _, rfl, ?_⟩
    rcases bad with ⟨h3, k⟩ | ⟨h3, h4, k⟩
    · rw [h3]
      exact iteT k
    rw [h3]
    refine iteF ?_
    have lg : gs.length = rr.length := by rw [hRp.len, List.length_reverse]
    refine ⟨_, rfl, lv, dx, _, rfl, hR.at_, lv, dx, lo, m, dm, g, h, kk, sz, false, b0, _, gs, rfl, hR.at_, hm, hg, gs.length, rfl, by omega, _, _, rfl, rfl, _, rfl, ?_⟩
    rw [show decide ((100 : Int) ≤ ((gs.length : Nat) : Int)) = true from decide_eq_true (by omega)]
    exact iteT k
theorem ok_rdte (T : TxRe K mg) : FnOk P w K mg base (L2.CX P w) 5 T.R.ta.f T.R.ta.fd ["self", "count", "told"] (spRdCe T) := by
  have GC : FnOk P w K mg base (L2.CX P w) 3 T.R.cr.f T.R.cr.fd ["self", "count", "told"] (spRdCe T) := ok_rdcre T
  refine T.R.ta.F.okX scRdT (fun vs H Q E h => ?_) (fun cdv A outer s H vs Q E hr h => ?_)
  · obtain ⟨lv, _, _, _, _, _, _, _, _, rfl, _⟩ := h
    rfl
  · obtain ⟨lv, dx, lo, m, sz, c, bb, t, rr, rfl, hR, rest⟩ := h
    have hr3 : Room 3 _ := hr.mono (by decide)
    refine ⟨_, (pss_cons (ps_expr (pe_meth (E := E) (pv 0) T.R.clR T.R.cr.m GC hr3 T.R.cr.b .nil (passes_call (takes_of rfl rfl rfl rfl) fun _ _ _ _ z => z) (pa_cons (pv 1) (pa_cons (pv 2) pa_nil)))) (pss_cons ps_never (pss_cons ps_never (pss_cons ps_never (pss_cons ps_never (pss_cons ps_never (pss_cons ps_never (pss_one ps_never)))))))), ?_⟩
    exact ⟨_, rfl, lv, dx, _, rfl, hR.at_, rf_n5 .., _, rfl, _, rfl, lv, dx, lo, m, sz, c, bb, t, rr, rfl, hR, rest⟩
theorem ok_rdfe (T : TxRe K mg) : FnOk P w K mg base (L2.CX P w) 6 T.R.fe.f T.R.fe.fd ["self", "count", "told"] (spRdCe T) := by
  have GC : FnOk P w K mg base CX0 1 T.R.cf.f T.R.cf.fd ["self"] (spRdCf T.R) := ok_rdcf T.R
  have GT : FnOk P w K mg base (L2.CX P w) 5 T.R.ta.f T.R.ta.fd ["self", "count", "told"] (spRdCe T) := ok_rdte T
  refine T.R.fe.F.okX scRdF (fun vs H Q E h => ?_) (fun cdv A outer s H vs Q E hr h => ?_)
  · obtain ⟨lv, _, _, _, _, _, _, _, _, rfl, _⟩ := h
    rfl
  · obtain ⟨lv, dx, lo, m, sz, c, bb, t, rr, rfl, hR, rest⟩ := h
    have hr1 : Room 1 _ := hr.mono (by decide)
    refine ⟨_, (pss_cons (ps_expr (pe_meth0 (pv 0) T.R.clR T.R.cf.m GC hr1 T.R.cf.b .nil pass0)) (pss_one (ps_ret (pe_meth (E := E) (pv 0) T.R.clR T.R.ta.m GT hr T.R.ta.b .nil (passes_call (takes_of rfl rfl rfl rfl) fun _ _ _ _ z => z) (pa_cons (pv 1) (pa_cons (pv 2) pa_nil)))))), ?_⟩
    refine ⟨_, rfl, lv, dx, _, rfl, hR.at_, rf_n4 .., lv, dx, lo, m, sz, rfl, hR.at_, ?_⟩
    exact ⟨_, rfl, lv, dx, _, rfl, hR.at_, rf_n3 .., _, rfl, _, rfl, lv, dx, lo, m, sz, c, bb, t, rr, rfl, hR, rest⟩
/-- feed, both ways -/
def spFe (T : TxRe K mg) : Sp := fun vs H Q E => spRdT T.R vs H Q E ∨ spRdCe T vs H Q E
theorem ok_fe (T : TxRe K mg) : FnOk P w K mg base (L2.CX P w) 6 T.R.fe.f T.R.fe.fd ["self", "count", "told"] (spFe T) := fn_or (ok_rdf T.R) (ok_rdfe T)
def spRi (T : TxRe K mg) : Sp := fun vs H Q E => spRdI T.R vs H Q E ∨ spRdIe T vs H Q E
theorem ok_ri (T : TxRe K mg) : FnOk P w K mg base (L2.CX P w) 4 T.R.fR T.R.fdR ["self", "loop", "size"] (spRi T) := fn_or (ok_rdi T.R) (ok_rdie T)
end
end My

/-! rows said to a console: the text read -/
namespace CoR
open PySem PySem.Builtin PySem.Builtin.Str PySem.StrLaws TL
def F : List Nat := [102, 101, 101, 100, 32]
theorem tlF : tl ("feed " : Str) = F := by decide +kernel
theorem tlB : tl ("!" : Str) = [33] := by decide +kernel
theorem lenF : ("feed " : Str).length = 5 := by decide +kernel
theorem lenB : ("!" : Str).length = 1 := by decide +kernel
theorem sub0 (x : Str) : subAt x "feed " 0 = decide ((tl x).take 5 = F) := by
  rw [subAt_eq, lenF, List.drop_zero]
  show ((tl x).take 5 == tl ("feed " : Str)) = _
  rw [tlF]
  by_cases h : (tl x).take 5 = F
  · rw [h]; decide
  · rw [decide_eq_false h, beq_eq_false_iff_ne]; exact h
theorem take_len {x : Str} (h : (tl x).take 5 = F) : 5 ≤ x.length := by
  have := congrArg List.length h
  rw [List.length_take] at this
  rw [len_tl]
  have e : F.length = 5 := rfl
  omega
theorem sw_feed (x : Str) : Txt.startswith x "feed " = decide ((tl x).take 5 = F) := by
  unfold Txt.startswith
  rw [sub0, lenF]
  by_cases h : (tl x).take 5 = F
  · have := take_len h
    rw [decide_eq_true h, Bool.and_true]
    exact decide_eq_true (by omega)
  · rw [decide_eq_false h, Bool.and_false]
theorem rp_feed {x : Str} (h : (tl x).take 5 = F) : tl (Txt.removeprefix x "feed ") = (tl x).drop 5 := by
  have l := take_len h
  unfold Txt.removeprefix
  rw [sub0, decide_eq_true h, if_pos rfl, lenF]
  show tl (if x.length - 5 == x.length then x else strSub x 5 x.length) = _
  rw [if_neg (by simp; omega), tl_strSub, List.take_of_length_le (by rw [List.length_drop, len_tl]; exact Nat.le_refl _)]
theorem subB {x : Str} (h : 1 ≤ x.length) : subAt x "!" (x.length - 1) = decide ((tl x).getLast? = some 33) := by
  rw [subAt_eq, lenB]
  show (((tl x).drop (x.length - 1)).take 1 == tl ("!" : Str)) = _
  rw [tlB]
  have hn : tl x ≠ [] := fun z => by rw [len_tl, z] at h; exact absurd h (by decide)
  have e : (tl x).drop (x.length - 1) = [(tl x).getLast hn] := by
    rw [len_tl]
    generalize tl x = l at hn
    rcases List.eq_nil_or_concat l with z | ⟨ys, y, rfl⟩
    · exact absurd z hn
    · rw [List.concat_eq_append] at *
      simp
  rw [e, List.getLast?_eq_some_getLast hn]
  by_cases c : (tl x).getLast hn = 33
  · rw [c]; decide
  · rw [decide_eq_false (by intro z; exact c (Option.some.inj z))]
    exact beq_eq_false_iff_ne.mpr fun z => c (List.cons.inj z).1
theorem ew_bang (x : Str) : Txt.endswith x "!" = decide ((tl x).getLast? = some 33) := by
  unfold Txt.endswith
  rw [lenB]
  by_cases h : 1 ≤ x.length
  · rw [subB h, decide_eq_true (by omega : 0 + 1 ≤ x.length), Bool.true_and]
  · have e : tl x = [] := List.length_eq_zero_iff.mp (by rw [← len_tl]; omega)
    rw [decide_eq_false (by omega : ¬ 0 + 1 ≤ x.length), Bool.false_and, e]
    rfl
theorem rs_bang (x : Str) : tl (Txt.removesuffix x "!") = if (tl x).getLast? = some 33 then (tl x).dropLast else tl x := by
  unfold Txt.removesuffix
  rw [lenB]
  by_cases h : 1 ≤ x.length
  · rw [subB h, decide_eq_true (by omega : 1 ≤ x.length), Bool.true_and]
    by_cases c : (tl x).getLast? = some 33
    · rw [decide_eq_true c, if_pos rfl, if_pos c]
      show tl (if x.length - 1 - 0 == x.length then x else strSub x 0 (x.length - 1)) = _
      rw [if_neg (by simp; omega), tl_strSub, List.drop_zero, List.dropLast_eq_take, len_tl]
      rfl
    · rw [decide_eq_false c, if_neg (by decide), if_neg c]
      rfl
  · have e : tl x = [] := List.length_eq_zero_iff.mp (by rw [← len_tl]; omega)
    rw [decide_eq_false (by omega : ¬ 1 ≤ x.length), Bool.false_and, if_neg (by decide), e, if_neg (by decide)]
    exact e
theorem sw0 (x : Str) : Txt.startswith x "0" = decide ((tl x).head? = some 48) := by
  unfold Txt.startswith
  rw [subAt_eq, show ("0" : Str).length = 1 by decide +kernel, List.drop_zero, len_tl]
  show (decide (0 + 1 ≤ (tl x).length) && ((tl x).take 1 == tl ("0" : Str))) = _
  rw [show tl ("0" : Str) = [48] by decide +kernel]
  generalize tl x = l
  cases l with
  | nil => rfl
  | cons c r =>
    by_cases h : c = 48
    · subst h
      simp
    · rw [show decide ((c :: r).head? = some 48) = false from decide_eq_false (fun z => h (Option.some.inj z))]
      simp [h]
/-- a digit -/
def dg (c : Nat) : Bool := decide (48 ≤ c) && decide (c ≤ 57)
/-- the text of a count -/
def isC (d : List Nat) : Bool := d.all dg && !d.isEmpty && (decide (d = [48]) || !decide (d.head? = some 48))
/-- a reply: what the row says -/
def replyL (l : List Nat) : Option (Nat × Bool) :=
  if l.take 5 = F then
    let d := l.drop 5
    let b := decide (d.getLast? = some 33)
    let num := if b = true then d.dropLast else d
    if isC num = true then some (NumText.digitsVal num, b) else none
  else none
/-- ascii and digits -/
theorem ascii_digit : ∀ c : Nat, c < 128 → Unicode.isDigit c = dg c := by decide +kernel
theorem asc_dig (x : Str) : (Txt.isascii x && Txt.isdigit x) = ((tl x).all dg && !(tl x).isEmpty) := by
  unfold Txt.isascii Txt.isdigit
  rw [← Array.all_toList, ← Array.all_toList, len_tl]
  show ((tl x).all (fun c => decide (c < 128)) && (decide ((tl x).length > 0) && (tl x).all Unicode.isDigit)) = _
  generalize tl x = l
  have key : ∀ l : List Nat, (l.all (fun c => decide (c < 128)) && l.all Unicode.isDigit) = l.all dg := fun l => by
    induction l with
    | nil => rfl
    | cons c r ih =>
      rw [List.all_cons, List.all_cons, List.all_cons, ← ih]
      by_cases h : c < 128
      · rw [decide_eq_true h, ascii_digit c h]
        cases dg c <;> cases r.all (fun c => decide (c < 128)) <;> cases r.all Unicode.isDigit <;> rfl
      · have : dg c = false := by unfold dg; rw [Bool.and_eq_false_iff]; exact .inr (decide_eq_false (by omega))
        rw [decide_eq_false h, this]
        rfl
  rw [← key l]
  cases l with
  | nil => rfl
  | cons c r => simp [Bool.and_assoc]
/-- the digits that the program reads -/
def digs (x : Str) : Str := Txt.removesuffix (Txt.removeprefix x "feed ") "!"
theorem digs_tl {x : Str} (h : (tl x).take 5 = F) : tl (digs x) = if decide (((tl x).drop 5).getLast? = some 33) = true then ((tl x).drop 5).dropLast else (tl x).drop 5 := by
  unfold digs
  rw [rs_bang, rp_feed h]
  simp
/-- the last sign of the row -/
theorem last_feed {x : Str} (h : (tl x).take 5 = F) : Txt.endswith x "!" = decide (((tl x).drop 5).getLast? = some 33) := by
  rw [ew_bang]
  have e : tl x = F ++ (tl x).drop 5 := by
    have := List.take_append_drop 5 (tl x)
    rw [h] at this
    exact this.symm
  generalize (tl x).drop 5 = d at e ⊢
  rw [e]
  cases d with
  | nil => decide
  | cons c r => rw [List.getLast?_append, List.getLast?_eq_some_getLast (by simp : c :: r ≠ [])]; rfl
theorem isC_all {d : List Nat} (h : isC d = true) : NumText.AllDigits d ∧ d ≠ [] := by
  unfold isC at h
  rw [Bool.and_eq_true, Bool.and_eq_true] at h
  obtain ⟨⟨a, b⟩, _⟩ := h
  refine ⟨fun c hc => ?_, fun z => by rw [z] at b; exact absurd b (by decide)⟩
  have := List.all_eq_true.mp a c hc
  unfold dg at this
  rw [Bool.and_eq_true, decide_eq_true_eq, decide_eq_true_eq] at this
  exact this
theorem reply_none {x : Str} (h : (tl x).take 5 = F) (c : isC (tl (digs x)) = false) : replyL (tl x) = none := by
  rw [digs_tl h] at c
  unfold replyL
  rw [if_pos h]
  simp only [c]
  rfl
theorem reply_some {x : Str} (h : (tl x).take 5 = F) (c : isC (tl (digs x)) = true) : replyL (tl x) = some (NumText.digitsVal (tl (digs x)), Txt.endswith x "!") := by
  have l := last_feed h
  rw [digs_tl h] at c ⊢
  rw [l]
  unfold replyL
  rw [if_pos h]
  simp only [c]
  rfl
theorem reply_far {x : Str} (h : ¬ (tl x).take 5 = F) : replyL (tl x) = none := by
  unfold replyL
  rw [if_neg h]
theorem digs_len (x : Str) : (digs x).length ≤ x.length := by
  have a := rs_bang (Txt.removeprefix x "feed ")
  have b : (tl (Txt.removeprefix x "feed ")).length ≤ (tl x).length := by
    by_cases h : (tl x).take 5 = F
    · rw [rp_feed h, List.length_drop]; omega
    · unfold Txt.removeprefix
      rw [sub0, decide_eq_false h, if_neg (by decide)]
      exact Nat.le_refl _
  unfold digs
  rw [len_tl, len_tl x, a]
  split
  · rw [List.length_dropLast]; omega
  · exact b
theorem pre_len (x : Str) : (Txt.removeprefix x "feed ").length ≤ x.length := by
  by_cases h : (tl x).take 5 = F
  · rw [len_tl, len_tl x, rp_feed h, List.length_drop]; omega
  · unfold Txt.removeprefix
    rw [sub0, decide_eq_false h, if_neg (by decide)]
    exact Nat.le_refl _
end CoR

/-! how great counts are shown -/
namespace SH
open PySem L2
theorem log_nat {n : Nat} (h : n < 10 ^ 20) : (n : Nat).log2 < 1920 := by
  by_cases h0 : n = 0
  · rw [h0]; decide
  · exact Nat.lt_of_lt_of_le ((Nat.log2_lt h0).mpr (Nat.lt_of_lt_of_le h (show 10 ^ 20 ≤ 2 ^ 70 by decide))) (by decide)
theorem num_le {n : Nat} (h : n < 10 ^ 20) : (PyData.shown (.int (n : Int))).length ≤ 20 := by
  show (Str.ofString (toString ((n : Nat) : Int))).length ≤ 20
  rw [TL.len_tl, TL.tl_num]
  exact TL.numL_len (by decide) h
def pairD (a b : Nat) : PyData := .tuple [.int a, .int b]
theorem join_le : ∀ ts : List Str, (Str.join ", " ts).length ≤ (ts.map fun t => t.length + 2).sum
  | [] => Nat.le_refl _
  | [x] => by
    show x.length ≤ _
    simp
  | x :: y :: r => by
    show (x ++ ", " ++ Str.join ", " (y :: r)).length ≤ _
    rw [strLen_append, strLen_append, show (", " : Str).length = 2 by decide +kernel]
    have := join_le (y :: r)
    rw [List.map_cons, List.sum_cons]
    omega
theorem tup_le (ts : List Str) : (tupleText ts).length ≤ (ts.map fun t => t.length + 2).sum + 3 := by
  unfold tupleText
  rw [strLen_append, strLen_append, show ("(" : Str).length = 1 by decide +kernel]
  have := join_le ts
  have : (Str.ofString (if ts.length == 1 then ",)" else ")" : String)).length ≤ 2 := by
    split
    · decide +kernel
    · decide +kernel
  omega
theorem pair_ok {a b : Nat} (ha : a < 10 ^ 20) (hb : b < 10 ^ 20) : (pairD a b).showable = true ∧ (pairD a b).depth ≤ 64 ∧ (pairD a b).shown.length ≤ sizeLine := by
  refine ⟨?_, ?_, ?_⟩
  · simp only [pairD, PyData.showable, PyData.showableAll, Bool.and_true, Bool.and_eq_true, decide_eq_true_eq]
    exact ⟨by rw [Int.natAbs_natCast]; exact log_nat ha, by rw [Int.natAbs_natCast]; exact log_nat hb⟩
  · simp [pairD, PyData.depth, PyData.depthAll]
  · unfold pairD
    rw [PyData.shown]
    have := tup_le (PyData.shownAll [.int (a : Int), .int (b : Int)])
    have h1 := num_le ha
    have h2 := num_le hb
    simp only [PyData.shownAll, List.map_cons, List.map_nil, List.sum_cons, List.sum_nil] at this
    refine Nat.le_trans this (Nat.le_trans (show _ ≤ 100 by omega) (by decide))
end SH
namespace SH
open PySem L2
def tripD (a b c : Nat) : PyData := .list [.int a, .int b, .int c]
theorem from_le : ∀ (ts : List Str) (k : Nat) (acc : Str), (textFrom k acc ts).length ≤ acc.length + (ts.map fun t => t.length + 2).sum
  | [], _, _ => by simp [textFrom]
  | t :: r, k, acc => by
    rw [textFrom]
    have ih := from_le r (k + 1) (acc ++ (if k > 0 then ", " else "" : String) ++ t)
    rw [strLen_append, strLen_append] at ih
    have : (Str.ofString (if k > 0 then ", " else "" : String)).length ≤ 2 := by
      split
      · decide +kernel
      · decide +kernel
    rw [List.map_cons, List.sum_cons]
    omega
theorem list_le (ts : List Str) : (listText ts).length ≤ (ts.map fun t => t.length + 2).sum + 2 := by
  unfold listText
  rw [strLen_append, show ("]" : Str).length = 1 by decide +kernel]
  have := from_le ts 0 "["
  rw [show ("[" : Str).length = 1 by decide +kernel] at this
  omega
theorem trip_ok {a b c : Nat} (ha : a < 10 ^ 20) (hb : b < 10 ^ 20) (hc : c < 10 ^ 20) : (tripD a b c).showable = true ∧ (tripD a b c).depth ≤ 64 ∧ (tripD a b c).shown.length ≤ sizeLine := by
  refine ⟨?_, ?_, ?_⟩
  · simp only [tripD, PyData.showable, PyData.showableAll, Bool.and_true, Bool.and_eq_true, decide_eq_true_eq]
    exact ⟨by rw [Int.natAbs_natCast]; exact log_nat ha, by rw [Int.natAbs_natCast]; exact log_nat hb, by rw [Int.natAbs_natCast]; exact log_nat hc⟩
  · simp [tripD, PyData.depth, PyData.depthAll]
  · unfold tripD
    rw [PyData.shown]
    have := list_le (PyData.shownAll [.int (a : Int), .int (b : Int), .int (c : Int)])
    have h1 := num_le ha
    have h2 := num_le hb
    have h3 := num_le hc
    simp only [PyData.shownAll, List.map_cons, List.map_nil, List.sum_cons, List.sum_nil] at this
    refine Nat.le_trans this (Nat.le_trans (show _ ≤ 200 by omega) (by decide))
end SH

/-! how much a run hands on, and how long it is when it is shown -/
namespace EM
open PySem L2
def wt (ps : List (List Int)) : Nat := (ps.map fun p => p.length + 1).sum
theorem wt_app (a b : List (List Int)) : wt (a ++ b) = wt a + wt b := by simp [wt, List.map_append, List.sum_append]
theorem cutN_succ' (sz : Nat) (xs : List Int) (i : Nat) : cutN sz xs (i + 1) = cutN sz xs i ++ [(xs.drop (i * sz)).take sz] := by
  unfold cutN
  rw [List.range_succ, List.map_append]
  rfl
theorem wt_cut (sz : Nat) (xs : List Int) : ∀ n, wt (cutN sz xs n) ≤ n * sz + n
  | 0 => by simp [wt, cutN]
  | n + 1 => by
    have ih := wt_cut sz xs n
    rw [cutN_succ', wt_app, Nat.succ_mul]
    have : wt [(xs.drop (n * sz)).take sz] ≤ sz + 1 := by
      simp only [wt, List.map_cons, List.map_nil, List.sum_cons, List.sum_nil, List.length_take]
      omega
    omega
/-- the rest has at most r items, the pieces weigh at most w -/
def Lt (r w : Nat) (x : RP) : Prop := x.rest.length ≤ r ∧ wt x.pieces ≤ w
theorem Lt.mono {r w r' w' : Nat} {x : RP} (h : Lt r w x) (h1 : r ≤ r') (h2 : w ≤ w') : Lt r' w' x := ⟨Nat.le_trans h.1 h1, Nat.le_trans h.2 h2⟩
def isA (s : Str) : Nat := if s = "add" then 1 else 0
theorem lt_perf {size r w h : Nat} {held : List Int} {s : Str} {x : RP} (hh : held.length ≤ h) (hx : Lt r w x) : Lt (r + isA s * h) (w + (2 * r + h + 1)) (perfM size held s x) := by
  obtain ⟨h1, h2⟩ := hx
  have w1 : ∀ p : List Int, wt [p] = p.length + 1 := fun p => by simp [wt]
  unfold perfM isA Lt
  split
  · refine ⟨?_, by show wt x.pieces ≤ _; omega⟩
    show (x.rest ++ held).length ≤ _
    rw [List.length_append]
    omega
  · split
    · refine ⟨by show x.rest.length ≤ _; omega, ?_⟩
      show wt (x.pieces ++ [held]) ≤ _
      rw [wt_app, w1]
      omega
    · split
      · refine ⟨?_, ?_⟩
        · show (x.rest.drop _).length ≤ _
          rw [List.length_drop]
          omega
        · show wt (x.pieces ++ cutN size x.rest (x.rest.length / size)) ≤ _
          rw [wt_app]
          have a := wt_cut size x.rest (x.rest.length / size)
          have b := Nat.div_mul_le_self x.rest.length size
          have c := Nat.div_le_self x.rest.length size
          omega
      · split
        · refine ⟨Nat.zero_le _, ?_⟩
          show wt (x.pieces ++ [x.rest]) ≤ _
          rw [wt_app, w1]
          omega
        · exact ⟨by show x.rest.length ≤ _; omega, by show wt x.pieces ≤ _; omega⟩
def adds : List (Str × Str) → Nat
  | [] => 0
  | (_, s) :: r => isA s + adds r
theorem lt_run {size h : Nat} {held : List Int} {told : Bool} (hh : held.length ≤ h) : ∀ (os : List (Str × Str)) (r w : Nat) (x : RP), Lt r w x → Lt (r + adds os * h) (w + os.length * (2 * (r + adds os * h) + h + 1)) (runW size held told os x).1
  | [], r, w, x, hx => by simpa [runW, adds] using hx
  | (t, s) :: os, r, w, x, hx => by
    have e1 : (isA s + adds os) * h = isA s * h + adds os * h := Nat.add_mul _ _ _
    have m : Lt (r + adds ((t, s) :: os) * h) (w + (os.length + 1) * (2 * (r + adds ((t, s) :: os) * h) + h + 1)) x := hx.mono (Nat.le_add_right _ _) (Nat.le_add_right _ _)
    unfold runW
    rw [List.length_cons]
    split
    · split
      · exact m
      · split
        · exact m
        · have ih := lt_run (size := size) (told := told) hh os _ _ _ (lt_perf (size := size) (s := s) hh hx)
          have e2 : r + isA s * h + adds os * h = r + adds ((t, s) :: os) * h := by show _ = r + (isA s + adds os) * h; omega
          rw [e2] at ih
          refine ih.mono (Nat.le_refl _) ?_
          have : 2 * r + h + 1 ≤ 2 * (r + adds ((t, s) :: os) * h) + h + 1 := by omega
          generalize 2 * (r + adds ((t, s) :: os) * h) + h + 1 = M at this ⊢
          have e3 : (os.length + 1) * M = os.length * M + M := Nat.succ_mul _ _
          omega
    · have ih := lt_run (size := size) (told := told) hh os r w x hx
      refine ih.mono ?_ ?_
      · show _ ≤ r + (isA s + adds os) * h
        omega
      · have a : os.length * (2 * (r + adds os * h) + h + 1) ≤ (os.length + 1) * (2 * (r + adds ((t, s) :: os) * h) + h + 1) := Nat.mul_le_mul (by omega) (by show _ ≤ 2 * (r + (isA s + adds os) * h) + h + 1; omega)
        omega
theorem lt_end {size h : Nat} {held : List Int} {told : Bool} (hh : held.length ≤ h) : ∀ (os : List (Str × Str)) (r w : Nat) (x : RP), Lt r w x → Lt (r + adds os * h) (w + os.length * (2 * (r + adds os * h) + h + 1)) (endW size held told os x)
  | [], r, w, x, hx => by simpa [endW, adds] using hx
  | (t, s) :: os, r, w, x, hx => by
    have e1 : (isA s + adds os) * h = isA s * h + adds os * h := Nat.add_mul _ _ _
    unfold endW
    rw [List.length_cons]
    have h2 : Lt (r + isA s * h) (w + (2 * r + h + 1)) (if passM size held told t x.rest = true then perfM size held s x else x) := by
      split
      · exact lt_perf hh hx
      · exact hx.mono (by omega) (by omega)
    have ih := lt_end (size := size) (told := told) hh os _ _ _ h2
    have e2 : r + isA s * h + adds os * h = r + adds ((t, s) :: os) * h := by show _ = r + (isA s + adds os) * h; omega
    rw [e2] at ih
    refine ih.mono (Nat.le_refl _) ?_
    have : 2 * r + h + 1 ≤ 2 * (r + adds ((t, s) :: os) * h) + h + 1 := by omega
    generalize 2 * (r + adds ((t, s) :: os) * h) + h + 1 = M at this ⊢
    have e3 : (os.length + 1) * M = os.length * M + M := Nat.succ_mul _ _
    omega
theorem lt_ans {size h r w : Nat} {ro eo : List (Str × Str)} {held : List Int} {told : Bool} {x : RP} (hh : held.length ≤ h) (l1 : ro.length ≤ 12) (l2 : eo.length ≤ 6) (a1 : adds ro ≤ 1) (a2 : adds eo = 0) (hx : Lt r w x) : Lt (r + h) (w + 18 * (2 * (r + h) + h + 1)) (ansM size ro eo held told x).1 := by
  have a := lt_run (size := size) (told := told) hh ro r w x hx
  have e1 : adds ro * h ≤ h := by
    have := Nat.mul_le_mul_right h a1
    omega
  have b : Lt (r + h) (w + 12 * (2 * (r + h) + h + 1)) (runW size held told ro x).1 := a.mono (by omega) (Nat.add_le_add_left (Nat.mul_le_mul l1 (by omega)) _)
  unfold ansM
  split
  · have c := lt_end (size := size) (told := told) hh eo _ _ _ b
    rw [a2, Nat.zero_mul, Nat.add_zero] at c
    refine c.mono (Nat.le_refl _) ?_
    have : eo.length * (2 * (r + h) + h + 1) ≤ 6 * (2 * (r + h) + h + 1) := Nat.mul_le_mul_right _ l2
    show w + 12 * (2 * (r + h) + h + 1) + eo.length * (2 * (r + h) + h + 1) ≤ w + 18 * (2 * (r + h) + h + 1)
    omega
  · exact b.mono (Nat.le_refl _) (by omega)
/-! ### the numbers of items -/
def AllB (N : Nat) (xs : List Int) : Prop := ∀ i ∈ xs, 0 ≤ i ∧ i < (N : Int)
def AB (N : Nat) (x : RP) : Prop := AllB N x.rest ∧ ∀ p ∈ x.pieces, AllB N p
theorem AllB.app {N : Nat} {a b : List Int} (ha : AllB N a) (hb : AllB N b) : AllB N (a ++ b) := fun i hi => (List.mem_append.mp hi).elim (ha i) (hb i)
theorem ab_perf {N size : Nat} {held : List Int} {s : Str} {x : RP} (hh : AllB N held) (hx : AB N x) : AB N (perfM size held s x) := by
  obtain ⟨h1, h2⟩ := hx
  unfold perfM
  split
  · exact ⟨h1.app hh, h2⟩
  · split
    · refine ⟨h1, fun p hp => ?_⟩
      rcases List.mem_append.mp hp with hp | hp
      · exact h2 p hp
      · rw [List.mem_singleton.mp hp]
        exact hh
    · split
      · refine ⟨fun i hi => h1 i (List.mem_of_mem_drop hi), fun p hp => ?_⟩
        rcases List.mem_append.mp hp with hp | hp
        · exact h2 p hp
        · obtain ⟨k, _, rfl⟩ := List.mem_map.mp hp
          exact fun i hi => h1 i (List.mem_of_mem_drop (List.mem_of_mem_take hi))
      · split
        · refine ⟨fun i hi => (nomatch hi), fun p hp => ?_⟩
          rcases List.mem_append.mp hp with hp | hp
          · exact h2 p hp
          · rw [List.mem_singleton.mp hp]
            exact h1
        · exact ⟨h1, h2⟩
theorem ab_run {N size : Nat} {held : List Int} {told : Bool} (hh : AllB N held) : ∀ (os : List (Str × Str)) (x : RP), AB N x → AB N (runW size held told os x).1
  | [], x, hx => hx
  | (t, s) :: os, x, hx => by
    unfold runW
    split
    · split
      · exact hx
      · split
        · exact hx
        · exact ab_run hh os _ (ab_perf hh hx)
    · exact ab_run hh os _ hx
theorem ab_end {N size : Nat} {held : List Int} {told : Bool} (hh : AllB N held) : ∀ (os : List (Str × Str)) (x : RP), AB N x → AB N (endW size held told os x)
  | [], x, hx => hx
  | (t, s) :: os, x, hx => by
    unfold endW
    refine ab_end hh os _ ?_
    split
    · exact ab_perf hh hx
    · exact hx
theorem ab_ans {N size : Nat} {ro eo : List (Str × Str)} {held : List Int} {told : Bool} {x : RP} (hh : AllB N held) (hx : AB N x) : AB N (ansM size ro eo held told x).1 := by
  unfold ansM
  split
  · exact ab_end hh eo _ (ab_run hh ro x hx)
  · exact ab_run hh ro x hx
/-! ### shown -/
def pieceD (p : List Int) : PyData := .tuple (p.map PyData.int)
def runD (ps : List (List Int)) (u : Nat) (st : Bool) : PyData := .tuple [.tuple (ps.map pieceD), .int u, .bool st]
theorem join_le : ∀ ts : List Str, (Str.join ", " ts).length ≤ (ts.map fun t => t.length + 2).sum
  | [] => Nat.le_refl _
  | [x] => by
    show x.length ≤ _
    simp
  | x :: y :: r => by
    show (x ++ ", " ++ Str.join ", " (y :: r)).length ≤ _
    rw [strLen_append, strLen_append, show (", " : Str).length = 2 by decide +kernel]
    have := join_le (y :: r)
    rw [List.map_cons, List.sum_cons]
    omega
theorem tup_le (ts : List Str) : (tupleText ts).length ≤ (ts.map fun t => t.length + 2).sum + 3 := by
  unfold tupleText
  rw [strLen_append, strLen_append, show ("(" : Str).length = 1 by decide +kernel]
  have := join_le ts
  have : (Str.ofString (if ts.length == 1 then ",)" else ")" : String)).length ≤ 2 := by
    split
    · decide +kernel
    · decide +kernel
  omega
theorem int_le {i : Int} (h0 : 0 ≤ i) (h1 : i < 1000000) : (PyData.shown (.int i)).length ≤ 6 := by
  obtain ⟨n, rfl⟩ := Int.eq_ofNat_of_zero_le h0
  show (Str.ofString (toString ((n : Nat) : Int))).length ≤ 6
  rw [TL.len_tl, TL.tl_num]
  exact TL.numL_len (by decide) (by omega)
theorem sum_ints {N : Nat} (hN : N ≤ 1000000) : ∀ {p : List Int}, AllB N p → ((PyData.shownAll (p.map PyData.int)).map fun t => t.length + 2).sum ≤ 8 * p.length
  | [], _ => by simp [PyData.shownAll]
  | i :: r, h => by
    have a := h i (List.mem_cons_self ..)
    have b := int_le (i := i) a.1 (by omega)
    have c := sum_ints hN (p := r) fun z hz => h z (List.mem_cons_of_mem _ hz)
    rw [List.map_cons, PyData.shownAll, List.map_cons, List.sum_cons, List.length_cons]
    omega
theorem piece_le {N : Nat} (hN : N ≤ 1000000) {p : List Int} (h : AllB N p) : (PyData.shown (pieceD p)).length ≤ 8 * p.length + 3 := by
  unfold pieceD
  rw [PyData.shown]
  have := tup_le (PyData.shownAll (p.map PyData.int))
  have := sum_ints hN h
  omega
theorem sum_pieces {N : Nat} (hN : N ≤ 1000000) : ∀ {ps : List (List Int)}, (∀ p ∈ ps, AllB N p) → ((PyData.shownAll (ps.map pieceD)).map fun t => t.length + 2).sum ≤ 8 * wt ps
  | [], _ => by simp [PyData.shownAll, wt]
  | p :: r, h => by
    have b := piece_le hN (h p (List.mem_cons_self ..))
    have c := sum_pieces hN (ps := r) fun z hz => h z (List.mem_cons_of_mem _ hz)
    rw [List.map_cons, PyData.shownAll, List.map_cons, List.sum_cons]
    have e : wt (p :: r) = p.length + 1 + wt r := by simp [wt]
    omega
theorem run_le {N : Nat} (hN : N ≤ 1000000) {ps : List (List Int)} {u : Nat} {st : Bool} (h : ∀ p ∈ ps, AllB N p) (hu : u < 1000000) : (PyData.shown (runD ps u st)).length ≤ 8 * wt ps + 40 := by
  unfold runD
  rw [PyData.shown]
  have a := tup_le (PyData.shownAll [.tuple (ps.map pieceD), .int (u : Int), .bool st])
  have b : (PyData.shown (.tuple (ps.map pieceD))).length ≤ 8 * wt ps + 3 := by
    rw [PyData.shown]
    have := tup_le (PyData.shownAll (ps.map pieceD))
    have := sum_pieces hN h
    omega
  have c := int_le (i := (u : Int)) (by omega) (by omega)
  have d : (PyData.shown (.bool st)).length ≤ 5 := by cases st <;> decide +kernel
  simp only [PyData.shownAll, List.map_cons, List.map_nil, List.sum_cons, List.sum_nil] at a ⊢
  omega
/-- two of them in a list -/
theorem from_le : ∀ (ts : List Str) (k : Nat) (acc : Str), (textFrom k acc ts).length ≤ acc.length + (ts.map fun t => t.length + 2).sum
  | [], _, _ => by simp [textFrom]
  | t :: r, k, acc => by
    rw [textFrom]
    have ih := from_le r (k + 1) (acc ++ (if k > 0 then ", " else "" : String) ++ t)
    rw [strLen_append, strLen_append] at ih
    have : (Str.ofString (if k > 0 then ", " else "" : String)).length ≤ 2 := by
      split
      · decide +kernel
      · decide +kernel
    rw [List.map_cons, List.sum_cons]
    omega
theorem list_le (ts : List Str) : (listText ts).length ≤ (ts.map fun t => t.length + 2).sum + 2 := by
  unfold listText
  rw [strLen_append, show ("]" : Str).length = 1 by decide +kernel]
  have := from_le ts 0 "["
  rw [show ("[" : Str).length = 1 by decide +kernel] at this
  omega
def twoD (ps : List (List Int)) (u : Nat) (st : Bool) : PyData := .list [runD ps u st, runD ps u st]
theorem two_le {N : Nat} (hN : N ≤ 1000000) {ps : List (List Int)} {u : Nat} {st : Bool} (h : ∀ p ∈ ps, AllB N p) (hu : u < 1000000) : (PyData.shown (twoD ps u st)).length ≤ 16 * wt ps + 90 := by
  unfold twoD
  rw [PyData.shown]
  have a := list_le (PyData.shownAll [runD ps u st, runD ps u st])
  have b := run_le hN (u := u) (st := st) h hu
  simp only [PyData.shownAll, List.map_cons, List.map_nil, List.sum_cons, List.sum_nil] at a ⊢
  omega
theorem ints_showable : ∀ p : List Int, AllB 1000000 p → PyData.showableAll (p.map PyData.int) = true
  | [], _ => by simp [PyData.showableAll]
  | i :: r, h => by
    have a := h i (List.mem_cons_self ..)
    have b := ints_showable r fun z hz => h z (List.mem_cons_of_mem _ hz)
    rw [List.map_cons, PyData.showableAll, PyData.showable, b, Bool.and_true]
    refine decide_eq_true ?_
    obtain ⟨n, rfl⟩ := Int.eq_ofNat_of_zero_le a.1
    show (n : Nat).log2 < 1920
    have hn : n < 1000000 := by omega
    by_cases h0 : n = 0
    · rw [h0]; decide
    · exact Nat.lt_of_lt_of_le ((Nat.log2_lt h0).mpr (Nat.lt_of_lt_of_le hn (show 1000000 ≤ 2 ^ 20 by decide))) (by decide)
theorem pieces_showable : ∀ ps : List (List Int), (∀ p ∈ ps, AllB 1000000 p) → PyData.showableAll (ps.map pieceD) = true
  | [], _ => by simp [PyData.showableAll]
  | p :: r, h => by
    have a := ints_showable p (h p (List.mem_cons_self ..))
    have b := pieces_showable r fun z hz => h z (List.mem_cons_of_mem _ hz)
    rw [List.map_cons, PyData.showableAll, b, Bool.and_true]
    unfold pieceD
    rw [PyData.showable]
    exact a
theorem two_showable {ps : List (List Int)} {u : Nat} {st : Bool} (h : ∀ p ∈ ps, AllB 1000000 p) (hu : u < 1000000) : PyData.showable (twoD ps u st) = true := by
  have a := pieces_showable ps h
  have b := ints_showable [(u : Int)] fun i hi => by rw [List.mem_singleton.mp hi]; exact ⟨by omega, by omega⟩
  simp only [List.map_cons, List.map_nil, PyData.showableAll, Bool.and_true] at b
  simp only [twoD, runD, PyData.showable, PyData.showableAll, a, Bool.true_and, Bool.and_true]
  simp only [PyData.showable] at b
  rw [b]
  rfl
theorem ints_depth : ∀ p : List Int, PyData.depthAll (p.map PyData.int) ≤ 1
  | [] => by simp [PyData.depthAll]
  | x :: r => by
    have := ints_depth r
    simp only [List.map_cons, PyData.depthAll, PyData.depth] at this ⊢
    omega
theorem pieces_depth : ∀ ps : List (List Int), PyData.depthAll (ps.map pieceD) ≤ 2
  | [] => by simp [PyData.depthAll]
  | p :: r => by
    have := pieces_depth r
    have := ints_depth p
    simp only [List.map_cons, PyData.depthAll, PyData.depth, pieceD] at *
    omega
theorem two_depth (ps : List (List Int)) (u : Nat) (st : Bool) : PyData.depth (twoD ps u st) ≤ 64 := by
  have := pieces_depth ps
  simp only [twoD, runD, PyData.depth, PyData.depthAll]
  omega
end EM

/-! the texts of pieces -/
namespace CoR
open PySem PySem.Builtin PySem.Builtin.Str PySem.StrLaws TL
def nmS (i : Int) : Str := Str.ofString (toString i)
/-- the text of items -/
def itT (xs : List Int) : Str := if xs = [] then "-" else Txt.join "," (xs.map nmS)
/-- the text of pieces -/
def pcT (ps : List (List Int)) : Str := if ps = [] then "none" else Txt.join " " (ps.map itT)
/-- items of ordinary size -/
def Ord (xs : List Int) : Prop := ∀ i ∈ xs, 0 ≤ i ∧ i < 10 ^ 20
theorem nm_len {i : Int} (h : 0 ≤ i ∧ i < 10 ^ 20) : (nmS i).length ≤ 20 := by
  obtain ⟨n, rfl⟩ := Int.eq_ofNat_of_zero_le h.1
  exact SH.num_le (by omega)
theorem nm_log {i : Int} (h : 0 ≤ i ∧ i < 10 ^ 20) : i.natAbs.log2 < 1920 := by
  obtain ⟨n, rfl⟩ := Int.eq_ofNat_of_zero_le h.1
  rw [Int.natAbs_natCast]
  exact SH.log_nat (by omega)
theorem nms_sum : ∀ {xs : List Int}, Ord xs → ((xs.map nmS).map (·.length)).sum ≤ 20 * xs.length
  | [], _ => Nat.le_refl _
  | x :: r, h => by
    have a := nm_len (h x (List.mem_cons_self ..))
    have b := nms_sum (xs := r) fun i hi => h i (List.mem_cons_of_mem _ hi)
    rw [List.map_cons, List.map_cons, List.sum_cons, List.length_cons]
    omega
theorem joinK_len (S : Str) : ∀ B : List Str, (Txt.join S B).length ≤ (B.map (·.length)).sum + B.length * S.length
  | [] => by
    rw [len_tl, TL.join_eq, tl_join]
    exact Nat.zero_le _
  | [x] => by
    rw [List.map_cons, List.sum_cons]
    have : Txt.join S [x] = x := rfl
    rw [this]
    omega
  | x :: y :: r => by
    have ih := joinK_len S (y :: r)
    have e : tl (Txt.join S (x :: y :: r)) = tl x ++ (tl S ++ tl (Txt.join S (y :: r))) := by
      rw [TL.join_eq, TL.join_eq, tl_join, tl_join]
      rfl
    rw [len_tl, e, List.length_append, List.length_append, ← len_tl, ← len_tl, ← len_tl]
    rw [List.map_cons, List.sum_cons, List.length_cons, Nat.succ_mul]
    omega
theorem it_len {xs : List Int} (h : Ord xs) : (itT xs).length ≤ 1 + 21 * xs.length := by
  unfold itT
  split
  · exact Nat.le_trans (show ("-" : Str).length ≤ 1 by decide +kernel) (by omega)
  · have a := joinK_len "," (xs.map nmS)
    have b := nms_sum h
    rw [List.length_map, show ("," : Str).length = 1 by decide +kernel] at a
    omega
end CoR

/-! loops that are drawn -/
namespace LM
open PySem L2 TL
def sBar : Str := " | "
def sSp : Str := " "
def samples : List Str := ["ask empty:stop hand", "ask hand short:stop", "ask add cut told:stop | rest:flush", "ask told:stop hand", "ask add empty:stop | rest:flush", "ask add cut empty:stop | flush", "ask some:hand told:stop", "ask empty:stop add cut | rest:flush", "ask empty:again hand told:stop", "ask add full:flush told:stop"]
def sampP (s : Str) : List Str := Txt.split s " | "
def sampB (s : Str) : List Str := Txt.split ((sampP s).getD 0 Str.empty) " "
def sampE (s : Str) : List Str := if (sampP s).length > 1 then Txt.split ((sampP s).getD 1 Str.empty) " " else []
def sampOk (s : Str) : Bool := isRound (sampB s) && (isEnding (sampE s) && (decide ((sampB s).length ≤ 4) && (decide ((sampE s).length ≤ 1) && (decide (1 ≤ (sampP s).length) && (decide (s.length ≤ 100) && (sampP s).all fun p => decide (p.length ≤ 100))))))
theorem samp_ok : ∀ s ∈ samples, sampOk s = true := by decide +kernel
structure Samp (s : Str) : Prop where
  r : isRound (sampB s) = true
  e : isEnding (sampE s) = true
  lb : (sampB s).length ≤ 4
  le : (sampE s).length ≤ 1
  l1 : 1 ≤ (sampP s).length
  ls : s.length ≤ 100
  lp : ∀ p ∈ sampP s, p.length ≤ 100
theorem samp_of {s : Str} (h : s ∈ samples) : Samp s := by
  have := samp_ok s h
  unfold sampOk at this
  simp only [Bool.and_eq_true, decide_eq_true_eq, List.all_eq_true] at this
  exact ⟨this.1, this.2.1, this.2.2.1, this.2.2.2.1, this.2.2.2.2.1, this.2.2.2.2.2.1, this.2.2.2.2.2.2⟩
/-! ### a word more -/
def plain5 : List Str := ["hand", "cut", "flush", "stop", "again"]
theorem wd_round {w : Str} (h : Wd rsteps w) : isWord w rsteps = true := by
  have := wd_ok w h.mem
  unfold wdOk at this
  exact (Bool.and_eq_true_iff.mp this).1
theorem wd_ending {w : Str} (h : Wd esteps w) : isWord w esteps = true := wd_end w h.mem
theorem wd_plain {w : Str} (h : Wd plain5 w) : isAdd w = false := wd_noadd w h.mem
theorem ask_noadd : isAdd "ask" = false := by decide +kernel
theorem ins_round {B xs : List Str} {i : Nat} (hB : isRound B = true) (hi : 1 ≤ i) (hx : ∀ x ∈ xs, isWord x rsteps = true) (hl : B.length + xs.length ≤ 12) (ha : (B.filter isAdd).length + (xs.filter isAdd).length ≤ 1) :
    isRound (B.take i ++ xs ++ B.drop i) = true := by
  obtain ⟨r, rfl, h2, h3, h4⟩ := isRound_iff.mp hB
  obtain ⟨k, rfl⟩ : ∃ k, i = k + 1 := ⟨i - 1, by omega⟩
  refine isRound_iff.mpr ⟨r.take k ++ xs ++ r.drop k, rfl, ?_, ?_, fun w hw => ?_⟩
  · rw [List.length_append, List.length_append, List.length_take, List.length_drop]
    omega
  · rw [List.filter_append, List.filter_append, List.length_append, List.length_append]
    have e : (((("ask" : Str) :: r).take (k + 1)).filter isAdd).length + (((("ask" : Str) :: r).drop (k + 1)).filter isAdd).length = ((("ask" : Str) :: r).filter isAdd).length := by
      rw [← List.length_append, ← List.filter_append, List.take_append_drop]
    omega
  · rcases List.mem_append.mp hw with hw | hw
    · rcases List.mem_append.mp hw with hw | hw
      · exact h4 w (List.mem_of_mem_take hw)
      · exact hx w hw
    · exact h4 w (List.mem_of_mem_drop hw)
theorem ask_round {ws : List Str} (h : ∀ w ∈ ws, Wd plain5 w) (hl : ws.length ≤ 11) : isRound (("ask" : Str) :: ws) = true ∧ ((("ask" : Str) :: ws).filter isAdd).length = 0 := by
  have e : ((("ask" : Str) :: ws).filter isAdd) = [] := by
    refine List.filter_eq_nil_iff.mpr fun w hw => ?_
    rcases List.mem_cons.mp hw with rfl | hw
    · rw [ask_noadd]; exact Bool.false_ne_true
    · rw [wd_plain (h w hw)]; exact Bool.false_ne_true
  refine ⟨isRound_iff.mpr ⟨ws, rfl, by rw [List.length_cons]; omega, by rw [e]; exact Nat.zero_le _, fun w hw => wd_round ((h w hw).mono (by decide +kernel))⟩, by rw [e]; rfl⟩
theorem one_filter {xs : List Str} (h : xs.length = 1) : (xs.filter isAdd).length ≤ 1 := Nat.le_trans (List.length_filter_le ..) (by omega)
theorem none_filter {xs : List Str} (h : ∀ w ∈ xs, Wd plain5 w) : (xs.filter isAdd).length = 0 := by
  rw [show xs.filter isAdd = [] from List.filter_eq_nil_iff.mpr fun w hw => by rw [wd_plain (h w hw)]; exact Bool.false_ne_true]
  rfl
theorem round_adds {B : List Str} (h : isRound B = true) : (B.filter isAdd).length ≤ 1 := let ⟨_, _, _, h3, _⟩ := isRound_iff.mp h; h3
theorem words_ending {E : List Str} (h : ∀ w ∈ E, Wd esteps w) (hl : E.length ≤ 6) : isEnding E = true := isEnding_iff.mpr ⟨hl, fun w hw => wd_ending (h w hw)⟩
/-! ### signs that are signs -/
def Asc (w : Str) : Prop := PyData.strOk w = true
theorem asc_iff {w : Str} : Asc w ↔ ∀ c ∈ tl w, c < 1114112 := by
  unfold Asc PyData.strOk
  rw [← Array.all_toList, List.all_eq_true]
  simp
theorem Asc.app {a b : Str} (ha : Asc a) (hb : Asc b) : Asc (a ++ b) := by
  rw [asc_iff] at ha hb ⊢
  rw [tl_append]
  intro c hc
  exact (List.mem_append.mp hc).elim (ha c) (hb c)
theorem asc_join {B : List Str} (h : ∀ w ∈ B, Asc w) : Asc (Txt.join " " B) := by
  rw [asc_iff, tl_joinSp]
  intro c hc
  rcases joinL_mem hc with hc | ⟨p, hp, hc⟩
  · rw [List.mem_singleton.mp hc]
    decide
  · obtain ⟨w, hw, rfl⟩ := List.mem_map.mp hp
    exact asc_iff.mp (h w hw) c hc
theorem asc_bar : Asc " | " := by unfold Asc; decide +kernel
theorem asc_text {B E : List Str} (h1 : ∀ w ∈ B, Asc w) (h2 : ∀ w ∈ E, Asc w) : Asc (textOf B E) := by
  unfold textOf
  split
  · exact asc_join h1
  · exact ((asc_join h1).app asc_bar).app (asc_join h2)
theorem wd_asc' : ∀ w ∈ allWd rsteps, PyData.strOk w = true := by decide +kernel
theorem wd_asc {w : Str} (h : Wd rsteps w) : Asc w := wd_asc' w h.mem
theorem ask_asc : Asc "ask" := by unfold Asc; decide +kernel
theorem round_asc {B : List Str} (h : isRound B = true) : ∀ w ∈ B, Asc w := by
  obtain ⟨r, rfl, _, _, h4⟩ := isRound_iff.mp h
  intro w hw
  rcases List.mem_cons.mp hw with rfl | hw
  · exact ask_asc
  · exact wd_asc (word_wd (h4 w hw))
theorem ending_asc {E : List Str} (h : isEnding E = true) : ∀ w ∈ E, Asc w := fun w hw => wd_asc ((word_wd ((isEnding_iff.mp h).2 w hw)).mono e_r)
end LM

/-! rows of pieces: what cutters make of them -/
namespace CH
def evenly (n w : Nat) : List Nat := List.replicate (n / w) w ++ (if n % w = 0 then [] else [n % w])
def chop (xs : List Nat) (w : Nat) : List Nat := xs.flatMap fun x => evenly x w
def tailS (xs : List Nat) (w : Nat) : List Nat := if 2 ≤ xs.length ∧ xs.getD (xs.length - 1) 0 < w then xs.take (xs.length - 2) ++ [xs.getD (xs.length - 2) 0 + xs.getD (xs.length - 1) 0] else xs
inductive Kd | cut | fill | tail
  deriving DecidableEq
def applyS (n : Nat) (c : Kd × Nat) (xs : List Nat) : List Nat := match c.1 with
  | .cut => chop xs c.2
  | .fill => evenly n c.2
  | .tail => tailS xs c.2
def wholeS (n : Nat) : List Nat := if n = 0 then [] else [n]
/-- the sizes of the pieces -/
def lens (cs : List (Kd × Nat)) (n : Nat) : List Nat := cs.foldl (fun xs c => applyS n c xs) (wholeS n)
structure Rw where
  unit : List Nat
  times : Nat
  last : List Nat
def Rw.sizes (r : Rw) : List Nat := (List.replicate r.times r.unit).flatten ++ r.last
def Rw.many (r : Rw) : Nat := r.times * r.unit.length + r.last.length
def Rw.tot (r : Rw) : Nat := r.times * r.unit.sum + r.last.sum
def fillR (r : Rw) (w : Nat) : Rw := ⟨[w], r.tot / w, if r.tot % w = 0 then [] else [r.tot % w]⟩
def cutR (r : Rw) (w : Nat) : Rw := if r.many = 1 then fillR r w else ⟨chop r.unit w, r.times, chop r.last w⟩
def pull (u : List Nat) : Nat → List Nat → Nat × List Nat
  | 0, l => (0, l)
  | t + 1, l => if l.length < 2 then pull u t (u ++ l) else (t + 1, l)
def tailR (r : Rw) (w : Nat) : Rw := ⟨r.unit, (pull r.unit r.times r.last).1, tailS (pull r.unit r.times r.last).2 w⟩
def wholeR (n : Nat) : Rw := ⟨[], 0, wholeS n⟩
def applyR (c : Kd × Nat) (r : Rw) : Rw := match c.1 with
  | .cut => cutR r c.2
  | .fill => fillR r c.2
  | .tail => tailR r c.2
def rowOf (cs : List (Kd × Nat)) (n : Nat) : Rw := cs.foldl (fun r c => applyR c r) (wholeR n)
/-! ### lists -/
theorem rep_len (u : List Nat) : ∀ t, (List.replicate t u).flatten.length = t * u.length
  | 0 => by simp
  | t + 1 => by rw [List.replicate_succ, List.flatten_cons, List.length_append, rep_len u t, Nat.succ_mul]; omega
theorem rep_sum (u : List Nat) : ∀ t, (List.replicate t u).flatten.sum = t * u.sum
  | 0 => by simp
  | t + 1 => by rw [List.replicate_succ, List.flatten_cons, List.sum_append, rep_sum u t, Nat.succ_mul]; omega
theorem sizes_len (r : Rw) : r.sizes.length = r.many := by unfold Rw.sizes Rw.many; rw [List.length_append, rep_len]
theorem sizes_sum (r : Rw) : r.sizes.sum = r.tot := by unfold Rw.sizes Rw.tot; rw [List.sum_append, rep_sum]
theorem flat_one (w : Nat) : ∀ t, (List.replicate t [w]).flatten = List.replicate t w
  | 0 => rfl
  | t + 1 => by rw [List.replicate_succ, List.flatten_cons, flat_one w t, List.replicate_succ]; rfl
theorem fill_sizes (r : Rw) (w : Nat) : (fillR r w).sizes = evenly r.tot w := by
  unfold fillR Rw.sizes evenly
  rw [flat_one]
theorem evenly_sum (n w : Nat) : (evenly n w).sum = n := by
  unfold evenly
  rw [List.sum_append, List.sum_replicate_nat]
  have := Nat.div_add_mod n w
  split
  · rw [List.sum_nil]; rw [Nat.mul_comm]; omega
  · rw [List.sum_singleton, Nat.mul_comm]; omega
theorem chop_app (a b : List Nat) (w : Nat) : chop (a ++ b) w = chop a w ++ chop b w := by unfold chop; rw [List.flatMap_append]
theorem chop_rep (u : List Nat) (w : Nat) : ∀ t, chop (List.replicate t u).flatten w = (List.replicate t (chop u w)).flatten
  | 0 => rfl
  | t + 1 => by rw [List.replicate_succ, List.flatten_cons, chop_app, chop_rep u w t, List.replicate_succ, List.flatten_cons]
theorem chop_sum (w : Nat) : ∀ xs, (chop xs w).sum = xs.sum
  | [] => rfl
  | x :: r => by
    show (evenly x w ++ chop r w).sum = _
    rw [List.sum_append, evenly_sum, chop_sum w r, List.sum_cons]
theorem cut_sizes (r : Rw) (w : Nat) : (cutR r w).sizes = chop r.sizes w := by
  unfold cutR
  split
  · rename_i h
    rw [fill_sizes]
    rw [← sizes_len] at h
    rw [← sizes_sum]
    match r.sizes, h with
    | [x], _ =>
      show evenly (x + 0) w = evenly x w ++ []
      rw [List.append_nil]; rfl
  · show (List.replicate r.times (chop r.unit w)).flatten ++ chop r.last w = _
    unfold Rw.sizes
    rw [chop_app, chop_rep]
theorem pull_sizes (u : List Nat) : ∀ (t : Nat) (l : List Nat), (List.replicate (pull u t l).1 u).flatten ++ (pull u t l).2 = (List.replicate t u).flatten ++ l
  | 0, l => rfl
  | t + 1, l => by
    unfold pull
    split
    · rw [pull_sizes u t (u ++ l), List.replicate_succ', List.flatten_append, List.append_assoc]
      simp
    · rfl
theorem pull_end (u : List Nat) : ∀ (t : Nat) (l : List Nat), (pull u t l).1 = 0 ∨ 2 ≤ (pull u t l).2.length
  | 0, l => .inl rfl
  | t + 1, l => by
    unfold pull
    split
    · exact pull_end u t (u ++ l)
    · right; show 2 ≤ l.length; omega
theorem getD_app (a b : List Nat) (i : Nat) (h : a.length ≤ i) : (a ++ b).getD i 0 = b.getD (i - a.length) 0 := by
  rw [List.getD_eq_getElem?_getD, List.getD_eq_getElem?_getD, List.getElem?_append_right h]
theorem tailS_app (a b : List Nat) (w : Nat) (h : 2 ≤ b.length) : tailS (a ++ b) w = a ++ tailS b w := by
  unfold tailS
  rw [List.length_append, getD_app a b _ (by omega), getD_app a b _ (by omega), show a.length + b.length - 1 - a.length = b.length - 1 by omega, show a.length + b.length - 2 - a.length = b.length - 2 by omega]
  by_cases c : b.getD (b.length - 1) 0 < w
  · rw [if_pos ⟨by omega, c⟩, if_pos ⟨h, c⟩, List.take_append, List.take_of_length_le (by omega), List.append_assoc, show a.length + b.length - 2 - a.length = b.length - 2 by omega]
  · rw [if_neg fun z => c z.2, if_neg fun z => c z.2]
theorem tail_sizes (r : Rw) (w : Nat) : (tailR r w).sizes = tailS r.sizes w := by
  show (List.replicate (pull r.unit r.times r.last).1 r.unit).flatten ++ tailS (pull r.unit r.times r.last).2 w = _
  have e := pull_sizes r.unit r.times r.last
  unfold Rw.sizes
  rw [← e]
  rcases pull_end r.unit r.times r.last with h | h
  · rw [h]; rfl
  · rw [tailS_app _ _ _ h]
theorem getD_eq {xs : List Nat} {i : Nat} (h : i < xs.length) : xs.getD i 0 = xs[i] := by rw [List.getD_eq_getElem?_getD, List.getElem?_eq_getElem h]; rfl
theorem two_last {xs : List Nat} (h : 2 ≤ xs.length) : xs = xs.take (xs.length - 2) ++ [xs.getD (xs.length - 2) 0, xs.getD (xs.length - 1) 0] := by
  have e : xs.drop (xs.length - 2) = [xs.getD (xs.length - 2) 0, xs.getD (xs.length - 1) 0] := by
    rw [List.drop_eq_getElem_cons (by omega), List.drop_eq_getElem_cons (by omega), List.drop_of_length_le (by omega)]
    rw [getD_eq (by omega), getD_eq (by omega)]
    have e : xs.length - 2 + 1 = xs.length - 1 := by omega
    simp [e]
  rw [← e, List.take_append_drop]
theorem tailS_sum (xs : List Nat) (w : Nat) : (tailS xs w).sum = xs.sum := by
  unfold tailS
  split
  · rename_i h
    rw [List.sum_append]
    conv => rhs; rw [two_last h.1]
    rw [List.sum_append]
    simp
  · rfl
theorem wholeS_sum (n : Nat) : (wholeS n).sum = n := by
  unfold wholeS
  split
  · rename_i h; rw [h]; rfl
  · simp
theorem applyS_sum (n : Nat) (c : Kd × Nat) (xs : List Nat) (h : xs.sum = n) : (applyS n c xs).sum = n := by
  unfold applyS
  split
  · rw [chop_sum, h]
  · rw [evenly_sum]
  · rw [tailS_sum, h]
theorem fold_sizes (n : Nat) : ∀ (cs : List (Kd × Nat)) (r : Rw) (xs : List Nat), r.sizes = xs → xs.sum = n → (cs.foldl (fun r c => applyR c r) r).sizes = cs.foldl (fun xs c => applyS n c xs) xs ∧ (cs.foldl (fun xs c => applyS n c xs) xs).sum = n
  | [], r, xs, h1, h2 => ⟨h1, h2⟩
  | c :: cs, r, xs, h1, h2 => by
    refine fold_sizes n cs (applyR c r) (applyS n c xs) ?_ (applyS_sum n c xs h2)
    unfold applyR applyS
    split
    · rw [cut_sizes, h1]
    · rw [fill_sizes, ← sizes_sum, h1, h2]
    · rw [tail_sizes, h1]
theorem row_sizes (cs : List (Kd × Nat)) (n : Nat) : (rowOf cs n).sizes = lens cs n := (fold_sizes n cs (wholeR n) (wholeS n) rfl (wholeS_sum n)).1
theorem lens_sum (cs : List (Kd × Nat)) (n : Nat) : (lens cs n).sum = n := (fold_sizes n cs (wholeR n) (wholeS n) rfl (wholeS_sum n)).2
theorem row_many (cs : List (Kd × Nat)) (n : Nat) : (rowOf cs n).many = (lens cs n).length := by rw [← sizes_len, row_sizes]
theorem row_tot (cs : List (Kd × Nat)) (n : Nat) : (rowOf cs n).tot = n := by rw [← sizes_sum, row_sizes, lens_sum]
/-! ### all pieces have items -/
def Pos (xs : List Nat) : Prop := ∀ x ∈ xs, 0 < x
theorem Pos.app {a b : List Nat} (ha : Pos a) (hb : Pos b) : Pos (a ++ b) := fun x h => (List.mem_append.mp h).elim (ha x) (hb x)
theorem Pos.len {xs : List Nat} (h : Pos xs) : xs.length ≤ xs.sum := by
  induction xs with
  | nil => simp
  | cons x r ih =>
    have a := h x (List.mem_cons_self ..)
    have b := ih fun y hy => h y (List.mem_cons_of_mem _ hy)
    rw [List.length_cons, List.sum_cons]
    omega
theorem pos_evenly {n w : Nat} (hw : 0 < w) : Pos (evenly n w) := by
  intro x hx
  unfold evenly at hx
  rcases List.mem_append.mp hx with h | h
  · rw [(List.mem_replicate.mp h).2]; exact hw
  · split at h
    · cases h
    · rw [List.mem_singleton.mp h]; omega
theorem pos_chop {xs : List Nat} {w : Nat} (hw : 0 < w) : Pos (chop xs w) := by
  intro x hx
  obtain ⟨y, _, h⟩ := List.mem_flatMap.mp hx
  exact pos_evenly hw x h
theorem pos_tailS {xs : List Nat} {w : Nat} (h : Pos xs) : Pos (tailS xs w) := by
  unfold tailS
  split
  · rename_i c
    refine Pos.app (fun x hx => h x (List.mem_of_mem_take hx)) fun x hx => ?_
    rw [List.mem_singleton.mp hx]
    have := h (xs.getD (xs.length - 2) 0) (by rw [getD_eq (by omega)]; exact List.getElem_mem _)
    omega
  · exact h
theorem pos_wholeS (n : Nat) : Pos (wholeS n) := by
  unfold wholeS
  split
  · intro x h; cases h
  · intro x h; rw [List.mem_singleton.mp h]; omega
theorem pos_rep {u : List Nat} {t : Nat} (h : Pos u) : Pos (List.replicate t u).flatten := by
  intro x hx
  obtain ⟨l, hl, hx⟩ := List.mem_flatten.mp hx
  rw [(List.mem_replicate.mp hl).2] at hx
  exact h x hx
/-- what holds of a row behind k cutters -/
structure Inv (k : Nat) (r : Rw) : Prop where
  pu : Pos r.unit
  pl : Pos r.last
  f : (r.unit = [] ∧ r.times = 0 ∧ r.last.length ≤ 1) ∨ (r.unit ≠ [] ∧ r.unit.sum ≤ 12 ∧ r.last.sum ≤ 24 * k + 12)
theorem inv_whole (n : Nat) : Inv 0 (wholeR n) := ⟨fun x h => (nomatch h), pos_wholeS n, .inl ⟨rfl, rfl, by show (wholeS n).length ≤ 1; unfold wholeS; split <;> simp⟩⟩
theorem inv_fill {k : Nat} {r : Rw} {w : Nat} (hw : 0 < w) (h12 : w ≤ 12) : Inv (k + 1) (fillR r w) := by
  refine ⟨fun x h => ?_, fun x h => ?_, .inr ⟨by simp [fillR], by show [w].sum ≤ 12; simpa using h12, ?_⟩⟩
  · rw [List.mem_singleton.mp h]; exact hw
  · unfold fillR at h
    simp only at h
    split at h
    · cases h
    · rw [List.mem_singleton.mp h]; omega
  · show (if r.tot % w = 0 then [] else [r.tot % w]).sum ≤ _
    have := Nat.mod_lt r.tot hw
    split
    · simp
    · simp; omega
theorem evenly_ne {n w : Nat} (hn : 0 < n) : evenly n w ≠ [] := fun e => by
  have := evenly_sum n w
  rw [e] at this
  simp at this
  omega
theorem inv_cut {k : Nat} {r : Rw} {w : Nat} (hw : 0 < w) (h12 : w ≤ 12) (h : Inv k r) : Inv (k + 1) (cutR r w) := by
  unfold cutR
  split
  · exact inv_fill hw h12
  · rename_i hm
    refine ⟨pos_chop hw, pos_chop hw, ?_⟩
    rcases h.f with ⟨a, b, c⟩ | ⟨a, b, c⟩
    · left
      refine ⟨by rw [a]; rfl, b, ?_⟩
      have : r.last.length = 0 := by
        unfold Rw.many at hm
        rw [b] at hm
        omega
      rw [List.eq_nil_of_length_eq_zero this]
      simp [chop]
    · right
      refine ⟨fun e => ?_, by rw [chop_sum]; exact b, by rw [chop_sum]; show r.last.sum ≤ _; omega⟩
      obtain ⟨x, u, hu⟩ := List.exists_cons_of_ne_nil a
      rw [hu] at e
      have e2 : evenly x w ++ chop u w = [] := e
      exact evenly_ne (h.pu x (by rw [hu]; exact List.mem_cons_self ..)) (List.append_eq_nil_iff.mp e2).1
theorem pull_len (u : List Nat) (hu : u ≠ []) : ∀ (t : Nat) (l : List Nat), (pull u t l).2.sum ≤ l.sum + (2 - l.length) * u.sum
  | 0, l => by show l.sum ≤ _; omega
  | t + 1, l => by
    unfold pull
    split
    · have ih := pull_len u hu t (u ++ l)
      have hl : 1 ≤ u.length := List.length_pos_iff.mpr hu
      rw [List.sum_append, List.length_append] at ih
      have : (2 - (u.length + l.length)) * u.sum ≤ (1 - l.length) * u.sum := Nat.mul_le_mul_right _ (by omega)
      have e : (2 - l.length) * u.sum = (1 - l.length) * u.sum + u.sum := by
        rw [show 2 - l.length = (1 - l.length) + 1 by omega, Nat.succ_mul]
      omega
    · show l.sum ≤ _; omega
theorem pos_pull {u : List Nat} (hu : Pos u) : ∀ (t : Nat) {l : List Nat}, Pos l → Pos (pull u t l).2
  | 0, l, h => h
  | t + 1, l, h => by
    unfold pull
    split
    · exact pos_pull hu t (hu.app h)
    · exact h
theorem inv_tail {k : Nat} {r : Rw} {w : Nat} (h : Inv k r) : Inv (k + 1) (tailR r w) := by
  refine ⟨h.pu, pos_tailS (pos_pull h.pu _ h.pl), ?_⟩
  rcases h.f with ⟨a, b, c⟩ | ⟨a, b, c⟩
  · left
    refine ⟨a, ?_, ?_⟩
    · show (pull r.unit r.times r.last).1 = 0
      rw [b]; rfl
    · show (tailS (pull r.unit r.times r.last).2 w).length ≤ 1
      rw [b]
      show (tailS r.last w).length ≤ 1
      unfold tailS
      rw [if_neg (fun z => by have := z.1; omega)]
      exact c
  · right
    refine ⟨a, b, ?_⟩
    show (tailS (pull r.unit r.times r.last).2 w).sum ≤ _
    rw [tailS_sum]
    have := pull_len r.unit a r.times r.last
    have : (2 - r.last.length) * r.unit.sum ≤ 2 * 12 := Nat.mul_le_mul (by omega) b
    omega
theorem inv_apply {k : Nat} {r : Rw} {c : Kd × Nat} (h1 : 0 < c.2) (h2 : c.2 ≤ 12) (h : Inv k r) : Inv (k + 1) (applyR c r) := by
  unfold applyR
  split
  · exact inv_cut h1 h2 h
  · exact inv_fill h1 h2
  · exact inv_tail h
/-! ### pieces and places -/
theorem take_rep (u : List Nat) : ∀ (t i : Nat), i < t * u.length → ((List.replicate t u).flatten.take i).sum = i / u.length * u.sum + (u.take (i % u.length)).sum ∧ (List.replicate t u).flatten[i]? = u[i % u.length]?
  | 0, i, h => by omega
  | t + 1, i, h => by
    rw [List.replicate_succ, List.flatten_cons]
    rw [Nat.succ_mul] at h
    by_cases c : i < u.length
    · rw [Nat.div_eq_of_lt c, Nat.mod_eq_of_lt c, List.take_append, List.getElem?_append_left c, show i - u.length = 0 by omega]
      simp
    · have hp : 0 < u.length := by
        rcases Nat.eq_zero_or_pos u.length with z | z
        · rw [z] at h; omega
        · exact z
      obtain ⟨a, b⟩ := take_rep u t (i - u.length) (by omega)
      rw [List.take_append, List.take_of_length_le (by omega), List.sum_append, List.getElem?_append_right (by omega), a, b, Nat.mod_eq_sub_mod (by omega : u.length ≤ i), Nat.div_eq_sub_div hp (by omega : u.length ≤ i)]
      refine ⟨?_, rfl⟩
      rw [Nat.succ_mul]
      omega
/-- the place of the piece with this item -/
def placeA : List Nat → Nat → Nat
  | [], _ => 0
  | x :: r, i => if i < x then 0 else 1 + placeA r (i - x)
theorem placeA_app : ∀ (a b : List Nat) (i : Nat), placeA (a ++ b) i = if i < a.sum then placeA a i else a.length + placeA b (i - a.sum)
  | [], b, i => by simp
  | x :: r, b, i => by
    rw [List.cons_append, List.sum_cons, List.length_cons]
    show (if i < x then 0 else 1 + placeA (r ++ b) (i - x)) = _
    have e : placeA (x :: r) i = if i < x then 0 else 1 + placeA r (i - x) := rfl
    rw [placeA_app r b, e]
    by_cases h1 : i < x
    · rw [if_pos h1, if_pos (by omega), if_pos h1]
    · rw [if_neg h1]
      by_cases h2 : i < x + r.sum
      · rw [if_pos h2, if_neg h1, if_pos (by omega)]
      · rw [if_neg h2, if_neg (by omega), show i - x - r.sum = i - (x + r.sum) by omega]
        omega
theorem placeA_rep (u : List Nat) : ∀ (t i : Nat), i < t * u.sum → placeA (List.replicate t u).flatten i = i / u.sum * u.length + placeA u (i % u.sum)
  | 0, i, h => by omega
  | t + 1, i, h => by
    rw [List.replicate_succ, List.flatten_cons, placeA_app]
    rw [Nat.succ_mul] at h
    by_cases c : i < u.sum
    · rw [if_pos c, Nat.div_eq_of_lt c, Nat.mod_eq_of_lt c]
      omega
    · rw [if_neg c]
      have hp : 0 < u.sum := by
        rcases Nat.eq_zero_or_pos u.sum with z | z
        · rw [z] at h; omega
        · exact z
      rw [placeA_rep u t (i - u.sum) (by omega), Nat.mod_eq_sub_mod (by omega : u.sum ≤ i), Nat.div_eq_sub_div hp (by omega : u.sum ≤ i), Nat.succ_mul]
      omega
theorem placeA_lt : ∀ (xs : List Nat) (i : Nat), i < xs.sum → placeA xs i < xs.length ∧ (xs.take (placeA xs i)).sum ≤ i ∧ i < (xs.take (placeA xs i)).sum + xs.getD (placeA xs i) 0
  | [], i, h => by simp at h
  | x :: r, i, h => by
    rw [List.sum_cons] at h
    have e : placeA (x :: r) i = if i < x then 0 else 1 + placeA r (i - x) := rfl
    rw [e]
    by_cases c : i < x
    · rw [if_pos c]
      simp
      exact c
    · rw [if_neg c]
      obtain ⟨a, b, d⟩ := placeA_lt r (i - x) (by omega)
      rw [Nat.add_comm 1, List.take_succ_cons, List.sum_cons, List.length_cons]
      refine ⟨by omega, by omega, ?_⟩
      show i < x + _ + (r.getD _ 0)
      omega
/-- the answers of a row -/
def pieceR (r : Rw) (p : Nat) : Nat × Nat := if p < r.times * r.unit.length then (p / r.unit.length * r.unit.sum + (r.unit.take (p % r.unit.length)).sum, r.unit.getD (p % r.unit.length) 0)
  else (r.times * r.unit.sum + (r.last.take (p - r.times * r.unit.length)).sum, r.last.getD (p - r.times * r.unit.length) 0)
def placeR (r : Rw) (i : Nat) : Nat := if i < r.times * r.unit.sum then i / r.unit.sum * r.unit.length + placeA r.unit (i % r.unit.sum) else r.times * r.unit.length + placeA r.last (i - r.times * r.unit.sum)
theorem piece_sizes (r : Rw) (p : Nat) : pieceR r p = ((r.sizes.take p).sum, r.sizes.getD p 0) := by
  unfold pieceR Rw.sizes
  split
  · rename_i h
    obtain ⟨a, b⟩ := take_rep r.unit r.times p h
    rw [List.take_append, show p - (List.replicate r.times r.unit).flatten.length = 0 by rw [rep_len]; omega]
    rw [List.getD_eq_getElem?_getD, List.getD_eq_getElem?_getD, List.getElem?_append_left (by rw [rep_len]; exact h), b]
    simp [a]
  · rename_i h
    rw [List.take_append, List.take_of_length_le (l := (List.replicate r.times r.unit).flatten) (by rw [rep_len]; omega), List.sum_append, rep_sum, rep_len, getD_app _ _ _ (by rw [rep_len]; omega), rep_len]
theorem place_sizes (r : Rw) (i : Nat) : placeR r i = placeA r.sizes i := by
  unfold placeR Rw.sizes
  rw [placeA_app, rep_sum, rep_len]
  split
  · rename_i h
    rw [placeA_rep _ _ _ h]
  · rfl
end CH
namespace CH
/-! ### where an item is -/
theorem sum_take_succ {xs : List Nat} {a : Nat} (h : a < xs.length) : (xs.take (a + 1)).sum = (xs.take a).sum + xs.getD a 0 := by
  rw [List.take_succ, List.sum_append, getD_eq h, List.getElem?_eq_getElem h]
  simp
theorem sum_take_mono {xs : List Nat} {a b : Nat} (h : a ≤ b) : (xs.take a).sum ≤ (xs.take b).sum := by
  have e : xs.take a = (xs.take b).take a := by rw [List.take_take, Nat.min_eq_left h]
  rw [e]
  have := congrArg List.sum (List.take_append_drop a (xs.take b))
  rw [List.sum_append] at this
  omega
theorem getD_pos {xs : List Nat} (h : Pos xs) {a : Nat} (ha : a < xs.length) : 0 < xs.getD a 0 := by
  rw [getD_eq ha]
  exact h _ (List.getElem_mem _)
theorem placeA_at : ∀ {xs : List Nat} {a i : Nat}, a < xs.length → (xs.take a).sum ≤ i → i < (xs.take a).sum + xs.getD a 0 → placeA xs i = a
  | [], _, _, h, _, _ => by simp at h
  | x :: r, 0, i, _, _, h3 => by
    have h3 : i < 0 + x := h3
    show (if i < x then 0 else 1 + placeA r (i - x)) = 0
    rw [if_pos (by omega)]
  | x :: r, a + 1, i, h1, h2, h3 => by
    rw [List.take_succ_cons, List.sum_cons] at h2 h3
    have h3 : i < x + (r.take a).sum + r.getD a 0 := h3
    have h1 : a < r.length := by simpa using h1
    show (if i < x then 0 else 1 + placeA r (i - x)) = a + 1
    rw [if_neg (by omega), placeA_at h1 (by omega) (by omega)]
    omega
/-- a piece begins with item 0 just if it is the first, and it has the last item just if it is the last -/
theorem begins {xs : List Nat} (h : Pos xs) {a : Nat} (ha : a < xs.length) : (xs.take a).sum = 0 ↔ a = 0 := by
  constructor
  · intro e
    cases a with
    | zero => rfl
    | succ a =>
      have := sum_take_succ (xs := xs) (a := a) (by omega)
      have := getD_pos h (a := a) (by omega)
      omega
  · intro e
    rw [e]
    rfl
theorem ends {xs : List Nat} (h : Pos xs) {a : Nat} (ha : a < xs.length) : (xs.take a).sum + xs.getD a 0 ≤ xs.sum ∧ ((xs.take a).sum + xs.getD a 0 = xs.sum ↔ a = xs.length - 1) := by
  have e := sum_take_succ ha
  rw [← e]
  have l : (xs.take (a + 1)).sum ≤ (xs.take xs.length).sum := sum_take_mono (by omega)
  rw [List.take_length] at l
  refine ⟨l, fun z => ?_, fun z => ?_⟩
  · rcases Nat.lt_or_ge (a + 1) xs.length with c | c
    · have e2 := sum_take_succ c
      have p := getD_pos h c
      have l2 : (xs.take (a + 1 + 1)).sum ≤ (xs.take xs.length).sum := sum_take_mono (by omega)
      rw [List.take_length] at l2
      omega
    · omega
  · rw [List.take_of_length_le (by omega)]
end CH

/-! texts of chains -/
namespace CH
open PySem L2 TL
def kdS : Kd → Str
  | .cut => "cut"
  | .fill => "fill"
  | .tail => "tail"
def nS (n : Nat) : Str := Str.ofString (toString ((n : Nat) : Int))
def kds : List Str := ["cut", "fill", "tail"]
def widths : List Str := (List.range 12).map fun i => nS (i + 1)
def kdOf (w : Str) : Option Kd := if w = "cut" then some .cut else if w = "fill" then some .fill else if w = "tail" then some .tail else none
def numOf (d : Str) : Option Nat := (List.range 12).findSome? fun i => if d = nS (i + 1) then some (i + 1) else none
def cutterOf (t : Str) : Option (Kd × Nat) := match kdOf (Txt.partition t " ").1, numOf (Txt.partition t " ").2.2 with
  | some k, some n => some (k, n)
  | _, _ => none
def parts (t : Str) : List Str := Txt.split t ", "
def goodC (t : Str) : Bool := (parts t).all (fun p => (cutterOf p).isSome) && decide ((parts t).length ≤ 6)
def cuttersOf (t : Str) : List (Kd × Nat) := (parts t).filterMap cutterOf
def cutT (c : Kd × Nat) : Str := kdS c.1 ++ (" " : Str) ++ nS c.2
def cline (cs : List (Kd × Nat)) : Str := Txt.join ", " (cs.map cutT)
theorem kdOf_some {w : Str} {k : Kd} (h : kdOf w = some k) : w = kdS k := by
  unfold kdOf at h
  by_cases c1 : w = "cut"
  · rw [if_pos c1] at h; cases h; exact c1
  rw [if_neg c1] at h
  by_cases c2 : w = "fill"
  · rw [if_pos c2] at h; cases h; exact c2
  rw [if_neg c2] at h
  by_cases c3 : w = "tail"
  · rw [if_pos c3] at h; cases h; exact c3
  rw [if_neg c3] at h
  cases h
theorem kdOf_none {w : Str} (h : kdOf w = none) : w ∉ kds := by
  unfold kdOf at h
  by_cases c1 : w = "cut"
  · rw [if_pos c1] at h; cases h
  rw [if_neg c1] at h
  by_cases c2 : w = "fill"
  · rw [if_pos c2] at h; cases h
  rw [if_neg c2] at h
  by_cases c3 : w = "tail"
  · rw [if_pos c3] at h; cases h
  intro z
  simp [kds, c1, c2, c3] at z
theorem kdOf_kdS (k : Kd) : kdOf (kdS k) = some k := by cases k <;> decide +kernel
theorem numOf_some {d : Str} {n : Nat} (h : numOf d = some n) : d = nS n ∧ 1 ≤ n ∧ n ≤ 12 := by
  obtain ⟨i, hi, e⟩ := List.exists_of_findSome?_eq_some h
  have := List.mem_range.mp hi
  split at e
  · rename_i c
    cases e
    exact ⟨c, by omega, by omega⟩
  · cases e
theorem numOf_mem (d : Str) : decide (d ∈ widths) = (numOf d).isSome := by
  cases h : numOf d with
  | none =>
    refine decide_eq_false fun z => ?_
    obtain ⟨i, hi, e⟩ := List.mem_map.mp z
    have := List.findSome?_eq_none_iff.mp h i hi
    rw [if_pos e.symm] at this
    cases this
  | some n =>
    obtain ⟨e, h1, h2⟩ := numOf_some h
    refine decide_eq_true (List.mem_map.mpr ⟨n - 1, List.mem_range.mpr (by omega), ?_⟩)
    rw [e, show n - 1 + 1 = n by omega]
/-- all cutters -/
def allC : List (Kd × Nat) := [Kd.cut, Kd.fill, Kd.tail].flatMap fun k => (List.range 12).map fun i => (k, i + 1)
def Ct (c : Kd × Nat) : Prop := 1 ≤ c.2 ∧ c.2 ≤ 12
theorem Ct.mem {c : Kd × Nat} (h : Ct c) : c ∈ allC := by
  obtain ⟨k, n⟩ := c
  refine List.mem_flatMap.mpr ⟨k, by cases k <;> simp, List.mem_map.mpr ⟨n - 1, List.mem_range.mpr ?_, ?_⟩⟩
  · have := h.2
    have := h.1
    show n - 1 < 12
    omega
  · have := h.1
    show (k, n - 1 + 1) = (k, n)
    rw [show n - 1 + 1 = n by have : 1 ≤ n := h.1; omega]
def okC (c : Kd × Nat) : Bool := decide (cutterOf (cutT c) = some c) && (decide (44 ∉ tl (cutT c)) && (decide ((cutT c).length ≤ 7) && (PyData.strOk (cutT c) && (decide ((kdS c.1 ++ (" " : Str)).length ≤ 5) && decide (Txt.split (cutT c) " " = [kdS c.1, nS c.2])))))
theorem allC_ok : ∀ c ∈ allC, okC c = true := by decide +kernel
structure CtF (c : Kd × Nat) : Prop where
  p : cutterOf (cutT c) = some c
  m : 44 ∉ tl (cutT c)
  l : (cutT c).length ≤ 7
  a : PyData.strOk (cutT c) = true
  s : Txt.split (cutT c) " " = [kdS c.1, nS c.2]
theorem Ct.f {c : Kd × Nat} (h : Ct c) : CtF c := by
  have q := allC_ok c h.mem
  unfold okC at q
  simp only [Bool.and_eq_true, decide_eq_true_eq] at q
  exact ⟨q.1, q.2.1, q.2.2.1, q.2.2.2.1, q.2.2.2.2.2⟩
theorem nS_len {n : Nat} (h : n ≤ 12) : (nS n).length ≤ 2 := by
  have : ∀ i ∈ List.range 13, (nS i).length ≤ 2 := by decide +kernel
  exact this n (List.mem_range.mpr (by omega))
theorem cutter_ct {t : Str} {c : Kd × Nat} (h : cutterOf t = some c) : Ct c := by
  unfold cutterOf at h
  split at h
  · rename_i k n h1 h2
    cases h
    exact (numOf_some h2).2
  · cases h
theorem cutters_ct {t : Str} : ∀ c ∈ cuttersOf t, Ct c := fun c h => by
  obtain ⟨p, _, e⟩ := List.mem_filterMap.mp h
  exact cutter_ct e
theorem cutters_len {t : Str} (h : goodC t = true) : (cuttersOf t).length ≤ 6 ∧ (cuttersOf t).length = (parts t).length := by
  unfold goodC at h
  rw [Bool.and_eq_true, List.all_eq_true] at h
  have e : ∀ (l : List Str), (∀ p ∈ l, (cutterOf p).isSome = true) → (l.filterMap cutterOf).length = l.length := by
    intro l
    induction l with
    | nil => intro _; rfl
    | cons p r ih =>
      intro hp
      obtain ⟨c, hc⟩ := Option.isSome_iff_exists.mp (hp p (List.mem_cons_self ..))
      rw [List.filterMap_cons, hc, List.length_cons, List.length_cons, ih fun q hq => hp q (List.mem_cons_of_mem _ hq)]
  have := e (parts t) h.1
  have h2 := of_decide_eq_true h.2
  unfold cuttersOf
  omega
theorem tlCm : tl (", " : Str) = [44, 32] := by decide +kernel
theorem parts_line {cs : List (Kd × Nat)} (ne : cs ≠ []) (h : ∀ c ∈ cs, Ct c) : parts (cline cs) = cs.map cutT :=
  split_join (s := 44) (S := [32]) tlCm (by decide +kernel) (fun e => ne (List.map_eq_nil_iff.mp e)) fun p hp => by
    obtain ⟨c, hc, rfl⟩ := List.mem_map.mp hp
    exact (h c hc).f.m
theorem line_good {cs : List (Kd × Nat)} (ne : cs ≠ []) (h : ∀ c ∈ cs, Ct c) (hl : cs.length ≤ 6) : goodC (cline cs) = true := by
  unfold goodC
  rw [parts_line ne h, Bool.and_eq_true, List.all_eq_true, List.length_map]
  refine ⟨fun p hp => ?_, decide_eq_true hl⟩
  obtain ⟨c, hc, rfl⟩ := List.mem_map.mp hp
  rw [(h c hc).f.p]
  rfl
theorem line_cutters {cs : List (Kd × Nat)} (ne : cs ≠ []) (h : ∀ c ∈ cs, Ct c) : cuttersOf (cline cs) = cs := by
  unfold cuttersOf
  rw [parts_line ne h]
  clear ne
  induction cs with
  | nil => rfl
  | cons c r ih =>
    rw [List.map_cons, List.filterMap_cons, (h c (List.mem_cons_self ..)).f.p, ih fun q hq => h q (List.mem_cons_of_mem _ hq)]
theorem joinC_len : ∀ B : List Str, (Txt.join ", " B).length ≤ (B.map (·.length)).sum + B.length * 2 := by
  intro B
  rw [len_tl, join_eq, tl_join, tlCm]
  induction B with
  | nil => simp [joinL]
  | cons w r ih =>
    cases r with
    | nil =>
      show (tl w).length ≤ _
      rw [← len_tl]
      simp
    | cons x r =>
      show (tl w ++ ([44, 32] ++ joinL [44, 32] ((x :: r).map tl))).length ≤ _
      rw [List.length_append, List.length_append, ← len_tl]
      simp only [List.map_cons, List.sum_cons, List.length_cons, List.length_nil] at ih ⊢
      omega
theorem line_sum {cs : List (Kd × Nat)} (h : ∀ c ∈ cs, Ct c) : ((cs.map cutT).map (·.length)).sum ≤ 7 * cs.length := by
  have := LM.sum_le (n := 7) (B := cs.map cutT) fun w hw => by
    obtain ⟨c, hc, rfl⟩ := List.mem_map.mp hw
    exact (h c hc).f.l
  rwa [List.length_map] at this
theorem line_len {cs : List (Kd × Nat)} (h : ∀ c ∈ cs, Ct c) : (cline cs).length ≤ 9 * cs.length := by
  have a := joinC_len (cs.map cutT)
  have b := line_sum h
  rw [List.length_map] at a
  unfold cline
  omega
theorem splitC (x : Str) : (parts x).map tl = spl [44, 32] 0 [] (tl x) := by
  have := split_spl x ", " (by rw [tlCm]; simp) (kind_ok (by decide +kernel))
  rwa [tlCm] at this
theorem parts_len (x : Str) : (parts x).length ≤ x.length + 1 := by
  have := LM.spl_len [44, 32] 0 [] (tl x)
  rw [← splitC, List.length_map, ← len_tl] at this
  exact this
theorem parts_word {x w : Str} (h : w ∈ parts x) : w.length ≤ x.length := by
  have := LM.spl_word [44, 32] 0 [] (tl x) (tl w) (by rw [← splitC]; exact List.mem_map.mpr ⟨w, h, rfl⟩)
  rw [← len_tl, ← len_tl] at this
  simpa using this
/-- plain signs -/
theorem asc_joinC {B : List Str} (h : ∀ w ∈ B, LM.Asc w) : LM.Asc (Txt.join ", " B) := by
  rw [LM.asc_iff, join_eq, tl_join, tlCm]
  intro c hc
  rcases LM.joinL_mem hc with h1 | ⟨p, hp, h1⟩
  · have : c = 44 ∨ c = 32 := by simpa using h1
    omega
  · obtain ⟨w, hw, rfl⟩ := List.mem_map.mp hp
    exact LM.asc_iff.mp (h w hw) c h1
theorem line_asc {cs : List (Kd × Nat)} (h : ∀ c ∈ cs, Ct c) : LM.Asc (cline cs) := asc_joinC fun w hw => by
  obtain ⟨c, hc, rfl⟩ := List.mem_map.mp hw
  exact (h c hc).f.a
theorem line_inj {a b : List (Kd × Nat)} (na : a ≠ []) (nb : b ≠ []) (ha : ∀ c ∈ a, Ct c) (hb : ∀ c ∈ b, Ct c) (e : cline a = cline b) : a = b := by
  rw [← line_cutters na ha, e, line_cutters nb hb]
end CH

/-! texts of chains, read by splitting at spaces; changed texts -/
namespace CH
open PySem L2 TL
def pieceOk (p : Str) : Bool := match Txt.split p " " with
  | [a, b] => decide (a ∈ kds) && decide (b ∈ widths)
  | _ => false
theorem nS_ne {n : Nat} (h1 : 1 ≤ n) (h2 : n ≤ 12) : nS n ≠ Str.empty := by
  have : ∀ i ∈ List.range 13, 1 ≤ i → nS i ≠ Str.empty := by decide +kernel
  exact this n (List.mem_range.mpr (by omega)) h1
theorem kdS_mem (k : Kd) : kdS k ∈ kds := by cases k <;> decide +kernel
theorem mem_kds {w : Str} (h : w ∈ kds) : ∃ k, w = kdS k := by
  cases e : kdOf w with
  | none => exact absurd h (kdOf_none e)
  | some k => exact ⟨k, kdOf_some e⟩
theorem mem_wid {d : Str} (h : d ∈ widths) : ∃ n, d = nS n ∧ 1 ≤ n ∧ n ≤ 12 := by
  have q := numOf_mem d
  rw [decide_eq_true h] at q
  obtain ⟨n, e⟩ := Option.isSome_iff_exists.mp q.symm
  exact ⟨n, numOf_some e⟩
theorem wid_mem {n : Nat} (h1 : 1 ≤ n) (h2 : n ≤ 12) : nS n ∈ widths := List.mem_map.mpr ⟨n - 1, List.mem_range.mpr (by omega), by rw [show n - 1 + 1 = n by omega]⟩
theorem cutter_text {p : Str} {c : Kd × Nat} (h : cutterOf p = some c) : p = cutT c := by
  unfold cutterOf at h
  cases h1 : kdOf (Txt.partition p " ").1 with
  | none => rw [h1] at h; cases h
  | some k =>
    cases h2 : numOf (Txt.partition p " ").2.2 with
    | none => rw [h1, h2] at h; cases h
    | some n =>
      rw [h1, h2] at h
      cases h
      obtain ⟨e, n1, n2⟩ := numOf_some h2
      have e0 := kdOf_some h1
      have hne : ((Txt.partition p " ").2.1.length != 0) = true := by
        rcases PyProof.Rows.partition_whole p " " with ⟨z, _⟩ | ⟨i, z, _⟩
        · rw [z] at e
          exact absurd e.symm (nS_ne n1 n2)
        · rw [z]
          show ((" " : Str).length != 0) = true
          decide +kernel
      have := LM.part_back hne
      rw [e0, e] at this
      exact this
theorem piece_iff (p : Str) : pieceOk p = (cutterOf p).isSome := by
  cases h : cutterOf p with
  | some c =>
    have ct := cutter_ct h
    unfold pieceOk
    rw [cutter_text h, ct.f.s]
    show (decide (kdS c.1 ∈ kds) && decide (nS c.2 ∈ widths)) = true
    rw [decide_eq_true (kdS_mem _), decide_eq_true (wid_mem ct.1 ct.2)]
    rfl
  | none =>
    cases hp : pieceOk p with
    | false => rfl
    | true =>
      unfold pieceOk at hp
      split at hp
      · rename_i a b e
        rw [Bool.and_eq_true] at hp
        obtain ⟨k, rfl⟩ := mem_kds (of_decide_eq_true hp.1)
        obtain ⟨n, rfl, n1, n2⟩ := mem_wid (of_decide_eq_true hp.2)
        have j := PySem.StrLaws.join_split p " "
        rw [e] at j
        have j : kdS k ++ (" " : Str) ++ nS n = p := j
        have ct : Ct (k, n) := ⟨n1, n2⟩
        have := ct.f.p
        rw [show cutT (k, n) = p from j, h] at this
        cases this
      · cases hp
theorem good_line (t : Str) : goodC t = (decide ((parts t).length ≤ 6) && (parts t).all pieceOk) := by
  unfold goodC
  rw [Bool.and_comm]
  congr 1
  congr 1
  funext p
  exact (piece_iff p).symm
/-! ### signs of changed texts -/
theorem asc_cut {z : Str} (h : LM.Asc z) (lo hi : Option Int) : LM.Asc (cutS z lo hi) := by
  rw [LM.asc_iff] at h ⊢
  intro c hc
  refine h c ?_
  have : tl (cutS z lo hi) = ((tl z).drop (HT.sIx z.length 0 lo)).take (HT.sIx z.length z.length hi - HT.sIx z.length 0 lo) := rfl
  rw [this] at hc
  exact List.mem_of_mem_drop (List.mem_of_mem_take hc)
theorem spl_in (S : List Nat) : ∀ (k : Nat) (acc l : List Nat), ∀ p ∈ spl S k acc l, ∀ c ∈ p, c ∈ acc ∨ c ∈ l
  | k, acc, [], p, hp, c, hc => by
    rw [spl_nil] at hp
    rw [List.mem_singleton.mp hp] at hc
    exact .inl hc
  | 0, acc, x :: r, p, hp, c, hc => by
    cases h : pre S (x :: r) with
    | true =>
      rw [spl_hit h] at hp
      rcases List.mem_cons.mp hp with rfl | hp
      · exact .inl hc
      · rcases spl_in S (S.length - 1) [] r p hp c hc with h | h
        · exact nomatch h
        · exact .inr (List.mem_cons_of_mem _ h)
    | false =>
      rw [spl_miss h] at hp
      rcases spl_in S 0 (acc ++ [x]) r p hp c hc with h | h
      · rcases List.mem_append.mp h with h | h
        · exact .inl h
        · rw [List.mem_singleton.mp h]
          exact .inr List.mem_cons_self
      · exact .inr (List.mem_cons_of_mem _ h)
  | k + 1, acc, x :: r, p, hp, c, hc => by
    have hp : p ∈ spl S k acc r := hp
    rcases spl_in S k acc r p hp c hc with h | h
    · exact .inl h
    · exact .inr (List.mem_cons_of_mem _ h)
theorem asc_parts {z : Str} (h : LM.Asc z) : ∀ p ∈ parts z, LM.Asc p := fun p hp => by
  rw [LM.asc_iff] at h ⊢
  intro c hc
  rcases spl_in [44, 32] 0 [] (tl z) (tl p) (by rw [← splitC]; exact List.mem_map.mpr ⟨p, hp, rfl⟩) c hc with q | q
  · exact nomatch q
  · exact h c q
theorem parts_ne (z : Str) : parts z ≠ [] := fun e => by
  have := splitC z
  rw [e] at this
  have l := congrArg List.length this
  have : ∀ (k : Nat) (acc l : List Nat), spl [44, 32] k acc l ≠ [] := by
    intro k acc l
    induction l generalizing k acc with
    | nil => rw [spl_nil]; simp
    | cons x r ih =>
      cases k with
      | zero =>
        cases h : pre [44, 32] (x :: r) with
        | true => rw [spl_hit h]; simp
        | false => rw [spl_miss h]; exact ih _ _
      | succ k => exact ih _ _
  exact this 0 [] (tl z) (List.length_eq_zero_iff.mp l.symm)
/-- a changed text: plain signs, not long -/
structure Chg (t : Str) : Prop where
  a : LM.Asc t
  l : t.length ≤ 50000
/-- rows of such pieces -/
structure ChgL (n k : Nat) (ws : List Str) : Prop where
  a : ∀ w ∈ ws, LM.Asc w ∧ w.length ≤ k
  l : ws.length ≤ n
theorem ChgL.sum {n k : Nat} {ws : List Str} (h : ChgL n k ws) : (ws.map (·.length)).sum ≤ k * n := by
  have := LM.sum_le (n := k) (B := ws) fun w hw => (h.a w hw).2
  exact Nat.le_trans this (Nat.mul_le_mul_left _ h.l)
theorem ChgL.join {n k : Nat} {ws : List Str} (h : ChgL n k ws) (hz : k * n + n * 2 ≤ 50000) : Chg (Txt.join ", " ws) := by
  refine ⟨asc_joinC fun w hw => (h.a w hw).1, ?_⟩
  have a := joinC_len ws
  have b := h.sum
  have c := h.l
  omega
theorem ChgL.take {n k m : Nat} {ws : List Str} (h : ChgL n k ws) : ChgL n k (ws.take m) := ⟨fun w hw => h.a w (List.mem_of_mem_take hw), by rw [List.length_take]; have := h.l; omega⟩
theorem ChgL.drop {n k m : Nat} {ws : List Str} (h : ChgL n k ws) : ChgL n k (ws.drop m) := ⟨fun w hw => h.a w (List.mem_of_mem_drop hw), by rw [List.length_drop]; have := h.l; omega⟩
theorem ChgL.app {n m k : Nat} {ws us : List Str} (h : ChgL n k ws) (h2 : ChgL m k us) : ChgL (n + m) k (ws ++ us) := ⟨fun w hw => (List.mem_append.mp hw).elim (h.a w) (h2.a w), by rw [List.length_append]; have := h.l; have := h2.l; omega⟩
theorem parts_chg {z : Str} (h : LM.Asc z) (hl : z.length ≤ 100) : ChgL 101 100 (parts z) := ⟨fun w hw => ⟨asc_parts h w hw, Nat.le_trans (parts_word hw) hl⟩, by have := parts_len z; omega⟩
end CH
namespace CH
open PySem L2
/-- a text times an int -/
theorem op_mulS {X : Cx} : OpR X (binaryOp .Mult) (fun x y H Q => ∃ a n, x = .str a ∧ y = .int n ∧ MulOk a n ∧ Q (.str (Txt.mul a n)) H) := by
  intro pins s σ H x y v u Q I rx ry h
  obtain ⟨a, n, rfl, rfl, hok, q⟩ := h
  obtain ⟨t, rfl⟩ := rx
  obtain ⟨t', rfl⟩ := ry
  exact SB.mul hok fun t' tk => ⟨.str (Txt.mul a n), H, I.tok _, ⟨_, rfl⟩, q⟩
end CH

/-! texts of loops, read by splitting alone -/
namespace LM
open PySem L2 TL
theorem spl_par {s : Nat} {S : List Nat} : ∀ (L acc : List Nat), spl (s :: S) 0 acc L = match par (s :: S) acc L with | some (p, q) => p :: spl (s :: S) 0 [] q | none => [acc ++ L]
  | [], acc => by rw [spl_nil]; simp [par]
  | c :: r, acc => by
    cases h : pre (s :: S) (c :: r) with
    | true =>
      rw [spl_hit h, spl_pass]
      show _ = match (if pre (s :: S) (c :: r) = true then some (acc, (c :: r).drop (s :: S).length) else par (s :: S) (acc ++ [c]) r) with | some (p, q) => p :: spl (s :: S) 0 [] q | none => [acc ++ c :: r]
      rw [if_pos h]
      rfl
    | false =>
      rw [spl_miss h, spl_par r (acc ++ [c])]
      show _ = match (if pre (s :: S) (c :: r) = true then some (acc, (c :: r).drop (s :: S).length) else par (s :: S) (acc ++ [c]) r) with | some (p, q) => p :: spl (s :: S) 0 [] q | none => [acc ++ c :: r]
      rw [if_neg (by rw [h]; exact Bool.false_ne_true)]
      cases par (s :: S) (acc ++ [c]) r with
      | none => simp
      | some z => rfl
theorem map_tl_inj : ∀ {a b : List Str}, a.map tl = b.map tl → a = b
  | [], [], _ => rfl
  | [], _ :: _, h => by simp at h
  | _ :: _, [], h => by simp at h
  | x :: r, y :: q, h => by
    rw [List.map_cons, List.map_cons] at h
    injection h with h1 h2
    rw [ext_tl h1, map_tl_inj h2]
theorem split_part (x : Str) {y : Str} {s : Nat} {S : List Nat} (ey : tl y = s :: S) (hk : y.cps.all (· < 256) = true) :
    (Txt.partition x y = (x, Str.empty, Str.empty) ∧ Txt.split x y = [x]) ∨ ∃ a b, Txt.partition x y = (a, y, b) ∧ Txt.split x y = a :: Txt.split b y := by
  have hy : tl y ≠ [] := by rw [ey]; simp
  have h1 := partition_par x y hy
  have h2 := split_spl x y hy (kind_ok hk)
  have h3 := spl_par (s := s) (S := S) (tl x) []
  rw [ey] at h1 h2
  rw [h3] at h2
  cases h : par (s :: S) [] (tl x) with
  | none =>
    rw [h] at h1 h2
    exact .inl ⟨h1, map_tl_inj (by rw [h2]; rfl)⟩
  | some z =>
    obtain ⟨p, q⟩ := z
    rw [h] at h1 h2
    refine .inr ⟨_, _, h1, map_tl_inj ?_⟩
    rw [h2, List.map_cons, split_spl _ y hy (kind_ok hk), ey]
theorem tlCol : tl (":" : Str) = 58 :: [] := by decide +kernel
theorem part_col (w : Str) : (Txt.partition w ":" = (w, Str.empty, Str.empty) ∧ Txt.split w ":" = [w]) ∨ ∃ a b, Txt.partition w ":" = (a, (":" : Str), b) ∧ Txt.split w ":" = a :: Txt.split b ":" := split_part w tlCol (by decide +kernel)
theorem part_bar (w : Str) : (Txt.partition w " | " = (w, Str.empty, Str.empty) ∧ Txt.split w " | " = [w]) ∨ ∃ a b, Txt.partition w " | " = (a, (" | " : Str), b) ∧ Txt.split w " | " = a :: Txt.split b " | " := split_part w tlBar (by decide +kernel)
/-! ### words -/
def isWordL (w : Str) (ss : List Str) : Bool := match Txt.split w ":" with
  | [a] => decide (a ∈ ss)
  | [a, b] => decide (a ∈ tests) && decide (b ∈ ss)
  | _ => false
def NoCol (ss : List Str) : Prop := ∀ s ∈ ss, 58 ∉ tl s
theorem nocol_r : NoCol rsteps := by unfold NoCol; decide +kernel
theorem nocol_e : NoCol esteps := by unfold NoCol; decide +kernel
theorem back_of {x y a b : Str} (hy : (y.length != 0) = true) (h : Txt.partition x y = (a, y, b)) : x = a ++ y ++ b := by
  have := part_back (x := x) (y := y) (by rw [h]; exact hy)
  rw [h] at this
  exact this
theorem col_len : ((":" : Str).length != 0) = true := by decide +kernel
theorem emp_len : ((Str.empty).length != 0) = false := rfl
theorem wordL_eq {w : Str} {ss : List Str} (hn : NoCol ss) : isWordL w ss = isWord w ss := by
  unfold isWordL isWord
  rcases part_col w with ⟨hp, hs⟩ | ⟨a, b, hp, hs⟩
  · rw [hs, hp, emp_len]
    rfl
  · rcases part_col b with ⟨hp2, hs2⟩ | ⟨a2, b2, hp2, hs2⟩
    · rw [hs, hs2, hp, col_len]
      rfl
    · rw [hs, hs2, hp, col_len]
      have hb := back_of col_len hp2
      have nb : b ∉ ss := fun z => hn b z (by rw [hb, tl_append, tl_append, tlCol]; simp)
      cases hs3 : Txt.split b2 ":" with
      | nil => exact absurd hs3 (split_ne _ _)
      | cons c r =>
        show false = (decide (a ∈ tests) && decide (b ∈ ss))
        rw [decide_eq_false nb, Bool.and_false]
def isAddL (w : Str) : Bool := decide ((Txt.split w ":").getLast? = some "add")
theorem addL_eq {w : Str} {ss : List Str} (h : isWordL w ss = true) : isAddL w = isAdd w := by
  unfold isWordL at h
  unfold isAddL isAdd orderOf
  rcases part_col w with ⟨hp, hs⟩ | ⟨a, b, hp, hs⟩
  · rw [hs, hp, emp_len]
    show decide (some w = some "add") = decide (w = "add")
    simp
  · rcases part_col b with ⟨hp2, hs2⟩ | ⟨a2, b2, hp2, hs2⟩
    · rw [hs, hs2, hp, col_len]
      show decide (some b = some "add") = decide (b = "add")
      simp
    · rw [hs, hs2] at h
      cases hs3 : Txt.split b2 ":" with
      | nil => exact absurd hs3 (split_ne _ _)
      | cons c r =>
        rw [hs3] at h
        cases h
theorem ask_add : isAddL "ask" = isAdd "ask" := by decide +kernel
/-! ### whole texts -/
def okL (B E : List Str) : Bool := decide (B.head? = some "ask") && (decide (B.length ≤ 12) && (decide (E.length ≤ 6) && (decide ((B.filter isAddL).length ≤ 1) && ((B.tail.all fun w => isWordL w rsteps) && E.all fun w => isWordL w esteps))))
def textL (t : Str) : Bool := match Txt.split t " | " with
  | [a] => okL (Txt.split a " ") []
  | [a, b] => okL (Txt.split a " ") (Txt.split b " ")
  | _ => false
theorem all_eq {ws ss : List Str} (hn : NoCol ss) : (ws.all fun w => isWordL w ss) = areWords ws ss := by
  unfold areWords
  congr 1
  funext w
  exact wordL_eq hn
theorem okL_eq (B E : List Str) : okL B E = (isRound B && isEnding E) := by
  unfold okL isRound isEnding
  rw [all_eq nocol_r, all_eq nocol_e]
  by_cases h1 : B.head? = some "ask"
  · cases h2 : areWords B.tail rsteps with
    | false => simp
    | true =>
      have e : B.filter isAddL = B.filter isAdd := List.filter_congr fun w hw => by
        cases B with
        | nil => exact nomatch hw
        | cons x r =>
          cases (Option.some.inj h1)
          rcases List.mem_cons.mp hw with rfl | hw
          · exact ask_add
          · exact addL_eq (ss := rsteps) (by rw [wordL_eq nocol_r]; exact List.all_eq_true.mp h2 w hw)
      rw [e, decide_eq_true h1]
      cases decide (B.length ≤ 12) <;> cases decide (E.length ≤ 6) <;> cases decide ((B.filter isAdd).length ≤ 1) <;> cases areWords E esteps <;> rfl
  · rw [decide_eq_false h1]
    rfl
theorem spl_app1 {c : Nat} : ∀ (u acc v : List Nat), spl [c] 0 acc (u ++ c :: v) = spl [c] 0 acc u ++ spl [c] 0 [] v
  | [], acc, v => by
    have : pre [c] (c :: v) = true := by simp [pre]
    rw [List.nil_append, spl_hit this, spl_nil]
    rfl
  | x :: r, acc, v => by
    rw [List.cons_append]
    cases h : pre [c] (x :: r) with
    | true =>
      have h' : pre [c] (x :: (r ++ c :: v)) = true := by simpa [pre] using h
      rw [spl_hit h, spl_hit h']
      show acc :: spl [c] 0 [] (r ++ c :: v) = acc :: spl [c] 0 [] r ++ _
      rw [spl_app1 r [] v]
      rfl
    | false =>
      have h' : pre [c] (x :: (r ++ c :: v)) = false := by simpa [pre] using h
      rw [spl_miss h, spl_miss h', spl_app1 r (acc ++ [x]) v]
theorem bar_in {a b : Str} : ("|" : Str) ∈ Txt.split (a ++ " | " ++ b) " " := by
  have h := split_spl (a ++ " | " ++ b) " " (by rw [tlSp]; simp) (kind_ok (by decide +kernel))
  rw [tl_append, tl_append, tlSp, tlBar] at h
  have e : tl a ++ 32 :: [124, 32] ++ tl b = tl a ++ 32 :: ([124] ++ 32 :: tl b) := by simp
  rw [e, spl_app1, spl_app1] at h
  have m : ([124] : List Nat) ∈ (Txt.split (a ++ " | " ++ b) " ").map tl := by
    rw [h]
    have : spl [32] 0 [] [124] = [[124]] := by decide +kernel
    rw [this]
    simp
  obtain ⟨w, hw, ew⟩ := List.mem_map.mp m
  have : w = ("|" : Str) := ext_tl (by rw [ew]; decide +kernel)
  exact this ▸ hw
theorem textL_eq (t : Str) : textL t = goodText t := by
  unfold textL goodText wordsR wordsE
  have bl : ((" | " : Str).length != 0) = true := by decide +kernel
  rcases part_bar t with ⟨hp, hs⟩ | ⟨a, b, hp, hs⟩
  · rw [hs, hp, emp_len]
    exact okL_eq _ _
  · rcases part_bar b with ⟨hp2, hs2⟩ | ⟨a2, b2, hp2, hs2⟩
    · rw [hs, hs2, hp, bl]
      exact okL_eq _ _
    · rw [hs, hs2, hp, bl]
      cases hs3 : Txt.split b2 " | " with
      | nil => exact absurd hs3 (split_ne _ _)
      | cons c r =>
        show false = (isRound _ && isEnding (Txt.split b " "))
        have hb := back_of bl hp2
        have : isEnding (Txt.split b " ") = false := by
          unfold isEnding areWords
          rw [Bool.and_eq_false_iff]
          refine .inr (List.all_eq_false.mpr ⟨"|", by rw [hb]; exact bar_in, by decide +kernel⟩)
        rw [this, Bool.and_false]
theorem split_lenY {x y : Str} {s : Nat} {S : List Nat} (ey : tl y = s :: S) (hk : y.cps.all (· < 256) = true) : (Txt.split x y).length ≤ x.length + 1 ∧ ∀ w ∈ Txt.split x y, w.length ≤ x.length ∧ (Asc x → Asc w) := by
  have hy : tl y ≠ [] := by rw [ey]; simp
  have h2 := split_spl x y hy (kind_ok hk)
  refine ⟨?_, fun w hw => ⟨?_, fun ha => ?_⟩⟩
  · have := spl_len (tl y) 0 [] (tl x)
    rw [← h2, List.length_map, ← len_tl] at this
    exact this
  · have := spl_word (tl y) 0 [] (tl x) (tl w) (by rw [← h2]; exact List.mem_map.mpr ⟨w, hw, rfl⟩)
    rw [← len_tl, ← len_tl] at this
    simpa using this
  · rw [asc_iff] at ha ⊢
    intro c hc
    rcases CH.spl_in (tl y) 0 [] (tl x) (tl w) (by rw [← h2]; exact List.mem_map.mpr ⟨w, hw, rfl⟩) c hc with q | q
    · exact nomatch q
    · exact ha c q
structure SpB (x : Str) (ws : List Str) : Prop where
  l : ws.length ≤ x.length + 1
  w : ∀ w ∈ ws, w.length ≤ x.length ∧ (Asc x → Asc w)
theorem col_b (x : Str) : SpB x (Txt.split x ":") := ⟨(split_lenY tlCol (by decide +kernel)).1, (split_lenY tlCol (by decide +kernel)).2⟩
theorem bar_b (x : Str) : SpB x (Txt.split x " | ") := ⟨(split_lenY tlBar (by decide +kernel)).1, (split_lenY tlBar (by decide +kernel)).2⟩
theorem sp_b (x : Str) : SpB x (Txt.split x " ") := ⟨(split_lenY tlSp (by decide +kernel)).1, (split_lenY tlSp (by decide +kernel)).2⟩
end LM

/-! consoles: is_count, reply_of, items_text, pieces_text -/
namespace My
open PySem L2 Cm LM EM
abbrev sIC : Stmt := top 47
abbrev sRO : Stmt := top 48
abbrev sIT : Stmt := top 49
abbrev sPT : Stmt := top 50
structure TxCo (K : PySem.W.Frag) (mg : Str → Option Value) where
  int : mg "int" = none
  str : mg "str" = none
  fe : ∃ t, mg "FEED" = some (.str "feed " t)
  to : ∃ t, mg "TOLD" = some (.str "!" t)
  ic : Df K mg "is_count" sIC ["text"]
  ro : Df K mg "reply_of" sRO ["row"]
  it : Df K mg "items_text" sIT ["items"]
  pt : Df K mg "pieces_text" sPT ["pieces"]
section
variable {P : Program} {w : World} {K : PySem.W.Frag} {mg : Str → Option Value} {base : Heap}
/-! ### is_count -/
def spIC : Sp := fun vs H Q _ => ∃ x : Str, vs = [.str x] ∧ Q (.bl (CoR.isC (TL.tl x))) H
theorem scIC : FnScope ["text"] ["text"] (defScope sIC) := ⟨rfl, rfl, rfl, by decide +kernel, rfl, by decide +kernel, by decide +kernel⟩
theorem ok_ic (T : TxCo K mg) : FnOk P w K mg base CX0 1 T.ic.f T.ic.fd ["text"] spIC := by
  refine T.ic.F.ok scIC (fun vs H Q E h => ?_) (fun cdv A outer s H vs Q E hr h => ?_)
  · obtain ⟨x, rfl, _⟩ := h
    rfl
  · obtain ⟨x, rfl, k⟩ := h
    refine ⟨_, (pss_cons (ps_if (PW.pt (pw_or (pt_not (pt_val (pe_m0 PySem.F.slot_str_isascii PySem.F.type_str_isascii mt_isascii (pv 0)))) (pw_or1 (pt_not (pt_val (pe_m0 PySem.F.slot_str_isdigit PySem.F.type_str_isdigit mt_isdigit (pv 0))))))) (pss_one (ps_ret pe_bl)) pss_nil) (pss_one (ps_ret (pe_or (pe_cmpR op_eq (pv 0) pe_str (nomark _)) (pe_one (pe_not (pe_m1 PySem.F.slot_str_startswith PySem.F.type_str_startswith mt_startswith (pv 0) pe_str))))))), ?_⟩
    have e := CoR.asc_dig x
    unfold CoR.isC at k
    rw [← e] at k
    refine ⟨_, rfl, ⟨_, rfl⟩, x, rfl, rfl, trivial, _, rfl, ?_⟩
    cases ha : Txt.isascii x with
    | false =>
      rw [ha] at k
      exact iteT k
    | true =>
      rw [ha] at k
      refine iteF ⟨_, rfl, ⟨_, rfl⟩, x, rfl, rfl, trivial, _, rfl, ?_⟩
      cases hd : Txt.isdigit x with
      | false =>
        rw [hd] at k
        exact iteT k
      | true =>
        rw [hd] at k
        refine iteF ?_
        have z0 : decide (V.str x = V.str "0") = decide (TL.tl x = [48]) := decide_eq_decide.mpr ⟨fun h => by injection h with h; rw [h]; decide +kernel, fun h => by rw [TL.ext_tl (h.trans (by decide +kernel : [48] = TL.tl ("0" : Str)))]⟩
        refine ⟨_, rfl, rfl, _, rfl, ?_⟩
        rw [z0]
        by_cases h0 : TL.tl x = [48]
        · rw [decide_eq_true h0] at k ⊢
          exact iteT k
        · rw [decide_eq_false h0] at k ⊢
          refine iteF ⟨_, rfl, ⟨_, rfl⟩, x, _, rfl, rfl, _, rfl, ?_⟩
          rw [CoR.sw0]
          exact k
/-! ### reply_of -/
def spRO : Sp := fun vs H Q _ => ∃ x : Str, vs = [.str x] ∧ x.length ≤ 640 ∧ (CoR.replyL (TL.tl x) = none → Q .non H) ∧ ∀ n b, CoR.replyL (TL.tl x) = some (n, b) → ∀ (H' : Hp) (q : Addr), Same H H' → H' q = some (.tup [.int (n : Nat), .bl b]) → Q (.ref q) H'
theorem scRO : FnScope ["row", "digits"] ["row"] (defScope sRO) := ⟨rfl, rfl, rfl, by decide +kernel, rfl, by decide +kernel, by decide +kernel⟩
theorem ok_ro (T : TxCo K mg) : FnOk P w K mg base CX0 2 T.ro.f T.ro.fd ["row"] spRO := by
  have GI : FnOk P w K mg base CX0 1 T.ic.f T.ic.fd ["text"] spIC := ok_ic T
  obtain ⟨t1, mf⟩ := T.fe
  obtain ⟨t2, mt⟩ := T.to
  refine T.ro.F.ok scRO (fun vs H Q E h => ?_) (fun cdv A outer s H vs Q E hr h => ?_)
  · obtain ⟨x, rfl, _⟩ := h
    rfl
  · obtain ⟨x, rfl, hl, k0, k1⟩ := h
    have hr1 : Room 1 _ := hr.mono (by decide)
    refine ⟨_, (pss_cons (ps_set (i := 1) scRO.nd rfl (.inl rfl) (pe_m1 PySem.F.slot_str_removesuffix PySem.F.type_str_removesuffix mt_removesuffix (pe_m1 PySem.F.slot_str_removeprefix PySem.F.type_str_removeprefix mt_removeprefix (pv 0) (pe_glob (v := .str "feed ") rfl mf ⟨_, rfl⟩)) (pe_glob (v := .str "!") rfl mt ⟨_, rfl⟩))) (pss_cons (ps_if (PW.pt (pw_or (pt_not (pt_val (pe_m1 PySem.F.slot_str_startswith PySem.F.type_str_startswith mt_startswith (pv 0) (pe_glob (v := .str "feed ") rfl mf ⟨_, rfl⟩)))) (pw_or1 (pt_not (pt_val (pe_call GI hr1 rfl T.ic.g T.ic.k T.ic.b .nil pass0 (pa_cons (pv 1) pa_nil))))))) (pss_one (ps_ret pe_non)) pss_nil) (pss_one (ps_ret (pe_tup (pa_cons (pe_callTy call_int_str (by rfl) T.int (by decide +kernel) (pa_cons (pv 1) pa_nil)) (pa_cons (pe_m1 PySem.F.slot_str_endswith PySem.F.type_str_endswith mt_endswith (pv 0) (pe_glob (v := .str "!") rfl mt ⟨_, rfl⟩)) pa_nil))))))), ?_⟩
    have l1 : x.length ≤ sizeLine := Nat.le_of_lt (szM (by omega))
    have l2 := CoR.pre_len x
    refine ⟨_, rfl, ⟨_, rfl⟩, x, _, rfl, rfl, l1, ⟨_, rfl⟩, _, _, rfl, rfl, Nat.le_of_lt (szM (by omega)), ?_⟩
    refine ⟨_, rfl, ⟨_, rfl⟩, x, _, rfl, rfl, _, rfl, ?_⟩
    rw [CoR.sw_feed]
    by_cases h : (TL.tl x).take 5 = CoR.F
    · rw [decide_eq_true h]
      refine iteF ⟨_, rfl, CoR.digs x, rfl, _, rfl, ?_⟩
      cases c : CoR.isC (TL.tl (CoR.digs x)) with
      | false => exact iteT (k0 (CoR.reply_none h c))
      | true =>
        obtain ⟨a1, a2⟩ := CoR.isC_all c
        have ld := CoR.digs_len x
        refine iteF ⟨_, rfl, CoR.digs x, _, rfl, intText_digits a1 a2 (by omega), by omega, ?_⟩
        refine ⟨_, rfl, ⟨_, rfl⟩, x, _, rfl, rfl, (by show 2 ≤ sizeLine; decide), fun q nq => ?_⟩
        exact k1 _ _ (CoR.reply_some h c) _ q (same_new nq) upd_same
    · rw [decide_eq_false h]
      exact iteT (k0 (CoR.reply_far h))
/-! ### items_text -/
theorem take_snocI {xs : List Int} {i : Nat} {x : Int} (h : xs[i]? = some x) : xs.take (i + 1) = xs.take i ++ [x] := by
  rw [List.take_add_one, h]
  rfl
def spIT (K : PySem.W.Frag) : Sp := fun vs H Q _ => ∃ (p : Addr) (xs : List Int), vs = [.ref p] ∧ H p = some (.tup (ivs xs)) ∧ CoR.Ord xs ∧ xs.length ≤ 500000 ∧ ∀ H', Same H H' → Q (.str (CoR.itT xs)) H'
theorem scIT : FnScope ["items", "item"] ["items"] (defScope sIT) := ⟨rfl, rfl, rfl, by decide +kernel, rfl, by decide +kernel, by decide +kernel⟩
theorem ok_it (T : TxCo K mg) : FnOk P w K mg base CX0 1 T.it.f T.it.fd ["items"] (spIT K) := by
  refine T.it.F.ok scIT (fun vs H Q E h => ?_) (fun cdv A outer s H vs Q E hr h => ?_)
  · obtain ⟨p, xs, rfl, _⟩ := h
    rfl
  · obtain ⟨p, xs, rfl, hp, ho, hl, k⟩ := h
    refine ⟨_, pss_one (ps_ret (pe_ifExp (pt_truth (pv 0) (by intro _; rfl)) (pe_join pe_str (pe_lc (own := [("item", 1)]) (g := gName 1) (tt := tYes) rfl scIT.nd (pi_tup (pv 0))
      (blkOk_by (own := [("item", 1)]) (N := ["items", "item"]) (sc := defScope sIT) (by decide +kernel)) (fun _ _ _ _ _ => pg_name (i := 1) scIT.nd rfl (Or.inl rfl)) (fun _ _ _ _ _ => pts_nil)
      (fun _ _ _ _ _ => pe_callTy call_str_int (by rfl) T.str (by decide +kernel) (pa_cons (pv 1) pa_nil)))) pe_str)), ?_⟩
    refine ⟨_, rfl, _, .inr (.inl ⟨_, SqT.of hp, rfl⟩), ?_⟩
    unfold CoR.itT at k
    by_cases e : xs = []
    · subst e
      exact k H (Same.refl _)
    · rw [if_neg e] at k
      have ne : (!(ivs xs).isEmpty) = true := by
        cases xs with
        | nil => exact absurd rfl e
        | cons _ _ => rfl
      rw [ne]
      refine iteT ?_
      refine ⟨⟨_, rfl⟩, _, rfl, p, rfl, ⟨_, SqT.of hp⟩, fun D nD => lc_tup (K := K) (a := p) (xs := ivs xs) (fun i H' => Same H H' ∧ H' D = some (.lst (svs ((xs.take i).map CoR.nmS)))) ⟨same_new nD, upd_same⟩ (fun i H' _ ⟨s', _⟩ => SqT.of (s' _ _ hp)) ?_ ?_⟩
      · rintro i y H' hy ⟨s', hD⟩
        obtain ⟨x, hx, rfl⟩ : ∃ x, xs[i]? = some x ∧ y = .int x := by
          unfold ivs at hy
          rw [List.getElem?_map] at hy
          cases hx : xs[i]? with
          | none => rw [hx] at hy; cases hy
          | some x => rw [hx] at hy; exact ⟨x, rfl, (Option.some.inj hy).symm⟩
        have ox := ho x (List.mem_of_getElem? hx)
        refine ⟨rfl, _, rfl, _, rfl, CoR.nm_log ox, _, hD, ?_, fun b o z => ?_, ?_⟩
        · rw [show (svs ((xs.take i).map CoR.nmS)).length = (xs.take i).length by simp [svs], List.length_take]
          exact szM (by omega)
        · rw [upd_ne (ne_of_none z nD)]
          exact s' _ _ z
        · rw [upd_same, take_snocI hx, List.map_append]
          simp [svs, CoR.nmS]
      · rintro H' ⟨s', hD⟩
        have lv : (ivs xs).length = xs.length := by simp [ivs]
        rw [lv, List.take_length] at hD
        refine ⟨",", D, xs.map CoR.nmS, rfl, rfl, .inl (SqL.of hD), ?_, k H' s'⟩
        have := CoR.nms_sum ho
        rw [List.length_map, show ("," : Str).length = 1 by decide +kernel]
        omega
/-! ### pieces_text -/
/-- all pieces are of ordinary size -/
def OrdP (ps : List (List Int)) : Prop := ∀ p ∈ ps, CoR.Ord p
theorem its_sum : ∀ {ps : List (List Int)}, OrdP ps → ((ps.map CoR.itT).map (·.length)).sum ≤ ps.length + 21 * (ps.map (·.length)).sum
  | [], _ => Nat.le_refl _
  | x :: r, h => by
    have a := CoR.it_len (h x (List.mem_cons_self ..))
    have b := its_sum (ps := r) fun i hi => h i (List.mem_cons_of_mem _ hi)
    simp only [List.map_cons, List.sum_cons, List.length_cons] at b ⊢
    omega
def spPT (K : PySem.W.Frag) : Sp := fun vs H Q _ => ∃ (p : Addr) (hs : List V) (ps : List (List Int)), vs = [.ref p] ∧ H p = some (.tup hs) ∧ Pcs H hs ps ∧ OrdP ps ∧ ps.length + (ps.map (·.length)).sum ≤ 500000 ∧ ∀ H', Same H H' → Q (.str (CoR.pcT ps)) H'
theorem scPT : FnScope ["pieces", "items"] ["pieces"] (defScope sPT) := ⟨rfl, rfl, rfl, by decide +kernel, rfl, by decide +kernel, by decide +kernel⟩
theorem Pcs.get {H : Hp} : ∀ {vs : List V} {xs : List (List Int)} {i : Nat} {y : V}, Pcs H vs xs → vs[i]? = some y → ∃ q x, xs[i]? = some x ∧ y = .ref q ∧ H q = some (.tup (ivs x))
  | _, _, i, y, .nil, h => by simp at h
  | _, _, 0, y, .cons h t, e => by
    cases e
    exact ⟨_, _, rfl, rfl, h⟩
  | _, _, i + 1, y, .cons h t, e => by
    obtain ⟨q, x, a, b, c⟩ := Pcs.get t (i := i) e
    exact ⟨q, x, a, b, c⟩
theorem sum_mem : ∀ {ps : List (List Int)} {x : List Int}, x ∈ ps → x.length ≤ (ps.map (·.length)).sum
  | p :: r, x, h => by
    rw [List.map_cons, List.sum_cons]
    rcases List.mem_cons.mp h with rfl | h
    · omega
    · have := sum_mem h
      omega
theorem ok_pt (T : TxCo K mg) : FnOk P w K mg base CX0 2 T.pt.f T.pt.fd ["pieces"] (spPT K) := by
  have GI : FnOk P w K mg base CX0 1 T.it.f T.it.fd ["items"] (spIT K) := ok_it T
  refine T.pt.F.ok scPT (fun vs H Q E h => ?_) (fun cdv A outer s H vs Q E hr h => ?_)
  · obtain ⟨p, hs, ps, rfl, _⟩ := h
    rfl
  · obtain ⟨p, hs, ps, rfl, hp, hP, ho, hl, k⟩ := h
    have hr1 : Room 1 _ := hr.mono (by decide)
    refine ⟨_, pss_one (ps_ret (pe_ifExp (pt_truth (pv 0) (by intro _; rfl)) (pe_join pe_str (pe_lc (own := [("items", 1)]) (g := gName 1) (tt := tYes) (te := tCall (spIT K) [] E0 (tCons (tVar 1) tNil)) rfl scPT.nd (pi_tup (pv 0))
      (blkOk_by (own := [("items", 1)]) (N := ["pieces", "items"]) (sc := defScope sPT) (by decide +kernel)) (fun _ _ _ _ _ => pg_name (i := 1) scPT.nd rfl (Or.inl rfl)) (fun _ _ _ _ _ => pts_nil)
      (fun _ _ _ _ _ => by exact pe_call GI hr1 rfl T.it.g T.it.k T.it.b .nil pass0 (pa_cons (pv 1) pa_nil)))) pe_str)), ?_⟩
    refine ⟨_, rfl, _, .inr (.inl ⟨_, SqT.of hp, rfl⟩), ?_⟩
    have ln := hP.len
    unfold CoR.pcT at k
    by_cases e : ps = []
    · subst e
      cases hP
      exact k H (Same.refl _)
    · rw [if_neg e] at k
      have ne : (!hs.isEmpty) = true := by
        cases hP with
        | nil => exact absurd rfl e
        | cons _ _ => rfl
      rw [ne]
      refine iteT ?_
      refine ⟨⟨_, rfl⟩, _, rfl, p, rfl, ⟨_, SqT.of hp⟩, fun D nD => lc_tup (K := K) (a := p) (xs := hs) (fun i H' => Same H H' ∧ H' D = some (.lst (svs ((ps.take i).map CoR.itT)))) ⟨same_new nD, upd_same⟩ (fun i H' _ ⟨s', _⟩ => SqT.of (s' _ _ hp)) ?_ ?_⟩
      · rintro i y H' hy ⟨s', hD⟩
        obtain ⟨q, x, hx, rfl, hq⟩ := hP.get hy
        have mx := List.mem_of_getElem? hx
        have sx := sum_mem mx
        refine ⟨rfl, _, rfl, q, x, rfl, s' _ _ hq, ho x mx, by omega, fun H2 s2 => ⟨_, s2 _ _ hD, ?_, fun b o z => ?_, ?_⟩⟩
        · rw [show (svs ((ps.take i).map CoR.itT)).length = (ps.take i).length by simp [svs], List.length_take]
          exact szM (by omega)
        · rw [upd_ne (ne_of_none z nD)]
          exact s2 _ _ (s' _ _ z)
        · rw [upd_same]
          rw [List.take_add_one, hx, List.map_append]
          simp [svs]
      · rintro H' ⟨s', hD⟩
        rw [ln, List.take_length] at hD
        refine ⟨" ", D, ps.map CoR.itT, rfl, rfl, .inl (SqL.of hD), ?_, k H' s'⟩
        have := its_sum ho
        rw [List.length_map, show (" " : Str).length = 1 by decide +kernel]
        omega
end
end My

/-! defs that are called where no repr is running, and repr of plain data there -/
namespace Gd
open PySem PySem.Spec PyProof.Rows L2
/-- a def's promise, for callers around whom no guard stands -/
structure FnG (P : Program) (w : World) (K : PySem.W.Frag) (mg : Str → Option Value) (base : Heap) (CX : CXT) (k : Nat) (f : Addr) (fd : FuncData) (ps : List Str) (sp : Sp) : Prop where
  len : ∀ vs H Q E, sp vs H Q E → vs.length = ps.length
  run : ∀ (A : Around) (outer : List Env) (s : Shared) (H : Hp) (args : Args) (us : List Value) (vs : List V) (Q : VK) (E : XK), A.guards = some [] → Room k A → Env0 P w K mg base A outer s H → BindsTo s fd args (ps.zip us) → Vals vs us → sp vs H Q E →
    codeAny (model P w) A (.call (.ref f) args) (CR CX outer P w H s Q E) s
section
variable {P : Program} {w : World} {K : PySem.W.Frag} {mg : Str → Option Value} {base : Heap}
/-- the rule of a def, its guards told -/
theorem okG {x qual : Str} {st : Stmt} {f : Addr} {fd : FuncData} {N ps : List Str} {k : Nat} {sp : Sp} (F : Fun K x qual st f fd) (S : FnScope N ps (defScope st)) (len : ∀ vs H Q E, sp vs H Q E → vs.length = ps.length)
    (hbody : ∀ (cdv : Value) (A : Around) (outer : List Env) (s : Shared) (H : Hp) (vs : List V) (Q : VK) (E : XK), K.lookup f ≠ none → PySem.W.codeIn K cdv qual = true → fd.code = cdv → A.guards = some [] → Room k (A.deeper (envOfC qual (defScope st) s.heap.objs.size f cdv)) → sp vs H Q E →
      ∃ t, PSs (cxOf CX0 P w K mg base N qual (defScope st) f cdv A outer s H E).nox (defBody st) t ∧ t { nx := fun _ H' => Q .non H', rt := Q } (L2.start N vs) H) : FnG P w K mg base CX0 (k + 1) f fd ps sp := by
  obtain ⟨oc, od, kV, doc, pm, an, cdv, ct, osl, rfl, lk, hcd⟩ := F.ex
  refine ⟨len, fun A outer s H args us vs Q E hg hr e0 hb r h => ?_⟩
  refine LamX.run_ofS lk hcd S hr e0 hb r (len _ _ _ _ h) fun hr2 => ?_
  obtain ⟨t, h1, q⟩ := hbody cdv A outer s H vs Q E (by rw [lk]; simp) hcd rfl hg hr2 h
  exact ⟨t, h1.nox, q⟩
end
section
variable {X : Cx} {CX : CXT} {k : Nat} {f : Addr} {fd : FuncData} {ps : List Str} {sp : Sp} {E : XK} {x : Str} {p pos : Pos} {e : Expr} {es : List Expr} {t : TA} {ds : List Value} {dvs : List V}
/-- f(e, ..) -/
theorem pe_callG (F : FnG X.prog X.w X.K X.mg X.base CX k f fd ps sp) (hgd : X.A.guards = some []) (hr : Room k X.A) (hg : Gl X x) (hm : X.mg x = some (.ref f)) (hk : PySem.W.keepIn X.K (.ref f) = true) (hb : L2.Binds X.K fd ps ds) (hd : Vals dvs ds) (hx : Passes CX X E) (ha : PA X (e :: es) t)
    (hdb : (x == ("__debug__" : Str)) = false := by decide) (he : starEach (e :: es) X.env = (false, eval e X.env) :: starEach es X.env := by rfl) (hpl : (backTo pos (starEach es X.env)).any (·.1) = false := by rfl) :
    PE X (.Call (.Name x p) (e :: es) [] pos) (tCall sp dvs E t) := by
  refine ⟨fun pins s σ H Q I h => ?_⟩
  refine wpAny_Call_Name_kw (ld_glob I hg hm ?_ hdb)
  refine PySem.W.callWith_K (h₀ := X.base) I.ok.mod.kin hk (thn (ha.run pos pins s σ H _ I h) fun us s1 ⟨vs, H1, I1, r, q⟩ => ⟨I1.kIn, ?_⟩) he hpl
  have r2 : Vals (vs ++ dvs) (us ++ ds) := r.append hd
  have hl : (us ++ ds).length = ps.length := by
    rw [← r2.length]
    exact F.len _ _ _ _ q
  refine wpAny_call (codeAny_mono (F.run X.A X.stack s1 H1 ⟨us, []⟩ (us ++ ds) (vs ++ dvs) Q E hgd hr I1.env0 (hb s1 us I1.kIn hl) r2 q) fun rr s2 hq => ?_)
  match rr, hq with
  | .error er, hq => exact hx pins σ H1 s1 er s2 I1 hq
  | .ok (.ret u), hq => exact I1.after hq
end
/-! ### plain data, all of it tracked -/
mutual
inductive Dq (H : Hp) : V → PyData → Prop
  | non : Dq H .non .none
  | bl (b : Bool) : Dq H (.bl b) (.bool b)
  | int (i : Int) : Dq H (.int i) (.int i)
  | str (x : Str) : Dq H (.str x) (.str x)
  | lst {a : Addr} {xs : List V} {ds : List PyData} : H a = some (.lst xs) → DqA H xs ds → Dq H (.ref a) (.list ds)
  | tup {a : Addr} {xs : List V} {ds : List PyData} : H a = some (.tup xs) → DqA H xs ds → Dq H (.ref a) (.tuple ds)
  | dct {a : Addr} : H a = some (.dK []) → Dq H (.ref a) (.dict [])
inductive DqA (H : Hp) : List V → List PyData → Prop
  | nil : DqA H [] []
  | cons {v : V} {vs : List V} {d : PyData} {ds : List PyData} : Dq H v d → DqA H vs ds → DqA H (v :: vs) (d :: ds)
end
section
variable {X : Cx} {pins : List (Addr × Obj)} {σ : L2.St} {H : Hp} {s : Shared}
mutual
theorem Dq.reads (I : Inv X pins σ H s) : ∀ {v : V} {d : PyData} {u : Value}, Dq H v d → RelV v u → ∃ as, Reads s.heap u d as ∧ ∀ b ∈ as, H b ≠ none
  | _, _, _, .non, r => by
    cases r
    exact ⟨_, .none, fun b h => nomatch h⟩
  | _, _, _, .bl b, r => by
    cases r
    exact ⟨_, .bool b, fun b h => nomatch h⟩
  | _, _, _, .int i, r => by
    obtain ⟨t, rfl⟩ := r
    exact ⟨_, .int i t, fun b h => nomatch h⟩
  | _, _, _, .str x, r => by
    obtain ⟨t, rfl⟩ := r
    exact ⟨_, .str x t, fun b h => nomatch h⟩
  | _, _, _, .lst (a := a) (xs := xs) ha hd, r => by
    cases r
    obtain ⟨_, its, n, rv, e⟩ := (show ObjOk X.prog X.w H s.heap a (.lst xs) from I.hok a _ ha)
    obtain ⟨as, h1, h2⟩ := DqA.reads I hd rv
    refine ⟨_, .list e rfl rfl (by simpa using h1), fun b hb => ?_⟩
    rcases List.mem_cons.mp hb with rfl | hb
    · rw [ha]; simp
    · exact h2 b hb
  | _, _, _, .tup (a := a) (xs := xs) ha hd, r => by
    cases r
    obtain ⟨_, its, rv, o, e, c, n, hn⟩ := (show ObjOk X.prog X.w H s.heap a (.tup xs) from I.hok a _ ha)
    obtain ⟨as, h1, h2⟩ := DqA.reads I hd rv
    exact ⟨_, .tuple e c hn (by simpa using h1), h2⟩
  | _, _, _, .dct (a := a) ha, r => by
    cases r
    obtain ⟨_, _, vs, kv, o, es, ep, e, hx, hdt, _, hes, _⟩ := (show ObjOk X.prog X.w H s.heap a (.dK []) from I.hok a _ ha)
    cases kv
    have e0 : es.toList = [] := by
      generalize es.toList = zs at hes
      cases hes
      rfl
    refine ⟨_, .dict (kvs := []) e hx.1 hdt (by rw [e0]; exact .nil) (by rw [e0]; exact .nil), fun b hb => ?_⟩
    have : b = a := by simpa using hb
    rw [this, ha]; simp
theorem DqA.reads (I : Inv X pins σ H s) : ∀ {vs : List V} {ds : List PyData} {us : List Value}, DqA H vs ds → Vals vs us → ∃ as, ReadsAll s.heap us ds as ∧ ∀ b ∈ as, H b ≠ none
  | _, _, _, .nil, r => by
    cases r
    exact ⟨_, .nil, fun b h => nomatch h⟩
  | _, _, _, .cons hd ht, .cons r rt => by
    obtain ⟨as, h1, h2⟩ := Dq.reads I hd r
    obtain ⟨bs, h3, h4⟩ := DqA.reads I ht rt
    exact ⟨_, .cons h1 h3, fun b hb => (List.mem_append.mp hb).elim (h2 b) (h4 b)⟩
end
end
mutual
theorem Dq.same {H H' : Hp} (s : Same H H') : ∀ {v : V} {d : PyData}, Dq H v d → Dq H' v d
  | _, _, .non => .non
  | _, _, .bl b => .bl b
  | _, _, .int i => .int i
  | _, _, .str x => .str x
  | _, _, .lst ha hd => .lst (s _ _ ha) (DqA.same s hd)
  | _, _, .tup ha hd => .tup (s _ _ ha) (DqA.same s hd)
  | _, _, .dct ha => .dct (s _ _ ha)
theorem DqA.same {H H' : Hp} (s : Same H H') : ∀ {vs : List V} {ds : List PyData}, DqA H vs ds → DqA H' vs ds
  | _, _, .nil => .nil
  | _, _, .cons a b => .cons (Dq.same s a) (DqA.same s b)
end
/-- repr of a list, a tuple or an empty dict of such data -/
def rReprD : List V → Hp → VK → Prop := fun xs H Q => ∃ (a : Addr) (d : PyData), xs = [.ref a] ∧ Dq H (.ref a) d ∧ d.showable = true ∧ d.depth ≤ 64 ∧ d.shown.length ≤ sizeLine ∧ Q (.str d.shown) H
theorem call_reprD {X : Cx} {k : Nat} {ob : Obj} (hg : X.A.guards = some []) (hr : Room k X.A) (sm : X.base.get? sysModules = some ob) : CallR X (.builtin "repr") rReprD := by
  intro pins s σ H xs us Q I r h
  obtain ⟨a, d, rfl, hd, hs, hdep, hz, q⟩ := h
  obtain ⟨u, rfl, ru⟩ := vals1 r
  cases (show u = Value.ref a from ru)
  obtain ⟨as, h1, h2⟩ := hd.reads I (u := .ref a) rfl
  have no : sysModules ∉ as := fun hm => h2 _ hm (I.env0.bs _ _ sm).2
  have hu := hr.un
  refine repr_of_reads' h1 hs (fun _ => no) hg (by omega) (fun _ _ e => e) (fun h' u tk hk => ?_) hz
  exact ⟨.str d.shown, H, I.kept (t' := tk) hk, ⟨_, rfl⟩, q⟩
/-! ### the end of a law, from such a promise -/
/-- at the law's call: the tables, and the script unless the module itself holds it -/
def H0 (K : PySem.W.Frag) (tabs : List Addr) (a : Addr) (u : HO) : Hp := fun b => if b ∈ tabs then some (.tbl #[]) else if b = a ∧ K.lookup a = none then some u else none
theorem H0_tab {K : PySem.W.Frag} {tabs : List Addr} {a b : Addr} {u : HO} (h : b ∈ tabs) : H0 K tabs a u b = some (.tbl #[]) := if_pos h
theorem H0_cases {K : PySem.W.Frag} {tabs : List Addr} {a b : Addr} {u o : HO} (h : H0 K tabs a u b = some o) : (b ∈ tabs ∧ o = .tbl #[]) ∨ (b ∉ tabs ∧ b = a ∧ K.lookup a = none ∧ o = u) := by
  unfold H0 at h
  split at h
  next hb => exact .inl ⟨hb, (Option.some.inj h).symm⟩
  next hb =>
    split at h
    next hc => exact .inr ⟨hb, hc.1, hc.2, (Option.some.inj h).symm⟩
    next => cases h
theorem law_callG {P : Program} {w : World} {K : PySem.W.Frag} {mg mb : Str → Option Value} {k : Nat} {fa a : Addr} {cs : List (Addr × Addr)} {fd : FuncData} {x : Str} {sp : Sp} {st : Shared} {vs : List Value} {ns : List Int}
    (KX : K.In st.heap) (gNs : st.heap.Ns mainGlobals mg) (bNs : st.heap.Ns builtinsNs mb) (bEq : ∀ x : Str, x ≠ "__name__" → mb x = bootBuiltins x) (lim : st.heap.NoLimit) (noG : st.gens = #[])
    (isT : ∀ p ∈ cs, st.heap.get? p.2 = some { cls := .none, data := .fields #[] }) (nK : ∀ p ∈ cs, K.lookup p.2 = none) (isC : ∀ p ∈ cs, PySem.W.CodeHd st.heap p.1 p.2)
    (bMain : ∃ (bm : Addr) (ob : Obj), mg "__builtins__" = some (.ref bm) ∧ bm ≠ builtinsNs ∧ st.heap.get? bm = some ob ∧ ob.cls = .type "module" ∧ ob.dict = some builtinsNs ∧ ob.data = .plain)
    (scr : st.heap.get? a = some { cls := .type "list", data := .seq vs.toArray }) (intsA : IntsAre vs ns) (few : ns.length ≤ sizeLine) (room : Room k callerA)
    (mods : ∃ mm, st.heap.Ns sysModules mm)
    (F : ∀ base : Heap, K.In base → base.Ns mainGlobals mg → (∃ ob, base.get? sysModules = some ob) → (∀ p ∈ cs, LamX.TabB base mg p.1 p.2) → FnG P w K mg base CX0 k fa fd [x] sp) (bind : ∀ (s : Shared) (u : Value), BindsTo s fd ⟨[u], []⟩ [(x, u)])
    (hsp : ∀ H : Hp, (∀ p ∈ cs, H p.2 = some (.tbl #[])) → SqL K H a (ns.map V.int) → sp [.ref a] H (fun v _ => v = .bl true) fun _ _ _ => False) :
    codeAny (model P w) callerA (.call (.ref fa) ⟨[.ref a], []⟩) (fun r s2 => r = .ok (.ret (.bool true)) ∧ OldK st.heap s2.heap ∧ s2.os = st.os ∧ AllBare s2.gens) st := by
  have vals := vals_ints intsA
  have tabAt : ∀ b ∈ cs.map (·.2), st.heap.get? b = some { cls := .none, data := .fields #[] } := fun b hb => by
    obtain ⟨p, hp, rfl⟩ := List.mem_map.mp hb
    exact isT p hp
  generalize hu : (HO.frz { cls := .type "list", data := .seq vs.toArray } (.lst (ns.map V.int))) = u
  generalize hH : H0 K (cs.map (·.2)) a u = H
  have tabH : ∀ p ∈ cs, H p.2 = some (.tbl #[]) := fun p hp => by
    rw [← hH]
    exact H0_tab (List.mem_map.mpr ⟨p, hp, rfl⟩)
  have what : ∀ b o, H b = some o → (b ∈ cs.map (·.2) ∧ o = .tbl #[]) ∨ (b ∉ cs.map (·.2) ∧ b = a ∧ K.lookup a = none ∧ o = u) := fun b o e => by
    rw [← hH] at e
    exact H0_cases e
  have held : HOk P w H st.heap := fun b o e => by
    rcases what b o e with ⟨h1, rfl⟩ | ⟨_, rfl, _, rfl⟩
    · exact tabAt b h1
    · rw [← hu]
      exact ⟨scr, by rw [List.length_map]; exact few, vs, _, vals, scr⟩
  have seen : SqL K H a (ns.map V.int) := by
    cases hk : K.lookup a with
    | some o =>
      have e := KX a o hk
      rw [scr] at e
      cases e
      exact .inr ⟨_, vs.toArray, _, hk, rfl, rfl, rfl, by rw [List.size_toArray, intsA.length]; exact few, by simpa using vals⟩
    | none =>
      refine .inl (.inr ⟨{ cls := .type "list", data := .seq vs.toArray }, ?_⟩)
      have nt : a ∉ cs.map (·.2) := fun z => by
        have q := tabAt a z
        rw [scr] at q
        cases congrArg Obj.data (Option.some.inj q)
      rw [← hH, ← hu]
      exact (if_neg nt).trans (if_pos ⟨rfl, hk⟩)
  -- what is neither a list nor an empty table is not tracked
  have untracked : ∀ {b : Addr} {o : Obj}, st.heap.get? b = some o → (∀ us m, o.data ≠ .seq us m) → o.data ≠ .fields #[] → H b = none := fun {b o} e h1 h2 => by
    cases q : H b with
    | none => rfl
    | some z =>
      rcases what b z q with ⟨hb, _⟩ | ⟨_, rfl, _⟩
      · rw [tabAt b hb] at e
        exact absurd (congrArg Obj.data (Option.some.inj e)).symm h2
      · rw [scr] at e
        exact absurd (congrArg Obj.data (Option.some.inj e)).symm (h1 _ _)
  have stays : ∀ {b : Addr} {o : Obj}, st.heap.get? b = some o → (∀ us m, o.data ≠ .seq us m) → o.data ≠ .fields #[] → (hidT st.heap H).get? b = some o := fun e h1 h2 => hidT_get e (untracked e h1 h2)
  have names : ∀ {b : Addr} {m : Str → Option Value}, st.heap.Ns b m → (hidT st.heap H).Ns b m := fun ⟨o, es, ep, e, dt, r⟩ =>
    ⟨o, es, ep, stays e (fun _ _ z => by rw [dt] at z; cases z) (fun z => by rw [dt] at z; cases z), dt, r⟩
  have inB : K.In (hidT st.heap H) := fun b o e => hidT_get (KX b o e) (by
    cases q : H b with
    | none => rfl
    | some z =>
      rcases what b z q with ⟨hb, _⟩ | ⟨_, rfl, hn, _⟩
      · obtain ⟨p, hp, rfl⟩ := List.mem_map.mp hb
        rw [nK p hp] at e
        cases e
      · rw [hn] at e
        cases e)
  obtain ⟨mc, lim1, lim2⟩ := lim
  have modu : L2.Mod K mg (hidT st.heap H) := ⟨inB, names gNs, ⟨mb, names bNs, bEq⟩, ⟨mc, names lim1, lim2⟩⟩
  have tabB : ∀ p ∈ cs, LamX.TabB (hidT st.heap H) mg p.1 p.2 := fun p hp => by
    have atP := isT p hp
    refine { code := ?_, bm := ?_, gP := fun z => ?_ }
    · obtain ⟨o, us, file, tf, flags, tg, inF, text, tt, e1, r1, r2, r3, r4⟩ := isC p hp
      exact ⟨o, us, file, tf, flags, tg, inF, text, tt, stays e1 (fun _ _ z => by rw [r2] at z; cases z) (fun z => by rw [r2] at z; cases z; simp at r3), r1, r2, r3, r4⟩
    · obtain ⟨bm, ob, b1, b2, b3, b4, b5, b6⟩ := bMain
      refine ⟨bm, ob, b1, b2, fun z => ?_, fun z => ?_, stays b3 (fun _ _ z => by rw [b6] at z; cases z) (fun z => by rw [b6] at z; cases z), b4, b5, b6⟩
      · obtain ⟨o, es, ep, e, dt, _⟩ := gNs
        rw [z, e] at b3
        cases b3
        rw [dt] at b6
        cases b6
      · rw [z, atP] at b3
        cases b3
        cases b6
    · obtain ⟨o, es, ep, e, dt, _⟩ := gNs
      rw [z, atP] at e
      cases e
      cases dt
  have env : Env0 P w K mg (hidT st.heap H) callerA [] st H := ⟨rfl, modu, fun b o e => of_hidT e, Nat.le_of_eq (hidT_size _ _), trivial, (fun b hb => absurd (show b ∈ ([] : List Addr) from hb) (by simp)), held, .of_eq noG⟩
  have hm : ∃ ob, (hidT st.heap H).get? sysModules = some ob := by
    obtain ⟨mm, hm⟩ := mods
    obtain ⟨o, es, ep, e, _⟩ := names hm
    exact ⟨o, e⟩
  refine codeAny_mono ((F _ inB (names gNs) hm tabB).run callerA [] st H ⟨[.ref a], []⟩ [.ref a] [.ref a] _ _ rfl room env (bind st (.ref a)) (.cons rfl .nil) (hsp H tabH seen)) fun r s2 h => ?_
  match r, h with
  | .error e, h => exact (show False from h).elim
  | .ok (.ret z), h =>
    obtain ⟨v, H2, os2, bare, un, held2, rz, q⟩ := h
    cases (show v = .bl true from q)
    cases (show z = Value.bool true from rz)
    have kept : ∀ b o, b ∉ cs.map (·.2) → st.heap.get? b = some o → s2.heap.get? b = some o := fun b o nb e => by
      cases q : H b with
      | none => exact un.keep b o e q (fun z => absurd (show b ∈ ([] : List Addr) from z) (by simp)) (by simp)
      | some y =>
        rcases what b y q with ⟨hb, _⟩ | ⟨_, rfl, _, rfl⟩
        · exact absurd hb nb
        · rw [← hu] at q
          have e1 := (held2 _ _ (un.frzs _ _ _ q)).1
          rw [scr] at e
          cases e
          exact e1
    have grew : ∀ p ∈ cs, ∃ more : Array Value, s2.heap.get? p.2 = some { cls := .none, data := .fields more } := fun p hp => by
      obtain ⟨more, z⟩ := un.tbls p.2 #[] (tabH p hp)
      exact ⟨_, held2 p.2 _ z⟩
    refine ⟨rfl, ⟨fun b o e => ?_, fun b o e => ?_⟩, os2, bare⟩
    · by_cases hb : b ∈ cs.map (·.2)
      · obtain ⟨p, hp, rfl⟩ := List.mem_map.mp hb
        obtain ⟨more, hm⟩ := grew p hp
        rw [isT p hp] at e
        cases e
        exact .inr (.inl ⟨((isC p hp).tab (isT p hp)).isCodeTable, rfl, #[], more, rfl, by rw [Array.empty_append]; exact hm⟩)
      · exact .inl (kept b o hb e)
    · by_cases hb : b ∈ cs.map (·.2)
      · obtain ⟨p, hp, rfl⟩ := List.mem_map.mp hb
        obtain ⟨more, hm⟩ := grew p hp
        exact ⟨_, hm⟩
      · exact ⟨o, kept b o hb e⟩
/-- what the law's def promises where the head has ended -/
def LawG (l : PySem.W.OpenLaw) (w : World) (K : PySem.W.Frag) (k n : Nat) (x : Str) (mg : Str → Option Value) (fa : Addr) (h : Heap) : Prop :=
  ∃ (fd : FuncData) (cs : List (Addr × Addr)) (sp : Sp), (∀ p ∈ cs, h.get? p.2 = some { cls := .none, data := .fields #[] }) ∧ (∀ p ∈ cs, K.lookup p.2 = none) ∧ (∀ p ∈ cs, PySem.W.CodeHd h p.1 p.2) ∧ (∀ (s : Shared) (u : Value), BindsTo s fd ⟨[u], []⟩ [(x, u)]) ∧
    (∀ (H : Hp) (a : Addr) (ns : List Int), ns.length ≤ n → (∀ p ∈ cs, H p.2 = some (.tbl #[])) → SqL K H a (ns.map V.int) → sp [.ref a] H (fun v _ => v = .bl true) fun _ _ _ => False) ∧
    ∀ base : Heap, K.In base → base.Ns mainGlobals mg → (∃ ob, base.get? sysModules = some ob) → (∀ p ∈ cs, LamX.TabB base mg p.1 p.2) → FnG l.prog w K mg base CX0 k fa fd [x] sp
theorem walk_ofG {l : PySem.W.OpenLaw} {n k : Nat} {q : Program} {loose : List Str} {XP : (Str → Option Value) → Heap → Prop} {YP : World → Heap → Prop} {d : DefRec} {K : Params → PySem.W.Frag} {x : Str}
    (hn : l.most = some n) (hn2 : n ≤ sizeLine) (hdf : d.params.defaults = []) (hi : importsNone q = true) (hr : Room k callerA) (hY : ∀ (w : World) (h : Heap), YP w h → (K w.params).In h)
    (F : ∀ (w : World) (mg : Str → Option Value) (fa : Addr) (h : Heap), YP w h → (K w.params).In h → h.Ns mainGlobals mg → mg d.name = some (.ref fa) → LawG l w (K w.params) k n x mg fa h) :
    PySem.W.WalkO q loose XP YP l.row.toRowW d [] (fun f vs => PySem.call f vs) := by
  refine Att.attach_call hn hdf fun w t0 t1 mg mb fa o pm cd doc a vs ns gr y1 ho hd hcd hmg hobj hints hlen hgen => ?_
  obtain ⟨fd, cs, sp, c1, c2, c3, c4, c5, c6⟩ := F w mg fa _ y1 (hY w _ y1) gr.T.g hmg
  exact law_callG (hY w _ y1) gr.T.g gr.T.b gr.T.builtins gr.T.nolimit hgen c1 c2 c3 gr.T.bmain hobj hints (Nat.le_trans hlen hn2) hr (let ⟨mm, hm, _⟩ := (gr.T.seer hi).mods; ⟨mm, hm⟩) c6 c4 fun H tabs sq => c5 H a ns hlen tabs sq
end Gd

/-! repr of any plain data, also behind a caught error; the types of plain data; slices of lists of counts -/
namespace RpA
open PySem L2 Gd
theorem ext_same {H H' : Hp} (s : Same H H') : LamX.ExtN H H' := fun b o e _ => s b o e
mutual
theorem dq_ext {H H' : Hp} (s : LamX.ExtN H H') : ∀ {v : V} {d : PyData}, Dq H v d → Dq H' v d
  | _, _, .non => .non
  | _, _, .bl b => .bl b
  | _, _, .int i => .int i
  | _, _, .str x => .str x
  | _, _, .lst ha hd => .lst (s _ _ ha (by intro ps z; cases z)) (dqa_ext s hd)
  | _, _, .tup ha hd => .tup (s _ _ ha (by intro ps z; cases z)) (dqa_ext s hd)
  | _, _, .dct ha => .dct (s _ _ ha (by intro ps z; cases z))
theorem dqa_ext {H H' : Hp} (s : LamX.ExtN H H') : ∀ {vs : List V} {ds : List PyData}, DqA H vs ds → DqA H' vs ds
  | _, _, .nil => .nil
  | _, _, .cons a b => .cons (dq_ext s a) (dqa_ext s b)
end
theorem dqa_app {H : Hp} : ∀ {vs ws : List V} {ds es : List PyData}, DqA H vs ds → DqA H ws es → DqA H (vs ++ ws) (ds ++ es)
  | _, _, _, _, .nil, b => b
  | _, _, _, _, .cons a t, b => .cons a (dqa_app t b)
theorem dqa_len {H : Hp} : ∀ {vs : List V} {ds : List PyData}, DqA H vs ds → vs.length = ds.length
  | _, _, .nil => rfl
  | _, _, .cons _ t => by rw [List.length_cons, List.length_cons, dqa_len t]
theorem dqa_mem {H : Hp} : ∀ {vs : List V} {ds : List PyData}, DqA H vs ds → ∀ x ∈ vs, ∃ d ∈ ds, Dq H x d
  | _, _, .nil, _, h => nomatch h
  | _, _, .cons a t, x, h => by
    rcases List.mem_cons.mp h with rfl | z
    · exact ⟨_, List.mem_cons_self, a⟩
    · obtain ⟨d, m, q⟩ := dqa_mem t x z
      exact ⟨d, List.mem_cons_of_mem _ m, q⟩
/-- the name of the type -/
def tyN : PyData → String
  | .none => "NoneType"
  | .bool _ => "bool"
  | .int _ => "int"
  | .str _ => "str"
  | .list _ => "list"
  | .tuple _ => "tuple"
  | .dict _ => "dict"
theorem dq_ty {K : PySem.W.Frag} {H : Hp} {v : V} {d : PyData} (q : Dq H v d) : TyX K H v (.type (tyN d)) := by
  cases q with
  | non => exact .base .non
  | bl b => exact .base (.bl b)
  | int i => exact .base (.int i)
  | str x => exact .base (.str x)
  | lst h _ => exact .base (.lst h)
  | tup h _ => exact .base (.tup h)
  | dct h => exact .base (.dK h)
/-- repr of such data -/
def rReprA : List V → Hp → VK → Prop := fun xs H Q => ∃ (v : V) (d : PyData) (n : Nat), xs = [v] ∧ Dq H v d ∧ SkT.Sw n 64 d ∧ n ≤ sizeLine ∧ Q (.str d.shown) H
theorem call_reprA {X : Cx} {ob : Obj} (hg : X.A.guards = some []) (hu : X.A.units + 66 < cLine) (sm : X.base.get? sysModules = some ob) : CallR X (.builtin "repr") rReprA := by
  intro pins s σ H xs us Q I r h
  obtain ⟨v, d, n, rfl, hd, hs, hn, q⟩ := h
  obtain ⟨u, rfl, ru⟩ := vals1 r
  have ref : ∀ a, v = .ref a → wpAny (model X.prog X.w) X.A (PySem.call (.builtin "repr") [u]) (fun u' s' => ∃ (v' : V) (H' : Hp), Inv X pins σ H' s' ∧ RelV v' u' ∧ Q v' H') X.xe s := fun a e => by
    subst e
    cases (show u = Value.ref a from ru)
    obtain ⟨as, h1, h2⟩ := hd.reads I (u := .ref a) rfl
    have no : sysModules ∉ as := fun hm => h2 _ hm (I.env0.bs _ _ sm).2
    have := hs.dp
    refine repr_of_reads' h1 hs.sh (fun _ => no) hg (by omega) (fun _ _ e => e) (fun h' u tk hk => ?_) (Nat.le_trans hs.ln hn)
    exact ⟨.str d.shown, H, I.kept (t' := tk) hk, ⟨_, rfl⟩, q⟩
  cases hd with
  | non =>
    cases ru
    exact PySem.P.repr_of_none ⟨.str _, H, I.tok _, ⟨_, rfl⟩, q⟩
  | bl b =>
    cases ru
    exact PySem.P.repr_of_bool ⟨.str _, H, I.tok _, ⟨_, rfl⟩, q⟩
  | int i =>
    obtain ⟨t, rfl⟩ := ru
    exact PySem.P.repr_of_int (by have := hs.sh; simpa [PyData.showable] using this) ⟨.str _, H, I.tok _, ⟨_, rfl⟩, q⟩
  | str x =>
    obtain ⟨t, rfl⟩ := ru
    exact PySem.P.repr_of_str ⟨.str _, H, I.tok _, ⟨_, rfl⟩, q⟩ (Nat.le_trans hs.ln hn)
  | lst ha hd => exact ref _ rfl
  | tup ha hd => exact ref _ rfl
  | dct ha => exact ref _ rfl
theorem sl_from {K : PySem.W.Frag} {Q : VK} {H : Hp} {l : Addr} {vs : List V} {n : Int} {k : Nat} (hl : H l = some (.lst vs)) (e : n = (k : Nat)) (h : ∀ z, H z = none → ∀ H', Same H H' → H' z = some (.lst (vs.drop k)) → Q (.ref z) H') : rSlL K (.ref l) (some n) none H Q := by
  refine ⟨l, vs, rfl, SqL.of hl, fun z nz => ?_⟩
  rw [e, Cm.cut_from]
  exact h z nz _ (fun b o q => by rw [upd_ne (ne_of_none q nz)]; exact q) upd_same
theorem sl_to {K : PySem.W.Frag} {Q : VK} {H : Hp} {l : Addr} {vs : List V} {n : Int} {k : Nat} (hl : H l = some (.lst vs)) (e : n = (k : Nat)) (hk : k ≤ vs.length) (h : ∀ z, H z = none → ∀ H', Same H H' → H' z = some (.lst (vs.take k)) → Q (.ref z) H') : rSlL K (.ref l) none (some n) H Q := by
  refine ⟨l, vs, rfl, SqL.of hl, fun z nz => ?_⟩
  rw [e, Cm.cut_to _ _ hk]
  exact h z nz _ (fun b o q => by rw [upd_ne (ne_of_none q nz)]; exact q) upd_same
theorem cat {Q : VK} {H : Hp} {p r : Addr} {xs ys : List V} (hp : H p = some (.lst xs)) (hr : H r = some (.lst ys)) (hl : xs.length + ys.length ≤ sizeLine) (k : ∀ z, H z = none → ∀ H', Same H H' → H' z = some (.lst (xs ++ ys)) → Q (.ref z) H') : rCat (.ref p) (.ref r) H Q :=
  ⟨p, r, xs, ys, rfl, rfl, hp, hr, hl, fun z nz => k z nz _ (fun b o q => by rw [upd_ne (ne_of_none q nz)]; exact q) upd_same⟩
end RpA

/-! laws that hand lambdas to _law_came: what stays, the tables of code -/
namespace My
open PySem L2
def qLam : Str := ("_law_right" : Str) ++ ".<locals>." ++ "<lambda>"
/-- all but the jar and the tables is as it was -/
def OffN (j : Addr) (H H' : Hp) : Prop := ∀ b o, b ≠ j → (∀ ps, o ≠ .tbl ps) → H b = some o → H' b = some o
theorem OffN.refl {j : Addr} {H : Hp} : OffN j H H := fun _ _ _ _ h => h
theorem OffN.trans {j : Addr} {H H1 H2 : Hp} (a : OffN j H H1) (b : OffN j H1 H2) : OffN j H H2 := fun c o n t h => b c o n t (a c o n t h)
theorem Off.offN {j : Addr} {H H' : Hp} (a : Off j H H') : OffN j H H' := fun c o n _ h => a c o n h
theorem extN_off {j : Addr} {H H' : Hp} (a : LamX.ExtN H H') : OffN j H H' := fun c o _ t h => a c o h t
theorem Jar.ext {j : Addr} {H H' : Hp} (h : Jar H j) (a : LamX.ExtN H H') : Jar H' j := by
  obtain ⟨x, y, z, e⟩ := h
  exact ⟨x, y, z, a _ _ e (by intro ps q; cases q)⟩
theorem tabs_off {T : List (Addr × Str)} {j : Addr} {H H' : Hp} (J : Jar H j) (o : Off j H H') (t : LamX.Tabs T H) : LamX.Tabs T H' := fun p hp => by
  obtain ⟨x, y, z, q⟩ := J
  obtain ⟨ps, a1, a2, a3⟩ := t p hp
  refine ⟨ps, o _ _ (fun e => ?_) a1, a2, fun pos cv hcv => ?_⟩
  · rw [e, q] at a1
    cases a1
  · obtain ⟨c, e, h⟩ := a3 pos cv hcv
    refine ⟨c, e, o _ _ (fun e => ?_) h⟩
    rw [e, q] at h
    cases h
def spRight (PR : Addr) : Sp := fun vs H Q _ => ∃ j : Addr, vs = [.ref j] ∧ Jar H j ∧ LamX.Tabs [(PR, qLam)] H ∧ ∀ H', OffN j H H' → LamX.Tabs [(PR, qLam)] H' → Q (.bl true) H'
/-- the state of a law's turns: the jar, the tables -/
structure Ts (PR j : Addr) (H0 H : Hp) : Prop where
  off : OffN j H0 H
  jar : Jar H j
  tab : LamX.Tabs [(PR, qLam)] H
theorem Ts.same {PR j : Addr} {H0 H H' : Hp} (t : Ts PR j H0 H) (s : Same H H') : Ts PR j H0 H' := ⟨t.off.trans (Same.off s).offN, t.jar.same s, t.tab.ext s⟩
theorem Ts.off' {PR j : Addr} {H0 H H' : Hp} (t : Ts PR j H0 H) (o : Off j H H') (J : Jar H' j) : Ts PR j H0 H' := ⟨t.off.trans o.offN, J, tabs_off t.jar o t.tab⟩
theorem Ts.ext {PR j : Addr} {H0 H H' : Hp} (t : Ts PR j H0 H) (o : LamX.ExtN H H') (T : LamX.Tabs [(PR, qLam)] H') : Ts PR j H0 H' := ⟨t.off.trans (extN_off o), t.jar.ext o, T⟩
end My

/-! try with a clause `except (C1, C2) as n` or `except (C1, C2, C3) as n` -/
namespace TryAs
open PySem PySem.Spec PyProof.Rows L2
def wishT (K : PySem.W.Frag) (i : Nat) (out : WX) (D : Ends) (cs : List Value) (ts : Addr → Value → Option Addr → TS) : WX := fun cls d σ H => ∃ yes, PySem.W.exmAny K cls cs = some yes ∧ cond yes (∀ e, H e = none → ts e cls d (bare i D) (σ.set i (some (.ref e))) H) (out cls d σ H)
/-- a tuple of names, and what it gives -/
inductive TupN (X : Cx) : Expr → List Value → Prop
  | two {x1 x2 : Str} {c1 c2 : Value} {p1 p2 tp : Pos} {kk : Nat} : Names X x1 c1 → Names X x2 c2 → TupN X (.Tuple [.Name x1 p1, .Name x2 p2] kk tp) [c1, c2]
  | three {x1 x2 x3 : Str} {c1 c2 c3 : Value} {p1 p2 p3 tp : Pos} {kk : Nat} : Names X x1 c1 → Names X x2 c2 → Names X x3 c3 → TupN X (.Tuple [.Name x1 p1, .Name x2 p2, .Name x3 p3] kk tp) [c1, c2, c3]
section
variable {X : Cx} {n : Str} {i : Nat} {out : WX} {D : Ends} {pins : List (Addr × Obj)} {σ : L2.St} {H : Hp} {sI : Shared} {B : Heap} {e : Addr} {cls : Value} {d : Option Addr}
theorem flyZ_keeps {base : Heap} {l : List Env} {Z : Obj → Prop} {h h' : Heap} (R : HandSPX.FlyingZ base l e Z h) (k : ∀ b o, h.get? b = some o → h'.get? b = some o) : HandSPX.FlyingZ base l e Z h' := by
  obtain ⟨f1, f2, f3, o, vs, T, oT, ts, g1, g2, g3, g4, g5, g6, g7, g8⟩ := R
  exact ⟨fun b o q => k b o (f1 b o q), f2, f3.of_keeps fun b o q _ => ⟨o, k b o q, rfl⟩, o, vs, T, oT, ts, k _ _ g1, g2, g3, g4, g5, g6, k _ _ g7, g8⟩
theorem Down.keeps {h h' : Heap} (Z : Down X pins σ H sI B e cls d h) (k : ∀ b o, h.get? b = some o → h'.get? b = some o) : Down X pins σ H sI B e cls d h' :=
  ⟨Z.J, Z.nb, Z.up.trans (Heap.UpToSlots.of_keeps k), flyZ_keeps Z.fl k, Z.na⟩
theorem runT (hs : X.stack = X.env :: X.outer) (hf : X.env.frame = some X.env.locals) (nd : X.N.Nodup) (hi : X.N[i]? = some n) (ln : X.env.kindOf n = some .local) (tk : Takes X out) {h : Heap} {s : Shared} (Z : Down X pins σ H sI B e cls d h) (os : s.os = sI.os) (ag : AllBare s.gens)
    {te : Expr} {cs : List Value} {st : Stmt} {sts : List Stmt} {p2 : Pos} {ts : Addr → Value → Option Addr → TS} (tn : TupN X te cs)
    (ru : ∀ (e : Addr) (o : Obj) (cls : Value) (d : Option Addr) (pn : List (Addr × Obj)), Zc cls d o → (∃ vs, o.data = .fields vs) → PSs (X.suite e ((e, o) :: pn)) (st :: sts) (ts e cls d)) (w : wishT X.K i out D cs ts cls d σ H) :
    wpAny (model X.prog X.w) X.A (handleBy (.ref e) X.env [.ExceptHandler (some te) (some n) (st :: sts) p2]) (SP X pins D) X.xe { s with heap := h } := by
  obtain ⟨yes, ex, w⟩ := w
  have I3 := Z.here os ag
  obtain ⟨n1, n2⟩ := Z.outside hf
  obtain ⟨o3, v3, g3, z3, f3⟩ := Z.fl.there
  have S3 := I3.suite g3 f3 Z.na n1 n2
  have ty : PySem.W.Looks (model X.prog X.w) h (typeOf (.ref e)) cls := fun _ _ _ _ kk q => wpAny_typeOf_ref (kk _ _ g3) (z3.1.symm ▸ q)
  have look : ∀ {x : Str} {c : Value} {p1 : Pos} {Q E : Value → Shared → Prop}, Names X x c → Q c { s with heap := h } → wpAny (model X.prog X.w) (X.A.mark (some (.ref e))) (eval (.Name x p1) X.env) Q E { s with heap := h } := fun {x c p1 Q E} nm q => by
    obtain ⟨gl, db, m1 | ⟨m1, m2, m3⟩⟩ := nm
    · exact ld_glob (X := X.suite e ((e, o3) :: (X.pn ++ pins))) S3 gl m1 q db
    · exact ld_blt (X := X.suite e ((e, o3) :: (X.pn ++ pins))) S3 gl m1 m2 q m3 db
  -- behind the test
  have test : ∀ {Q : Bool → Shared → Prop} {E : Value → Shared → Prop}, (∀ h' : Heap, (∀ b o, h.get? b = some o → h'.get? b = some o) → Q yes { s with heap := h' }) →
      wpAny (model X.prog X.w) (X.A.mark (some (.ref e))) (eval te X.env) (fun c s1 => wpAny (model X.prog X.w) (X.A.mark (some (.ref e))) (excMatches (.ref e) c) Q E s1) E { s with heap := h } := fun {Q E} q => by
    cases tn with
    | @two x1 x2 c1 c2 p1 p2 tp kk a1 a2 =>
      refine wpAny_Tuple ?_
      refine wpAny_items_cons (look a1 ?_)
      refine wpAny_items_cons (look a2 ?_)
      refine wpAny_items_nil ⟨by size_fits, ?_⟩
      have kp : ∀ b o, h.get? b = some o → (h.push { cls := .type "tuple", data := .seq [c1, c2].toArray }).get? b = some o := fun _ _ z => Heap.get?_push_of_some _ z
      exact (PySem.W.exm_tup2 (I3.kIn.keeps kp) (ty.keeps kp) (Heap.get?_push_size h rfl) ex).here (q _ kp)
    | @three x1 x2 x3 c1 c2 c3 p1 p2 p3 tp kk a1 a2 a3 =>
      refine wpAny_Tuple ?_
      refine wpAny_items_cons (look a1 ?_)
      refine wpAny_items_cons (look a2 ?_)
      refine wpAny_items_cons (look a3 ?_)
      refine wpAny_items_nil ⟨by size_fits, ?_⟩
      have kp : ∀ b o, h.get? b = some o → (h.push { cls := .type "tuple", data := .seq [c1, c2, c3].toArray }).get? b = some o := fun _ _ z => Heap.get?_push_of_some _ z
      exact (PySem.W.exm_tup3 (I3.kIn.keeps kp) (ty.keeps kp) (Heap.get?_push_size h rfl) ex).here (q _ kp)
  refine wpAny_handleBy_cons (codeAny_handlers_test (test fun h' kp => ?_)) fun q => nomatch q
  have Z' := Z.keeps kp
  cases yes with
  | false => exact Z'.on hs hf tk os ag w
  | true =>
    refine codeAny_handlers_suite_as (HandSPX.lands_againZ Z'.fl fun g fl u => ?_)
    have Z4 : Down X pins σ H sI B e cls d g := ⟨Z'.J, Z'.nb, Z'.up.trans u, fl, Z'.na⟩
    have I4 := Z4.here os ag
    obtain ⟨o4, v4, g4, z4, f4⟩ := fl.there
    refine store_ok (X := X.suite e ((e, o4) :: (X.pn ++ pins))) (v := .ref e) (I4.suite g4 f4 Z.na n1 n2) nd hi (.inl ln) rfl (fun s5 S5 => ?_) (.inr ln)
    have run5 := (ru e o4 cls d (X.pn ++ pins) z4 ⟨v4, f4⟩).run [] s5 _ H (bare i D) S5 (w e Z.na)
    refine wpAny_mono run5 (fun fw s6 r6 => ?_) fun _ _ z => z.elim
    have gone : ∀ {σ6 : L2.St} {H6 : Hp} {q : Addr × Obj} {Q : Shared → Prop}, Inv (X.suite e (q :: (X.pn ++ pins))) [] σ6 H6 s6 → (∀ s7, Inv X pins (σ6.set i none) H6 s7 → Q s7) → wpAny (model X.prog X.w) X.A (do bindName X.env n .none; unbindBehindTheSuite X.env n p2) (fun _ s7 => Q s7) X.xe s6 :=
      fun S6 k => gone_ok (S6.unsuite Z.J.ok) nd hi ln k
    match fw, r6 with
    | .next, ⟨σ6, H6, S6, k6⟩ => exact gone S6 fun s7 I7 => ⟨_, _, I7, k6⟩
    | .brk, ⟨σ6, H6, S6, k6⟩ => exact gone S6 fun s7 I7 => ⟨_, _, I7, k6⟩
    | .cont, ⟨σ6, H6, S6, k6⟩ => exact gone S6 fun s7 I7 => ⟨_, _, I7, k6⟩
    | .ret v, ⟨v6, σ6, H6, S6, rv, k6⟩ => exact gone S6 fun s7 I7 => ⟨_, _, _, I7, rv, k6⟩
variable {body : List Stmt} {pos : Pos} {tb : WX → TS} {te : Expr} {cs : List Value} {st : Stmt} {sts : List Stmt} {p2 : Pos} {ts : Addr → Value → Option Addr → TS}
/-- the rule -/
theorem ps_try_asT (hs : X.stack = X.env :: X.outer) (hf : X.env.frame = some X.env.locals) (nd : X.N.Nodup) (hi : X.N[i]? = some n) (ln : X.env.kindOf n = some .local) (tk : Takes X out) (tn : TupN X te cs)
    (hb : ∀ (W : WX) (pn : List (Addr × Obj)) (xe : Value → Shared → Prop), Takes (X.tr pn xe) W → PassesOwn (model X.prog X.w) X.A X.env xe → PSs (X.tr pn xe) body (tb W))
    (ru : ∀ (e : Addr) (o : Obj) (cls : Value) (d : Option Addr) (pn : List (Addr × Obj)), Zc cls d o → (∃ vs, o.data = .fields vs) → PSs (X.suite e ((e, o) :: pn)) (st :: sts) (ts e cls d)) :
    PS X (.Try body [.ExceptHandler (some te) (some n) (st :: sts) p2] [] [] pos) fun D σ H => tb (wishT X.K i out D cs ts) D σ H := by
  refine ⟨fun pins s σ H D I h => wpAny_Try_except ?_⟩
  have fr : X.A.frames = some (X.env :: X.outer) := I.ok.frames.trans (congrArg some hs)
  refine wpAny_mono ((hb _ (X.pn ++ pins) _ ?_ PassesOwn.looking).run [] s σ H D (I.toTry _) h) (fun fw t r => ?_) fun _ _ z => z
  · rintro _ t ⟨e, B, sI, _, σ1, H1, cls, d, rfl, J, nb, up, sky, na, os, ag, w⟩
    refine Sky.land Zc.steady fr hf (hs ▸ sky) fun g fl u => ?_
    exact runT hs hf nd hi ln tk ⟨J.ofTry I.ok, nb, up.trans u, fl, na⟩ os ag tn ru w
  · match fw, r with
    | .next, ⟨_, _, J, q⟩ => exact wpAny_execs_nil ⟨_, _, J.ofTry I.ok, q⟩
    | .brk, ⟨_, _, J, q⟩ => exact ⟨_, _, J.ofTry I.ok, q⟩
    | .cont, ⟨_, _, J, q⟩ => exact ⟨_, _, J.ofTry I.ok, q⟩
    | .ret v, ⟨_, _, _, J, rv, q⟩ => exact ⟨_, _, _, J.ofTry I.ok, rv, q⟩
end
end TryAs

/-! try with a clause `except (C1, C2):` or `except (C1, C2, C3):` without a name -/
namespace TryAs
open PySem PySem.Spec PyProof.Rows L2
def wishN (K : PySem.W.Frag) (out : WX) (D : Ends) (cs : List Value) (ts : Addr → Value → Option Addr → TS) : WX := fun cls d σ H => ∃ yes, PySem.W.exmAny K cls cs = some yes ∧ cond yes (∀ e, H e = none → ts e cls d D σ H) (out cls d σ H)
section
variable {X : Cx} {out : WX} {D : Ends} {pins : List (Addr × Obj)} {σ : L2.St} {H : Hp} {sI : Shared} {B : Heap} {e : Addr} {cls : Value} {d : Option Addr}
theorem runN (hs : X.stack = X.env :: X.outer) (hf : X.env.frame = some X.env.locals) (tk : Takes X out) {h : Heap} {s : Shared} (Z : Down X pins σ H sI B e cls d h) (os : s.os = sI.os) (ag : AllBare s.gens)
    {te : Expr} {cs : List Value} {st : Stmt} {sts : List Stmt} {p2 : Pos} {ts : Addr → Value → Option Addr → TS} (tn : TupN X te cs)
    (ru : ∀ (e : Addr) (o : Obj) (cls : Value) (d : Option Addr) (pn : List (Addr × Obj)), Zc cls d o → (∃ vs, o.data = .fields vs) → PSs (X.suite e ((e, o) :: pn)) (st :: sts) (ts e cls d)) (w : wishN X.K out D cs ts cls d σ H) :
    wpAny (model X.prog X.w) X.A (handleBy (.ref e) X.env [.ExceptHandler (some te) none (st :: sts) p2]) (SP X pins D) X.xe { s with heap := h } := by
  obtain ⟨yes, ex, w⟩ := w
  have I3 := Z.here os ag
  obtain ⟨n1, n2⟩ := Z.outside hf
  obtain ⟨o3, v3, g3, z3, f3⟩ := Z.fl.there
  have S3 := I3.suite g3 f3 Z.na n1 n2
  have ty : PySem.W.Looks (model X.prog X.w) h (typeOf (.ref e)) cls := fun _ _ _ _ kk q => wpAny_typeOf_ref (kk _ _ g3) (z3.1.symm ▸ q)
  have look : ∀ {x : Str} {c : Value} {p1 : Pos} {Q E : Value → Shared → Prop}, Names X x c → Q c { s with heap := h } → wpAny (model X.prog X.w) (X.A.mark (some (.ref e))) (eval (.Name x p1) X.env) Q E { s with heap := h } := fun {x c p1 Q E} nm q => by
    obtain ⟨gl, db, m1 | ⟨m1, m2, m3⟩⟩ := nm
    · exact ld_glob (X := X.suite e ((e, o3) :: (X.pn ++ pins))) S3 gl m1 q db
    · exact ld_blt (X := X.suite e ((e, o3) :: (X.pn ++ pins))) S3 gl m1 m2 q m3 db
  -- behind the test
  have test : ∀ {Q : Bool → Shared → Prop} {E : Value → Shared → Prop}, (∀ h' : Heap, (∀ b o, h.get? b = some o → h'.get? b = some o) → Q yes { s with heap := h' }) →
      wpAny (model X.prog X.w) (X.A.mark (some (.ref e))) (eval te X.env) (fun c s1 => wpAny (model X.prog X.w) (X.A.mark (some (.ref e))) (excMatches (.ref e) c) Q E s1) E { s with heap := h } := fun {Q E} q => by
    cases tn with
    | @two x1 x2 c1 c2 p1 p2 tp kk a1 a2 =>
      refine wpAny_Tuple ?_
      refine wpAny_items_cons (look a1 ?_)
      refine wpAny_items_cons (look a2 ?_)
      refine wpAny_items_nil ⟨by size_fits, ?_⟩
      have kp : ∀ b o, h.get? b = some o → (h.push { cls := .type "tuple", data := .seq [c1, c2].toArray }).get? b = some o := fun _ _ z => Heap.get?_push_of_some _ z
      exact (PySem.W.exm_tup2 (I3.kIn.keeps kp) (ty.keeps kp) (Heap.get?_push_size h rfl) ex).here (q _ kp)
    | @three x1 x2 x3 c1 c2 c3 p1 p2 p3 tp kk a1 a2 a3 =>
      refine wpAny_Tuple ?_
      refine wpAny_items_cons (look a1 ?_)
      refine wpAny_items_cons (look a2 ?_)
      refine wpAny_items_cons (look a3 ?_)
      refine wpAny_items_nil ⟨by size_fits, ?_⟩
      have kp : ∀ b o, h.get? b = some o → (h.push { cls := .type "tuple", data := .seq [c1, c2, c3].toArray }).get? b = some o := fun _ _ z => Heap.get?_push_of_some _ z
      exact (PySem.W.exm_tup3 (I3.kIn.keeps kp) (ty.keeps kp) (Heap.get?_push_size h rfl) ex).here (q _ kp)
  refine wpAny_handleBy_cons (codeAny_handlers_test (test fun h' kp => ?_)) fun q => nomatch q
  have Z' := Z.keeps kp
  cases yes with
  | false => exact Z'.on hs hf tk os ag w
  | true =>
    refine codeAny_handlers_suite (HandSPX.lands_againZ Z'.fl fun g fl u => ?_)
    have Z4 : Down X pins σ H sI B e cls d g := ⟨Z'.J, Z'.nb, Z'.up.trans u, fl, Z'.na⟩
    have I4 := Z4.here os ag
    obtain ⟨o4, v4, g4, z4, f4⟩ := fl.there
    have S4 := I4.suite g4 f4 Z.na n1 n2
    refine wpAny_mono ((ru e o4 cls d (X.pn ++ pins) z4 ⟨v4, f4⟩).run [] _ σ H D S4 (w e Z.na)) (fun fw s6 r6 => ?_) fun _ _ z => z.elim
    match fw, r6 with
    | .next, ⟨σ6, H6, S6, q6⟩ => exact ⟨_, _, S6.unsuite Z.J.ok, q6⟩
    | .brk, ⟨σ6, H6, S6, q6⟩ => exact ⟨_, _, S6.unsuite Z.J.ok, q6⟩
    | .cont, ⟨σ6, H6, S6, q6⟩ => exact ⟨_, _, S6.unsuite Z.J.ok, q6⟩
    | .ret v, ⟨v6, σ6, H6, S6, rv, q6⟩ => exact ⟨_, _, _, S6.unsuite Z.J.ok, rv, q6⟩
variable {body : List Stmt} {pos : Pos} {tb : WX → TS} {te : Expr} {cs : List Value} {st : Stmt} {sts : List Stmt} {p2 : Pos} {ts : Addr → Value → Option Addr → TS}
/-- the rule -/
theorem ps_try_tup (hs : X.stack = X.env :: X.outer) (hf : X.env.frame = some X.env.locals) (tk : Takes X out) (tn : TupN X te cs)
    (hb : ∀ (W : WX) (pn : List (Addr × Obj)) (xe : Value → Shared → Prop), Takes (X.tr pn xe) W → PassesOwn (model X.prog X.w) X.A X.env xe → PSs (X.tr pn xe) body (tb W))
    (ru : ∀ (e : Addr) (o : Obj) (cls : Value) (d : Option Addr) (pn : List (Addr × Obj)), Zc cls d o → (∃ vs, o.data = .fields vs) → PSs (X.suite e ((e, o) :: pn)) (st :: sts) (ts e cls d)) :
    PS X (.Try body [.ExceptHandler (some te) none (st :: sts) p2] [] [] pos) fun D σ H => tb (wishN X.K out D cs ts) D σ H := by
  refine ⟨fun pins s σ H D I h => wpAny_Try_except ?_⟩
  have fr : X.A.frames = some (X.env :: X.outer) := I.ok.frames.trans (congrArg some hs)
  refine wpAny_mono ((hb _ (X.pn ++ pins) _ ?_ PassesOwn.looking).run [] s σ H D (I.toTry _) h) (fun fw t r => ?_) fun _ _ z => z
  · rintro _ t ⟨e, B, sI, _, σ1, H1, cls, d, rfl, J, nb, up, sky, na, os, ag, w⟩
    refine Sky.land Zc.steady fr hf (hs ▸ sky) fun g fl u => ?_
    exact runN hs hf tk ⟨J.ofTry I.ok, nb, up.trans u, fl, na⟩ os ag tn ru w
  · match fw, r with
    | .next, ⟨_, _, J, q⟩ => exact wpAny_execs_nil ⟨_, _, J.ofTry I.ok, q⟩
    | .brk, ⟨_, _, J, q⟩ => exact ⟨_, _, J.ofTry I.ok, q⟩
    | .cont, ⟨_, _, J, q⟩ => exact ⟨_, _, J.ofTry I.ok, q⟩
    | .ret v, ⟨_, _, _, J, rv, q⟩ => exact ⟨_, _, _, J.ofTry I.ok, rv, q⟩
end
end TryAs

/-! what a law's _law_came asks of the classes that it catches -/
namespace CmH
open PySem L2 IsX
theorem ss_imp {X : Cx} {ss : List Stmt} {t t' : L2.TS} (h : PSs X ss t) (f : ∀ D σ H, t' D σ H → t D σ H) : PSs X ss t' := ⟨fun pins s σ H D I q => h.run pins s σ H D I (f _ _ _ q)⟩
/-- an error with a field; CB its own base, bt Python's -/
structure HF (K : PySem.W.Frag) (fld : Str) (bt : String) (C CB : Addr) : Prop where
  x : XiC K C
  n : PySem.W.findIn K (.ref C) fld = some none
  k1 : PySem.W.kitOne K (.ref C) (.ref CB) = some true
  k2 : PySem.W.kitOne K (.ref C) (.type bt) = some true
/-- an error without fields -/
structure HN (K : PySem.W.Frag) (bt : String) (C CB : Addr) : Prop where
  x : ExcC K C
  k1 : PySem.W.kitOne K (.ref C) (.ref CB) = some true
  k2 : PySem.W.kitOne K (.ref C) (.type bt) = some true
def tRowF (D : Addr) (nm fld : Str) (a : Addr) (cls : Value) (d : Option Addr) : L2.TS := fun Z σ H => cls = .ref D ∧ ∃ (dd : Addr) (v : V), d = some dd ∧ H dd = some (.xd [(fld, v)]) ∧ σ[2]? = some (some (.ref a)) ∧ ∀ p, H p = none → Z.rt (.ref p) (upd H p (.lst [.str nm, v, .bl true]))
def tRowN (D : Addr) (nm : Str) (a : Addr) (cls : Value) (d : Option Addr) : L2.TS := fun Z σ H => cls = .ref D ∧ d = none ∧ σ[2]? = some (some (.ref a)) ∧ ∀ p, H p = none → Z.rt (.ref p) (upd H p (.lst [.str nm, .bl true]))
def tGiv : L2.TS := fun D σ H => ∃ u : V, σ[1]? = some (some u) ∧ ∀ p, H p = none → D.rt (.ref p) (upd H p (.lst [.str "given", u]))
end CmH

/-! Console: answer_undo, answer_feed -/
namespace My
open PySem L2 Cm LM EM
abbrev sCnU : Stmt := inClass (top 51) 2
abbrev sCnF : Stmt := inClass (top 51) 3
abbrev sCnS : Stmt := inClass (top 51) 1
abbrev sCnI : Stmt := inClass (top 51) 0
abbrev sEIR : Stmt := inClass (top 8) 0
structure TxCn (K : PySem.W.Frag) (mg : Str → Option Value) where
  E : TxRe K mg
  T : TxCo K mg
  C : Addr
  gC : mg "Console" = some (.ref C)
  cl : Cls K C
  nR : NoAttr K C "reading"
  fI : Addr
  fdI : FuncData
  FI : Fun K "__init__" "Console.__init__" sCnI fI fdI
  bI : Binds K fdI ["self", "loop", "size"] []
  MI : Mk K C fI
  rf : ∃ t, mg "REFUSED" = some (.str "refused" t)
  eR : TxEr K mg "InvalidRow" "value" sEIR "InvalidRow.__init__"
  au : Mt K C "answer_undo" "Console.answer_undo" sCnU ["self"]
  af : Mt K C "answer_feed" "Console.answer_feed" sCnF ["self", "reply"]
  say : Mt K C "say" "Console.say" sCnS ["self", "row"]
  iE : Addr
  sE : Addr
  zE : Addr
  gI : mg "InputError" = some (.ref iE)
  gS : mg "StateError" = some (.ref sE)
  gZ : mg "SizeError" = some (.ref zE)
  xn : PySem.W.exmOne K (.ref E.R.xN.C) (.ref E.R.xN.C) = some true
  xc : PySem.W.exmAny K (.ref E.eC.C) [.ref iE, .ref sE, .ref zE] = some true
  xs : PySem.W.exmAny K (.ref E.R.xS.C) [.ref iE, .ref sE, .ref zE] = some true
  xm : PySem.W.exmAny K (.ref E.xM.C) [.ref iE, .ref sE, .ref zE] = some true
def conf (lv : Addr) : List (Str × V) := [("reading", .ref lv)]
theorem conf_rd (lv : Addr) : (conf lv).lookup ("reading" : Str) = some (.ref lv) := by simp [conf, List.lookup]
/-- a console stands at dk -/
structure ConAt {K : PySem.W.Frag} {mg : Str → Option Value} (T : TxCn K mg) (H : Hp) (dk ddx lv dx lo m : Addr) (sz : Nat) (t : Str) (rr : List (Nat × Bool)) : Prop where
  at_ : H dk = some (.ins T.C ddx (conf lv))
  rd : RdAt T.E.R H lv dx lo m sz t rr
section
variable {P : Program} {w : World} {K : PySem.W.Frag} {mg : Str → Option Value} {base : Heap}
/-! ### answer_undo -/
def spAU (T : TxCn K mg) : Sp := fun vs H Q _ => ∃ (dk ddx lv dx lo m : Addr) (sz : Nat) (t : Str) (rr : List (Nat × Bool)), vs = [.ref dk] ∧ ConAt T H dk ddx lv dx lo m sz t rr ∧
  (rr = [] → Q (.str "refused") H) ∧ ∀ r q, rr = r :: q → ∀ (H' : Hp) (m' : Addr), Off lv H H' → RdAt T.E.R H' lv dx lo m' sz t q → Q (.str "ok") H'
theorem scAU : FnScope ["self"] ["self"] (defScope sCnU) := ⟨rfl, rfl, rfl, by decide +kernel, rfl, by decide +kernel, by decide +kernel⟩
theorem ok_au (T : TxCn K mg) : FnOk P w K mg base CX0 3 T.au.f T.au.fd ["self"] (spAU T) := by
  have GU : FnOk P w K mg base (L2.CX P w) 2 T.E.R.un.f T.E.R.un.fd ["self"] (spRdU T.E.R) := ok_rdu T.E.R
  obtain ⟨tr, mr⟩ := T.rf
  refine T.au.F.ok scAU (fun vs H Q E h => ?_) (fun cdv A outer s H vs Q E hr h => ?_)
  · obtain ⟨dk, _, _, _, _, _, _, _, _, rfl, _⟩ := h
    rfl
  · obtain ⟨dk, ddx, lv, dx, lo, m, sz, t, rr, rfl, hC, k0, k1⟩ := h
    refine ⟨_, pss_cons (ps_try_many (X := (cxOf CX0 P w K mg base ["self"] "Console.answer_undo" (defScope sCnU) T.au.f cdv A outer s H E).nox) (Wout := fun _ _ _ _ => False)
        (tb := fun W D σ H => ∃ (Ech : XK) (dk ddx lv dx : Addr) (fs : List (Str × V)), (∀ cls d σ' H', Ech cls d H' → W cls d σ' H') ∧ σ[0]? = some (some (.ref dk)) ∧ H dk = some (.ins T.C ddx (conf lv)) ∧ H lv = some (.ins T.E.R.CR dx fs) ∧ fs.lookup ("undo" : Str) = none ∧ spRdU T.E.R [.ref lv] H (fun _ H2 => D.nx σ H2) Ech)
        (l := [(.ref T.E.R.xN.C, fun _ _ _ D σ H => D.rt (.str "refused") H)]) rfl rfl LamX.takes0 (fun W pn xe tk _ => ⟨fun pins s2 σ H2 D I ⟨Ech, dk, ddx, lv, dx, fs, hW, h0, h1, h2, h3, h4⟩ => ?_⟩)
        ?hd)
      (pss_one (ps_ret pe_str)), ?_⟩
    case hd =>
      refine .cons ⟨rfl, by decide, .inl T.E.R.xN.g⟩ ?_ .nil
      intro a oe cls d pn _ _
      refine CmH.ss_imp (pss_one (ps_ret (pe_glob (v := .str "refused") rfl mr ⟨_, rfl⟩))) ?_
      exact fun D σ H h => h
    · refine (pss_one (ps_expr (pe_meth0 (E := Ech) (pe_fld (pv 0) rfl) T.E.R.clR T.E.R.un.m GU hr T.E.R.un.b .nil (passes_call tk hW)))).run pins s2 σ H2 D I ?_
      exact ⟨_, h0, dk, T.C, ddx, _, _, rfl, h1, T.cl, T.nR, conf_rd lv, lv, dx, fs, rfl, h2, h3, h4⟩
    · refine ⟨fun cls d H' => cls = .ref T.E.R.xN.C ∧ rr = [] ∧ H' = H, dk, ddx, lv, dx, _, ?_, rfl, hC.at_, hC.rd.at_, rf_n2 .., ?_⟩
      · rintro cls d σ' H' ⟨rfl, hrr, rfl⟩
        exact ⟨true, T.xn, fun _ a na => k0 hrr, fun z => Bool.noConfusion z⟩
      · exact ⟨lv, dx, lo, m, sz, t, rr, rfl, hC.rd, fun h => ⟨rfl, h, rfl⟩, fun r q e H' m' o hR => k1 r q e H' m' o hR⟩
/-! ### answer_feed -/
def spAF (T : TxCn K mg) : Sp := fun vs H Q _ => ∃ (dk ddx lv dx lo m q : Addr) (sz n : Nat) (b : Bool) (t : Str) (rr : List (Nat × Bool)), vs = [.ref dk, .ref q] ∧ H q = some (.tup [.int (n : Nat), .bl b]) ∧ ConAt T H dk ddx lv dx lo m sz t rr ∧
  goodText t = true ∧ 1 ≤ sz ∧ sz ≤ 1000 ∧ rr.length ≤ 100 ∧ OkR sz (ordsR t) (ordsE t) rr ∧ (∀ r ∈ rr, r.1 ≤ sz) ∧
  ((sz < n ∨ (stR sz (ordsR t) (ordsE t) rr).st = true ∨ rr.length = 100) → ∀ H', Same H H' → Q (.str "refused") H') ∧
  (n ≤ sz → (stR sz (ordsR t) (ordsE t) rr).st = false → rr.length < 100 → OrdP (newP sz t rr n b) ∧ (newP sz t rr n b).length + ((newP sz t rr n b).map (·.length)).sum ≤ 500000 ∧ ∀ (H' : Hp) (m' : Addr), Off lv H H' → RdAt T.E.R H' lv dx lo m' sz t ((n, b) :: rr) → Q (.str (CoR.pcT (newP sz t rr n b))) H')
abbrev NAF : List Str := ["self", "reply", "count", "told"]
theorem scAF : FnScope NAF ["self", "reply"] (defScope sCnF) := ⟨rfl, rfl, rfl, by decide +kernel, rfl, by decide +kernel, by decide +kernel⟩
theorem ok_af (T : TxCn K mg) : FnOk P w K mg base CX0 7 T.af.f T.af.fd ["self", "reply"] (spAF T) := by
  have GF : FnOk P w K mg base (L2.CX P w) 6 T.E.R.fe.f T.E.R.fe.fd ["self", "count", "told"] (spFe T.E) := ok_fe T.E
  have GP : FnOk P w K mg base CX0 2 T.T.pt.f T.T.pt.fd ["pieces"] (spPT K) := ok_pt T.T
  obtain ⟨tr, mr⟩ := T.rf
  refine T.af.F.ok scAF (fun vs H Q E h => ?_) (fun cdv A outer s H vs Q E hr h => ?_)
  · obtain ⟨dk, _, _, _, _, _, q, _, _, _, _, _, rfl, _⟩ := h
    rfl
  · obtain ⟨dk, ddx, lv, dx, lo, m, q, sz, n, b, t, rr, rfl, hq, hC, gt, z1, z2, hl, ok, hc, k0, k1⟩ := h
    have hr2 : Room 2 _ := hr.mono (by decide)
    refine ⟨_, pss_cons (ps_asg (pv 1) (pg_tup rfl (pgs_cons (pg_name (i := 2) scAF.nd rfl (.inl rfl)) (pgs_cons (pg_name (i := 3) scAF.nd rfl (.inl rfl)) pgs_nil)))) (pss_one (TryAs.ps_try_tup (X := (cxOf CX0 P w K mg base NAF "Console.answer_feed" (defScope sCnF) T.af.f cdv A outer s H E).nox) (out := fun _ _ _ _ => False) (cs := [.ref T.iE, .ref T.sE, .ref T.zE]) (ts := fun _ _ _ D σ H => D.rt (.str "refused") H)
        (tb := fun W D σ H => ∃ (Ech : XK) (dk ddx lv dx : Addr) (fs : List (Str × V)) (n : Nat) (b : Bool), (∀ cls d σ' H', Ech cls d H' → W cls d σ' H') ∧ σ[0]? = some (some (.ref dk)) ∧ σ[2]? = some (some (.int n)) ∧ σ[3]? = some (some (.bl b)) ∧ H dk = some (.ins T.C ddx (conf lv)) ∧ H lv = some (.ins T.E.R.CR dx fs) ∧ fs.lookup ("feed" : Str) = none ∧ spFe T.E [.ref lv, .int n, .bl b] H (fun v H2 => spPT K [v] H2 D.rt E0) Ech)
        rfl rfl LamX.takes0 (.three ⟨rfl, by decide, .inl T.gI⟩ ⟨rfl, by decide, .inl T.gS⟩ ⟨rfl, by decide, .inl T.gZ⟩) (fun W pn xe tk _ => ⟨fun pins s2 σ H2 D I ⟨Ech, dk, ddx, lv, dx, fs, n, b, hW, h0, h2, h3, h4, h5, h6, h7⟩ => ?_⟩)
        ?hd)), ?_⟩
    case hd =>
      intro a oe cls d pn _ _
      refine CmH.ss_imp (pss_one (ps_ret (pe_glob (v := .str "refused") rfl mr ⟨_, rfl⟩))) ?_
      exact fun D σ H h => h
    · refine' PSs.run (?h : PSs _ _ _) pins s2 σ H2 D I ?r
      case h => exact pss_one (ps_ret (pe_call GP hr2 rfl T.T.pt.g T.T.pt.k T.T.pt.b .nil pass0 (pa_cons (pe_meth (E := Ech) (pe_fld (pv 0) rfl) T.E.R.clR T.E.R.fe.m GF hr T.E.R.fe.b .nil (passes_call tk hW) (pa_cons (pv 2) (pa_cons (pv 3) pa_nil))) pa_nil)))
      exact ⟨_, h0, dk, T.C, ddx, _, _, rfl, h4, T.cl, T.nR, conf_rd lv, lv, dx, fs, rfl, h5, h6, _, h2, _, h3, h7⟩
    · refine ⟨_, rfl, q, _, rfl, SqT.of hq, rfl, _, _, rfl, _, _, rfl, rfl, ?_⟩
      by_cases bad : sz < n ∨ (stR sz (ordsR t) (ordsE t) rr).st = true ∨ rr.length = 100
      · have kk := k0 bad
        refine ⟨fun cls d H' => (cls = .ref T.E.eC.C ∨ cls = .ref T.E.R.xS.C ∨ cls = .ref T.E.xM.C) ∧ Same H H', dk, ddx, lv, dx, _, n, b, ?_, rfl, rfl, rfl, hC.at_, hC.rd.at_, rf_n1 .., .inr ?_⟩
        · rintro cls d σ' H' ⟨hcl, s'⟩
          rcases hcl with rfl | rfl | rfl
          · exact ⟨true, T.xc, fun e ne => kk H' s'⟩
          · exact ⟨true, T.xs, fun e ne => kk H' s'⟩
          · exact ⟨true, T.xm, fun e ne => kk H' s'⟩
        · refine ⟨lv, dx, lo, m, sz, .int n, .bl b, t, rr, rfl, hC.rd, typed_int _, typed_bl _, hl, ?_⟩
          by_cases h1 : n ≤ sz
          · refine .inr ⟨decide_eq_true ⟨by omega, by omega⟩, .inr ⟨rfl, ?_⟩⟩
            cases hs : (stR sz (ordsR t) (ordsE t) rr).st with
            | true => exact .inl ⟨rfl, .inr (.inl rfl), Same.refl _⟩
            | false =>
              refine .inr ⟨rfl, ?_, fun d nd => ⟨.inr (.inr rfl), same_new nd⟩⟩
              rcases bad with z | z | z
              · omega
              · rw [hs] at z; cases z
              · exact z
          · exact .inl ⟨decide_eq_false (fun z => by omega), fun d nd => ⟨.inl rfl, same_new nd⟩⟩
      · have b1 : n ≤ sz := Nat.le_of_not_lt fun z => bad (.inl z)
        have b2 : (stR sz (ordsR t) (ordsE t) rr).st = false := by
          cases hs : (stR sz (ordsR t) (ordsE t) rr).st with
          | true => exact absurd (.inr (.inl hs)) bad
          | false => rfl
        have b3 : rr.length < 100 := Nat.lt_of_le_of_ne hl fun z => bad (.inr (.inr z))
        obtain ⟨oP, sP, kk⟩ := k1 b1 b2 b3
        refine ⟨fun _ _ _ => False, dk, ddx, lv, dx, _, n, b, fun _ _ _ _ z => z.elim, rfl, rfl, rfl, hC.at_, hC.rd.at_, rf_n1 .., .inl ?_⟩
        refine ⟨lv, dx, lo, m, sz, n, b, t, rr, rfl, hC.rd, gt, z1, z2, b1, b3, ok, hc, fun z => absurd (b2.symm.trans z) (by decide), fun _ H' m' p hs o hR np hp hP => ?_⟩
        refine ⟨p, hs, _, rfl, hp, hP, oP, sP, fun H2 s2 => ?_⟩
        exact kk H2 m' (fun x u nx e => s2 _ _ (o x u nx e)) (hR.same s2)
end
end My

/-! Console.say -/
namespace My
open PySem L2 Cm LM EM
theorem scEIR : FnScope ["self", "value"] ["self", "value"] (defScope sEIR) := ⟨rfl, rfl, rfl, by decide +kernel, rfl, by decide +kernel, by decide +kernel⟩
theorem ok_eir {P : Program} {w : World} {K : PySem.W.Frag} {mg : Str → Option Value} {base : Heap} (T : TxEr K mg "InvalidRow" "value" sEIR "InvalidRow.__init__") : FnOk P w K mg base CX0 1 T.f T.fd ["self", "value"] (spER "value" T.C) := by
  refine T.F.ok scEIR (fun vs H Q E h => ?_) (fun cdv A outer s H vs Q E hr h => ?_)
  · obtain ⟨a, v, rfl, _⟩ := h
    rfl
  · obtain ⟨a, v, rfl, ha, k⟩ := h
    exact ⟨_, pss_one (ps_ost (pv 0) (pv 1)), _, rfl, _, rfl, a, T.C, rfl, T.o, T.n, .inl ⟨ha, fun dx n ne => k dx n ne⟩⟩
section
variable {P : Program} {w : World} {K : PySem.W.Frag} {mg : Str → Option Value} {base : Heap}
/-- what a console answers to a text -/
def SayX (T : TxCn K mg) (dk ddx lv dx lo m : Addr) (sz : Nat) (t : Str) (rr : List (Nat × Bool)) (x : Str) (H : Hp) (Q : VK) (E : XK) : Prop :=
  (x = "undo" ∧ spAU T [.ref dk] H Q E0) ∨
  (x = "rest" ∧ CoR.Ord (stR sz (ordsR t) (ordsE t) rr).x.rest ∧ (stR sz (ordsR t) (ordsE t) rr).x.rest.length ≤ 500000 ∧ ∀ H', Same H H' → Q (.str (CoR.itT (stR sz (ordsR t) (ordsE t) rr).x.rest)) H') ∨
  (x = "state" ∧ Q (.str (if (stR sz (ordsR t) (ordsE t) rr).st = true then "stopped" else "open")) H) ∨
  (x ≠ "undo" ∧ x ≠ "rest" ∧ x ≠ "state" ∧ (CoR.replyL (TL.tl x) = none → ∀ d, H d = none → E (.ref T.eR.C) (some d) (upd H d (.xd [("value", .str x)]))) ∧
    ∀ n b, CoR.replyL (TL.tl x) = some (n, b) → ∀ (H' : Hp) (q : Addr), Same H H' → H' q = some (.tup [.int (n : Nat), .bl b]) → spAF T [.ref dk, .ref q] H' Q E0)
def spSy (T : TxCn K mg) : Sp := fun vs H Q E => ∃ (dk ddx lv dx lo m : Addr) (sz : Nat) (t : Str) (rr : List (Nat × Bool)) (v : V), vs = [.ref dk, v] ∧ ConAt T H dk ddx lv dx lo m sz t rr ∧
  ((∃ ty, TyX K H v ty ∧ PySem.W.kitOne K ty (.type "str") = some false ∧ ∀ d, H d = none → E (.ref T.eR.C) (some d) (upd H d (.xd [("value", v)]))) ∨
   ∃ x : Str, v = .str x ∧ x.length ≤ 640 ∧ SayX T dk ddx lv dx lo m sz t rr x H Q E)
theorem scSy : FnScope ["self", "row", "reply"] ["self", "row"] (defScope sCnS) := ⟨rfl, rfl, rfl, by decide +kernel, rfl, by decide +kernel, by decide +kernel⟩
theorem ok_sy (T : TxCn K mg) : FnOk P w K mg base (L2.CX P w) 8 T.say.f T.say.fd ["self", "row"] (spSy T) := by
  have GU : FnOk P w K mg base CX0 3 T.au.f T.au.fd ["self"] (spAU T) := ok_au T
  have GA : FnOk P w K mg base CX0 7 T.af.f T.af.fd ["self", "reply"] (spAF T) := ok_af T
  have GR : FnOk P w K mg base CX0 2 T.T.ro.f T.T.ro.fd ["row"] spRO := ok_ro T.T
  have GI : FnOk P w K mg base CX0 1 T.T.it.f T.T.it.fd ["items"] (spIT K) := ok_it T.T
  have GK : FnOk P w K mg base CX0 1 T.E.R.pK.f T.E.R.pK.fd ["self"] (spRd T.E.R fun _ _ k _ => .ref k) := ok_rdk T.E.R
  have GO : FnOk P w K mg base CX0 1 T.E.R.pO.f T.E.R.pO.fd ["self"] (spRd T.E.R fun _ _ _ ov => .bl ov) := ok_rdo T.E.R
  have GE : FnOk P w K mg base CX0 1 T.eR.f T.eR.fd ["self", "value"] (spER "value" T.eR.C) := ok_eir T.eR
  refine T.say.F.okX scSy (fun vs H Q E h => ?_) (fun cdv A outer s H vs Q E hr h => ?_)
  · obtain ⟨dk, _, _, _, _, _, _, _, _, v, rfl, _⟩ := h
    rfl
  · obtain ⟨dk, ddx, lv, dx, lo, m, sz, t, rr, v, rfl, hC, hv⟩ := h
    have hr1 : Room 1 _ := hr.mono (by decide)
    have hr2 : Room 2 _ := hr.mono (by decide)
    have hr3 : Room 3 _ := hr.mono (by decide)
    refine ⟨_, (pss_cons (ps_if (pt_not (pt_val (pe_callB call_isi (by rfl) T.E.R.N.k.isi (by decide +kernel) (pa_cons (pv 1) (pa_cons (pe_bltn (v := .ty "str") (by rfl) T.T.str (by decide +kernel) rfl) pa_nil))))) (pss_one (ps_raise rfl (takes_of rfl rfl rfl rfl) (pmk_oex T.eR.o T.eR.i T.eR.t GE hr2 T.eR.b .nil pass0 rfl T.eR.g (pa_cons (pv 1) pa_nil)))) pss_nil) (pss_cons (ps_if (pt_cmpR op_eq (pv 1) pe_str (nomark _)) (pss_one (ps_ret (pe_meth0 (pv 0) T.cl T.au.m GU hr3 T.au.b .nil pass0))) pss_nil) (pss_cons (ps_if (pt_cmpR op_eq (pv 1) pe_str (nomark _)) (pss_one (ps_ret (pe_call GI hr1 rfl T.T.it.g T.T.it.k T.T.it.b .nil pass0 (pa_cons (pe_prop (pe_fld (pv 0) rfl) T.E.R.clR T.E.R.pK.o GK hr2 T.E.R.pK.b .nil pass0 (by rfl)) pa_nil)))) pss_nil) (pss_cons (ps_if (pt_cmpR op_eq (pv 1) pe_str (nomark _)) (pss_one (ps_ret (pe_ifExp (pt_val (pe_prop (pe_fld (pv 0) rfl) T.E.R.clR T.E.R.pO.o GO hr2 T.E.R.pO.b .nil pass0 (by rfl))) pe_str pe_str))) pss_nil) (pss_cons (ps_set (i := 2) scSy.nd rfl (.inl rfl) (pe_call GR hr2 rfl T.T.ro.g T.T.ro.k T.T.ro.b .nil pass0 (pa_cons (pv 1) pa_nil))) (pss_cons (ps_if (pt_cmpR op_isN (pv 2) pe_non (nomark _)) (pss_one (ps_raise rfl (takes_of rfl rfl rfl rfl) (pmk_oex T.eR.o T.eR.i T.eR.t GE hr2 T.eR.b .nil pass0 rfl T.eR.g (pa_cons (pv 1) pa_nil)))) pss_nil) (pss_one (ps_ret (pe_meth (pv 0) T.cl T.af.m GA hr T.af.b .nil pass0 (pa_cons (pv 2) pa_nil)))))))))), ?_⟩
    have noU : (conf lv).lookup ("answer_undo" : Str) = none := by
      have e : (("answer_undo" : Str) == "reading") = false := by decide +kernel
      simp [conf, List.lookup, e]
    have noF : (conf lv).lookup ("answer_feed" : Str) = none := by
      have e : (("answer_feed" : Str) == "reading") = false := by decide +kernel
      simp [conf, List.lookup, e]
    obtain ⟨dm, g, h, kk, b0, hm, hMs, _⟩ := hC.rd.mo.head
    obtain ⟨gs, hs, hg, hRp, hh, hPc, hk⟩ := id hMs
    rcases hv with ⟨ty, h1, h2, kE⟩ | ⟨x, rfl, hl, sx⟩
    · refine ⟨_, rfl, _, _, _, _, false, rfl, .ty "str", h1, h2, _, rfl, iteT ?_⟩
      exact mk_er (x := v) ⟨v, rfl, rfl, rfl⟩ (fun {R R'} ⟨v, e1, q⟩ f => ⟨v, e1, f _ _ q⟩) kE
    refine ⟨_, rfl, _, _, _, _, true, rfl, .ty "str", .base (.str x), kit_ty (show kitB "str" "str" = some true by decide +kernel), _, rfl, iteF ?_⟩
    have eU : ∀ y : Str, decide (V.str x = V.str y) = decide (x = y) := fun y => decide_eq_decide.mpr ⟨fun h => by injection h, fun h => by rw [h]⟩
    refine ⟨_, rfl, rfl, _, rfl, ?_⟩
    rw [eU]
    rcases sx with ⟨ex, k⟩ | ⟨ex, o1, o2, k⟩ | ⟨ex, k⟩ | ⟨n1, n2, n3, k0, k1⟩
    · rw [decide_eq_true ex]
      exact iteT ⟨_, rfl, dk, ddx, _, rfl, hC.at_, noU, k⟩
    · rw [show decide (x = "undo") = false by rw [ex]; decide +kernel]
      refine iteF ⟨_, rfl, rfl, _, rfl, ?_⟩
      rw [eU, decide_eq_true ex]
      exact iteT ⟨_, rfl, dk, T.C, ddx, _, _, rfl, hC.at_, T.cl, T.nR, conf_rd lv, lv, dx, _, rfl, hC.rd.at_, lv, dx, lo, m, dm, g, h, kk, sz, false, b0, _, rfl, hC.rd.at_, hm, kk, _, rfl, hk, o1, o2, k⟩
    · rw [show decide (x = "undo") = false by rw [ex]; decide +kernel]
      refine iteF ⟨_, rfl, rfl, _, rfl, ?_⟩
      rw [eU, show decide (x = "rest") = false by rw [ex]; decide +kernel]
      refine iteF ⟨_, rfl, rfl, _, rfl, ?_⟩
      rw [eU, decide_eq_true ex]
      refine iteT ⟨_, rfl, dk, T.C, ddx, _, _, rfl, hC.at_, T.cl, T.nR, conf_rd lv, lv, dx, _, rfl, hC.rd.at_, lv, dx, lo, m, dm, g, h, kk, sz, false, b0, _, rfl, hC.rd.at_, hm, _, rfl, ?_⟩
      cases hst : (stR sz (ordsR t) (ordsE t) rr).st with
      | true =>
        rw [hst, if_pos rfl] at k
        exact iteT k
      | false =>
        rw [hst, if_neg (by decide)] at k
        exact iteF k
    · rw [decide_eq_false n1]
      refine iteF ⟨_, rfl, rfl, _, rfl, ?_⟩
      rw [eU, decide_eq_false n2]
      refine iteF ⟨_, rfl, rfl, _, rfl, ?_⟩
      rw [eU, decide_eq_false n3]
      refine iteF ⟨_, rfl, x, rfl, hl, fun hn => ?_, fun n b hrp H' q s' hq => ?_⟩
      · refine ⟨_, rfl, rfl, _, rfl, iteT ?_⟩
        exact mk_er (x := .str x) ⟨.str x, rfl, rfl, rfl⟩ (fun {R R'} ⟨v, e1, q⟩ f => ⟨v, e1, f _ _ q⟩) (k0 hn)
      · exact ⟨_, rfl, rfl, _, rfl, iteF ⟨_, rfl, dk, ddx, _, rfl, s' _ _ hC.at_, noF, _, rfl, k1 n b hrp H' q s' hq⟩⟩
end
end My

/-! the loops that the law draws -/
namespace My
open PySem L2 Cm LM
abbrev sWords : Stmt := top 56
abbrev sLoop : Stmt := top 57
abbrev sLine : Stmt := top 58
structure TxD (K : PySem.W.Frag) (mg : Str → Option Value) where
  J : TxtJ mg
  range : mg "range" = none
  sip : Df K mg "_law_sip" sSip ["_law_jar_here", "_law_many"]
  frm : Df K mg "_law_from" sFrom ["_law_jar_here", "_law_things"]
  wds : Df K mg "_law_words" sWords ["_law_jar_here", "_law_steps", "_law_many"]
  lop : Df K mg "_law_loop" sLoop ["_law_jar_here", "_law_most"]
  lin : Df K mg "_law_line" sLine ["_law_begun", "_law_ended"]
section
variable {P : Program} {w : World} {K : PySem.W.Frag} {mg : Str → Option Value} {base : Heap}
theorem gk_sip (D : TxD K mg) : FnOk P w K mg base CX0 1 D.sip.f D.sip.fd ["_law_jar_here", "_law_many"] spSip := ok_sip D.sip.F D.J
theorem gk_from (D : TxD K mg) : FnOk P w K mg base CX0 2 D.frm.f D.frm.fd ["_law_jar_here", "_law_things"] (spFrom K) := ok_from D.frm.F D.J ⟨D.sip.g, D.sip.k⟩ D.sip.F D.sip.b
/-! ### _law_words -/
def spWords (K : PySem.W.Frag) : Sp := fun vs H Q _ => ∃ (j p : Addr) (ss : List Str) (m : Nat), vs = [.ref j, .ref p, .int m] ∧ Jar H j ∧ p ≠ j ∧ SqL K H p (svs ss) ∧ 0 < ss.length ∧ ss.length ≤ 1000 ∧ (∀ s ∈ ss, s.length ≤ 100) ∧ m ≤ 100 ∧
  ∀ (H' : Hp) (q : Addr) (ws : List Str), Off j H H' → Jar H' j → H q = none → H' q = some (.lst (svs ws)) → ws.length = m → (∀ w ∈ ws, Wd ss w) → Q (.ref q) H'
theorem scWords : FnScope ["_law_jar_here", "_law_steps", "_law_many", "_law_tests", "_law_found", "_law_turn", "_law_word_here"] ["_law_jar_here", "_law_steps", "_law_many"] (defScope sWords) := ⟨rfl, rfl, rfl, by decide +kernel, rfl, by decide +kernel, by decide +kernel⟩
/-- any answer, after some draws -/
def tAny (i : Nat) : TT := fun σ H Q => ∃ (j : Addr) (x : Str), σ[0]? = some (some (.ref j)) ∧ σ[i]? = some (some (.str x)) ∧ Jar H j ∧ ∀ (b : Bool) (H' : Hp), Off j H H' → Jar H' j → Q b H'
theorem ok_words (D : TxD K mg) : FnOk P w K mg base CX0 3 D.wds.f D.wds.fd ["_law_jar_here", "_law_steps", "_law_many"] (spWords K) := by
  have GS : FnOk P w K mg base CX0 1 D.sip.f D.sip.fd ["_law_jar_here", "_law_many"] spSip := gk_sip D
  have GF : FnOk P w K mg base CX0 2 D.frm.f D.frm.fd ["_law_jar_here", "_law_things"] (spFrom K) := gk_from D
  refine D.wds.F.ok scWords (fun vs H Q E h => ?_) (fun cdv A outer s H vs Q E hr h => ?_)
  · obtain ⟨j, p, ss, m, rfl, _⟩ := h
    rfl
  · obtain ⟨j, p, ss, m, rfl, hJ, npj, hp, l0, l1, lw, hm, k⟩ := h
    have hr1 : Room 1 _ := hr.mono (by decide)
    refine ⟨_, pss_cons (ps_set (i := 3) scWords.nd rfl (.inl rfl) (pe_lst (pa_cons pe_str (pa_cons pe_str (pa_cons pe_str (pa_cons pe_str (pa_cons pe_str (pa_cons pe_str (pa_cons pe_str (pa_cons pe_str pa_nil))))))))))
      (pss_cons (ps_set (i := 4) scWords.nd rfl (.inl rfl) (pe_lst pa_nil))
      (pss_cons (ps_for PassesOwn.never rfl (pi_range1 rfl D.range (pa_cons (pv 2) pa_nil)) (pg_name (i := 5) scWords.nd rfl (Or.inl rfl))
        (pss_cons (ps_set (i := 6) scWords.nd rfl (.inl rfl) (pe_call GF hr rfl D.frm.g D.frm.k D.frm.b .nil pass0 (pa_cons (pv 0) (pa_cons (pv 1) pa_nil))))
        (C8.pss_cut (ps_if (pt_imp (t' := tAny 6) (PW.pt (pw_or (PW.pt (pw_and (pt_cmpR op_in_seq (pv 6) (pe_lst (pa_cons pe_str (pa_cons pe_str pa_nil))) (by rfl)) (pw_and1 (pt_cmpR op_gt (pe_call GS hr1 rfl D.sip.g D.sip.k D.sip.b .nil pass0 (pa_cons (pv 0) (pa_cons pe_int pa_nil))) pe_int (nomark _)))))
            (pw_or1 (pt_cmpR op_eq (pe_call GS hr1 rfl D.sip.g D.sip.k D.sip.b .nil pass0 (pa_cons (pv 0) (pa_cons pe_int pa_nil))) pe_int (nomark _))))) ?imp)
          (pss_one (ps_set (i := 6) scWords.nd rfl (.inl rfl) (pe_op op_add_str (pe_op op_add_str (pe_call GF hr rfl D.frm.g D.frm.k D.frm.b .nil pass0 (pa_cons (pv 0) (pa_cons (pv 3) pa_nil))) pe_str) (pv 6)))) pss_nil)
        (pss_one (ps_expr (pe_bm PySem.F.plainAttrs_list PySem.F.slot_list_append PySem.F.type_list_append mt_append (pv 4) (pa_cons (pv 6) pa_nil)))))))
      (pss_one (ps_ret (pv 4))))), ?_⟩
    case imp =>
      rintro σ H1 Q1 ⟨j1, x, h0, h6, J1, q⟩
      refine ⟨_, h6, (by show 2 ≤ sizeLine; decide), fun l nl => ?_⟩
      have third : ∀ H2, Off j1 H1 H2 → Jar H2 j1 → tTest (tOp rEq (tCall spSip [] E (tCons (tVar 0) (tCons (tC (.int 3)) tNil))) (tC (.int 0))) σ H2 Q1 := fun H2 o2 J2 =>
        ⟨_, h0, j1, 3, rfl, J2, by decide, by decide, fun H3 d _ _ o3 J3 => ⟨rfl, _, rfl, q _ _ (o2.trans o3) J3⟩⟩
      refine ⟨l, [.str "stop", .str "again"], rfl, .inl (SqL.of upd_same), rfl, rfl, _, rfl, ?_⟩
      have oN : Off j1 H1 (upd H1 l (.lst [.str "stop", .str "again"])) := Off.new Off.refl nl
      have JN := J1.new (o := .lst [.str "stop", .str "again"]) nl
      refine ite2 (fun _ => ?_) (fun _ => ?_)
      · refine ⟨_, h0, j1, 5, rfl, JN, by decide, by decide, fun H3 d _ _ o3 J3 => ⟨_, _, rfl, rfl, _, rfl, ?_⟩⟩
        refine ite2 (fun _ => ?_) (fun _ => ?_)
        · exact q _ _ (oN.trans o3) J3
        · exact third _ (oN.trans o3) J3
      · exact iteF (third _ oN JN)
    refine ⟨(by show 8 ≤ sizeLine; decide), fun t nt => ?_⟩
    refine ⟨Nat.zero_le _, fun q nq => ?_⟩
    have s0 : Same H (upd (upd H t (.lst (svs tests))) q (.lst [])) := Same.trans (same_new nt) (same_new nq)
    have ht : (upd (upd H t (.lst (svs tests))) q (.lst [])) t = some (.lst (svs tests)) := same_new nq _ _ upd_same
    have hq : (upd (upd H t (.lst (svs tests))) q (.lst [])) q = some (.lst (svs [])) := upd_same
    have nq0 : H q = none := (same_new nt).free nq
    have tq : t ≠ q := fun z => by rw [z, upd_same] at nq; cases nq
    have tj := jar_ne hJ nt
    have qj := jar_ne hJ nq0
    show tSeq _ _ _ _ (upd (upd H t (.lst (svs tests))) q (.lst []))
    generalize upd (upd H t (.lst (svs tests))) q (.lst []) = H1 at s0 ht hq ⊢
    refine ⟨_, rfl, m, rfl, by omega, by omega, for_range (lo := 0) (n := ((m : Int)).toNat) (fun i σ H' => ∃ (v5 v6 : Option V) (ws : List Str), σ = [some (.ref j), some (.ref p), some (.int m), some (.ref t), some (.ref q), v5, v6] ∧ Off j H H' ∧ Jar H' j ∧ H' t = some (.lst (svs tests)) ∧ H' q = some (.lst (svs ws)) ∧ ws.length = i ∧ ∀ w ∈ ws, Wd ss w)
      ⟨none, none, [], rfl, Same.off s0, hJ.same s0, ht, hq, rfl, fun w hw => nomatch hw⟩ ?_ ?_⟩
    · rintro i σ H' hi ⟨v5, v6, ws, rfl, o, J, ht', hq', lws, hws⟩
      refine ⟨_, rfl, _, rfl, j, p, svs ss, rfl, J, npj, o.seq npj hp, by rw [svs, List.length_map]; exact l0, by rw [svs, List.length_map]; omega, fun H2 n x hx o2 J2 => ?_⟩
      obtain ⟨z, hz, rfl⟩ := svs_get hx
      have zm : z ∈ ss := List.mem_of_getElem? hz
      refine ⟨fun σ H' => ∃ w, σ = [some (.ref j), some (.ref p), some (.int m), some (.ref t), some (.ref q), some (.int (0 + (i : Int))), some (.str w)] ∧ Off j H H' ∧ Jar H' j ∧ H' t = some (.lst (svs tests)) ∧ H' q = some (.lst (svs ws)) ∧ Wd ss w, ?_, ?_⟩
      · refine ⟨j, z, rfl, rfl, J2, fun b H3 o3 J3 => ?_⟩
        have o13 := (o.trans o2).trans o3
        have ht3 := o3 _ _ tj (o2 _ _ tj ht')
        have hq3 := o3 _ _ qj (o2 _ _ qj hq')
        cases b with
        | false => exact iteF ⟨z, rfl, o13, J3, ht3, hq3, z, zm, .inl rfl⟩
        | true =>
          refine iteT ?_
          refine ⟨_, rfl, _, rfl, j, t, svs tests, rfl, J3, tj, SqL.of ht3, by decide, by decide, fun H4 n4 x4 hx4 o4 J4 => ?_⟩
          obtain ⟨y, hy, rfl⟩ := svs_get hx4
          have ym : y ∈ tests := List.mem_of_getElem? hy
          have yl : y.length ≤ 5 := (show ∀ y ∈ tests, y.length ≤ 5 by decide +kernel) y ym
          have zl := lw z zm
          have c1 : (":" : Str).length = 1 := by decide +kernel
          refine ⟨_, _, rfl, rfl, szl (n := y.length + (":" : Str).length) (by omega), _, rfl, _, _, rfl, rfl, szl (n := (y ++ ":").length + z.length) (by rw [strLen_append]; omega), ?_⟩
          exact ⟨y ++ ":" ++ z, rfl, o13.trans o4, J4, o4 _ _ tj ht3, o4 _ _ qj hq3, z, zm, .inr ⟨y, ym, rfl⟩⟩
      rintro _ H3 ⟨wd, rfl, o3, J3, ht3, hq3, hwd⟩
      refine ⟨_, rfl, .inl ⟨rfl, _, SqL.of hq3⟩, _, rfl, q, _, _, rfl, rfl, hq3, small1000 (by rw [svs, List.length_map]; omega), ?_⟩
      refine ⟨_, _, ws ++ [wd], rfl, o3.put2 nq0, J3.put qj, ?_, ?_, ?_, fun w hw => ?_⟩
      · rw [upd_ne tq]
        exact ht3
      · rw [upd_same]
        simp [svs]
      · rw [List.length_append, lws]
        rfl
      · rcases List.mem_append.mp hw with hw | hw
        · exact hws w hw
        · rw [List.mem_singleton.mp hw]
          exact hwd
    · rintro σ H' ⟨v5, v6, ws, rfl, o, J, ht', hq', lws, hws⟩
      refine ⟨_, rfl, ?_⟩
      exact k H' q ws o J nq0 hq' (by simpa using lws) hws
end
end My

namespace My
open PySem L2 Cm LM
theorem Off.free {j p : Addr} {H H' : Hp} (o : Off j H H') (J : Jar H' j) (n : H' p = none) : H p = none := by
  cases e : H p with
  | none => rfl
  | some u =>
    have := o p u (jar_ne J n) e
    rw [n] at this
    cases this
theorem svs_len' (ws : List Str) : (svs ws).length = ws.length := List.length_map ..
theorem svs_app (a b : List Str) : svs a ++ svs b = svs (a ++ b) := by simp [svs]
theorem svs_take (a : List Str) (n : Nat) : (svs a).take n = svs (a.take n) := by simp [svs, List.map_take]
theorem svs_drop (a : List Str) (n : Nat) : (svs a).drop n = svs (a.drop n) := by simp [svs, List.map_drop]
section
variable {P : Program} {w : World} {K : PySem.W.Frag} {mg : Str → Option Value} {base : Heap}
/-- two lists that make a loop -/
structure Two (j : Addr) (H H' : Hp) (a b : Addr) (B E : List Str) (m : Nat) : Prop where
  o : Off j H H'
  J : Jar H' j
  na : H a = none
  nb : H b = none
  ha : H' a = some (.lst (svs B))
  hb : H' b = some (.lst (svs E))
  rB : isRound B = true
  rE : isEnding E = true
  lB : B.length ≤ m
  lE : E.length ≤ 2
def spLoop : Sp := fun vs H Q _ => ∃ (j : Addr) (m : Nat), vs = [.ref j, .int m] ∧ Jar H j ∧ 4 ≤ m ∧ m ≤ 11 ∧
  ∀ (H' : Hp) (p a b : Addr) (B E : List Str), Two j H H' a b B E (m + 1) → H' p = some (.tup [.ref a, .ref b]) → Q (.ref p) H'
theorem scLoop : FnScope ["_law_jar_here", "_law_most", "_law_some", "_law_parts", "_law_begun", "_law_ended", "_law_at"] ["_law_jar_here", "_law_most"] (defScope sLoop) := ⟨rfl, rfl, rfl, by decide +kernel, rfl, by decide +kernel, by decide +kernel⟩
theorem len_samples : (svs samples).length = 10 := by decide +kernel
theorem ok_loop (D : TxD K mg) : FnOk P w K mg base CX0 4 D.lop.f D.lop.fd ["_law_jar_here", "_law_most"] spLoop := by
  have GS : FnOk P w K mg base CX0 1 D.sip.f D.sip.fd ["_law_jar_here", "_law_many"] spSip := gk_sip D
  have GF : FnOk P w K mg base CX0 2 D.frm.f D.frm.fd ["_law_jar_here", "_law_things"] (spFrom K) := gk_from D
  have GW : FnOk P w K mg base CX0 3 D.wds.f D.wds.fd ["_law_jar_here", "_law_steps", "_law_many"] (spWords K) := ok_words D
  refine D.lop.F.ok scLoop (fun vs H Q E h => ?_) (fun cdv A outer s H vs Q E hr h => ?_)
  · obtain ⟨j, m, rfl, _⟩ := h
    rfl
  · obtain ⟨j, m, rfl, hJ, m0, m1, k⟩ := h
    have hr1 : Room 1 _ := hr.mono (by decide)
    have hr2 : Room 2 _ := hr.mono (by decide)
    refine ⟨_, pss_cons (ps_set (i := 2) scLoop.nd rfl (.inl rfl) (pe_lst (pa_cons pe_str (pa_cons pe_str (pa_cons pe_str (pa_cons pe_str pa_nil))))))
      (pss_cons (ps_set (i := 2) scLoop.nd rfl (.inl rfl) (pe_op op_cat (pv 2) (pe_lst (pa_cons pe_str (pa_cons pe_str (pa_cons pe_str pa_nil))))))
      (pss_cons (ps_set (i := 2) scLoop.nd rfl (.inl rfl) (pe_op op_cat (pv 2) (pe_lst (pa_cons pe_str (pa_cons pe_str pa_nil)))))
      (C8.pss_cut (ps_expr (pe_bm PySem.F.plainAttrs_list PySem.F.slot_list_append PySem.F.type_list_append mt_append (pv 2) (pa_cons pe_str pa_nil)))
      (pss_cons (ps_if (pt_cmpR op_eq (pe_call GS hr1 rfl D.sip.g D.sip.k D.sip.b .nil pass0 (pa_cons (pv 0) (pa_cons pe_int pa_nil))) pe_int (nomark _))
        (pss_cons (ps_set (i := 3) scLoop.nd rfl (.inl rfl) (pe_split (pe_call GF hr2 rfl D.frm.g D.frm.k D.frm.b .nil pass0 (pa_cons (pv 0) (pa_cons (pv 2) pa_nil))) pe_str))
        (pss_cons (ps_par (i := 4) (j := 5) rfl scLoop.nd rfl rfl (by decide) rfl rfl (pa_cons (pe_split (pe_ix ix_list (pv 3) pe_int (fun _ _ => rfl)) pe_str) (pa_cons (pe_lst pa_nil) pa_nil)) (by rfl))
        (C8.pss_cut (ps_if (pt_cmpR op_gt (pe_callB call_len_seq (by rfl) D.J.len PySem.boot_len (pa_cons (pv 3) pa_nil)) pe_int (nomark _)) (pss_one (ps_set (i := 5) scLoop.nd rfl (.inl rfl) (pe_split (pe_ix ix_list (pv 3) pe_int (fun _ _ => rfl)) pe_str))) pss_nil)
        (C8.pss_cut (ps_if (pt_cmpR op_eq (pe_call GS hr1 rfl D.sip.g D.sip.k D.sip.b .nil pass0 (pa_cons (pv 0) (pa_cons pe_int pa_nil))) pe_int (nomark _))
          (pss_cons (ps_set (i := 6) scLoop.nd rfl (.inl rfl) (pe_op op_add pe_int (pe_call GS hr1 rfl D.sip.g D.sip.k D.sip.b .nil pass0 (pa_cons (pv 0) (pa_cons (pe_callB call_len_seq (by rfl) D.J.len PySem.boot_len (pa_cons (pv 4) pa_nil)) pa_nil)))))
          (pss_one (ps_set (i := 4) scLoop.nd rfl (.inl rfl) (pe_op op_cat (pe_op op_cat (pe_slice sl_list (pv 4) po_none (po_some (pv 6))) (pe_call GW hr rfl D.wds.g D.wds.k D.wds.b .nil pass0 (pa_cons (pv 0) (pa_cons (pe_lst (pa_cons pe_str (pa_cons pe_str (pa_cons pe_str (pa_cons pe_str (pa_cons pe_str pa_nil)))))) (pa_cons pe_int pa_nil)))))
            (pe_slice sl_list (pv 4) (po_some (pv 6)) po_none))))) pss_nil)
        (pss_one (ps_ret (pe_tup (pa_cons (pv 4) (pa_cons (pv 5) pa_nil))))))))) pss_nil)
      (pss_cons (ps_set (i := 4) scLoop.nd rfl (.inl rfl) (pe_op op_cat (pe_lst (pa_cons pe_str pa_nil)) (pe_call GW hr rfl D.wds.g D.wds.k D.wds.b .nil pass0 (pa_cons (pv 0) (pa_cons (pe_lst (pa_cons pe_str (pa_cons pe_str (pa_cons pe_str (pa_cons pe_str (pa_cons pe_str (pa_cons pe_str pa_nil))))))) (pa_cons (pe_call GS hr1 rfl D.sip.g D.sip.k D.sip.b .nil pass0 (pa_cons (pv 0) (pa_cons (pv 1) pa_nil))) pa_nil))))))
      (C8.pss_cut (ps_if (pt_cmpR op_eq (pe_call GS hr1 rfl D.sip.g D.sip.k D.sip.b .nil pass0 (pa_cons (pv 0) (pa_cons pe_int pa_nil))) pe_int (nomark _))
          (pss_cons (ps_set (i := 6) scLoop.nd rfl (.inl rfl) (pe_op op_add pe_int (pe_call GS hr1 rfl D.sip.g D.sip.k D.sip.b .nil pass0 (pa_cons (pv 0) (pa_cons (pe_callB call_len_seq (by rfl) D.J.len PySem.boot_len (pa_cons (pv 4) pa_nil)) pa_nil)))))
          (pss_one (ps_set (i := 4) scLoop.nd rfl (.inl rfl) (pe_op op_cat (pe_op op_cat (pe_slice sl_list (pv 4) po_none (po_some (pv 6))) (pe_call GW hr rfl D.wds.g D.wds.k D.wds.b .nil pass0 (pa_cons (pv 0) (pa_cons (pe_lst (pa_cons pe_str pa_nil)) (pa_cons pe_int pa_nil)))))
            (pe_slice sl_list (pv 4) (po_some (pv 6)) po_none))))) pss_nil)
      (pss_one (ps_ret (pe_tup (pa_cons (pv 4) (pa_cons (pe_call GW hr rfl D.wds.g D.wds.k D.wds.b .nil pass0 (pa_cons (pv 0) (pa_cons (pe_lst (pa_cons pe_str (pa_cons pe_str (pa_cons pe_str pa_nil)))) (pa_cons (pe_call GS hr1 rfl D.sip.g D.sip.k D.sip.b .nil pass0 (pa_cons (pv 0) (pa_cons pe_int pa_nil))) pa_nil)))) pa_nil))))))))))), ?_⟩
    -- the samples
    refine ⟨(by show 4 ≤ sizeLine; decide), fun x1 n1 => ?_⟩
    refine ⟨_, rfl, (by show 3 ≤ sizeLine; decide), fun x2 n2 => ⟨x1, x2, _, _, rfl, rfl, same_new n2 _ _ upd_same, upd_same, (by show 7 ≤ sizeLine; decide), fun x3 n3 => ?_⟩⟩
    refine ⟨_, rfl, (by show 2 ≤ sizeLine; decide), fun x4 n4 => ⟨x3, x4, _, _, rfl, rfl, same_new n4 _ _ upd_same, upd_same, (by show 9 ≤ sizeLine; decide), fun x5 n5 => ?_⟩⟩
    refine ⟨fun σ H' => ∃ p, σ = [some (.ref j), some (.int m), some (.ref p), none, none, none, none] ∧ Off j H H' ∧ Jar H' j ∧ p ≠ j ∧ H' p = some (.lst (svs samples)), ?_, ?_⟩
    · refine ⟨_, rfl, .inl ⟨rfl, _, SqL.of upd_same⟩, x5, _, _, rfl, rfl, upd_same, small1000 (by show 9 ≤ 1000; decide), ?_⟩
      have n50 : H x5 = none := Same.free (Same.trans (same_new n1) (Same.trans (same_new n2) (Same.trans (same_new n3) (same_new n4)))) n5
      exact ⟨x5, rfl, (Same.off (j := j) (Same.trans (same_new n1) (Same.trans (same_new n2) (Same.trans (same_new n3) (Same.trans (same_new n4) (same_new n5)))))).put2 n50, (hJ.same (Same.trans (same_new n1) (Same.trans (same_new n2) (Same.trans (same_new n3) (Same.trans (same_new n4) (same_new n5)))))).put (jar_ne hJ n50), jar_ne hJ n50, upd_same⟩
    rintro _ H1 ⟨p, rfl, o1, J1, pj, hp⟩
    clear n1 n2 n3 n4 n5
    refine ⟨_, rfl, j, 3, rfl, J1, by decide, by decide, fun H2 d _ _ o2 J2 => ⟨rfl, _, rfl, ?_⟩⟩
    have o12 := o1.trans o2
    have hp2 := o2 _ _ pj hp
    clear o1 o2 J1 hp
    refine ite2 (fun _ => ?_) (fun _ => ?_)
    · -- a sample
      refine ⟨_, rfl, _, rfl, j, p, _, rfl, J2, pj, SqL.of hp2, by rw [len_samples]; decide, by rw [len_samples]; decide, fun H3 i x hx o3 J3 => ?_⟩
      obtain ⟨t, ht, rfl⟩ := svs_get hx
      have S := samp_of (List.mem_of_getElem? ht)
      have o13 := o12.trans o3
      refine ⟨⟨_, rfl⟩, t, " | ", rfl, rfl, by decide +kernel, Nat.le_trans (Nat.add_le_add_right S.ls 2) (by decide), fun q nq => ?_⟩
      have nq0 := o13.free J3 nq
      have qj := jar_ne hJ nq0
      have hq4 : (upd H3 q (.lst (svs (sampP t)))) q = some (.lst (svs (sampP t))) := upd_same
      have o14 : Off j H (upd H3 q (.lst (svs (sampP t)))) := o13.new nq
      have J4 := J3.new (o := .lst (svs (sampP t))) nq
      show tSeq _ _ _ _ (upd H3 q (.lst (svs (sampP t))))
      generalize upd H3 q (.lst (svs (sampP t))) = H4 at hq4 o14 J4 ⊢
      have g0 : (sampP t)[0]? = some ((sampP t).getD 0 Str.empty) := by
        rw [List.getD_eq_getElem?_getD, List.getElem?_eq_getElem S.l1]
        rfl
      have l0 : ((sampP t).getD 0 Str.empty).length ≤ 100 := S.lp _ (List.mem_of_getElem? g0)
      refine ⟨_, rfl, q, _, 0, .str ((sampP t).getD 0 Str.empty), rfl, rfl, SqL.of hq4, (show atI _ ((0 : Nat) : Int) = _ from atI_nat (by rw [svs, List.getElem?_map, g0]; rfl)), ⟨_, rfl⟩, _, " ", rfl, rfl, by decide +kernel, Nat.le_trans (Nat.add_le_add_right l0 2) (by decide), fun a na => ?_⟩
      refine ⟨Nat.zero_le _, fun b nb => ?_⟩
      refine ⟨_, _, rfl, ?_⟩
      have na0 := o14.free J4 na
      have o15 : Off j H (upd H4 a (.lst (svs (sampB t)))) := o14.new na
      have J5 := J4.new (o := .lst (svs (sampB t))) na
      have nb0 := o15.free J5 nb
      have ha6 : (upd (upd H4 a (.lst (svs (sampB t)))) b (.lst [])) a = some (.lst (svs (sampB t))) := same_new nb _ _ upd_same
      have hb6 : (upd (upd H4 a (.lst (svs (sampB t)))) b (.lst [])) b = some (.lst (svs [])) := upd_same
      have hq6 : (upd (upd H4 a (.lst (svs (sampB t)))) b (.lst [])) q = some (.lst (svs (sampP t))) := same_new nb _ _ (same_new na _ _ hq4)
      have o16 : Off j H (upd (upd H4 a (.lst (svs (sampB t)))) b (.lst [])) := o15.new nb
      have J6 := J5.new (o := .lst []) nb
      show C8.tCut _ _ _ _ (upd (upd H4 a (.lst (svs (sampB t)))) b (.lst []))
      generalize upd (upd H4 a (.lst (svs (sampB t)))) b (.lst []) = H6 at ha6 hb6 hq6 o16 J6 ⊢
      clear nb na o15 J5
      refine ⟨fun σ H' => ∃ b, σ = [some (.ref j), some (.int m), some (.ref p), some (.ref q), some (.ref a), some (.ref b), none] ∧ Two j H H' a b (sampB t) (sampE t) 4, ?_, ?_⟩
      · refine ⟨_, rfl, q, _, rfl, .inl (SqL.of hq6), _, _, rfl, rfl, _, rfl, ?_⟩
        rw [svs_len']
        refine ite2 (fun c => ?_) (fun c => ?_)
        · have c1 : 1 < (sampP t).length := by have := of_decide_eq_true c; omega
          have g1 : (sampP t)[1]? = some ((sampP t).getD 1 Str.empty) := by
            rw [List.getD_eq_getElem?_getD, List.getElem?_eq_getElem c1]
            rfl
          have l1 : ((sampP t).getD 1 Str.empty).length ≤ 100 := S.lp _ (List.mem_of_getElem? g1)
          refine ⟨_, rfl, q, _, 1, .str ((sampP t).getD 1 Str.empty), rfl, rfl, SqL.of hq6, (show atI _ ((1 : Nat) : Int) = _ from atI_nat (by rw [svs, List.getElem?_map, g1]; rfl)), ⟨_, rfl⟩, _, " ", rfl, rfl, by decide +kernel, Nat.le_trans (Nat.add_le_add_right l1 2) (by decide), fun b2 nb2 => ?_⟩
          have e : sampE t = Txt.split ((sampP t).getD 1 Str.empty) " " := by unfold sampE; rw [if_pos c1]
          exact ⟨b2, rfl, o16.new nb2, J6.new nb2, na0, o16.free J6 nb2, same_new nb2 _ _ ha6, by rw [e]; exact upd_same, S.r, S.e, S.lb, Nat.le_trans S.le (by decide)⟩
        · have c1 : ¬ (sampP t).length > 1 := fun z => c (decide_eq_true (by omega))
          have e : sampE t = [] := by unfold sampE; rw [if_neg c1]
          exact ⟨b, rfl, o16, J6, na0, nb0, ha6, by rw [e]; exact hb6, S.r, S.e, S.lb, Nat.le_trans S.le (by decide)⟩
      rintro _ H7 ⟨b, rfl, W⟩
      clear ha6 hb6 hq6 o16 J6 hq4 o14 J4 nb0 g0
      refine ⟨fun σ H' => ∃ (a : Addr) (B : List Str) (v6 : Option V), σ = [some (.ref j), some (.int m), some (.ref p), some (.ref q), some (.ref a), some (.ref b), v6] ∧ Two j H H' a b B (sampE t) 5, ?_, ?_⟩
      · refine ⟨_, rfl, j, 2, rfl, W.J, by decide, by decide, fun H8 d _ _ o8 J8 => ⟨rfl, _, rfl, ?_⟩⟩
        have aj := jar_ne hJ W.na
        have bj := jar_ne hJ W.nb
        have ha8 := o8 _ _ aj W.ha
        have hb8 := o8 _ _ bj W.hb
        have o18 := W.o.trans o8
        refine ite2 (fun _ => ?_) (fun _ => ?_)
        · have lb1 : 1 ≤ (sampB t).length := List.length_pos_iff.mpr (round_ne W.rB)
          refine ⟨_, rfl, _, rfl, a, _, rfl, .inl (SqL.of ha8), j, _, rfl, J8, by rw [svs_len']; omega, by rw [svs_len']; have := W.lB; omega, fun H9 d2 d20 d21 o9 J9 => ⟨_, _, rfl, rfl, ?_⟩⟩
          rw [svs_len'] at d21
          obtain ⟨n, rfl⟩ := Int.eq_ofNat_of_zero_le d20
          have ha9 := o9 _ _ aj ha8
          have o19 := o18.trans o9
          refine ⟨_, rfl, _, rfl, ((1 + n : Nat) : Int), by simp, a, _, rfl, SqL.of ha9, fun x1 nx1 => ?_⟩
          rw [cut_to _ _ (by rw [svs_len']; omega), svs_take]
          refine ⟨_, rfl, (by show 5 ≤ sizeLine; decide), fun x2 nx2 => ?_⟩
          have o20 := (o19.new (o := .lst (svs ((sampB t).take (1 + n)))) nx1).new (o := .lst (svs plain5)) nx2
          have J20 := (J9.new (o := .lst (svs ((sampB t).take (1 + n)))) nx1).new (o := .lst (svs plain5)) nx2
          refine ⟨j, x2, plain5, 1, rfl, J20, jar_ne (J9.new nx1) nx2, SqL.of upd_same, by decide, by decide, by decide +kernel, by decide, fun H10 x3 ws o10 J10 nx3 hx3 lw hw => ?_⟩
          have x1j := jar_ne J9 nx1
          refine ⟨x1, x3, _, _, rfl, rfl, o10 _ _ x1j (same_new nx2 _ _ upd_same), hx3, ?_, fun x4 nx4 => ?_⟩
          · rw [svs_len', svs_len', List.length_take]
            have := W.lB
            exact szl (by omega)
          rw [svs_app]
          have ha10 := o10 _ _ aj (same_new nx2 _ _ (same_new nx1 _ _ ha9))
          refine ⟨_, rfl, _, rfl, ((1 + n : Nat) : Int), by simp, a, _, rfl, SqL.of (same_new nx4 _ _ ha10), fun x5 nx5 => ?_⟩
          rw [cut_from, svs_drop]
          refine ⟨x4, x5, _, _, rfl, rfl, same_new nx5 _ _ upd_same, upd_same, ?_, fun x6 nx6 => ?_⟩
          · rw [svs_len', svs_len', List.length_append, List.length_take, List.length_drop]
            have := W.lB
            exact szl (by omega)
          rw [svs_app]
          have o21 := o20.trans o10
          have na6 := (((o21.new (o := .lst (svs ((sampB t).take (1 + n) ++ ws))) nx4).new (o := .lst (svs ((sampB t).drop (1 + n)))) nx5)).free ((J10.new nx4).new nx5) nx6
          refine ⟨x6, _, _, rfl, ((o21.new nx4).new nx5).new nx6, ((J10.new nx4).new nx5).new nx6, na6, W.nb, upd_same, same_new nx6 _ _ (same_new nx5 _ _ (same_new nx4 _ _ (o10 _ _ bj (same_new nx2 _ _ (same_new nx1 _ _ (o9 _ _ bj hb8)))))), ?_, W.rE, ?_, W.lE⟩
          · refine ins_round W.rB (by omega) (fun x hx => wd_round ((hw x hx).mono (by decide +kernel))) (by have := W.lB; omega) ?_
            rw [none_filter hw]
            exact round_adds W.rB
          · rw [List.length_append, List.length_append, List.length_take, List.length_drop]
            have := W.lB
            omega
        · exact ⟨a, sampB t, none, rfl, o18, J8, W.na, W.nb, ha8, hb8, W.rB, W.rE, Nat.le_trans W.lB (by decide), W.lE⟩
      rintro _ H8 ⟨a, B, v6, rfl, W⟩
      refine ⟨_, rfl, _, rfl, (by show 2 ≤ sizeLine; decide), fun r nr => ?_⟩
      exact k _ r a b B (sampE t) ⟨W.o.new nr, W.J.new nr, W.na, W.nb, same_new nr _ _ W.ha, same_new nr _ _ W.hb, W.rB, W.rE, Nat.le_trans W.lB (by omega), W.lE⟩ upd_same
    · -- drawn words
      refine ⟨(by show 1 ≤ sizeLine; decide), fun x1 nx1 => ?_⟩
      refine ⟨_, rfl, (by show 6 ≤ sizeLine; decide), fun x2 nx2 => ?_⟩
      have o14 := (o12.new (o := .lst (svs ["ask"])) nx1).new (o := .lst (svs ["hand", "cut", "flush", "stop", "again", "stop"])) nx2
      have J4 := (J2.new (o := .lst (svs ["ask"])) nx1).new (o := .lst (svs ["hand", "cut", "flush", "stop", "again", "stop"])) nx2
      have x1j := jar_ne J2 nx1
      have x2j := jar_ne (J2.new (o := .lst (svs ["ask"])) nx1) nx2
      have h14 : (upd (upd H2 x1 (.lst (svs ["ask"]))) x2 (.lst (svs ["hand", "cut", "flush", "stop", "again", "stop"]))) x1 = some (.lst (svs ["ask"])) := same_new nx2 _ _ upd_same
      have h24 : (upd (upd H2 x1 (.lst (svs ["ask"]))) x2 (.lst (svs ["hand", "cut", "flush", "stop", "again", "stop"]))) x2 = some (.lst (svs ["hand", "cut", "flush", "stop", "again", "stop"])) := upd_same
      show tCall spSip [] E0 _ _ (upd (upd H2 x1 (.lst (svs ["ask"]))) x2 (.lst (svs ["hand", "cut", "flush", "stop", "again", "stop"]))) _
      generalize upd (upd H2 x1 (.lst (svs ["ask"]))) x2 (.lst (svs ["hand", "cut", "flush", "stop", "again", "stop"])) = H4 at o14 J4 h14 h24 ⊢
      refine ⟨_, rfl, _, rfl, j, m, rfl, J4, by omega, by omega, fun H5 d d0 d1 o5 J5 => ?_⟩
      obtain ⟨n, rfl⟩ := Int.eq_ofNat_of_zero_le d0
      refine ⟨j, x2, ["hand", "cut", "flush", "stop", "again", "stop"], n, rfl, J5, x2j, SqL.of (o5 _ _ x2j h24), by decide, by decide, by decide +kernel, by omega, fun H6 x3 ws o6 J6 nx3 hx3 lw hw => ?_⟩
      refine ⟨x1, x3, _, _, rfl, rfl, o6 _ _ x1j (o5 _ _ x1j h14), hx3, ?_, fun a na => ?_⟩
      · rw [svs_len', svs_len']
        exact szl (by show 1 + ws.length ≤ 1000; omega)
      rw [svs_app]
      have o16 := (o14.trans o5).trans o6
      have na0 := o16.free J6 na
      have aj := jar_ne hJ na0
      have hw5 : ∀ w ∈ ws, Wd plain5 w := fun w h => (hw w h).mono (by decide +kernel)
      have R := ask_round hw5 (by omega)
      have ha7 : (upd H6 a (.lst (svs ([("ask" : Str)] ++ ws)))) a = some (.lst (svs (("ask" : Str) :: ws))) := upd_same
      have o17 : Off j H (upd H6 a (.lst (svs ([("ask" : Str)] ++ ws)))) := o16.new na
      have J7 := J6.new (o := .lst (svs ([("ask" : Str)] ++ ws))) na
      show C8.tCut _ _ _ _ (upd H6 a (.lst (svs ([("ask" : Str)] ++ ws))))
      generalize upd H6 a (.lst (svs ([("ask" : Str)] ++ ws))) = H7 at ha7 o17 J7 ⊢
      clear h14 h24 o14 J4 o5 J5 o6 J6 hx3 o16 na x1j x2j
      refine ⟨fun σ H' => ∃ (a : Addr) (B : List Str) (v6 : Option V), σ = [some (.ref j), some (.int m), some (.ref p), none, some (.ref a), none, v6] ∧ Off j H H' ∧ Jar H' j ∧ H a = none ∧ H' a = some (.lst (svs B)) ∧ isRound B = true ∧ B.length ≤ m + 1, ?_, ?_⟩
      · refine ⟨_, rfl, j, 2, rfl, J7, by decide, by decide, fun H8 d _ _ o8 J8 => ⟨rfl, _, rfl, ?_⟩⟩
        have ha8 := o8 _ _ aj ha7
        have o18 := o17.trans o8
        refine ite2 (fun _ => ?_) (fun _ => ?_)
        · refine ⟨_, rfl, _, rfl, a, _, rfl, .inl (SqL.of ha8), j, _, rfl, J8, by rw [svs_len', List.length_cons]; omega, by rw [svs_len', List.length_cons]; omega, fun H9 d2 d20 d21 o9 J9 => ⟨_, _, rfl, rfl, ?_⟩⟩
          rw [svs_len', List.length_cons] at d21
          obtain ⟨n2, rfl⟩ := Int.eq_ofNat_of_zero_le d20
          have ha9 := o9 _ _ aj ha8
          have o19 := o18.trans o9
          refine ⟨_, rfl, _, rfl, ((1 + n2 : Nat) : Int), by simp, a, _, rfl, SqL.of ha9, fun x1 nx1 => ?_⟩
          rw [cut_to _ _ (by rw [svs_len', List.length_cons]; omega), svs_take]
          refine ⟨_, rfl, (by show 1 ≤ sizeLine; decide), fun x2 nx2 => ?_⟩
          have o20 := (o19.new (o := .lst (svs ((("ask" : Str) :: ws).take (1 + n2)))) nx1).new (o := .lst (svs ["add"])) nx2
          have J20 := (J9.new (o := .lst (svs ((("ask" : Str) :: ws).take (1 + n2)))) nx1).new (o := .lst (svs ["add"])) nx2
          refine ⟨j, x2, ["add"], 1, rfl, J20, jar_ne (J9.new nx1) nx2, SqL.of upd_same, by decide, by decide, by decide +kernel, by decide, fun H10 x3 xs o10 J10 nx3 hx3 lx hxs => ?_⟩
          have x1j := jar_ne J9 nx1
          refine ⟨x1, x3, _, _, rfl, rfl, o10 _ _ x1j (same_new nx2 _ _ upd_same), hx3, ?_, fun x4 nx4 => ?_⟩
          · rw [svs_len', svs_len', List.length_take]
            exact szl (by omega)
          rw [svs_app]
          have ha10 := o10 _ _ aj (same_new nx2 _ _ (same_new nx1 _ _ ha9))
          refine ⟨_, rfl, _, rfl, ((1 + n2 : Nat) : Int), by simp, a, _, rfl, SqL.of (same_new nx4 _ _ ha10), fun x5 nx5 => ?_⟩
          rw [cut_from, svs_drop]
          refine ⟨x4, x5, _, _, rfl, rfl, same_new nx5 _ _ upd_same, upd_same, ?_, fun x6 nx6 => ?_⟩
          · rw [svs_len', svs_len', List.length_append, List.length_take, List.length_drop, List.length_cons]
            exact szl (by omega)
          rw [svs_app]
          have o21 := o20.trans o10
          have na6 := (((o21.new (o := .lst (svs ((("ask" : Str) :: ws).take (1 + n2) ++ xs))) nx4).new (o := .lst (svs ((("ask" : Str) :: ws).drop (1 + n2)))) nx5)).free ((J10.new nx4).new nx5) nx6
          refine ⟨x6, _, _, rfl, ((o21.new nx4).new nx5).new nx6, ((J10.new nx4).new nx5).new nx6, na6, upd_same, ?_, ?_⟩
          · refine ins_round R.1 (by omega) (fun x hx => wd_round ((hxs x hx).mono (by decide +kernel))) (by rw [List.length_cons]; omega) ?_
            rw [R.2]
            have := one_filter lx
            omega
          · rw [List.length_append, List.length_append, List.length_take, List.length_drop, List.length_cons]
            omega
        · exact ⟨a, _, none, rfl, o18, J8, na0, ha8, R.1, by rw [List.length_cons]; omega⟩
      rintro _ H8 ⟨a, B, v6, rfl, o8, J8, na, ha8, rB, lB⟩
      have aj := jar_ne hJ na
      refine ⟨_, rfl, _, rfl, (by show 3 ≤ sizeLine; decide), fun x2 nx2 => ?_⟩
      have x2j := jar_ne J8 nx2
      refine ⟨_, rfl, j, 3, rfl, J8.new nx2, by decide, by decide, fun H9 d d0 d1 o9 J9 => ?_⟩
      obtain ⟨n3, rfl⟩ := Int.eq_ofNat_of_zero_le d0
      have o19 := (o8.new nx2).trans o9
      refine ⟨j, x2, esteps, n3, rfl, J9, x2j, SqL.of (o9 _ _ x2j upd_same), by decide, by decide, by decide +kernel, by omega, fun H10 b E' o10 J10 nb hb lE hE => ?_⟩
      have nb0 := o19.free J9 nb
      refine ⟨(by show 2 ≤ sizeLine; decide), fun r nr => ?_⟩
      have ha10 := o10 _ _ aj (o9 _ _ aj (same_new nx2 _ _ ha8))
      exact k _ r a b B E' ⟨(o19.trans o10).new nr, J10.new nr, na, nb0, same_new nr _ _ ha10, same_new nr _ _ hb, rB, words_ending hE (by omega), lB, by omega⟩ upd_same
end
end My

namespace My
open PySem L2 Cm LM
/-! ### rows of texts as data -/
def strD (ws : List Str) : List PyData := ws.map PyData.str
theorem dpS {K : PySem.W.Frag} {H : Hp} : ∀ ws : List Str, DpAll K H (svs ws) (strD ws)
  | [] => .nil
  | x :: r => .cons (.str x) (dpS r)
theorem strD_lay : ∀ {ws : List Str}, (∀ w ∈ ws, Asc w) → PyData.canLayAll0 (strD ws) = true
  | [], _ => by simp [strD, PyData.canLayAll0]
  | x :: r, h => by
    have h1 := strD_lay (ws := r) fun w hw => h w (List.mem_cons_of_mem _ hw)
    have h2 : PyData.strOk x = true := h x (List.mem_cons_self ..)
    simp only [strD, List.map_cons, PyData.canLayAll0, PyData.canLay0, h2, Bool.true_and] at h1 ⊢
    exact h1
theorem strD_depth : ∀ ws : List Str, PyData.depthAll (strD ws) ≤ 1
  | [] => by simp [strD, PyData.depthAll]
  | x :: r => by
    have := strD_depth r
    simp only [strD, List.map_cons, PyData.depthAll, PyData.depth] at this ⊢
    omega
theorem strD_shaped {ws : List Str} (h : ∀ w ∈ ws, Asc w) : SeqAt.shaped (.list (strD ws)) = true := by
  have := strD_depth ws
  refine Bool.and_eq_true_iff.mpr ⟨by simp only [PyData.canLay0]; exact strD_lay h, decide_eq_true ?_⟩
  simp only [PyData.depth]
  omega
theorem eqv_nil (ws : List Str) : PyData.eqv (.list (strD ws)) (.list []) = decide (ws = []) := by
  cases ws with
  | nil => simp [strD, PyData.eqv, PyData.eqvAll]
  | cons x r => simp [strD, PyData.eqv, PyData.eqvAll]
section
variable {P : Program} {w : World} {K : PySem.W.Frag} {mg : Str → Option Value} {base : Heap}
/-! ### _law_line -/
def spLine : Sp := fun vs H Q _ => ∃ (a b : Addr) (B E : List Str), vs = [.ref a, .ref b] ∧ H a = some (.lst (svs B)) ∧ H b = some (.lst (svs E)) ∧ Sht 100 B ∧ Sht 100 E ∧ (∀ w ∈ E, Asc w) ∧ ∀ H', Same H H' → Q (.str (line B E)) H'
theorem scLine : FnScope ["_law_begun", "_law_ended"] ["_law_begun", "_law_ended"] (defScope sLine) := ⟨rfl, rfl, rfl, by decide +kernel, rfl, by decide +kernel, by decide +kernel⟩
theorem ok_line (D : TxD K mg) : FnOk P w K mg base CX0 1 D.lin.f D.lin.fd ["_law_begun", "_law_ended"] spLine := by
  refine D.lin.F.ok scLine (fun vs H Q E h => ?_) (fun cdv A outer s H vs Q E hr h => ?_)
  · obtain ⟨a, b, B, E, rfl, _⟩ := h
    rfl
  · obtain ⟨a, b, B, E, rfl, ha, hb, sB, sE, aE, k⟩ := h
    refine ⟨_, pss_one (ps_ret (pe_ifExp (pt_cmpR (op_neD (hu64 hr)) (pv 1) (pe_lst pa_nil) (nomark _)) (pe_join pe_str (pe_op op_cat (pe_op op_cat (pv 0) (pe_lst (pa_cons pe_str pa_nil))) (pv 1))) (pe_join pe_str (pv 0)))), ?_⟩
    refine ⟨_, rfl, Nat.zero_le _, fun e ne => ?_⟩
    refine ⟨.list (strD E), .list [], .lst (SqL.of (same_new ne _ _ hb)) (dpS E), .lst (SqL.of upd_same) .nil, strD_shaped aE, by decide, _, rfl, ?_⟩
    rw [eqv_nil]
    have s1 : Same H (upd H e (.lst [])) := same_new ne
    generalize upd H e (.lst []) = H1 at s1 ⊢
    have l1 : (" " : Str).length = 1 := by decide +kernel
    unfold line at k
    by_cases hE : E = []
    · rw [decide_eq_true hE]
      rw [if_pos hE] at k
      refine iteF ⟨⟨_, rfl⟩, _, rfl, " ", a, B, rfl, rfl, .inl (SqL.of (s1 _ _ ha)), ?_, k _ s1⟩
      rw [l1]
      have := sB.sum
      omega
    · rw [decide_eq_false hE]
      rw [if_neg hE] at k
      refine iteT ⟨⟨_, rfl⟩, _, rfl, (by show 1 ≤ sizeLine; decide), fun x nx => ?_⟩
      refine ⟨a, x, _, _, rfl, rfl, same_new nx _ _ (s1 _ _ ha), upd_same, ?_, fun y ny => ?_⟩
      · rw [svs_len']
        have := sB.2
        exact szl (by show B.length + 1 ≤ 1000; omega)
      refine ⟨_, rfl, y, b, _, _, rfl, rfl, upd_same, same_new ny _ _ (same_new nx _ _ (s1 _ _ hb)), ?_, fun z nz => ?_⟩
      · rw [List.length_append, svs_len', svs_len']
        have := sB.2
        have := sE.2
        exact szl (by show B.length + 1 + E.length ≤ 1000; omega)
      refine ⟨" ", z, B ++ [("|" : Str)] ++ E, rfl, rfl, .inl (SqL.of (by rw [upd_same]; simp [svs])), ?_, ?_⟩
      · have sh : Sht 201 (B ++ [("|" : Str)] ++ E) := by
          refine ⟨fun w hw => ?_, ?_⟩
          · rcases List.mem_append.mp hw with hw | hw
            · rcases List.mem_append.mp hw with hw | hw
              · exact sB.1 w hw
              · rw [List.mem_singleton.mp hw]
                decide +kernel
            · exact sE.1 w hw
          · rw [List.length_append, List.length_append]
            have := sB.2
            have := sE.2
            simp
            omega
        rw [l1]
        have := sh.sum
        omega
      · exact k _ (Same.trans s1 (Same.trans (same_new nx) (Same.trans (same_new ny) (same_new nz))))
end
end My

/-! loops filled up; rows without one word -/
namespace LM
open PySem L2 TL
theorem again_ok : isWord "again" rsteps = true ∧ isAdd "again" = false := by decide +kernel
theorem cut_ok : isWord "cut" esteps = true := by decide +kernel
theorem pad_round {B : List Str} (h : isRound B = true) (n : Nat) (hl : B.length + n ≤ 12) : isRound (B ++ List.replicate n ("again" : Str)) = true := by
  obtain ⟨r, rfl, h2, h3, h4⟩ := isRound_iff.mp h
  refine isRound_iff.mpr ⟨r ++ List.replicate n ("again" : Str), rfl, by rw [List.length_append, List.length_replicate]; exact hl, ?_, fun w hw => ?_⟩
  · rw [List.filter_append]
    have e : (List.replicate n ("again" : Str)).filter isAdd = [] := List.filter_eq_nil_iff.mpr fun w hw => by
      rw [List.eq_of_mem_replicate hw, again_ok.2]
      exact Bool.false_ne_true
    rw [e, List.append_nil]
    exact h3
  · rcases List.mem_append.mp hw with hw | hw
    · exact h4 w hw
    · rw [List.eq_of_mem_replicate hw]
      exact again_ok.1
theorem pad_ending {E : List Str} (h : isEnding E = true) (n : Nat) (hl : E.length + n ≤ 6) : isEnding (E ++ List.replicate n ("cut" : Str)) = true := by
  have q := isEnding_iff.mp h
  refine isEnding_iff.mpr ⟨by rw [List.length_append, List.length_replicate]; exact hl, fun w hw => ?_⟩
  rcases List.mem_append.mp hw with hw | hw
  · exact q.2 w hw
  · rw [List.eq_of_mem_replicate hw]
    exact cut_ok
/-- the two rows of a loop without the word at n -/
def outB (B : List Str) (n : Nat) : List Str := if n < B.length then B.eraseIdx n else B
def outE (B E : List Str) (n : Nat) : List Str := if n < B.length then E else E.eraseIdx (n - B.length)
theorem out_row (B E : List Str) (n m : Nat) (hm : m = B.length - (if n < B.length then 1 else 0)) : ((B ++ E).take n ++ (B ++ E).drop (n + 1)).take m = outB B n ∧ ((B ++ E).take n ++ (B ++ E).drop (n + 1)).drop m = outE B E n := by
  rw [← List.eraseIdx_eq_take_drop_succ]
  unfold outB outE
  by_cases h : n < B.length
  · rw [if_pos h] at hm ⊢
    rw [if_pos h, List.eraseIdx_append_of_lt_length h]
    have e : m = (B.eraseIdx n).length := by rw [List.length_eraseIdx, if_pos h]; exact hm
    rw [e, List.take_left, List.drop_left]
    exact ⟨rfl, rfl⟩
  · rw [if_neg h] at hm ⊢
    rw [if_neg h, List.eraseIdx_append_of_length_le (by omega)]
    have e : m = B.length := by omega
    rw [e, List.take_left, List.drop_left]
    exact ⟨rfl, rfl⟩
theorem outB_round {B : List Str} {n : Nat} (h : isRound B = true) (hn : 1 ≤ n) : isRound (outB B n) = true := by
  unfold outB
  split
  · exact round_erase h hn
  · exact h
theorem outE_ending {B E : List Str} {n : Nat} (h : isEnding E = true) : isEnding (outE B E n) = true := by
  unfold outE
  split
  · exact h
  · exact ending_erase h
theorem out_len {B E : List Str} {n : Nat} (h : n < B.length + E.length) : (outB B n).length + (outE B E n).length + 1 = B.length + E.length := by
  unfold outB outE
  by_cases hn : n < B.length
  · rw [if_pos hn, if_pos hn, List.length_eraseIdx, if_pos hn]
    omega
  · rw [if_neg hn, if_neg hn, List.length_eraseIdx, if_pos (by omega)]
    omega
end LM

/-! words taken apart by split -/
namespace LM
open PySem L2 TL
def partsOk (w : Str) : Bool := decide ((orderOf w).2 ∈ rsteps) && (if (orderOf w).1 = Str.empty then decide (Txt.split w ":" = [(orderOf w).2]) else decide (Txt.split w ":" = [(orderOf w).1, (orderOf w).2]) && decide ((orderOf w).1 ∈ tests))
theorem parts_ok : ∀ w ∈ allWd rsteps, partsOk w = true := by decide +kernel
structure Parts (w : Str) : Prop where
  s : (orderOf w).2 ∈ rsteps
  p : ((orderOf w).1 = Str.empty ∧ Txt.split w ":" = [(orderOf w).2]) ∨ ((orderOf w).1 ≠ Str.empty ∧ Txt.split w ":" = [(orderOf w).1, (orderOf w).2] ∧ (orderOf w).1 ∈ tests)
theorem parts_of {w : Str} (h : Wd rsteps w) : Parts w := by
  have q := parts_ok w h.mem
  unfold partsOk at q
  have q2 := Bool.and_eq_true_iff.mp q
  refine ⟨of_decide_eq_true q2.1, ?_⟩
  have q3 := q2.2
  split at q3
  next e => exact .inl ⟨e, of_decide_eq_true q3⟩
  next e =>
    have q4 := Bool.and_eq_true_iff.mp q3
    exact .inr ⟨e, of_decide_eq_true q4.1, of_decide_eq_true q4.2⟩
theorem emp : Str.empty = ("" : Str) := by decide +kernel
theorem esteps_flow : ∀ w ∈ allWd esteps, (orderOf w).2 ≠ "again" ∧ (orderOf w).2 ≠ "stop" := by decide +kernel
theorem ending_flow {E : List Str} (h : isEnding E = true) : ∀ o ∈ E.map orderOf, o.2 ≠ "again" ∧ o.2 ≠ "stop" := by
  intro o ho
  obtain ⟨w, hw, rfl⟩ := List.mem_map.mp ho
  exact esteps_flow w (word_wd ((isEnding_iff.mp h).2 w hw)).mem
theorem ask_order : orderOf "ask" = (("" : Str), ("ask" : Str)) := by decide +kernel
theorem round_tail_wd {B : List Str} (h : isRound B = true) : ∃ r, B = ("ask" : Str) :: r ∧ (∀ w ∈ r, Wd rsteps w) ∧ r.length ≤ 11 := by
  obtain ⟨r, rfl, h2, _, h4⟩ := isRound_iff.mp h
  rw [List.length_cons] at h2
  exact ⟨r, rfl, fun w hw => word_wd (h4 w hw), by omega⟩
theorem ending_wd {E : List Str} (h : isEnding E = true) : (∀ w ∈ E, Wd rsteps w) ∧ E.length ≤ 6 := ⟨fun w hw => (word_wd ((isEnding_iff.mp h).2 w hw)).mono e_r, (isEnding_iff.mp h).1⟩
end LM

/-! the law's own execution -/
namespace My
open PySem L2 Cm LM EM
abbrev sPassed : Stmt := top 60
abbrev sSliced : Stmt := top 61
abbrev sDone : Stmt := top 62
abbrev sFed : Stmt := top 63
abbrev sBox : Stmt := top 64
/-! ### boxes -/
def bx (r u : Addr) (g : Nat) (ov : Bool) : List (Key × V) := [(.inr "rest", .ref r), (.inr "out", .ref u), (.inr "got", .int g), (.inr "over", .bl ov)]
section
variable (r u r' : Addr) (g : Nat) (ov b : Bool)
theorem bx_r : valV (bx r u g ov) (.inr "rest") = some (.ref r) := by kernel_rfl
theorem bx_u : valV (bx r u g ov) (.inr "out") = some (.ref u) := by kernel_rfl
theorem bx_g : valV (bx r u g ov) (.inr "got") = some (.int g) := by kernel_rfl
theorem bx_o : valV (bx r u g ov) (.inr "over") = some (.bl ov) := by kernel_rfl
theorem bx_pr : putK (bx r u g ov) (.inr "rest") (.ref r') = bx r' u g ov := by kernel_rfl
theorem bx_pu : putK (bx r u g ov) (.inr "out") (.ref r') = bx r r' g ov := by kernel_rfl
theorem bx_po : putK (bx r u g ov) (.inr "over") (.bl b) = bx r u g b := by kernel_rfl
theorem bx_mk : mergeK [] (bx r u g ov) = bx r u g ov := by kernel_rfl
theorem bx_len : (bx r u g ov).length = 4 := rfl
end
section
variable {H : Hp} {b0 r u : Addr} {g : Nat} {ov : Bool}
theorem get_r (h : H b0 = some (.dK (bx r u g ov))) : DGet H b0 (.str "rest") (some (.ref r)) := by
  have := DGet.k (k := Sum.inr "rest") h
  rw [bx_r] at this
  exact this
theorem get_u (h : H b0 = some (.dK (bx r u g ov))) : DGet H b0 (.str "out") (some (.ref u)) := by
  have := DGet.k (k := Sum.inr "out") h
  rw [bx_u] at this
  exact this
theorem get_g (h : H b0 = some (.dK (bx r u g ov))) : DGet H b0 (.str "got") (some (.int g)) := by
  have := DGet.k (k := Sum.inr "got") h
  rw [bx_g] at this
  exact this
theorem get_o (h : H b0 = some (.dK (bx r u g ov))) : DGet H b0 (.str "over") (some (.bl ov)) := by
  have := DGet.k (k := Sum.inr "over") h
  rw [bx_o] at this
  exact this
theorem dput_r (r' : Addr) (h : H b0 = some (.dK (bx r u g ov))) : DPut H b0 (.str "rest") (.ref r') (upd H b0 (.dK (bx r' u g ov))) := by
  have := DPut.k (k := Sum.inr "rest") (v := .ref r') h (by rw [bx_len]; decide)
  rw [bx_pr] at this
  exact this
theorem dput_u (r' : Addr) (h : H b0 = some (.dK (bx r u g ov))) : DPut H b0 (.str "out") (.ref r') (upd H b0 (.dK (bx r r' g ov))) := by
  have := DPut.k (k := Sum.inr "out") (v := .ref r') h (by rw [bx_len]; decide)
  rw [bx_pu] at this
  exact this
theorem dput_o (o' : Bool) (h : H b0 = some (.dK (bx r u g ov))) : DPut H b0 (.str "over") (.bl o') (upd H b0 (.dK (bx r u g o'))) := by
  have := DPut.k (k := Sum.inr "over") (v := .bl o') h (by rw [bx_len]; decide)
  rw [bx_po] at this
  exact this
end
structure BoxAt (H : Hp) (b : Addr) (x : RP) (g : Nat) (ov : Bool) : Prop where
  ex : ∃ r u vs, H b = some (.dK (bx r u g ov)) ∧ H r = some (.lst (ivs x.rest)) ∧ H u = some (.lst vs) ∧ Pcs H vs x.pieces
theorem BoxAt.same {H H' : Hp} {b : Addr} {x : RP} {g : Nat} {ov : Bool} (s : Same H H') (h : BoxAt H b x g ov) : BoxAt H' b x g ov := let ⟨r, u, vs, a, b, c, d⟩ := h.ex; ⟨r, u, vs, s _ _ a, s _ _ b, s _ _ c, d.same s⟩
theorem BoxAt.off {j : Addr} {H H' : Hp} {b : Addr} {x : RP} {g : Nat} {ov : Bool} (s : Off j H H') (n : ∀ u, H j = some u → (∀ kvs, u ≠ .dK kvs) ∧ (∀ xs, u ≠ .tup xs) ∧ ∃ a b c : Int, u = .lst [.int a, .int b, .int c]) (jb : ∀ r u vs, H b = some (.dK (bx r u g ov)) → H r = some (.lst (ivs x.rest)) → H u = some (.lst vs) → r ≠ j ∧ u ≠ j ∧ b ≠ j) (tp : ∀ q xs, H q = some (.tup xs) → q ≠ j) (h : BoxAt H b x g ov) : BoxAt H' b x g ov := by
  obtain ⟨r, u, vs, h1, h2, h3, h4⟩ := h.ex
  obtain ⟨n1, n2, n3⟩ := jb r u vs h1 h2 h3
  exact ⟨r, u, vs, s _ _ n3 h1, s _ _ n1 h2, s _ _ n2 h3, h4.mono fun q xs e => s _ _ (tp q xs e) e⟩
structure TxB (K : PySem.W.Frag) (mg : Str → Option Value) where
  J : TxtJ mg
  range : mg "range" = none
  tuple : mg "tuple" = none
  list : mg "list" = none
  pas : Df K mg "_law_passed" sPassed ["_law_test", "_law_got", "_law_box_here", "_law_said", "_law_wide"]
  sli : Df K mg "_law_sliced" sSliced ["_law_row_here", "_law_wide", "_law_many"]
  don : Df K mg "_law_done" sDone ["_law_words_here", "_law_got", "_law_box_here", "_law_said", "_law_wide"]
  fed : Df K mg "_law_fed" sFed ["_law_made", "_law_box_here", "_law_many", "_law_said", "_law_wide"]
  box : Df K mg "_law_box" sBox []
section
variable {P : Program} {w : World} {K : PySem.W.Frag} {mg : Str → Option Value} {base : Heap}
/-! ### _law_passed -/
def spPd : Sp := fun vs H Q _ => ∃ (ga b : Addr) (t : Str) (got : List Int) (x : RP) (g : Nat) (ov said : Bool) (wide : Nat), vs = [.str t, .ref ga, .ref b, .bl said, .int wide] ∧ t ∈ tests ∧ H ga = some (.lst (ivs got)) ∧ BoxAt H b x g ov ∧ ∀ H', Same H H' → Q (.bl (passM wide got said t x.rest)) H'
theorem scPd : FnScope ["_law_test", "_law_got", "_law_box_here", "_law_said", "_law_wide"] ["_law_test", "_law_got", "_law_box_here", "_law_said", "_law_wide"] (defScope sPassed) := ⟨rfl, rfl, rfl, by decide +kernel, rfl, by decide +kernel, by decide +kernel⟩
theorem pass_1 {wide : Nat} {got rest : List Int} {said : Bool} {t : Str} (h : t = "empty" ∨ t = "some") : passM wide got said t rest = decide (decide (got = []) = decide (t = "empty")) := by
  have e := pos_nil got
  rcases h with rfl | rfl
  · unfold passM
    rw [if_neg (by decide +kernel), if_neg (by decide +kernel), if_neg (by decide +kernel), if_pos (by decide +kernel), e, show decide (("empty" : Str) = "some") = false by decide +kernel, show decide (("empty" : Str) = "empty") = true by decide +kernel]
    cases decide (got = []) <;> rfl
  · unfold passM
    rw [if_neg (by decide +kernel), if_neg (by decide +kernel), if_neg (by decide +kernel), if_pos (by decide +kernel), e, show decide (("some" : Str) = "some") = true by decide +kernel, show decide (("some" : Str) = "empty") = false by decide +kernel]
    cases decide (got = []) <;> rfl
theorem pass_2 {wide : Nat} {got rest : List Int} {said : Bool} {t : Str} (h : t = "short" ∨ t = "full") : passM wide got said t rest = decide (decide (got.length < wide) = decide (t = "short")) := by
  rcases h with rfl | rfl
  · unfold passM
    rw [if_neg (by decide +kernel), if_neg (by decide +kernel), if_neg (by decide +kernel), if_neg (by decide +kernel)]
    rfl
  · unfold passM
    rw [if_neg (by decide +kernel), if_neg (by decide +kernel), if_neg (by decide +kernel), if_neg (by decide +kernel)]
    rfl
theorem pass_3 {wide : Nat} {got rest : List Int} {said : Bool} {t : Str} (h : t = "told" ∨ t = "open") : passM wide got said t rest = decide (said = decide (t = "told")) := by
  have h0 : ¬ t = "" := by rcases h with rfl | rfl <;> decide +kernel
  unfold passM
  rw [if_neg h0, if_pos h]
  rfl
theorem pass_4 {wide : Nat} {got rest : List Int} {said : Bool} {t : Str} (ht : t ∈ tests) (h1 : ¬ (t = "empty" ∨ t = "some")) (h2 : ¬ (t = "short" ∨ t = "full")) (h3 : ¬ (t = "told" ∨ t = "open")) : passM wide got said t rest = decide ((!decide (rest = [])) = decide (t = "rest")) := by
  have h4 : t = "rest" ∨ t = "bare" := by
    have h5 : t = "empty" ∨ t = "some" ∨ t = "short" ∨ t = "full" ∨ t = "told" ∨ t = "open" ∨ t = "rest" ∨ t = "bare" := by simpa [tests] using ht
    rcases h5 with h | h | h | h | h | h | h | h
    · exact absurd (.inl h) h1
    · exact absurd (.inr h) h1
    · exact absurd (.inl h) h2
    · exact absurd (.inr h) h2
    · exact absurd (.inl h) h3
    · exact absurd (.inr h) h3
    · exact .inl h
    · exact .inr h
  have h0 : ¬ t = "" := by rcases h4 with rfl | rfl <;> decide +kernel
  unfold passM
  rw [if_neg h0, if_neg h3, if_pos h4, pos_nil]
  rfl
theorem ok_pd (B : TxB K mg) : FnOk P w K mg base CX0 1 B.pas.f B.pas.fd ["_law_test", "_law_got", "_law_box_here", "_law_said", "_law_wide"] spPd := by
  refine B.pas.F.ok scPd (fun vs H Q E h => ?_) (fun cdv A outer s H vs Q E hr h => ?_)
  · obtain ⟨ga, b, t, got, x, g, ov, said, wide, rfl, _⟩ := h
    rfl
  · obtain ⟨ga, b, t, got, x, g, ov, said, wide, rfl, ht, hg, hB, k⟩ := h
    have hu := hu_of hr
    refine ⟨_, pss_cons (ps_if (pt_cmpR op_in_seq (pv 0) (pe_lst (pa_cons pe_str (pa_cons pe_str pa_nil))) (by rfl)) (pss_one (ps_ret (pe_cmpR op_eq (pe_cmpR (op_eqD (hu64 hr)) (pv 1) (pe_lst pa_nil) (nomark _)) (pe_cmpR op_eq (pv 0) pe_str (nomark _)) (nomark _)))) pss_nil)
      (pss_cons (ps_if (pt_cmpR op_in_seq (pv 0) (pe_lst (pa_cons pe_str (pa_cons pe_str pa_nil))) (by rfl)) (pss_one (ps_ret (pe_cmpR op_eq (pe_cmpR op_lt (pe_callB call_len_seq (by rfl) B.J.len PySem.boot_len (pa_cons (pv 1) pa_nil)) (pv 4) (nomark _)) (pe_cmpR op_eq (pv 0) pe_str (nomark _)) (nomark _)))) pss_nil)
      (pss_cons (ps_if (pt_cmpR op_in_seq (pv 0) (pe_lst (pa_cons pe_str (pa_cons pe_str pa_nil))) (by rfl)) (pss_one (ps_ret (pe_cmpR op_eq (pv 3) (pe_cmpR op_eq (pv 0) pe_str (nomark _)) (nomark _)))) pss_nil)
      (pss_one (ps_ret (pe_cmpR op_eq (pe_cmpR (op_neD (hu64 hr)) (pe_dget hu (pv 2) pe_str (fun _ _ => rfl)) (pe_lst pa_nil) (nomark _)) (pe_cmpR op_eq (pv 0) pe_str (nomark _)) (nomark _)))))), ?_⟩
    refine ⟨_, rfl, (by show 2 ≤ sizeLine; decide), fun t1 n1 => ⟨t1, _, rfl, .inl (SqL.of upd_same), rfl, rfl, _, rfl, ?_⟩⟩
    have s1 : Same H (upd H t1 (.lst [.str "empty", .str "some"])) := same_new n1
    generalize upd H t1 (.lst [.str "empty", .str "some"]) = H1 at s1 ⊢
    rw [show (if false = true then !inV (V.str t) [V.str "empty", V.str "some"] else inV (V.str t) [V.str "empty", V.str "some"]) = decide (t = "empty" ∨ t = "some") from in2 ..]
    by_cases h1 : t = "empty" ∨ t = "some"
    · rw [decide_eq_true h1]
      refine iteT ⟨_, rfl, Nat.zero_le _, fun e ne => ?_⟩
      refine ⟨.list (intD got), .list [], .lst (SqL.of (same_new ne _ _ (s1 _ _ hg))) (dpI got), .lst (SqL.of upd_same) .nil, intD_shaped _, by decide, _, rfl, rfl, rfl, ?_⟩
      rw [eqv_inil, dS, dB]
      have := k _ (Same.trans s1 (same_new (o := .lst []) ne))
      rw [pass_1 h1] at this
      exact this
    rw [decide_eq_false h1]
    refine iteF ?_
    refine ⟨_, rfl, (by show 2 ≤ sizeLine; decide), fun t2 n2 => ⟨t2, _, rfl, .inl (SqL.of upd_same), rfl, rfl, _, rfl, ?_⟩⟩
    have s2 : Same H (upd H1 t2 (.lst [.str "short", .str "full"])) := Same.trans s1 (same_new n2)
    generalize upd H1 t2 (.lst [.str "short", .str "full"]) = H2 at s2 ⊢
    rw [show (if false = true then !inV (V.str t) [V.str "short", V.str "full"] else inV (V.str t) [V.str "short", V.str "full"]) = decide (t = "short" ∨ t = "full") from in2 ..]
    by_cases h2 : t = "short" ∨ t = "full"
    · rw [decide_eq_true h2]
      refine iteT ⟨_, rfl, ga, _, rfl, .inl (SqL.of (s2 _ _ hg)), _, rfl, _, _, rfl, rfl, _, rfl, rfl, rfl, ?_⟩
      rw [dS, dB, ivs_len, lt_dec]
      have := k _ s2
      rw [pass_2 h2] at this
      exact this
    rw [decide_eq_false h2]
    refine iteF ?_
    refine ⟨_, rfl, (by show 2 ≤ sizeLine; decide), fun t3 n3 => ⟨t3, _, rfl, .inl (SqL.of upd_same), rfl, rfl, _, rfl, ?_⟩⟩
    have s3 : Same H (upd H2 t3 (.lst [.str "told", .str "open"])) := Same.trans s2 (same_new n3)
    generalize upd H2 t3 (.lst [.str "told", .str "open"]) = H3 at s3 ⊢
    rw [show (if false = true then !inV (V.str t) [V.str "told", V.str "open"] else inV (V.str t) [V.str "told", V.str "open"]) = decide (t = "told" ∨ t = "open") from in2 ..]
    by_cases h3 : t = "told" ∨ t = "open"
    · rw [decide_eq_true h3]
      refine iteT ⟨_, rfl, _, rfl, rfl, rfl, ?_⟩
      rw [dS, dB]
      have := k _ s3
      rw [pass_3 h3] at this
      exact this
    rw [decide_eq_false h3]
    refine iteF ?_
    obtain ⟨r, u, vs, hb, hr1, hu1, hP⟩ := (hB.same s3).ex
    refine ⟨_, rfl, b, _, rfl, get_r hb, Nat.zero_le _, fun e ne => ?_⟩
    refine ⟨.list (intD x.rest), .list [], .lst (SqL.of (same_new ne _ _ hr1)) (dpI _), .lst (SqL.of upd_same) .nil, intD_shaped _, by decide, _, rfl, rfl, rfl, ?_⟩
    rw [eqv_inil, dS, dB]
    have := k _ (Same.trans s3 (same_new (o := .lst []) ne))
    rw [pass_4 ht h1 h2 h3] at this
    exact this
/-! ### _law_sliced -/
def spSl : Sp := fun vs H Q _ => ∃ (ra : Addr) (row : List Int) (wide many : Nat), vs = [.ref ra, .int wide, .int many] ∧ H ra = some (.lst (ivs row)) ∧ wide ≤ 1000 ∧ many * wide ≤ row.length ∧ row.length ≤ 4000000 ∧ many ≤ 4000000 ∧ ∀ (H' : Hp) (q : Addr) (vs : List V), Same H H' → H' q = some (.lst vs) → Pcs H' vs (cutN wide row many) → Q (.ref q) H'
theorem scSl : FnScope ["_law_row_here", "_law_wide", "_law_many", "_law_k"] ["_law_row_here", "_law_wide", "_law_many"] (defScope sSliced) := ⟨rfl, rfl, rfl, by decide +kernel, rfl, by decide +kernel, by decide +kernel⟩
/-- tuple(row[k * wide:k * wide + wide]) -/
def teSl : TE := fun σ H Q => ∃ (ra : Addr) (row : List Int) (wide k : Nat), σ[0]? = some (some (.ref ra)) ∧ σ[1]? = some (some (.int wide)) ∧ σ[3]? = some (some (.int k)) ∧ H ra = some (.lst (ivs row)) ∧ wide ≤ 1000 ∧ k * wide + wide ≤ row.length ∧
  ∀ (H' : Hp) (q : Addr), Same H H' → H' q = some (.tup (ivs ((row.drop (k * wide)).take wide))) → Q (.ref q) H'
theorem ok_sl (B : TxB K mg) : FnOk P w K mg base CX0 1 B.sli.f B.sli.fd ["_law_row_here", "_law_wide", "_law_many"] spSl := by
  refine B.sli.F.ok scSl (fun vs H Q E h => ?_) (fun cdv A outer s H vs Q E hr h => ?_)
  · obtain ⟨ra, row, wide, many, rfl, _⟩ := h
    rfl
  · obtain ⟨ra, row, wide, many, rfl, hra, w1, l1, l2, l3, k⟩ := h
    refine ⟨_, pss_one (ps_ret (pe_lc (own := [("_law_k", 3)]) (g := gName 3) (tt := tYes) (te := teSl) rfl scSl.nd (pi_range1 rfl B.range (pa_cons (pv 2) pa_nil)) (blkOk_by (own := [("_law_k", 3)]) (N := ["_law_row_here", "_law_wide", "_law_many", "_law_k"]) (sc := defScope sSliced) (by decide +kernel))
      (fun _ _ _ _ _ => pg_name (i := 3) scSl.nd rfl (Or.inl rfl)) (fun _ _ _ _ _ => pts_nil)
      (fun _ _ _ _ _ => pe_imp (pe_callTy call_tuple_of (by rfl) B.tuple (by decide +kernel) (pa_cons (pe_slice sl_list (pv 0) (po_some (pe_op op_mul (pv 3) (pv 1))) (po_some (pe_op op_add (pe_op op_mul (pv 3) (pv 1)) (pv 1)))) pa_nil)) (by
        rintro σ H Q ⟨ra, row, wide, k, h0, h1, h3, hra, w1, l1, q⟩
        refine ⟨_, h0, _, h3, _, h1, _, _, rfl, rfl, .inr ⟨by omega, by omega⟩, ((k * wide : Nat) : Int), by rw [Int.natCast_mul], _, h3, _, h1, _, _, rfl, rfl, .inr ⟨by omega, by omega⟩, _, h1, _, _, rfl, rfl, ((k * wide + wide : Nat) : Int), by rw [Int.natCast_add, Int.natCast_mul], ra, _, rfl, SqL.of hra, fun p np => ?_⟩
        refine ⟨p, _, rfl, .inl ⟨SqL.of upd_same, fun l nl => ?_⟩⟩
        refine q _ l (Same.trans (same_new np) (same_new nl)) ?_
        rw [upd_same, cut_mid _ _ _ (by omega) (by rw [ivs_len]; exact l1), show k * wide + wide - k * wide = wide by omega]
        simp [ivs, List.map_take, List.map_drop])))), ?_⟩
    refine ⟨_, rfl, many, rfl, by omega, by omega, fun D nD => ?_⟩
    refine lc_range (lo := 0) (n := ((many : Int)).toNat) (fun i H' => Same H H' ∧ ∃ vs, H' D = some (.lst vs) ∧ Pcs H' vs (cutN wide row i)) ⟨same_new nD, [], upd_same, .nil⟩ ?_ ?_
    · rintro i H1 hi ⟨s1, vs, hD, hP⟩
      have hi : i < many := by simpa using hi
      have m1 : (i + 1) * wide ≤ row.length := Nat.le_trans (Nat.mul_le_mul_right _ hi) l1
      have m2 : (i + 1) * wide = i * wide + wide := Nat.succ_mul i wide
      refine ⟨rfl, ra, row, wide, i, rfl, rfl, by rw [Int.zero_add]; rfl, s1 _ _ hra, w1, by omega, fun H2 q s2 hq => ?_⟩
      have hD2 := s2 _ _ hD
      have st := tup_stays (o' := .lst (vs ++ [.ref q])) hD2 (by intro xs z; cases z)
      have lp := hP.len
      refine ⟨vs, hD2, ?_, fun b o e => ?_, _, upd_same, ?_⟩
      · rw [lp, cutN, List.length_map, List.length_range]
        exact Nat.lt_of_le_of_lt (show i ≤ 4000000 by omega) (by decide)
      · rw [upd_ne (ne_of_none e nD)]
        exact s2 _ _ (s1 _ _ e)
      · rw [cutN_succ]
        exact Pcs.snoc (st _ _ hq) ((hP.same s2).mono st)
    · rintro H1 ⟨s1, vs, hD, hP⟩
      exact k H1 D vs s1 hD (by simpa using hP)
end
end My

namespace My
open PySem L2 Cm LM EM
section
variable {P : Program} {w : World} {K : PySem.W.Frag} {mg : Str → Option Value} {base : Heap}
/-- a box whose lists are not the jar -/
structure BoxJ (j : Addr) (H : Hp) (b : Addr) (x : RP) (g : Nat) (ov : Bool) : Prop where
  ex : ∃ r u vs, H b = some (.dK (bx r u g ov)) ∧ H r = some (.lst (ivs x.rest)) ∧ H u = some (.lst vs) ∧ Pcs H vs x.pieces ∧ r ≠ j ∧ u ≠ j
theorem BoxJ.at {j : Addr} {H : Hp} {b : Addr} {x : RP} {g : Nat} {ov : Bool} (h : BoxJ j H b x g ov) : BoxAt H b x g ov := let ⟨r, u, vs, a, b, c, d, _⟩ := h.ex; ⟨r, u, vs, a, b, c, d⟩
theorem BoxJ.same {j : Addr} {H H' : Hp} {b : Addr} {x : RP} {g : Nat} {ov : Bool} (s : Same H H') (h : BoxJ j H b x g ov) : BoxJ j H' b x g ov := let ⟨r, u, vs, a, b, c, d, e⟩ := h.ex; ⟨r, u, vs, s _ _ a, s _ _ b, s _ _ c, d.same s, e⟩
theorem BoxJ.off {j : Addr} {H H' : Hp} {b : Addr} {x : RP} {g : Nat} {ov : Bool} (s : Off j H H') (hj : Jar H j) (h : BoxJ j H b x g ov) : BoxJ j H' b x g ov := by
  obtain ⟨r, u, vs, a, b, c, d, e, f⟩ := h.ex
  obtain ⟨x, y, z, q⟩ := hj
  exact ⟨r, u, vs, s _ _ (ne_of a q (by intro z; cases z)) a, s _ _ e b, s _ _ f c, d.mono (fun p xs k => s _ _ (ne_of k q (by intro z; cases z)) k), e, f⟩
/-! ### _law_done -/
def ords (ws : List Str) : List (Str × Str) := ws.map orderOf
def spDn (j : Addr) : Sp := fun vs H Q _ => ∃ (wa ga b : Addr) (ws : List Str) (got : List Int) (x : RP) (g : Nat) (ov said : Bool) (wide k c : Nat), vs = [.ref wa, .ref ga, .ref b, .bl said, .int wide] ∧ H wa = some (.lst (svs ws)) ∧ (∀ z ∈ ws, Wd rsteps z) ∧ ws.length ≤ 12 ∧ H ga = some (.lst (ivs got)) ∧ BoxJ j H b x g ov ∧ Jar H j ∧ FitK wide got k c x ∧ k ≤ 2400 ∧ c ≤ 7800000 ∧
  ∀ (H' : Hp) (z : Str), Off b H H' → BoxJ j H' b (runW wide got said (ords ws) x).1 g ov → decide (z = "stop") = (runW wide got said (ords ws) x).2 → Q (.str z) H'
theorem scDn : FnScope ["_law_words_here", "_law_got", "_law_box_here", "_law_said", "_law_wide", "_law_word_here", "_law_parts", "_law_many"] ["_law_words_here", "_law_got", "_law_box_here", "_law_said", "_law_wide"] (defScope sDone) := ⟨rfl, rfl, rfl, by decide +kernel, rfl, by decide +kernel, by decide +kernel⟩
/-- its test is not passed -/
def tSkip : TT := fun σ H Q => ∃ (q ga b : Addr) (wd : Str) (got : List Int) (x : RP) (g : Nat) (ov said : Bool) (wide : Nat), σ[6]? = some (some (.ref q)) ∧ σ[1]? = some (some (.ref ga)) ∧ σ[2]? = some (some (.ref b)) ∧ σ[3]? = some (some (.bl said)) ∧ σ[4]? = some (some (.int wide)) ∧ Parts wd ∧ H q = some (.lst (svs (Txt.split wd ":"))) ∧ H ga = some (.lst (ivs got)) ∧ BoxAt H b x g ov ∧
  ∀ H', Same H H' → Q (!(passM wide got said (orderOf wd).1 x.rest)) H'
theorem pass_0 {wide : Nat} {got rest : List Int} {said : Bool} : passM wide got said "" rest = true := by
  unfold passM
  rw [if_pos rfl]
theorem parts_last {wd : Str} (h : Parts wd) : ∃ pre, svs (Txt.split wd ":") = pre ++ [.str (orderOf wd).2] := by
  rcases h.p with ⟨_, e⟩ | ⟨_, e, _⟩
  · exact ⟨[], by rw [e]; rfl⟩
  · exact ⟨[.str (orderOf wd).1], by rw [e]; rfl⟩
theorem box_put {j : Addr} {H H1 : Hp} {b r u r' u' : Addr} {g : Nat} {ov : Bool} {x x' : RP} {vs' : List V} (hb : H b = some (.dK (bx r u g ov))) (h1 : H r' = some (.lst (ivs x'.rest))) (h2 : H u' = some (.lst vs')) (h3 : Pcs H vs' x'.pieces) (n3 : r' ≠ j) (n4 : u' ≠ j) : BoxJ j (upd H b (.dK (bx r' u' g ov))) b x' g ov := by
  have n1 : r' ≠ b := ne_of h1 hb (by intro z; cases z)
  have n2 : u' ≠ b := ne_of h2 hb (by intro z; cases z)
  exact ⟨r', u', vs', upd_same, by rw [upd_ne n1]; exact h1, by rw [upd_ne n2]; exact h2, h3.mono (tup_stays hb (by intro xs z; cases z)), n3, n4⟩
theorem ok_dn (B : TxB K mg) (j : Addr) : FnOk P w K mg base CX0 2 B.don.f B.don.fd ["_law_words_here", "_law_got", "_law_box_here", "_law_said", "_law_wide"] (spDn j) := by
  have GP : FnOk P w K mg base CX0 1 B.pas.f B.pas.fd ["_law_test", "_law_got", "_law_box_here", "_law_said", "_law_wide"] spPd := ok_pd B
  have GS : FnOk P w K mg base CX0 1 B.sli.f B.sli.fd ["_law_row_here", "_law_wide", "_law_many"] spSl := ok_sl B
  refine B.don.F.ok scDn (fun vs H Q E h => ?_) (fun cdv A outer s H vs Q E hr h => ?_)
  · obtain ⟨wa, ga, b, ws, got, x, g, ov, said, wide, k, c, rfl, _⟩ := h
    rfl
  · obtain ⟨wa, ga, b, ws, got, x, g, ov, said, wide, kk, cc, rfl, hwa, hwd, lws, hga, hB, hJ, hF, hk, hc, k⟩ := h
    have hu := hu_of hr
    refine ⟨_, (pss_cons (ps_for PassesOwn.never rfl (pi_list (pv 0)) (pg_name (i := 5) scDn.nd rfl (.inl rfl)) (pss_cons (ps_set (i := 6) scDn.nd rfl (.inl rfl) (pe_split (pv 5) pe_str)) (pss_cons (ps_if (pt_imp (t' := tSkip) (PW.pt (pw_and (pt_cmpR op_eq (pe_callB call_len_seq (by rfl) B.J.len PySem.boot_len (pa_cons (pv 6) pa_nil)) pe_int (nomark _)) (pw_and1 (pt_not (pt_val (pe_call GP hr rfl B.pas.g B.pas.k B.pas.b .nil pass0 (pa_cons (pe_ix ix_list (pv 6) pe_int (fun _ _ => rfl)) (pa_cons (pv 1) (pa_cons (pv 2) (pa_cons (pv 3) (pa_cons (pv 4) pa_nil))))))))))) ?imp) (pss_one ps_continue) pss_nil) (pss_cons (ps_if (pt_cmpR op_in_seq (pe_ix ix_list (pv 6) (pe_un un_neg pe_int) (fun _ _ => rfl)) (pe_lst (pa_cons pe_str (pa_cons pe_str pa_nil))) (by rfl)) (pss_one (ps_ret (pe_ix ix_list (pv 6) (pe_un un_neg pe_int) (fun _ _ => rfl)))) pss_nil) (pss_one (ps_if (pt_cmpR op_eq (pe_ix ix_list (pv 6) (pe_un un_neg pe_int) (fun _ _ => rfl)) pe_str (nomark _)) (pss_one (ps_dput hu (pv 2) pe_str (pe_op op_cat (pe_dget hu (pv 2) pe_str (fun _ _ => rfl)) (pv 1)) rfl)) (pss_one (ps_if (pt_cmpR op_eq (pe_ix ix_list (pv 6) (pe_un un_neg pe_int) (fun _ _ => rfl)) pe_str (nomark _)) (pss_one (ps_dput hu (pv 2) pe_str (pe_op op_cat (pe_dget hu (pv 2) pe_str (fun _ _ => rfl)) (pe_lst (pa_cons (pe_callTy call_tuple_of (by rfl) B.tuple (by decide +kernel) (pa_cons (pv 1) pa_nil)) pa_nil))) rfl)) (pss_one (ps_if (pt_cmpR op_eq (pe_ix ix_list (pv 6) (pe_un un_neg pe_int) (fun _ _ => rfl)) pe_str (nomark _)) (pss_one (ps_asg (pe_tup (pa_cons (pe_op op_cat (pe_dget hu (pv 2) pe_str (fun _ _ => rfl)) (pe_lst (pa_cons (pe_callTy call_tuple_of (by rfl) B.tuple (by decide +kernel) (pa_cons (pe_dget hu (pv 2) pe_str (fun _ _ => rfl)) pa_nil)) pa_nil))) (pa_cons (pe_lst pa_nil) pa_nil))) (pg_tup rfl (pgs_cons (pg_sub (pv 2) pe_str (set_dict hu)) (pgs_cons (pg_sub (pv 2) pe_str (set_dict hu)) pgs_nil))))) (pss_cons (ps_set (i := 7) scDn.nd rfl (.inl rfl) (pe_op op_fdiv (pe_callB call_len_seq (by rfl) B.J.len PySem.boot_len (pa_cons (pe_dget hu (pv 2) pe_str (fun _ _ => rfl)) pa_nil)) (pv 4))) (pss_cons (ps_dput hu (pv 2) pe_str (pe_op op_cat (pe_dget hu (pv 2) pe_str (fun _ _ => rfl)) (pe_call GS hr rfl B.sli.g B.sli.k B.sli.b .nil pass0 (pa_cons (pe_dget hu (pv 2) pe_str (fun _ _ => rfl)) (pa_cons (pv 4) (pa_cons (pv 7) pa_nil))))) rfl) (pss_one (ps_dput hu (pv 2) pe_str (pe_slice sl_list (pe_dget hu (pv 2) pe_str (fun _ _ => rfl)) (po_some (pe_op op_mul (pv 7) (pv 4))) po_none) rfl)))))))))))))) (pss_one (ps_ret pe_str))), ?_⟩
    case imp =>
      rintro σ H1 Q1 ⟨q, ga, b, wd, got, x, g, ov, said, wide, h6, h1, h2, h3, h4, hp, hq, hga, hB, k⟩
      refine ⟨_, h6, q, _, rfl, .inl (SqL.of hq), rfl, _, rfl, ?_⟩
      rw [dI]
      rcases hp.p with ⟨e1, e2⟩ | ⟨e1, e2, e3⟩
      · rw [e2, decide_eq_false (by show ¬ ((1 : Int)) = 2; decide)]
        have k1 := k H1 (Same.refl _)
        rw [e1, emp, pass_0] at k1
        exact iteF k1
      · rw [e2, decide_eq_true (by show ((2 : Int)) = 2; rfl)]
        rw [e2] at hq
        refine iteT ⟨_, h6, q, _, 0, _, rfl, rfl, SqL.of hq, rfl, _, h1, _, h2, _, h3, _, h4, ga, b, _, got, x, g, ov, said, wide, rfl, e3, hga, hB, fun H2 s2 => ⟨_, rfl, k H2 s2⟩⟩
    have lw : (svs ws).length = ws.length := svs_len' ws
    refine ⟨_, rfl, wa, rfl, ⟨_, SqL.of hwa⟩, ?_⟩
    obtain ⟨r0, u0, vs0, hb0, _⟩ := id hB.ex
    have nj : ∀ {Hx : Hp} {q : Addr}, Off b H Hx → Hx q = none → q ≠ j := fun {Hx q} o n z => by
      obtain ⟨a1, a2, a3, hj⟩ := hJ
      have e := o j _ (ne_of hj hb0 (by intro z; cases z)) hj
      rw [z, e] at n
      cases n
    have wb : wa ≠ b := ne_of hwa hb0 (by intro z; cases z)
    have gb : ga ≠ b := ne_of hga hb0 (by intro z; cases z)
    refine for_list (K := K) (a := wa) (xs := svs ws) (fun i σ H' => ∃ v5 v6 v7, σ = [some (.ref wa), some (.ref ga), some (.ref b), some (.bl said), some (.int wide), v5, v6, v7] ∧ Off b H H' ∧ BoxJ j H' b (runW wide got said ((ords ws).take i) x).1 g ov ∧ goes wide got said ((ords ws).take i) x = true) ⟨none, none, none, rfl, Off.refl, hB, rfl⟩ (fun i σ H' _ ⟨_, _, _, _, o1, _⟩ => SqL.of (o1 _ _ wb hwa)) ?_ ?_
    · rintro i y σ H1 hy ⟨v5, v6, v7, rfl, o1, B1, g1⟩
      obtain ⟨wd, hwi, rfl⟩ := svs_get hy
      have hod : (ords ws)[i]? = some (orderOf wd) := by rw [ords, List.getElem?_map, hwi]; rfl
      have lo : (ords ws).length = ws.length := List.length_map ..
      have li : i < (ords ws).length := lt_of_get hod
      have Wz := hwd wd (List.mem_of_getElem? hwi)
      have hP := parts_of Wz
      have hL : wd.length ≤ 11 := (wd_fs Wz).2
      refine ⟨_, rfl, ⟨_, rfl⟩, wd, ":", rfl, rfl, by decide +kernel, Nat.le_trans (Nat.add_le_add_right hL 2) (by decide), fun q nq => ?_⟩
      have s2 : Same H1 (upd H1 q (.lst (svs (Txt.split wd ":")))) := same_new nq
      have hq2 : (upd H1 q (.lst (svs (Txt.split wd ":")))) q = some (.lst (svs (Txt.split wd ":"))) := upd_same
      show tSeq _ _ _ _ (upd H1 q (.lst (svs (Txt.split wd ":"))))
      generalize upd H1 q (.lst (svs (Txt.split wd ":"))) = H2 at s2 hq2 ⊢
      have B2 := B1.same s2
      have o2 : Off b H H2 := o1.trans (Same.off s2)
      -- the mathematics of this word
      have tk : (ords ws).take (i + 1) = (ords ws).take i ++ [orderOf wd] := take_snoc hod
      have rg := run_goes wide got said ((ords ws).take i) [orderOf wd] x g1
      rw [← tk] at rg
      have rw1 : ords ws = (ords ws).take i ++ (orderOf wd :: (ords ws).drop (i + 1)) := by
        have e := List.take_append_drop i (ords ws)
        rw [List.drop_eq_getElem_cons li] at e
        have : (ords ws)[i] = orderOf wd := (List.getElem?_eq_some_iff.mp hod).2
        rw [this] at e
        exact e.symm
      have rgs := (run_goes wide got said ((ords ws).take i) (orderOf wd :: (ords ws).drop (i + 1)) x g1).1
      rw [← rw1] at rgs
      have fe := few_run (told := said) hF.s1 hF.h ((ords ws).take i) kk cc x hF.f
      have lt : ((ords ws).take i).length ≤ 12 := by rw [List.length_take]; omega
      have fk : FitK wide got (kk + 12) (cc + 12 * (kk + 12)) (runW wide got said ((ords ws).take i) x).1 := ⟨hF.s1, hF.s2, hF.h, by omega, by omega, fe.mono (by omega) (Nat.add_le_add_left (Nat.mul_le_mul lt (by omega)) _)⟩
      generalize hy0 : (runW wide got said ((ords ws).take i) x).1 = y at rg rgs fk B1 B2
      have r1e := rg.1
      have r2e := rg.2.1
      obtain ⟨pre, hpre⟩ := parts_last hP
      have sR := hP.s
      have hqd : orderOf wd = ((orderOf wd).1, (orderOf wd).2) := rfl
      rw [hqd, runW_cons] at rgs
      rw [hqd, runW_cons] at r1e
      rw [hqd, goes_cons] at r2e
      have hga2 := o2 _ _ gb hga
      refine ⟨q, ga, b, wd, got, y, g, ov, said, wide, rfl, rfl, rfl, rfl, rfl, hP, hq2, hga2, B2.at, fun H3 s3 => ?_⟩
      have B3 := B2.same s3
      have o3 : Off b H H3 := o2.trans (Same.off s3)
      have hq3 := s3 _ _ hq2
      have hga3 := s3 _ _ hga2
      rw [hpre] at hq3
      generalize (orderOf wd).1 = t1 at rgs r1e r2e ⊢
      generalize (orderOf wd).2 = s1 at rgs r1e r2e sR hq3 ⊢
      clear hq2 hga2 B2 o2 s2 s3 hP hpre rg rw1 hqd hod
      by_cases cp : passM wide got said t1 y.rest = true
      rotate_left
      · rw [Bool.eq_false_iff.mpr cp]
        rw [if_neg cp] at r1e r2e
        exact iteT ⟨_, _, _, rfl, o3, by rw [r1e]; exact B3, r2e⟩
      rw [cp]
      rw [if_pos cp] at rgs r1e r2e
      refine iteF ?_
      -- stop, again
      refine ⟨_, rfl, _, rfl, q, _, -1, _, rfl, rfl, SqL.of hq3, atI_last _ _, (by show 2 ≤ sizeLine; decide), fun l nl => ⟨l, _, rfl, .inl (SqL.of upd_same), rfl, rfl, _, rfl, ?_⟩⟩
      have s4 : Same H3 (upd H3 l (.lst [.str "stop", .str "again"])) := same_new nl
      generalize upd H3 l (.lst [.str "stop", .str "again"]) = H4 at s4 ⊢
      have B4 := B3.same s4
      have o4 : Off b H H4 := o3.trans (Same.off s4)
      have hq4 := s4 _ _ hq3
      have hga4 := s4 _ _ hga3
      clear B3 o3 hq3 hga3 s4
      rw [show (if false = true then !inV (V.str s1) [V.str "stop", V.str "again"] else inV (V.str s1) [V.str "stop", V.str "again"]) = decide (s1 = "stop" ∨ s1 = "again") from in2 ..]
      by_cases cs : s1 = "stop" ∨ s1 = "again"
      · rw [decide_eq_true cs]
        refine iteT ⟨_, rfl, _, rfl, q, _, -1, _, rfl, rfl, SqL.of hq4, atI_last _ _, ?_⟩
        refine k _ _ o4 ?_ ?_
        · rw [rgs]
          split
          · exact B4
          · rcases cs with c | c
            · rw [if_pos c]; exact B4
            · exact absurd c ‹_›
        · rw [rgs]
          rcases cs with c | c
          · rw [c, if_neg (by decide +kernel), if_pos rfl]
            rfl
          · rw [c, if_pos rfl]
            show decide (("again" : Str) = "stop") = false
            decide +kernel
      rw [decide_eq_false cs]
      refine iteF ?_
      have c1 : ¬ s1 = "again" := fun z => cs (.inr z)
      have c2 : ¬ s1 = "stop" := fun z => cs (.inl z)
      rw [if_neg c1, if_neg c2] at r1e r2e
      obtain ⟨r4, u4, vs4, hb4, hr4, hu4, hP4, nr4, nu4⟩ := id B4.ex
      have fit := fk.fit
      have f1 := fit.r
      have f2 := fit.p
      have f3 := fit.h
      have f4 := fit.s1
      have f5 := fit.s2
      have lp4 := hP4.len
      have done : ∀ H5 v5 v6 v7, Off b H H5 → BoxJ j H5 b (perfM wide got s1 y) g ov → ∃ w5 w6 w7 : Option V, ([some (.ref wa), some (.ref ga), some (.ref b), some (.bl said), some (.int wide), v5, v6, v7] : St) = [some (.ref wa), some (.ref ga), some (.ref b), some (.bl said), some (.int wide), w5, w6, w7] ∧ Off b H H5 ∧ BoxJ j H5 b (runW wide got said ((ords ws).take (i + 1)) x).1 g ov ∧ goes wide got said ((ords ws).take (i + 1)) x = true := fun H5 v5 v6 v7 o5 B5 => ⟨_, _, _, rfl, o5, by rw [r1e]; exact B5, r2e⟩
      refine ⟨_, rfl, _, rfl, q, _, -1, _, rfl, rfl, SqL.of hq4, atI_last _ _, rfl, _, rfl, ?_⟩
      rw [dS]
      by_cases ca : s1 = "add"
      · rw [decide_eq_true ca]
        refine iteT ⟨_, rfl, b, _, rfl, get_r hb4, _, rfl, r4, ga, _, _, rfl, rfl, hr4, hga4, ?_, fun p np => ?_⟩
        · rw [ivs_len, ivs_len]
          exact Nat.le_trans (show y.rest.length + got.length ≤ 4000000 by omega) (by decide)
        have hb5 := same_new (o := .lst (ivs y.rest ++ ivs got)) np _ _ hb4
        refine ⟨_, rfl, b, _, rfl, dput_r p hb5, ?_⟩
        refine done _ _ _ _ (o4.new np).put ?_
        have e : perfM wide got s1 y = ⟨y.rest ++ got, y.pieces⟩ := by unfold perfM; rw [if_pos ca]
        rw [e]
        exact box_put (x := y) (H1 := H4) hb5 (by rw [upd_same]; simp [ivs]) (same_new np _ _ hu4) (hP4.same (same_new np)) (nj o4 np) nu4
      rw [decide_eq_false ca]
      refine iteF ⟨_, rfl, _, rfl, q, _, -1, _, rfl, rfl, SqL.of hq4, atI_last _ _, rfl, _, rfl, ?_⟩
      rw [dS]
      by_cases ch : s1 = "hand"
      · rw [decide_eq_true ch]
        refine iteT ⟨_, rfl, b, _, rfl, get_u hb4, _, rfl, ga, _, rfl, .inl ⟨SqL.of hga4, fun tq ntq => ?_⟩⟩
        refine ⟨(by show 1 ≤ sizeLine; decide), fun lq nlq => ?_⟩
        refine ⟨u4, lq, _, _, rfl, rfl, same_new nlq _ _ (same_new ntq _ _ hu4), upd_same, ?_, fun p np => ?_⟩
        · rw [lp4]
          exact Nat.le_trans (show y.pieces.length + 1 ≤ 9000000 by omega) (by decide)
        have s5 : Same H4 (upd (upd (upd H4 tq (.tup (ivs got))) lq (.lst [.ref tq])) p (.lst (vs4 ++ [.ref tq]))) := Same.trans (same_new ntq) (Same.trans (same_new nlq) (same_new np))
        have hb5 := s5 _ _ hb4
        refine ⟨_, rfl, b, _, rfl, dput_u p hb5, ?_⟩
        refine done _ _ _ _ (o4.trans (Same.off s5)).put ?_
        have e : perfM wide got s1 y = ⟨y.rest, y.pieces ++ [got]⟩ := by unfold perfM; rw [if_neg ca, if_pos ch]
        rw [e]
        exact box_put (x := y) (H1 := H4) hb5 (s5 _ _ hr4) upd_same (Pcs.snoc (same_new np _ _ (same_new nlq _ _ upd_same)) (hP4.same s5)) nr4 (nj (o4.trans (Same.off (Same.trans (same_new ntq) (same_new nlq)))) np)
      rw [decide_eq_false ch]
      refine iteF ⟨_, rfl, _, rfl, q, _, -1, _, rfl, rfl, SqL.of hq4, atI_last _ _, rfl, _, rfl, ?_⟩
      rw [dS]
      by_cases cf : s1 = "flush"
      · rw [decide_eq_true cf]
        have cc' : ¬ s1 = "cut" := by rw [cf]; decide +kernel
        refine iteT ⟨_, rfl, b, _, rfl, get_u hb4, _, rfl, b, _, rfl, get_r hb4, r4, _, rfl, .inl ⟨SqL.of hr4, fun tq ntq => ?_⟩⟩
        refine ⟨(by show 1 ≤ sizeLine; decide), fun lq nlq => ?_⟩
        refine ⟨u4, lq, _, _, rfl, rfl, same_new nlq _ _ (same_new ntq _ _ hu4), upd_same, ?_, fun p np => ?_⟩
        · rw [lp4]
          exact Nat.le_trans (show y.pieces.length + 1 ≤ 9000000 by omega) (by decide)
        have s5 : Same H4 (upd (upd (upd H4 tq (.tup (ivs y.rest))) lq (.lst [.ref tq])) p (.lst (vs4 ++ [.ref tq]))) := Same.trans (same_new ntq) (Same.trans (same_new nlq) (same_new np))
        have hp5 : (upd (upd (upd H4 tq (.tup (ivs y.rest))) lq (.lst [.ref tq])) p (.lst (vs4 ++ [.ref tq]))) p = some (.lst (vs4 ++ [.ref tq])) := upd_same
        have ht5 : (upd (upd (upd H4 tq (.tup (ivs y.rest))) lq (.lst [.ref tq])) p (.lst (vs4 ++ [.ref tq]))) tq = some (.tup (ivs y.rest)) := same_new np _ _ (same_new nlq _ _ upd_same)
        generalize upd (upd (upd H4 tq (.tup (ivs y.rest))) lq (.lst [.ref tq])) p (.lst (vs4 ++ [.ref tq])) = H5 at s5 hp5 ht5 ⊢
        refine ⟨Nat.zero_le _, fun e5 ne5 => ?_⟩
        refine ⟨(by show 2 ≤ sizeLine; decide), fun tt ntt => ?_⟩
        have s6 : Same H4 (upd (upd H5 e5 (.lst [])) tt (.tup [.ref p, .ref e5])) := Same.trans s5 (Same.trans (same_new ne5) (same_new ntt))
        refine ⟨tt, _, rfl, SqT.of upd_same, rfl, _, _, rfl, ?_⟩
        have hb6 := s6 _ _ hb4
        refine ⟨_, rfl, b, _, rfl, dput_u p hb6, ?_⟩
        refine ⟨_, _, rfl, ?_⟩
        have he6 : (upd (upd H5 e5 (.lst [])) tt (.tup [.ref p, .ref e5])) e5 = some (.lst (ivs [])) := same_new ntt _ _ upd_same
        have hp6 := same_new (o := .tup [.ref p, .ref e5]) ntt _ _ (same_new (o := .lst []) ne5 _ _ hp5)
        have ht6 := same_new (o := .tup [.ref p, .ref e5]) ntt _ _ (same_new (o := .lst []) ne5 _ _ ht5)
        have o6 := o4.trans (Same.off s6)
        have hP6 := hP4.same s6
        generalize upd (upd H5 e5 (.lst [])) tt (.tup [.ref p, .ref e5]) = H6 at s6 hb6 he6 hp6 ht6 o6 hP6 ⊢
        have pb6 : p ≠ b := ne_of hp6 hb6 (by intro z; cases z)
        have e5b : e5 ≠ b := ne_of he6 hb6 (by intro z; cases z)
        refine ⟨_, rfl, b, _, rfl, dput_r e5 upd_same, rfl, ?_⟩
        refine done _ _ _ _ o6.put.put ?_
        have e : perfM wide got s1 y = ⟨[], y.pieces ++ [y.rest]⟩ := by unfold perfM; rw [if_neg ca, if_neg ch, if_neg cc', if_pos cf]
        rw [e]
        exact box_put (x := y) (H1 := H4) upd_same (by rw [upd_ne e5b]; exact he6) (by rw [upd_ne pb6]; exact hp6) ((Pcs.snoc ht6 hP6).mono (tup_stays hb6 (by intro xs z; cases z))) (nj (o4.trans (Same.off s5)) ne5) (nj (o4.trans (Same.off (Same.trans (same_new ntq) (same_new nlq)))) np)
      rw [decide_eq_false cf]
      refine iteF ?_
      have ccut : s1 = "cut" := by
        have h5 : s1 = "add" ∨ s1 = "hand" ∨ s1 = "cut" ∨ s1 = "flush" ∨ s1 = "stop" ∨ s1 = "again" := by simpa [rsteps] using sR
        rcases h5 with h | h | h | h | h | h
        · exact absurd h ca
        · exact absurd h ch
        · exact h
        · exact absurd h cf
        · exact absurd h c2
        · exact absurd h c1
      have le : y.rest.length / wide * wide ≤ y.rest.length := Nat.div_mul_le_self _ _
      refine ⟨_, rfl, b, _, rfl, get_r hb4, r4, _, rfl, .inl (SqL.of hr4), _, rfl, _, _, rfl, rfl, ⟨by omega, by omega⟩, ?_⟩
      have eq1 : ((ivs y.rest).length : Int) / (wide : Int) = ((y.rest.length / wide : Nat) : Int) := by rw [ivs_len, Int.natCast_ediv]
      simp only [eq1]
      have eperf : perfM wide got s1 y = ⟨y.rest.drop (y.rest.length / wide * wide), y.pieces ++ cutN wide y.rest (y.rest.length / wide)⟩ := by unfold perfM; rw [if_neg ca, if_neg ch, if_pos ccut]
      have qle : y.rest.length / wide ≤ y.rest.length := Nat.div_le_self _ _
      generalize y.rest.length / wide = qn at le eperf qle ⊢
      refine ⟨_, rfl, b, _, rfl, get_u hb4, _, rfl, b, _, rfl, get_r hb4, _, rfl, _, rfl, r4, y.rest, wide, qn, rfl, hr4, f5, le, by omega, by omega, fun H5 lq vq s5 hlq hPq => ?_⟩
      have lpq := hPq.len
      refine ⟨u4, lq, _, _, rfl, rfl, s5 _ _ hu4, hlq, ?_, fun p np => ?_⟩
      · rw [lp4, lpq, cutN, List.length_map, List.length_range]
        exact Nat.le_trans (show y.pieces.length + qn ≤ 12000000 by omega) (by decide)
      have s6 : Same H4 (upd H5 p (.lst (vs4 ++ vq))) := Same.trans s5 (same_new np)
      have hb6 := s6 _ _ hb4
      refine ⟨_, rfl, b, _, rfl, dput_u p hb6, ?_⟩
      have hp6 : (upd H5 p (.lst (vs4 ++ vq))) p = some (.lst (vs4 ++ vq)) := upd_same
      have hP6 : Pcs (upd H5 p (.lst (vs4 ++ vq))) (vs4 ++ vq) (y.pieces ++ cutN wide y.rest qn) := (hP4.same s6).app (hPq.same (same_new np))
      have o6 := o4.trans (Same.off s6)
      have hr6 := s6 _ _ hr4
      generalize upd H5 p (.lst (vs4 ++ vq)) = H6 at s6 hb6 hp6 hP6 o6 hr6 ⊢
      have r4b : r4 ≠ b := ne_of hr6 hb6 (by intro z; cases z)
      have pb : p ≠ b := ne_of hp6 hb6 (by intro z; cases z)
      refine ⟨_, rfl, b, _, rfl, get_r upd_same, _, rfl, _, rfl, _, _, rfl, rfl, .inr ⟨by omega, by omega⟩, ((qn * wide : Nat) : Int), by rw [Int.natCast_mul], r4, _, rfl, SqL.of (by rw [upd_ne r4b]; exact hr6), fun p2 np2 => ?_⟩
      rw [cut_from]
      have hb7 : (upd (upd H6 b (.dK (bx r4 p g ov))) p2 (.lst ((ivs y.rest).drop (qn * wide)))) b = some (.dK (bx r4 p g ov)) := same_new np2 _ _ upd_same
      refine ⟨_, rfl, b, _, rfl, dput_r p2 hb7, ?_⟩
      refine done _ _ _ _ (o6.put.new np2).put ?_
      rw [eperf]
      exact box_put (x := y) (H1 := H4) hb7 (by rw [upd_same]; simp [ivs, List.map_drop]) (same_new np2 _ _ (by rw [upd_ne pb]; exact hp6)) ((hP6.mono (tup_stays hb6 (by intro xs z; cases z))).same (same_new np2)) (nj o6.put np2) (nj (o4.trans (Same.off s5)) np)
    · rintro σ H1 ⟨v5, v6, v7, rfl, o1, B1, g1⟩
      have lo : (ords ws).length = ws.length := List.length_map ..
      rw [lw, ← lo, List.take_length] at B1 g1
      refine k _ _ o1 B1 ?_
      rw [(run_goes wide got said (ords ws) [] x g1).2.2]
      decide +kernel
end
end My

namespace My
open PySem L2 Cm LM EM
/-! ### the same, as the program's -/
def itemsL (f c : Nat) : List Int := (List.range c).map fun i => (f : Int) + (i : Nat)
theorem rgV_itemsL (f c : Nat) : rgV (f : Int) ((f : Int) + (c : Int)) = ivs (itemsL f c) := by
  unfold rgV itemsL ivs
  rw [show ((f : Int) + (c : Int) - (f : Int)).toNat = c by omega, List.map_map]
  rfl
theorem itemsL_len (f c : Nat) : (itemsL f c).length = c := by rw [itemsL, List.length_map, List.length_range]
theorem run_ask {wide : Nat} {got : List Int} {said : Bool} {r : List Str} {x : RP} : runW wide got said (ords (("ask" : Str) :: r)) x = runW wide got said (ords r) x := by
  show runW wide got said (orderOf "ask" :: ords r) x = _
  rw [ask_order, runW_cons, pass_0, if_pos rfl, if_neg (by decide +kernel), if_neg (by decide +kernel)]
  have e : perfM wide got "ask" x = x := by
    unfold perfM
    rw [if_neg (by decide +kernel), if_neg (by decide +kernel), if_neg (by decide +kernel), if_neg (by decide +kernel)]
  rw [e]
theorem run_end {wide : Nat} {got : List Int} {said : Bool} : ∀ {os : List (Str × Str)} {x : RP}, (∀ o ∈ os, o.2 ≠ "again" ∧ o.2 ≠ "stop") → runW wide got said os x = (endW wide got said os x, false)
  | [], _, _ => rfl
  | (t, s) :: r, x, h => by
    have h1 := h (t, s) (List.mem_cons_self ..)
    have ih := fun x => run_end (wide := wide) (got := got) (said := said) (os := r) (x := x) fun o ho => h o (List.mem_cons_of_mem _ ho)
    rw [runW_cons]
    show _ = (endW wide got said r (if passM wide got said t x.rest = true then perfM wide got s x else x), false)
    by_cases c : passM wide got said t x.rest = true
    · rw [if_pos c, if_pos c, if_neg h1.1, if_neg h1.2]
      exact ih _
    · rw [if_neg c, if_neg c]
      exact ih _
theorem jar_n {H : Hp} {j p : Addr} (a : Jar H j) (n : H p = none) : p ≠ j := fun z => by
  obtain ⟨x, y, w, h⟩ := a
  rw [z, h] at n
  cases n
section
variable {P : Program} {w : World} {K : PySem.W.Frag} {mg : Str → Option Value} {base : Heap}
/-! ### _law_fed -/
def spFd (j : Addr) : Sp := fun vs H Q _ => ∃ (ma a b0 b : Addr) (B E : List Str) (x : RP) (g : Nat) (ov said : Bool) (many wide k c : Nat), vs = [.ref ma, .ref b, .int many, .bl said, .int wide] ∧ H ma = some (.tup [.ref a, .ref b0]) ∧ H a = some (.lst (svs B)) ∧ H b0 = some (.lst (svs E)) ∧ isRound B = true ∧ isEnding E = true ∧ BoxJ j H b x g ov ∧ Jar H j ∧ 1 ≤ wide ∧ wide ≤ 1000 ∧ many ≤ wide ∧ g ≤ 1000000 ∧ Few wide k c x ∧ k ≤ 2300 ∧ c ≤ 7700000 ∧
  ∀ (H' : Hp) (d : Addr), Same H H' → H d = none → BoxJ j H' d (ansM wide (ords B) (ords E) (itemsL g many) said x).1 (g + many) (ansM wide (ords B) (ords E) (itemsL g many) said x).2 → Q (.ref d) H'
theorem scFd : FnScope ["_law_made", "_law_box_here", "_law_many", "_law_said", "_law_wide", "_law_begun", "_law_ended", "_law_after", "_law_got"] ["_law_made", "_law_box_here", "_law_many", "_law_said", "_law_wide"] (defScope sFed) := ⟨rfl, rfl, rfl, by decide +kernel, rfl, by decide +kernel, by decide +kernel⟩
theorem ok_fd (B : TxB K mg) (j : Addr) : FnOk P w K mg base CX0 3 B.fed.f B.fed.fd ["_law_made", "_law_box_here", "_law_many", "_law_said", "_law_wide"] (spFd j) := by
  have GD : FnOk P w K mg base CX0 2 B.don.f B.don.fd ["_law_words_here", "_law_got", "_law_box_here", "_law_said", "_law_wide"] (spDn j) := ok_dn B j
  refine B.fed.F.ok scFd (fun vs H Q E h => ?_) (fun cdv A outer s H vs Q E hr h => ?_)
  · obtain ⟨ma, a, b0, b, Bg, En, x, g, ov, said, many, wide, k, c, rfl, _⟩ := h
    rfl
  · obtain ⟨ma, a, b0, b, Bg, En, x, g, ov, said, many, wide, kk, cc, rfl, hma, ha, hb0, rB, rE, hB, hJ, w1, w2, m1, g1, hF, hk, hc, k⟩ := h
    have hu := hu_of hr
    refine ⟨_, (pss_cons (ps_asg (pv 0) (pg_tup rfl (pgs_cons (pg_name (i := 5) scFd.nd rfl (.inl rfl)) (pgs_cons (pg_name (i := 6) scFd.nd rfl (.inl rfl)) pgs_nil)))) (pss_cons (ps_set (i := 7) scFd.nd rfl (.inl rfl) (pe_disp (pps_cons pe_str (pe_callTy call_list_of (by rfl) B.list (by decide +kernel) (pa_cons (pe_dget hu (pv 1) pe_str (fun _ _ => rfl)) pa_nil)) (pps_cons pe_str (pe_callTy call_list_of (by rfl) B.list (by decide +kernel) (pa_cons (pe_dget hu (pv 1) pe_str (fun _ _ => rfl)) pa_nil)) (pps_cons pe_str (pe_op op_add (pe_dget hu (pv 1) pe_str (fun _ _ => rfl)) (pv 2)) (pps_cons pe_str pe_bl pps_nil)))) (by rfl) (by rfl) (fun z => by cases z) (by decide))) (pss_cons (ps_set (i := 8) scFd.nd rfl (.inl rfl) (pe_listRg rfl rfl B.list (prg_2 rfl B.range (pe_dget hu (pv 1) pe_str (fun _ _ => rfl)) (pe_op op_add (pe_dget hu (pv 1) pe_str (fun _ _ => rfl)) (pv 2))))) (pss_cons (ps_if (pt_cmpR op_eq (pe_call GD hr rfl B.don.g B.don.k B.don.b .nil pass0 (pa_cons (pe_slice sl_list (pv 5) (po_some pe_int) po_none) (pa_cons (pv 8) (pa_cons (pv 7) (pa_cons (pv 3) (pa_cons (pv 4) pa_nil)))))) pe_str (nomark _)) (pss_cons (ps_expr (pe_call GD hr rfl B.don.g B.don.k B.don.b .nil pass0 (pa_cons (pv 6) (pa_cons (pv 8) (pa_cons (pv 7) (pa_cons (pv 3) (pa_cons (pv 4) pa_nil))))))) (pss_one (ps_dput hu (pv 7) pe_str pe_bl rfl))) pss_nil) (pss_one (ps_ret (pv 7))))))), ?_⟩
    refine ⟨_, rfl, ma, _, rfl, SqT.of hma, rfl, _, _, rfl, _, _, rfl, rfl, ?_⟩
    obtain ⟨r, u, vs, hb, hr1, hu1, hP, nr0, nu0⟩ := id hB.ex
    -- the new box
    intro d nd
    have nda : ∀ {q : Addr} {o : HO}, H q = some o → q ≠ d := fun h => ne_of_none h nd
    have s0 : Same H (upd H d (.dK [])) := same_new nd
    refine ⟨_, rfl, b, _, rfl, get_r (s0 _ _ hb), r, _, rfl, .inl (SqL.of (s0 _ _ hr1)), fun r2 nr2 => ?_⟩
    refine ⟨_, rfl, b, _, rfl, get_u (same_new nr2 _ _ (s0 _ _ hb)), u, _, rfl, .inl (SqL.of (same_new nr2 _ _ (s0 _ _ hu1))), fun u2 nu2 => ?_⟩
    refine ⟨_, rfl, b, _, rfl, get_g (same_new nu2 _ _ (same_new nr2 _ _ (s0 _ _ hb))), _, rfl, _, _, rfl, rfl, ?_⟩
    refine ⟨same_new nu2 _ _ (same_new nr2 _ _ upd_same), bx r2 u2 (g + many) false, ?_, (by rw [bx_len]; decide), ?_⟩
    · simp [bx, kV]
    rw [bx_mk]
    have r2d : r2 ≠ d := fun z => by rw [z, upd_same] at nr2; cases nr2
    have u2r : u2 ≠ r2 := fun z => by rw [z, upd_same] at nu2; cases nu2
    have u2d : u2 ≠ d := fun z => by rw [z, upd_ne r2d.symm, upd_same] at nu2; cases nu2
    have s1 : Same H (upd (upd (upd (upd H d (.dK [])) r2 (.lst (ivs x.rest))) u2 (.lst vs)) d (.dK (bx r2 u2 (g + many) false))) := fun q o e => by
      rw [upd_ne (nda e)]
      exact same_new nu2 _ _ (same_new nr2 _ _ (s0 _ _ e))
    have X1 : BoxJ j (upd (upd (upd (upd H d (.dK [])) r2 (.lst (ivs x.rest))) u2 (.lst vs)) d (.dK (bx r2 u2 (g + many) false))) d x (g + many) false := by
      refine ⟨r2, u2, vs, upd_same, ?_, ?_, hP.same s1, jar_n (hJ.same s0) nr2, jar_n ((hJ.same s0).same (same_new nr2)) nu2⟩
      · rw [upd_ne r2d, upd_ne u2r.symm, upd_same]
      · rw [upd_ne u2d, upd_same]
    generalize upd (upd (upd (upd H d (.dK [])) r2 (.lst (ivs x.rest))) u2 (.lst vs)) d (.dK (bx r2 u2 (g + many) false)) = H1 at s1 X1 ⊢
    -- the items
    have hb1 := s1 _ _ hb
    refine ⟨_, rfl, b, _, rfl, get_g hb1, _, rfl, b, _, rfl, get_g hb1, _, rfl, _, _, rfl, rfl, _, _, rfl, rfl, RgOk.of_le (by omega) (by omega) (by omega) (by omega), fun ga nga => ?_⟩
    rw [rgV_itemsL]
    have s2 : Same H1 (upd H1 ga (.lst (ivs (itemsL g many)))) := same_new nga
    have hga : (upd H1 ga (.lst (ivs (itemsL g many)))) ga = some (.lst (ivs (itemsL g many))) := upd_same
    show tSeq _ _ _ _ (upd H1 ga (.lst (ivs (itemsL g many))))
    generalize upd H1 ga (.lst (ivs (itemsL g many))) = H2 at s2 hga ⊢
    have X2 := X1.same s2
    have s12 := Same.trans s1 s2
    obtain ⟨rw0, eB, hwd, lrw⟩ := round_tail_wd rB
    subst eB
    -- the round
    refine ⟨_, rfl, 1, rfl, a, _, rfl, SqL.of (s12 _ _ ha), fun p np => ?_⟩
    rw [show (1 : Int) = ((1 : Nat) : Int) from rfl, cut_from]
    have ecut : (svs (("ask" : Str) :: rw0)).drop 1 = svs rw0 := rfl
    rw [ecut]
    have s3 : Same H2 (upd H2 p (.lst (svs rw0))) := same_new np
    have FK : FitK wide (itemsL g many) kk cc x := ⟨w1, w2, by rw [itemsL_len]; exact m1, by omega, by omega, hF⟩
    refine ⟨_, rfl, _, rfl, _, rfl, _, rfl, p, ga, d, rw0, itemsL g many, x, g + many, false, said, wide, kk, cc, rfl, upd_same, hwd, by omega, s3 _ _ hga, X2.same s3, hJ.same (Same.trans s12 s3), FK, by omega, by omega, fun H3 z o3 X3 hz => ?_⟩
    have nd1 : ∀ {q : Addr} {o : HO}, H q = some o → H3 q = some o := fun e => o3 _ _ (nda e) (s3 _ _ (s12 _ _ e))
    have dga : ga ≠ d := by
      obtain ⟨_, _, _, hd1, _⟩ := X1.ex
      exact fun e => by rw [e, hd1] at nga; cases nga
    have hga3 := o3 _ _ dga (s3 _ _ hga)
    refine ⟨rfl, _, rfl, ?_⟩
    rw [dS, hz]
    have ra : runW wide (itemsL g many) said (ords (("ask" : Str) :: rw0)) x = runW wide (itemsL g many) said (ords rw0) x := run_ask
    unfold ansM at k
    rw [ra] at k
    have sN : Same H H3 := fun q o e => nd1 e
    cases hst : (runW wide (itemsL g many) said (ords rw0) x).2 with
    | false =>
      rw [hst, if_neg Bool.false_ne_true] at k
      refine iteF ⟨_, rfl, ?_⟩
      exact k H3 d sN nd X3
    | true =>
      rw [hst, if_pos rfl] at k
      refine iteT ?_
      have fe := few_run (told := said) w1 FK.h (ords rw0) kk cc x hF
      have lo : (ords rw0).length = rw0.length := List.length_map ..
      have l11 : (ords rw0).length ≤ 12 := by omega
      have FK3 : FitK wide (itemsL g many) (kk + 12) (cc + 12 * (kk + 12)) (runW wide (itemsL g many) said (ords rw0) x).1 := ⟨w1, w2, FK.h, by omega, by omega, fe.mono (by omega) (Nat.add_le_add_left (Nat.mul_le_mul l11 (by omega)) _)⟩
      have eW := ending_wd rE
      refine ⟨_, rfl, _, rfl, _, rfl, _, rfl, _, rfl, b0, ga, d, En, itemsL g many, _, g + many, false, said, wide, kk + 12, cc + 12 * (kk + 12), rfl, nd1 hb0, eW.1, by omega, hga3, X3, hJ.same sN, FK3, by omega, by omega, fun H4 z4 o4 X4 _ => ?_⟩
      rw [run_end (os := ords En) (ending_flow rE)] at X4
      obtain ⟨r4, u4, vs4, hd4, hr4, hu4, hP4, nr4, nu4⟩ := X4.ex
      refine ⟨_, rfl, d, _, rfl, dput_o true hd4, ?_⟩
      refine ⟨_, rfl, ?_⟩
      refine k _ d (fun q o e => ?_) nd ?_
      · rw [upd_ne (nda e)]
        exact o4 _ _ (nda e) (nd1 e)
      · have n1 : r4 ≠ d := ne_of hr4 hd4 (by intro z; cases z)
        have n2 : u4 ≠ d := ne_of hu4 hd4 (by intro z; cases z)
        exact ⟨r4, u4, vs4, upd_same, by rw [upd_ne n1]; exact hr4, by rw [upd_ne n2]; exact hu4, hP4.mono (tup_stays hd4 (by intro xs z; cases z)), nr4, nu4⟩
/-! ### _law_box -/
def spBx (j : Addr) : Sp := fun vs H Q _ => vs = [] ∧ Jar H j ∧ ∀ (H' : Hp) (d : Addr), Same H H' → H d = none → BoxJ j H' d ⟨[], []⟩ 0 false → Q (.ref d) H'
theorem scBx : FnScope [] [] (defScope sBox) := ⟨rfl, rfl, rfl, by decide +kernel, rfl, by decide +kernel, by decide +kernel⟩
theorem ok_bx (B : TxB K mg) (j : Addr) : FnOk P w K mg base CX0 1 B.box.f B.box.fd [] (spBx j) := by
  refine B.box.F.ok scBx (fun vs H Q E h => ?_) (fun cdv A outer s H vs Q E hr h => ?_)
  · obtain ⟨rfl, _⟩ := h
    rfl
  · obtain ⟨rfl, hJ, k⟩ := h
    refine ⟨_, (pss_one (ps_ret (pe_disp (pps_cons pe_str (pe_lst pa_nil) (pps_cons pe_str (pe_lst pa_nil) (pps_cons pe_str pe_int (pps_cons pe_str pe_bl pps_nil)))) (by rfl) (by rfl) (fun z => by cases z) (by decide)))), ?_⟩
    intro d nd
    refine ⟨Nat.zero_le _, fun r2 nr2 => ?_⟩
    refine ⟨Nat.zero_le _, fun u2 nu2 => ?_⟩
    refine ⟨same_new nu2 _ _ (same_new nr2 _ _ upd_same), bx r2 u2 0 false, ?_, (by rw [bx_len]; decide), ?_⟩
    · simp [bx, kV]
    rw [bx_mk]
    have r2d : r2 ≠ d := fun z => by rw [z, upd_same] at nr2; cases nr2
    have u2r : u2 ≠ r2 := fun z => by rw [z, upd_same] at nu2; cases nu2
    have u2d : u2 ≠ d := fun z => by rw [z, upd_ne r2d.symm, upd_same] at nu2; cases nu2
    refine k _ d (fun q o e => ?_) nd ⟨r2, u2, [], upd_same, ?_, ?_, .nil, jar_n (hJ.same (same_new nd)) nr2, jar_n ((hJ.same (same_new nd)).same (same_new nr2)) nu2⟩
    · rw [upd_ne (ne_of_none e nd)]
      exact same_new nu2 _ _ (same_new nr2 _ _ (same_new nd _ _ e))
    · rw [upd_ne r2d, upd_ne u2r.symm, upd_same]
      rfl
    · rw [upd_ne u2d, upd_same]
end
end My

/-! a row read by slices -/
namespace CoR
open PySem PySem.Builtin PySem.Builtin.Str PySem.StrLaws TL L2
theorem tl_cut (z : Str) (lo hi : Option Int) : tl (cutS z lo hi) = ((tl z).drop (HT.sIx z.length 0 lo)).take (HT.sIx z.length z.length hi - HT.sIx z.length 0 lo) := rfl
theorem cut_5 (z : Str) : tl (cutS z none (some 5)) = (tl z).take 5 := by
  rw [tl_cut, HT.sIx_none, List.drop_zero, show (5 : Int) = ((5 : Nat) : Int) from rfl, HT.sIx_nat, Nat.sub_zero, len_tl]
  by_cases h : (tl z).length ≤ 5
  · rw [Nat.min_eq_right h, List.take_of_length_le (Nat.le_refl _), List.take_of_length_le h]
  · rw [Nat.min_eq_left (by omega)]
theorem cut_5n (z : Str) : tl (cutS z (some 5) none) = (tl z).drop 5 := by
  rw [tl_cut, HT.sIx_none, show (5 : Int) = ((5 : Nat) : Int) from rfl, HT.sIx_nat, len_tl]
  by_cases h : (tl z).length ≤ 5
  · rw [Nat.min_eq_right h, List.drop_of_length_le (Nat.le_refl _), List.drop_of_length_le h, List.take_nil]
  · rw [Nat.min_eq_left (by omega), List.take_of_length_le (by rw [List.length_drop]; exact Nat.le_refl _)]
theorem sIx_m1 (n d : Nat) : HT.sIx n d (some (-1)) = n - 1 := by
  show (if (-1 : Int) < 0 then ((-1 : Int) + (n : Int)).toNat else min (-1 : Int).toNat n) = _
  rw [if_pos (by omega)]
  omega
theorem cut_5m (z : Str) : tl (cutS z (some 5) (some (-1))) = ((tl z).drop 5).dropLast := by
  rw [tl_cut, sIx_m1, show (5 : Int) = ((5 : Nat) : Int) from rfl, HT.sIx_nat, len_tl, List.dropLast_eq_take, List.length_drop]
  by_cases h : (tl z).length ≤ 5
  · rw [Nat.min_eq_right h, List.drop_of_length_le (Nat.le_refl _), List.drop_of_length_le h, List.take_nil, List.take_nil]
  · rw [Nat.min_eq_left (by omega)]
    have e : (tl z).length - 1 - 5 = (tl z).length - 5 - 1 := by omega
    rw [e]
/-- the digits that the law reads -/
def lawNum (z : Str) : Str := if (tl z).getLast? = some 33 then cutS z (some 5) (some (-1)) else cutS z (some 5) none
theorem last_drop {z : Str} (h : (tl z).take 5 = F) : (tl z).getLast? = some 33 ↔ ((tl z).drop 5).getLast? = some 33 := by
  have e : tl z = F ++ (tl z).drop 5 := by
    have := List.take_append_drop 5 (tl z)
    rw [h] at this
    exact this.symm
  generalize (tl z).drop 5 = d at e ⊢
  rw [e]
  cases d with
  | nil => decide
  | cons c r => rw [List.getLast?_append, List.getLast?_eq_some_getLast (by simp : c :: r ≠ [])]; rfl
theorem law_reply {z : Str} (h : (tl z).take 5 = F) : replyL (tl z) = if isC (tl (lawNum z)) = true then some (NumText.digitsVal (tl (lawNum z)), decide ((tl z).getLast? = some 33)) else none := by
  have l := last_drop h
  unfold replyL lawNum
  rw [if_pos h]
  by_cases c : (tl z).getLast? = some 33
  · simp only [if_pos c, decide_eq_true c, decide_eq_true (l.mp c), if_pos, cut_5m]
  · have c2 : ¬ ((tl z).drop 5).getLast? = some 33 := fun q => c (l.mpr q)
    simp only [if_neg c, decide_eq_false c, decide_eq_false c2, cut_5n, Bool.false_eq_true, if_false]
def digitsL : List Nat := [48, 49, 50, 51, 52, 53, 54, 55, 56, 57]
theorem mem_dg (c : Nat) : decide (c ∈ digitsL) = dg c := by
  unfold dg digitsL
  rw [← Bool.decide_and]
  refine decide_eq_decide.mpr ⟨fun h => ?_, fun ⟨h1, h2⟩ => ?_⟩
  · simp only [List.mem_cons, List.mem_nil_iff, or_false] at h
    omega
  · simp only [List.mem_cons, List.mem_nil_iff, or_false]
    omega
/-- the law's word on digits -/
def badNum (d : List Nat) : Bool := decide (d = []) || ((d.map fun c => !decide (c ∈ digitsL)).any id || (decide (d.head? = some 48) && !decide (d = [48])))
theorem bad_isC (d : List Nat) : badNum d = !isC d := by
  have e : (d.map fun c => !decide (c ∈ digitsL)).any id = !d.all dg := by
    induction d with
    | nil => rfl
    | cons c r ih =>
      rw [List.map_cons, List.any_cons, List.all_cons, ih, mem_dg, Bool.not_and]
      rfl
  unfold badNum isC
  rw [e]
  cases d with
  | nil => rfl
  | cons c r =>
    cases (c :: r).all dg <;> cases decide ((c :: r) = [48]) <;> cases decide ((c :: r).head? = some 48) <;> simp
theorem asc_it {xs : List Int} : LM.Asc (itT xs) := by
  unfold itT
  split
  · show PyData.strOk _ = true
    decide +kernel
  · rw [LM.asc_iff, TL.join_eq, tl_join]
    intro c hc
    rcases LM.joinL_mem hc with h1 | ⟨p, hp, h1⟩
    · have : c = 44 := by
        rw [show tl ("," : Str) = [44] by decide +kernel] at h1
        simpa using h1
      omega
    · obtain ⟨w, hw, rfl⟩ := List.mem_map.mp hp
      obtain ⟨i, hi, rfl⟩ := List.mem_map.mp hw
      exact LM.asc_iff.mp (SkT.ok_of _) c h1
theorem asc_pc {ps : List (List Int)} : LM.Asc (pcT ps) := by
  unfold pcT
  split
  · show PyData.strOk _ = true
    decide +kernel
  · refine LM.asc_join fun w hw => ?_
    obtain ⟨x, _, rfl⟩ := List.mem_map.mp hw
    exact asc_it
end CoR

/-! consoles: the law's texts, its rows -/
namespace My
open PySem L2 Cm LM EM RpA
abbrev sTx : Stmt := top 69
abbrev sFD : Stmt := top 70
abbrev sDu : Stmt := top 71
abbrev sRw : Stmt := top 72
structure TxW (K : PySem.W.Frag) (mg : Str → Option Value) where
  B : TxB K mg
  D : TxD K mg
  str : mg "str" = none
  any : mg "any" = none
  tx : Df K mg "_law_text" sTx ["_law_items_here"]
  fdu : Df K mg "_law_fed_due" sFD ["_law_made", "_law_wide", "_law_boxes_here", "_law_many", "_law_said"]
  due : Df K mg "_law_due" sDu ["_law_made", "_law_wide", "_law_boxes_here", "_law_line_here"]
  row : Df K mg "_law_row" sRw ["_law_jar_here", "_law_wide"]
section
variable {P : Program} {w : World} {K : PySem.W.Frag} {mg : Str → Option Value} {base : Heap}
/-! ### _law_text -/
def spTxL : Sp := fun vs H Q _ => ∃ (p : Addr) (xs : List Int), vs = [.ref p] ∧ H p = some (.lst (ivs xs)) ∧ CoR.Ord xs ∧ xs.length ≤ 500000 ∧ ∀ H', Same H H' → Q (.str (CoR.itT xs)) H'
def spTxT : Sp := fun vs H Q _ => ∃ (p : Addr) (xs : List Int), vs = [.ref p] ∧ H p = some (.tup (ivs xs)) ∧ CoR.Ord xs ∧ xs.length ≤ 500000 ∧ ∀ H', Same H H' → Q (.str (CoR.itT xs)) H'
theorem scTx : FnScope ["_law_items_here", "_law_each"] ["_law_items_here"] (defScope sTx) := ⟨rfl, rfl, rfl, by decide +kernel, rfl, by decide +kernel, by decide +kernel⟩
theorem tx_turn {Hb H' : Hp} {D : Addr} {xs : List Int} (ho : CoR.Ord xs) (hl : xs.length ≤ 500000) (nD : Hb D = none) {i : Nat} {y : V} (hy : (ivs xs)[i]? = some y) (s' : Same Hb H') (hD : H' D = some (.lst (svs ((xs.take i).map CoR.nmS)))) :
    ∃ x : Int, y = .int x ∧ x.natAbs.log2 < 1920 ∧ (svs ((xs.take i).map CoR.nmS)).length < sizeLine ∧ Same Hb (upd H' D (.lst (svs ((xs.take i).map CoR.nmS) ++ [.str (CoR.nmS x)]))) ∧ (upd H' D (.lst (svs ((xs.take i).map CoR.nmS) ++ [.str (CoR.nmS x)]))) D = some (.lst (svs ((xs.take (i + 1)).map CoR.nmS))) := by
  obtain ⟨x, hx, rfl⟩ : ∃ x, xs[i]? = some x ∧ y = .int x := by
    unfold ivs at hy
    rw [List.getElem?_map] at hy
    cases hx : xs[i]? with
    | none => rw [hx] at hy; cases hy
    | some x => rw [hx] at hy; exact ⟨x, rfl, (Option.some.inj hy).symm⟩
  have ox := ho x (List.mem_of_getElem? hx)
  refine ⟨x, rfl, CoR.nm_log ox, ?_, fun b o z => ?_, ?_⟩
  · rw [show (svs ((xs.take i).map CoR.nmS)).length = (xs.take i).length by simp [svs], List.length_take]
    exact szM (by omega)
  · rw [upd_ne (ne_of_none z nD)]
    exact s' _ _ z
  · rw [upd_same, take_snocI hx, List.map_append]
    simp [svs, CoR.nmS]
theorem tx_len {xs : List Int} (ho : CoR.Ord xs) (hl : xs.length ≤ 500000) : ((xs.map CoR.nmS).map (·.length)).sum + (xs.map CoR.nmS).length * ("," : Str).length ≤ sizeLine := by
  have := CoR.nms_sum ho
  rw [List.length_map, show ("," : Str).length = 1 by decide +kernel]
  have : sizeLine = 16777216 := by decide +kernel
  omega
theorem ok_txl (W : TxW K mg) : FnOk P w K mg base CX0 1 W.tx.f W.tx.fd ["_law_items_here"] spTxL := by
  refine W.tx.F.ok scTx (fun vs H Q E h => ?_) (fun cdv A outer s H vs Q E hr h => ?_)
  · obtain ⟨p, xs, rfl, _⟩ := h
    rfl
  · obtain ⟨p, xs, rfl, hp, ho, hl, k⟩ := h
    refine ⟨_, pss_one (ps_ret (pe_ifExp (pt_cmpR (op_neD (hu64 hr)) (pe_callTy call_list_of (by rfl) W.B.list (by decide +kernel) (pa_cons (pv 0) pa_nil)) (pe_lst pa_nil) (nomark _)) (pe_join pe_str (pe_lc (own := [("_law_each", 1)]) (g := gName 1) (tt := tYes) rfl scTx.nd (pi_list (pv 0))
      (blkOk_by (own := [("_law_each", 1)]) (N := ["_law_items_here", "_law_each"]) (sc := defScope sTx) (by decide +kernel)) (fun _ _ _ _ _ => pg_name (i := 1) scTx.nd rfl (Or.inl rfl)) (fun _ _ _ _ _ => pts_nil)
      (fun _ _ _ _ _ => pe_callTy call_str_int (by rfl) W.str (by decide +kernel) (pa_cons (pv 1) pa_nil)))) pe_str)), ?_⟩
    refine ⟨_, rfl, p, _, rfl, .inl (SqL.of hp), fun r nr => ?_⟩
    have u1 := same_new (o := .lst (ivs xs)) nr
    refine ⟨Nat.zero_le _, fun e ne => ?_⟩
    have u2 := same_new (o := .lst []) ne
    refine ⟨.list (intD xs), .list [], .lst (SqL.of (u2 _ _ upd_same)) (dpI _), .lst (SqL.of upd_same) .nil, intD_shaped _, by decide, _, rfl, ?_⟩
    rw [eqv_inil]
    unfold CoR.itT at k
    have s2 := Same.trans u1 u2
    generalize upd (upd H r (.lst (ivs xs))) e (.lst []) = H2 at s2 ⊢
    by_cases h0 : xs = []
    · rw [if_pos h0] at k
      rw [decide_eq_true h0]
      exact iteF (k H2 s2)
    · rw [if_neg h0] at k
      rw [decide_eq_false h0]
      refine iteT ?_
      have hp2 := s2 _ _ hp
      refine ⟨⟨_, rfl⟩, _, rfl, p, rfl, ⟨_, SqL.of hp2⟩, fun D nD => lc_list (K := K) (a := p) (xs := ivs xs) (fun i H' => Same H2 H' ∧ H' D = some (.lst (svs ((xs.take i).map CoR.nmS)))) ⟨same_new nD, upd_same⟩ (fun i H' _ ⟨s', _⟩ => SqL.of (s' _ _ hp2)) ?_ ?_⟩
      · rintro i y H' hy ⟨s', hD⟩
        obtain ⟨x, rfl, lg, sz, s3, hD3⟩ := tx_turn ho hl nD hy s' hD
        exact ⟨rfl, _, rfl, _, rfl, lg, _, hD, sz, s3, hD3⟩
      · rintro H' ⟨s', hD⟩
        have lv : (ivs xs).length = xs.length := by simp [ivs]
        rw [lv, List.take_length] at hD
        exact ⟨",", D, xs.map CoR.nmS, rfl, rfl, .inl (SqL.of hD), tx_len ho hl, k H' (Same.trans s2 s')⟩
theorem ok_txt (W : TxW K mg) : FnOk P w K mg base CX0 1 W.tx.f W.tx.fd ["_law_items_here"] spTxT := by
  refine W.tx.F.ok scTx (fun vs H Q E h => ?_) (fun cdv A outer s H vs Q E hr h => ?_)
  · obtain ⟨p, xs, rfl, _⟩ := h
    rfl
  · obtain ⟨p, xs, rfl, hp, ho, hl, k⟩ := h
    refine ⟨_, pss_one (ps_ret (pe_ifExp (pt_cmpR (op_neD (hu64 hr)) (pe_callTy call_list_of (by rfl) W.B.list (by decide +kernel) (pa_cons (pv 0) pa_nil)) (pe_lst pa_nil) (nomark _)) (pe_join pe_str (pe_lc (own := [("_law_each", 1)]) (g := gName 1) (tt := tYes) rfl scTx.nd (pi_tup (pv 0))
      (blkOk_by (own := [("_law_each", 1)]) (N := ["_law_items_here", "_law_each"]) (sc := defScope sTx) (by decide +kernel)) (fun _ _ _ _ _ => pg_name (i := 1) scTx.nd rfl (Or.inl rfl)) (fun _ _ _ _ _ => pts_nil)
      (fun _ _ _ _ _ => pe_callTy call_str_int (by rfl) W.str (by decide +kernel) (pa_cons (pv 1) pa_nil)))) pe_str)), ?_⟩
    refine ⟨_, rfl, p, _, rfl, .inr (SqT.of hp), fun r nr => ?_⟩
    have u1 := same_new (o := .lst (ivs xs)) nr
    refine ⟨Nat.zero_le _, fun e ne => ?_⟩
    have u2 := same_new (o := .lst []) ne
    refine ⟨.list (intD xs), .list [], .lst (SqL.of (u2 _ _ upd_same)) (dpI _), .lst (SqL.of upd_same) .nil, intD_shaped _, by decide, _, rfl, ?_⟩
    rw [eqv_inil]
    unfold CoR.itT at k
    have s2 := Same.trans u1 u2
    generalize upd (upd H r (.lst (ivs xs))) e (.lst []) = H2 at s2 ⊢
    by_cases h0 : xs = []
    · rw [if_pos h0] at k
      rw [decide_eq_true h0]
      exact iteF (k H2 s2)
    · rw [if_neg h0] at k
      rw [decide_eq_false h0]
      refine iteT ?_
      have hp2 := s2 _ _ hp
      refine ⟨⟨_, rfl⟩, _, rfl, p, rfl, ⟨_, SqT.of hp2⟩, fun D nD => lc_tup (K := K) (a := p) (xs := ivs xs) (fun i H' => Same H2 H' ∧ H' D = some (.lst (svs ((xs.take i).map CoR.nmS)))) ⟨same_new nD, upd_same⟩ (fun i H' _ ⟨s', _⟩ => SqT.of (s' _ _ hp2)) ?_ ?_⟩
      · rintro i y H' hy ⟨s', hD⟩
        obtain ⟨x, rfl, lg, sz, s3, hD3⟩ := tx_turn ho hl nD hy s' hD
        exact ⟨rfl, _, rfl, _, rfl, lg, _, hD, sz, s3, hD3⟩
      · rintro H' ⟨s', hD⟩
        have lv : (ivs xs).length = xs.length := by simp [ivs]
        rw [lv, List.take_length] at hD
        exact ⟨",", D, xs.map CoR.nmS, rfl, rfl, .inl (SqL.of hD), tx_len ho hl, k H' (Same.trans s2 s')⟩
/-! ### _law_row -/
theorem svs_app2 (a b : List Str) : svs a ++ svs b = svs (a ++ b) := (List.map_append ..).symm
def litOk (ws : List Str) : Bool := ws.all fun w => PyData.strOk w && decide (w.length ≤ 100)
theorem lit_get {ws : List Str} (h : ∀ w ∈ ws, Asc w ∧ w.length ≤ 100) {i : Nat} {x : V} (hx : (svs ws)[i]? = some x) : ∃ z, x = .str z ∧ Asc z ∧ z.length ≤ 100 := by
  obtain ⟨z, hz, rfl⟩ := svs_get hx
  exact ⟨z, rfl, h z (List.mem_of_getElem? hz)⟩
theorem lit_all {ws : List Str} (h : litOk ws = true) : ∀ w ∈ ws, Asc w ∧ w.length ≤ 100 := fun w hw => by
  have := List.all_eq_true.mp h w hw
  rw [Bool.and_eq_true] at this
  exact ⟨this.1, of_decide_eq_true this.2⟩
def w1 : List Str := ["", "", "!"]
def w2 : List Str := ["undo", "rest", "state", "undo"]
def w3 : List Str := ["", "feed", "feed ", "feed !", "feed 01", "feed -1", "feed 1 ", "feed  1", "Undo", "undo ", "feed 1!!"]
def w4 : List Str := [" ", "0", "!", "a", "-"]
def w5 : List Str := ["rest\n", "feed 00", ("feed " : Str) ++ Txt.mul "9" 19, "feed +1"]
theorem wlits : litOk w1 = true ∧ litOk w2 = true ∧ litOk (w3 ++ w5) = true ∧ litOk w4 = true := by decide +kernel
theorem mul19 : MulOk "9" 19 := ⟨by decide +kernel, by decide +kernel, by decide +kernel⟩
def spRw : Sp := fun vs H Q _ => ∃ (j : Addr) (wd : Nat), vs = [.ref j, .int wd] ∧ Jar H j ∧ wd ≤ 8 ∧ ∀ (H' : Hp) (x : Str), Off j H H' → Jar H' j → Asc x → x.length ≤ 600 → Q (.str x) H'
abbrev NRw : List Str := ["_law_jar_here", "_law_wide", "_law_way", "_law_line_here", "_law_some", "_law_at", "_law_bent"]
theorem scRw : FnScope NRw ["_law_jar_here", "_law_wide"] (defScope sRw) := ⟨rfl, rfl, rfl, by decide +kernel, rfl, by decide +kernel, by decide +kernel⟩
theorem ok_rw (W : TxW K mg) : FnOk P w K mg base CX0 3 W.row.f W.row.fd ["_law_jar_here", "_law_wide"] spRw := by
  have GS : FnOk P w K mg base CX0 1 W.D.sip.f W.D.sip.fd ["_law_jar_here", "_law_many"] spSip := gk_sip W.D
  have GF : FnOk P w K mg base CX0 2 W.D.frm.f W.D.frm.fd ["_law_jar_here", "_law_things"] (spFrom K) := gk_from W.D
  refine W.row.F.ok scRw (fun vs H Q E h => ?_) (fun cdv A outer s H vs Q E hr h => ?_)
  · obtain ⟨j, wd, rfl, _⟩ := h
    rfl
  · obtain ⟨j, wd, rfl, hJ, w2', k⟩ := h
    have hr1 : Room 1 _ := hr.mono (by decide)
    refine ⟨_, (pss_cons (ps_set (i := 2) scRw.nd rfl (.inl rfl) (pe_call GS hr1 rfl W.D.sip.g W.D.sip.k W.D.sip.b .nil pass0 (pa_cons (pv 0) (pa_cons pe_int pa_nil)))) (pss_cons (ps_set (i := 3) scRw.nd rfl (.inl rfl) (pe_op op_add_str (pe_op op_add_str pe_str (pe_callTy call_str_int (by rfl) W.str (by decide +kernel) (pa_cons (pe_call GF hr rfl W.D.frm.g W.D.frm.k W.D.frm.b .nil pass0 (pa_cons (pv 0) (pa_cons (pe_lst (pa_cons pe_int (pa_cons (pv 1) (pa_cons (pe_call GS hr1 rfl W.D.sip.g W.D.sip.k W.D.sip.b .nil pass0 (pa_cons (pv 0) (pa_cons (pe_op op_add (pv 1) pe_int) pa_nil))) pa_nil)))) pa_nil))) pa_nil))) (pe_call GF hr rfl W.D.frm.g W.D.frm.k W.D.frm.b .nil pass0 (pa_cons (pv 0) (pa_cons (pe_lst (pa_cons pe_str (pa_cons pe_str (pa_cons pe_str pa_nil)))) pa_nil))))) (C8.pss_cut (ps_if (pt_cmpR op_lt (pv 2) pe_int (nomark _)) (pss_one (ps_set (i := 3) scRw.nd rfl (.inl rfl) (pe_ix ix_list (pe_lst (pa_cons pe_str (pa_cons pe_str (pa_cons pe_str (pa_cons pe_str pa_nil))))) (pv 2) (fun _ _ => rfl)))) pss_nil) (pss_cons (ps_if (pt_cmpR op_gt (pe_call GS hr1 rfl W.D.sip.g W.D.sip.k W.D.sip.b .nil pass0 (pa_cons (pv 0) (pa_cons pe_int pa_nil))) pe_int (nomark _)) (pss_one (ps_ret (pv 3))) pss_nil) (pss_cons (ps_set (i := 4) scRw.nd rfl (.inl rfl) (pe_lst (pa_cons pe_str (pa_cons pe_str (pa_cons pe_str (pa_cons pe_str (pa_cons pe_str (pa_cons pe_str (pa_cons pe_str (pa_cons pe_str (pa_cons pe_str (pa_cons pe_str (pa_cons pe_str pa_nil))))))))))))) (pss_cons (ps_set (i := 5) scRw.nd rfl (.inl rfl) (pe_call GS hr1 rfl W.D.sip.g W.D.sip.k W.D.sip.b .nil pass0 (pa_cons (pv 0) (pa_cons (pe_op op_add (pe_callB call_len_str (by rfl) W.D.J.len PySem.boot_len (pa_cons (pv 3) pa_nil)) pe_int) pa_nil)))) (pss_cons (ps_set (i := 6) scRw.nd rfl (.inl rfl) (pe_op op_add_str (pe_op op_add_str (pe_slice sl_str (pv 3) po_none (po_some (pv 5))) (pe_call GF hr rfl W.D.frm.g W.D.frm.k W.D.frm.b .nil pass0 (pa_cons (pv 0) (pa_cons (pe_lst (pa_cons pe_str (pa_cons pe_str (pa_cons pe_str (pa_cons pe_str (pa_cons pe_str pa_nil)))))) pa_nil)))) (pe_slice sl_str (pv 3) (po_some (pv 5)) po_none))) (pss_one (ps_ret (pe_call GF hr rfl W.D.frm.g W.D.frm.k W.D.frm.b .nil pass0 (pa_cons (pv 0) (pa_cons (pe_op op_cat (pv 4) (pe_lst (pa_cons pe_str (pa_cons pe_str (pa_cons (pe_op op_add_str pe_str (pe_op CH.op_mulS pe_str pe_int)) (pa_cons pe_str (pa_cons (pv 6) (pa_cons (pv 6) (pa_cons (pv 6) pa_nil))))))))) pa_nil)))))))))))), ?_⟩
    unfold tNoPart
    refine ⟨_, rfl, j, 8, rfl, hJ, by decide, by decide, fun H1 y y0 y1 o1 J1 => ?_⟩
    refine ⟨_, rfl, _, rfl, _, rfl, _, rfl, _, _, rfl, rfl, j, _, rfl, J1, by omega, by omega, fun H2 a a0 a1 o2 J2 => ⟨(by show 3 ≤ sizeLine; decide), fun l nl => ?_⟩⟩
    have u2 := same_new (o := .lst [.int 0, .int (wd : Nat), .int a]) nl
    refine ⟨j, l, _, rfl, J2.same u2, jar_ne J2 nl, SqL.of upd_same, (by show 0 < 3; decide), (by show 3 < 1073741824; decide), fun H3 ix x hx o3 J3 => ?_⟩
    obtain ⟨n, rfl, hn⟩ : ∃ n : Nat, x = .int (n : Nat) ∧ n ≤ 20 := by
      obtain ⟨an, rfl⟩ := Int.eq_ofNat_of_zero_le a0
      match ix, hx with
      | 0, h => exact ⟨0, (Option.some.inj h).symm, by omega⟩
      | 1, h => exact ⟨wd, (Option.some.inj h).symm, by omega⟩
      | 2, h => exact ⟨an, (Option.some.inj h).symm, by omega⟩
      | m + 3, h => cases h
    have on : (0 : Int) ≤ (n : Int) ∧ (n : Int) < 10 ^ 20 := ⟨by omega, Int.lt_of_le_of_lt (Int.ofNat_le.mpr hn) (by decide +kernel)⟩
    have ln := CoR.nm_len on
    refine ⟨_, rfl, CoR.nm_log on, _, _, rfl, rfl, szl (by show 5 + (CoR.nmS n).length ≤ 1000; omega), _, rfl, (by show 3 ≤ sizeLine; decide), fun l1 nl1 => ?_⟩
    have u3 := same_new (o := .lst (svs w1)) nl1
    refine ⟨j, l1, svs w1, rfl, J3.same u3, jar_ne J3 nl1, SqL.of upd_same, by decide, by decide, fun H4 ix4 x4 hx4 o4 J4 => ?_⟩
    obtain ⟨z4, rfl, az4, lz4⟩ := lit_get (lit_all wlits.1) hx4
    have l5 : (("feed " : Str) ++ CoR.nmS n).length ≤ 25 := by rw [strLen_append]; show 5 + _ ≤ 25; omega
    have al : Asc (("feed " : Str) ++ CoR.nmS n ++ z4) := (Asc.app (Asc.app (show PyData.strOk _ = true by decide +kernel) (SkT.ok_of _)) az4)
    have ll : (("feed " : Str) ++ CoR.nmS n ++ z4).length ≤ 130 := by rw [strLen_append]; omega
    refine ⟨_, _, rfl, rfl, szl (by show (("feed " : Str) ++ CoR.nmS n).length + z4.length ≤ 1000; omega), ?_⟩
    have o04 : Off j H H4 := ((((o1.trans o2).trans (Same.off u2)).trans o3).trans (Same.off u3)).trans o4
    -- the plain row
    refine ⟨fun σ H' => ∃ t : Str, σ = [some (.ref j), some (.int (wd : Nat)), some (.int y), some (.str t), none, none, none] ∧ Off j H H' ∧ Jar H' j ∧ Asc t ∧ t.length ≤ 130, ?_, ?_⟩
    · refine ⟨_, rfl, _, _, rfl, rfl, _, rfl, ite2 (fun c => ?_) (fun c => ⟨_, rfl, o04, J4, al, ll⟩)⟩
      have c4 : y < 4 := of_decide_eq_true c
      refine ⟨(by show 4 ≤ sizeLine; decide), fun l6 n6 => ⟨_, rfl, ?_⟩⟩
      have u6 := same_new (o := .lst (svs w2)) n6
      obtain ⟨yn, rfl⟩ := Int.eq_ofNat_of_zero_le y0
      obtain ⟨t, ht⟩ : ∃ t, w2[yn]? = some t := ⟨_, List.getElem?_eq_getElem (show yn < 4 by omega)⟩
      obtain ⟨at1, at2⟩ := lit_all wlits.2.1 t (List.mem_of_getElem? ht)
      refine ⟨l6, _, _, .str t, rfl, rfl, SqL.of upd_same, atI_nat (by show (svs w2)[yn]? = _; unfold svs; rw [List.getElem?_map, ht]; rfl), t, rfl, o04.trans (Same.off u6), J4.same u6, at1, by omega⟩
    rintro _ H5 ⟨t, rfl, o5, J5, at5, lt5⟩
    have bd : Bd t := Nat.le_trans lt5 (by decide)
    refine ⟨_, rfl, j, 4, rfl, J5, by decide, by decide, fun H6 d d0 d1 o6 J6 => ⟨_, _, rfl, rfl, _, rfl, ?_⟩⟩
    have o06 := o5.trans o6
    refine ite2 (fun _ => ⟨_, rfl, k _ _ o06 J6 at5 (by omega)⟩) (fun _ => ?_)
    refine ⟨(by show 11 ≤ sizeLine; decide), fun d1 nd1 => ?_⟩
    have u7 := same_new (o := .lst (svs w3)) nd1
    have hd1 : (upd H6 d1 (.lst (svs w3))) d1 = some (.lst (svs w3)) := upd_same
    have J7 := J6.same u7
    have dj := jar_ne J6 nd1
    have o07 := o06.trans (Same.off u7)
    show tSeq _ _ _ _ (upd H6 d1 (.lst (svs w3)))
    generalize upd H6 d1 (.lst (svs w3)) = H7 at hd1 J7 o07 ⊢
    refine ⟨_, rfl, _, rfl, t, rfl, bd.line, _, _, rfl, rfl, j, _, rfl, J7, by omega, by omega, fun H8 q q0 q1 o8 J8 => ?_⟩
    have hd8 := o8 _ _ dj hd1
    have cl := fun lo hi => cutS_length t lo hi
    have ca := fun lo hi => CH.asc_cut at5 lo hi
    refine ⟨_, rfl, _, rfl, q, rfl, t, rfl, bd.line, _, rfl, (by show 5 ≤ sizeLine; decide), fun l9 n9 => ?_⟩
    have u9 := same_new (o := .lst (svs w4)) n9
    refine ⟨j, l9, svs w4, rfl, J8.same u9, jar_ne J8 n9, SqL.of upd_same, by decide, by decide, fun H10 ix10 x10 hx10 o10 J10 => ?_⟩
    obtain ⟨z, rfl, az, lz⟩ := lit_get (lit_all wlits.2.2.2) hx10
    have hd10 := o10 _ _ dj (u9 _ _ hd8)
    have i1 := cl none (some q)
    have i2 := cl (some q) none
    refine ⟨_, _, rfl, rfl, szl (by omega), _, rfl, _, rfl, q, rfl, t, rfl, bd.line, _, _, rfl, rfl, szl (by rw [strLen_append]; omega), ?_⟩
    have ab : Asc (cutS t none (some q) ++ z ++ cutS t (some q) none) := ((ca _ _).app az).app (ca _ _)
    have lb : (cutS t none (some q) ++ z ++ cutS t (some q) none).length ≤ 550 := by rw [strLen_append, strLen_append]; omega
    generalize cutS t none (some q) ++ z ++ cutS t (some q) none = bent at ab lb ⊢
    have l95 : (("feed " : Str) ++ Txt.mul "9" 19).length ≤ 1000 := by decide +kernel
    refine ⟨_, rfl, _, rfl, _, _, rfl, rfl, mul19, _, _, rfl, rfl, szl (by decide +kernel), _, rfl, _, rfl, _, rfl, (by show 7 ≤ sizeLine; decide), fun d2 nd2 => ?_⟩
    refine cat (xs := svs w3) (ys := svs (w5 ++ [bent, bent, bent])) (same_new nd2 _ _ hd10) upd_same (by show 11 + 7 ≤ sizeLine; decide) fun od nod H11 s11 hod => ?_
    rw [svs_app2] at hod
    have s10 := Same.trans (same_new (o := .lst (svs (w5 ++ [bent, bent, bent]))) nd2) s11
    have odj := jar_ne (J10.same (same_new (o := .lst (svs (w5 ++ [bent, bent, bent]))) nd2)) nod
    refine ⟨j, od, svs (w3 ++ (w5 ++ [bent, bent, bent])), rfl, J10.same s10, odj, SqL.of hod, (by show 0 < 18; decide), (by show 18 < 1073741824; decide), fun H12 ix12 x12 hx12 o12 J12 => ?_⟩
    have good : ∀ u ∈ w3 ++ (w5 ++ [bent, bent, bent]), Asc u ∧ u.length ≤ 600 := by
      intro u hu
      rw [← List.append_assoc] at hu
      rcases List.mem_append.mp hu with hu | hu
      · have := lit_all wlits.2.2.1 u hu
        exact ⟨this.1, by omega⟩
      · have e : u = bent := by simpa using hu
        rw [e]
        exact ⟨ab, by omega⟩
    obtain ⟨z12, hz12, rfl⟩ := svs_get hx12
    obtain ⟨g1, g2⟩ := good z12 (List.mem_of_getElem? hz12)
    exact k _ _ (((((o07.trans o8).trans (Same.off u9)).trans o10).trans (Same.off s10)).trans o12) J12 g1 g2
end
end My

/-! consoles: what is due -/
namespace My
open PySem L2 Cm LM EM RpA
/-- the boxes, from the last on -/
inductive Bxs (j : Addr) (sz : Nat) (ro eo : List (Str × Str)) (H : Hp) : List Addr → List (Nat × Bool) → Prop
  | nil {b : Addr} (h : BoxJ j H b ⟨[], []⟩ 0 false) : Bxs j sz ro eo H [b] []
  | cons {b : Addr} {bs : List Addr} {r : Nat × Bool} {rr : List (Nat × Bool)} (h : BoxJ j H b (stR sz ro eo (r :: rr)).x (stR sz ro eo (r :: rr)).f (stR sz ro eo (r :: rr)).st) (t : Bxs j sz ro eo H bs rr) : Bxs j sz ro eo H (b :: bs) (r :: rr)
theorem Bxs.mono {j : Addr} {sz : Nat} {ro eo : List (Str × Str)} {H H' : Hp} (f : ∀ {b x g ov}, BoxJ j H b x g ov → BoxJ j H' b x g ov) : ∀ {bs rr}, Bxs j sz ro eo H bs rr → Bxs j sz ro eo H' bs rr
  | _, _, .nil h => .nil (f h)
  | _, _, .cons h t => .cons (f h) (t.mono f)
theorem Bxs.len {j : Addr} {sz : Nat} {ro eo : List (Str × Str)} {H : Hp} : ∀ {bs rr}, Bxs j sz ro eo H bs rr → bs.length = rr.length + 1
  | _, _, .nil _ => rfl
  | _, _, .cons _ t => by rw [List.length_cons, t.len, List.length_cons]
theorem Bxs.head {j : Addr} {sz : Nat} {ro eo : List (Str × Str)} {H : Hp} {bs : List Addr} {rr : List (Nat × Bool)} (h : Bxs j sz ro eo H bs rr) : ∃ b q, bs = b :: q ∧ BoxJ j H b (stR sz ro eo rr).x (stR sz ro eo rr).f (stR sz ro eo rr).st := by
  cases h with
  | nil h => exact ⟨_, _, rfl, h⟩
  | cons h t => exact ⟨_, _, rfl, h⟩
theorem Bxs.tail {j : Addr} {sz : Nat} {ro eo : List (Str × Str)} {H : Hp} {bs : List Addr} {r : Nat × Bool} {rr : List (Nat × Bool)} (h : Bxs j sz ro eo H bs (r :: rr)) : ∃ b q, bs = b :: q ∧ Bxs j sz ro eo H q rr := by
  cases h with
  | cons h t => exact ⟨_, _, rfl, t⟩
structure BxL (j : Addr) (H : Hp) (ma a b bl : Addr) (B E : List Str) (wd : Nat) (rr : List (Nat × Bool)) (bs : List Addr) : Prop where
  J : Jar H j
  hm : H ma = some (.tup [.ref a, .ref b])
  ha : H a = some (.lst (svs B))
  hb : H b = some (.lst (svs E))
  rB : isRound B = true
  rE : isEnding E = true
  w1 : 1 ≤ wd
  w2 : wd ≤ 8
  hl : H bl = some (.lst (bs.reverse.map V.ref))
  box : Bxs j wd (ordsR (textOf B E)) (ordsE (textOf B E)) H bs rr
  ok : OkR wd (ordsR (textOf B E)) (ordsE (textOf B E)) rr
  hc : ∀ r ∈ rr, r.1 ≤ wd
theorem BxL.same {j : Addr} {H H' : Hp} {ma a b bl : Addr} {B E : List Str} {wd : Nat} {rr : List (Nat × Bool)} {bs : List Addr} (s : Same H H') (h : BxL j H ma a b bl B E wd rr bs) : BxL j H' ma a b bl B E wd rr bs :=
  ⟨h.J.same s, s _ _ h.hm, s _ _ h.ha, s _ _ h.hb, h.rB, h.rE, h.w1, h.w2, s _ _ h.hl, h.box.mono fun hb => hb.same s, h.ok, h.hc⟩
theorem ords_text {B E : List Str} (hB : isRound B = true) (hE : isEnding E = true) : ordsR (textOf B E) = ords B ∧ ordsE (textOf B E) = ords E := by
  obtain ⟨h1, h2⟩ := text_words hB hE
  unfold ordsR ordsE
  rw [h1, h2]
  exact ⟨rfl, rfl⟩
theorem new_drop {sz : Nat} {t : Str} {rr : List (Nat × Bool)} {n : Nat} {said : Bool} (h : (stR sz (ordsR t) (ordsE t) rr).st = false) : (stR sz (ordsR t) (ordsE t) ((n, said) :: rr)).x.pieces.drop (stR sz (ordsR t) (ordsE t) rr).x.pieces.length = newP sz t rr n said := by
  rw [(st_from (r := (n, said)) h).1]
  show ((stR sz (ordsR t) (ordsE t) rr).x.pieces ++ _).drop _ = _
  rw [List.drop_left]
  rfl
theorem Pcs.drop {H : Hp} : ∀ {vs : List V} {ps : List (List Int)} (k : Nat), Pcs H vs ps → Pcs H (vs.drop k) (ps.drop k)
  | _, _, 0, h => h
  | _, _, _ + 1, .nil => .nil
  | _, _, k + 1, .cons _ t => Pcs.drop k t
/-! ### what it may weigh -/
theorem adds_leC : ∀ B : List Str, adds (ords B) = (B.filter isAdd).length
  | [] => rfl
  | b :: r => by
    show isA (orderOf b).2 + adds (ords r) = _
    rw [adds_leC r]
    by_cases h : (orderOf b).2 = "add"
    · have : isAdd b = true := decide_eq_true h
      rw [List.filter_cons_of_pos this, List.length_cons, isA, if_pos h]
      omega
    · have : ¬ isAdd b = true := fun z => h (of_decide_eq_true z)
      rw [List.filter_cons_of_neg this, isA, if_neg h]
      omega
theorem ending_adds {E : List Str} (h : isEnding E = true) : adds (ords E) = 0 := by
  rw [adds_leC, show E.filter isAdd = [] from List.filter_eq_nil_iff.mpr fun z hz => ?_]
  · rfl
  · rw [wd_noadd z (Wd.mem ((word_wd ((isEnding_iff.mp h).2 z hz)).mono (by decide +kernel)))]
    exact Bool.false_ne_true
theorem items_allB {f c N : Nat} (h : f + c ≤ N) : AllB N (itemsF f c) := fun i hi => by
  obtain ⟨k, hk, rfl⟩ := List.mem_map.mp hi
  have := List.mem_range.mp hk
  exact ⟨by omega, by omega⟩
theorem st_light {sz : Nat} {ro eo : List (Str × Str)} (hs : sz ≤ 12) (l1 : ro.length ≤ 12) (l2 : eo.length ≤ 6) (a1 : adds ro ≤ 1) (a2 : adds eo = 0) : ∀ rr : List (Nat × Bool), rr.length ≤ 20 → (∀ r ∈ rr, r.1 ≤ sz) → Lt (rr.length * 12) (rr.length * 9306) (stR sz ro eo rr).x ∧ AB 240 (stR sz ro eo rr).x ∧ (stR sz ro eo rr).f ≤ rr.length * 12
  | [], _, _ => ⟨⟨Nat.zero_le _, Nat.zero_le _⟩, ⟨fun i hi => (nomatch hi), fun p hp => (nomatch hp)⟩, Nat.zero_le _⟩
  | r :: rr, hn, hr => by
    rw [List.length_cons] at hn ⊢
    have hr1 : r.1 ≤ sz := hr r (List.mem_cons_self ..)
    obtain ⟨f1, f2, f3⟩ := st_light hs l1 l2 a1 a2 rr (by omega) (fun q hq => hr q (List.mem_cons_of_mem _ hq))
    show Lt _ _ (stepM sz ro eo (stR sz ro eo rr) r).x ∧ AB 240 (stepM sz ro eo (stR sz ro eo rr) r).x ∧ (stepM sz ro eo (stR sz ro eo rr) r).f ≤ _
    generalize stR sz ro eo rr = s at f1 f2 f3 ⊢
    unfold stepM
    split
    · exact ⟨f1.mono (by omega) (by omega), f2, by omega⟩
    · refine ⟨?_, ab_ans (items_allB (by omega)) f2, by show s.f + r.1 ≤ _; omega⟩
      have := lt_ans (size := sz) (ro := ro) (eo := eo) (held := itemsF s.f r.1) (told := r.2) (h := 12) (by rw [itemsF_len]; omega) l1 l2 a1 a2 f1
      exact this.mono (by omega) (by omega)
theorem wt_len : ∀ ps : List (List Int), ps.length + (ps.map (·.length)).sum = wt ps
  | [] => rfl
  | p :: r => by
    have := wt_len r
    unfold wt at this ⊢
    rw [List.map_cons, List.map_cons, List.sum_cons, List.sum_cons, List.length_cons]
    omega
theorem ord_allB {xs : List Int} (h : AllB 240 xs) : CoR.Ord xs := fun i hi => by
  have := h i hi
  have e : (10 : Int) ^ 20 = 100000000000000000000 := by decide +kernel
  omega
theorem st_ord {j : Addr} {H : Hp} {ma a b bl : Addr} {B E : List Str} {wd : Nat} {rr : List (Nat × Bool)} {bs : List Addr} (h : BxL j H ma a b bl B E wd rr bs) (hn : rr.length < 20) :
    CoR.Ord (stR wd (ordsR (textOf B E)) (ordsE (textOf B E)) rr).x.rest ∧ (stR wd (ordsR (textOf B E)) (ordsE (textOf B E)) rr).x.rest.length ≤ 500000 ∧ (stR wd (ordsR (textOf B E)) (ordsE (textOf B E)) rr).f ≤ 240 ∧ (stR wd (ordsR (textOf B E)) (ordsE (textOf B E)) rr).x.pieces.length ≤ 500000 ∧
    ∀ n said, n ≤ wd → (stR wd (ordsR (textOf B E)) (ordsE (textOf B E)) rr).st = false → OrdP (newP wd (textOf B E) rr n said) ∧ (newP wd (textOf B E) rr n said).length + ((newP wd (textOf B E) rr n said).map (·.length)).sum ≤ 500000 := by
  have ot := ords_text h.rB h.rE
  have w2 := h.w2
  have l1 : (ordsR (textOf B E)).length ≤ 12 := by rw [ot.1, ords, List.length_map]; exact (round_sht h.rB).2
  have l2 : (ordsE (textOf B E)).length ≤ 6 := by rw [ot.2, ords, List.length_map]; exact (ending_sht h.rE).2
  have a1 : adds (ordsR (textOf B E)) ≤ 1 := by rw [ot.1, adds_leC]; exact round_adds h.rB
  have a2 : adds (ordsE (textOf B E)) = 0 := by rw [ot.2]; exact ending_adds h.rE
  obtain ⟨f1, f2, f3⟩ := st_light (sz := wd) (by omega) l1 l2 a1 a2 rr (by omega) h.hc
  have f4 := f1.2
  have f5 := f1.1
  rw [← wt_len] at f4
  refine ⟨ord_allB f2.1, by omega, by omega, by omega, fun n said hn2 hst => ?_⟩
  obtain ⟨g1, g2, g3⟩ := st_light (sz := wd) (by omega) l1 l2 a1 a2 ((n, said) :: rr) (by rw [List.length_cons]; omega) (fun r hr => by
    rcases List.mem_cons.mp hr with rfl | hr
    · exact hn2
    · exact h.hc r hr)
  rw [← new_drop hst]
  generalize (stR wd (ordsR (textOf B E)) (ordsE (textOf B E)) rr).x.pieces.length = kk
  refine ⟨fun p hp => ord_allB (g2.2 p (List.mem_of_mem_drop hp)), ?_⟩
  have g4 := g1.2
  rw [List.length_cons] at g4
  have e : wt (stR wd (ordsR (textOf B E)) (ordsE (textOf B E)) ((n, said) :: rr)).x.pieces = wt ((stR wd (ordsR (textOf B E)) (ordsE (textOf B E)) ((n, said) :: rr)).x.pieces.take kk) + wt ((stR wd (ordsR (textOf B E)) (ordsE (textOf B E)) ((n, said) :: rr)).x.pieces.drop kk) := by
    rw [← wt_app, List.take_append_drop]
  rw [wt_len]
  omega
theorem pcs_shaped (ps : List (List Int)) : SeqAt.shaped (.list (pcsD ps)) = true := by
  obtain ⟨a, b⟩ := pcsD_lay ps
  unfold SeqAt.shaped
  refine Bool.and_eq_true_iff.mpr ⟨by simp only [PyData.canLay0]; exact a, decide_eq_true ?_⟩
  simp only [PyData.depth]
  omega
theorem eqv_pnil (ps : List (List Int)) : PyData.eqv (.list (pcsD ps)) (.list []) = decide (ps = []) := by
  cases ps with
  | nil => simp [pcsD, PyData.eqv, PyData.eqvAll]
  | cons x r => simp [pcsD, PyData.eqv, PyData.eqvAll]
section
variable {P : Program} {w : World} {K : PySem.W.Frag} {mg : Str → Option Value} {base : Heap}
/-! ### _law_fed_due -/
def spFD (j : Addr) : Sp := fun vs H Q _ => ∃ (ma a b bl : Addr) (B E : List Str) (wd n : Nat) (said : Bool) (rr : List (Nat × Bool)) (bs : List Addr), vs = [.ref ma, .int wd, .ref bl, .int n, .bl said] ∧ BxL j H ma a b bl B E wd rr bs ∧ rr.length < 20 ∧
  ((wd < n ∨ (stR wd (ordsR (textOf B E)) (ordsE (textOf B E)) rr).st = true) → ∀ (H' : Hp) (q : Addr), Same H H' → H' q = some (.tup [.str "refused", .ref bl]) → Q (.ref q) H') ∧
  (n ≤ wd → (stR wd (ordsR (textOf B E)) (ordsE (textOf B E)) rr).st = false → ∀ (H' : Hp) (q bl2 : Addr) (dd : Addr), Same H H' → H' q = some (.tup [.str (CoR.pcT (newP wd (textOf B E) rr n said)), .ref bl2]) → bl2 ≠ j → BxL j H' ma a b bl2 B E wd ((n, said) :: rr) (dd :: bs) → Q (.ref q) H')
abbrev NFD : List Str := ["_law_made", "_law_wide", "_law_boxes_here", "_law_many", "_law_said", "_law_after", "_law_new", "_law_each"]
theorem scFD : FnScope NFD ["_law_made", "_law_wide", "_law_boxes_here", "_law_many", "_law_said"] (defScope sFD) := ⟨rfl, rfl, rfl, by decide +kernel, rfl, by decide +kernel, by decide +kernel⟩
theorem ok_fdu (W : TxW K mg) (j : Addr) : FnOk P w K mg base CX0 4 W.fdu.f W.fdu.fd ["_law_made", "_law_wide", "_law_boxes_here", "_law_many", "_law_said"] (spFD j) := by
  have GD : FnOk P w K mg base CX0 3 W.B.fed.f W.B.fed.fd ["_law_made", "_law_box_here", "_law_many", "_law_said", "_law_wide"] (spFd j) := ok_fd W.B j
  have GT : FnOk P w K mg base CX0 1 W.tx.f W.tx.fd ["_law_items_here"] spTxT := ok_txt W
  refine W.fdu.F.ok scFD (fun vs H Q E h => ?_) (fun cdv A outer s H vs Q E hr h => ?_)
  · obtain ⟨ma, a, b, bl, B, E, wd, n, said, rr, bs, rfl, _⟩ := h
    rfl
  · obtain ⟨ma, a, b, bl, B, E', wd, n, said, rr, bs, rfl, S, hn, k0, k1⟩ := h
    have hu := hu_of hr
    have hr1 : Room 1 _ := hr.mono (by decide)
    have hr3 : Room 3 _ := hr.mono (by decide)
    refine ⟨_, (pss_cons (ps_if (PW.pt (pw_or (pt_cmpR op_gt (pv 3) (pv 1) (nomark _)) (pw_or (pt_val (pe_dget hu (pe_ix ix_list (pv 2) (pe_un un_neg pe_int) (fun _ _ => rfl)) pe_str (fun _ _ => rfl))) (pw_or1 (pt_cmpR op_gt (pe_callB call_len_seq (by rfl) W.D.J.len PySem.boot_len (pa_cons (pv 2) pa_nil)) pe_int (nomark _)))))) (pss_one (ps_ret (pe_tup (pa_cons pe_str (pa_cons (pv 2) pa_nil))))) pss_nil) (pss_cons (ps_set (i := 5) scFD.nd rfl (.inl rfl) (pe_call GD hr3 rfl W.B.fed.g W.B.fed.k W.B.fed.b .nil pass0 (pa_cons (pv 0) (pa_cons (pe_ix ix_list (pv 2) (pe_un un_neg pe_int) (fun _ _ => rfl)) (pa_cons (pv 3) (pa_cons (pv 4) (pa_cons (pv 1) pa_nil))))))) (pss_cons (ps_set (i := 6) scFD.nd rfl (.inl rfl) (pe_slice sl_list (pe_dget hu (pv 5) pe_str (fun _ _ => rfl)) (po_some (pe_callB call_len_seq (by rfl) W.D.J.len PySem.boot_len (pa_cons (pe_dget hu (pe_ix ix_list (pv 2) (pe_un un_neg pe_int) (fun _ _ => rfl)) pe_str (fun _ _ => rfl)) pa_nil))) po_none)) (pss_one (ps_ret (pe_tup (pa_cons (pe_ifExp (pt_cmpR (op_neD (hu64 hr)) (pv 6) (pe_lst pa_nil) (nomark _)) (pe_join pe_str (pe_lc (own := [("_law_each", 7)]) (g := gName 7) (tt := tYes) (te := tCall spTxT [] E0 (tCons (tVar 7) tNil)) rfl scFD.nd (pi_list (pv 6)) (blkOk_by (own := [("_law_each", 7)]) (N := NFD) (sc := defScope sFD) (by decide +kernel)) (fun _ _ _ _ _ => pg_name (i := 7) scFD.nd rfl (Or.inl rfl)) (fun _ _ _ _ _ => pts_nil) (fun _ _ _ _ _ => by exact (pe_call GT hr1 rfl W.tx.g W.tx.k W.tx.b .nil pass0 (pa_cons (pv 7) pa_nil))))) pe_str) (pa_cons (pe_op op_cat (pv 2) (pe_lst (pa_cons (pv 5) pa_nil))) pa_nil)))))))), ?_⟩
    obtain ⟨b9, bq, ebs, hB9⟩ := S.box.head
    have hl := S.hl
    have lbs := S.box.len
    have hl0 := hl
    rw [ebs, List.reverse_cons, List.map_append] at hl
    obtain ⟨r9, w9, vs9, e9, e9r, e9u, hP9, n9r, n9u⟩ := id hB9.ex
    have ot := ords_text S.rB S.rE
    obtain ⟨o1, o2, o3, o4, o5⟩ := st_ord S hn
    generalize hst : (stR wd (ordsR (textOf B E')) (ordsE (textOf B E')) rr).st = st at hB9 e9
    refine ⟨_, rfl, _, rfl, _, _, rfl, rfl, _, rfl, ?_⟩
    by_cases c1 : wd < n
    · rw [show decide ((wd : Int) < (n : Int)) = true from decide_eq_true (by omega)]
      exact iteT ⟨_, rfl, (by show 2 ≤ sizeLine; decide), fun q nq => k0 (.inl c1) _ q (same_new nq) upd_same⟩
    rw [show decide ((wd : Int) < (n : Int)) = false from decide_eq_false (by omega)]
    refine iteF ⟨_, rfl, _, rfl, bl, _, -1, _, rfl, rfl, SqL.of hl, atI_last _ _, b9, _, rfl, get_o e9, _, rfl, ?_⟩
    cases hcs : st with
    | true =>
      rw [hcs] at hst
      exact iteT ⟨_, rfl, (by show 2 ≤ sizeLine; decide), fun q nq => k0 (.inr hst) _ q (same_new nq) upd_same⟩
    | false =>
      rw [hcs] at hst hB9 e9
      refine iteF ⟨_, rfl, bl, _, rfl, .inl (SqL.of hl0), _, _, rfl, rfl, _, rfl, ?_⟩
      rw [show decide (((100 : Int)) < (((bs.reverse.map V.ref).length : Nat) : Int)) = false from decide_eq_false (by rw [List.length_map, List.length_reverse, lbs]; omega)]
      refine iteF ?_
      have bdn := runM_bound (ro := ordsR (textOf B E')) (eo := ordsE (textOf B E')) S.w1 (by rw [ot.1, ords, List.length_map]; exact (round_sht S.rB).2) (by rw [ot.2, ords, List.length_map]; exact (ending_sht S.rE).2) rr.reverse (by rw [List.length_reverse]; omega) fun r h => S.hc r (List.mem_reverse.mp h)
      rw [st_run, List.length_reverse] at bdn
      have few : Few wd (18 * 20) (20 * 32724) (stR wd (ordsR (textOf B E')) (ordsE (textOf B E')) rr).x := bdn.1.mono (Nat.mul_le_mul_left _ (by omega)) (Nat.mul_le_mul_right _ (by omega))
      have w2 := S.w2
      refine ⟨_, rfl, _, rfl, _, rfl, bl, _, -1, _, rfl, rfl, SqL.of hl, atI_last _ _, _, rfl, _, rfl, _, rfl, ?_⟩
      refine ⟨ma, a, b, b9, B, E', _, _, _, said, n, wd, 18 * 20, 20 * 32724, rfl, S.hm, S.ha, S.hb, S.rB, S.rE, hB9, S.J, S.w1, by omega, by omega, by omega, few, by decide, by decide, fun H9 dd s9 ndd hBd => ?_⟩
      have sc := st_cons (r := (n, said)) hst
      have hBd : BoxJ j H9 dd (stR wd (ordsR (textOf B E')) (ordsE (textOf B E')) ((n, said) :: rr)).x (stR wd (ordsR (textOf B E')) (ordsE (textOf B E')) ((n, said) :: rr)).f (stR wd (ordsR (textOf B E')) (ordsE (textOf B E')) ((n, said) :: rr)).st := by
        rw [sc]
        rw [← ot.1, ← ot.2] at hBd
        exact hBd
      obtain ⟨rd, ud, vsd, ed, edr, edu, hPd, _⟩ := id hBd.ex
      have hl9 := s9 _ _ hl
      have lP9 := hP9.len
      refine ⟨_, rfl, dd, _, rfl, get_u ed, _, rfl, _, rfl, bl, _, -1, _, rfl, rfl, SqL.of hl9, atI_last _ _, b9, _, rfl, get_u (s9 _ _ e9), w9, _, rfl, .inl (SqL.of (s9 _ _ e9u)), _, rfl, ?_⟩
      try unfold tNoPart
      refine RpA.sl_from (k := vs9.length) edu rfl fun z nz H10 s10 hz10 => ?_
      have hPn : Pcs H9 (vsd.drop vs9.length) (newP wd (textOf B E') rr n said) := by
        rw [← new_drop hst, lP9]
        exact hPd.drop _
      obtain ⟨oP, oS⟩ := o5 n said (by omega) hst
      have S10 := (S.same s9).same s10
      have s910 := Same.trans s9 s10
      have hBd10 := hBd.same s10
      have hPn10 := hPn.same s10
      generalize hps : newP wd (textOf B E') rr n said = ps at hPn10 oP oS k1
      generalize vsd.drop vs9.length = nv at hz10 hPn10
      have lnv := hPn10.len
      refine ⟨_, rfl, Nat.zero_le _, fun e ne => ?_⟩
      have u1 := same_new (o := .lst []) ne
      refine ⟨.list (pcsD ps), .list [], .lst (SqL.of (u1 _ _ hz10)) (pcs_dp (hPn10.same u1)), .lst (SqL.of upd_same) .nil, pcs_shaped _, by decide, _, rfl, ?_⟩
      rw [eqv_pnil]
      have finish : ∀ (H11 : Hp), Same H10 H11 → ∀ (Qt : VK), (∀ (H' : Hp) (u : Addr), Same H11 H' → u ≠ j → H' u = some (.lst ((dd :: bs).reverse.map V.ref)) → Qt (.ref u) H') → tOp rCat (tVar 2) (tLst (tCons (tVar 5) tNil)) [some (.ref ma), some (.int (wd : Nat)), some (.ref bl), some (.int (n : Nat)), some (.bl said), some (.ref dd), some (.ref z), none] H11 Qt := fun H11 s11 Qt kt => by
        have S11 := S10.same s11
        refine ⟨_, rfl, _, rfl, (by show 1 ≤ sizeLine; decide), fun l2 nl2 => ?_⟩
        have y3 := same_new (o := .lst [.ref dd]) nl2
        refine RpA.cat (y3 _ _ S11.hl) upd_same (szl (by rw [List.length_map, List.length_reverse, lbs]; show rr.length + 1 + 1 ≤ 1000; omega)) fun bl2 nbl2 H14 s14 hbl2 => ?_
        refine kt H14 bl2 (Same.trans y3 s14) (jar_ne (S11.J.same y3) nbl2) ?_
        rw [List.reverse_cons, List.map_append]
        exact hbl2
      have last : ∀ (H11 : Hp) (x : Str), Same H10 H11 → x = CoR.pcT ps → tOp rCat (tVar 2) (tLst (tCons (tVar 5) tNil)) [some (.ref ma), some (.int (wd : Nat)), some (.ref bl), some (.int (n : Nat)), some (.bl said), some (.ref dd), some (.ref z), none] H11 (fun u H' => 2 ≤ sizeLine ∧ ∀ q, H' q = none → Q (.ref q) (upd H' q (.tup [.str x, u]))) := fun H11 x s11 ex => by
        subst ex
        refine finish H11 s11 _ fun H' u s' uj hu => ⟨by decide, fun q nq => ?_⟩
        have sq := same_new (o := .tup [.str (CoR.pcT ps), .ref u]) nq
        have sA := Same.trans s11 (Same.trans s' sq)
        have SA := S10.same sA
        exact k1 (by omega) hst _ q u dd (Same.trans s910 sA) upd_same uj ⟨SA.J, SA.hm, SA.ha, SA.hb, SA.rB, SA.rE, SA.w1, SA.w2, sq _ _ hu, .cons (hBd10.same sA) SA.box, ⟨hst, SA.ok⟩, fun r hr => by
          rcases List.mem_cons.mp hr with rfl | hr
          · show n ≤ wd; omega
          · exact SA.hc r hr⟩
      by_cases h0 : ps = []
      · rw [decide_eq_true h0]
        refine iteF ?_
        have := last _ "none" u1 (by unfold CoR.pcT; rw [if_pos h0])
        exact this
      · rw [decide_eq_false h0]
        refine iteT ?_
        have hz11 := u1 _ _ hz10
        have hP11 := hPn10.same u1
        generalize upd H10 e (.lst []) = H11 at u1 hz11 hP11 ⊢
        refine ⟨⟨_, rfl⟩, _, rfl, z, rfl, ⟨_, SqL.of hz11⟩, fun D nD => lc_list (K := K) (a := z) (xs := nv) (fun i H' => Same H11 H' ∧ H' D = some (.lst (svs ((ps.take i).map CoR.itT)))) ⟨same_new nD, upd_same⟩ (fun i H' _ ⟨s', _⟩ => SqL.of (s' _ _ hz11)) ?_ ?_⟩
        · rintro i y H' hy ⟨s', hD⟩
          obtain ⟨q, x, hx, rfl, hq⟩ := hP11.get hy
          have mx := List.mem_of_getElem? hx
          have sx := sum_mem mx
          refine ⟨rfl, _, rfl, q, x, rfl, s' _ _ hq, oP x mx, by omega, fun H2 s2 => ⟨_, s2 _ _ hD, ?_, fun b o z => ?_, ?_⟩⟩
          · rw [show (svs ((ps.take i).map CoR.itT)).length = (ps.take i).length by simp [svs], List.length_take]
            exact szM (by omega)
          · rw [upd_ne (ne_of_none z nD)]
            exact s2 _ _ (s' _ _ z)
          · rw [upd_same]
            rw [List.take_add_one, hx, List.map_append]
            simp [svs]
        · rintro H' ⟨s', hD⟩
          rw [lnv, List.take_length] at hD
          refine ⟨" ", D, ps.map CoR.itT, rfl, rfl, .inl (SqL.of hD), ?_, ?_⟩
          · have := its_sum oP
            rw [List.length_map, show (" " : Str).length = 1 by decide +kernel]
            have : sizeLine = 16777216 := by decide +kernel
            omega
          · exact last H' _ (Same.trans u1 s') (by unfold CoR.pcT; rw [if_neg h0])
end
end My

/-! consoles: _law_due -/
namespace My
open PySem L2 Cm LM EM RpA
theorem cut_m1 (xs : List V) : cutV xs none (some (-1)) = xs.dropLast := by
  unfold cutV
  have : HT.sIx xs.length xs.length (some (-1)) = xs.length - 1 := by
    show (if (-1 : Int) < 0 then ((-1 : Int) + (xs.length : Int)).toNat else min (-1 : Int).toNat xs.length) = _
    rw [if_pos (by omega)]
    omega
  rw [HT.sIx_none, this, List.drop_zero, List.dropLast_eq_take]
  rfl
/-- what stands behind a row -/
def nextR (wd : Nat) (t : Str) (rr : List (Nat × Bool)) (x : Str) : List (Nat × Bool) :=
  if x = "undo" then rr.tail else if x = "rest" then rr else if x = "state" then rr else match CoR.replyL (TL.tl x) with
    | none => rr
    | some (n, b) => if wd < n ∨ (stR wd (ordsR t) (ordsE t) rr).st = true then rr else (n, b) :: rr
/-- its answer; none: no row -/
def ansR (wd : Nat) (t : Str) (rr : List (Nat × Bool)) (x : Str) : Option Str :=
  if x = "undo" then some (if rr = [] then "refused" else "ok") else if x = "rest" then some (CoR.itT (stR wd (ordsR t) (ordsE t) rr).x.rest)
  else if x = "state" then some (if (stR wd (ordsR t) (ordsE t) rr).st = true then "stopped" else "open") else match CoR.replyL (TL.tl x) with
    | none => none
    | some (n, b) => some (if wd < n ∨ (stR wd (ordsR t) (ordsE t) rr).st = true then "refused" else CoR.pcT (newP wd t rr n b))
def optV : Option Str → V
  | none => .non
  | some a => .str a
theorem digE : ("0123456789" : Str).cps.toList = CoR.digitsL := by decide +kernel
theorem one_bang (c : Nat) : decide (V.str ⟨#[c]⟩ = V.str "!") = decide (c = 33) := by
  have e : ("!" : Str) = ⟨#[33]⟩ := by decide +kernel
  rw [e]
  exact decide_eq_decide.mpr ⟨fun h => by injection h with h; injection h with h; simpa using h, fun h => by rw [h]⟩
theorem one_zero (c : Nat) : decide (V.str ⟨#[c]⟩ = V.str "0") = decide (c = 48) := by
  have e : ("0" : Str) = ⟨#[48]⟩ := by decide +kernel
  rw [e]
  exact decide_eq_decide.mpr ⟨fun h => by injection h with h; injection h with h; simpa using h, fun h => by rw [h]⟩
theorem str_tl (x y : Str) : decide (V.str x = V.str y) = decide (TL.tl x = TL.tl y) := decide_eq_decide.mpr ⟨fun h => by injection h with h; rw [h], fun h => by rw [TL.ext_tl h]⟩
section
variable {P : Program} {w : World} {K : PySem.W.Frag} {mg : Str → Option Value} {base : Heap}
def spDu (j : Addr) : Sp := fun vs H Q _ => ∃ (ma a b bl : Addr) (B E : List Str) (wd : Nat) (x : Str) (rr : List (Nat × Bool)) (bs : List Addr), vs = [.ref ma, .int wd, .ref bl, .str x] ∧ BxL j H ma a b bl B E wd rr bs ∧ bl ≠ j ∧ rr.length < 20 ∧ x.length ≤ 600 ∧
  ∀ (H' : Hp) (q bl2 : Addr) (bs2 : List Addr), Same H H' → H' q = some (.tup [optV (ansR wd (textOf B E) rr x), .ref bl2]) → bl2 ≠ j → BxL j H' ma a b bl2 B E wd (nextR wd (textOf B E) rr x) bs2 → Q (.ref q) H'
abbrev NDu : List Str := ["_law_made", "_law_wide", "_law_boxes_here", "_law_line_here", "_law_number", "_law_sign"]
theorem scDu : FnScope NDu ["_law_made", "_law_wide", "_law_boxes_here", "_law_line_here"] (defScope sDu) := ⟨rfl, rfl, rfl, by decide +kernel, rfl, by decide +kernel, by decide +kernel⟩
theorem ok_du (W : TxW K mg) (j : Addr) : FnOk P w K mg base CX0 5 W.due.f W.due.fd ["_law_made", "_law_wide", "_law_boxes_here", "_law_line_here"] (spDu j) := by
  have GF : FnOk P w K mg base CX0 4 W.fdu.f W.fdu.fd ["_law_made", "_law_wide", "_law_boxes_here", "_law_many", "_law_said"] (spFD j) := ok_fdu W j
  have GT : FnOk P w K mg base CX0 1 W.tx.f W.tx.fd ["_law_items_here"] spTxL := ok_txl W
  refine W.due.F.ok scDu (fun vs H Q E h => ?_) (fun cdv A outer s H vs Q E hr h => ?_)
  · obtain ⟨ma, a, b, bl, B, E, wd, x, rr, bs, rfl, _⟩ := h
    rfl
  · obtain ⟨ma, a, b, bl, B, E', wd, x, rr, bs, rfl, S, lj, hn, hx, k⟩ := h
    have hu := hu_of hr
    have hr1 : Room 1 _ := hr.mono (by decide)
    have bd : x.length ≤ sizeLine := szl (by omega)
    refine ⟨_, (pss_cons (ps_if (pt_cmpR op_eq (pv 3) pe_str (nomark _)) (pss_one (ps_ret (pe_ifExp (pt_cmpR op_gt (pe_callB call_len_seq (by rfl) W.D.J.len PySem.boot_len (pa_cons (pv 2) pa_nil)) pe_int (nomark _)) (pe_tup (pa_cons pe_str (pa_cons (pe_slice sl_list (pv 2) po_none (po_some (pe_un un_neg pe_int))) pa_nil))) (pe_tup (pa_cons pe_str (pa_cons (pv 2) pa_nil)))))) pss_nil) (pss_cons (ps_if (pt_cmpR op_eq (pv 3) pe_str (nomark _)) (pss_one (ps_ret (pe_tup (pa_cons (pe_call GT hr1 rfl W.tx.g W.tx.k W.tx.b .nil pass0 (pa_cons (pe_dget hu (pe_ix ix_list (pv 2) (pe_un un_neg pe_int) (fun _ _ => rfl)) pe_str (fun _ _ => rfl)) pa_nil)) (pa_cons (pv 2) pa_nil))))) pss_nil) (pss_cons (ps_if (pt_cmpR op_eq (pv 3) pe_str (nomark _)) (pss_one (ps_ret (pe_tup (pa_cons (pe_ifExp (pt_val (pe_dget hu (pe_ix ix_list (pv 2) (pe_un un_neg pe_int) (fun _ _ => rfl)) pe_str (fun _ _ => rfl))) pe_str pe_str) (pa_cons (pv 2) pa_nil))))) pss_nil) (pss_cons (ps_if (pt_cmpR op_ne (pe_slice sl_str (pv 3) po_none (po_some pe_int)) pe_str (nomark _)) (pss_one (ps_ret (pe_tup (pa_cons pe_non (pa_cons (pv 2) pa_nil))))) pss_nil) (C8.pss_cut (ps_set (i := 4) scDu.nd rfl (.inl rfl) (pe_ifExp (pt_cmpR op_eq (pe_ix ix_str (pv 3) (pe_un un_neg pe_int) (fun _ _ => rfl)) pe_str (nomark _)) (pe_slice sl_str (pv 3) (po_some pe_int) (po_some (pe_un un_neg pe_int))) (pe_slice sl_str (pv 3) (po_some pe_int) po_none))) (pss_cons (ps_if (PW.pt (pw_or (pt_cmpR op_eq (pv 4) pe_str (nomark _)) (pw_or (pt_val (pe_callB (cr_any rfl) (by rfl) W.any (by decide +kernel) (pa_cons (pe_lc (own := [("_law_sign", 5)]) (g := gName 5) (tt := tYes) rfl scDu.nd (pi_str (pv 4)) (blkOk_by (own := [("_law_sign", 5)]) (N := NDu) (sc := defScope sDu) (by decide +kernel)) (fun _ _ _ _ _ => pg_name (i := 5) scDu.nd rfl (Or.inl rfl)) (fun _ _ _ _ _ => pts_nil) (fun _ _ _ _ _ => pe_cmpR op_notIn_sign (pv 5) pe_str (by rfl))) pa_nil))) (pw_or1 (PW.pt (pw_and (pt_cmpR op_eq (pe_ix ix_str (pv 4) pe_int (fun _ _ => rfl)) pe_str (nomark _)) (pw_and1 (pt_cmpR op_ne (pv 4) pe_str (nomark _))))))))) (pss_one (ps_ret (pe_tup (pa_cons pe_non (pa_cons (pv 2) pa_nil))))) pss_nil) (pss_one (ps_ret (pe_call GF hr rfl W.fdu.g W.fdu.k W.fdu.b .nil pass0 (pa_cons (pv 0) (pa_cons (pv 1) (pa_cons (pv 2) (pa_cons (pe_callTy call_int_str (by rfl) W.D.J.int (by decide +kernel) (pa_cons (pv 4) pa_nil)) (pa_cons (pe_cmpR op_eq (pe_ix ix_str (pv 3) (pe_un un_neg pe_int) (fun _ _ => rfl)) pe_str (nomark _)) pa_nil)))))))))))))), ?_⟩
    obtain ⟨b9, bq, ebs, hB9⟩ := S.box.head
    have hl := S.hl
    have lbs := S.box.len
    have hl0 := hl
    rw [ebs, List.reverse_cons, List.map_append] at hl
    obtain ⟨r9, w9, vs9, e9, e9r, e9u, hP9, n9r, n9u⟩ := id hB9.ex
    obtain ⟨o1, o2, o3, o4, o5⟩ := st_ord S hn
    have eU : ∀ y : Str, decide (V.str x = V.str y) = decide (x = y) := fun y => decide_eq_decide.mpr ⟨fun h => by injection h, fun h => by rw [h]⟩
    refine ⟨_, rfl, rfl, _, rfl, ?_⟩
    rw [eU]
    unfold nextR ansR at k
    by_cases c1 : x = "undo"
    · rw [if_pos c1, if_pos c1] at k
      rw [decide_eq_true c1]
      refine iteT ⟨_, rfl, bl, _, rfl, .inl (SqL.of hl0), _, _, rfl, rfl, _, rfl, ?_⟩
      rw [List.length_map, List.length_reverse, lbs]
      cases rr with
      | nil =>
        refine iteF ⟨_, rfl, (by show 2 ≤ sizeLine; decide), fun q nq => ?_⟩
        exact k _ q bl bs (same_new nq) upd_same lj (S.same (same_new nq))
      | cons r0 rq =>
        rw [show decide ((1 : Int) < (((r0 :: rq).length + 1 : Nat) : Int)) = true from decide_eq_true (by rw [List.length_cons]; omega)]
        refine iteT ?_
        try unfold tNoPart
        refine ⟨_, rfl, _, rfl, _, rfl, bl, _, rfl, SqL.of hl, fun z nz => ?_⟩
        rw [cut_m1]
        have e1 : (bq.reverse.map V.ref ++ [b9].map V.ref).dropLast = bq.reverse.map V.ref := by simp
        rw [e1]
        have u1 := same_new (o := .lst (bq.reverse.map V.ref)) nz
        refine ⟨(by show 2 ≤ sizeLine; decide), fun q nq => ?_⟩
        have u2 := same_new (o := .tup [.str "ok", .ref z]) nq
        have S2 := S.same (Same.trans u1 u2)
        obtain ⟨b8, q8, e8, t8⟩ := S2.box.tail
        have e9' : q8 = bq := by rw [ebs] at e8; exact (List.cons.inj e8).2.symm
        rw [e9'] at t8
        exact k _ q z bq (Same.trans u1 u2) upd_same (jar_ne S.J nz) ⟨S2.J, S2.hm, S2.ha, S2.hb, S2.rB, S2.rE, S2.w1, S2.w2, u2 _ _ upd_same, t8, S2.ok.2, fun r hr => S2.hc r (List.mem_cons_of_mem _ hr)⟩
    rw [if_neg c1, if_neg c1] at k
    rw [decide_eq_false c1]
    refine iteF ⟨_, rfl, rfl, _, rfl, ?_⟩
    rw [eU]
    by_cases c2 : x = "rest"
    · rw [if_pos c2, if_pos c2] at k
      rw [decide_eq_true c2]
      refine iteT ⟨_, rfl, _, rfl, bl, _, -1, _, rfl, rfl, SqL.of hl, atI_last _ _, b9, _, rfl, get_r e9, r9, _, rfl, e9r, o1, o2, fun H1 s1 => ⟨_, rfl, (by show 2 ≤ sizeLine; decide), fun q nq => ?_⟩⟩
      exact k _ q bl bs (Same.trans s1 (same_new nq)) upd_same lj (S.same (Same.trans s1 (same_new nq)))
    rw [if_neg c2, if_neg c2] at k
    rw [decide_eq_false c2]
    refine iteF ⟨_, rfl, rfl, _, rfl, ?_⟩
    rw [eU]
    by_cases c3 : x = "state"
    · rw [if_pos c3, if_pos c3] at k
      rw [decide_eq_true c3]
      refine iteT ⟨_, rfl, _, rfl, bl, _, -1, _, rfl, rfl, SqL.of hl, atI_last _ _, b9, _, rfl, get_o e9, _, rfl, ?_⟩
      cases hst : (stR wd (ordsR (textOf B E')) (ordsE (textOf B E')) rr).st with
      | true =>
        rw [hst, if_pos rfl] at k
        exact iteT ⟨_, rfl, (by show 2 ≤ sizeLine; decide), fun q nq => k _ q bl bs (same_new nq) upd_same lj (S.same (same_new nq))⟩
      | false =>
        rw [hst, if_neg (by decide)] at k
        exact iteF ⟨_, rfl, (by show 2 ≤ sizeLine; decide), fun q nq => k _ q bl bs (same_new nq) upd_same lj (S.same (same_new nq))⟩
    rw [if_neg c3, if_neg c3] at k
    rw [decide_eq_false c3]
    refine iteF ?_
    try unfold tNoPart
    refine ⟨_, rfl, 5, rfl, x, rfl, bd, rfl, _, rfl, ?_⟩
    rw [str_tl, CoR.cut_5, CoR.tlF]
    have no : CoR.replyL (TL.tl x) = none → ∀ (H1 : Hp) (q : Addr), Same H H1 → H1 q = some (.tup [.non, .ref bl]) → Q (.ref q) H1 := fun hr0 H1 q s1 h1 => by
      rw [hr0] at k
      exact k H1 q bl bs s1 h1 lj (S.same s1)
    by_cases c4 : (TL.tl x).take 5 = CoR.F
    · rw [decide_eq_true c4]
      refine iteF ?_
      have lx := CoR.take_len c4
      have lr := CoR.law_reply c4
      obtain ⟨pre, c, ep⟩ : ∃ pre c, TL.tl x = pre ++ [c] := by
        rcases List.eq_nil_or_concat (TL.tl x) with z | ⟨ys, y, z⟩
        · rw [TL.len_tl, z] at lx; simp at lx
        · exact ⟨ys, y, by rw [z, List.concat_eq_append]⟩
      have el : (TL.tl x).getLast? = some c := by rw [ep]; simp
      have ha : atI x.cps.toList (-1) = some c := by
        show atI (TL.tl x) (-1) = _
        rw [ep]
        exact atI_last _ _
      have ell : decide ((TL.tl x).getLast? = some 33) = decide (c = 33) := by rw [el]; exact decide_eq_decide.mpr ⟨fun h => Option.some.inj h, fun h => by rw [h]⟩
      refine ⟨fun σ H' => σ = [some (.ref ma), some (.int (wd : Nat)), some (.ref bl), some (.str x), some (.str (CoR.lawNum x)), none] ∧ H = H', ?_, ?_⟩
      · refine ⟨_, rfl, _, rfl, x, -1, c, rfl, rfl, bd, ha, rfl, _, rfl, ?_⟩
        rw [one_bang]
        by_cases hc : c = 33
        · rw [decide_eq_true hc]
          refine iteT ⟨_, rfl, 5, rfl, _, rfl, -1, rfl, x, rfl, bd, ?_⟩
          have e : CoR.lawNum x = cutS x (some 5) (some (-1)) := by unfold CoR.lawNum; rw [if_pos (by rw [el, hc])]
          rw [← e]
          exact ⟨rfl, rfl⟩
        · rw [decide_eq_false hc]
          refine iteF ⟨_, rfl, 5, rfl, x, rfl, bd, ?_⟩
          have e : CoR.lawNum x = cutS x (some 5) none := by unfold CoR.lawNum; rw [if_neg (by rw [el]; intro h; exact hc (Option.some.inj h))]
          rw [← e]
          exact ⟨rfl, rfl⟩
      rintro _ _ ⟨rfl, rfl⟩
      have ln : (CoR.lawNum x).length ≤ 600 := by
        unfold CoR.lawNum
        split <;> exact Nat.le_trans (cutS_length _ _ _) hx
      rw [ell] at lr
      generalize CoR.lawNum x = nm at lr ln ⊢
      have bb := CoR.bad_isC (TL.tl nm)
      refine ⟨_, rfl, rfl, _, rfl, ?_⟩
      rw [str_tl, show TL.tl ("" : Str) = [] from rfl]
      -- no number
      have bad : CoR.isC (TL.tl nm) = false → ∀ H1, Same H H1 → ∀ σ : L2.St, σ[2]? = some (some (.ref bl)) → (2 ≤ sizeLine ∧ ∀ q, H1 q = none → Q (.ref q) (upd H1 q (.tup [.non, .ref bl]))) := fun z H1 s1 σ _ => by
        rw [z] at lr
        exact ⟨by decide, fun q nq => no lr _ q (Same.trans s1 (same_new nq)) upd_same⟩
      unfold CoR.badNum at bb
      by_cases d0 : TL.tl nm = []
      · rw [decide_eq_true d0] at bb ⊢
        have z : CoR.isC (TL.tl nm) = false := by
          cases h : CoR.isC (TL.tl nm) with
          | true => rw [h] at bb; cases bb
          | false => rfl
        exact iteT ⟨_, rfl, bad z H (Same.refl _) [none, none, some (.ref bl)] rfl⟩
      rw [decide_eq_false d0, Bool.false_or] at bb
      rw [decide_eq_false d0]
      refine iteF ?_
      refine ⟨_, rfl, nm, rfl, fun D nD => lc_it walk_str (fun i H' => Same H H' ∧ H' D = some (.lst ((((TL.tl nm).take i).map fun c => !decide (c ∈ CoR.digitsL)).map V.bl))) ⟨same_new nD, upd_same⟩ (fun _ _ _ _ => True.intro) ?_ ?_⟩
      · rintro i y H1 H1' hi ⟨s1, hD⟩ ⟨rfl, c1, hc1, rfl⟩
        have hc2 : (TL.tl nm)[i]? = some c1 := by
          show nm.cps.toList[i]? = _
          rw [Array.getElem?_toList]
          exact hc1
        refine ⟨rfl, _, rfl, c1, _, rfl, rfl, _, hD, ?_, fun b o z => ?_, ?_⟩
        · rw [List.length_map, List.length_map, List.length_take]
          have : (TL.tl nm).length = nm.length := (TL.len_tl nm).symm
          exact szM (by omega)
        · rw [upd_ne (ne_of_none z nD)]
          exact s1 _ _ z
        · rw [upd_same, List.take_add_one, hc2, List.map_append, List.map_append, digE]
          rfl
      · rintro H1 ⟨s1, hD⟩
        have ez : nm.cps.size = (TL.tl nm).length := (TL.len_tl nm)
        rw [ez, List.take_length] at hD
        refine ⟨D, _, rfl, SqL.of hD, _, rfl, ?_⟩
        have S1 := S.same s1
        cases d1 : ((TL.tl nm).map fun c => !decide (c ∈ CoR.digitsL)).any id with
        | true =>
          rw [d1, Bool.true_or] at bb
          have z : CoR.isC (TL.tl nm) = false := by
            cases h : CoR.isC (TL.tl nm) with
            | true => rw [h] at bb; cases bb
            | false => rfl
          exact iteT ⟨_, rfl, bad z H1 s1 [none, none, some (.ref bl)] rfl⟩
        | false =>
          rw [d1, Bool.false_or] at bb
          obtain ⟨c0, r0, e0⟩ : ∃ c0 r0, TL.tl nm = c0 :: r0 := by
            cases h : TL.tl nm with
            | nil => exact absurd h d0
            | cons c r => exact ⟨c, r, rfl⟩
          have h0 : atI nm.cps.toList 0 = some c0 := by
            show atI (TL.tl nm) 0 = _
            rw [e0]
            exact atI_nat (j := 0) rfl
          have eh : decide ((TL.tl nm).head? = some 48) = decide (c0 = 48) := by rw [e0]; exact decide_eq_decide.mpr ⟨fun h => Option.some.inj h, fun h => by rw [h]; rfl⟩
          rw [eh] at bb
          refine iteF ⟨_, rfl, nm, 0, c0, rfl, rfl, szl (by omega), h0, rfl, _, rfl, ?_⟩
          rw [one_zero]
          by_cases g : CoR.isC (TL.tl nm) = true
          · rw [g] at bb
            rw [if_pos g] at lr
            rw [lr] at k
            obtain ⟨a1, a2⟩ := CoR.isC_all g
            have call : ∀ (Qr : VK), (∀ q H', Q (.ref q) H' → Qr (.ref q) H') → spFD j [.ref ma, .int wd, .ref bl, .int (NumText.digitsVal (TL.tl nm) : Nat), .bl (decide (c = 33))] H1 Qr E0 := fun Qr hQ => by
              refine ⟨ma, a, b, bl, B, E', wd, _, _, rr, bs, rfl, S1, hn, fun hb H2 q s2 h2 => ?_, fun hn2 hst H2 q bl2 dd s2 h2 nl2 S2 => ?_⟩
              · refine hQ _ _ (k H2 q bl bs (Same.trans s1 s2) ?_ lj ?_)
                · rw [h2]
                  simp only [if_pos hb]
                  rfl
                · simp only [if_pos hb]
                  exact S1.same s2
              · have nb : ¬ (wd < NumText.digitsVal (TL.tl nm) ∨ (stR wd (ordsR (textOf B E')) (ordsE (textOf B E')) rr).st = true) := by
                  rintro (z | z)
                  · omega
                  · rw [hst] at z; cases z
                refine hQ _ _ (k H2 q bl2 (dd :: bs) (Same.trans s1 s2) ?_ nl2 ?_)
                · rw [h2]
                  simp only [if_neg nb]
                  rfl
                · simp only [if_neg nb]
                  exact S2
            by_cases c48 : c0 = 48
            · rw [decide_eq_true c48, Bool.true_and] at bb
              rw [decide_eq_true c48]
              refine iteT ⟨_, rfl, rfl, _, rfl, ?_⟩
              rw [str_tl, show TL.tl ("0" : Str) = [48] by decide +kernel]
              have z48 : decide (TL.tl nm = [48]) = true := by
                cases h : decide (TL.tl nm = [48]) with
                | true => rfl
                | false => rw [h] at bb; cases bb
              rw [z48]
              refine iteF ⟨_, rfl, _, rfl, _, rfl, _, rfl, nm, _, rfl, intText_digits a1 a2 (by omega), by omega, _, rfl, _, rfl, x, -1, c, rfl, rfl, bd, ha, rfl, ?_⟩
              rw [one_bang]
              exact call _ fun q H' h => h
            · rw [decide_eq_false c48]
              refine iteF ⟨_, rfl, _, rfl, _, rfl, _, rfl, nm, _, rfl, intText_digits a1 a2 (by omega), by omega, _, rfl, _, rfl, x, -1, c, rfl, rfl, bd, ha, rfl, ?_⟩
              rw [one_bang]
              exact call _ fun q H' h => h
          · have g' : CoR.isC (TL.tl nm) = false := by
              cases h : CoR.isC (TL.tl nm) with
              | true => exact absurd h g
              | false => rfl
            rw [g'] at bb
            replace bb : (decide (c0 = 48) && !decide (TL.tl nm = [48])) = true := bb
            rw [Bool.and_eq_true] at bb
            rw [bb.1]
            refine iteT ⟨_, rfl, rfl, _, rfl, ?_⟩
            rw [str_tl, show TL.tl ("0" : Str) = [48] by decide +kernel]
            have z48 : decide (TL.tl nm = [48]) = false := by
              cases h : decide (TL.tl nm = [48]) with
              | true => rw [h] at bb; exact absurd bb.2 (by decide)
              | false => rfl
            rw [z48]
            exact iteT ⟨_, rfl, bad g' H1 s1 [none, none, some (.ref bl)] rfl⟩
    · rw [decide_eq_false c4]
      have hr0 := CoR.reply_far c4
      refine iteT ⟨_, rfl, (by show 2 ≤ sizeLine; decide), fun q nq => no hr0 _ q (same_new nq) upd_same⟩
end
end My

/-! _law_came with InvalidRow, the value as it is -/
namespace My
open PySem L2 Cm LM IsX
abbrev sCame : Stmt := top 68
/-- what the text says for _law_came -/
structure TxCm (K : PySem.W.Frag) (mg : Str → Option Value) (CE : Addr) where
  CI : Addr
  isi : mg "isinstance" = none
  ve : mg "ValueError" = none
  gE : mg "InvalidRow" = some (.ref CE)
  gI : mg "InputError" = some (.ref CI)
  x : XiC K CE
  nV : PySem.W.findIn K (.ref CE) "value" = some none
  te : PySem.W.exmOne K (.ref CE) (.ref CE) = some true
  k1 : PySem.W.kitOne K (.ref CE) (.ref CI) = some true
  k2 : PySem.W.kitOne K (.ref CE) (.type "ValueError") = some true
  cm : Df K mg "_law_came" sCame ["_law_ask"]
theorem scCame : FnScope ["_law_ask", "_law_given", "e"] ["_law_ask"] (defScope sCame) := ⟨rfl, rfl, rfl, by decide +kernel, rfl, by decide +kernel, by decide +kernel⟩
/-- what _law_came makes of a call -/
def TCame (CE : Addr) : (XK → Hp → VK → Prop) → Hp → VK → Prop := fun tl H Q =>
  tl (fun cls d H' => cls = .ref CE ∧ ∃ (dd : Addr) (v : V), d = some dd ∧ H' dd = some (.xd [("value", v)]) ∧ ∀ p, H' p = none → Q (.ref p) (upd H' p (.lst [.str "InvalidRow", v, .bl true]))) H
    (fun v H' => ∃ u : V, some (some v) = some (some u) ∧ ∀ p, H' p = none → Q (.ref p) (upd H' p (.lst [.str "given", u])))
theorem pss_imp {X : Cx} {ss : List Stmt} {t t' : L2.TS} (h : PSs X ss t) (f : ∀ D σ H, t' D σ H → t D σ H) : PSs X ss t' := ⟨fun pins s σ H D I q => h.run pins s σ H D I (f _ _ _ q)⟩
def tGiv : L2.TS := fun D σ H => ∃ u : V, σ[1]? = some (some u) ∧ ∀ p, H p = none → D.rt (.ref p) (upd H p (.lst [.str "given", u]))
theorem came_gives {X : Cx} {CE : Addr} {cdg : Value} {q : Str} (T : TxCm X.K X.mg CE) :
    LamX.GivesTo X ["_law_ask", "_law_given", "e"] "_law_came" (defScope sCame) T.cm.f cdg (defBody sCame) "_law_ask" q (TCame CE) := by
  intro f c' s H Q tl act hc h
  refine ⟨_, pss_cons (ps_try_as (X := (cxOf C8.CX0 X.prog X.w X.K X.mg X.base ["_law_ask", "_law_given", "e"] "_law_came" (defScope sCame) T.cm.f cdg X.A X.stack s H C8.E0).nox) (i := 2) (c := .ref CE)
      (tb := fun W D σ H => ∃ Ech : XK, (∀ (cls : Value) (d : Option Addr) (σ' : L2.St) (H' : Hp), Ech cls d H' → σ'.length = 3 → W cls d σ' H') ∧ σ[0]? = some (some (.ref f)) ∧ H c' = some (LamX.CodeO c' q) ∧ tl Ech H fun v H2 => gName 1 v σ H2 D.nx)
      (Wout := fun _ _ _ _ => False) rfl rfl scCame.nd rfl rfl ⟨rfl, by decide, .inl T.gE⟩ LamX.takes0 (fun W pn xe tk _ => ?_)
      (fun a oe cls d pn hz hf => pss_one (ps_ret (pe_lst (pa_cons pe_str (pa_cons (pe_xf T.x.xf T.nV hz hf (pv 2)) (pa_cons (pe_and (pe_callB (call_isX T.x hz hf) (by rfl) T.isi (by decide +kernel) (pa_cons (pv 2) (pa_cons (pe_glob (v := .ref T.CI) rfl T.gI rfl) pa_nil)))
        (pe_one (pe_callB (call_isX T.x hz hf) (by rfl) T.isi (by decide +kernel) (pa_cons (pv 2) (pa_cons (pe_bltn (v := .ty "ValueError") (by rfl) T.ve (by decide +kernel) rfl) pa_nil))))) pa_nil)))))))
    (pss_imp (t' := tGiv) (pss_one (ps_ret (pe_lst (pa_cons pe_str (pa_cons (pv 1) pa_nil))))) (fun D σ H ⟨u, hσ, k⟩ => ⟨_, hσ, (by show 2 ≤ sizeLine; decide), k⟩)), ?_⟩
  · refine ⟨fun pins s2 σ H2 D I hh => ?_⟩
    obtain ⟨Ech, hW, h1, h2, h3⟩ := hh
    have hp := fun p1 p2 => act _ pn xe Ech p1 p2 (takes_len tk) (fun cls d σ' H' z => hW cls d σ' H' z)
    exact (pss_one (ps_set (i := 1) scCame.nd rfl (.inl rfl) (hp _ _))).run pins s2 σ H2 D I ⟨h1, h2, h3⟩
  · refine ⟨_, fun cls d σ' H' hh hl => ?_, rfl, hc, h⟩
    obtain ⟨rfl, dd, v, rfl, hdd, k⟩ := hh
    obtain ⟨x0, x1, x2, rfl⟩ := len3 hl
    refine ⟨true, T.te, fun _ a na => ?_, fun z => Bool.noConfusion z⟩
    refine ⟨_, rfl, rfl, rfl, dd, _, v, rfl, hdd, by simp [List.lookup], ?_⟩
    refine ⟨_, rfl, .ref T.CI, .ref T.CI, true, dd, _, rfl, fun u z => z, rfl, rfl, hdd, T.k1, true, rfl, iteT ?_⟩
    refine ⟨_, rfl, .ty "ValueError", .type "ValueError", true, dd, _, rfl, fun u z => z, rfl, rfl, hdd, T.k2, ?_⟩
    exact ⟨by show 3 ≤ sizeLine; decide, k⟩
end My

/-! o.m(k = v, ..): a method called by keywords alone -/
namespace MKw
open PySem L2
/-- o, then the keywords' values, then the promise -/
def tMethK (C : Addr) (m : Str) (sp : Sp) (gV : List V → List V → List V) (E : XK) (ta : TE) (tk : TA) : TE := fun σ H Q => ta σ H fun x H1 => ∃ a dx fs, x = .ref a ∧ H1 a = some (.ins C dx fs) ∧ fs.lookup m = none ∧ tk σ H1 fun zs H2 => sp (gV [.ref a] zs) H2 Q E
theorem pe_methK {X : Cx} {CX : CXT} {k : Nat} {f C : Addr} {fd : FuncData} {ps ks : List Str} {sp : Sp} {E : XK} {m : Str} {pos apos : Pos} {o : Expr} {kws : List Keyword} {ta : TE} {tk : TA} {g : List Value → List Value → List Value} {gV : List V → List V → List V} {pl : Sem Bool}
    (ho : PE X o ta) (c : Cls X.K C) (hm : Meth X.K C m f) (F : FnOk X.prog X.w X.K X.mg X.base CX k f fd ps sp) (hr : Room k X.A) (hb : KBinds X.K fd ps ks g gV) (hx : Passes CX X E) (hkw : PK X kws tk)
    (hall : (backToKw pos (keywordEach kws X.env)).all (·.1.isSome) = true := by rfl) (hks : (backToKw pos (keywordEach kws X.env)).filterMap (·.1) = ks := by rfl)
    (hpl : ((backTo pos (starEach [] X.env)).any (·.1) || (backToKw pos (keywordEach kws X.env)).any (·.1.isNone)) = false := by rfl)
    (hev : eval (.Call (.Attribute o m apos) [] kws pos) X.env = (do
      let recv ← eval o X.env
      standAt apos.atName
      let (fn, firstOnes) ← holding [recv] (getMethod recv m pl)
      callWith pos fn firstOnes (backTo pos (starEach [] X.env)) (backToKw pos (keywordEach kws X.env))) := by rfl) :
    PE X (.Call (.Attribute o m apos) [] kws pos) (tMethK C m sp gV E ta tk) := by
  refine ⟨fun pins s σ H Q I h => ?_⟩
  refine PySem.W.methodCall_KW (pl := pl) (thn (ho.run pins s σ H _ I h) fun u s1 ⟨x, H1, I1, rx, a, dx, fs, ex, ea, l, q⟩ => ?_) hev
  subst ex
  obtain rfl : u = Value.ref a := rx
  refine getmeth_ok I1 ea c hm l ?_
  refine PySem.W.callWith_KW0 (first := [.ref a]) (h₀ := X.base) I.ok.mod.kin hm.kp hall ?_ hpl
  refine thn (hkw.run pos pins s1 σ H1 _ I1 q) fun ws s2 ⟨zs, H2, I2, rz, q2⟩ => ⟨I2.kIn, ?_⟩
  rw [hks]
  exact run_fnk (us := [.ref a]) (vs := [.ref a]) F hr hb hx I2 (.cons rfl .nil) rz q2
end MKw

/-! consoles: Console.__init__, what a call of say comes to -/
namespace My
open PySem L2 Cm LM EM RpA SkT Gd IsX
def gKw (us ws : List Value) : List Value := match us, ws with | [s], [t] => [s, t] | _, _ => []
def gKwV (us ws : List V) : List V := match us, ws with | [s], [t] => [s, t] | _, _ => []
theorem gKw_rel {vs zs : List V} {us ws : List Value} (h1 : Vals vs us) (h2 : Vals zs ws) : Vals (gKwV vs zs) (gKw us ws) := by
  cases h1 with
  | nil => exact .nil
  | cons a t1 =>
    cases t1 with
    | cons _ _ => exact .nil
    | nil =>
      cases h2 with
      | nil => exact .nil
      | cons b t2 =>
        cases t2 with
        | nil => exact .cons a (.cons b .nil)
        | cons _ _ => exact .nil
section
variable {K : PySem.W.Frag} {mg : Str → Option Value}
theorem RdAt.mono {T : TxRd K mg} {H H' : Hp} {lv dx lo m : Addr} {sz : Nat} {t : Str} {rr : List (Nat × Bool)} (f : ∀ (p : Addr) (xs : List V), H p = some (.tup xs) → H' p = some (.tup xs)) (f1 : ∀ (p C d : Addr) (fs : List (Str × V)), 2 ≤ fs.length → p ≠ lv → H p = some (.ins C d fs) → H' p = some (.ins C d fs)) (f2 : H' lv = some (.ins T.CR dx (rf lo sz false m))) (h : RdAt T H lv dx lo m sz t rr) : RdAt T H' lv dx lo m sz t rr := by
  have nl : ∀ {p C d : Addr} {fs : List (Str × V)}, fs.length = 5 → H p = some (.ins C d fs) → p ≠ lv := fun l e => ne_of e h.at_ fun z => by
    have := (HO.ins.inj z).2.2
    rw [this] at l
    cases l
  obtain ⟨dx1, pr, pe, po, pq, e1, e2, e3, e4, e5⟩ := h.lo
  exact ⟨f2, ⟨dx1, pr, pe, po, pq, f1 _ _ _ _ (show 2 ≤ 5 by decide) (nl rfl e1) e1, f _ _ e2, f _ _ e3, e4.mono f, e5.mono f⟩, h.mo.mono f fun p dm b g h k ov e => f1 _ _ _ _ (show 2 ≤ 5 by decide) (nl rfl e) e⟩
/-- all but the reading and the tables is as it was -/
def KeepL (lv : Addr) (H H' : Hp) : Prop := ∀ b o, b ≠ lv → (∀ ps, o ≠ .tbl ps) → H b = some o → H' b = some o
theorem KeepL.ext {lv : Addr} {H H1 H2 : Hp} (a : LamX.ExtN H H1) (b : KeepL lv H1 H2) : KeepL lv H H2 := fun c o n t e => b c o n t (a c o e t)
theorem KeepL.same {lv : Addr} {H H1 H2 : Hp} (a : KeepL lv H H1) (s : Same H1 H2) : KeepL lv H H2 := fun c o n t e => s _ _ (a c o n t e)
theorem Ts.keepl {PR j lv dx : Addr} {C : Addr} {fs : List (Str × V)} {H0 H H' : Hp} (t : Ts PR j H0 H) (nl : ∀ b o, b ≠ j → (∀ ps, o ≠ .tbl ps) → H0 b = some o → b ≠ lv) (hl : H lv = some (.ins C dx fs)) (k : KeepL lv H H') (tab : LamX.Tabs [(PR, qLam)] H') : Ts PR j H0 H' := by
  refine ⟨fun b o nb nt e => k b o (nl b o nb nt e) nt (t.off b o nb nt e), ?_, tab⟩
  obtain ⟨x, y, z, h⟩ := t.jar
  exact ⟨x, y, z, k _ _ (ne_of h hl (by intro z; cases z)) (by intro ps q; cases q) h⟩
theorem tabs_offl {T : List (Addr × Str)} {C lv dx : Addr} {fs : List (Str × V)} {H H' : Hp} (hl : H lv = some (.ins C dx fs)) (o : Off lv H H') (t : LamX.Tabs T H) : LamX.Tabs T H' := fun p hp => by
  obtain ⟨ps, a1, a2, a3⟩ := t p hp
  refine ⟨ps, o _ _ (ne_of a1 hl (by intro z; cases z)) a1, a2, fun pos cv hcv => ?_⟩
  obtain ⟨c, e, h⟩ := a3 pos cv hcv
  exact ⟨c, e, o _ _ (ne_of h hl (by intro z; unfold LamX.CodeO at z; cases z)) h⟩
theorem RdAt.ext {T : TxRd K mg} {H H' : Hp} {lv dx lo m : Addr} {sz : Nat} {t : Str} {rr : List (Nat × Bool)} (s : LamX.ExtN H H') (h : RdAt T H lv dx lo m sz t rr) : RdAt T H' lv dx lo m sz t rr :=
  h.mono (fun p xs e => s _ _ e (by intro ps z; cases z)) (fun p C d fs _ _ e => s _ _ e (by intro ps z; cases z)) (s _ _ h.at_ (by intro ps z; cases z))
theorem ConAt.ext {T : TxCn K mg} {H H' : Hp} {dk ddx lv dx lo m : Addr} {sz : Nat} {t : Str} {rr : List (Nat × Bool)} (s : LamX.ExtN H H') (h : ConAt T H dk ddx lv dx lo m sz t rr) : ConAt T H' dk ddx lv dx lo m sz t rr := ⟨s _ _ h.at_ (by intro ps z; cases z), h.rd.ext s⟩
theorem ConAt.same {T : TxCn K mg} {H H' : Hp} {dk ddx lv dx lo m : Addr} {sz : Nat} {t : Str} {rr : List (Nat × Bool)} (s : Same H H') (h : ConAt T H dk ddx lv dx lo m sz t rr) : ConAt T H' dk ddx lv dx lo m sz t rr := ⟨s _ _ h.at_, h.rd.same s⟩
theorem ConAt.ne {T : TxCn K mg} {H : Hp} {dk ddx lv dx lo m : Addr} {sz : Nat} {t : Str} {rr : List (Nat × Bool)} (h : ConAt T H dk ddx lv dx lo m sz t rr) : dk ≠ lv := ne_of h.at_ h.rd.at_ fun z => by
  have e := congrArg List.length (HO.ins.inj z).2.2
  cases e
theorem ConAt.offj {T : TxCn K mg} {j : Addr} {H H' : Hp} {dk ddx lv dx lo m : Addr} {sz : Nat} {t : Str} {rr : List (Nat × Bool)} (J : Jar H j) (o : Off j H H') (h : ConAt T H dk ddx lv dx lo m sz t rr) : ConAt T H' dk ddx lv dx lo m sz t rr := by
  obtain ⟨x, y, z, hj⟩ := J
  have g : ∀ {p : Addr} {u : HO}, (∀ xs, u ≠ .lst xs) → H p = some u → H' p = some u := fun n e => o _ _ (ne_of e hj (n _)) e
  exact ⟨g (by intro xs z; cases z) h.at_, h.rd.mono (fun p xs e => g (by intro xs z; cases z) e) (fun p C d fs _ _ e => g (by intro xs z; cases z) e) (g (by intro xs z; cases z) h.rd.at_)⟩
end
section
variable {P : Program} {w : World} {K : PySem.W.Frag} {mg : Str → Option Value} {base : Heap}
/-! ### Console.__init__ -/
def spCnI (T : TxCn K mg) : Sp := fun vs H Q _ => ∃ (x ddx lo : Addr) (sz : Nat) (t : Str), vs = [.ref x, .ref lo, .int sz] ∧ H x = some (.ins T.C ddx []) ∧ LoopAt T.E.R.N.T.C H lo t ∧ 1 ≤ sz ∧ sz ≤ 1000 ∧ ∀ (H' : Hp) (lv dx m : Addr), Off x H H' → H lv = none → ConAt T H' x ddx lv dx lo m sz t [] → Q .non H'
theorem scCnI : FnScope ["self", "loop", "size"] ["self", "loop", "size"] (defScope sCnI) := ⟨rfl, rfl, rfl, by decide +kernel, rfl, by decide +kernel, by decide +kernel⟩
theorem ok_cni (T : TxCn K mg) : FnOk P w K mg base (L2.CX P w) 6 T.fI T.fdI ["self", "loop", "size"] (spCnI T) := by
  have GR : FnOk P w K mg base (L2.CX P w) 4 T.E.R.fR T.E.R.fdR ["self", "loop", "size"] (spRdI T.E.R) := ok_rdi T.E.R
  refine T.FI.okX scCnI (fun vs H Q E h => ?_) (fun cdv A outer s H vs Q E hr h => ?_)
  · obtain ⟨x, ddx, lo, sz, t, rfl, _⟩ := h
    rfl
  · obtain ⟨x, ddx, lo, sz, t, rfl, hx, hL, z1, z2, k⟩ := h
    refine ⟨_, pss_one (ps_fld (pv 0) (pe_make (E := E) T.E.R.MR GR hr rfl T.E.R.gR T.E.R.bR .nil (passes_call (takes_of rfl rfl rfl rfl) fun _ _ _ _ z => z) (pa_cons (pv 1) (pa_cons (pv 2) pa_nil))) rfl), ?_⟩
    refine ⟨_, rfl, _, rfl, ?_⟩
    intro y dy ny ndy ney
    have sM : Same H (upd (upd H dy (.own y)) y (.ins T.E.R.CR dy [])) := fun b u e => by
      rw [upd_ne (ne_of_none e ny), upd_ne (ne_of_none e ndy)]
      exact e
    refine ⟨y, dy, lo, sz, t, rfl, upd_same, hL.same sM, z1, z2, fun H4 m o4 hR4 => ⟨rfl, ?_⟩⟩
    have s4 := made_same ny ndy o4
    have hx4 := s4 _ _ hx
    have xy := ne_of_none hx ny
    refine ⟨_, rfl, x, T.C, ddx, _, rfl, hx4, T.cl, T.nR, (by show 0 < 1000; decide), ?_⟩
    have e0 : (upd H4 x (.ins T.C ddx (putF "reading" (.ref y) []))) x = some (.ins T.C ddx (conf y)) := upd_same
    refine k _ y dy m (fun b o nb e => ?_) ny ⟨e0, hR4.mono (fun p xs e => ?_) (fun p C d fs l np e => ?_) ?_⟩
    · rw [upd_ne nb]
      exact s4 _ _ e
    · rw [upd_ne (ne_of e hx4 (by intro z; cases z))]
      exact e
    · rw [upd_ne (ne_of e hx4 fun z => by rw [(HO.ins.inj z).2.2] at l; exact absurd l (by decide))]
      exact e
    · rw [upd_ne xy.symm]
      exact hR4.at_
/-! ### desk.say(row) -/
def rowR (x : Str) : Option Str → List V
  | none => [.str "InvalidRow", .str x, .bl true]
  | some a => [.str "given", .str a]
theorem noS (lv : Addr) : (conf lv).lookup ("say" : Str) = none := by
  have e : (("say" : Str) == "reading") = false := by decide +kernel
  simp [conf, List.lookup, e]
theorem lam_sy {Tb : List (Addr × Str)} (T : TxCn K mg) {dk ddx lv dx lo m : Addr} {sz : Nat} {t x : Str} {rr : List (Nat × Bool)} {σ : L2.St} {H : Hp} {Q : VK} {i i2 : Nat} (hT : LamX.Tabs Tb H) (h3 : σ[i]? = some (some (.ref dk))) (h6 : σ[i2]? = some (some (.str x))) (hC : ConAt T H dk ddx lv dx lo m sz t rr)
    (gt : goodText t = true) (z1 : 1 ≤ sz) (z2 : sz ≤ 1000) (hl : rr.length < 100) (ok : OkR sz (ordsR t) (ordsE t) rr) (hc : ∀ r ∈ rr, r.1 ≤ sz) (lx : x.length ≤ 640)
    (o1 : CoR.Ord (stR sz (ordsR t) (ordsE t) rr).x.rest) (o2 : (stR sz (ordsR t) (ordsE t) rr).x.rest.length ≤ 500000)
    (o3 : ∀ n said, n ≤ sz → (stR sz (ordsR t) (ordsE t) rr).st = false → OrdP (newP sz t rr n said) ∧ (newP sz t rr n said).length + ((newP sz t rr n said).map (·.length)).sum ≤ 500000)
    (q : ∀ (H1 : Hp) (p m' : Addr), KeepL lv H H1 → LamX.Tabs Tb H1 → ConAt T H1 dk ddx lv dx lo m' sz t (nextR sz t rr x) → H1 p = some (.lst (rowR x (ansR sz t rr x))) → Q (.ref p) H1) :
    LamX.tLam Tb (TCame T.eR.C) (fun E => tMeth T.C "say" (spSy T) [] E (tVar i) (tCons (tVar i2) tNil)) σ H Q := by
  refine ⟨hT, fun H1 e1 T1 => ?_⟩
  have hC1 := hC.ext e1
  refine ⟨_, h3, dk, ddx, _, rfl, hC1.at_, noS _, _, h6, dk, ddx, lv, dx, lo, m, sz, t, rr, _, rfl, hC1, .inr ⟨x, rfl, lx, ?_⟩⟩
  -- an answer, the reading as it was
  have ans0 : ∀ a : Str, ansR sz t rr x = some a → nextR sz t rr x = rr → ∀ H2, Same H1 H2 → ∃ u : V, some (some (V.str a)) = some (some u) ∧ ∀ p, H2 p = none → Q (.ref p) (upd H2 p (.lst [.str "given", u])) := fun a ea er H2 s2 => ⟨_, rfl, fun p np => by
    have s3 := Same.trans s2 (same_new (o := .lst [.str "given", .str a]) np)
    have hC3 := hC1.same s3
    refine q _ p m (KeepL.ext e1 fun b o _ _ e => s3 _ _ e) (T1.ext s3) (by rw [er]; exact hC3) ?_
    rw [ea]
    exact upd_same⟩
  have ans1 : ∀ (a : Str) (r2 : List (Nat × Bool)), ansR sz t rr x = some a → nextR sz t rr x = r2 → ∀ (H2 : Hp) (m2 : Addr), Off lv H1 H2 → RdAt T.E.R H2 lv dx lo m2 sz t r2 → ∃ u : V, some (some (V.str a)) = some (some u) ∧ ∀ p, H2 p = none → Q (.ref p) (upd H2 p (.lst [.str "given", u])) := fun a r2 ea er H2 m2 o2 hR2 => ⟨_, rfl, fun p np => by
    have s3 := same_new (o := .lst [.str "given", .str a]) np
    have hC3 : ConAt T H2 dk ddx lv dx lo m2 sz t r2 := ⟨o2 _ _ hC1.ne hC1.at_, hR2⟩
    refine q _ p m2 (KeepL.ext e1 fun b o n _ e => s3 _ _ (o2 _ _ n e)) ((tabs_offl hC1.rd.at_ o2 T1).ext s3) (by rw [er]; exact hC3.same s3) ?_
    rw [ea]
    exact upd_same⟩
  by_cases c1 : x = "undo"
  · refine .inl ⟨c1, dk, ddx, lv, dx, lo, m, sz, t, rr, rfl, hC1, fun h0 => ?_, fun r q' e H2 m2 o2 hR2 => ?_⟩
    · exact ans0 _ (by unfold ansR; rw [if_pos c1, if_pos h0]) (by unfold nextR; rw [if_pos c1, h0]; rfl) _ (Same.refl _)
    · exact ans1 _ q' (by unfold ansR; rw [if_pos c1, if_neg (by rw [e]; simp)]) (by unfold nextR; rw [if_pos c1, e]; rfl) H2 m2 o2 hR2
  by_cases c2 : x = "rest"
  · exact .inr (.inl ⟨c2, o1, o2, fun H2 s2 => ans0 _ (by unfold ansR; rw [if_neg c1, if_pos c2]) (by unfold nextR; rw [if_neg c1, if_pos c2]) H2 s2⟩)
  by_cases c3 : x = "state"
  · exact .inr (.inr (.inl ⟨c3, ans0 _ (by unfold ansR; rw [if_neg c1, if_neg c2, if_pos c3]) (by unfold nextR; rw [if_neg c1, if_neg c2, if_pos c3]) _ (Same.refl _)⟩))
  have eA : ansR sz t rr x = match CoR.replyL (TL.tl x) with
    | none => none
    | some (n, b) => some (if sz < n ∨ (stR sz (ordsR t) (ordsE t) rr).st = true then "refused" else CoR.pcT (newP sz t rr n b)) := by unfold ansR; rw [if_neg c1, if_neg c2, if_neg c3] <;> (generalize CoR.replyL (TL.tl x) = y; cases y <;> rfl)
  have eN : nextR sz t rr x = match CoR.replyL (TL.tl x) with
    | none => rr
    | some (n, b) => if sz < n ∨ (stR sz (ordsR t) (ordsE t) rr).st = true then rr else (n, b) :: rr := by unfold nextR; rw [if_neg c1, if_neg c2, if_neg c3] <;> (generalize CoR.replyL (TL.tl x) = y; cases y <;> rfl)
  refine .inr (.inr (.inr ⟨c1, c2, c3, fun h0 d nd => ?_, fun n b h0 H2 q2 s2 hq2 => ?_⟩))
  · rw [h0] at eA eN
    refine ⟨rfl, d, _, rfl, upd_same, fun p np => ?_⟩
    have s3 := Same.trans (same_new (o := .xd [("value", .str x)]) nd) (same_new (o := .lst [.str "InvalidRow", .str x, .bl true]) np)
    refine q _ p m (KeepL.ext e1 fun b o _ _ e => s3 _ _ e) (T1.ext s3) (by rw [eN]; exact hC1.same s3) ?_
    rw [eA]
    exact upd_same
  · rw [h0] at eA eN
    simp only at eA eN
    refine ⟨dk, ddx, lv, dx, lo, m, q2, sz, n, b, t, rr, rfl, hq2, hC1.same s2, gt, z1, z2, by omega, ok, hc, fun bad H3 s3 => ?_, fun b1 b2 b3 => ?_⟩
    · have bad2 : sz < n ∨ (stR sz (ordsR t) (ordsE t) rr).st = true := by
        rcases bad with z | z | z
        · exact .inl z
        · exact .inr z
        · omega
      rw [if_pos bad2] at eA eN
      exact ans0 _ eA eN H3 (Same.trans s2 s3)
    · have ng : ¬ (sz < n ∨ (stR sz (ordsR t) (ordsE t) rr).st = true) := by
        rintro (z | z)
        · omega
        · rw [b2] at z; cases z
      rw [if_neg ng] at eA eN
      obtain ⟨p1, p2⟩ := o3 n b b1 b2
      exact ⟨p1, p2, fun H3 m3 o4 hR3 => ans1 _ _ eA eN H3 m3 (fun b o n e => o4 _ _ n (s2 _ _ e)) hR3⟩
/-! ### odd values -/
def noStr : PyData → Bool
  | .str _ => false
  | _ => true
theorem typed_of {H : Hp} {v : V} {d : PyData} (q : Dq H v d) (h : noStr d = true) : ∃ ty, TyX K H v ty ∧ PySem.W.kitOne K ty (.type "str") = some false := by
  refine ⟨_, dq_ty q, ?_⟩
  cases q with
  | non => exact kit_ty (show kitB "NoneType" "str" = some false by decide +kernel)
  | bl b => exact kit_ty (show kitB "bool" "str" = some false by decide +kernel)
  | int i => exact kit_ty (show kitB "int" "str" = some false by decide +kernel)
  | str x => cases h
  | lst _ _ => exact kit_ty (show kitB "list" "str" = some false by decide +kernel)
  | tup _ _ => exact kit_ty (show kitB "tuple" "str" = some false by decide +kernel)
  | dct _ => exact kit_ty (show kitB "dict" "str" = some false by decide +kernel)
theorem lam_od {Tb : List (Addr × Str)} (T : TxCn K mg) {dk ddx lv dx lo m : Addr} {sz : Nat} {t : Str} {v : V} {d : PyData} {rr : List (Nat × Bool)} {σ : L2.St} {H : Hp} {Q : VK} {i i2 : Nat} (hT : LamX.Tabs Tb H) (h3 : σ[i]? = some (some (.ref dk))) (h6 : σ[i2]? = some (some v)) (hC : ConAt T H dk ddx lv dx lo m sz t rr) (hv : Dq H v d) (nd : noStr d = true)
    (q : ∀ (H1 : Hp) (p : Addr), LamX.ExtN H H1 → LamX.Tabs Tb H1 → H1 p = some (.lst [.str "InvalidRow", v, .bl true]) → Q (.ref p) H1) :
    LamX.tLam Tb (TCame T.eR.C) (fun E => MKw.tMethK T.C "say" (spSy T) gKwV E (tVar i) (tCons (tVar i2) tNil)) σ H Q := by
  refine ⟨hT, fun H1 e1 T1 => ?_⟩
  have hC1 := hC.ext e1
  refine ⟨_, h3, dk, ddx, _, rfl, hC1.at_, noS _, _, h6, dk, ddx, lv, dx, lo, m, sz, t, rr, v, rfl, hC1, .inl ?_⟩
  obtain ⟨ty, a1, a2⟩ := typed_of (K := K) (dq_ext e1 hv) nd
  refine ⟨ty, a1, a2, fun d nd => ⟨rfl, d, _, rfl, upd_same, fun p np => ?_⟩⟩
  have s3 := Same.trans (same_new (o := .xd [("value", v)]) nd) (same_new (o := .lst [.str "InvalidRow", v, .bl true]) np)
  exact q _ p (e1.trans (ext_same s3)) (T1.ext s3) upd_same
end
end My

namespace My
open PySem L2 Cm LM EM RpA SkT Gd IsX
abbrev sRight : Stmt := top 73
abbrev NR : List Str := ["_law_jar_here", "_law_made", "_law_wide", "_law_desk", "_law_boxes_here", "_law_turn", "_law_line_here", "_law_due_here", "_law_told_here", "_law_odd"]
theorem scRight : FnScope NR ["_law_jar_here"] (defScope sRight) := ⟨rfl, rfl, rfl, by decide +kernel, rfl, by decide +kernel, by decide +kernel⟩
structure TxR (K : PySem.W.Frag) (mg : Str → Option Value) where
  T : TxCn K mg
  W : TxW K mg
  C : TxCm K mg T.eR.C
  repr : mg "repr" = none
  KS : KBinds K T.say.fd ["self", "row"] ["row"] gKw gKwV
theorem BxL.keepl {j lv C dx : Addr} {lo0 m0 : Addr} {s0 : Nat} {f0 : Bool} {H H' : Hp} {ma a b bl : Addr} {B E : List Str} {wd : Nat} {rr : List (Nat × Bool)} {bs : List Addr} (hL : H lv = some (.ins C dx (rf lo0 s0 f0 m0))) (k : KeepL lv H H') (h : BxL j H ma a b bl B E wd rr bs) : BxL j H' ma a b bl B E wd rr bs := by
  have ft : ∀ (p : Addr) (xs : List V), H p = some (.tup xs) → H' p = some (.tup xs) := fun p xs e => k _ _ (ne_of e hL (by intro z; cases z)) (by intro ps z; cases z) e
  have fl : ∀ {p : Addr} {xs : List V}, H p = some (.lst xs) → H' p = some (.lst xs) := fun e => k _ _ (ne_of e hL (by intro z; cases z)) (by intro ps z; cases z) e
  obtain ⟨x, y, z, hj⟩ := h.J
  refine ⟨⟨x, y, z, fl hj⟩, ft _ _ h.hm, fl h.ha, fl h.hb, h.rB, h.rE, h.w1, h.w2, fl h.hl, ?_, h.ok, h.hc⟩
  refine h.box.mono fun {b x g ov} hb => ?_
  obtain ⟨r, u, vs, e1, e2, e3, e4, n1, n2⟩ := hb.ex
  exact ⟨r, u, vs, k _ _ (ne_of e1 hL (by intro z; cases z)) (by intro ps z; cases z) e1, fl e2, fl e3, e4.mono ft, n1, n2⟩
theorem BxL.offj {j : Addr} {H H' : Hp} {ma a b bl : Addr} {B E : List Str} {wd : Nat} {rr : List (Nat × Bool)} {bs : List Addr} (aj : a ≠ j) (bj : b ≠ j) (lj : bl ≠ j) (o : Off j H H') (J' : Jar H' j) (h : BxL j H ma a b bl B E wd rr bs) : BxL j H' ma a b bl B E wd rr bs := by
  have mj : ma ≠ j := fun z => by
    obtain ⟨_, _, _, q⟩ := h.J
    have := h.hm
    rw [z, q] at this
    cases this
  exact ⟨J', o _ _ mj h.hm, o _ _ aj h.ha, o _ _ bj h.hb, h.rB, h.rE, h.w1, h.w2, o _ _ lj h.hl, h.box.mono fun hb => hb.off o h.J, h.ok, h.hc⟩
structure TS66 {K : PySem.W.Frag} {mg : Str → Option Value} (T : TxCn K mg) (PR j : Addr) (H0 H : Hp) (dk ddx lv dx ma a b lo m bl : Addr) (B E : List Str) (wd : Nat) (rr : List (Nat × Bool)) (bs : List Addr) : Prop where
  ts : Ts PR j H0 H
  con : ConAt T H dk ddx lv dx lo m wd (textOf B E) rr
  bx : BxL j H ma a b bl B E wd rr bs
  aj : a ≠ j
  bj : b ≠ j
  lj : bl ≠ j
section
variable {K : PySem.W.Frag} {mg : Str → Option Value} {T : TxCn K mg} {PR j : Addr} {H0 H H' : Hp} {dk ddx lv dx ma a b lo m bl : Addr} {B E : List Str} {wd : Nat} {rr : List (Nat × Bool)} {bs : List Addr}
theorem TS66.same (s : Same H H') (h : TS66 T PR j H0 H dk ddx lv dx ma a b lo m bl B E wd rr bs) : TS66 T PR j H0 H' dk ddx lv dx ma a b lo m bl B E wd rr bs := ⟨h.ts.same s, h.con.same s, h.bx.same s, h.aj, h.bj, h.lj⟩
theorem TS66.offj (o : Off j H H') (J : Jar H' j) (h : TS66 T PR j H0 H dk ddx lv dx ma a b lo m bl B E wd rr bs) : TS66 T PR j H0 H' dk ddx lv dx ma a b lo m bl B E wd rr bs := ⟨h.ts.off' o J, h.con.offj h.ts.jar o, h.bx.offj h.aj h.bj h.lj o J, h.aj, h.bj, h.lj⟩
end
theorem next_len {wd : Nat} {t : Str} {rr : List (Nat × Bool)} {x : Str} : (nextR wd t rr x).length ≤ rr.length + 1 := by
  unfold nextR
  split
  · rw [List.length_tail]; omega
  split
  · omega
  split
  · omega
  split
  · omega
  · split
    · omega
    · rw [List.length_cons]; omega
theorem row_shaped {x : Str} {oa : Option Str} (ax : Asc x) (aa : ∀ a, oa = some a → Asc a) : ∃ d : PyData, (∀ {K : PySem.W.Frag} {H : Hp} {p : Addr}, H p = some (.lst (rowR x oa)) → Dp K H (.ref p) d) ∧ PyData.canLay0 d = true ∧ SeqAt.shaped d = true := by
  cases oa with
  | none =>
    refine ⟨.list [.str "InvalidRow", .str x, .bool true], fun h => .lst (SqL.of h) (.cons (.str _) (.cons (.str _) (.cons (.bl _) .nil))), ?_⟩
    have e : PyData.canLay0 (.list [.str "InvalidRow", .str x, .bool true]) = true := by
      have a1 : PyData.strOk "InvalidRow" = true := by decide +kernel
      have a2 : PyData.strOk x = true := ax
      simp [PyData.canLay0, PyData.canLayAll0, a1, a2]
    refine ⟨e, ?_⟩
    unfold SeqAt.shaped
    rw [e, Bool.true_and]
    refine decide_eq_true ?_
    simp [PyData.depth, PyData.depthAll]
  | some a =>
    refine ⟨.list [.str "given", .str a], fun h => .lst (SqL.of h) (.cons (.str _) (.cons (.str _) .nil)), ?_⟩
    have e : PyData.canLay0 (.list [.str "given", .str a]) = true := by
      have a1 : PyData.strOk "given" = true := by decide +kernel
      have a2 : PyData.strOk a = true := aa a rfl
      simp [PyData.canLay0, PyData.canLayAll0, a1, a2]
    refine ⟨e, ?_⟩
    unfold SeqAt.shaped
    rw [e, Bool.true_and]
    refine decide_eq_true ?_
    simp [PyData.depth, PyData.depthAll]
theorem ans_asc {wd : Nat} {t : Str} {rr : List (Nat × Bool)} {x a : Str} (h : ansR wd t rr x = some a) : Asc a := by
  unfold ansR at h
  have lit : ∀ {c : Prop} [Decidable c] {u v : Str}, PyData.strOk u = true → PyData.strOk v = true → Asc (if c then u else v) := fun h1 h2 => by
    split
    · exact h1
    · exact h2
  split at h
  · rw [← Option.some.inj h]; exact lit (by decide +kernel) (by decide +kernel)
  split at h
  · rw [← Option.some.inj h]; exact CoR.asc_it
  split at h
  · rw [← Option.some.inj h]; exact lit (by decide +kernel) (by decide +kernel)
  split at h
  · cases h
  · rw [← Option.some.inj h]; exact lit (by decide +kernel) CoR.asc_pc
section
variable {P : Program} {w : World} {K : PySem.W.Frag} {mg : Str → Option Value} {base : Heap}
theorem ok_right {f cR PR : Addr} {fd : FuncData} (F : Fun K "_law_right" "_law_right" sRight f fd) (R : TxR K mg) (hcd : fd.code = .ref cR) (sm : ∃ ob, base.get? sysModules = some ob) (TB : LamX.TabB base mg cR PR) : Gd.FnG P w K mg base CX0 12 f fd ["_law_jar_here"] (spRight PR) := by
  have GS : FnOk P w K mg base CX0 1 R.W.D.sip.f R.W.D.sip.fd ["_law_jar_here", "_law_many"] spSip := gk_sip R.W.D
  have GF : FnOk P w K mg base CX0 2 R.W.D.frm.f R.W.D.frm.fd ["_law_jar_here", "_law_things"] (spFrom K) := gk_from R.W.D
  have GO : FnOk P w K mg base CX0 4 R.W.D.lop.f R.W.D.lop.fd ["_law_jar_here", "_law_most"] spLoop := ok_loop R.W.D
  have GN : FnOk P w K mg base CX0 1 R.W.D.lin.f R.W.D.lin.fd ["_law_begun", "_law_ended"] spLine := ok_line R.W.D
  have GM : FnOk P w K mg base (L2.CX P w) 4 R.T.E.R.N.T.fI R.T.E.R.N.T.fdI ["self", "text"] (spLI K R.T.E.R.N.T.C R.T.E.R.N.T.E.C) := ok_li R.T.E.R.N.T
  have GC : FnOk P w K mg base (L2.CX P w) 6 R.T.fI R.T.fdI ["self", "loop", "size"] (spCnI R.T) := ok_cni R.T
  have GX : ∀ j, FnOk P w K mg base CX0 1 R.W.B.box.f R.W.B.box.fd [] (spBx j) := fun j => ok_bx R.W.B j
  have GR : FnOk P w K mg base CX0 3 R.W.row.f R.W.row.fd ["_law_jar_here", "_law_wide"] spRw := ok_rw R.W
  have GU : ∀ j, FnOk P w K mg base CX0 5 R.W.due.f R.W.due.fd ["_law_made", "_law_wide", "_law_boxes_here", "_law_line_here"] (spDu j) := fun j => ok_du R.W j
  have GY : FnOk P w K mg base (L2.CX P w) 8 R.T.say.f R.T.say.fd ["self", "row"] (spSy R.T) := ok_sy R.T
  obtain ⟨ob, sm⟩ := sm
  obtain ⟨oc, od, kV, doc, pm, an, cdv0, ct, osl, efd, lkC, hcgC⟩ := R.C.cm.F.ex
  have bC := R.C.cm.b
  rw [efd] at bC lkC
  refine Gd.okG F scRight (fun vs H Q E h => ?_) (fun cdv A outer s H vs Q E _ _ ecd hgd hr h => ?_)
  · obtain ⟨j, rfl, _⟩ := h
    rfl
  · obtain ⟨j, rfl, hJ, hT, k⟩ := h
    have ec : cdv = .ref cR := ecd.symm.trans hcd
    subst ec
    have hu := hu_of hr
    have hr1 : Room 1 _ := hr.mono (by decide)
    have hr2 : Room 2 _ := hr.mono (by decide)
    have hr3 : Room 3 _ := hr.mono (by decide)
    have hr4 : Room 4 _ := hr.mono (by decide)
    have hr5 : Room 5 _ := hr.mono (by decide)
    have hr7 : Room 7 _ := hr.mono (by decide)
    have hr10 : Room 10 _ := hr.mono (by decide)
    have hu2 : ((cxOf CX0 P w K mg base NR "_law_right" (defScope sRight) f (.ref cR) A outer s H E).nox).A.units + 100 < cLine := by
      have := hr.un
      show (A.deeper _).units + 100 < cLine
      omega
    have lam : ∀ {X : Cx} {params : Arguments} {body : Expr} {scope : Scope} {t : XK → L2.TE} {p lpos pos : Pos} (eX : X = (cxOf CX0 P w K mg base NR "_law_right" (defScope sRight) f (.ref cR) A outer s H E).nox) (L : LamX.LamS X.env.scope scope) (hdef : defaultsOf params X.env = ([], []))
        (hbind : ∀ (q : Str) (cl : List (Str × Addr)) (pm cv ctv : Value), bindArgs (PySem.W.kla_fn "<lambda>" q params body scope cl pm cv ctv) ⟨[], []⟩ = pure [])
        (hbody : ∀ (A : Around) (outer : List Env) (s : Shared) (H : Hp) (E : XK) (f c' : Addr), Room 8 (A.deeper (LamX.lamEnv X scope s.heap.objs.size f c')) → PE (LamX.lamCx X A outer s H E scope f c') body (t E)),
        PE X (.Call (.Name "_law_came" p) [.Lambda params body scope lpos] [] pos) (LamX.tLam [(PR, qLam)] (TCame R.T.eR.C) t) := by
      intro X params body scope t p lpos pos eX L hdef hbind hbody
      subst eX
      exact LamX.pe_lamcall (k := 8) rfl R.C.cm.g R.C.cm.k lkC hcgC bC scCame rfl (.inl rfl) (came_gives (X := (cxOf CX0 P w K mg base NR "_law_right" (defScope sRight) f (.ref cR) A outer s H E).nox) R.C) TB rfl (List.mem_singleton.mpr rfl) (fun q hq _ => by rw [List.mem_singleton.mp hq]; rfl) hr10 L hdef hbind hbody
    refine ⟨_, (C8.pss_cut (ps_par (i := 1) (j := 2) rfl scRight.nd rfl rfl (by decide) rfl rfl (pa_cons (pe_call GO hr4 rfl R.W.D.lop.g R.W.D.lop.k R.W.D.lop.b .nil pass0 (pa_cons (pv 0) (pa_cons pe_int pa_nil))) (pa_cons (pe_op op_add pe_int (pe_call GS hr1 rfl R.W.D.sip.g R.W.D.sip.k R.W.D.sip.b .nil pass0 (pa_cons (pv 0) (pa_cons pe_int pa_nil)))) pa_nil)) (by rfl)) (C8.pss_cut (ps_asg (pe_tup (pa_cons (pe_make R.T.MI GC hr7 rfl R.T.gC R.T.bI .nil pass_none (pa_cons (pe_make R.T.E.R.N.T.MI GM hr5 rfl R.T.E.R.N.T.gC R.T.E.R.N.T.bI .nil pass_none (pa_cons (pe_call GN hr1 rfl R.W.D.lin.g R.W.D.lin.k R.W.D.lin.b .nil pass0 (pa_cons (pe_ix ix_tup (pv 1) pe_int (fun _ _ => rfl)) (pa_cons (pe_ix ix_tup (pv 1) pe_int (fun _ _ => rfl)) pa_nil))) pa_nil)) (pa_cons (pv 2) pa_nil))) (pa_cons (pe_lst (pa_cons (pe_call0 (GX j) hr1 rfl R.W.B.box.g R.W.B.box.k R.W.B.box.b .nil pass0) pa_nil)) pa_nil))) (pg_tup rfl (pgs_cons (pg_name (i := 3) scRight.nd rfl (.inr rfl)) (pgs_cons (pg_name (i := 4) scRight.nd rfl (.inl rfl)) pgs_nil)))) (pss_cons (ps_for PassesOwn.never rfl (pi_range1 rfl R.W.D.range (pa_cons pe_int pa_nil)) (pg_name (i := 5) scRight.nd rfl (.inl rfl)) (pss_cons (ps_set (i := 6) scRight.nd rfl (.inr rfl) (pe_call GR hr3 rfl R.W.row.g R.W.row.k R.W.row.b .nil pass0 (pa_cons (pv 0) (pa_cons (pv 2) pa_nil)))) (pss_cons (ps_asg (pe_call (GU j) hr5 rfl R.W.due.g R.W.due.k R.W.due.b .nil pass0 (pa_cons (pv 1) (pa_cons (pv 2) (pa_cons (pv 4) (pa_cons (pv 6) pa_nil))))) (pg_tup rfl (pgs_cons (pg_name (i := 7) scRight.nd rfl (.inl rfl)) (pgs_cons (pg_name (i := 4) scRight.nd rfl (.inl rfl)) pgs_nil)))) (C8.pss_cut (ps_set (i := 8) scRight.nd rfl (.inl rfl) (pe_ifExp (pt_cmpR op_notN (pv 7) pe_non (nomark _)) (pe_lst (pa_cons pe_str (pa_cons (pv 7) pa_nil))) (pe_lst (pa_cons pe_str (pa_cons (pv 6) (pa_cons pe_bl pa_nil)))))) (pss_one (ps_if (pt_cmpR (op_neD (hu64 hr)) (lam (t := (fun E => tMeth R.T.C "say" (spSy R.T) [] E (tVar 3) (tCons (tVar 6) tNil))) rfl (LamX.lamS_by (sc := defScope sRight) (by decide +kernel)) rfl (fun _ _ _ _ _ => rfl) (fun A outer s H E f c' hrl => by exact (pe_meth (pv 3) R.T.cl R.T.say.m GY hrl R.T.say.b .nil (passes_call (takes_of rfl rfl rfl rfl) fun _ _ _ _ z => z) (pa_cons (pv 6) pa_nil)))) (pv 8) (nomark _)) (pss_one (ps_ret pe_bl)) pss_nil)))))) (pss_cons (ps_set (i := 9) scRight.nd rfl (.inr rfl) (pe_call GF hr2 rfl R.W.D.frm.g R.W.D.frm.k R.W.D.frm.b .nil pass0 (pa_cons (pv 0) (pa_cons (pe_lst (pa_cons pe_non (pa_cons pe_int (pa_cons (pe_tup (pa_cons pe_str pa_nil)) (pa_cons (pe_lst (pa_cons pe_str pa_nil)) (pa_cons pe_bl (pa_cons pe_dnewK pa_nil))))))) pa_nil)))) (pss_one (ps_ret (pe_cmpR op_eq (pe_callB (call_reprA hgd (by omega) sm) (by rfl) R.repr (by decide +kernel) (pa_cons (lam (t := (fun E => MKw.tMethK R.T.C "say" (spSy R.T) gKwV E (tVar 3) (tCons (tVar 9) tNil))) rfl (LamX.lamS_by (sc := defScope sRight) (by decide +kernel)) rfl (fun _ _ _ _ _ => rfl) (fun A outer s H E f c' hrl => by exact (MKw.pe_methK (pv 3) R.T.cl R.T.say.m GY hrl R.KS (passes_call (takes_of rfl rfl rfl rfl) fun _ _ _ _ z => z) (pk_cons (pv 9) pk_nil)))) pa_nil)) (pe_callB (call_reprA hgd (by omega) sm) (by rfl) R.repr (by decide +kernel) (pa_cons (pe_lst (pa_cons pe_str (pa_cons (pv 9) (pa_cons pe_bl pa_nil)))) pa_nil)) (nomark _)))))))), ?_⟩
    -- made, wide
    refine ⟨fun σ H' => ∃ (ma a b : Addr) (B E : List Str) (wd : Nat), σ = [some (.ref j), some (.ref ma), some (.int (wd : Nat)), none, none, none, none, none, none, none] ∧ Ts PR j H H' ∧ a ≠ j ∧ b ≠ j ∧ H' ma = some (.tup [.ref a, .ref b]) ∧ H' a = some (.lst (svs B)) ∧ H' b = some (.lst (svs E)) ∧ isRound B = true ∧ isEnding E = true ∧ 1 ≤ wd ∧ wd ≤ 8, ?_, ?_⟩
    · refine ⟨_, rfl, j, 7, rfl, hJ, by decide, by decide, fun H2 ma a b B E' W hm => ?_⟩
      have mj : ma ≠ j := fun z => by
        obtain ⟨_, _, _, q⟩ := W.J
        rw [z, q] at hm
        cases hm
      have aj := jar_ne hJ W.na
      have bj := jar_ne hJ W.nb
      refine ⟨_, rfl, j, 6, rfl, W.J, by decide, by decide, fun H3 d d0 d1 o3 J3 => ⟨_, _, rfl, rfl, _, _, rfl, ?_⟩⟩
      obtain ⟨n, rfl⟩ := Int.eq_ofNat_of_zero_le d0
      have e4 : (1 : Int) + (n : Int) = ((1 + n : Nat) : Int) := by omega
      refine ⟨ma, a, b, B, E', 1 + n, ?_, ((⟨OffN.refl, hJ, hT⟩ : Ts PR j H H).off' W.o W.J).off' o3 J3, aj, bj, o3 _ _ mj hm, o3 _ _ aj W.ha, o3 _ _ bj W.hb, W.rB, W.rE, by omega, by omega⟩
      simp only [← e4]
      rfl
    rintro _ H2 ⟨ma, a, b, B, E', wd, rfl, T2, aj, bj, hm, ha, hb, rB, rE, w1, w2⟩
    have gt := text_good rB rE
    have bd : Bd (textOf B E') := Nat.le_trans (text_len rB rE) (by decide)
    have nB : B ≠ [] := round_ne rB
    have shB := (round_sht rB).mono (m := 100) (by decide)
    have shE := (ending_sht rE).mono (m := 100) (by decide)
    -- desk, boxes
    refine ⟨fun σ H' => ∃ (dk ddx lv dx lo m bl b0 : Addr), σ = [some (.ref j), some (.ref ma), some (.int (wd : Nat)), some (.ref dk), some (.ref bl), none, none, none, none, none] ∧ (∀ b o, b ≠ j → (∀ ps, o ≠ .tbl ps) → H b = some o → b ≠ lv) ∧ TS66 R.T PR j H H' dk ddx lv dx ma a b lo m bl B E' wd [] [b0], ?_, ?_⟩
    · refine ⟨_, rfl, ma, _, 0, _, rfl, rfl, SqT.of hm, rfl, _, rfl, ma, _, 1, _, rfl, rfl, SqT.of hm, rfl, a, b, B, E', rfl, ha, hb, shB, shE, ending_asc rE, fun H3 s3 => ?_⟩
      rw [line_text nB]
      intro x dx nx ndx nex
      refine ⟨x, dx, _, rfl, upd_same, typed_str _, bd, fun t' et _ H4 o4 l4 => ⟨rfl, ?_⟩, fun z => absurd (gt.symm.trans z) (by decide)⟩
      cases et
      have s4 := Same.trans s3 (made_same nx ndx o4)
      refine ⟨_, rfl, ?_⟩
      intro y dy ny ndy ney
      have sM : Same H4 (upd (upd H4 dy (.own y)) y (.ins R.T.C dy [])) := fun b u e => by
        rw [upd_ne (ne_of_none e ny), upd_ne (ne_of_none e ndy)]
        exact e
      have T4 := T2.same s4
      refine ⟨y, dy, x, wd, textOf B E', rfl, upd_same, l4.same sM, w1, by omega, fun H5 lv ldx m o5 nlv hC => ⟨rfl, ?_⟩⟩
      have s5 := made_same ny ndy o5
      have T5 := T4.same s5
      have s45 := Same.trans s4 s5
      have nlv4 : H4 lv = none := sM.free nlv
      refine ⟨rfl, T5.jar, fun H6 d s6 nd hB => ⟨(by show 1 ≤ sizeLine; decide), fun bl nbl => ⟨(by show 2 ≤ sizeLine; decide), fun q nq => ⟨q, _, rfl, SqT.of upd_same, rfl, _, _, rfl, _, _, rfl, rfl, ?_⟩⟩⟩⟩
      have u2 := same_new (o := .lst [.ref d]) nbl
      have u3 := same_new (o := .tup [.ref y, .ref bl]) nq
      have s7 := Same.trans s6 (Same.trans u2 u3)
      have s47 := Same.trans s45 s7
      have nl0 : ∀ b o, b ≠ j → (∀ ps, o ≠ .tbl ps) → H b = some o → b ≠ lv := fun b o nb nt e => ne_of_none (T4.off b o nb nt e) nlv4
      have T7 := T5.same s7
      refine ⟨y, dy, lv, ldx, x, m, bl, d, rfl, nl0, T7, hC.same s7, ⟨T7.jar, s47 _ _ hm, s47 _ _ ha, s47 _ _ hb, rB, rE, w1, w2, u3 _ _ upd_same, .nil ((hB.same u2).same u3), True.intro, fun r h => nomatch h⟩, aj, bj, jar_ne (T5.jar.same s6) nbl⟩
    rintro _ H4 ⟨dk, ddx, lv, dx, lo, m0, bl0, b0, rfl, nl, S0⟩
    clear T2 hm ha hb aj bj
    refine ⟨20, rfl, by decide, by decide, for_range (lo := 0) (n := 20) (fun i σ H' => ∃ (m bl : Addr) (rr : List (Nat × Bool)) (bs : List Addr) (v5 v6 v7 v8 v9 : Option V), σ = [some (.ref j), some (.ref ma), some (.int (wd : Nat)), some (.ref dk), some (.ref bl), v5, v6, v7, v8, v9] ∧ rr.length ≤ i ∧ TS66 R.T PR j H H' dk ddx lv dx ma a b lo m bl B E' wd rr bs)
      ⟨m0, bl0, [], [b0], none, none, none, none, none, rfl, Nat.le_refl _, S0⟩ ?_ ?_⟩
    · rintro i σ H5 hi ⟨m, bl, rr, bs, v5, v6, v7, v8, v9, rfl, hl, S⟩
      have hi20 : i < 20 := hi
      refine ⟨_, rfl, _, rfl, j, wd, rfl, S.ts.jar, w2, fun H6 x o6 J6 ax lx => ?_⟩
      have S6 := S.offj o6 J6
      refine ⟨_, rfl, _, rfl, _, rfl, _, rfl, ma, a, b, bl, B, E', wd, x, rr, bs, rfl, S6.bx, S6.lj, by omega, lx, fun H7 q bl2 bs2 s7 hq nj2 bx7 => ?_⟩
      refine ⟨q, _, rfl, SqT.of hq, rfl, _, _, rfl, _, _, rfl, rfl, ?_⟩
      have S7 := S6.same s7
      have nx := next_len (wd := wd) (t := textOf B E') (rr := rr) (x := x)
      -- what is due
      refine ⟨fun σ H' => ∃ du : Addr, σ = [some (.ref j), some (.ref ma), some (.int (wd : Nat)), some (.ref dk), some (.ref bl2), some (.int (0 + (i : Int))), some (.str x), some (optV (ansR wd (textOf B E') rr x)), some (.ref du), v9] ∧ Same H7 H' ∧ H' du = some (.lst (rowR x (ansR wd (textOf B E') rr x))), ?_, ?_⟩
      · refine ⟨_, rfl, rfl, _, rfl, ?_⟩
        cases ha : ansR wd (textOf B E') rr x with
        | none => exact iteF ⟨_, rfl, (by show 3 ≤ sizeLine; decide), fun du ndu => ⟨du, rfl, same_new ndu, upd_same⟩⟩
        | some a0 => exact iteT ⟨_, rfl, (by show 2 ≤ sizeLine; decide), fun du ndu => ⟨du, rfl, same_new ndu, upd_same⟩⟩
      rintro _ H8 ⟨du, rfl, s8, hdu⟩
      have S8 := S7.same s8
      have bx8 := bx7.same s8
      obtain ⟨g1, g2, _, _, g5⟩ := st_ord S8.bx (by omega)
      refine lam_sy R.T S8.ts.tab rfl rfl S8.con gt w1 (by omega) (by omega) S8.bx.ok S8.bx.hc (by omega) g1 g2 g5 fun H9 p m' kl T9 hC9 hp => ?_
      have dl : du ≠ lv := ne_of hdu S8.con.rd.at_ (by intro z; cases z)
      have hd9 := kl _ _ dl (by intro ps z; cases z) hdu
      obtain ⟨d, hd, q1, q2⟩ := row_shaped (oa := ansR wd (textOf B E') rr x) ax fun a0 h => ans_asc h
      refine ⟨_, rfl, d, d, hd hp, hd hd9, q2, q2, _, rfl, ?_⟩
      rw [SeqAt.eqv_refl _ q1]
      exact iteF ⟨m', bl2, nextR wd (textOf B E') rr x, bs2, _, _, _, _, _, rfl, by omega, S8.ts.keepl nl S8.con.rd.at_ kl T9, hC9, bx8.keepl S8.con.rd.at_ kl, S.aj, S.bj, nj2⟩
    · rintro σ H5 ⟨m, bl, rr, bs, v5, v6, v7, v8, v9, rfl, hl, S⟩
      have T1 := S.ts
      refine ⟨_, rfl, (by show 1 ≤ sizeLine; decide), fun t1 n1 => ⟨(by show 1 ≤ sizeLine; decide), fun l1 nl1 dd ndd => ⟨(by show 6 ≤ sizeLine; decide), fun L nL => ?_⟩⟩⟩
      have u1 := same_new (o := .tup [.str "undo"]) n1
      have u2 := same_new (o := .lst [.str "undo"]) nl1
      have u3 := same_new (o := .dK []) ndd
      have u6 := same_new (o := .lst [.non, .int 5, .ref t1, .ref l1, .bl true, .ref dd]) nL
      have u16 := Same.trans u1 (Same.trans u2 (Same.trans u3 u6))
      have J1 := T1.jar
      have J6a := J1.same u16
      refine ⟨j, L, [.non, .int 5, .ref t1, .ref l1, .bl true, .ref dd], rfl, J6a, jar_ne (J1.same (Same.trans u1 (Same.trans u2 u3))) nL, SqL.of upd_same, (by show 0 < 6; decide), (by show 6 < 1073741824; decide), fun H6 ix v hv o6 J6 => ?_⟩
      have e1 : H6 t1 = some (.tup [.str "undo"]) := o6 _ _ (jar_ne J1 n1) (u6 _ _ (u3 _ _ (u2 _ _ upd_same)))
      have e2 : H6 l1 = some (.lst [.str "undo"]) := o6 _ _ (jar_ne (J1.same u1) nl1) (u6 _ _ (u3 _ _ upd_same))
      have e3 : H6 dd = some (.dK []) := o6 _ _ (jar_ne (J1.same (Same.trans u1 u2)) ndd) (u6 _ _ upd_same)
      have S6 := (S.same u16).offj o6 J6
      obtain ⟨d, hd, hn, sw⟩ : ∃ d, Dq H6 v d ∧ noStr d = true ∧ Sw 100 10 d := by
        match ix, hv with
        | 0, h => cases h; exact ⟨_, .non, rfl, sw_non.mono (by decide) (by decide)⟩
        | 1, h => cases h; exact ⟨_, .int _, rfl, (sw_int (by decide) (by decide +kernel)).mono (Nat.le_refl _) (by decide)⟩
        | 2, h => cases h; exact ⟨_, .tup e1 (.cons (.str _) .nil), rfl, by decide +kernel, by decide +kernel, by decide +kernel, by decide +kernel⟩
        | 3, h => cases h; exact ⟨_, .lst e2 (.cons (.str _) .nil), rfl, by decide +kernel, by decide +kernel, by decide +kernel, by decide +kernel⟩
        | 4, h => cases h; exact ⟨_, .bl _, rfl, (sw_bl true).mono (by decide) (by decide)⟩
        | 5, h => cases h; exact ⟨_, .dct e3, rfl, by decide +kernel, by decide +kernel, by decide +kernel, by decide +kernel⟩
        | n + 6, h => cases h
      clear e1 e2 e3 hv u1 u2 u3 u16 u6
      refine lam_od R.T S6.ts.tab rfl rfl S6.con hd hn fun H7 p7 e7 T7' hp7 => ?_
      have T7 := S6.ts.ext e7 T7'
      have hd7 := dq_ext e7 hd
      have sw3 : Sw 1000 64 (.list [.str "InvalidRow", d, .bool true]) := by
        refine (sw_lst (n := 100) (k := 10) (ds := [.str "InvalidRow", d, .bool true]) fun y hy => ?_).mono (by simp) (by decide)
        rcases List.mem_cons.mp hy with rfl | hy
        · exact ⟨by decide +kernel, by decide +kernel, by decide +kernel, by decide +kernel⟩
        rcases List.mem_cons.mp hy with rfl | hy
        · exact sw
        rw [List.mem_singleton.mp hy]
        exact (sw_bl true).mono (by decide) (by decide)
      refine ⟨.ref p7, _, 1000, rfl, .lst hp7 (.cons (.str _) (.cons hd7 (.cons (.bl _) .nil))), sw3, szl (Nat.le_refl _), ?_⟩
      refine ⟨_, rfl, (by show 3 ≤ sizeLine; decide), fun q8 n8 => ⟨.ref q8, _, 1000, rfl, .lst upd_same (.cons (.str _) (.cons (hd7.same (same_new n8)) (.cons (.bl _) .nil))), sw3, szl (Nat.le_refl _), rfl, ?_⟩⟩
      rw [decide_eq_true rfl]
      have T8 := T7.same (same_new (o := .lst [.str "InvalidRow", v, .bl true]) n8)
      exact k _ T8.off T8.tab
end
end My

namespace My
open PySem L2 Cm LM
abbrev sLaw : Stmt := top 74
def spLaw (K : PySem.W.Frag) (PR : Addr) : Sp := fun vs H Q _ => ∃ (a : Addr) (ns : List Int), vs = [.ref a] ∧ SqL K H a (ns.map V.int) ∧ ns.length ≤ 63 ∧ LamX.Tabs [(PR, qLam)] H ∧ ∀ H', Q (.bl true) H'
theorem scLaw : FnScope ["_law_script", "_law_k"] ["_law_script"] (defScope sLaw) := ⟨rfl, rfl, rfl, by decide +kernel, rfl, by decide +kernel, by decide +kernel⟩
theorem all_true : ∀ n : Nat, (List.replicate n true).all id = true
  | 0 => rfl
  | n + 1 => all_true n
theorem extN_sq {K : PySem.W.Frag} {a : Addr} {H H' : Hp} {xs : List V} (e : LamX.ExtN H H') (h : SqL K H a xs) : SqL K H' a xs := by
  rcases h with (h | ⟨o, h⟩) | h
  · exact .inl (.inl (e _ _ h (by intro ps z; cases z)))
  · exact .inl (.inr ⟨o, e _ _ h (by intro ps z; cases z)⟩)
  · exact .inr h
section
variable {P : Program} {w : World} {K : PySem.W.Frag} {mg : Str → Option Value} {base : Heap} {PR : Addr}
theorem ok_law {f fJ fR : Addr} {fd fdJ fdR : FuncData} (F : Fun K "law" "law" sLaw f fd) (TJ : TxtJ mg) (mrange : mg "range" = none) (mall : mg "all" = none) (kR9 : Nat) (GR : Gd.FnG P w K mg base CX0 kR9 fR fdR ["_law_jar_here"] (spRight PR))
    (FJ : Fun K "_law_jar" "_law_jar" sJar fJ fdJ) (bJ : Binds K fdJ ["_law_script", "_law_k"] []) (gJ : mg "_law_jar" = some (.ref fJ)) (kJ : PySem.W.keepIn K (.ref fJ) = true) (k1 : 1 ≤ kR9)
    (bR : Binds K fdR ["_law_jar_here"] []) (gR : mg "_law_right" = some (.ref fR)) (kR : PySem.W.keepIn K (.ref fR) = true) (mmax : mg "max" = none) (mmin : mg "min" = none) :
    Gd.FnG P w K mg base CX0 (kR9 + 1) f fd ["_law_script"] (spLaw K PR) := by
  have GJ : FnOk P w K mg base CX0 1 fJ fdJ ["_law_script", "_law_k"] (spJar K) := ok_jar FJ TJ
  refine Gd.okG F scLaw (fun vs H Q E h => ?_) (fun cdv A outer s H vs Q E _ _ _ hgd hr h => ?_)
  · obtain ⟨a, ns, rfl, _⟩ := h
    rfl
  · obtain ⟨a, ns, rfl, hS, hl, hT, k⟩ := h
    have hr1 : Room 1 _ := hr.mono k1
    refine ⟨_, pss_one (ps_ret (pe_callB (cr_all rfl) (by rfl) mall (by decide +kernel) (pa_cons (pe_lc (own := [("_law_k", 1)]) (g := gName 1) (tt := tYes) rfl scLaw.nd
      (pi_range1 rfl mrange (pa_cons (pe_callB (call_max2 rfl) (by rfl) mmax (by decide +kernel) (pa_cons pe_int (pa_cons (pe_callB (call_min2 rfl) (by rfl) mmin (by decide +kernel) (pa_cons (pe_callB call_len_seq (by rfl) TJ.len PySem.boot_len (pa_cons (pv 0) pa_nil)) (pa_cons pe_int pa_nil))) pa_nil))) pa_nil))
      (blkOk_by (own := [("_law_k", 1)]) (N := ["_law_script", "_law_k"]) (sc := defScope sLaw) (by decide +kernel)) (fun _ _ _ _ _ => pg_name (i := 1) scLaw.nd rfl (Or.inl rfl)) (fun _ _ _ _ _ => pts_nil)
      (fun _ _ _ _ _ => Gd.pe_callG GR hgd hr rfl gR kR bR .nil pass0 (pa_cons (pe_call GJ hr1 rfl gJ kJ bJ .nil pass0 (pa_cons (pv 0) (pa_cons (pv 1) pa_nil))) pa_nil))) pa_nil))), ?_⟩
    refine ⟨_, rfl, a, _, rfl, .inl hS, _, _, rfl, _, _, rfl, ?_⟩
    rw [List.length_map]
    have hm : ∃ n : Nat, (if (if (5 : Int) < (ns.length : Int) then 5 else (ns.length : Int)) > 2 then (if (5 : Int) < (ns.length : Int) then 5 else (ns.length : Int)) else 2) = (n : Int) ∧ n ≤ 5 := by
      by_cases h5 : (5 : Int) < (ns.length : Int)
      · rw [if_pos h5]
        exact ⟨5, rfl, Nat.le_refl _⟩
      · rw [if_neg h5]
        by_cases h2 : (ns.length : Int) > 2
        · rw [if_pos h2]
          exact ⟨ns.length, rfl, by omega⟩
        · rw [if_neg h2]
          exact ⟨2, rfl, by omega⟩
    obtain ⟨n, en, hn⟩ := hm
    refine ⟨_, rfl, by rw [en]; omega, by rw [en]; omega, fun D nD => ?_⟩
    rw [en]
    refine lc_range (lo := 0) (n := ((n : Int)).toNat) (fun i H' => LamX.ExtN H H' ∧ LamX.Tabs [(PR, qLam)] H' ∧ H' D = some (.lst ((List.replicate i true).map V.bl))) ⟨LamX.ExtN.of (same_upd nD), hT.ext (same_upd nD), upd_same⟩ ?_ ?_
    · rintro i H1 hi ⟨x1, T1, hD⟩
      refine ⟨rfl, _, rfl, _, rfl, a, ns, i, by rw [Int.zero_add]; rfl, extN_sq x1 hS, hl, fun H2 j s2 nj J2 => ?_⟩
      refine ⟨j, rfl, J2, T1.ext s2, fun H3 o3 T3 => ?_⟩
      have x3 : LamX.ExtN H1 H3 := fun b o q n => o3 b o (fun z => by rw [z, nj] at q; cases q) n (s2 b o q)
      have hD3 := x3 _ _ hD (by intro ps z; cases z)
      refine ⟨_, hD3, small1000 (by rw [List.length_map, List.length_replicate]; omega), fun b o q n => ?_, ?_, ?_⟩
      · rw [upd_ne (ne_of_none q nD)]
        exact x3 _ _ (x1 b o q n) n
      · intro p hp
        obtain ⟨ps, a1, a2, a3⟩ := T3 p hp
        refine ⟨ps, by rw [upd_ne (ne_of a1 hD3 (by intro z; cases z))]; exact a1, a2, fun pos cv hcv => ?_⟩
        obtain ⟨c, e, hc⟩ := a3 pos cv hcv
        exact ⟨c, e, by rw [upd_ne (ne_of hc hD3 (by intro z; unfold LamX.CodeO at z; cases z))]; exact hc⟩
      · rw [upd_same, List.replicate_succ', List.map_append]
        rfl
    · rintro H1 ⟨x1, T1, hD⟩
      refine ⟨D, List.replicate _ true, rfl, SqL.of hD, ?_⟩
      rw [all_true]
      exact k H1
end
theorem all_mk {l : PySem.W.OpenLaw} {w : World} {K : PySem.W.Frag} {h : Heap} {mg : Str → Option Value} {fa pT pR pE fwo foo fiw faw fir fie CIT fIT CL fli fiib fcks CES fES CX fxi fxa fxq fxp fxr fxc flx CM fmi CQ fqi fckl pqgp fqgp pqhp fqhp pqkp fqkp pqop fqop fql fqr fqf fqu fqc fqk fqt CStp CNtu CEL fEL CEC fEC CET fET CEM fEM fsip ffrm fwds flop flin fpas fsli fdon ffed fbox fic fro fit fpt CK fki CIR fIR fau faf fsay CInp CSte CSze fltx flfd fldu flrw fcm fjar cR PR frt flaw : Addr} (X : K.In h) (G : h.Ns mainGlobals mg) (hfa : mg "law" = some (.ref fa))
    {odT odR odE odwo anwo odoo anoo odiw aniw odaw anaw odir anir odie anie odIT anIT odli anli odiib aniib odcks ancks odES anES odxi anxi odxa anxa odxq anxq odxp anxp odxr anxr odxc anxc odlx anlx odmi anmi odqi anqi odckl anckl odqgp anqgp odqhp anqhp odqkp anqkp odqop anqop odql anql odqr anqr odqf anqf odqu anqu odqc anqc odqk anqk odqt anqt odEL anEL odEC anEC odET anET odEM anEM odsip ansip odfrm anfrm odwds anwds odlop anlop odlin anlin odpas anpas odsli ansli oddon andon odfed anfed odbox anbox odic anic odro anro odit anit odpt anpt odki anki odIR anIR odau anau odaf anaf odsay ansay odltx anltx odlfd anlfd odldu anldu odlrw anlrw odcm ancm odjar anjar odC odrt anrt odlaw anlaw : Option Addr}
    {slT slR slE slwo sloo sliw slaw slir slie slIT slli sliib slcks slES slxi slxa slxq slxp slxr slxc sllx slmi slqi slckl slqgp slqhp slqkp slqop slql slqr slqf slqu slqc slqk slqt slEL slEC slET slEM slsip slfrm slwds sllop sllin slpas slsli sldon slfed slbox slic slro slit slpt slki slIR slau slaf slsay slltx sllfd slldu sllrw slcm sljar slC slrt sllaw : Array (Option Value)}
    {ocwo kVwo dcwo pmwo cdwo ctwo ocoo kVoo dcoo pmoo cdoo ctoo ociw kViw dciw pmiw cdiw ctiw ocaw kVaw dcaw pmaw cdaw ctaw ocir kVir dcir pmir cdir ctir ocie kVie dcie pmie cdie ctie ocIT kVIT dcIT pmIT cdIT ctIT ocli kVli dcli pmli cdli ctli ociib kViib dciib pmiib cdiib ctiib occks kVcks dccks pmcks cdcks ctcks ocES kVES dcES pmES cdES ctES ocxi kVxi dcxi pmxi cdxi ctxi ocxa kVxa dcxa pmxa cdxa ctxa ocxq kVxq dcxq pmxq cdxq ctxq ocxp kVxp dcxp pmxp cdxp ctxp ocxr kVxr dcxr pmxr cdxr ctxr ocxc kVxc dcxc pmxc cdxc ctxc oclx kVlx dclx pmlx cdlx ctlx ocmi kVmi dcmi pmmi cdmi ctmi ocqi kVqi dcqi pmqi cdqi ctqi occkl kVckl dcckl pmckl cdckl ctckl ocqgp kVqgp dcqgp pmqgp cdqgp ctqgp ocqhp kVqhp dcqhp pmqhp cdqhp ctqhp ocqkp kVqkp dcqkp pmqkp cdqkp ctqkp ocqop kVqop dcqop pmqop cdqop ctqop ocql kVql dcql pmql cdql ctql ocqr kVqr dcqr pmqr cdqr ctqr ocqf kVqf dcqf pmqf cdqf ctqf ocqu kVqu dcqu pmqu cdqu ctqu ocqc kVqc dcqc pmqc cdqc ctqc ocqk kVqk dcqk pmqk cdqk ctqk ocqt kVqt dcqt pmqt cdqt ctqt ocEL kVEL dcEL pmEL cdEL ctEL ocEC kVEC dcEC pmEC cdEC ctEC ocET kVET dcET pmET cdET ctET ocEM kVEM dcEM pmEM cdEM ctEM ocsip kVsip dcsip pmsip cdsip ctsip ocfrm kVfrm dcfrm pmfrm cdfrm ctfrm ocwds kVwds dcwds pmwds cdwds ctwds oclop kVlop dclop pmlop cdlop ctlop oclin kVlin dclin pmlin cdlin ctlin ocpas kVpas dcpas pmpas cdpas ctpas ocsli kVsli dcsli pmsli cdsli ctsli ocdon kVdon dcdon pmdon cddon ctdon ocfed kVfed dcfed pmfed cdfed ctfed ocbox kVbox dcbox pmbox cdbox ctbox ocic kVic dcic pmic cdic ctic ocro kVro dcro pmro cdro ctro ocit kVit dcit pmit cdit ctit ocpt kVpt dcpt pmpt cdpt ctpt ocki kVki dcki pmki cdki ctki ocIR kVIR dcIR pmIR cdIR ctIR ocau kVau dcau pmau cdau ctau ocaf kVaf dcaf pmaf cdaf ctaf ocsay kVsay dcsay pmsay cdsay ctsay ocltx kVltx dcltx pmltx cdltx ctltx oclfd kVlfd dclfd pmlfd cdlfd ctlfd ocldu kVldu dcldu pmldu cdldu ctldu oclrw kVlrw dclrw pmlrw cdlrw ctlrw occm kVcm dccm pmcm cdcm ctcm ocjar kVjar dcjar pmjar cdjar ctjar ocC ocrt kVrt dcrt pmrt ctrt oclaw kVlaw dclaw pmlaw cdlaw ctlaw : Value}
    {tkT0 tkT1 tkT2 tkT3 tkT4 tkT5 tkT6 tkT7 tkR0 tkR1 tkR2 tkR3 tkR4 tkR5 tkE0 tkE1 tkE2 tkB tkMR tkME tkMP tkMI tkFE tkTO tkRF : Tok}
    {nT nR nE : Nat}
    {nmIT qIT : Str} {NIT : Addr} {bsIT bmIT : List Value} {snIT : List Str} {subIT : List Value} {abIT : Bool} {colIT : Option Bool} {ddIT : Option Addr} {m0IT m1IT m2IT m3IT m5IT : Option Value}
    {nmES qES : Str} {NES : Addr} {bsES bmES : List Value} {snES : List Str} {subES : List Value} {abES : Bool} {colES : Option Bool} {ddES : Option Addr} {m0ES m1ES m2ES m3ES m5ES : Option Value}
    {rsqgp : List Value}
    {rsqhp : List Value}
    {rsqkp : List Value}
    {rsqop : List Value}
    {nmEL qEL : Str} {NEL : Addr} {bsEL bmEL : List Value} {snEL : List Str} {subEL : List Value} {abEL : Bool} {colEL : Option Bool} {ddEL : Option Addr} {m0EL m1EL m2EL m3EL m5EL : Option Value}
    {nmEC qEC : Str} {NEC : Addr} {bsEC bmEC : List Value} {snEC : List Str} {subEC : List Value} {abEC : Bool} {colEC : Option Bool} {ddEC : Option Addr} {m0EC m1EC m2EC m3EC m5EC : Option Value}
    {nmET qET : Str} {NET : Addr} {bsET bmET : List Value} {snET : List Str} {subET : List Value} {abET : Bool} {colET : Option Bool} {ddET : Option Addr} {m0ET m1ET m2ET m3ET m5ET : Option Value}
    {nmEM qEM : Str} {NEM : Addr} {bsEM bmEM : List Value} {snEM : List Str} {subEM : List Value} {abEM : Bool} {colEM : Option Bool} {ddEM : Option Addr} {m0EM m1EM m2EM m3EM m5EM : Option Value}
    {nmIR qIR : Str} {NIR : Addr} {bsIR bmIR : List Value} {snIR : List Str} {subIR : List Value} {abIR : Bool} {colIR : Option Bool} {ddIR : Option Addr} {m0IR m1IR m2IR m3IR m5IR : Option Value}
    {vsC : Array Value}
    (gT : PySem.W.nsIn K mainGlobals "TESTS" = some (some (.ref pT)))
    (tT : K.lookup pT = some ⟨.type "tuple", odT, .seq #[.str "empty" tkT0, .str "some" tkT1, .str "short" tkT2, .str "full" tkT3, .str "told" tkT4, .str "open" tkT5, .str "rest" tkT6, .str "bare" tkT7] nT, slT⟩)
    (gR : PySem.W.nsIn K mainGlobals "ROUND_STEPS" = some (some (.ref pR)))
    (tR : K.lookup pR = some ⟨.type "tuple", odR, .seq #[.str "add" tkR0, .str "hand" tkR1, .str "cut" tkR2, .str "flush" tkR3, .str "stop" tkR4, .str "again" tkR5] nR, slR⟩)
    (gE : PySem.W.nsIn K mainGlobals "ENDING_STEPS" = some (some (.ref pE)))
    (tE : K.lookup pE = some ⟨.type "tuple", odE, .seq #[.str "hand" tkE0, .str "cut" tkE1, .str "flush" tkE2] nE, slE⟩)
    (mB : PySem.W.nsIn K mainGlobals "BAR" = some (some (.str " | " tkB)))
    (mMR : PySem.W.nsIn K mainGlobals "MOST_ROUND" = some (some (.int 12 tkMR)))
    (mME : PySem.W.nsIn K mainGlobals "MOST_ENDING" = some (some (.int 6 tkME)))
    (awo : PySem.W.nsIn K mainGlobals "words_of" = some (some (.ref fwo)))
    (lwo : K.lookup fwo = some ⟨ocwo, odwo, .func (PySem.W.fnOf "words_of" "words_of" (defArgs sWO) (defBody sWO) (defScope sWO) .none kVwo dcwo pmwo anwo cdwo ctwo), slwo⟩)
    (cwo : PySem.W.codeIn K cdwo "words_of" = true)
    (kwo : PySem.W.keepIn K (.ref fwo) = true)
    (aoo : PySem.W.nsIn K mainGlobals "order_of" = some (some (.ref foo)))
    (loo : K.lookup foo = some ⟨ocoo, odoo, .func (PySem.W.fnOf "order_of" "order_of" (defArgs sOO) (defBody sOO) (defScope sOO) .none kVoo dcoo pmoo anoo cdoo ctoo), sloo⟩)
    (coo : PySem.W.codeIn K cdoo "order_of" = true)
    (koo : PySem.W.keepIn K (.ref foo) = true)
    (aiw : PySem.W.nsIn K mainGlobals "is_word" = some (some (.ref fiw)))
    (liw : K.lookup fiw = some ⟨ociw, odiw, .func (PySem.W.fnOf "is_word" "is_word" (defArgs sIW) (defBody sIW) (defScope sIW) .none kViw dciw pmiw aniw cdiw ctiw), sliw⟩)
    (ciw : PySem.W.codeIn K cdiw "is_word" = true)
    (kiw : PySem.W.keepIn K (.ref fiw) = true)
    (aaw : PySem.W.nsIn K mainGlobals "are_words" = some (some (.ref faw)))
    (law : K.lookup faw = some ⟨ocaw, odaw, .func (PySem.W.fnOf "are_words" "are_words" (defArgs sAW) (defBody sAW) (defScope sAW) .none kVaw dcaw pmaw anaw cdaw ctaw), slaw⟩)
    (caw : PySem.W.codeIn K cdaw "are_words" = true)
    (kaw : PySem.W.keepIn K (.ref faw) = true)
    (air : PySem.W.nsIn K mainGlobals "is_round" = some (some (.ref fir)))
    (lir : K.lookup fir = some ⟨ocir, odir, .func (PySem.W.fnOf "is_round" "is_round" (defArgs sIR) (defBody sIR) (defScope sIR) .none kVir dcir pmir anir cdir ctir), slir⟩)
    (cir : PySem.W.codeIn K cdir "is_round" = true)
    (kir : PySem.W.keepIn K (.ref fir) = true)
    (aie : PySem.W.nsIn K mainGlobals "is_ending" = some (some (.ref fie)))
    (lie : K.lookup fie = some ⟨ocie, odie, .func (PySem.W.fnOf "is_ending" "is_ending" (defArgs sIE) (defBody sIE) (defScope sIE) .none kVie dcie pmie anie cdie ctie), slie⟩)
    (cie : PySem.W.codeIn K cdie "is_ending" = true)
    (kie : PySem.W.keepIn K (.ref fie) = true)
    (aCIT : PySem.W.nsIn K mainGlobals "InvalidText" = some (some (.ref CIT)))
    (aIT : PySem.W.findIn K (.ref CIT) "__init__" = some (some (.ref fIT)))
    (iIT : PySem.W.isFn K (.ref fIT) = true)
    (lIT : K.lookup fIT = some ⟨ocIT, odIT, .func (PySem.W.fnOf "__init__" "InvalidText.__init__" (defArgs sEI) (defBody sEI) (defScope sEI) .none kVIT dcIT pmIT anIT cdIT ctIT), slIT⟩)
    (cIT : PySem.W.codeIn K cdIT "InvalidText.__init__" = true)
    (kIT : PySem.W.keepIn K (.ref fIT) = true)
    (xIT : K.lookup CIT = some (excClassObj nmIT qIT CIT NIT bsIT bmIT true snIT subIT abIT colIT ddIT m0IT m1IT m2IT m3IT m5IT "ValueError.__new__"))
    (xrIT : PySem.HandSPX.refsVE bmIT = true)
    (e1IT : PySem.W.findIn K (.ref CIT) "__setattr__" = some (some (.builtin "object.__setattr__")))
    (e2IT : PySem.W.subIn K (.ref CIT) (.type "BaseException") = some true)
    (e3IT : PySem.W.typeIn K (.ref CIT) = some (.type "type"))
    (e4IT : PySem.W.keepIn K (.ref CIT) = true)
    (e5IT : PySem.W.typeIn K (.ref fIT) = some (.type "function"))
    (e6IT : PySem.W.findIn K (.ref CIT) "value" = some none)
    (aCL : PySem.W.nsIn K mainGlobals "Loop" = some (some (.ref CL)))
    (pgL : PySem.W.plainGet K CL Str.empty = true)
    (hdL : PySem.W.hasDictIn K CL = true)
    (poL : PySem.W.plainOver K CL = true)
    (saL : PySem.W.findIn K (.ref CL) "__setattr__" = some (some (.builtin "object.__setattr__")))
    (mkL : PySem.W.makesIn K CL = true)
    (kcL : PySem.W.keepIn K (.ref CL) = true)
    (nL0 : PySem.W.findIn K (.ref CL) "text" = some none)
    (nL1 : PySem.W.findIn K (.ref CL) "round" = some none)
    (nL2 : PySem.W.findIn K (.ref CL) "ending" = some none)
    (nL3 : PySem.W.findIn K (.ref CL) "round_orders" = some none)
    (nL4 : PySem.W.findIn K (.ref CL) "ending_orders" = some none)
    (ali : PySem.W.findIn K (.ref CL) "__init__" = some (some (.ref fli)))
    (ili : PySem.W.isFn K (.ref fli) = true)
    (lli : K.lookup fli = some ⟨ocli, odli, .func (PySem.W.fnOf "__init__" "Loop.__init__" (defArgs sLI) (defBody sLI) (defScope sLI) .none kVli dcli pmli anli cdli ctli), slli⟩)
    (cli : PySem.W.codeIn K cdli "Loop.__init__" = true)
    (kli : PySem.W.keepIn K (.ref fli) = true)
    (mMP : PySem.W.nsIn K mainGlobals "MOST_REPLIES" = some (some (.int 100 tkMP)))
    (mMI : PySem.W.nsIn K mainGlobals "MOST_ITEMS" = some (some (.int 1000 tkMI)))
    (aiib : PySem.W.nsIn K mainGlobals "is_integer_between" = some (some (.ref fiib)))
    (liib : K.lookup fiib = some ⟨ociib, odiib, .func (PySem.W.fnOf "is_integer_between" "is_integer_between" (defArgs sIIB) (defBody sIIB) (defScope sIIB) .none kViib dciib pmiib aniib cdiib ctiib), sliib⟩)
    (ciib : PySem.W.codeIn K cdiib "is_integer_between" = true)
    (kiib : PySem.W.keepIn K (.ref fiib) = true)
    (acks : PySem.W.nsIn K mainGlobals "check_size" = some (some (.ref fcks)))
    (lcks : K.lookup fcks = some ⟨occks, odcks, .func (PySem.W.fnOf "check_size" "check_size" (defArgs sCKS) (defBody sCKS) (defScope sCKS) .none kVcks dccks pmcks ancks cdcks ctcks), slcks⟩)
    (ccks : PySem.W.codeIn K cdcks "check_size" = true)
    (kcks : PySem.W.keepIn K (.ref fcks) = true)
    (aCES : PySem.W.nsIn K mainGlobals "InvalidSize" = some (some (.ref CES)))
    (aES : PySem.W.findIn K (.ref CES) "__init__" = some (some (.ref fES)))
    (iES : PySem.W.isFn K (.ref fES) = true)
    (lES : K.lookup fES = some ⟨ocES, odES, .func (PySem.W.fnOf "__init__" "InvalidSize.__init__" (defArgs sES) (defBody sES) (defScope sES) .none kVES dcES pmES anES cdES ctES), slES⟩)
    (cES : PySem.W.codeIn K cdES "InvalidSize.__init__" = true)
    (kES : PySem.W.keepIn K (.ref fES) = true)
    (xES : K.lookup CES = some (excClassObj nmES qES CES NES bsES bmES true snES subES abES colES ddES m0ES m1ES m2ES m3ES m5ES "ValueError.__new__"))
    (xrES : PySem.HandSPX.refsVE bmES = true)
    (e1ES : PySem.W.findIn K (.ref CES) "__setattr__" = some (some (.builtin "object.__setattr__")))
    (e2ES : PySem.W.subIn K (.ref CES) (.type "BaseException") = some true)
    (e3ES : PySem.W.typeIn K (.ref CES) = some (.type "type"))
    (e4ES : PySem.W.keepIn K (.ref CES) = true)
    (e5ES : PySem.W.typeIn K (.ref fES) = some (.type "function"))
    (e6ES : PySem.W.findIn K (.ref CES) "value" = some none)
    (aCX : PySem.W.nsIn K mainGlobals "Execution" = some (some (.ref CX)))
    (pgX : PySem.W.plainGet K CX Str.empty = true)
    (hdX : PySem.W.hasDictIn K CX = true)
    (poX : PySem.W.plainOver K CX = true)
    (saX : PySem.W.findIn K (.ref CX) "__setattr__" = some (some (.builtin "object.__setattr__")))
    (mkX : PySem.W.makesIn K CX = true)
    (kcX : PySem.W.keepIn K (.ref CX) = true)
    (nX0 : PySem.W.findIn K (.ref CX) "round_orders" = some none)
    (nX1 : PySem.W.findIn K (.ref CX) "ending_orders" = some none)
    (nX2 : PySem.W.findIn K (.ref CX) "size" = some none)
    (nX3 : PySem.W.findIn K (.ref CX) "held" = some none)
    (nX4 : PySem.W.findIn K (.ref CX) "told" = some none)
    (nX5 : PySem.W.findIn K (.ref CX) "kept" = some none)
    (nX6 : PySem.W.findIn K (.ref CX) "handed" = some none)
    (nX7 : PySem.W.findIn K (.ref CX) "asked" = some none)
    (nX8 : PySem.W.findIn K (.ref CX) "over" = some none)
    (axi : PySem.W.findIn K (.ref CX) "__init__" = some (some (.ref fxi)))
    (ixi : PySem.W.isFn K (.ref fxi) = true)
    (lxi : K.lookup fxi = some ⟨ocxi, odxi, .func (PySem.W.fnOf "__init__" "Execution.__init__" (defArgs sXI) (defBody sXI) (defScope sXI) .none kVxi dcxi pmxi anxi cdxi ctxi), slxi⟩)
    (cxi : PySem.W.codeIn K cdxi "Execution.__init__" = true)
    (kxi : PySem.W.keepIn K (.ref fxi) = true)
    (axa : PySem.W.findIn K (.ref CX) "answer" = some (some (.ref fxa)))
    (ixa : PySem.W.isFn K (.ref fxa) = true)
    (lxa : K.lookup fxa = some ⟨ocxa, odxa, .func (PySem.W.fnOf "answer" "Execution.answer" (defArgs sXA) (defBody sXA) (defScope sXA) .none kVxa dcxa pmxa anxa cdxa ctxa), slxa⟩)
    (cxa : PySem.W.codeIn K cdxa "Execution.answer" = true)
    (kxa : PySem.W.keepIn K (.ref fxa) = true)
    (axq : PySem.W.findIn K (.ref CX) "finish" = some (some (.ref fxq)))
    (ixq : PySem.W.isFn K (.ref fxq) = true)
    (lxq : K.lookup fxq = some ⟨ocxq, odxq, .func (PySem.W.fnOf "finish" "Execution.finish" (defArgs sXF) (defBody sXF) (defScope sXF) .none kVxq dcxq pmxq anxq cdxq ctxq), slxq⟩)
    (cxq : PySem.W.codeIn K cdxq "Execution.finish" = true)
    (kxq : PySem.W.keepIn K (.ref fxq) = true)
    (axp : PySem.W.findIn K (.ref CX) "passes" = some (some (.ref fxp)))
    (ixp : PySem.W.isFn K (.ref fxp) = true)
    (lxp : K.lookup fxp = some ⟨ocxp, odxp, .func (PySem.W.fnOf "passes" "Execution.passes" (defArgs sXP) (defBody sXP) (defScope sXP) .none kVxp dcxp pmxp anxp cdxp ctxp), slxp⟩)
    (cxp : PySem.W.codeIn K cdxp "Execution.passes" = true)
    (kxp : PySem.W.keepIn K (.ref fxp) = true)
    (axr : PySem.W.findIn K (.ref CX) "perform" = some (some (.ref fxr)))
    (ixr : PySem.W.isFn K (.ref fxr) = true)
    (lxr : K.lookup fxr = some ⟨ocxr, odxr, .func (PySem.W.fnOf "perform" "Execution.perform" (defArgs sXR) (defBody sXR) (defScope sXR) .none kVxr dcxr pmxr anxr cdxr ctxr), slxr⟩)
    (cxr : PySem.W.codeIn K cdxr "Execution.perform" = true)
    (kxr : PySem.W.keepIn K (.ref fxr) = true)
    (axc : PySem.W.findIn K (.ref CX) "cut_off" = some (some (.ref fxc)))
    (ixc : PySem.W.isFn K (.ref fxc) = true)
    (lxc : K.lookup fxc = some ⟨ocxc, odxc, .func (PySem.W.fnOf "cut_off" "Execution.cut_off" (defArgs sXC) (defBody sXC) (defScope sXC) .none kVxc dcxc pmxc anxc cdxc ctxc), slxc⟩)
    (cxc : PySem.W.codeIn K cdxc "Execution.cut_off" = true)
    (kxc : PySem.W.keepIn K (.ref fxc) = true)
    (alx : PySem.W.findIn K (.ref CL) "execution" = some (some (.ref flx)))
    (ilx : PySem.W.isFn K (.ref flx) = true)
    (llx : K.lookup flx = some ⟨oclx, odlx, .func (PySem.W.fnOf "execution" "Loop.execution" (defArgs sLX) (defBody sLX) (defScope sLX) .none kVlx dclx pmlx anlx cdlx ctlx), sllx⟩)
    (clx : PySem.W.codeIn K cdlx "Loop.execution" = true)
    (klx : PySem.W.keepIn K (.ref flx) = true)
    (aCM : PySem.W.nsIn K mainGlobals "Moment" = some (some (.ref CM)))
    (pgM : PySem.W.plainGet K CM Str.empty = true)
    (hdM : PySem.W.hasDictIn K CM = true)
    (poM : PySem.W.plainOver K CM = true)
    (saM : PySem.W.findIn K (.ref CM) "__setattr__" = some (some (.builtin "object.__setattr__")))
    (mkM : PySem.W.makesIn K CM = true)
    (kcM : PySem.W.keepIn K (.ref CM) = true)
    (nM0 : PySem.W.findIn K (.ref CM) "before" = some none)
    (nM1 : PySem.W.findIn K (.ref CM) "given" = some none)
    (nM2 : PySem.W.findIn K (.ref CM) "handed" = some none)
    (nM3 : PySem.W.findIn K (.ref CM) "kept" = some none)
    (nM4 : PySem.W.findIn K (.ref CM) "over" = some none)
    (ami : PySem.W.findIn K (.ref CM) "__init__" = some (some (.ref fmi)))
    (imi : PySem.W.isFn K (.ref fmi) = true)
    (lmi : K.lookup fmi = some ⟨ocmi, odmi, .func (PySem.W.fnOf "__init__" "Moment.__init__" (defArgs sMmI) (defBody sMmI) (defScope sMmI) .none kVmi dcmi pmmi anmi cdmi ctmi), slmi⟩)
    (cmi : PySem.W.codeIn K cdmi "Moment.__init__" = true)
    (kmi : PySem.W.keepIn K (.ref fmi) = true)
    (aCQ : PySem.W.nsIn K mainGlobals "Reading" = some (some (.ref CQ)))
    (pgQ : PySem.W.plainGet K CQ Str.empty = true)
    (hdQ : PySem.W.hasDictIn K CQ = true)
    (poQ : PySem.W.plainOver K CQ = true)
    (saQ : PySem.W.findIn K (.ref CQ) "__setattr__" = some (some (.builtin "object.__setattr__")))
    (mkQ : PySem.W.makesIn K CQ = true)
    (kcQ : PySem.W.keepIn K (.ref CQ) = true)
    (nQ0 : PySem.W.findIn K (.ref CQ) "loop" = some none)
    (nQ1 : PySem.W.findIn K (.ref CQ) "size" = some none)
    (nQ2 : PySem.W.findIn K (.ref CQ) "busy" = some none)
    (nQ3 : PySem.W.findIn K (.ref CQ) "moment" = some none)
    (aqi : PySem.W.findIn K (.ref CQ) "__init__" = some (some (.ref fqi)))
    (iqi : PySem.W.isFn K (.ref fqi) = true)
    (lqi : K.lookup fqi = some ⟨ocqi, odqi, .func (PySem.W.fnOf "__init__" "Reading.__init__" (defArgs sRdI) (defBody sRdI) (defScope sRdI) .none kVqi dcqi pmqi anqi cdqi ctqi), slqi⟩)
    (cqi : PySem.W.codeIn K cdqi "Reading.__init__" = true)
    (kqi : PySem.W.keepIn K (.ref fqi) = true)
    (ackl : PySem.W.nsIn K mainGlobals "check_loop" = some (some (.ref fckl)))
    (lckl : K.lookup fckl = some ⟨occkl, odckl, .func (PySem.W.fnOf "check_loop" "check_loop" (defArgs sCKL) (defBody sCKL) (defScope sCKL) .none kVckl dcckl pmckl anckl cdckl ctckl), slckl⟩)
    (cckl : PySem.W.codeIn K cdckl "check_loop" = true)
    (kckl : PySem.W.keepIn K (.ref fckl) = true)
    (w1 : PySem.W.findIn K (.ref CL) "__class__" = some (some (.builtin "object.__class__")))
    (w2 : PySem.W.specialIn K (.builtin "object.__class__") "__get__" = some (some (.builtin "getset_descriptor.__get__")))
    (w3 : PySem.W.takesIn K (.builtin "object.__class__") = some true)
    (w4 : PySem.W.mroIn K CL (.type "object") = some true)
    (w5 : PySem.W.kitOne K (.ref CL) (.ref CL) = some true)
    (aqgp : PySem.W.findIn K (.ref CQ) "replies" = some (some (.ref pqgp)))
    (gqgp : PySem.W.specialIn K (.ref pqgp) "__get__" = some (some (.builtin "property.__get__")))
    (tqgp : PySem.W.takesIn K (.ref pqgp) = some true)
    (rqgp : PySem.W.recIn K pqgp "property" = some (.ref fqgp :: rsqgp))
    (lqgp : K.lookup fqgp = some ⟨ocqgp, odqgp, .func (PySem.W.fnOf "replies" "Reading.replies" (defArgs sRdG) (defBody sRdG) (defScope sRdG) .none kVqgp dcqgp pmqgp anqgp cdqgp ctqgp), slqgp⟩)
    (cqgp : PySem.W.codeIn K cdqgp "Reading.replies" = true)
    (kqgp : PySem.W.keepIn K (.ref fqgp) = true)
    (aqhp : PySem.W.findIn K (.ref CQ) "pieces" = some (some (.ref pqhp)))
    (gqhp : PySem.W.specialIn K (.ref pqhp) "__get__" = some (some (.builtin "property.__get__")))
    (tqhp : PySem.W.takesIn K (.ref pqhp) = some true)
    (rqhp : PySem.W.recIn K pqhp "property" = some (.ref fqhp :: rsqhp))
    (lqhp : K.lookup fqhp = some ⟨ocqhp, odqhp, .func (PySem.W.fnOf "pieces" "Reading.pieces" (defArgs sRdH) (defBody sRdH) (defScope sRdH) .none kVqhp dcqhp pmqhp anqhp cdqhp ctqhp), slqhp⟩)
    (cqhp : PySem.W.codeIn K cdqhp "Reading.pieces" = true)
    (kqhp : PySem.W.keepIn K (.ref fqhp) = true)
    (aqkp : PySem.W.findIn K (.ref CQ) "rest" = some (some (.ref pqkp)))
    (gqkp : PySem.W.specialIn K (.ref pqkp) "__get__" = some (some (.builtin "property.__get__")))
    (tqkp : PySem.W.takesIn K (.ref pqkp) = some true)
    (rqkp : PySem.W.recIn K pqkp "property" = some (.ref fqkp :: rsqkp))
    (lqkp : K.lookup fqkp = some ⟨ocqkp, odqkp, .func (PySem.W.fnOf "rest" "Reading.rest" (defArgs sRdK) (defBody sRdK) (defScope sRdK) .none kVqkp dcqkp pmqkp anqkp cdqkp ctqkp), slqkp⟩)
    (cqkp : PySem.W.codeIn K cdqkp "Reading.rest" = true)
    (kqkp : PySem.W.keepIn K (.ref fqkp) = true)
    (aqop : PySem.W.findIn K (.ref CQ) "stopped" = some (some (.ref pqop)))
    (gqop : PySem.W.specialIn K (.ref pqop) "__get__" = some (some (.builtin "property.__get__")))
    (tqop : PySem.W.takesIn K (.ref pqop) = some true)
    (rqop : PySem.W.recIn K pqop "property" = some (.ref fqop :: rsqop))
    (lqop : K.lookup fqop = some ⟨ocqop, odqop, .func (PySem.W.fnOf "stopped" "Reading.stopped" (defArgs sRdO) (defBody sRdO) (defScope sRdO) .none kVqop dcqop pmqop anqop cdqop ctqop), slqop⟩)
    (cqop : PySem.W.codeIn K cdqop "Reading.stopped" = true)
    (kqop : PySem.W.keepIn K (.ref fqop) = true)
    (aql : PySem.W.findIn K (.ref CQ) "__len__" = some (some (.ref fql)))
    (iql : PySem.W.isFn K (.ref fql) = true)
    (lql : K.lookup fql = some ⟨ocql, odql, .func (PySem.W.fnOf "__len__" "Reading.__len__" (defArgs sRdL) (defBody sRdL) (defScope sRdL) .none kVql dcql pmql anql cdql ctql), slql⟩)
    (cql : PySem.W.codeIn K cdql "Reading.__len__" = true)
    (kql : PySem.W.keepIn K (.ref fql) = true)
    (aqr : PySem.W.findIn K (.ref CQ) "__repr__" = some (some (.ref fqr)))
    (iqr : PySem.W.isFn K (.ref fqr) = true)
    (lqr : K.lookup fqr = some ⟨ocqr, odqr, .func (PySem.W.fnOf "__repr__" "Reading.__repr__" (defArgs sRdR) (defBody sRdR) (defScope sRdR) .none kVqr dcqr pmqr anqr cdqr ctqr), slqr⟩)
    (cqr : PySem.W.codeIn K cdqr "Reading.__repr__" = true)
    (kqr : PySem.W.keepIn K (.ref fqr) = true)
    (aqf : PySem.W.findIn K (.ref CQ) "feed" = some (some (.ref fqf)))
    (iqf : PySem.W.isFn K (.ref fqf) = true)
    (lqf : K.lookup fqf = some ⟨ocqf, odqf, .func (PySem.W.fnOf "feed" "Reading.feed" (defArgs sRdF) (defBody sRdF) (defScope sRdF) .none kVqf dcqf pmqf anqf cdqf ctqf), slqf⟩)
    (cqf : PySem.W.codeIn K cdqf "Reading.feed" = true)
    (kqf : PySem.W.keepIn K (.ref fqf) = true)
    (aqu : PySem.W.findIn K (.ref CQ) "undo" = some (some (.ref fqu)))
    (iqu : PySem.W.isFn K (.ref fqu) = true)
    (lqu : K.lookup fqu = some ⟨ocqu, odqu, .func (PySem.W.fnOf "undo" "Reading.undo" (defArgs sRdU) (defBody sRdU) (defScope sRdU) .none kVqu dcqu pmqu anqu cdqu ctqu), slqu⟩)
    (cqu : PySem.W.codeIn K cdqu "Reading.undo" = true)
    (kqu : PySem.W.keepIn K (.ref fqu) = true)
    (aqc : PySem.W.findIn K (.ref CQ) "check_free" = some (some (.ref fqc)))
    (iqc : PySem.W.isFn K (.ref fqc) = true)
    (lqc : K.lookup fqc = some ⟨ocqc, odqc, .func (PySem.W.fnOf "check_free" "Reading.check_free" (defArgs sRdCf) (defBody sRdCf) (defScope sRdCf) .none kVqc dcqc pmqc anqc cdqc ctqc), slqc⟩)
    (cqc : PySem.W.codeIn K cdqc "Reading.check_free" = true)
    (kqc : PySem.W.keepIn K (.ref fqc) = true)
    (aqk : PySem.W.findIn K (.ref CQ) "check_reply" = some (some (.ref fqk)))
    (iqk : PySem.W.isFn K (.ref fqk) = true)
    (lqk : K.lookup fqk = some ⟨ocqk, odqk, .func (PySem.W.fnOf "check_reply" "Reading.check_reply" (defArgs sRdCr) (defBody sRdCr) (defScope sRdCr) .none kVqk dcqk pmqk anqk cdqk ctqk), slqk⟩)
    (cqk : PySem.W.codeIn K cdqk "Reading.check_reply" = true)
    (kqk : PySem.W.keepIn K (.ref fqk) = true)
    (aqt : PySem.W.findIn K (.ref CQ) "take" = some (some (.ref fqt)))
    (iqt : PySem.W.isFn K (.ref fqt) = true)
    (lqt : K.lookup fqt = some ⟨ocqt, odqt, .func (PySem.W.fnOf "take" "Reading.take" (defArgs sRdT) (defBody sRdT) (defScope sRdT) .none kVqt dcqt pmqt anqt cdqt ctqt), slqt⟩)
    (cqt : PySem.W.codeIn K cdqt "Reading.take" = true)
    (kqt : PySem.W.keepIn K (.ref fqt) = true)
    (aCStp : PySem.W.nsIn K mainGlobals "Stopped" = some (some (.ref CStp)))
    (qStp : PySem.W.excIn K CStp [.type "LookupError", .type "Exception", .type "BaseException", .type "object"] "LookupError.__new__" = true)
    (kStp : PySem.W.keepIn K (.ref CStp) = true)
    (sStp : PySem.W.subIn K (.ref CStp) (.type "BaseException") = some true)
    (tStp : PySem.W.typeIn K (.ref CStp) = some (.type "type"))
    (aCNtu : PySem.W.nsIn K mainGlobals "NothingToUndo" = some (some (.ref CNtu)))
    (qNtu : PySem.W.excIn K CNtu [.type "LookupError", .type "Exception", .type "BaseException", .type "object"] "LookupError.__new__" = true)
    (kNtu : PySem.W.keepIn K (.ref CNtu) = true)
    (sNtu : PySem.W.subIn K (.ref CNtu) (.type "BaseException") = some true)
    (tNtu : PySem.W.typeIn K (.ref CNtu) = some (.type "type"))
    (aCEL : PySem.W.nsIn K mainGlobals "NotALoop" = some (some (.ref CEL)))
    (aEL : PySem.W.findIn K (.ref CEL) "__init__" = some (some (.ref fEL)))
    (iEL : PySem.W.isFn K (.ref fEL) = true)
    (lEL : K.lookup fEL = some ⟨ocEL, odEL, .func (PySem.W.fnOf "__init__" "NotALoop.__init__" (defArgs sEL) (defBody sEL) (defScope sEL) .none kVEL dcEL pmEL anEL cdEL ctEL), slEL⟩)
    (cEL : PySem.W.codeIn K cdEL "NotALoop.__init__" = true)
    (kEL : PySem.W.keepIn K (.ref fEL) = true)
    (xEL : K.lookup CEL = some (excClassObj nmEL qEL CEL NEL bsEL bmEL true snEL subEL abEL colEL ddEL m0EL m1EL m2EL m3EL m5EL "ValueError.__new__"))
    (xrEL : PySem.HandSPX.refsVE bmEL = true)
    (e1EL : PySem.W.findIn K (.ref CEL) "__setattr__" = some (some (.builtin "object.__setattr__")))
    (e2EL : PySem.W.subIn K (.ref CEL) (.type "BaseException") = some true)
    (e3EL : PySem.W.typeIn K (.ref CEL) = some (.type "type"))
    (e4EL : PySem.W.keepIn K (.ref CEL) = true)
    (e5EL : PySem.W.typeIn K (.ref fEL) = some (.type "function"))
    (e6EL : PySem.W.findIn K (.ref CEL) "value" = some none)
    (aCEC : PySem.W.nsIn K mainGlobals "InvalidCount" = some (some (.ref CEC)))
    (aEC : PySem.W.findIn K (.ref CEC) "__init__" = some (some (.ref fEC)))
    (iEC : PySem.W.isFn K (.ref fEC) = true)
    (lEC : K.lookup fEC = some ⟨ocEC, odEC, .func (PySem.W.fnOf "__init__" "InvalidCount.__init__" (defArgs sEC) (defBody sEC) (defScope sEC) .none kVEC dcEC pmEC anEC cdEC ctEC), slEC⟩)
    (cEC : PySem.W.codeIn K cdEC "InvalidCount.__init__" = true)
    (kEC : PySem.W.keepIn K (.ref fEC) = true)
    (xEC : K.lookup CEC = some (excClassObj nmEC qEC CEC NEC bsEC bmEC true snEC subEC abEC colEC ddEC m0EC m1EC m2EC m3EC m5EC "ValueError.__new__"))
    (xrEC : PySem.HandSPX.refsVE bmEC = true)
    (e1EC : PySem.W.findIn K (.ref CEC) "__setattr__" = some (some (.builtin "object.__setattr__")))
    (e2EC : PySem.W.subIn K (.ref CEC) (.type "BaseException") = some true)
    (e3EC : PySem.W.typeIn K (.ref CEC) = some (.type "type"))
    (e4EC : PySem.W.keepIn K (.ref CEC) = true)
    (e5EC : PySem.W.typeIn K (.ref fEC) = some (.type "function"))
    (e6EC : PySem.W.findIn K (.ref CEC) "value" = some none)
    (aCET : PySem.W.nsIn K mainGlobals "InvalidTold" = some (some (.ref CET)))
    (aET : PySem.W.findIn K (.ref CET) "__init__" = some (some (.ref fET)))
    (iET : PySem.W.isFn K (.ref fET) = true)
    (lET : K.lookup fET = some ⟨ocET, odET, .func (PySem.W.fnOf "__init__" "InvalidTold.__init__" (defArgs sET) (defBody sET) (defScope sET) .none kVET dcET pmET anET cdET ctET), slET⟩)
    (cET : PySem.W.codeIn K cdET "InvalidTold.__init__" = true)
    (kET : PySem.W.keepIn K (.ref fET) = true)
    (xET : K.lookup CET = some (excClassObj nmET qET CET NET bsET bmET true snET subET abET colET ddET m0ET m1ET m2ET m3ET m5ET "ValueError.__new__"))
    (xrET : PySem.HandSPX.refsVE bmET = true)
    (e1ET : PySem.W.findIn K (.ref CET) "__setattr__" = some (some (.builtin "object.__setattr__")))
    (e2ET : PySem.W.subIn K (.ref CET) (.type "BaseException") = some true)
    (e3ET : PySem.W.typeIn K (.ref CET) = some (.type "type"))
    (e4ET : PySem.W.keepIn K (.ref CET) = true)
    (e5ET : PySem.W.typeIn K (.ref fET) = some (.type "function"))
    (e6ET : PySem.W.findIn K (.ref CET) "value" = some none)
    (aCEM : PySem.W.nsIn K mainGlobals "TooManyReplies" = some (some (.ref CEM)))
    (aEM : PySem.W.findIn K (.ref CEM) "__init__" = some (some (.ref fEM)))
    (iEM : PySem.W.isFn K (.ref fEM) = true)
    (lEM : K.lookup fEM = some ⟨ocEM, odEM, .func (PySem.W.fnOf "__init__" "TooManyReplies.__init__" (defArgs sEM) (defBody sEM) (defScope sEM) .none kVEM dcEM pmEM anEM cdEM ctEM), slEM⟩)
    (cEM : PySem.W.codeIn K cdEM "TooManyReplies.__init__" = true)
    (kEM : PySem.W.keepIn K (.ref fEM) = true)
    (xEM : K.lookup CEM = some (excClassObj nmEM qEM CEM NEM bsEM bmEM true snEM subEM abEM colEM ddEM m0EM m1EM m2EM m3EM m5EM "ArithmeticError.__new__"))
    (xrEM : ExV.Behind [.type "ArithmeticError", .type "Exception", .type "BaseException", .type "object"] bmEM)
    (e1EM : PySem.W.findIn K (.ref CEM) "__setattr__" = some (some (.builtin "object.__setattr__")))
    (e2EM : PySem.W.subIn K (.ref CEM) (.type "BaseException") = some true)
    (e3EM : PySem.W.typeIn K (.ref CEM) = some (.type "type"))
    (e4EM : PySem.W.keepIn K (.ref CEM) = true)
    (e5EM : PySem.W.typeIn K (.ref fEM) = some (.type "function"))
    (e6EM : PySem.W.findIn K (.ref CEM) "limit" = some none)
    (asip : PySem.W.nsIn K mainGlobals "_law_sip" = some (some (.ref fsip)))
    (lsip : K.lookup fsip = some ⟨ocsip, odsip, .func (PySem.W.fnOf "_law_sip" "_law_sip" (defArgs sSip) (defBody sSip) (defScope sSip) .none kVsip dcsip pmsip ansip cdsip ctsip), slsip⟩)
    (csip : PySem.W.codeIn K cdsip "_law_sip" = true)
    (ksip : PySem.W.keepIn K (.ref fsip) = true)
    (afrm : PySem.W.nsIn K mainGlobals "_law_from" = some (some (.ref ffrm)))
    (lfrm : K.lookup ffrm = some ⟨ocfrm, odfrm, .func (PySem.W.fnOf "_law_from" "_law_from" (defArgs sFrom) (defBody sFrom) (defScope sFrom) .none kVfrm dcfrm pmfrm anfrm cdfrm ctfrm), slfrm⟩)
    (cfrm : PySem.W.codeIn K cdfrm "_law_from" = true)
    (kfrm : PySem.W.keepIn K (.ref ffrm) = true)
    (awds : PySem.W.nsIn K mainGlobals "_law_words" = some (some (.ref fwds)))
    (lwds : K.lookup fwds = some ⟨ocwds, odwds, .func (PySem.W.fnOf "_law_words" "_law_words" (defArgs sWords) (defBody sWords) (defScope sWords) .none kVwds dcwds pmwds anwds cdwds ctwds), slwds⟩)
    (cwds : PySem.W.codeIn K cdwds "_law_words" = true)
    (kwds : PySem.W.keepIn K (.ref fwds) = true)
    (alop : PySem.W.nsIn K mainGlobals "_law_loop" = some (some (.ref flop)))
    (llop : K.lookup flop = some ⟨oclop, odlop, .func (PySem.W.fnOf "_law_loop" "_law_loop" (defArgs sLoop) (defBody sLoop) (defScope sLoop) .none kVlop dclop pmlop anlop cdlop ctlop), sllop⟩)
    (clop : PySem.W.codeIn K cdlop "_law_loop" = true)
    (klop : PySem.W.keepIn K (.ref flop) = true)
    (alin : PySem.W.nsIn K mainGlobals "_law_line" = some (some (.ref flin)))
    (llin : K.lookup flin = some ⟨oclin, odlin, .func (PySem.W.fnOf "_law_line" "_law_line" (defArgs sLine) (defBody sLine) (defScope sLine) .none kVlin dclin pmlin anlin cdlin ctlin), sllin⟩)
    (clin : PySem.W.codeIn K cdlin "_law_line" = true)
    (klin : PySem.W.keepIn K (.ref flin) = true)
    (apas : PySem.W.nsIn K mainGlobals "_law_passed" = some (some (.ref fpas)))
    (lpas : K.lookup fpas = some ⟨ocpas, odpas, .func (PySem.W.fnOf "_law_passed" "_law_passed" (defArgs sPassed) (defBody sPassed) (defScope sPassed) .none kVpas dcpas pmpas anpas cdpas ctpas), slpas⟩)
    (cpas : PySem.W.codeIn K cdpas "_law_passed" = true)
    (kpas : PySem.W.keepIn K (.ref fpas) = true)
    (asli : PySem.W.nsIn K mainGlobals "_law_sliced" = some (some (.ref fsli)))
    (lsli : K.lookup fsli = some ⟨ocsli, odsli, .func (PySem.W.fnOf "_law_sliced" "_law_sliced" (defArgs sSliced) (defBody sSliced) (defScope sSliced) .none kVsli dcsli pmsli ansli cdsli ctsli), slsli⟩)
    (csli : PySem.W.codeIn K cdsli "_law_sliced" = true)
    (ksli : PySem.W.keepIn K (.ref fsli) = true)
    (adon : PySem.W.nsIn K mainGlobals "_law_done" = some (some (.ref fdon)))
    (ldon : K.lookup fdon = some ⟨ocdon, oddon, .func (PySem.W.fnOf "_law_done" "_law_done" (defArgs sDone) (defBody sDone) (defScope sDone) .none kVdon dcdon pmdon andon cddon ctdon), sldon⟩)
    (cdon : PySem.W.codeIn K cddon "_law_done" = true)
    (kdon : PySem.W.keepIn K (.ref fdon) = true)
    (afed : PySem.W.nsIn K mainGlobals "_law_fed" = some (some (.ref ffed)))
    (lfed : K.lookup ffed = some ⟨ocfed, odfed, .func (PySem.W.fnOf "_law_fed" "_law_fed" (defArgs sFed) (defBody sFed) (defScope sFed) .none kVfed dcfed pmfed anfed cdfed ctfed), slfed⟩)
    (cfed : PySem.W.codeIn K cdfed "_law_fed" = true)
    (kfed : PySem.W.keepIn K (.ref ffed) = true)
    (abox : PySem.W.nsIn K mainGlobals "_law_box" = some (some (.ref fbox)))
    (lbox : K.lookup fbox = some ⟨ocbox, odbox, .func (PySem.W.fnOf "_law_box" "_law_box" (defArgs sBox) (defBody sBox) (defScope sBox) .none kVbox dcbox pmbox anbox cdbox ctbox), slbox⟩)
    (cbox : PySem.W.codeIn K cdbox "_law_box" = true)
    (kbox : PySem.W.keepIn K (.ref fbox) = true)
    (mFE : PySem.W.nsIn K mainGlobals "FEED" = some (some (.str "feed " tkFE)))
    (mTO : PySem.W.nsIn K mainGlobals "TOLD" = some (some (.str "!" tkTO)))
    (aic : PySem.W.nsIn K mainGlobals "is_count" = some (some (.ref fic)))
    (lic : K.lookup fic = some ⟨ocic, odic, .func (PySem.W.fnOf "is_count" "is_count" (defArgs sIC) (defBody sIC) (defScope sIC) .none kVic dcic pmic anic cdic ctic), slic⟩)
    (cic : PySem.W.codeIn K cdic "is_count" = true)
    (kic : PySem.W.keepIn K (.ref fic) = true)
    (aro : PySem.W.nsIn K mainGlobals "reply_of" = some (some (.ref fro)))
    (lro : K.lookup fro = some ⟨ocro, odro, .func (PySem.W.fnOf "reply_of" "reply_of" (defArgs sRO) (defBody sRO) (defScope sRO) .none kVro dcro pmro anro cdro ctro), slro⟩)
    (cro : PySem.W.codeIn K cdro "reply_of" = true)
    (kro : PySem.W.keepIn K (.ref fro) = true)
    (ait : PySem.W.nsIn K mainGlobals "items_text" = some (some (.ref fit)))
    (lit : K.lookup fit = some ⟨ocit, odit, .func (PySem.W.fnOf "items_text" "items_text" (defArgs sIT) (defBody sIT) (defScope sIT) .none kVit dcit pmit anit cdit ctit), slit⟩)
    (cit : PySem.W.codeIn K cdit "items_text" = true)
    (kit : PySem.W.keepIn K (.ref fit) = true)
    (apt : PySem.W.nsIn K mainGlobals "pieces_text" = some (some (.ref fpt)))
    (lpt : K.lookup fpt = some ⟨ocpt, odpt, .func (PySem.W.fnOf "pieces_text" "pieces_text" (defArgs sPT) (defBody sPT) (defScope sPT) .none kVpt dcpt pmpt anpt cdpt ctpt), slpt⟩)
    (cpt : PySem.W.codeIn K cdpt "pieces_text" = true)
    (kpt : PySem.W.keepIn K (.ref fpt) = true)
    (aCK : PySem.W.nsIn K mainGlobals "Console" = some (some (.ref CK)))
    (pgK : PySem.W.plainGet K CK Str.empty = true)
    (hdK : PySem.W.hasDictIn K CK = true)
    (poK : PySem.W.plainOver K CK = true)
    (saK : PySem.W.findIn K (.ref CK) "__setattr__" = some (some (.builtin "object.__setattr__")))
    (mkK : PySem.W.makesIn K CK = true)
    (kcK : PySem.W.keepIn K (.ref CK) = true)
    (nK0 : PySem.W.findIn K (.ref CK) "reading" = some none)
    (aki : PySem.W.findIn K (.ref CK) "__init__" = some (some (.ref fki)))
    (iki : PySem.W.isFn K (.ref fki) = true)
    (lki : K.lookup fki = some ⟨ocki, odki, .func (PySem.W.fnOf "__init__" "Console.__init__" (defArgs sCnI) (defBody sCnI) (defScope sCnI) .none kVki dcki pmki anki cdki ctki), slki⟩)
    (cki : PySem.W.codeIn K cdki "Console.__init__" = true)
    (kki : PySem.W.keepIn K (.ref fki) = true)
    (mRF : PySem.W.nsIn K mainGlobals "REFUSED" = some (some (.str "refused" tkRF)))
    (aCIR : PySem.W.nsIn K mainGlobals "InvalidRow" = some (some (.ref CIR)))
    (aIR : PySem.W.findIn K (.ref CIR) "__init__" = some (some (.ref fIR)))
    (iIR : PySem.W.isFn K (.ref fIR) = true)
    (lIR : K.lookup fIR = some ⟨ocIR, odIR, .func (PySem.W.fnOf "__init__" "InvalidRow.__init__" (defArgs sEIR) (defBody sEIR) (defScope sEIR) .none kVIR dcIR pmIR anIR cdIR ctIR), slIR⟩)
    (cIR : PySem.W.codeIn K cdIR "InvalidRow.__init__" = true)
    (kIR : PySem.W.keepIn K (.ref fIR) = true)
    (xIR : K.lookup CIR = some (excClassObj nmIR qIR CIR NIR bsIR bmIR true snIR subIR abIR colIR ddIR m0IR m1IR m2IR m3IR m5IR "ValueError.__new__"))
    (xrIR : PySem.HandSPX.refsVE bmIR = true)
    (e1IR : PySem.W.findIn K (.ref CIR) "__setattr__" = some (some (.builtin "object.__setattr__")))
    (e2IR : PySem.W.subIn K (.ref CIR) (.type "BaseException") = some true)
    (e3IR : PySem.W.typeIn K (.ref CIR) = some (.type "type"))
    (e4IR : PySem.W.keepIn K (.ref CIR) = true)
    (e5IR : PySem.W.typeIn K (.ref fIR) = some (.type "function"))
    (e6IR : PySem.W.findIn K (.ref CIR) "value" = some none)
    (aau : PySem.W.findIn K (.ref CK) "answer_undo" = some (some (.ref fau)))
    (iau : PySem.W.isFn K (.ref fau) = true)
    (lau : K.lookup fau = some ⟨ocau, odau, .func (PySem.W.fnOf "answer_undo" "Console.answer_undo" (defArgs sCnU) (defBody sCnU) (defScope sCnU) .none kVau dcau pmau anau cdau ctau), slau⟩)
    (cau : PySem.W.codeIn K cdau "Console.answer_undo" = true)
    (kau : PySem.W.keepIn K (.ref fau) = true)
    (aaf : PySem.W.findIn K (.ref CK) "answer_feed" = some (some (.ref faf)))
    (iaf : PySem.W.isFn K (.ref faf) = true)
    (laf : K.lookup faf = some ⟨ocaf, odaf, .func (PySem.W.fnOf "answer_feed" "Console.answer_feed" (defArgs sCnF) (defBody sCnF) (defScope sCnF) .none kVaf dcaf pmaf anaf cdaf ctaf), slaf⟩)
    (caf : PySem.W.codeIn K cdaf "Console.answer_feed" = true)
    (kaf : PySem.W.keepIn K (.ref faf) = true)
    (asay : PySem.W.findIn K (.ref CK) "say" = some (some (.ref fsay)))
    (isay : PySem.W.isFn K (.ref fsay) = true)
    (lsay : K.lookup fsay = some ⟨ocsay, odsay, .func (PySem.W.fnOf "say" "Console.say" (defArgs sCnS) (defBody sCnS) (defScope sCnS) .none kVsay dcsay pmsay ansay cdsay ctsay), slsay⟩)
    (csay : PySem.W.codeIn K cdsay "Console.say" = true)
    (ksay : PySem.W.keepIn K (.ref fsay) = true)
    (aCInp : PySem.W.nsIn K mainGlobals "InputError" = some (some (.ref CInp)))
    (aCSte : PySem.W.nsIn K mainGlobals "StateError" = some (some (.ref CSte)))
    (aCSze : PySem.W.nsIn K mainGlobals "SizeError" = some (some (.ref CSze)))
    (xnn : PySem.W.exmOne K (.ref CNtu) (.ref CNtu) = some true)
    (xcc : PySem.W.exmAny K (.ref CEC) [.ref CInp, .ref CSte, .ref CSze] = some true)
    (xss : PySem.W.exmAny K (.ref CStp) [.ref CInp, .ref CSte, .ref CSze] = some true)
    (xmm : PySem.W.exmAny K (.ref CEM) [.ref CInp, .ref CSte, .ref CSze] = some true)
    (altx : PySem.W.nsIn K mainGlobals "_law_text" = some (some (.ref fltx)))
    (lltx : K.lookup fltx = some ⟨ocltx, odltx, .func (PySem.W.fnOf "_law_text" "_law_text" (defArgs sTx) (defBody sTx) (defScope sTx) .none kVltx dcltx pmltx anltx cdltx ctltx), slltx⟩)
    (cltx : PySem.W.codeIn K cdltx "_law_text" = true)
    (kltx : PySem.W.keepIn K (.ref fltx) = true)
    (alfd : PySem.W.nsIn K mainGlobals "_law_fed_due" = some (some (.ref flfd)))
    (llfd : K.lookup flfd = some ⟨oclfd, odlfd, .func (PySem.W.fnOf "_law_fed_due" "_law_fed_due" (defArgs sFD) (defBody sFD) (defScope sFD) .none kVlfd dclfd pmlfd anlfd cdlfd ctlfd), sllfd⟩)
    (clfd : PySem.W.codeIn K cdlfd "_law_fed_due" = true)
    (klfd : PySem.W.keepIn K (.ref flfd) = true)
    (aldu : PySem.W.nsIn K mainGlobals "_law_due" = some (some (.ref fldu)))
    (lldu : K.lookup fldu = some ⟨ocldu, odldu, .func (PySem.W.fnOf "_law_due" "_law_due" (defArgs sDu) (defBody sDu) (defScope sDu) .none kVldu dcldu pmldu anldu cdldu ctldu), slldu⟩)
    (cldu : PySem.W.codeIn K cdldu "_law_due" = true)
    (kldu : PySem.W.keepIn K (.ref fldu) = true)
    (alrw : PySem.W.nsIn K mainGlobals "_law_row" = some (some (.ref flrw)))
    (llrw : K.lookup flrw = some ⟨oclrw, odlrw, .func (PySem.W.fnOf "_law_row" "_law_row" (defArgs sRw) (defBody sRw) (defScope sRw) .none kVlrw dclrw pmlrw anlrw cdlrw ctlrw), sllrw⟩)
    (clrw : PySem.W.codeIn K cdlrw "_law_row" = true)
    (klrw : PySem.W.keepIn K (.ref flrw) = true)
    (x7IR : PySem.W.findIn K (.ref CIR) "__getattribute__" = some (some (.builtin "BaseException.__getattribute__")))
    (x8IR : PySem.W.findIn K (.ref CIR) "__getattr__" = some none)
    (x9IR : PySem.W.hasDictIn K CIR = true)
    (xAIR : (PySem.W.clsIn K CIR).isSome = true)
    (xBIR : PySem.W.findIn K (.ref CIR) "__class__" = some (some (.builtin "object.__class__")))
    (xg1 : PySem.W.specialIn K (.builtin "object.__class__") "__get__" = some (some (.builtin "getset_descriptor.__get__")))
    (xg2 : PySem.W.takesIn K (.builtin "object.__class__") = some true)
    (xCIR : PySem.W.mroIn K CIR (.type "object") = some true)
    (te : PySem.W.exmOne K (.ref CIR) (.ref CIR) = some true)
    (k1e : PySem.W.kitOne K (.ref CIR) (.ref CInp) = some true)
    (k2e : PySem.W.kitOne K (.ref CIR) (.type "ValueError") = some true)
    (acm : PySem.W.nsIn K mainGlobals "_law_came" = some (some (.ref fcm)))
    (lcm : K.lookup fcm = some ⟨occm, odcm, .func (PySem.W.fnOf "_law_came" "_law_came" (defArgs sCame) (defBody sCame) (defScope sCame) .none kVcm dccm pmcm ancm cdcm ctcm), slcm⟩)
    (ccm : PySem.W.codeIn K cdcm "_law_came" = true)
    (kcm : PySem.W.keepIn K (.ref fcm) = true)
    (ajar : PySem.W.nsIn K mainGlobals "_law_jar" = some (some (.ref fjar)))
    (ljar : K.lookup fjar = some ⟨ocjar, odjar, .func (PySem.W.fnOf "_law_jar" "_law_jar" (defArgs sJar) (defBody sJar) (defScope sJar) .none kVjar dcjar pmjar anjar cdjar ctjar), sljar⟩)
    (cjar : PySem.W.codeIn K cdjar "_law_jar" = true)
    (kjar : PySem.W.keepIn K (.ref fjar) = true)
    (art : PySem.W.nsIn K mainGlobals "_law_right" = some (some (.ref frt)))
    (lrt : K.lookup frt = some ⟨ocrt, odrt, .func (PySem.W.fnOf "_law_right" "_law_right" (defArgs sRight) (defBody sRight) (defScope sRight) .none kVrt dcrt pmrt anrt (.ref cR) ctrt), slrt⟩)
    (crt : PySem.W.codeIn K (.ref cR) "_law_right" = true)
    (krt : PySem.W.keepIn K (.ref frt) = true)
    (alaw : PySem.W.nsIn K mainGlobals "law" = some (some (.ref flaw)))
    (llaw : K.lookup flaw = some ⟨oclaw, odlaw, .func (PySem.W.fnOf "law" "law" (defArgs sLaw) (defBody sLaw) (defScope sLaw) .none kVlaw dclaw pmlaw anlaw cdlaw ctlaw), sllaw⟩)
    (claw : PySem.W.codeIn K cdlaw "law" = true)
    (klaw : PySem.W.keepIn K (.ref flaw) = true)
    (q1 : K.lookup cR = some ⟨ocC, odC, .fields vsC, slC⟩)
    (q2 : vsC[11]? = some (.ref PR))
    (q3 : PySem.W.codeHdIn K cR PR = true)
    (q4 : K.lookup PR = none)
    (q5 : h.get? PR = some { cls := .none, data := .fields #[] })
    (z_tuple : PySem.W.nsIn K mainGlobals "tuple" = some none)
    (z_len : PySem.W.nsIn K mainGlobals "len" = some none)
    (z_all : PySem.W.nsIn K mainGlobals "all" = some none)
    (z_isinstance : PySem.W.nsIn K mainGlobals "isinstance" = some none)
    (z_str : PySem.W.nsIn K mainGlobals "str" = some none)
    (z_int : PySem.W.nsIn K mainGlobals "int" = some none)
    (z_bool : PySem.W.nsIn K mainGlobals "bool" = some none)
    (z_range : PySem.W.nsIn K mainGlobals "range" = some none)
    (z_sum : PySem.W.nsIn K mainGlobals "sum" = some none)
    (z_abs : PySem.W.nsIn K mainGlobals "abs" = some none)
    (z_divmod : PySem.W.nsIn K mainGlobals "divmod" = some none)
    (z_list : PySem.W.nsIn K mainGlobals "list" = some none)
    (z_any : PySem.W.nsIn K mainGlobals "any" = some none)
    (z_ValueError : PySem.W.nsIn K mainGlobals "ValueError" = some none)
    (z_repr : PySem.W.nsIn K mainGlobals "repr" = some none)
    (z_max : PySem.W.nsIn K mainGlobals "max" = some none)
    (z_min : PySem.W.nsIn K mainGlobals "min" = some none) :
    Gd.LawG l w K 13 63 "_law_script" mg fa h := by
  have e := hfa.symm.trans (PySem.W.mg_of X G alaw)
  cases e
  have Fwo := fun_mk (st := sWO) lwo cwo kwo
  have bwo := Fwo.binds (ps := ["text"]) fun _ _ _ _ _ _ => Ln.len1 fun _  => rfl
  have Foo := fun_mk (st := sOO) loo coo koo
  have boo := Foo.binds (ps := ["word"]) fun _ _ _ _ _ _ => Ln.len1 fun _  => rfl
  have Fiw := fun_mk (st := sIW) liw ciw kiw
  have biw := Fiw.binds (ps := ["word", "steps"]) fun _ _ _ _ _ _ => Ln.len2 fun _ _  => rfl
  have Faw := fun_mk (st := sAW) law caw kaw
  have baw := Faw.binds (ps := ["words", "steps"]) fun _ _ _ _ _ _ => Ln.len2 fun _ _  => rfl
  have Fir := fun_mk (st := sIR) lir cir kir
  have bir := Fir.binds (ps := ["words"]) fun _ _ _ _ _ _ => Ln.len1 fun _  => rfl
  have Fie := fun_mk (st := sIE) lie cie kie
  have bie := Fie.binds (ps := ["words"]) fun _ _ _ _ _ _ => Ln.len1 fun _  => rfl
  let TL : TxL K mg := ⟨PySem.W.mg_none_of X G z_tuple, PySem.W.mg_none_of X G z_len, PySem.W.mg_none_of X G z_all, ⟨_, PySem.W.mg_of X G mB⟩, ⟨_, PySem.W.mg_of X G mMR⟩, ⟨_, PySem.W.mg_of X G mME⟩, pT, pR, pE, PySem.W.mg_of X G gT, PySem.W.mg_of X G gR, PySem.W.mg_of X G gE, fun H => .inr ⟨_, _, _, tT, rfl, rfl, (by show 8 ≤ sizeLine; decide), .cons ⟨_, rfl⟩ (.cons ⟨_, rfl⟩ (.cons ⟨_, rfl⟩ (.cons ⟨_, rfl⟩ (.cons ⟨_, rfl⟩ (.cons ⟨_, rfl⟩ (.cons ⟨_, rfl⟩ (.cons ⟨_, rfl⟩ (.nil))))))))⟩, fun H => .inr ⟨_, _, _, tR, rfl, rfl, (by show 6 ≤ sizeLine; decide), .cons ⟨_, rfl⟩ (.cons ⟨_, rfl⟩ (.cons ⟨_, rfl⟩ (.cons ⟨_, rfl⟩ (.cons ⟨_, rfl⟩ (.cons ⟨_, rfl⟩ (.nil))))))⟩, fun H => .inr ⟨_, _, _, tE, rfl, rfl, (by show 3 ≤ sizeLine; decide), .cons ⟨_, rfl⟩ (.cons ⟨_, rfl⟩ (.cons ⟨_, rfl⟩ (.nil)))⟩, ⟨fwo, _, Fwo, bwo, PySem.W.mg_of X G awo, kwo⟩, ⟨foo, _, Foo, boo, PySem.W.mg_of X G aoo, koo⟩, ⟨fiw, _, Fiw, biw, PySem.W.mg_of X G aiw, kiw⟩, ⟨faw, _, Faw, baw, PySem.W.mg_of X G aaw, kaw⟩, ⟨fir, _, Fir, bir, PySem.W.mg_of X G air, kir⟩, ⟨fie, _, Fie, bie, PySem.W.mg_of X G aie, kie⟩⟩
  have FIT := fun_mk (st := sEI) lIT cIT kIT
  have bIT := FIT.binds (ps := ["self", "value"]) fun _ _ _ _ _ _ => Ln.len2 fun _ _  => rfl
  have Fli := fun_mk (st := sLI) lli cli kli
  have bli := Fli.binds (ps := ["self", "text"]) fun _ _ _ _ _ _ => Ln.len2 fun _ _  => rfl
  let TC : TxC K mg := ⟨TL, ⟨CIT, fIT, _, PySem.W.mg_of X G aCIT, ⟨⟨nmIT, qIT, NIT, bsIT, bmIT, snIT, subIT, abIT, colIT, ddIT, m0IT, m1IT, m2IT, m3IT, m5IT, xIT, xrIT⟩, e1IT, e2IT, e3IT, e4IT⟩, aIT, e5IT, e6IT, FIT, bIT⟩, PySem.W.mg_none_of X G z_isinstance, PySem.W.mg_none_of X G z_str, CL, PySem.W.mg_of X G aCL, ⟨pgL, hdL, poL, saL⟩, nL0, nL1, nL2, nL3, nL4, fli, _, Fli, bli, ⟨mkL, ali, ili, kcL⟩⟩
  have Fiib := fun_mk (st := sIIB) liib ciib kiib
  have biib := Fiib.binds (ps := ["value", "low", "high"]) fun _ _ _ _ _ _ => Ln.len3 fun _ _ _  => rfl
  have Fcks := fun_mk (st := sCKS) lcks ccks kcks
  have bcks := Fcks.binds (ps := ["size"]) fun _ _ _ _ _ _ => Ln.len1 fun _  => rfl
  have FES := fun_mk (st := sES) lES cES kES
  have bES := FES.binds (ps := ["self", "value"]) fun _ _ _ _ _ _ => Ln.len2 fun _ _  => rfl
  let TK : TxK K mg := ⟨PySem.W.mg_none_of X G z_isinstance, PySem.W.mg_none_of X G z_int, PySem.W.mg_none_of X G z_bool, PySem.W.mg_none_of X G z_tuple, PySem.W.mg_none_of X G z_len, ⟨_, PySem.W.mg_of X G mMP⟩, ⟨_, PySem.W.mg_of X G mMI⟩, ⟨fiib, _, Fiib, biib, PySem.W.mg_of X G aiib, kiib⟩, ⟨fcks, _, Fcks, bcks, PySem.W.mg_of X G acks, kcks⟩, ⟨CES, fES, _, PySem.W.mg_of X G aCES, ⟨⟨nmES, qES, NES, bsES, bmES, snES, subES, abES, colES, ddES, m0ES, m1ES, m2ES, m3ES, m5ES, xES, xrES⟩, e1ES, e2ES, e3ES, e4ES⟩, aES, e5ES, e6ES, FES, bES⟩⟩
  have Fxi := fun_mk (st := sXI) lxi cxi kxi
  have bxi := Fxi.binds (ps := ["self", "round_orders", "ending_orders", "size", "kept"]) fun _ _ _ _ _ _ => Ln.len5 fun _ _ _ _ _  => rfl
  have Fxa := fun_mk (st := sXA) lxa cxa kxa
  have bxa := Fxa.binds (ps := ["self", "held", "told"]) fun _ _ _ _ _ _ => Ln.len3 fun _ _ _  => rfl
  have Fxq := fun_mk (st := sXF) lxq cxq kxq
  have bxq := Fxq.binds (ps := ["self"]) fun _ _ _ _ _ _ => Ln.len1 fun _  => rfl
  have Fxp := fun_mk (st := sXP) lxp cxp kxp
  have bxp := Fxp.binds (ps := ["self", "test"]) fun _ _ _ _ _ _ => Ln.len2 fun _ _  => rfl
  have Fxr := fun_mk (st := sXR) lxr cxr kxr
  have bxr := Fxr.binds (ps := ["self", "step"]) fun _ _ _ _ _ _ => Ln.len2 fun _ _  => rfl
  have Fxc := fun_mk (st := sXC) lxc cxc kxc
  have bxc := Fxc.binds (ps := ["self"]) fun _ _ _ _ _ _ => Ln.len1 fun _  => rfl
  let TX : TxX K mg := ⟨PySem.W.mg_none_of X G z_len, PySem.W.mg_none_of X G z_range, CX, PySem.W.mg_of X G aCX, ⟨pgX, hdX, poX, saX⟩, nX0, nX1, nX2, nX3, nX4, nX5, nX6, nX7, nX8, fxi, _, Fxi, bxi, ⟨mkX, axi, ixi, kcX⟩, ⟨fxa, _, Fxa, bxa, ⟨axa, ixa, kxa⟩⟩, ⟨fxq, _, Fxq, bxq, ⟨axq, ixq, kxq⟩⟩, ⟨fxp, _, Fxp, bxp, ⟨axp, ixp, kxp⟩⟩, ⟨fxr, _, Fxr, bxr, ⟨axr, ixr, kxr⟩⟩, ⟨fxc, _, Fxc, bxc, ⟨axc, ixc, kxc⟩⟩⟩
  have Flx := fun_mk (st := sLX) llx clx klx
  have blx := Flx.binds (ps := ["self", "size", "kept"]) fun _ _ _ _ _ _ => Ln.len3 fun _ _ _  => rfl
  let TN : TxN K mg := ⟨TC, TX, TK, ⟨flx, _, Flx, blx, ⟨alx, ilx, klx⟩⟩⟩
  have Fmi := fun_mk (st := sMmI) lmi cmi kmi
  have bmi := Fmi.binds (ps := ["self", "before", "given", "handed", "kept", "over"]) fun _ _ _ _ _ _ => Ln.len6 fun _ _ _ _ _ _  => rfl
  have Fqi := fun_mk (st := sRdI) lqi cqi kqi
  have bqi := Fqi.binds (ps := ["self", "loop", "size"]) fun _ _ _ _ _ _ => Ln.len3 fun _ _ _  => rfl
  have Fckl := fun_mk (st := sCKL) lckl cckl kckl
  have bckl := Fckl.binds (ps := ["loop"]) fun _ _ _ _ _ _ => Ln.len1 fun _  => rfl
  have Fqgp := fun_mk (st := sRdG) lqgp cqgp kqgp
  have bqgp := Fqgp.binds (ps := ["self"]) fun _ _ _ _ _ _ => Ln.len1 fun _ => rfl
  have Fqhp := fun_mk (st := sRdH) lqhp cqhp kqhp
  have bqhp := Fqhp.binds (ps := ["self"]) fun _ _ _ _ _ _ => Ln.len1 fun _ => rfl
  have Fqkp := fun_mk (st := sRdK) lqkp cqkp kqkp
  have bqkp := Fqkp.binds (ps := ["self"]) fun _ _ _ _ _ _ => Ln.len1 fun _ => rfl
  have Fqop := fun_mk (st := sRdO) lqop cqop kqop
  have bqop := Fqop.binds (ps := ["self"]) fun _ _ _ _ _ _ => Ln.len1 fun _ => rfl
  have Fql := fun_mk (st := sRdL) lql cql kql
  have bql := Fql.binds (ps := ["self"]) fun _ _ _ _ _ _ => Ln.len1 fun _  => rfl
  have Fqr := fun_mk (st := sRdR) lqr cqr kqr
  have bqr := Fqr.binds (ps := ["self"]) fun _ _ _ _ _ _ => Ln.len1 fun _  => rfl
  have Fqf := fun_mk (st := sRdF) lqf cqf kqf
  have bqf := Fqf.binds (ps := ["self", "count", "told"]) fun _ _ _ _ _ _ => Ln.len3 fun _ _ _  => rfl
  have Fqu := fun_mk (st := sRdU) lqu cqu kqu
  have bqu := Fqu.binds (ps := ["self"]) fun _ _ _ _ _ _ => Ln.len1 fun _  => rfl
  have Fqc := fun_mk (st := sRdCf) lqc cqc kqc
  have bqc := Fqc.binds (ps := ["self"]) fun _ _ _ _ _ _ => Ln.len1 fun _  => rfl
  have Fqk := fun_mk (st := sRdCr) lqk cqk kqk
  have bqk := Fqk.binds (ps := ["self", "count", "told"]) fun _ _ _ _ _ _ => Ln.len3 fun _ _ _  => rfl
  have Fqt := fun_mk (st := sRdT) lqt cqt kqt
  have bqt := Fqt.binds (ps := ["self", "count", "told"]) fun _ _ _ _ _ _ => Ln.len3 fun _ _ _  => rfl
  let TRd : TxRd K mg := ⟨TN, PySem.W.mg_none_of X G z_sum, CM, PySem.W.mg_of X G aCM, ⟨pgM, hdM, poM, saM⟩, nM0, nM1, nM2, nM3, nM4, fmi, _, Fmi, bmi, ⟨mkM, ami, imi, kcM⟩, CQ, PySem.W.mg_of X G aCQ, ⟨pgQ, hdQ, poQ, saQ⟩, nQ0, nQ1, nQ2, nQ3, fqi, _, Fqi, bqi, ⟨mkQ, aqi, iqi, kcQ⟩, ⟨fckl, _, Fckl, bckl, PySem.W.mg_of X G ackl, kckl⟩, w1, w2, w3, w4, w5, ⟨pqgp, fqgp, _, Fqgp, bqgp, ⟨aqgp, gqgp, tqgp, ⟨_, rqgp⟩⟩⟩, ⟨pqhp, fqhp, _, Fqhp, bqhp, ⟨aqhp, gqhp, tqhp, ⟨_, rqhp⟩⟩⟩, ⟨pqkp, fqkp, _, Fqkp, bqkp, ⟨aqkp, gqkp, tqkp, ⟨_, rqkp⟩⟩⟩, ⟨pqop, fqop, _, Fqop, bqop, ⟨aqop, gqop, tqop, ⟨_, rqop⟩⟩⟩, ⟨fql, _, Fql, bql, aql, iql⟩, ⟨fqr, _, Fqr, bqr, aqr, iqr⟩, ⟨fqf, _, Fqf, bqf, ⟨aqf, iqf, kqf⟩⟩, ⟨fqu, _, Fqu, bqu, ⟨aqu, iqu, kqu⟩⟩, ⟨fqc, _, Fqc, bqc, ⟨aqc, iqc, kqc⟩⟩, ⟨fqk, _, Fqk, bqk, ⟨aqk, iqk, kqk⟩⟩, ⟨fqt, _, Fqt, bqt, ⟨aqt, iqt, kqt⟩⟩, ⟨CStp, PySem.W.mg_of X G aCStp, qStp, kStp, sStp, tStp⟩, ⟨CNtu, PySem.W.mg_of X G aCNtu, qNtu, kNtu, sNtu, tNtu⟩⟩
  have FEL := fun_mk (st := sEL) lEL cEL kEL
  have bEL := FEL.binds (ps := ["self", "value"]) fun _ _ _ _ _ _ => Ln.len2 fun _ _  => rfl
  have FEC := fun_mk (st := sEC) lEC cEC kEC
  have bEC := FEC.binds (ps := ["self", "value"]) fun _ _ _ _ _ _ => Ln.len2 fun _ _  => rfl
  have FET := fun_mk (st := sET) lET cET kET
  have bET := FET.binds (ps := ["self", "value"]) fun _ _ _ _ _ _ => Ln.len2 fun _ _  => rfl
  have FEM := fun_mk (st := sEM) lEM cEM kEM
  have bEM := FEM.binds (ps := ["self", "limit"]) fun _ _ _ _ _ _ => Ln.len2 fun _ _  => rfl
  let TRe : TxRe K mg := ⟨TRd, ⟨CEL, fEL, _, PySem.W.mg_of X G aCEL, ⟨⟨nmEL, qEL, NEL, bsEL, bmEL, snEL, subEL, abEL, colEL, ddEL, m0EL, m1EL, m2EL, m3EL, m5EL, xEL, xrEL⟩, e1EL, e2EL, e3EL, e4EL⟩, aEL, e5EL, e6EL, FEL, bEL⟩, ⟨CEC, fEC, _, PySem.W.mg_of X G aCEC, ⟨⟨nmEC, qEC, NEC, bsEC, bmEC, snEC, subEC, abEC, colEC, ddEC, m0EC, m1EC, m2EC, m3EC, m5EC, xEC, xrEC⟩, e1EC, e2EC, e3EC, e4EC⟩, aEC, e5EC, e6EC, FEC, bEC⟩, ⟨CET, fET, _, PySem.W.mg_of X G aCET, ⟨⟨nmET, qET, NET, bsET, bmET, snET, subET, abET, colET, ddET, m0ET, m1ET, m2ET, m3ET, m5ET, xET, xrET⟩, e1ET, e2ET, e3ET, e4ET⟩, aET, e5ET, e6ET, FET, bET⟩, ⟨CEM, fEM, _, PySem.W.mg_of X G aCEM, ⟨⟨nmEM, qEM, NEM, bsEM, bmEM, snEM, subEM, abEM, colEM, ddEM, m0EM, m1EM, m2EM, m3EM, m5EM, xEM, xrEM⟩, e1EM, e4EM⟩, e2EM, e3EM, aEM, e5EM, e6EM, FEM, bEM⟩⟩
  have Fsip := fun_mk (st := sSip) lsip csip ksip
  have bsip := Fsip.binds (ps := ["_law_jar_here", "_law_many"]) fun _ _ _ _ _ _ => Ln.len2 fun _ _  => rfl
  have Ffrm := fun_mk (st := sFrom) lfrm cfrm kfrm
  have bfrm := Ffrm.binds (ps := ["_law_jar_here", "_law_things"]) fun _ _ _ _ _ _ => Ln.len2 fun _ _  => rfl
  have Fwds := fun_mk (st := sWords) lwds cwds kwds
  have bwds := Fwds.binds (ps := ["_law_jar_here", "_law_steps", "_law_many"]) fun _ _ _ _ _ _ => Ln.len3 fun _ _ _  => rfl
  have Flop := fun_mk (st := sLoop) llop clop klop
  have blop := Flop.binds (ps := ["_law_jar_here", "_law_most"]) fun _ _ _ _ _ _ => Ln.len2 fun _ _  => rfl
  have Flin := fun_mk (st := sLine) llin clin klin
  have blin := Flin.binds (ps := ["_law_begun", "_law_ended"]) fun _ _ _ _ _ _ => Ln.len2 fun _ _  => rfl
  let TD : TxD K mg := ⟨⟨PySem.W.mg_none_of X G z_len, PySem.W.mg_none_of X G z_int, PySem.W.mg_none_of X G z_abs, PySem.W.mg_none_of X G z_divmod⟩, PySem.W.mg_none_of X G z_range, ⟨fsip, _, Fsip, bsip, PySem.W.mg_of X G asip, ksip⟩, ⟨ffrm, _, Ffrm, bfrm, PySem.W.mg_of X G afrm, kfrm⟩, ⟨fwds, _, Fwds, bwds, PySem.W.mg_of X G awds, kwds⟩, ⟨flop, _, Flop, blop, PySem.W.mg_of X G alop, klop⟩, ⟨flin, _, Flin, blin, PySem.W.mg_of X G alin, klin⟩⟩
  have Fpas := fun_mk (st := sPassed) lpas cpas kpas
  have bpas := Fpas.binds (ps := ["_law_test", "_law_got", "_law_box_here", "_law_said", "_law_wide"]) fun _ _ _ _ _ _ => Ln.len5 fun _ _ _ _ _  => rfl
  have Fsli := fun_mk (st := sSliced) lsli csli ksli
  have bsli := Fsli.binds (ps := ["_law_row_here", "_law_wide", "_law_many"]) fun _ _ _ _ _ _ => Ln.len3 fun _ _ _  => rfl
  have Fdon := fun_mk (st := sDone) ldon cdon kdon
  have bdon := Fdon.binds (ps := ["_law_words_here", "_law_got", "_law_box_here", "_law_said", "_law_wide"]) fun _ _ _ _ _ _ => Ln.len5 fun _ _ _ _ _  => rfl
  have Ffed := fun_mk (st := sFed) lfed cfed kfed
  have bfed := Ffed.binds (ps := ["_law_made", "_law_box_here", "_law_many", "_law_said", "_law_wide"]) fun _ _ _ _ _ _ => Ln.len5 fun _ _ _ _ _  => rfl
  have Fbox := fun_mk (st := sBox) lbox cbox kbox
  have bbox := Fbox.binds (ps := []) fun _ _ _ _ _ _ => Ln.len0 fun (_ : Unit) => rfl
  let TB : TxB K mg := ⟨⟨PySem.W.mg_none_of X G z_len, PySem.W.mg_none_of X G z_int, PySem.W.mg_none_of X G z_abs, PySem.W.mg_none_of X G z_divmod⟩, PySem.W.mg_none_of X G z_range, PySem.W.mg_none_of X G z_tuple, PySem.W.mg_none_of X G z_list, ⟨fpas, _, Fpas, bpas, PySem.W.mg_of X G apas, kpas⟩, ⟨fsli, _, Fsli, bsli, PySem.W.mg_of X G asli, ksli⟩, ⟨fdon, _, Fdon, bdon, PySem.W.mg_of X G adon, kdon⟩, ⟨ffed, _, Ffed, bfed, PySem.W.mg_of X G afed, kfed⟩, ⟨fbox, _, Fbox, bbox, PySem.W.mg_of X G abox, kbox⟩⟩
  have Fic := fun_mk (st := sIC) lic cic kic
  have bic := Fic.binds (ps := ["text"]) fun _ _ _ _ _ _ => Ln.len1 fun _  => rfl
  have Fro := fun_mk (st := sRO) lro cro kro
  have bro := Fro.binds (ps := ["row"]) fun _ _ _ _ _ _ => Ln.len1 fun _  => rfl
  have Fit := fun_mk (st := sIT) lit cit kit
  have bit := Fit.binds (ps := ["items"]) fun _ _ _ _ _ _ => Ln.len1 fun _  => rfl
  have Fpt := fun_mk (st := sPT) lpt cpt kpt
  have bpt := Fpt.binds (ps := ["pieces"]) fun _ _ _ _ _ _ => Ln.len1 fun _  => rfl
  let TCo : TxCo K mg := ⟨PySem.W.mg_none_of X G z_int, PySem.W.mg_none_of X G z_str, ⟨_, PySem.W.mg_of X G mFE⟩, ⟨_, PySem.W.mg_of X G mTO⟩, ⟨fic, _, Fic, bic, PySem.W.mg_of X G aic, kic⟩, ⟨fro, _, Fro, bro, PySem.W.mg_of X G aro, kro⟩, ⟨fit, _, Fit, bit, PySem.W.mg_of X G ait, kit⟩, ⟨fpt, _, Fpt, bpt, PySem.W.mg_of X G apt, kpt⟩⟩
  have Fki := fun_mk (st := sCnI) lki cki kki
  have bki := Fki.binds (ps := ["self", "loop", "size"]) fun _ _ _ _ _ _ => Ln.len3 fun _ _ _  => rfl
  have FIR := fun_mk (st := sEIR) lIR cIR kIR
  have bIR := FIR.binds (ps := ["self", "value"]) fun _ _ _ _ _ _ => Ln.len2 fun _ _  => rfl
  have Fau := fun_mk (st := sCnU) lau cau kau
  have bau := Fau.binds (ps := ["self"]) fun _ _ _ _ _ _ => Ln.len1 fun _  => rfl
  have Faf := fun_mk (st := sCnF) laf caf kaf
  have baf := Faf.binds (ps := ["self", "reply"]) fun _ _ _ _ _ _ => Ln.len2 fun _ _  => rfl
  have Fsay := fun_mk (st := sCnS) lsay csay ksay
  have bsay := Fsay.binds (ps := ["self", "row"]) fun _ _ _ _ _ _ => Ln.len2 fun _ _  => rfl
  let TCn : TxCn K mg := ⟨TRe, TCo, CK, PySem.W.mg_of X G aCK, ⟨pgK, hdK, poK, saK⟩, nK0, fki, _, Fki, bki, ⟨mkK, aki, iki, kcK⟩, ⟨_, PySem.W.mg_of X G mRF⟩, ⟨CIR, fIR, _, PySem.W.mg_of X G aCIR, ⟨⟨nmIR, qIR, NIR, bsIR, bmIR, snIR, subIR, abIR, colIR, ddIR, m0IR, m1IR, m2IR, m3IR, m5IR, xIR, xrIR⟩, e1IR, e2IR, e3IR, e4IR⟩, aIR, e5IR, e6IR, FIR, bIR⟩, ⟨fau, _, Fau, bau, ⟨aau, iau, kau⟩⟩, ⟨faf, _, Faf, baf, ⟨aaf, iaf, kaf⟩⟩, ⟨fsay, _, Fsay, bsay, ⟨asay, isay, ksay⟩⟩, CInp, CSte, CSze, PySem.W.mg_of X G aCInp, PySem.W.mg_of X G aCSte, PySem.W.mg_of X G aCSze, xnn, xcc, xss, xmm⟩
  have Fltx := fun_mk (st := sTx) lltx cltx kltx
  have bltx := Fltx.binds (ps := ["_law_items_here"]) fun _ _ _ _ _ _ => Ln.len1 fun _  => rfl
  have Flfd := fun_mk (st := sFD) llfd clfd klfd
  have blfd := Flfd.binds (ps := ["_law_made", "_law_wide", "_law_boxes_here", "_law_many", "_law_said"]) fun _ _ _ _ _ _ => Ln.len5 fun _ _ _ _ _  => rfl
  have Fldu := fun_mk (st := sDu) lldu cldu kldu
  have bldu := Fldu.binds (ps := ["_law_made", "_law_wide", "_law_boxes_here", "_law_line_here"]) fun _ _ _ _ _ _ => Ln.len4 fun _ _ _ _  => rfl
  have Flrw := fun_mk (st := sRw) llrw clrw klrw
  have blrw := Flrw.binds (ps := ["_law_jar_here", "_law_wide"]) fun _ _ _ _ _ _ => Ln.len2 fun _ _  => rfl
  let TW : TxW K mg := ⟨TB, TD, PySem.W.mg_none_of X G z_str, PySem.W.mg_none_of X G z_any, ⟨fltx, _, Fltx, bltx, PySem.W.mg_of X G altx, kltx⟩, ⟨flfd, _, Flfd, blfd, PySem.W.mg_of X G alfd, klfd⟩, ⟨fldu, _, Fldu, bldu, PySem.W.mg_of X G aldu, kldu⟩, ⟨flrw, _, Flrw, blrw, PySem.W.mg_of X G alrw, klrw⟩⟩
  have Fcm := fun_mk (st := sCame) lcm ccm kcm
  have bcm := Fcm.binds (ps := ["_law_ask"]) fun _ _ _ _ _ _ => Ln.len1 fun _  => rfl
  let TCm : TxCm K mg CIR := ⟨CInp, PySem.W.mg_none_of X G z_isinstance, PySem.W.mg_none_of X G z_ValueError, PySem.W.mg_of X G aCIR, PySem.W.mg_of X G aCInp, ⟨⟨x7IR, x8IR, e2IR, x9IR⟩, xAIR, xBIR, xg1, xg2, xCIR⟩, e6IR, te, k1e, k2e, ⟨fcm, _, Fcm, bcm, PySem.W.mg_of X G acm, kcm⟩⟩
  have KS : KBinds K (PySem.W.fnOf "say" "Console.say" (defArgs sCnS) (defBody sCnS) (defScope sCnS) .none kVsay dcsay pmsay ansay cdsay ctsay) ["self", "row"] ["row"] gKw gKwV := ⟨fun s us ws _ hl => by
      match us, ws, hl with
      | [_], [_], _ => exact .of_eq rfl, fun h1 h2 => gKw_rel h1 h2⟩
  have Fjar := fun_mk (st := sJar) ljar cjar kjar
  have bjar := Fjar.binds (ps := ["_law_script", "_law_k"]) fun _ _ _ _ _ _ => Ln.len2 fun _ _  => rfl
  have Frt := fun_mk (st := sRight) lrt crt krt
  have brt := Frt.binds (ps := ["_law_jar_here"]) fun _ _ _ _ _ _ => Ln.len1 fun _  => rfl
  have Flaw := fun_mk (st := sLaw) llaw claw klaw
  let R : TxR K mg := ⟨TCn, TW, TCm, PySem.W.mg_none_of X G z_repr, KS⟩
  refine ⟨_, [(cR, PR)], spLaw K PR, fun p hp => ?_, fun p hp => ?_, fun p hp => ?_, fun s v => .of_eq rfl, fun H a ns hl hT hS => ?_, fun base _ _ sm hB => ok_law Flaw TD.J TD.range (PySem.W.mg_none_of X G z_all) 12 (ok_right Frt R rfl sm (hB (cR, PR) (List.mem_singleton.mpr rfl))) Fjar bjar (PySem.W.mg_of X G ajar) kjar (by decide) brt (PySem.W.mg_of X G art) krt (PySem.W.mg_none_of X G z_max) (PySem.W.mg_none_of X G z_min)⟩
  · cases List.mem_singleton.mp hp
    exact q5
  · cases List.mem_singleton.mp hp
    exact q4
  · cases List.mem_singleton.mp hp
    exact PySem.W.codeHd_of_K X q3
  · refine ⟨a, ns, rfl, hS, hl, fun p hp => ?_, fun _ => rfl⟩
    cases List.mem_singleton.mp hp
    exact LamX.TabS.nil (hT (cR, PR) (List.mem_singleton.mpr rfl))
end My
open PySem PySem.W PyProof.Rows in
set_option maxRecDepth 100000 in
set_option maxHeartbeats 0 in
theorem PySem.Challenge.cw_lastshort_k66_whole_consoles_holds : PySem.Challenge.rw_lastshort_k66_whole_consoles.Holds := by
  refine Hd66 ?_
  k_fill
  refine Gd.walk_ofG (l := PySem.Challenge.rw_lastshort_k66_whole_consoles) (n := 63) (k := 13) (x := "_law_script") rfl (by decide) rfl (by decide +kernel) ⟨rfl, by decide, by decide⟩ (fun w h Y => PySem.W.km_in_of Y) ?F
  case F =>
    intro w mg fa h Y KX G hmg
    refine' My.all_mk KX G hmg ?gT ?tT ?gR ?tR ?gE ?tE ?mB ?mMR ?mME ?awo ?lwo ?cwo ?kwo ?aoo ?loo ?coo ?koo ?aiw ?liw ?ciw ?kiw ?aaw ?law ?caw ?kaw ?air ?lir ?cir ?kir ?aie ?lie ?cie ?kie ?aCIT ?aIT ?iIT ?lIT ?cIT ?kIT ?xIT ?xrIT ?e1IT ?e2IT ?e3IT ?e4IT ?e5IT ?e6IT ?aCL ?pgL ?hdL ?poL ?saL ?mkL ?kcL ?nL0 ?nL1 ?nL2 ?nL3 ?nL4 ?ali ?ili ?lli ?cli ?kli ?mMP ?mMI ?aiib ?liib ?ciib ?kiib ?acks ?lcks ?ccks ?kcks ?aCES ?aES ?iES ?lES ?cES ?kES ?xES ?xrES ?e1ES ?e2ES ?e3ES ?e4ES ?e5ES ?e6ES ?aCX ?pgX ?hdX ?poX ?saX ?mkX ?kcX ?nX0 ?nX1 ?nX2 ?nX3 ?nX4 ?nX5 ?nX6 ?nX7 ?nX8 ?axi ?ixi ?lxi ?cxi ?kxi ?axa ?ixa ?lxa ?cxa ?kxa ?axq ?ixq ?lxq ?cxq ?kxq ?axp ?ixp ?lxp ?cxp ?kxp ?axr ?ixr ?lxr ?cxr ?kxr ?axc ?ixc ?lxc ?cxc ?kxc ?alx ?ilx ?llx ?clx ?klx ?aCM ?pgM ?hdM ?poM ?saM ?mkM ?kcM ?nM0 ?nM1 ?nM2 ?nM3 ?nM4 ?ami ?imi ?lmi ?cmi ?kmi ?aCQ ?pgQ ?hdQ ?poQ ?saQ ?mkQ ?kcQ ?nQ0 ?nQ1 ?nQ2 ?nQ3 ?aqi ?iqi ?lqi ?cqi ?kqi ?ackl ?lckl ?cckl ?kckl ?w1 ?w2 ?w3 ?w4 ?w5 ?aqgp ?gqgp ?tqgp ?rqgp ?lqgp ?cqgp ?kqgp ?aqhp ?gqhp ?tqhp ?rqhp ?lqhp ?cqhp ?kqhp ?aqkp ?gqkp ?tqkp ?rqkp ?lqkp ?cqkp ?kqkp ?aqop ?gqop ?tqop ?rqop ?lqop ?cqop ?kqop ?aql ?iql ?lql ?cql ?kql ?aqr ?iqr ?lqr ?cqr ?kqr ?aqf ?iqf ?lqf ?cqf ?kqf ?aqu ?iqu ?lqu ?cqu ?kqu ?aqc ?iqc ?lqc ?cqc ?kqc ?aqk ?iqk ?lqk ?cqk ?kqk ?aqt ?iqt ?lqt ?cqt ?kqt ?aCStp ?qStp ?kStp ?sStp ?tStp ?aCNtu ?qNtu ?kNtu ?sNtu ?tNtu ?aCEL ?aEL ?iEL ?lEL ?cEL ?kEL ?xEL ?xrEL ?e1EL ?e2EL ?e3EL ?e4EL ?e5EL ?e6EL ?aCEC ?aEC ?iEC ?lEC ?cEC ?kEC ?xEC ?xrEC ?e1EC ?e2EC ?e3EC ?e4EC ?e5EC ?e6EC ?aCET ?aET ?iET ?lET ?cET ?kET ?xET ?xrET ?e1ET ?e2ET ?e3ET ?e4ET ?e5ET ?e6ET ?aCEM ?aEM ?iEM ?lEM ?cEM ?kEM ?xEM ?xrEM ?e1EM ?e2EM ?e3EM ?e4EM ?e5EM ?e6EM ?asip ?lsip ?csip ?ksip ?afrm ?lfrm ?cfrm ?kfrm ?awds ?lwds ?cwds ?kwds ?alop ?llop ?clop ?klop ?alin ?llin ?clin ?klin ?apas ?lpas ?cpas ?kpas ?asli ?lsli ?csli ?ksli ?adon ?ldon ?cdon ?kdon ?afed ?lfed ?cfed ?kfed ?abox ?lbox ?cbox ?kbox ?mFE ?mTO ?aic ?lic ?cic ?kic ?aro ?lro ?cro ?kro ?ait ?lit ?cit ?kit ?apt ?lpt ?cpt ?kpt ?aCK ?pgK ?hdK ?poK ?saK ?mkK ?kcK ?nK0 ?aki ?iki ?lki ?cki ?kki ?mRF ?aCIR ?aIR ?iIR ?lIR ?cIR ?kIR ?xIR ?xrIR ?e1IR ?e2IR ?e3IR ?e4IR ?e5IR ?e6IR ?aau ?iau ?lau ?cau ?kau ?aaf ?iaf ?laf ?caf ?kaf ?asay ?isay ?lsay ?csay ?ksay ?aCInp ?aCSte ?aCSze ?xnn ?xcc ?xss ?xmm ?altx ?lltx ?cltx ?kltx ?alfd ?llfd ?clfd ?klfd ?aldu ?lldu ?cldu ?kldu ?alrw ?llrw ?clrw ?klrw ?x7IR ?x8IR ?x9IR ?xAIR ?xBIR ?xg1 ?xg2 ?xCIR ?te ?k1e ?k2e ?acm ?lcm ?ccm ?kcm ?ajar ?ljar ?cjar ?kjar ?art ?lrt ?crt ?krt ?alaw ?llaw ?claw ?klaw ?q1 ?q2 ?q3 ?q4 ?q5 ?z_tuple ?z_len ?z_all ?z_isinstance ?z_str ?z_int ?z_bool ?z_range ?z_sum ?z_abs ?z_divmod ?z_list ?z_any ?z_ValueError ?z_repr ?z_max ?z_min
    (case gT => k_is)
    (case tT => k_is)
    (case gR => k_is)
    (case tR => k_is)
    (case gE => k_is)
    (case tE => k_is)
    (case mB => k_is)
    (case mMR => k_is)
    (case mME => k_is)
    (case awo => k_is)
    (case lwo => k_is)
    (case cwo => k_is)
    (case kwo => k_is)
    (case aoo => k_is)
    (case loo => k_is)
    (case coo => k_is)
    (case koo => k_is)
    (case aiw => k_is)
    (case liw => k_is)
    (case ciw => k_is)
    (case kiw => k_is)
    (case aaw => k_is)
    (case law => k_is)
    (case caw => k_is)
    (case kaw => k_is)
    (case air => k_is)
    (case lir => k_is)
    (case cir => k_is)
    (case kir => k_is)
    (case aie => k_is)
    (case lie => k_is)
    (case cie => k_is)
    (case kie => k_is)
    (case aCIT => k_is)
    (case aIT => k_is)
    (case iIT => k_is)
    (case lIT => k_is)
    (case cIT => k_is)
    (case kIT => k_is)
    (case xIT => k_is)
    (case xrIT => decide +kernel)
    (case e1IT => k_is)
    (case e2IT => k_is)
    (case e3IT => k_is)
    (case e4IT => k_is)
    (case e5IT => k_is)
    (case e6IT => k_is)
    (case aCL => k_is)
    (case pgL => k_is)
    (case hdL => k_is)
    (case poL => k_is)
    (case saL => k_is)
    (case mkL => k_is)
    (case kcL => k_is)
    (case nL0 => k_is)
    (case nL1 => k_is)
    (case nL2 => k_is)
    (case nL3 => k_is)
    (case nL4 => k_is)
    (case ali => k_is)
    (case ili => k_is)
    (case lli => k_is)
    (case cli => k_is)
    (case kli => k_is)
    (case mMP => k_is)
    (case mMI => k_is)
    (case aiib => k_is)
    (case liib => k_is)
    (case ciib => k_is)
    (case kiib => k_is)
    (case acks => k_is)
    (case lcks => k_is)
    (case ccks => k_is)
    (case kcks => k_is)
    (case aCES => k_is)
    (case aES => k_is)
    (case iES => k_is)
    (case lES => k_is)
    (case cES => k_is)
    (case kES => k_is)
    (case xES => k_is)
    (case xrES => decide +kernel)
    (case e1ES => k_is)
    (case e2ES => k_is)
    (case e3ES => k_is)
    (case e4ES => k_is)
    (case e5ES => k_is)
    (case e6ES => k_is)
    (case aCX => k_is)
    (case pgX => k_is)
    (case hdX => k_is)
    (case poX => k_is)
    (case saX => k_is)
    (case mkX => k_is)
    (case kcX => k_is)
    (case nX0 => k_is)
    (case nX1 => k_is)
    (case nX2 => k_is)
    (case nX3 => k_is)
    (case nX4 => k_is)
    (case nX5 => k_is)
    (case nX6 => k_is)
    (case nX7 => k_is)
    (case nX8 => k_is)
    (case axi => k_is)
    (case ixi => k_is)
    (case lxi => k_is)
    (case cxi => k_is)
    (case kxi => k_is)
    (case axa => k_is)
    (case ixa => k_is)
    (case lxa => k_is)
    (case cxa => k_is)
    (case kxa => k_is)
    (case axq => k_is)
    (case ixq => k_is)
    (case lxq => k_is)
    (case cxq => k_is)
    (case kxq => k_is)
    (case axp => k_is)
    (case ixp => k_is)
    (case lxp => k_is)
    (case cxp => k_is)
    (case kxp => k_is)
    (case axr => k_is)
    (case ixr => k_is)
    (case lxr => k_is)
    (case cxr => k_is)
    (case kxr => k_is)
    (case axc => k_is)
    (case ixc => k_is)
    (case lxc => k_is)
    (case cxc => k_is)
    (case kxc => k_is)
    (case alx => k_is)
    (case ilx => k_is)
    (case llx => k_is)
    (case clx => k_is)
    (case klx => k_is)
    (case aCM => k_is)
    (case pgM => k_is)
    (case hdM => k_is)
    (case poM => k_is)
    (case saM => k_is)
    (case mkM => k_is)
    (case kcM => k_is)
    (case nM0 => k_is)
    (case nM1 => k_is)
    (case nM2 => k_is)
    (case nM3 => k_is)
    (case nM4 => k_is)
    (case ami => k_is)
    (case imi => k_is)
    (case lmi => k_is)
    (case cmi => k_is)
    (case kmi => k_is)
    (case aCQ => k_is)
    (case pgQ => k_is)
    (case hdQ => k_is)
    (case poQ => k_is)
    (case saQ => k_is)
    (case mkQ => k_is)
    (case kcQ => k_is)
    (case nQ0 => k_is)
    (case nQ1 => k_is)
    (case nQ2 => k_is)
    (case nQ3 => k_is)
    (case aqi => k_is)
    (case iqi => k_is)
    (case lqi => k_is)
    (case cqi => k_is)
    (case kqi => k_is)
    (case ackl => k_is)
    (case lckl => k_is)
    (case cckl => k_is)
    (case kckl => k_is)
    (case w1 => k_is)
    (case w2 => k_is)
    (case w3 => k_is)
    (case w4 => k_is)
    (case w5 => kernel_rfl)
    (case aqgp => k_is)
    (case gqgp => k_is)
    (case tqgp => k_is)
    (case rqgp => k_is)
    (case lqgp => k_is)
    (case cqgp => k_is)
    (case kqgp => k_is)
    (case aqhp => k_is)
    (case gqhp => k_is)
    (case tqhp => k_is)
    (case rqhp => k_is)
    (case lqhp => k_is)
    (case cqhp => k_is)
    (case kqhp => k_is)
    (case aqkp => k_is)
    (case gqkp => k_is)
    (case tqkp => k_is)
    (case rqkp => k_is)
    (case lqkp => k_is)
    (case cqkp => k_is)
    (case kqkp => k_is)
    (case aqop => k_is)
    (case gqop => k_is)
    (case tqop => k_is)
    (case rqop => k_is)
    (case lqop => k_is)
    (case cqop => k_is)
    (case kqop => k_is)
    (case aql => k_is)
    (case iql => k_is)
    (case lql => k_is)
    (case cql => k_is)
    (case kql => k_is)
    (case aqr => k_is)
    (case iqr => k_is)
    (case lqr => k_is)
    (case cqr => k_is)
    (case kqr => k_is)
    (case aqf => k_is)
    (case iqf => k_is)
    (case lqf => k_is)
    (case cqf => k_is)
    (case kqf => k_is)
    (case aqu => k_is)
    (case iqu => k_is)
    (case lqu => k_is)
    (case cqu => k_is)
    (case kqu => k_is)
    (case aqc => k_is)
    (case iqc => k_is)
    (case lqc => k_is)
    (case cqc => k_is)
    (case kqc => k_is)
    (case aqk => k_is)
    (case iqk => k_is)
    (case lqk => k_is)
    (case cqk => k_is)
    (case kqk => k_is)
    (case aqt => k_is)
    (case iqt => k_is)
    (case lqt => k_is)
    (case cqt => k_is)
    (case kqt => k_is)
    (case aCStp => k_is)
    (case qStp => kernel_rfl)
    (case kStp => k_is)
    (case sStp => k_is)
    (case tStp => k_is)
    (case aCNtu => k_is)
    (case qNtu => kernel_rfl)
    (case kNtu => k_is)
    (case sNtu => k_is)
    (case tNtu => k_is)
    (case aCEL => k_is)
    (case aEL => k_is)
    (case iEL => k_is)
    (case lEL => k_is)
    (case cEL => k_is)
    (case kEL => k_is)
    (case xEL => k_is)
    (case xrEL => decide +kernel)
    (case e1EL => k_is)
    (case e2EL => k_is)
    (case e3EL => k_is)
    (case e4EL => k_is)
    (case e5EL => k_is)
    (case e6EL => k_is)
    (case aCEC => k_is)
    (case aEC => k_is)
    (case iEC => k_is)
    (case lEC => k_is)
    (case cEC => k_is)
    (case kEC => k_is)
    (case xEC => k_is)
    (case xrEC => decide +kernel)
    (case e1EC => k_is)
    (case e2EC => k_is)
    (case e3EC => k_is)
    (case e4EC => k_is)
    (case e5EC => k_is)
    (case e6EC => k_is)
    (case aCET => k_is)
    (case aET => k_is)
    (case iET => k_is)
    (case lET => k_is)
    (case cET => k_is)
    (case kET => k_is)
    (case xET => k_is)
    (case xrET => decide +kernel)
    (case e1ET => k_is)
    (case e2ET => k_is)
    (case e3ET => k_is)
    (case e4ET => k_is)
    (case e5ET => k_is)
    (case e6ET => k_is)
    (case aCEM => k_is)
    (case aEM => k_is)
    (case iEM => k_is)
    (case lEM => k_is)
    (case cEM => k_is)
    (case kEM => k_is)
    (case xEM => k_is)
    (case xrEM => exact .own .here)
    (case e1EM => k_is)
    (case e2EM => k_is)
    (case e3EM => k_is)
    (case e4EM => k_is)
    (case e5EM => k_is)
    (case e6EM => k_is)
    (case asip => k_is)
    (case lsip => k_is)
    (case csip => k_is)
    (case ksip => k_is)
    (case afrm => k_is)
    (case lfrm => k_is)
    (case cfrm => k_is)
    (case kfrm => k_is)
    (case awds => k_is)
    (case lwds => k_is)
    (case cwds => k_is)
    (case kwds => k_is)
    (case alop => k_is)
    (case llop => k_is)
    (case clop => k_is)
    (case klop => k_is)
    (case alin => k_is)
    (case llin => k_is)
    (case clin => k_is)
    (case klin => k_is)
    (case apas => k_is)
    (case lpas => k_is)
    (case cpas => k_is)
    (case kpas => k_is)
    (case asli => k_is)
    (case lsli => k_is)
    (case csli => k_is)
    (case ksli => k_is)
    (case adon => k_is)
    (case ldon => k_is)
    (case cdon => k_is)
    (case kdon => k_is)
    (case afed => k_is)
    (case lfed => k_is)
    (case cfed => k_is)
    (case kfed => k_is)
    (case abox => k_is)
    (case lbox => k_is)
    (case cbox => k_is)
    (case kbox => k_is)
    (case mFE => k_is)
    (case mTO => k_is)
    (case aic => k_is)
    (case lic => k_is)
    (case cic => k_is)
    (case kic => k_is)
    (case aro => k_is)
    (case lro => k_is)
    (case cro => k_is)
    (case kro => k_is)
    (case ait => k_is)
    (case lit => k_is)
    (case cit => k_is)
    (case kit => k_is)
    (case apt => k_is)
    (case lpt => k_is)
    (case cpt => k_is)
    (case kpt => k_is)
    (case aCK => k_is)
    (case pgK => k_is)
    (case hdK => k_is)
    (case poK => k_is)
    (case saK => k_is)
    (case mkK => k_is)
    (case kcK => k_is)
    (case nK0 => k_is)
    (case aki => k_is)
    (case iki => k_is)
    (case lki => k_is)
    (case cki => k_is)
    (case kki => k_is)
    (case mRF => k_is)
    (case aCIR => k_is)
    (case aIR => k_is)
    (case iIR => k_is)
    (case lIR => k_is)
    (case cIR => k_is)
    (case kIR => k_is)
    (case xIR => k_is)
    (case xrIR => decide +kernel)
    (case e1IR => k_is)
    (case e2IR => k_is)
    (case e3IR => k_is)
    (case e4IR => k_is)
    (case e5IR => k_is)
    (case e6IR => k_is)
    (case aau => k_is)
    (case iau => k_is)
    (case lau => k_is)
    (case cau => k_is)
    (case kau => k_is)
    (case aaf => k_is)
    (case iaf => k_is)
    (case laf => k_is)
    (case caf => k_is)
    (case kaf => k_is)
    (case asay => k_is)
    (case isay => k_is)
    (case lsay => k_is)
    (case csay => k_is)
    (case ksay => k_is)
    (case aCInp => k_is)
    (case aCSte => k_is)
    (case aCSze => k_is)
    (case xnn => kernel_rfl)
    (case xcc => kernel_rfl)
    (case xss => kernel_rfl)
    (case xmm => kernel_rfl)
    (case altx => k_is)
    (case lltx => k_is)
    (case cltx => k_is)
    (case kltx => k_is)
    (case alfd => k_is)
    (case llfd => k_is)
    (case clfd => k_is)
    (case klfd => k_is)
    (case aldu => k_is)
    (case lldu => k_is)
    (case cldu => k_is)
    (case kldu => k_is)
    (case alrw => k_is)
    (case llrw => k_is)
    (case clrw => k_is)
    (case klrw => k_is)
    (case x7IR => k_is)
    (case x8IR => k_is)
    (case x9IR => k_is)
    (case xAIR => kernel_rfl)
    (case xBIR => k_is)
    (case xg1 => k_is)
    (case xg2 => k_is)
    (case xCIR => k_is)
    (case te => kernel_rfl)
    (case k1e => kernel_rfl)
    (case k2e => kernel_rfl)
    (case acm => k_is)
    (case lcm => k_is)
    (case ccm => k_is)
    (case kcm => k_is)
    (case ajar => k_is)
    (case ljar => k_is)
    (case cjar => k_is)
    (case kjar => k_is)
    (case art => k_is)
    (case lrt => k_is)
    (case crt => k_is)
    (case krt => k_is)
    (case alaw => k_is)
    (case llaw => k_is)
    (case claw => k_is)
    (case klaw => k_is)
    (case q1 => k_is)
    (case q2 => rfl)
    (case q3 => kernel_rfl)
    (case q4 => kernel_rfl)
    (case q5 => exact PySem.W.km_tabs_of Y _ (by decide))
    (case z_tuple => k_is)
    (case z_len => k_is)
    (case z_all => k_is)
    (case z_isinstance => k_is)
    (case z_str => k_is)
    (case z_int => k_is)
    (case z_bool => k_is)
    (case z_range => k_is)
    (case z_sum => k_is)
    (case z_abs => k_is)
    (case z_divmod => k_is)
    (case z_list => k_is)
    (case z_any => k_is)
    (case z_ValueError => k_is)
    (case z_repr => k_is)
    (case z_max => k_is)
    (case z_min => k_is)
