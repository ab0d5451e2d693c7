import PyProof.Rows.All
import Wide.All
import OpenK.AllK
import Wide.FinOn
import HandS.ForMost
import HandS.SetKeys
import HandS.Walk
import HandS.Style
import HandS.SetFor
import HandS.IsInst
import HandS.Wide
import PyProof.Draws
import PyProof.EnumMake
import HandS.Replace
import HandS.Exc
import HandS.WordsExc
import HandS.ExcInit
import HandS.ExcField
import HandS.ExcIs
import HandS.TryOnly
import HandS.CallSlots
import HandS.ExcOwn
import PyProof.ReprRoads
import HandS.TupAny
import HandS.TupMul
import PyProof.TupleOfStr
import PyProof.NeKinds
import PyProof.EqAt
import PyProof.ReprBulk
import PyProof.Rows.StrBin
import HandS.RaiseMore
import HandS.SetTxt0
import HandS.Set
import HandS.More
import HandS.TupSets
import HandS.SortOrd
import HandS.Strs
import HandS.Zip0
import HandS.SortInts
import KE.GoesEnum
import HandS.Zip
import KE.GoesZip
import KE.GoesMore
import KE.KDictZip
import PyProof.CollectWalk
import PyProof.ListNew
import PyProof.CollectStr
import HandS.Deep
import KE.DataFind
import HandS.Ends
import KE.KExcInit
import PyProof.ExcBaseAll.OverflowError
import HandS.Steps
import PyProof.IsRules
import PyProof.Rows.ReprOcc
import PyProof.ReprLen
import HandS.EndOwn
import PyProof.WalksMore
import HandS.TryMany
import HandS.Defaults
import PyProof.ExcBaseAll.RuntimeError
import PyProof.ExcBaseAll.IndexError
import PyProof.ExcBaseAll.LookupError
import HandS.Evl
import KE.KEqSeq
import PySem.Challenge.RW_mustoccur_k96_errors_and_their_fields
set_option Elab.async false
set_option linter.all false
set_option maxRecDepth 100000
set_option maxHeartbeats 8000000
/-! Rules that the laws of this program want and the layer lacks: repr and reversal of a text, enumerate of a text, the set of a text's signs and its size. -/
namespace Mo
open PySem PySem.Spec PyProof.Rows L2
/-! ### signs met, in the order of first occurrence -/
def metStep (acc : List Nat) (c : Nat) : List Nat := if c ∈ acc then acc else acc ++ [c]
def met (cs : List Nat) : List Nat := cs.foldl metStep []
theorem met_snoc (cs : List Nat) (c : Nat) : met (cs ++ [c]) = metStep (met cs) c := by
  unfold met
  rw [List.foldl_append]
  rfl
theorem mem_metStep {acc : List Nat} {c d : Nat} : d ∈ metStep acc c ↔ d ∈ acc ∨ d = c := by
  unfold metStep
  by_cases h : c ∈ acc
  · rw [if_pos h]
    constructor
    · exact Or.inl
    · rintro (q | q)
      · exact q
      · rw [q]; exact h
  · rw [if_neg h, List.mem_append, List.mem_singleton]
theorem mem_fold : ∀ (cs acc : List Nat) (d : Nat), d ∈ cs.foldl metStep acc ↔ d ∈ acc ∨ d ∈ cs
  | [], acc, d => by simp
  | c :: cs, acc, d => by
    rw [List.foldl_cons, mem_fold cs (metStep acc c) d, mem_metStep, List.mem_cons, or_assoc]
theorem mem_met {cs : List Nat} {d : Nat} : d ∈ met cs ↔ d ∈ cs := by
  unfold met
  rw [mem_fold]
  simp
theorem metStep_length (acc : List Nat) (c : Nat) : (metStep acc c).length = if c ∈ acc then acc.length else acc.length + 1 := by
  unfold metStep
  split <;> simp
theorem metStep_nodup {acc : List Nat} (h : acc.Nodup) (c : Nat) : (metStep acc c).Nodup := by
  unfold metStep
  by_cases q : c ∈ acc
  · rw [if_pos q]; exact h
  · rw [if_neg q]
    exact List.nodup_append.mpr ⟨h, by simp, by rintro a ha b hb rfl; exact q (by rw [← List.mem_singleton.mp hb]; exact ha)⟩
theorem fold_nodup : ∀ (cs acc : List Nat), acc.Nodup → (cs.foldl metStep acc).Nodup
  | [], _, h => h
  | c :: cs, _, h => fold_nodup cs _ (metStep_nodup h c)
theorem met_nodup (cs : List Nat) : (met cs).Nodup := fold_nodup cs [] List.nodup_nil
theorem met_length_le : ∀ cs : List Nat, (met cs).length ≤ cs.length := fun cs => by
  have key : ∀ (cs acc : List Nat), (cs.foldl metStep acc).length ≤ acc.length + cs.length := by
    intro cs
    induction cs with
    | nil => intro acc; simp
    | cons c cs ih =>
      intro acc
      rw [List.foldl_cons]
      have h1 := ih (metStep acc c)
      have h2 := metStep_length acc c
      rw [List.length_cons]
      split at h2 <;> omega
  have h := key cs []
  simpa [met] using h
/-- the keys that are signs of cs -/
def inS (cs : List Nat) (k : Key) : Bool := cs.any fun c => decide (k = Sum.inr (⟨#[c]⟩ : Str))
theorem sign_inj {c d : Nat} (h : (⟨#[c]⟩ : Str) = ⟨#[d]⟩) : c = d := by
  injection h with h
  simpa using h
theorem inS_sign (cs : List Nat) (c : Nat) : inS cs (Sum.inr ⟨#[c]⟩) = decide (c ∈ cs) := by
  unfold inS
  by_cases h : c ∈ cs
  · rw [decide_eq_true h]
    exact List.any_eq_true.mpr ⟨c, h, decide_eq_true rfl⟩
  · rw [decide_eq_false h]
    cases q : cs.any fun d => decide ((Sum.inr ⟨#[c]⟩ : Key) = Sum.inr ⟨#[d]⟩) with
    | false => rfl
    | true =>
      obtain ⟨d, hd, e⟩ := List.any_eq_true.mp q
      exact absurd (by rw [sign_inj (Sum.inr.inj (of_decide_eq_true e))]; exact hd) h
section
variable {P : Program} {w : World} {A : Around} {E : Value → Shared → Prop} {s : Shared}
theorem signs_loop {I : Addr} {fp wr : List Addr} {G : Array GenState → Array GenState → Prop} {n : Nat} {Pv : Nat → Value → Prop} {St : Nat → Shared → Prop} {R : Result → Shared → Prop}
    (W : WalksS P w A.in1 I fp wr G n Pv St) (D : Addr) (hD : D ∉ fp) (cs : List Nat) (hn : n = cs.length) (hb : cs.length + 1 < scanBound)
    (hval : ∀ i v, Pv i v → ∃ c t, cs[i]? = some c ∧ v = .str ⟨#[c]⟩ t) :
    ∀ (k i : Nat) (s : Shared), n - i = k → i ≤ n → St i s → s.heap.SetOf (mixKind P w) D (inS (cs.take i)) (met (cs.take i)).length →
      (∀ s', Moved (D :: wr) G s s' → s'.heap.SetOf (mixKind P w) D (inS cs) (met cs).length → R (.ok (.ret .none)) s') →
      codeAny (model P w) A (.builtin "set.update.loop" ⟨[.ref D, .ref I], []⟩) R s := by
  have hDw : D ∉ wr := fun h => hD (W.sub _ h)
  have up : ∀ b ∈ wr, b ∈ D :: wr := fun b q => List.mem_cons_of_mem _ q
  intro k
  induction k with
  | zero =>
    intro i s hk hi hst hS hR
    obtain rfl : i = n := by omega
    refine codeAny_builtin PyProof.Rows.F.entry_set_update_loop (by
      rw [Around.under_plainId PyProof.Rows.F.plain_set_update_loop _]
      show wpAny _ A.in1 (pyNext (.ref I) >>= _) _ _ s
      refine wpAny_bind (W.done s _ _ hst fun s' hm => wpAny_pure (hR s' (hm.mono up) ?_))
      rw [List.take_of_length_le (by omega)] at hS
      obtain ⟨o, es, ep, t, ho, rest⟩ := hS
      exact ⟨o, es, ep, t, hm.heap D _ hDw ho, rest⟩)
  | succ k ih =>
    intro i s hk hi hst hS hR
    have hlt : i < n := by omega
    refine codeAny_builtin PyProof.Rows.F.entry_set_update_loop (by
      rw [Around.under_plainId PyProof.Rows.F.plain_set_update_loop _]
      show wpAny _ A.in1 (pyNext (.ref I) >>= _) _ _ s
      refine wpAny_bind (W.item i s _ _ hlt hst fun v s' hP hst' hm => ?_)
      obtain ⟨c, t, hc, rfl⟩ := hval i v hP
      have hS' : s'.heap.SetOf (mixKind P w) D (inS (cs.take i)) (met (cs.take i)).length := by
        obtain ⟨o, es, ep, tb, ho, rest⟩ := hS
        exact ⟨o, es, ep, tb, hm.heap D _ hDw ho, rest⟩
      show wpAny _ A.in1 (holding [Value.str ⟨#[c]⟩ t] (setAdd D (.str ⟨#[c]⟩ t)) >>= _) _ _ s'
      refine wpAny_bind (wpAny_holding (by
        unfold setAdd
        refine wpAny_holding (wpAny_bind ((mixKind P w).pyHash (k := Sum.inr ⟨#[c]⟩) (mixKind_str _ _ _ _) ?_))
        have room : (met (cs.take i)).length + 1 < scanBound := by
          have h1 := met_length_le (cs.take i)
          rw [List.length_take] at h1
          omega
        refine wpAny_setAddHashed_of (knd := mixKind P w) (s := { s' with toks := s'.toks + 1 }) (mixKind_str _ _ _ _) rfl hS' room fun h' hsb hS2 => ?_
        have e3 : cs.take (i + 1) = cs.take i ++ [c] := by
          rw [List.take_add_one, hc]
          rfl
        have hS3 : h'.SetOf (mixKind P w) D (inS (cs.take (i + 1))) (met (cs.take (i + 1))).length := by
          have f1 : (fun k' => inS (cs.take i) k' || decide (k' = Sum.inr (⟨#[c]⟩ : Str))) = inS (cs.take (i + 1)) := by
            funext k'
            rw [e3]
            unfold inS
            rw [List.any_append]
            simp
          have f2 : (if inS (cs.take i) (Sum.inr ⟨#[c]⟩) = true then (met (cs.take i)).length else (met (cs.take i)).length + 1) = (met (cs.take (i + 1))).length := by
            rw [e3, met_snoc, metStep_length, inS_sign]
            by_cases q : c ∈ cs.take i
            · rw [if_pos (decide_eq_true q), if_pos (mem_met.mpr q)]
            · rw [if_neg (by rw [decide_eq_false q]; exact Bool.false_ne_true), if_neg (fun z => q (mem_met.mp z))]
          rw [← f1, ← f2]
          exact hS2
        refine wpAny_pure ⟨plainId_quiet PyProof.Rows.F.plain_set_update_loop _, ih (i + 1) _ (by omega) hlt (W.frame _ s' _ _ hst' (Nat.le_succ _) fun b q o e => ?_) hS3 fun s2 hm2 hS4 => ?_⟩
        · rw [hsb.2 b (fun z : b = D => hD (by rw [← z]; exact q))]
          exact e
        · refine hR s2 (Moved.trans W.gtrans ((hm.mono up).then_heap (Nat.le_succ _) fun b o q e => ?_) hm2) hS4
          rw [hsb.2 b (fun z : b = D => q (by rw [z]; exact List.mem_cons_self))]
          exact e)))

set_option maxHeartbeats 8000000 in
/-- set(a text) -/
theorem call_set_signs {z : Str} {t : Tok} {Q : Value → Shared → Prop} (hh : A.handled = none) (hb : z.cps.size + 1 < scanBound)
    (h : ∀ (h' : Heap) (tk : Nat), h'.SetOf (mixKind P w) s.heap.objs.size (inS z.cps.toList) (met z.cps.toList).length → (∀ b o, s.heap.get? b = some o → h'.get? b = some o) → Q (.ref s.heap.objs.size) { s with heap := h', toks := tk }) :
    wpAny (model P w) A (call (.type "set") [.str z t]) Q E s := by
  obtain ⟨c, tl, hmro⟩ := PySem.F.called_set.mro
  have hmade := PySem.F.called_set.made; have hsub := PySem.F.called_set.sub
  refine wpAny_call (codeAny_of_tree (by
    show wpAny _ _ (callAny (.type "set") _) _ _ _
    refine wpAny_pure ⟨Code.quiet_builtin _ (by decide +kernel), codeAny_builtin PySem.F.entry_type_call ?_⟩
    rw [Around.under_plain (weight_type_call_type "set" [.str z t] []) rfl]
    have h1 := PySem.F.called_set.notType; have h2 := PySem.F.called_set.canCreate
    have hct := PySem.F.typeCall_set_1 (.str z t)
    repeat (any_goals (first | assumption | wp_step))
    refine codeAny_mono (code_set_new_1 (.str z t) (E := E) (Q₁ := fun obj s₁ => ∃ led : Bool, obj = .ref s.heap.objs.size ∧ s₁ = { s with heap := s.heap.push { cls := .type "set", dict := none, data := .set #[] 0 (.fresh 0 0 led) } }) fun led => ⟨led, rfl, rfl⟩) fun r s₁ hr => ?_
    cases r with
    | error e => exact hr
    | ok fl =>
      cases fl with
      | ret obj =>
        obtain ⟨led, rfl, rfl⟩ := hr
        generalize hNew : ({ cls := .type "set", dict := none, data := .set #[] 0 (.fresh 0 0 led) } : Obj) = nw
        have hfr : ∀ (h : Heap) (a : Addr), h.get? a = some nw → h.SetOf (mixKind P w) a (inS []) (met []).length := by
          intro h a e
          rw [← hNew] at e
          exact ⟨_, #[], 0, _, e, ⟨rfl, rfl, rfl⟩, rfl, (fun e he => by simp at he), (fun k => by simp [inS]), (by decide), (by rfl), rfl⟩
        have hcls : nw.cls = .type "set" := by rw [← hNew]
        have hnf : nw.isFreed = false := by rw [← hNew]; rfl
        have hS : (s.heap.push nw).get? s.heap.objs.size = some nw := Heap.get?_push_size _ hnf
        have hT : Shared.TypeIs { s with heap := s.heap.push nw } (.ref s.heap.objs.size) "set" := ⟨_, hS, hcls⟩
        have hli := PySem.F.called_set.init.lookup; have hbi := PySem.F.called_set.init.bind (.ref s.heap.objs.size)
        repeat (any_goals (first | assumption | wp_step))
        refine codeAny_mono (codeAny_call_builtin (R := wants (fun r s₂ => r = .none ∧ ∃ h' tk, s₂ = { s with heap := h', toks := tk } ∧ h'.SetOf (mixKind P w) s.heap.objs.size (inS z.cps.toList) (met z.cps.toList).length ∧
          (∀ b o, s.heap.get? b = some o → h'.get? b = some o)) E) PySem.F.called_set.init.plain PySem.F.entry_set_init (check_set_init_1 hT ?_)) fun r₂ s₂ hr₂ => ?_
        · subst hNew
          have n1 : isSubtype (.type "str") (.type "set") = pure false := by rw [isSubtype_type]; kernel_rfl
          have n2 : isSubtype (.type "str") (.type "frozenset") = pure false := by rw [isSubtype_type]; kernel_rfl
          have n3 : (Value.type "str" == Value.type "dict") = false := by decide
          unfold Builtin.«set.__init__» noKeywords Builtin.Frozenset.updateFrom
          generalize hPI : pyIter = PI
          wp_walk
          subst hPI
          have hh3 : A.in1.in1.in1.handled = none := by simp [hh]
          generalize hNew : ({ cls := .type "set", data := .set #[] 0 (.fresh 0 0 led) } : Obj) = nw at *
          have hz1 : (s.heap.push nw).objs.size = s.heap.objs.size + 1 := Heap.size_push ..
          have fin : ∀ (ty : String) (wk : Walks P w A.in1.in1.in1 (s.heap.push nw).objs.size [(s.heap.push nw).objs.size] [(s.heap.push nw).objs.size] z.cps.size (SignAt z) (fun i h => h.IsStrIter (s.heap.push nw).objs.size ty z t i))
              (Rk : Result → Shared → Prop), (∀ h' tk, h'.SetOf (mixKind P w) s.heap.objs.size (inS z.cps.toList) (met z.cps.toList).length → (∀ b o, s.heap.get? b = some o → h'.get? b = some o) → Rk (.ok (.ret .none)) { s with heap := h', toks := tk }) →
              codeAny (model P w) A.in1.in1 (.builtin "set.update.loop" ⟨[.ref s.heap.objs.size, .ref (s.heap.push nw).objs.size], []⟩) Rk
                { s with heap := (s.heap.push nw).push { cls := .type ty, data := .fields #[.str z t, .int 0 0] } } := by
            intro ty wk Rk hR
            refine signs_loop (wk.toS) s.heap.objs.size (by rw [hz1]; simp) z.cps.toList (by simp) (by simpa using hb) (fun i v hv => ?_) (z.cps.size - 0) 0 _ (by omega) (Nat.zero_le _) ⟨_, Heap.get?_push_size _ rfl, rfl, rfl⟩ ?_ ?_
            · obtain ⟨c, u, hc, rfl⟩ := hv
              exact ⟨c, u, by rw [Array.getElem?_toList]; exact hc, rfl⟩
            · exact hfr _ _ (Heap.get?_push_of_some _ hS)
            · intro s' hm hS'
              obtain ⟨h', g', d', tk', os'⟩ := s'
              obtain rfl : g' = s.gens := hm.gens
              obtain rfl : d' = s.drawn := hm.drawn
              obtain rfl : os' = s.os := hm.os
              refine hR h' tk' hS' fun b o e => ?_
              have hb0 : b < s.heap.objs.size := Heap.lt_size e
              have n1 : b ∉ s.heap.objs.size :: [(s.heap.push nw).objs.size] := by
                rw [hz1]
                intro q
                rcases List.mem_cons.mp q with q | q
                · exact Nat.ne_of_lt hb0 q
                · exact Nat.ne_of_lt (Nat.lt_succ_of_lt hb0) (List.mem_singleton.mp q)
              exact hm.heap b o n1 (Heap.get?_push_of_some _ (Heap.get?_push_of_some _ e))
          cases ha : z.cps.all (· < 128)
          · refine wpAny_pyIter_wide ha (wpAny_bind (wpAny_runValue (fin _ (Walks.strWide hh3 _ z t) _ fun h' tk hS2 hk2 => wpAny_pure ?_)))
            exact wpAny_pure ⟨rfl, h', tk, rfl, hS2, hk2⟩
          · refine wpAny_pyIter_ascii ha (wpAny_bind (wpAny_runValue (fin _ (Walks.strAscii hh3 _ z t) _ fun h' tk hS2 hk2 => wpAny_pure ?_)))
            exact wpAny_pure ⟨rfl, h', tk, rfl, hS2, hk2⟩
        · cases r₂ with
          | error e => exact hr₂
          | ok fl₂ =>
            cases fl₂ with
            | ret r =>
              obtain ⟨rfl, h', tk, rfl, hS', hk'⟩ := hr₂
              repeat (any_goals (first | assumption | wp_step))
              exact h _ _ hS' hk'
            | _ => exact hr₂.elim
      | _ => exact hr.elim))
end
end Mo

namespace Mo
open PySem PySem.Spec PyProof.Rows L2
/-! ### the rules over the layer -/
section
variable {X : Cx}
def rSetS (P : Program) (w : World) : List V → Hp → VK → Prop := fun xs H Q => ∃ z : Str, xs = [.str z] ∧ z.cps.size ≤ 4000 ∧ ∀ p, H p = none → Q (.ref p) (upd H p (SetK P w p (inS z.cps.toList) (met z.cps.toList).length))
/-- set(z), z a text -/
theorem cr_setS (hc : X.calm = true) : CallR X (.type "set") (rSetS X.prog X.w) := by
  intro pins s σ H xs us Q I r h
  obtain ⟨z, rfl, hz, q⟩ := h
  obtain ⟨u, rfl, t, rfl⟩ := vals1 r
  refine call_set_signs (I.ok.hd hc) (by unfold scanBound; omega) fun h' tk hS hk => ?_
  exact ⟨.ref _, _, I.laid (t' := tk) hk (Nat.le_refl _) (setK_new hS), rfl, q _ (I.hok.fresh (Nat.le_refl _))⟩
def rLenK (P : Program) (w : World) : List V → Hp → VK → Prop := fun xs H Q => ∃ a S n, xs = [V.ref a] ∧ H a = some (SetK P w a S n) ∧ (n : Int) < 2 ^ 62 ∧ Q (.int (n : Nat)) H
/-- len(a set) -/
theorem cr_lenK : CallR X (.builtin "len") (rLenK X.prog X.w) := by
  intro pins s σ H xs us Q I r h
  obtain ⟨a, S, n, rfl, ha, hn, q⟩ := h
  obtain ⟨u, rfl, ru⟩ := vals1 r
  cases ru
  obtain ⟨o, es, ep, t, ho, hex, hd, _, _, _, hf, hes⟩ := setK_get I ha
  refine call_len_set ho hex hd hf (by rw [hes]; omega) ⟨.int (n : Nat), H, I.tok _, ⟨_, by rw [hes]⟩, q⟩
/-- repr(z), z a text -/
theorem cr_reprS : CallR X (.builtin "repr") (fun xs H Q => ∃ z : Str, xs = [.str z] ∧ (reprText z).length ≤ sizeLine ∧ Q (.str (reprText z)) H) := by
  intro pins s σ H xs us Q I r h
  obtain ⟨z, rfl, hz, q⟩ := h
  obtain ⟨u, rfl, t, rfl⟩ := vals1 r
  exact PySem.P.repr_of_str ⟨.str _, H, I.tok _, ⟨_, rfl⟩, q⟩ hz
/-! rules within a comprehension's block: the written part named, so that the reading is the same in every block -/
def rLenSq (K : PySem.W.Frag) : List V → Hp → VK → Prop := fun xs H Q => ∃ p ys, xs = [.ref p] ∧ (SqL K H p ys ∨ SqT K H p ys) ∧ Q (.int ys.length) H
theorem call_len_seqK {K : PySem.W.Frag} (h : X.K = K) : CallR X (.builtin "len") (rLenSq K) := by
  subst h
  exact call_len_seq
theorem ix_listK {K : PySem.W.Frag} (h : X.K = K) : IxR X (rIxL K) := by
  subst h
  exact ix_list
theorem op_notIn_seqK {K : PySem.W.Frag} (h : X.K = K) : OpR X (compareOp .NotIn) (rIn K true) := by
  subst h
  exact op_notIn_seq
theorem op_in_seqK {K : PySem.W.Frag} (h : X.K = K) : OpR X (compareOp .In) (rIn K false) := by
  subst h
  exact op_in_seq
theorem pg_tupK {K : PySem.W.Frag} {es : List Expr} {t : TGs} {k n : Nat} {pos : Pos} (h : X.K = K) (hc : X.calm = true) (hs : PGs X es t)
    (hn : (assignEach es X.env).length = n := by rfl) (hst : (assignEach es X.env).findIdx? (·.1) = none := by rfl) : PG X (.Tuple es k pos) (gTup K n t) := by
  subst h
  exact pg_tup hc hs hn hst
/-- z[::-1], z a text -/
def revS (z : Str) : Str := ⟨z.cps.toList.reverse.toArray⟩
def tRevS (te : TE) : TE := fun σ H Q => te σ H fun x H1 => ∃ z, x = .str z ∧ z.length ≤ sizeLine ∧ Q (.str (revS z)) H1
theorem back_idx (n : Nat) : Builtin.Str.strSliceIndices none none (-1) n = (List.range n).reverse := by
  show sliceRange ((n : Int) - 1) (-1) (-1) = _
  rw [PySem.W.krv_sliceRange, PySem.W.krv_range]
theorem back_pick (z : Str) : ((Builtin.Str.strSliceIndices none none (-1) z.length).filterMap (z.cps[·]?)).toArray = z.cps.toList.reverse.toArray := by
  rw [back_idx, List.filterMap_reverse]
  show ((List.range z.cps.size).filterMap (z.cps[·]?)).reverse.toArray = _
  rw [PySem.W.krv_all]
theorem pe_revS {e : Expr} {te : TE} {k : Nat} {p1 p2 p3 pos : Pos} (he : PE X e te) : PE X (.Subscript e (.Slice none none (some (.UnaryOp .USub (.Constant (.int 1) k p1) p2)) p3) pos) (tRevS te) := by
  refine ⟨fun pins s σ H Q I h => ?_⟩
  refine Subscript_ (thn (he.run pins s σ H _ I h) fun v s1 ⟨x, H1, I1, r1, z, ez, hz, q⟩ => ?_)
  subst ez
  obtain ⟨t, rfl⟩ := r1
  have hst : PO X (some (.UnaryOp .USub (.Constant (.int 1) k p1) p2)) (tPart (tUn (rU fun i => .int (-i)) (tC (.int 1)))) := po_some (pe_un un_neg pe_int)
  refine wpAny_Slice (thn (po_none.run pins s1 σ H1 (fun o H2 => o = none ∧ H2 = H1) I1 ⟨rfl, rfl⟩) fun vl s2 ⟨l, H2, I2, pl, el, e2⟩ => ?_)
  subst el e2
  refine thn (po_none.run pins s2 σ H2 (fun o H3 => o = none ∧ H3 = H2) I2 ⟨rfl, rfl⟩) fun vu s3 ⟨u, H3, I3, pu, eu, e3⟩ => ?_
  subst eu e3
  refine thn (hst.run pins s3 σ H3 (fun o H4 => o = some (-1) ∧ H4 = H3) I3 ⟨1, rfl, -1, rfl, rfl, rfl⟩) fun vs s4 ⟨o, H4, I4, ps, eo, e4⟩ => ?_
  subst eo e4
  have I5 : Inv X pins σ H4 { s4 with heap := s4.heap.push { cls := .type "slice", data := .fields #[vl, vu, vs] } } := I4.kept (t' := s4.toks) fun b ob q => Heap.get?_push_of_some _ q
  obtain ⟨l, rfl, el⟩ := IsPart.raw pl
  obtain ⟨u, rfl, eu⟩ := IsPart.raw pu
  obtain ⟨sp, rfl, es⟩ := IsPart.raw ps
  show wpAny (model X.prog X.w) X.A (subscriptTail e (.Slice none none (some (.UnaryOp .USub (.Constant (.int 1) k p1) p2)) p3) (.str z t) (.ref s4.heap.objs.size)) (EP X pins σ Q) X.xe { s4 with heap := s4.heap.push { cls := .type "slice", data := .fields #[partValue l, partValue u, partValue sp] } }
  refine tail_any (ops := [.str z t, .ref s4.heap.objs.size]) (typeIs_str _ _ _) (F.slot_str_getitem.lookup) ?_ (by with_unfolding_all rfl)
  refine wpAny_getItem_str_slice (l := l) (u := u) (st := sp) ⟨_, Heap.get?_push_size _ rfl, rfl, rfl⟩ (by rw [es]; rfl) ?_
  unfold sliceMade slicePicked
  rw [el, eu, es]
  show Made.post (Made.str ⟨((Builtin.Str.strSliceIndices none none (-1) z.length).filterMap (z.cps[·]?)).toArray⟩) (EP X pins σ Q) _
  rw [back_pick]
  refine ⟨?_, .str (revS z), H4, I5.tok _, ⟨_, rfl⟩, q⟩
  show (z.cps.toList.reverse.toArray).size ≤ sizeLine
  rw [List.size_toArray, List.length_reverse, Array.length_toList]
  exact hz
/-! ### enumerate(z), z a text -/
def IteS (z : Str) : It := ⟨fun i _ => i < z.cps.size, fun i H v H' => ∃ T c, v = .ref T ∧ H T = none ∧ z.cps[i]? = some c ∧ H' = upd H T (.tup [.int (i : Nat), .str ⟨#[c]⟩]), fun i _ => z.cps.size ≤ i⟩
theorem strIter_kind (z : Str) : strIterType z = "str_ascii_iterator" ∨ strIterType z = "str_iterator" := by
  unfold strIterType
  split
  · exact .inl rfl
  · exact .inr rfl
theorem draws_str {P : Program} {w : World} {A : Around} (hh : A.handled = none) (it : Addr) (z : Str) (t : Tok) :
    Draws P w A it [it] z.cps.size (fun i v => ∃ c u, z.cps[i]? = some c ∧ v = .str ⟨#[c]⟩ u) (fun i h => h.IsStrIter it (strIterType z) z t i) := by
  rcases strIter_kind z with e | e
  · rw [e]; exact Draws.strAscii hh it z t
  · rw [e]; exact Draws.strWide hh it z t
theorem turn_enumS {P : Program} {w : World} {K : PySem.W.Frag} {elts : List Expr} {kk : Nat} {tpos : Pos} (z : Str) (t : Tok) (e it : Addr) :
    Turn P w K (.Tuple elts kk tpos) (IteS z) [e, it] e (fun i h => (∃ old, IsEnum h e it ((i : Nat) : Int) old) ∧ h.IsStrIter it (strIterType z) z t i ∧ e ≠ it ∧ i ≤ z.cps.size) where
  mem := by simp
  obj := fun i h st b hb => by
    obtain ⟨⟨old, he⟩, ⟨o, ho, hc, hd⟩, _⟩ := st
    rcases (by simpa using hb : b = e ∨ b = it) with q | q
    · rw [q]; exact ⟨_, he, fun v q => nomatch q⟩
    · rw [q]; exact ⟨o, ho, fun v q => by rw [hd] at q; cases q⟩
  keep := fun i h h' st k => let ⟨⟨old, he⟩, ⟨o, ho, r⟩, hne⟩ := st; ⟨⟨old, k e (by simp) _ he⟩, ⟨o, k it (by simp) o ho, r⟩, hne⟩
  item := by
    intro X hP hw hK hc i pins s σ H E I hf st hg
    subst hP hw hK
    obtain ⟨⟨old, he⟩, hit, hne, hle⟩ := st
    have hi : i < z.cps.size := hg
    have hel : e < s.heap.objs.size := Heap.lt_size he
    have hil : it < s.heap.objs.size := by obtain ⟨_, q, _⟩ := hit; exact Heap.lt_size q
    have hh : X.A.in1.handled = none := by simpa using I.ok.hd hc
    refine wpAny_pyNext_enum_itemD (draws_str hh it z t) he hit hi hne (by simpa using hne) fun x h' tk hP ho hit' hT hsz hk => ?_
    obtain ⟨c, u, hcx, rfl⟩ := hP
    refine ⟨_, rfl, wpAny_letOwnedTupleGo_enum (s := { s with heap := h', toks := tk + 1 }) ho fun h2 he' sb => ?_⟩
    have hT2 := (sb.2 _ (Nat.ne_of_gt hel)).trans hT
    have new : ObjOk X.prog X.w (upd H s.heap.objs.size (.tup [.int (i : Nat), .str ⟨#[c]⟩])) h2 s.heap.objs.size (.tup [.int (i : Nat), .str ⟨#[c]⟩]) :=
      ⟨by show 2 ≤ sizeLine; decide, [.int i tk, .str ⟨#[c]⟩ u], .cons ⟨_, rfl⟩ (.cons ⟨_, rfl⟩ .nil), ⟨_, hT2, rfl, _, rfl⟩⟩
    have I1 : Inv X pins σ (upd H s.heap.objs.size (.tup [.int (i : Nat), .str ⟨#[c]⟩])) { s with heap := h2, toks := tk + 1 } :=
      I.turnedNew (ch := [e, it]) (fun b ob hb q => (sb.2 b (fun z => hb (by simp [z]))).trans (hk b ob (fun z => hb (by simp [z])) (fun z => hb (by simp [z])) q)) hf (Nat.le_refl _) new
    obtain ⟨oi, hoi, r⟩ := hit'
    refine ⟨.ref s.heap.objs.size, _, I1, rfl, ⟨_, c, rfl, I.hok.fresh (Nat.le_refl _), hcx, rfl⟩, ⟨⟨.str ⟨#[c]⟩ u, ?_⟩, ⟨oi, (sb.2 it (Ne.symm hne)).trans hoi, r⟩, hne, hi⟩, fun b hb => ?_⟩
    · have e1 : ((i + 1 : Nat) : Int) = (i : Int) + 1 := by omega
      rw [e1]; exact he'
    · have hb' : b < s.heap.objs.size := by
        rcases (by simpa using hb : b = e ∨ b = it) with q | q
        · rw [q]; exact hel
        · rw [q]; exact hil
      rw [upd_ne (Nat.ne_of_lt hb')]
      exact (hf b hb).1
  done := by
    intro X hP hw hK hc i pins s σ H E I hf st hg
    subst hP hw hK
    obtain ⟨⟨old, he⟩, hit, hne, hle⟩ := st
    have hi : i = z.cps.size := Nat.le_antisymm hle hg
    subst hi
    obtain ⟨f0, f1, f2, f3, f4, f5⟩ := hf it (by simp)
    have hh : X.A.in1.handled = none := by simpa using I.ok.hd hc
    exact wpAny_pyNext_enum_endD (draws_str hh it z t) he hit fun h' eb => ⟨rfl, I.turned (t' := s.toks) (fun b o hb q => eb b o hb q) f0 f1 f3 f4 f5⟩
  self := fun A i s Q E st h => let ⟨⟨_, he⟩, _⟩ := st; wpAny_pyIter_enum he h
def iEnumS (ta : TA) : TI := fun σ H R => ta σ H fun vs H1 => ∃ z : Str, vs = [.str z] ∧ R (IteS z) H1
theorem pi_enumS {e : Expr} {ta : TA} {p pos tpos : Pos} {elts : List Expr} {kk : Nat} (hg : Gl X "enumerate") (hm : X.mg "enumerate" = none) (ha : PA X [e] ta) (hs : starEach [e] X.env = [(false, eval e X.env)] := by rfl) :
    PI X (.Tuple elts kk tpos) (.Call (.Name "enumerate" p) [e] [] pos) (iEnumS ta) := by
  refine ⟨fun pins s σ H R I h => ?_⟩
  refine Call_ (ld_blt I hg hm boot_enumerate (PyProof.Rows.callWith_type1 (thn (ha.run pos pins s σ H _ I h) fun us s1 ⟨vs, H1, I1, r1, q1⟩ => ?_) hs rfl))
  obtain ⟨z, rfl, q⟩ := q1
  obtain ⟨u, rfl, t, rfl⟩ := vals1 r1
  refine call_enumerate_str fun h' he hit hsz hk => wpAny_pyIter_enum he ?_
  have I2 : Inv X pins σ H1 { s1 with heap := h' } := I1.kept (t' := s1.toks) hk
  refine ⟨s1.heap.objs.size + 1, [s1.heap.objs.size + 1, s1.heap.objs.size], _, _, H1, rfl, I2, turn_enumS z t (s1.heap.objs.size + 1) s1.heap.objs.size, ⟨⟨.none, he⟩, hit, Nat.succ_ne_self _, Nat.zero_le _⟩, fun b hb => ?_, q⟩
  have hle : s1.heap.objs.size ≤ b := by
    rcases (by simpa using hb : b = s1.heap.objs.size + 1 ∨ b = s1.heap.objs.size) with q | q
    · rw [q]; exact Nat.le_add_right _ _
    · rw [q]; exact Nat.le_refl _
  exact I1.fpOk hle (I1.hok.fresh hle)
theorem walk_enumS {z : Str} : Walk (IteS z) z.cps.size (fun _ => True) (YPair (fun i => some (.int (i : Nat))) (fun i => z.cps[i]?.map fun c => .str ⟨#[c]⟩)) :=
  ⟨fun _ _ hi _ => hi, fun _ _ => Nat.le_refl _, fun i H v H' _ _ ⟨T, c, h1, h2, h3, h4⟩ => ⟨T, .int (i : Nat), .str ⟨#[c]⟩, h1, h2, h4, rfl, by show Option.map _ z.cps[i]? = _; rw [h3]; rfl⟩⟩
end
end Mo

namespace Mo
open PySem PySem.Spec PyProof.Rows L2
/-! ### texts as lists of codes -/
def tx (cs : List Nat) : Str := ⟨cs.toArray⟩
abbrev sg (c : Nat) : V := .str ⟨#[c]⟩
theorem tx_eta (z : Str) : tx z.cps.toList = z := rfl
theorem tx_list (cs : List Nat) : (tx cs).cps.toList = cs := rfl
theorem tx_len (cs : List Nat) : (tx cs).length = cs.length := by show cs.toArray.size = _; simp
theorem tx_size (cs : List Nat) : (tx cs).cps.size = cs.length := by show cs.toArray.size = _; simp
theorem tx_inj {a b : List Nat} (h : tx a = tx b) : a = b := by
  have q := congrArg (fun z : Str => z.cps.toList) h
  exact q
theorem tx_app (a b : List Nat) : tx a ++ tx b = tx (a ++ b) := by
  show (⟨a.toArray ++ b.toArray⟩ : Str) = ⟨(a ++ b).toArray⟩
  simp
theorem tx_app1 (a : List Nat) (c : Nat) : tx a ++ (⟨#[c]⟩ : Str) = tx (a ++ [c]) := tx_app a [c]
theorem tx_get {cs : List Nat} {i : Nat} : (tx cs).cps[i]? = cs[i]? := by
  show cs.toArray[i]? = cs[i]?
  simp
theorem fits5 {n : Nat} (h : n ≤ 100000) : n ≤ sizeLine := Nat.le_trans h (by decide)
theorem fitsLt {n : Nat} (h : n ≤ 100000) : n < sizeLine := Nat.lt_of_le_of_lt h (by decide)
/-- small letters alone -/
def Low (cs : List Nat) : Prop := ∀ c ∈ cs, 97 ≤ c ∧ c ≤ 122
theorem tx_nil : Str.ofString "" = tx [] := by decide +kernel
theorem join_signs : ∀ cs : List Nat, Txt.join (Str.ofString "") (cs.map fun c => (⟨#[c]⟩ : Str)) = tx cs := by
  have key : ∀ cs : List Nat, Str.join (tx []) (cs.map fun c => (⟨#[c]⟩ : Str)) = tx cs := by
    intro cs
    induction cs with
    | nil => rfl
    | cons c r ih =>
      cases r with
      | nil => rfl
      | cons e r =>
        show (⟨#[c]⟩ : Str) ++ tx [] ++ Str.join (tx []) ((e :: r).map fun c => (⟨#[c]⟩ : Str)) = tx (c :: e :: r)
        rw [ih]
        show tx [c] ++ tx [] ++ tx (e :: r) = _
        rw [tx_app, tx_app]
        rfl
  intro cs
  show Builtin.Str.glued _ _ = _
  rw [StrLaws.glued_eq_join, tx_nil]
  exact key cs
/-! ### the pen -/
def penD (c : Addr) (t r : Int) : List (Key × V) := [(.inr "cells", .ref c), (.inr "turn", .int t), (.inr "rest", .int r)]
theorem k_ct : ¬ ((Sum.inr "cells" : Key) = (Sum.inr "turn" : Key)) := by decide +kernel
theorem k_cr : ¬ ((Sum.inr "cells" : Key) = (Sum.inr "rest" : Key)) := by decide +kernel
theorem k_tr : ¬ ((Sum.inr "turn" : Key) = (Sum.inr "rest" : Key)) := by decide +kernel
theorem pen_cells (c : Addr) (t r : Int) : valV (penD c t r) (Sum.inr "cells") = some (.ref c) := valV_pos rfl
theorem pen_turn (c : Addr) (t r : Int) : valV (penD c t r) (Sum.inr "turn") = some (.int t) := by
  unfold penD
  rw [valV_neg k_ct, valV_pos rfl]
theorem pen_rest (c : Addr) (t r : Int) : valV (penD c t r) (Sum.inr "rest") = some (.int r) := by
  unfold penD
  rw [valV_neg k_cr, valV_neg k_tr, valV_pos rfl]
theorem put_turn (c : Addr) (t r u : Int) : putK (penD c t r) (Sum.inr "turn") (.int u) = penD c u r := by
  unfold putK penD
  have k1 := k_ct
  have k2 : ¬ ((Sum.inr "rest" : Key) = (Sum.inr "turn" : Key)) := fun e => k_tr e.symm
  simp only [List.any_cons, List.map_cons, List.map_nil, k1, k2, if_false, if_true, decide_true, decide_false, Bool.true_or, Bool.or_true, Bool.false_or]
theorem put_rest (c : Addr) (t r u : Int) : putK (penD c t r) (Sum.inr "rest") (.int u) = penD c t u := by
  unfold putK penD
  have k1 := k_cr
  have k2 := k_tr
  simp only [List.any_cons, List.map_cons, List.map_nil, k1, k2, if_false, if_true, decide_true, decide_false, Bool.true_or, Bool.or_true, Bool.false_or]
theorem pen_merge (c : Addr) (t r : Int) : mergeK [] (penD c t r) = penD c t r := by
  have k1 := k_ct
  have k2 := k_cr
  have k3 := k_tr
  simp only [mergeK, penD, putK, List.foldl_cons, List.foldl_nil, List.any_nil, List.any_cons, List.nil_append, List.cons_append, k1, k2, k3, decide_false, Bool.or_false, Bool.false_eq_true, if_false]
/-- the pen at d, its cells at c, t draws done -/
def Pen (H : Hp) (d c : Addr) (t : Nat) : Prop := ∃ (ns : List Int) (r : Int), H d = some (.dK (penD c t r)) ∧ H c = some (.lst (ns.map V.int)) ∧ ns.length ≤ 63 ∧ 0 ≤ r
theorem Pen.ne {H : Hp} {d c : Addr} {t : Nat} (h : Pen H d c t) : d ≠ c := by
  obtain ⟨ns, r, h1, h2, _⟩ := h
  exact ne_of h1 h2 (by intro z; cases z)
/-- all but d is as it was -/
def But (d : Addr) (H H' : Hp) : Prop := ∀ b o, b ≠ d → H b = some o → H' b = some o
theorem But.refl (d : Addr) (H : Hp) : But d H H := fun _ _ _ h => h
theorem But.trans {d : Addr} {H H1 H2 : Hp} (a : But d H H1) (b : But d H1 H2) : But d H H2 := fun c o n h => b c o n (a c o n h)
theorem But.same {d : Addr} {H H1 : Hp} (a : Same H H1) : But d H H1 := fun c o _ h => a c o h
theorem But.none {d : Addr} {H H1 : Hp} (a : But d H H1) {p : Addr} (h : H1 p = none) (n : p ≠ d) : H p = none := by
  cases q : H p with
  | none => rfl
  | some o =>
    rw [a p o n q] at h
    cases h
theorem Pen.new {H : Hp} {d c : Addr} {t : Nat} (h : Pen H d c t) {p : Addr} (hp : H p = none) : p ≠ d ∧ p ≠ c := by
  obtain ⟨ns, r, h1, h2, _⟩ := h
  exact ⟨(ne_of_none h1 hp).symm, (ne_of_none h2 hp).symm⟩
theorem Pen.upd {H : Hp} {d c : Addr} {t : Nat} (h : Pen H d c t) {p : Addr} {o : HO} (h1 : p ≠ d) (h2 : p ≠ c) : Pen (upd H p o) d c t := by
  obtain ⟨ns, r, e1, e2, e3⟩ := h
  exact ⟨ns, r, by rw [upd_ne h1.symm]; exact e1, by rw [upd_ne h2.symm]; exact e2, e3⟩
theorem Pen.same {H H' : Hp} {d c : Addr} {t : Nat} (h : Pen H d c t) (s : Same H H') : Pen H' d c t := by
  obtain ⟨ns, r, e1, e2, e3⟩ := h
  exact ⟨ns, r, s _ _ e1, s _ _ e2, e3⟩
theorem same_new {H : Hp} {p : Addr} {o : HO} (h : H p = none) : Same H (L2.upd H p o) := fun b x e => by
  rw [upd_ne (ne_of_none e h)]
  exact e
theorem But.set {d : Addr} {H : Hp} {o : HO} : But d H (L2.upd H d o) := fun b x n e => by
  rw [upd_ne n]
  exact e
theorem But.put {d : Addr} {H H' : Hp} {o : HO} (b : But d H H') {D : Addr} (n : H D = Option.none) : But d H (L2.upd H' D o) := fun x y nx e => by
  rw [upd_ne (ne_of_none e n)]
  exact b x y nx e
theorem Same.put {H H' : Hp} {o : HO} (b : Same H H') {D : Addr} (n : H D = Option.none) : Same H (L2.upd H' D o) := fun x y e => by
  rw [upd_ne (ne_of_none e n)]
  exact b x y e
theorem pen_set {H : Hp} {d c : Addr} {t : Nat} (h : Pen H d c t) {u : Nat} {r : Int} (hr : 0 ≤ r) : Pen (L2.upd H d (.dK (penD c u r))) d c u := by
  have n := h.ne
  obtain ⟨ns, r0, e1, e2, e3, _⟩ := h
  exact ⟨ns, r, upd_same, by rw [upd_ne n.symm]; exact e2, e3, hr⟩
def spDraw : Sp := fun vs H Q _ => ∃ (d c : Addr) (n : Int) (t : Nat), vs = [.ref d, .int n] ∧ Pen H d c t ∧ 0 < n ∧ n < 1073741824 ∧ t < 1073741824 ∧
  ∀ H' k t', But d H H' → Pen H' d c t' → t' ≤ t + 1 → 0 ≤ k → k < n → Q (.int k) H'
def spPick (K : PySem.W.Frag) : Sp := fun vs H Q _ => ∃ (d c l : Addr) (xs : List V) (t : Nat), vs = [.ref d, .ref l] ∧ Pen H d c t ∧ SqL K H l xs ∧ l ≠ d ∧ 0 < xs.length ∧ xs.length < 1073741824 ∧ t < 1073741824 ∧
  ∀ H' v t', But d H H' → Pen H' d c t' → t' ≤ t + 1 → v ∈ xs → Q v H'
end Mo

namespace Mo
open PySem PySem.Spec PyProof.Rows L2
/-! ### an error that is kept behind its except suite -/
/-- at a: an error of the class cls, its own dict d -/
def exV (a : Addr) (cls : Value) (d : Option Addr) : HO := .ext fun h => ∃ oe vs, h.get? a = some oe ∧ Zc cls d oe ∧ oe.data = .fields vs
section
variable {X : Cx} {pins : List (Addr × Obj)} {σ : L2.St} {H : Hp} {s : Shared}
/-- an object that was not there at the entry is tracked from now on -/
theorem track {a : Addr} {oe : Obj} {vs : Array Value} {o : HO} (I : Inv X pins σ H s) (ha : s.heap.get? a = some oe) (hd : oe.data = .fields vs) (na : H a = none) (nL : a ≠ X.env.locals)
    (n0 : ∀ u, X.s_0.heap.get? a = some u → a ∈ X.ex) (np : ∀ p ∈ X.pn ++ pins, p.1 ≠ a) (new : ObjOk X.prog X.w (upd H a o) s.heap a o) : Inv X pins σ (upd H a o) s := by
  have ne : ∀ b u, H b = some u → b ≠ a := fun b u e => ne_of_none e na
  refine ⟨I.ok, I.os, I.bare, ⟨I.base.keep, I.base.slot, fun b u q n hx => ?_, I.base.there, fun b xs e => ?_, fun b u w e => ?_, fun b ps e => ?_⟩, I.loc, I.cell, ?_, fun x c e => ?_, fun p hp => ?_, fun b u e => ?_, I.len⟩
  · rw [upd_ne (fun z : b = a => hx (by rw [z]; exact n0 u (by rw [← z]; exact q)))]
    exact I.base.free b u q n hx
  · have q := I.base.tups b xs e
    rw [upd_ne (ne _ _ q)]
    exact q
  · have q := I.base.frzs b u w e
    rw [upd_ne (ne _ _ q)]
    exact q
  · obtain ⟨more, q⟩ := I.base.tbls b ps e
    exact ⟨more, by rw [upd_ne (ne _ _ q)]; exact q⟩
  · rw [upd_ne nL.symm]
    exact I.free
  · obtain ⟨v, oc, hoc, hcc⟩ := I.cell x c e
    have nca : c ≠ a := fun z => by
      rw [z, ha] at hoc
      cases hoc
      rw [hd] at hcc
      cases hcc
    rw [upd_ne nca]
    exact I.freeC x c e
  · obtain ⟨h1, h2, h3⟩ := I.pin p hp
    exact ⟨h1, by rw [upd_ne (np p hp)]; exact h2, h3⟩
  · by_cases hb : b = a
    · subst hb
      rw [upd_same] at e
      cases e
      exact new
    · rw [upd_ne hb] at e
      refine (I.hok b u e).stay (fun c v _ q => q) (fun c q => ?_) fun c xs q => ?_
      · rw [upd_ne (ne _ _ q)]
        exact q
      · rw [upd_ne (ne _ _ q)]
        exact q
theorem exV_ok {P : Program} {w : World} {H : Hp} {h : Heap} {a : Addr} {cls : Value} {d : Option Addr} {oe : Obj} {vs : Array Value} (e : h.get? a = some oe) (z : Zc cls d oe) (hd : oe.data = .fields vs) : ObjOk P w H h a (exV a cls d) :=
  ⟨⟨oe, vs, e, z, hd⟩, ⟨oe, e⟩, fun h1 h2 ⟨o1, v1, e1, z1, d1⟩ k => ⟨o1, v1, k _ e1, z1, d1⟩⟩
theorem exV_at {a : Addr} {cls : Value} {d : Option Addr} (I : Inv X pins σ H s) (e : H a = some (exV a cls d)) : ∃ oe vs, s.heap.get? a = some oe ∧ Zc cls d oe ∧ oe.data = .fields vs := (I.hok a _ e).1
end
/-- what 'except x as n: kept = n' wishes of an error of the body: n in slot i, kept in slot j; behind it the error is tracked -/
def wKeep (K : PySem.W.Frag) (c : Value) (i j : Nat) (Wout : WX) (D : Ends) : WX := fun cls d σ H =>
  ∃ b, PySem.W.exmOne K cls c = some b ∧ (b = true → ∀ a, H a = none → D.nx (((σ.set i (some (.ref a))).set j (some (.ref a))).set i none) (upd H a (exV a cls d))) ∧ (b = false → Wout cls d σ H)
section
variable {X : Cx} {x n kx : Str} {c : Value} {i j : Nat} {body : List Stmt} {np np2 kp ap pos pos' : Pos} {tb : WX → TS} {Wout : WX}
theorem ps_try_keep (hs : X.stack = X.env :: X.outer) (hf : X.env.frame = some X.env.locals) (hN : X.N.Nodup) (hi : X.N[i]? = some n) (hj : X.N[j]? = some kx) (hln : X.env.kindOf n = some .local) (hlk : X.env.kindOf kx = some .local) (hc : Names X x c) (tk : Takes X Wout)
    (hb : ∀ (W : WX) (pn : List (Addr × Obj)) (xe : Value → Shared → Prop), Takes (X.tr pn xe) W → PassesOwn (model X.prog X.w) X.A X.env xe → PSs (X.tr pn xe) body (tb W))
    (hsu : ∀ (a : Addr) (oe : Obj) (pn : List (Addr × Obj)), PSs (X.suite a ((a, oe) :: pn)) [.Assign [.Name kx kp] (.Name n np2) ap] (tAsg (tVar i) (gName j))) :
    PS X (.Try body [.ExceptHandler (some (.Name x np)) (some n) [.Assign [.Name kx kp] (.Name n np2) ap] pos'] [] [] pos) (fun D σ H => tb (wKeep X.K c i j Wout D) D σ H) := by
  refine ⟨fun pins s σ H D I h => ?_⟩
  have ok := I.ok
  have hfr : X.A.frames = some (X.env :: X.outer) := ok.frames.trans (by rw [hs])
  refine wpAny_Try_except (wpAny_mono ((hb (wKeep X.K c i j Wout D) (X.pn ++ pins) (fun e s₁ => wpAny (model X.prog X.w) X.A (noteFrame e X.env) (fun _ s₂ => wpAny (model X.prog X.w) X.A (setFlight e none) (fun _ s₃ =>
    wpAny (model X.prog X.w) X.A (handleBy e X.env [.ExceptHandler (some (.Name x np)) (some n) [.Assign [.Name kx kp] (.Name n np2) ap] pos']) (SP X pins D) X.xe s₃) X.xe s₂) X.xe s₁) (fun u s' xx => ?_) PassesOwn.looking).run [] s σ H D (I.toTry _) h) (fun f s1 hsp => ?_) (fun e s1 he => he))
  · obtain ⟨a, B, sI, pins', σ', H', cls, d, rfl, J', nb, up, sky, na, os, ag, b, hb1, hyes, hno⟩ := xx
    have J : Inv X pins σ' H' sI := J'.ofTry ok
    have sky' : Sky B (X.env :: X.outer) a (Zc cls d) X.env.locals s'.heap := hs ▸ sky
    show wpAny (model X.prog X.w) X.A (noteFrame (.ref a) X.env) _ _ _
    refine Sky.land Zc.steady hfr hf sky' fun h3 fl3 up3 => ?_
    have J3 : Inv X pins σ' H' { s' with heap := h3 } := J.landed nb fl3.1 (up.trans up3) os ag
    obtain ⟨oe3, vs3, he3, hz3, hd3⟩ := fl3.there
    have nfr : a ∉ frs (X.env :: X.outer) := fun hm => by
      obtain ⟨_, o', e', hnf⟩ := fl3.2.2.1.mem hm
      rw [he3] at e'
      cases e'
      exact hnf _ hd3
    have nL : a ≠ X.env.locals := fun z => nfr (List.mem_filterMap.mpr ⟨X.env, List.mem_cons_self, hf.trans (congrArg some z.symm)⟩)
    have nF : a ∉ X.fs := fun hm => by
      obtain ⟨e, he, q⟩ := List.mem_filterMap.mp hm
      exact nfr (List.mem_filterMap.mpr ⟨e, List.mem_cons_of_mem _ he, q⟩)
    have nB : B.get? a = none := fl3.2.1
    have nI : sI.heap.get? a = none := by
      cases q : sI.heap.get? a with
      | none => rfl
      | some o =>
        have z := nb a o q (by show a ∉ frs X.stack; rw [hs]; exact nfr)
        rw [nB] at z
        cases z
    have n0 : ∀ u, X.s_0.heap.get? a = some u → a ∈ X.ex := fun u q => by
      by_cases hx : a ∈ X.ex
      · exact hx
      · obtain ⟨o', z⟩ := J.base.there a u q hx
        rw [nI] at z
        cases z
    have npp : ∀ p ∈ X.pn ++ pins, p.1 ≠ a := fun p hp z => by
      have q := (J.pin p hp).1
      rw [z, nI] at q
      cases q
    have S3 := J3.suite he3 hd3 na nL nF
    refine wpAny_handleBy_cons (codeAny_handlers_test ?_) (by intro q; cases q)
    have LT : PySem.W.Looks (model X.prog X.w) h3 (typeOf (.ref a)) cls := fun A Q E s k q => wpAny_typeOf_ref (k _ _ he3) (hz3.1 ▸ q)
    have LM := PySem.W.exm_one (M := model X.prog X.w) J3.kIn LT hb1
    have test : ∀ {Q : Value → Shared → Prop} {E : Value → Shared → Prop}, Q c { s' with heap := h3 } → wpAny (model X.prog X.w) (X.A.mark (some (.ref a))) (eval (.Name x np) X.env) Q E { s' with heap := h3 } := fun {Q E} q => by
      rcases hc with ⟨hg, hdbg, hm | ⟨hm, hv, hnn⟩⟩
      · exact ld_glob (X := X.suite a ((a, oe3) :: (X.pn ++ pins))) S3 hg hm q hdbg
      · exact ld_blt (X := X.suite a ((a, oe3) :: (X.pn ++ pins))) S3 hg hm hv q hnn hdbg
    refine test (LM.here ?_)
    cases b with
    | true =>
      refine codeAny_handlers_suite_as (HandSPX.lands_againZ fl3 fun h4 fl4 up4 => ?_)
      have J4 : Inv X pins σ' H' { s' with heap := h4 } := J.landed nb fl4.1 ((up.trans up3).trans up4) os ag
      obtain ⟨oe4, vs4, he4, hz4, hd4⟩ := fl4.there
      refine store_ok (X := X.suite a ((a, oe4) :: (X.pn ++ pins))) (v := .ref a) (J4.suite he4 hd4 na nL nF) hN hi (.inl hln) rfl (fun s5 S5 => ?_) (.inr hln)
      have lenσ : i < σ'.length := by
        rw [J.len]
        exact (List.getElem?_eq_some_iff.mp hi).1
      have want : tAsg (tVar i) (gName j) { nx := fun σ6 H6 => σ6 = (σ'.set i (some (.ref a))).set j (some (.ref a)) ∧ H6 = H', rt := fun _ _ => False, bk := fun _ _ => False, ct := fun _ _ => False } (σ'.set i (some (.ref a))) H' :=
        ⟨.ref a, by rw [List.getElem?_set_self lenσ], rfl, rfl⟩
      refine wpAny_mono ((hsu a oe4 (X.pn ++ pins)).run [] s5 _ H' _ S5 want) (fun f s6 hsp => ?_) (fun _ _ z => False.elim z)
      cases f with
      | next =>
        obtain ⟨σ6, H6, S6, rfl, rfl⟩ := hsp
        obtain ⟨he6, _⟩ := S6.pin (a, oe4) (List.mem_append_left _ List.mem_cons_self)
        have J6 : Inv X pins _ H6 s6 := S6.unsuite ok
        have J7 := track J6 he6 hd4 na nL n0 npp (exV_ok he6 hz4 hd4)
        exact gone_ok J7 hN hi hln fun s7 J8 => ⟨_, _, J8, hyes rfl a na⟩
      | brk => exact hsp.elim fun _ z => z.elim fun _ z => z.2.elim
      | cont => exact hsp.elim fun _ z => z.elim fun _ z => z.2.elim
      | ret u => exact hsp.elim fun _ z => z.elim fun _ z => z.elim fun _ z => z.2.2.elim
    | false =>
      show wpAny _ X.A (handleBy (.ref a) X.env []) _ _ _
      refine wpAny_handleBy_nil ?_
      obtain ⟨k1, k2, k3, oe, vs, T, oT, ts', he, hz, hd, h1, hr⟩ := id fl3
      unfold PySem.passOn
      refine wpAny_bind (wpAny_field he hd h1 ?_)
      rw [if_neg (show ¬ ((Value.ref T == Value.none) = true) from by simp)]
      have fin : wpAny (model X.prog X.w) X.A (setFlight (.ref a) X.env.frame) (fun _ s4 => wpAny (model X.prog X.w) X.A (throw (.ref a) : Sem Flow) (SP X pins D) X.xe s4) X.xe { s' with heap := h3 } := by
        rw [hf]
        refine HandSPX.setFlight_upZ fl3 fun h4 hh4 up4 => wpAny_throw (tk _ _ ⟨a, B, sI, pins, σ', H', cls, d, rfl, J, nb, (up.trans up3).trans up4, .inr (.inr (hs ▸ hh4)), na, os, ag, hno rfl⟩)
      first
        | exact wpAny_bind (wpAny_pure (wpAny_bind fin))
        | exact wpAny_bind fin
  · cases f with
    | next => exact hsp.elim fun σ1 z => z.elim fun H1 z => wpAny_execs_nil ⟨σ1, H1, z.1.ofTry ok, z.2⟩
    | brk => exact hsp.elim fun σ1 z => z.elim fun H1 z => ⟨σ1, H1, z.1.ofTry ok, z.2⟩
    | cont => exact hsp.elim fun σ1 z => z.elim fun H1 z => ⟨σ1, H1, z.1.ofTry ok, z.2⟩
    | ret u => exact hsp.elim fun v z => z.elim fun σ1 z => z.elim fun H1 z => ⟨v, σ1, H1, z.1.ofTry ok, z.2⟩
end
end Mo

/-! ### isinstance and the fields of an error that has its own dict -/
namespace Mo
open PySem PySem.W PySem.Spec PySem.Calls PyProof.Rows
section
variable {prog : Program} {w : World} {A : Around} {E : Value → Shared → Prop} {s : Shared} {K : Frag} {x D : Addr} {ox oy : Obj}
theorem err_class {Q : Option Value → Shared → Prop} (C : L2.ExcC K D) (X : K.In s.heap) (I : PySem.W.InstAt s.heap x ox D (some oy)) (h : Q (some (.ref D)) { s with toks := s.toks + 1 }) : wpAny (model prog w) A (getAttr? (.ref x) "__class__") Q E s := by
  have hf : findObj K D (some oy) "__class__" = some (.bind (.builtin "getset_descriptor.__get__") (.builtin "object.__class__")) := findObj_data (by obtain ⟨cd, hc, _⟩ := any_some C.hd; rw [hc]; rfl) C.ha C.hn C.ht
  obtain ⟨hp, g, d, t, os⟩ := s
  have a0 := I.type (M := model prog w)
  have a1 := looks_findIn (M := model prog w) X C.hg
  have a2 := looks_findIn (M := model prog w) X C.hk
  have a3 := looks_find (M := model prog w) X I hf
  have sub : Looks (model prog w) hp (isInstance (.ref x) (.type "BaseException")) true := a0.andThen (looks_subIn X C.hs)
  have y2 : (Value.builtin "BaseException.__getattribute__" == Value.builtin "object.__getattribute__") = false := by decide +kernel
  have y1 : (onTheHeap (Value.ref D) && Value.builtin "BaseException.__getattribute__" == Value.builtin "object.__getattribute__") = false := by rw [y2]; rfl
  have y0 : (false && onTheHeap (Value.builtin "BaseException.__getattribute__")) = false := rfl
  unfold getAttr? getAttrBy? getAttrBy
  refine wpAny_bind (wpAny_mkText (wpAny_bind (wpAny_attempt (wpAny_holding (wpAny_bind (a0.at (wpAny_bind (a1.at ?_))))))))
  show wpAny _ _ (if (onTheHeap (Value.ref D) && Value.builtin "BaseException.__getattribute__" == Value.builtin "object.__getattribute__") = true then _ else _) _ _ _
  rw [y1, if_neg Bool.false_ne_true]
  unfold getAttrByItsOwn hookBefore
  refine wpAny_bind (by
    rw [if_pos (show onTheHeap (Value.ref D) = true from rfl)]
    refine a2.at (wpAny_bind (wpAny_attempt (wpAny_holding ?_)))
    unfold callGetattribute
    rw [y0, if_neg Bool.false_ne_true]
    unfold boundAndCalled
    rw [PySem.F.excAttr_ValueError.ga.bind (.ref x)]
    refine wpAny_bind (wpAny_pure (by
      show wpAny _ _ (call (.builtin "BaseException.__getattribute__") [.ref x, .str "__class__" t]) _ _ _
      refine wpAny_call (codeAny_call_builtin PySem.F.excAttr_ValueError.ga.plain PySem.F.entry_bexc_ga (@check_slot (model prog w) _ _ ⟨hp, g, d, t + 1, os⟩ "BaseException.__getattribute__" "BaseException" "__getattribute__" (.ref x) [.str "__class__" t] [] _ (by decide +kernel) (by decide +kernel) sub (PySem.F.args_bexc_ga (.ref x) (.str "__class__" t)) ?_))
      unfold Builtin.«object.__getattribute__»
      refine wpAny_bind (wpAny_of_eq (a := ((Value.ref x : Value), [Value.str "__class__" t])) (by first | rfl | (simp only [slotArgs]; rfl)) (wpAny_bind (wpAny_pure (wpAny_bind (a0.at (wpAny_bind (a3.at ?_)))))))
      show wpAny _ _ (holding [Value.builtin "object.__class__"] (call (.builtin "getset_descriptor.__get__") [.builtin "object.__class__", .ref x, .ref D]) >>= ret) _ _ _
      refine wpAny_bind (wpAny_holding (wpAny_call (class_get (s := ⟨hp, g, d, t + 1, os⟩) (ox := ox) (od := some oy) X I C.hm (wpAny_pure ?_))))
      show wpAny _ _ (handedOut (.ref D)) _ _ _
      rw [handedOut_of (v := .ref D) rfl]
      first | exact wpAny_pure (wpAny_pure h) | exact wpAny_pure h | exact wpAny_pure (wpAny_bind (wpAny_pure (wpAny_pure h))))))
theorem err_kit (C : L2.ExcC K D) : KitX K (.ref x) (.ref D) (fun h => ∃ ox oy, PySem.W.InstAt h x ox D (some oy)) where
  ty := fun _ _ _ ⟨_, _, I⟩ => I.type
  it := fun M h X _ => by
    obtain ⟨cd, hc, _⟩ := any_some C.hd
    unfold clsIn at hc
    split at hc
    · rename_i c' d' cd' sl' ho
      intro A' Q' E' s' k q
      unfold isType loadHead
      exact wpAny_bind (wpAny_loadPart (k _ _ (X _ _ ho)) (wpAny_pure q))
    · cases hc
  ne := fun h tp dd its n sl X htp => by
    obtain ⟨cd, hc, _⟩ := any_some C.hd
    refine Bool.eq_false_iff.mpr fun q => ?_
    obtain rfl : D = tp := Value.ref.inj (beq_iff_eq.mp q)
    unfold clsIn at hc
    split at hc
    · rename_i c' d' cd' sl' ho
      cases (X _ _ ho).symm.trans htp
    · cases hc
  ca := fun X ⟨_, _, I⟩ k => err_class C X I k
end
end Mo
namespace Mo
open PySem PySem.Spec PyProof.Rows L2
section
variable {X : Cx} {pins : List (Addr × Obj)} {σ : L2.St} {H : Hp} {s : Shared}
/-- an error at a, its class at C, its dict at dd with the fields fs -/
def ErrAt (H : Hp) (a C dd : Addr) (fs : List (Str × V)) : Prop := H a = some (exV a (.ref C) (some dd)) ∧ H dd = some (.xd fs)
theorem ErrAt.inst {a C dd : Addr} {fs : List (Str × V)} (e : ErrAt H a C dd fs) (I : Inv X pins σ H s) : ∃ ox od mA, PySem.W.InstAt s.heap a ox C (some od) ∧ s.heap.Ns1 dd mA ∧ (∀ f, RelO (fs.lookup f) (mA f)) ∧ ∀ f, PySem.W.lookIn f od = some (mA f) := by
  obtain ⟨oe, vs, ha, hz, hd⟩ := exV_at I e.1
  obtain ⟨mA, hns, hr⟩ := (show ObjOk X.prog X.w H s.heap dd (.xd fs) from I.hok dd _ e.2)
  obtain ⟨od, ho, hl⟩ := lookIn_ns hns
  exact ⟨oe, od, mA, ⟨ha, hz.1, by unfold PySem.W.notCls; rw [hd] <;> rfl, by rw [hz.2]; exact ho⟩, hns, hr, hl⟩
/-- isinstance(err, c) -/
def rIsX (K : PySem.W.Frag) : List V → Hp → VK → Prop := fun xs H Q => ∃ (a C dd : Addr) (fs : List (Str × V)) (c : V) (u : Value) (b : Bool), xs = [.ref a, c] ∧ ErrAt H a C dd fs ∧ ExcC K C ∧ ClsV c u ∧ PySem.W.kitOne K (.ref C) u = some b ∧ Q (.bl b) H
theorem cr_isX : CallR X (.builtin "isinstance") (rIsX X.K) := by
  intro pins s σ H xs us Q I r h
  obtain ⟨a, C, dd, fs, c, u, b, rfl, ea, T, k, e, q⟩ := h
  obtain ⟨u1, u2, rfl, r1, r2⟩ := vals2 r
  cases r1
  obtain rfl := k.eq r2
  obtain ⟨ox, od, mA, J, _⟩ := ea.inst I
  exact PySem.W.kia_one (err_kit T) I.kIn ⟨ox, od, J⟩ e (fun z => nomatch z) fun tk => ⟨.bl b, H, I.tok tk, rfl, q⟩
/-- isinstance(err, (c1, c2, ..)) -/
def rIsXT (K : PySem.W.Frag) : List V → Hp → VK → Prop := fun xs H Q => ∃ (a C dd tp : Addr) (fs : List (Str × V)) (cs : List V) (us : List Value) (b : Bool), xs = [.ref a, .ref tp] ∧ ErrAt H a C dd fs ∧ ExcC K C ∧ H tp = some (.tup cs) ∧ Paired ClsV cs us ∧ PySem.W.kitAny K (.ref C) us = some b ∧ Q (.bl b) H
theorem cr_isXT : CallR X (.builtin "isinstance") (rIsXT X.K) := by
  intro pins s σ H xs us Q I r h
  obtain ⟨a, C, dd, tp, fs, cs, ws, b, rfl, ea, T, hT, k, e, q⟩ := h
  obtain ⟨u1, u2, rfl, r1, r2⟩ := vals2 r
  cases r1
  cases (show u2 = Value.ref tp from r2)
  obtain ⟨ox, od, mA, J, _⟩ := ea.inst I
  obtain ⟨_, its, rv, ⟨oc, od', dt, sl⟩, h1, h2, n, h3⟩ := (show ObjOk X.prog X.w H s.heap tp (.tup cs) from I.hok tp _ hT)
  obtain rfl := ClsV.all k rv
  simp only at h2 h3
  subst h2 h3
  exact PySem.W.kia_tup (err_kit T) I.kIn ⟨ox, od, J⟩ h1 e (fun z => nomatch z) fun tk => ⟨.bl b, H, I.tok tk, rfl, q⟩
/-- err.f -/
def tXv (K : PySem.W.Frag) (f : Str) (te : TE) : TE := fun σ H Q => te σ H fun x H1 => ∃ (a C dd : Addr) (fs : List (Str × V)) (v : V), x = .ref a ∧ ErrAt H1 a C dd fs ∧ XfC K C ∧ PySem.W.findIn K (.ref C) f = some none ∧ fs.lookup f = some v ∧ Q v H1
theorem pe_xv {e : Expr} {te : TE} {pos : Pos} {f : Str} (he : PE X e te) (hb : attributeBase e f X.env (eval e X.env) = eval e X.env := by rfl) : PE X (.Attribute e f pos) (tXv X.K f te) := by
  refine ⟨fun pins s σ H Q I h => ?_⟩
  refine attr_of hb (thn (he.run pins s σ H _ I h) fun u s1 hh => ?_)
  obtain ⟨x, H1, I1, rx, a, C, dd, fs, v, rfl, ea, T, hno, l, q⟩ := hh
  obtain rfl : u = Value.ref a := rx
  obtain ⟨ox, od, mA, J, hns, hr, hl⟩ := ea.inst I1
  obtain ⟨u, hu, ru⟩ := RelO.some_of (v := v) (o := mA f) (by rw [← l]; exact hr f)
  exact HandSPX.exc_get I1.kIn J T.ga T.gg T.exC (PySem.W.findObj_own T.hdC hno rfl (by rw [hl, hu])) (handed_of ru) ⟨v, H1, I1.tok _, ru, q⟩
end
end Mo

/-! ### defs called where no repr is under way: then repr of lists, tuples and dicts is known to the letter -/
namespace Mo
open PySem PySem.Spec PyProof.Rows L2
/-- as FnOk, for callers under no guard -/
structure FnG (P : Program) (w : World) (K : PySem.W.Frag) (mg : Str → Option Value) (base : Heap) (CX : CXT) (k : Nat) (f : Addr) (fd : FuncData) (ps : List Str) (sp : Sp) : Prop where
  len : ∀ vs H Q E, sp vs H Q E → vs.length = ps.length
  run : ∀ (A : Around) (outer : List Env) (s : Shared) (H : Hp) (args : Args) (us : List Value) (vs : List V) (Q : VK) (E : XK), Room k A → A.guards = some [] → Env0 P w K mg base A outer s H → BindsTo s fd args (ps.zip us) → Vals vs us → sp vs H Q E →
    codeAny (model P w) A (.call (.ref f) args) (CR CX outer P w H s Q E) s
section
variable {P : Program} {w : World} {K : PySem.W.Frag} {mg : Str → Option Value} {base : Heap} {CX : CXT} {k : Nat} {f : Addr} {fd : FuncData} {ps : List Str} {sp : Sp}
theorem FnG.of (F : FnOk P w K mg base CX k f fd ps sp) : FnG P w K mg base CX k f fd ps sp := ⟨F.len, fun A o s H a us vs Q E hr _ => F.run A o s H a us vs Q E hr⟩
/-- a def by its body, its guards told -/
theorem okG_of {x qual : Str} {st : Stmt} {N : List Str} (F : Fun K x qual st f fd) (S : FnScope N ps (defScope st)) (len : ∀ vs H Q E, sp vs H Q E → vs.length = ps.length)
    (hbody : ∀ (cdv : Value) (A : Around) (outer : List Env) (s : Shared) (H : Hp) (vs : List V) (Q : VK) (E : XK), Room k (A.deeper (envOfC qual (defScope st) s.heap.objs.size f cdv)) → A.guards = some [] → sp vs H Q E →
      ∃ t, PSs (cxOf CX P w K mg base N qual (defScope st) f cdv A outer s H E) (defBody st) t ∧ t { nx := fun _ H' => Q .non H', rt := Q } (start N vs) H) : FnG P w K mg base CX (k + 1) f fd ps sp := by
  obtain ⟨oc, od, kV, doc, pm, an, cdv, ct, osl, rfl, lk, hcd⟩ := F.ex
  refine ⟨len, fun A outer s H args us vs Q E hr hg e0 hb r hsp => ?_⟩
  have kept : ∀ b o, base.get? b = some o → s.heap.get? b = some o := fun b o e => (e0.bs b o e).1
  have KX : K.In s.heap := e0.mod.kin.keeps kept
  have kinds : ∀ y ∈ ps.zip us, (defScope st).names.lookup y.1 = some .local ∨ ((defScope st).names.lookup y.1 = some .cell ∧ ((cellsFrom (s.heap.objs.size + 1) (defScope st).names []).lookup y.1).isSome = true) := fun y hy =>
    (S.par y.1 (List.of_mem_zip (a := y.1) (b := y.2) hy).1).elim .inl fun q => .inr ⟨q, PySem.W.cellsFrom_some _ _ _ (.inl q)⟩
  refine codeAny_call_function hr.depth (KX _ _ lk) rfl S.co S.gen rfl (PySem.W.codeRec_of KX hcd) (hb _ _ _ _ (wpAny_newFunctionEnv_cells S.kind kinds fun env he s1 x => ?_))
  subst he
  refine ⟨(e0.mod.nolimit.keeps kept).keeps x.toInCall.keep, codeAny_func ?_⟩
  obtain ⟨t, ht, hq⟩ := hbody cdv A outer s H vs Q E (hr.deeper _) hg hsp
  have I : Inv (cxOf CX P w K mg base N qual (defScope st) f cdv A outer s H E) [] (start N vs) H s1 := inv_start S hr.hd e0 (len _ _ _ _ hsp) r x
  refine wpAny_mono (ht.run [] s1 (start N vs) H _ I hq) (fun fl s' hs => ?_) fun e s' hs => hs
  cases fl with
  | ret u => exact hs.elim fun v z => z.elim fun σ' z => z.elim fun H' z => ⟨v, H', z.1.os, z.1.bare, z.1.base, z.1.hok, z.2.1, z.2.2⟩
  | next => exact hs.elim fun σ' z => z.elim fun H' z => ⟨V.non, H', z.1.os, z.1.bare, z.1.base, z.1.hok, rfl, z.2⟩
  | brk => exact hs.elim fun _ z => z.elim fun _ z => z.2.elim
  | cont => exact hs.elim fun _ z => z.elim fun _ z => z.2.elim
/-- a def that raises nothing -/
theorem okG {x qual : Str} {st : Stmt} {N : List Str} (F : Fun K x qual st f fd) (S : FnScope N ps (defScope st)) (len : ∀ vs H Q E, sp vs H Q E → vs.length = ps.length)
    (hbody : ∀ (cdv : Value) (A : Around) (outer : List Env) (s : Shared) (H : Hp) (vs : List V) (Q : VK) (E : XK), Room k (A.deeper (envOfC qual (defScope st) s.heap.objs.size f cdv)) → A.guards = some [] → sp vs H Q E →
      ∃ t, PSs (cxOf CX0 P w K mg base N qual (defScope st) f cdv A outer s H E).nox (defBody st) t ∧ t { nx := fun _ H' => Q .non H', rt := Q } (start N vs) H) : FnG P w K mg base CX0 (k + 1) f fd ps sp :=
  okG_of F S len fun cdv A outer s H vs Q E hr hg hsp => (hbody cdv A outer s H vs Q E hr hg hsp).elim fun t z => ⟨t, z.1.nox, z.2⟩
end
section
variable {X : Cx} {CX : CXT} {x : Str} {f : Addr} {k : Nat} {fd : FuncData} {ps : List Str} {sp : Sp} {ds : List Value} {dvs : List V} {E : XK} {e : Expr} {es : List Expr} {t : TA} {p pos : Pos}
theorem run_G {pins : List (Addr × Obj)} {σ : L2.St} {H : Hp} {s : Shared} {Q : VK} {us : List Value} {vs : List V} (F : FnG X.prog X.w X.K X.mg X.base CX k f fd ps sp) (hr : Room k X.A) (hu : X.A.guards = some []) (hb : Binds X.K fd ps ds) (hd : Vals dvs ds) (hx : Passes CX X E)
    (I : Inv X pins σ H s) (r : Vals vs us) (h : sp (vs ++ dvs) H Q E) : wpAny (model X.prog X.w) X.A (call (.ref f) us) (EP X pins σ Q) X.xe s := by
  have rr : Vals (vs ++ dvs) (us ++ ds) := r.append hd
  refine wpAny_call (codeAny_mono (F.run X.A X.stack s H ⟨us, []⟩ (us ++ ds) (vs ++ dvs) Q E hr hu I.env0 (hb s us I.kIn (rr.length.symm.trans (F.len _ _ _ _ h))) rr h) fun r s' hq => ?_)
  cases r with
  | error e => exact hx pins σ H s e s' I hq
  | ok fl =>
    cases fl with
    | ret u => exact I.after hq
    | next => exact hq.elim
    | brk => exact hq.elim
    | cont => exact hq.elim
/-- f(e, ..), f by FnG -/
theorem pe_callG (F : FnG X.prog X.w X.K X.mg X.base CX k f fd ps sp) (hr : Room k X.A) (hu : X.A.guards = some []) (hg : Gl X x) (hm : X.mg x = some (.ref f)) (hk : PySem.W.keepIn X.K (.ref f) = true) (hb : Binds X.K fd ps ds) (hd : Vals dvs ds) (hx : Passes CX X E)
    (ha : PA X (e :: es) t) (hdb : (x == ("__debug__" : Str)) = false := by decide) (he : starEach (e :: es) X.env = (false, eval e X.env) :: starEach es X.env := by rfl) (hpl : (backTo pos (starEach es X.env)).any (·.1) = false := by rfl) :
    PE X (.Call (.Name x p) (e :: es) [] pos) (tCall sp dvs E t) :=
  ⟨fun pins s σ H Q I h => wpAny_Call_Name_kw (ld_glob I hg hm (PySem.W.callWith_K (h₀ := X.base) I.ok.mod.kin hk (thn (ha.run pos pins s σ H _ I h) fun us s1 ⟨vs, H1, I1, r, q⟩ => ⟨I1.kIn, run_G F hr hu hb hd hx I1 r q⟩) he hpl) hdb)⟩
end
/-! ### repr of data -/
/-- data with the empty dict -/
def Dat (K : PySem.W.Frag) (H : Hp) (x : V) (d : PyData) : Prop := Dp K H x d ∨ ∃ a, x = .ref a ∧ H a = some (.dK []) ∧ d = .dict []
section
variable {X : Cx} {pins : List (Addr × Obj)} {σ : L2.St} {H : Hp} {s : Shared}
theorem Dat.reads {x : V} {u : Value} {d : PyData} (I : Inv X pins σ H s) (h : Dat X.K H x d) (r : RelV x u) : ∃ as, Reads s.heap u d as ∧ (d.hasDict = true → sysModules ∉ as) := by
  rcases h with h | ⟨a, rfl, ha, rfl⟩
  · obtain ⟨as, q⟩ := Dp.reads I d x u h r
    have key : ∀ {x : V} {d : PyData}, Dp X.K H x d → d.hasDict = false := by
      intro x d h
      refine Dp.rec (motive_1 := fun _ d _ => d.hasDict = false) (motive_2 := fun _ ds _ => PyData.hasDictAll ds = false) ?_ ?_ ?_ ?_ ?_ ?_ ?_ ?_ h
      · rfl
      · intro b; rfl
      · intro i; rfl
      · intro z; rfl
      · intro a xs ds _ _ ih; exact ih
      · intro a xs ds _ _ ih; exact ih
      · rfl
      · intro v vs d ds _ _ i1 i2
        show (PyData.hasDict d || PyData.hasDictAll ds) = false
        rw [i1, i2]
        rfl
    exact ⟨as, q, fun z => by rw [key h] at z; cases z⟩
  · obtain rfl : u = Value.ref a := r
    obtain ⟨_, hs, vs, kv, o, es, ep, ho, hc, hdt, hes⟩ := (show ObjOk X.prog X.w H s.heap a (.dK []) from I.hok a _ ha)
    cases kv
    have e0 : es.toList = [] := by
      obtain ⟨_, hp, _⟩ := hes
      cases q : es.toList with
      | nil => rfl
      | cons x r => rw [q] at hp; cases hp
    refine ⟨_, .dict (as := []) (bs := []) ho hc.1 hdt (by rw [e0]; exact .nil) (by rw [e0]; exact .nil), fun _ z => ?_⟩
    rw [List.append_nil, List.mem_singleton] at z
    rw [← z] at hs
    simp at hs
/-- repr(data) -/
def rReprD (K : PySem.W.Frag) : List V → Hp → VK → Prop := fun xs H Q => ∃ (x : V) (d : PyData), xs = [x] ∧ Dat K H x d ∧ d.showable = true ∧ d.depth ≤ 40 ∧ d.shown.length ≤ sizeLine ∧ Q (.str d.shown) H
theorem cr_reprD (hg : X.A.guards = some []) (hu : X.A.units + 64 < cLine) : CallR X (.builtin "repr") (rReprD X.K) := by
  intro pins s σ H xs us Q I r h
  obtain ⟨x, d, rfl, hd, hs, hdp, hz, q⟩ := h
  obtain ⟨u, rfl, ru⟩ := vals1 r
  obtain ⟨as, rd, hsm⟩ := hd.reads I ru
  cases rd with
  | none => exact PySem.P.repr_of_none ⟨.str _, H, I.tok _, ⟨_, rfl⟩, q⟩
  | bool b => exact PySem.P.repr_of_bool ⟨.str _, H, I.tok _, ⟨_, rfl⟩, q⟩
  | int i t => exact PySem.P.repr_of_int (of_decide_eq_true hs) ⟨.str _, H, I.tok _, ⟨_, rfl⟩, q⟩
  | str z t => exact PySem.P.repr_of_str ⟨.str _, H, I.tok _, ⟨_, rfl⟩, q⟩ hz
  | list a1 a2 a3 a4 => exact repr_of_reads' (.list a1 a2 a3 a4) hs hsm hg (by omega) (fun _ _ e => e) (fun h' u' tk hk => ⟨.str _, H, I.kept (t' := tk) hk, ⟨_, rfl⟩, q⟩) hz
  | tuple a1 a2 a3 a4 => exact repr_of_reads' (.tuple a1 a2 a3 a4) hs hsm hg (by omega) (fun _ _ e => e) (fun h' u' tk hk => ⟨.str _, H, I.kept (t' := tk) hk, ⟨_, rfl⟩, q⟩) hz
  | dict a1 a2 a3 a4 a5 => exact repr_of_reads' (.dict a1 a2 a3 a4 a5) hs hsm hg (by omega) (fun _ _ e => e) (fun h' u' tk hk => ⟨.str _, H, I.kept (t' := tk) hk, ⟨_, rfl⟩, q⟩) hz
end
end Mo
namespace Mo
open PySem PySem.Spec PyProof.Rows L2
/-- an own error class over ValueError with one field f, its __init__ at fI -/
structure ErrC (K : PySem.W.Frag) (C fI : Addr) (f : Str) : Prop where
  oex : OexC K C
  xf : XfC K C
  exc : ExcC K C
  no : PySem.W.findIn K (.ref C) f = some none
  te : PySem.W.exmOne K (.ref C) (.ref C) = some true
  iC : PySem.W.findIn K (.ref C) "__init__" = some (some (.ref fI))
  tI : PySem.W.typeIn K (.ref fI) = some (.type "function")
/-- its __init__: self.f = y -/
def spInit (C : Addr) (f : Str) : Sp := fun vs H Q _ => ∃ (a : Addr) (y : V), vs = [.ref a, y] ∧ H a = some (exo a C none) ∧ ∀ dx, H dx = none → dx ≠ a → Q .non (upd (upd H dx (exd dx [(f, y)])) a (exo a C (some dx)))
/-- raising it: what is left to be shown -/
theorem err_read {C : Addr} {f : Str} {H : Hp} {v : V} {Q : XK} (h : ∀ d H', H d = none → Same H H' → H' d = some (.xd [(f, v)]) → Q (.ref C) (some d) H') :
    [v].length ≤ 1000 ∧ ∀ a, H a = none → spInit C f (.ref a :: ([v] ++ [])) (upd H a (exo a C none)) (fun x H2 => x = .non ∧ ∃ (d : Addr) (fs : List (Str × V)), H2 a = some (exo a C (some d)) ∧ H2 d = some (exd d fs) ∧ H d = none ∧ Q (.ref C) (some d) (upd (del H2 a) d (.xd fs))) (fun _ _ _ => False) := by
  refine ⟨by show 1 ≤ 1000; decide, fun a na => ⟨a, v, rfl, upd_same, fun dx nd ne => ⟨rfl, dx, [(f, v)], upd_same, by rw [upd_ne ne, upd_same], ?_, ?_⟩⟩⟩
  · rw [upd_ne ne] at nd
    exact nd
  · have nd' : H dx = none := by rw [upd_ne ne] at nd; exact nd
    refine h dx _ nd' (fun b o e => ?_) upd_same
    have nb : b ≠ dx := ne_of_none e nd'
    have nba : b ≠ a := ne_of_none e na
    rw [upd_ne nb, del_ne nba, upd_ne nba, upd_ne nb, upd_ne nba]
    exact e
theorem kit1_type {K : PySem.W.Frag} {C : Addr} {T : String} {b : Bool} (h : PySem.W.subIn K (.ref C) (.type T) = some b) (hm : PySem.W.kitMeta T = true) : PySem.W.kitOne K (.ref C) (.type T) = some b := by
  show (if (Value.ref C == Value.type T) = true then some true else (if PySem.W.kitMeta T = true then PySem.W.subIn K (.ref C) (.type T) else none)) = some b
  rw [if_neg (by intro z; cases beq_iff_eq.mp z), if_pos hm]
  exact h
theorem kit1_ref {K : PySem.W.Frag} {C D : Addr} (h : PySem.W.subIn K (.ref C) (.ref D) = some false) (hs : PySem.W.subIn K (.ref C) (.ref C) = some true) (hc : PySem.W.isClsIn K D = true) (ht : PySem.W.typeIn K (.ref D) = some (.type "type")) : PySem.W.kitOne K (.ref C) (.ref D) = some false := by
  have hc2 : (PySem.W.clsIn K D).isSome = true := hc
  show (if (Value.ref C == Value.ref D) = true then some true else (if ((PySem.W.clsIn K D).isSome && PySem.W.typeIn K (.ref D) == some (.type "type")) = true then PySem.W.subIn K (.ref C) (.ref D) else none)) = some false
  rw [if_neg (by intro z; rw [← beq_iff_eq.mp z, hs] at h; cases h), if_pos (by rw [hc2, ht]; rfl)]
  exact h
end Mo

/-! ### data of any kind: None, bools, ints, texts, lists, tuples, dicts (keys ints and texts), at any depth -/
namespace Mo
open PySem PySem.Spec PyProof.Rows L2
def keyD : Key → PyData
  | .inl i => .int i
  | .inr x => .str x
mutual
inductive Dx (N : Addr → Prop) (H : Hp) : V → PyData → Prop
  | non : Dx N H .non .none
  | bl (b : Bool) : Dx N H (.bl b) (.bool b)
  | int (i : Int) : Dx N H (.int i) (.int i)
  | str (x : Str) : Dx N H (.str x) (.str x)
  | lst {a : Addr} {xs : List V} {ds : List PyData} : H a = some (.lst xs) → ¬ N a → DxAll N H xs ds → Dx N H (.ref a) (.list ds)
  | tup {a : Addr} {xs : List V} {ds : List PyData} : H a = some (.tup xs) → ¬ N a → DxAll N H xs ds → Dx N H (.ref a) (.tuple ds)
  | dct {a : Addr} {kvs : List (Key × V)} {ds : List PyData} : H a = some (.dK kvs) → ¬ N a → DxAll N H (kvs.map (·.2)) ds → Dx N H (.ref a) (.dict ((kvs.map fun kv => keyD kv.1).zip ds))
inductive DxAll (N : Addr → Prop) (H : Hp) : List V → List PyData → Prop
  | nil : DxAll N H [] []
  | cons {v : V} {vs : List V} {d : PyData} {ds : List PyData} : Dx N H v d → DxAll N H vs ds → DxAll N H (v :: vs) (d :: ds)
end
theorem DxAll.length {N : Addr → Prop} {H : Hp} : ∀ {vs : List V} {ds : List PyData}, DxAll N H vs ds → vs.length = ds.length
  | _, _, .nil => rfl
  | _, _, .cons _ t => by rw [List.length_cons, List.length_cons, DxAll.length t]
mutual
theorem Dx.same {N : Addr → Prop} {H H' : Hp} (s : Same H H') : ∀ {v : V} {d : PyData}, Dx N H v d → Dx N H' v d
  | _, _, .non => .non
  | _, _, .bl b => .bl b
  | _, _, .int i => .int i
  | _, _, .str x => .str x
  | _, _, .lst h n t => .lst (s _ _ h) n (DxAll.same s t)
  | _, _, .tup h n t => .tup (s _ _ h) n (DxAll.same s t)
  | _, _, .dct h n t => .dct (s _ _ h) n (DxAll.same s t)
theorem DxAll.same {N : Addr → Prop} {H H' : Hp} (s : Same H H') : ∀ {v : List V} {d : List PyData}, DxAll N H v d → DxAll N H' v d
  | _, _, .nil => .nil
  | _, _, .cons h t => .cons (Dx.same s h) (DxAll.same s t)
end
mutual
/-- all but what N names, which the data does not hold -/
theorem Dx.but {N : Addr → Prop} {H H' : Hp} (s : ∀ b o, ¬ N b → H b = some o → H' b = some o) : ∀ {v : V} {d : PyData}, Dx N H v d → Dx N H' v d
  | _, _, .non => .non
  | _, _, .bl b => .bl b
  | _, _, .int i => .int i
  | _, _, .str x => .str x
  | _, _, .lst h n t => .lst (s _ _ n h) n (DxAll.but s t)
  | _, _, .tup h n t => .tup (s _ _ n h) n (DxAll.but s t)
  | _, _, .dct h n t => .dct (s _ _ n h) n (DxAll.but s t)
theorem DxAll.but {N : Addr → Prop} {H H' : Hp} (s : ∀ b o, ¬ N b → H b = some o → H' b = some o) : ∀ {v : List V} {d : List PyData}, DxAll N H v d → DxAll N H' v d
  | _, _, .nil => .nil
  | _, _, .cons h t => .cons (Dx.but s h) (DxAll.but s t)
end
mutual
/-- another N that names no more of what is there -/
theorem Dx.more {N N' : Addr → Prop} {H : Hp} (s : ∀ b, H b ≠ none → N' b → N b) : ∀ {v : V} {d : PyData}, Dx N H v d → Dx N' H v d
  | _, _, .non => .non
  | _, _, .bl b => .bl b
  | _, _, .int i => .int i
  | _, _, .str x => .str x
  | _, _, .lst h n t => .lst h (fun z => n (s _ (by rw [h]; exact Option.some_ne_none _) z)) (DxAll.more s t)
  | _, _, .tup h n t => .tup h (fun z => n (s _ (by rw [h]; exact Option.some_ne_none _) z)) (DxAll.more s t)
  | _, _, .dct h n t => .dct h (fun z => n (s _ (by rw [h]; exact Option.some_ne_none _) z)) (DxAll.more s t)
theorem DxAll.more {N N' : Addr → Prop} {H : Hp} (s : ∀ b, H b ≠ none → N' b → N b) : ∀ {v : List V} {d : List PyData}, DxAll N H v d → DxAll N' H v d
  | _, _, .nil => .nil
  | _, _, .cons h t => .cons (Dx.more s h) (DxAll.more s t)
end
theorem DxAll.append {N : Addr → Prop} {H : Hp} : ∀ {vs ws : List V} {ds es : List PyData}, DxAll N H vs ds → DxAll N H ws es → DxAll N H (vs ++ ws) (ds ++ es)
  | _, _, _, _, .nil, h => h
  | _, _, _, _, .cons a t, h => .cons a (DxAll.append t h)
theorem DxAll.get {N : Addr → Prop} {H : Hp} : ∀ {vs : List V} {ds : List PyData} {i : Nat} {v : V}, DxAll N H vs ds → vs[i]? = some v → ∃ d, ds[i]? = some d ∧ Dx N H v d
  | _, _, _, _, .nil, h => by simp at h
  | _, _, 0, _, .cons a t, h => by
    obtain rfl := Option.some.inj h
    exact ⟨_, rfl, a⟩
  | _, _, i + 1, _, .cons a t, h => by
    obtain ⟨d, e, q⟩ := DxAll.get (i := i) t h
    exact ⟨d, e, q⟩
theorem DxAll.mem {N : Addr → Prop} {H : Hp} {vs : List V} {ds : List PyData} {v : V} (h : DxAll N H vs ds) (hv : v ∈ vs) : ∃ d ∈ ds, Dx N H v d := by
  obtain ⟨i, hi⟩ := List.mem_iff_getElem?.mp hv
  obtain ⟨d, e, q⟩ := h.get hi
  exact ⟨d, List.mem_of_getElem? e, q⟩
section
variable {X : Cx} {N : Addr → Prop} {pins : List (Addr × Obj)} {σ : L2.St} {H : Hp} {s : Shared}
theorem key_reads {h : Heap} {k : Key} {u : Value} (e : keyIs k u = true) : Reads h u (keyD k) [] := by
  rcases keyIs_shape e with ⟨i, t, rfl, rfl⟩ | ⟨z, t, rfl, rfl⟩
  · exact .int i t
  · exact .str z t
theorem keys_read {P : Program} {w : World} {h : Heap} : ∀ {es : List DictEntry} {vs : List (Key × Value)}, Pairs (mixKind P w) es vs → ReadsAll h (es.map (·.key)) (vs.map fun kv => keyD kv.1) []
  | _, _, .nil => .nil
  | _, _, .cons e _ t => by
    have q := ReadsAll.cons (key_reads (h := h) e) (keys_read t)
    exact q
theorem vals_eq {P : Program} {w : World} : ∀ {es : List DictEntry} {vs : List (Key × Value)}, Pairs (mixKind P w) es vs → es.map (·.val) = vs.map (·.2)
  | _, _, .nil => rfl
  | _, _, .cons _ e t => by
    rw [List.map_cons, List.map_cons, e, vals_eq t]
theorem kv_keys : ∀ {kvs : List (Key × V)} {vs : List (Key × Value)}, KV kvs vs → kvs.map (fun kv => keyD kv.1) = vs.map (fun kv => keyD kv.1)
  | _, _, .nil => rfl
  | _, _, .cons h t => by
    rw [List.map_cons, List.map_cons, h.1, kv_keys t]
theorem kv_vals : ∀ {kvs : List (Key × V)} {vs : List (Key × Value)}, KV kvs vs → Vals (kvs.map (·.2)) (vs.map (·.2))
  | _, _, .nil => .nil
  | _, _, .cons h t => .cons h.2 (kv_vals t)
mutual
theorem Dx.reads (I : Inv X pins σ H s) (hs : H sysModules = none) : ∀ {x : V} {d : PyData}, Dx N H x d → ∀ {u : Value}, RelV x u → ∃ as, Reads s.heap u d as ∧ sysModules ∉ as
  | _, _, .non, u, r => by
    obtain rfl : u = Value.none := r
    exact ⟨[], .none, by simp⟩
  | _, _, .bl b, u, r => by
    obtain rfl : u = Value.bool b := r
    exact ⟨[], .bool b, by simp⟩
  | _, _, .int i, u, r => by
    obtain ⟨t, rfl⟩ : ∃ t, u = Value.int i t := r
    exact ⟨[], .int i t, by simp⟩
  | _, _, .str x, u, r => by
    obtain ⟨t, rfl⟩ : ∃ t, u = Value.str x t := r
    exact ⟨[], .str x t, by simp⟩
  | _, _, .lst (a := a) (xs := xs) ha hN t, u, r => by
    obtain rfl : u = Value.ref a := r
    obtain ⟨_, its, n, rv, e⟩ := (show ObjOk X.prog X.w H s.heap a (.lst xs) from I.hok a _ ha)
    obtain ⟨as, q, ns⟩ := DxAll.reads I hs t rv
    refine ⟨a :: as, .list e rfl rfl (by simpa using q), fun z => ?_⟩
    rcases List.mem_cons.mp z with z | z
    · rw [z, ha] at hs
      cases hs
    · exact ns z
  | _, _, .tup (a := a) (xs := xs) ha hN t, u, r => by
    obtain rfl : u = Value.ref a := r
    obtain ⟨_, its, rv, o, e, hc, n, hd⟩ := (show ObjOk X.prog X.w H s.heap a (.tup xs) from I.hok a _ ha)
    obtain ⟨as, q, ns⟩ := DxAll.reads I hs t rv
    exact ⟨as, .tuple e hc hd (by simpa using q), ns⟩
  | _, _, .dct (a := a) (kvs := kvs) (ds := ds) ha hN t, u, r => by
    obtain rfl : u = Value.ref a := r
    obtain ⟨_, _, vs, kv, o, es, ep, ho, hc, hdt, _, hp, _⟩ := (show ObjOk X.prog X.w H s.heap a (.dK kvs) from I.hok a _ ha)
    obtain ⟨as, q, ns⟩ := DxAll.reads I hs t (kv_vals kv)
    have hl := DxAll.length t
    have hl2 : (kvs.map fun kv => keyD kv.1).length = ds.length := by rw [List.length_map, ← hl, List.length_map]
    have k1 := keys_read (h := s.heap) hp
    rw [← kv_keys kv] at k1
    refine ⟨_, .dict (as := []) (bs := as) ho hc.1 hdt ?_ ?_, fun z => ?_⟩
    · rw [List.map_fst_zip (Nat.le_of_eq hl2)]
      exact k1
    · rw [List.map_snd_zip (Nat.le_of_eq hl2.symm), vals_eq hp]
      exact q
    · rcases List.mem_append.mp z with z | z
      · rw [List.mem_singleton.mp z, ha] at hs
        cases hs
      · exact ns z
theorem DxAll.reads (I : Inv X pins σ H s) (hs : H sysModules = none) : ∀ {xs : List V} {ds : List PyData}, DxAll N H xs ds → ∀ {us : List Value}, Vals xs us → ∃ as, ReadsAll s.heap us ds as ∧ sysModules ∉ as
  | _, _, .nil, _, .nil => ⟨[], .nil, by simp⟩
  | _, _, .cons h t, _, .cons r rs => by
    obtain ⟨as, q, n⟩ := Dx.reads I hs h r
    obtain ⟨bs, q2, n2⟩ := DxAll.reads I hs t rs
    exact ⟨as ++ bs, .cons q q2, fun z => (List.mem_append.mp z).elim n n2⟩
end
/-- repr(data) -/
def rReprX : List V → Hp → VK → Prop := fun xs H Q => ∃ (N : Addr → Prop) (x : V) (d : PyData), xs = [x] ∧ Dx N H x d ∧ d.showable = true ∧ d.depth ≤ 40 ∧ d.shown.length ≤ sizeLine ∧ Q (.str d.shown) H
theorem cr_reprX (hb : ∃ mm, X.base.Ns sysModules mm) (hg : X.A.guards = some []) (hu : X.A.units + 64 < cLine) : CallR X (.builtin "repr") rReprX := by
  intro pins s σ H xs us Q I r h
  obtain ⟨N, x, d, rfl, hd, hs, hdp, hz, q⟩ := h
  obtain ⟨u, rfl, ru⟩ := vals1 r
  have h1 : H sysModules = none := by
    obtain ⟨mm, o, es, ep, e, _⟩ := hb
    exact (I.bs _ _ e).2
  obtain ⟨as, rd, hsm⟩ := Dx.reads I h1 hd ru
  cases rd with
  | none => exact PySem.P.repr_of_none ⟨.str _, H, I.tok _, ⟨_, rfl⟩, q⟩
  | bool b => exact PySem.P.repr_of_bool ⟨.str _, H, I.tok _, ⟨_, rfl⟩, q⟩
  | int i t => exact PySem.P.repr_of_int (of_decide_eq_true hs) ⟨.str _, H, I.tok _, ⟨_, rfl⟩, q⟩
  | str z t => exact PySem.P.repr_of_str ⟨.str _, H, I.tok _, ⟨_, rfl⟩, q⟩ hz
  | list a1 a2 a3 a4 => exact repr_of_reads' (.list a1 a2 a3 a4) hs (fun _ => hsm) hg (by omega) (fun _ _ e => e) (fun h' u' tk hk => ⟨.str _, H, I.kept (t' := tk) hk, ⟨_, rfl⟩, q⟩) hz
  | tuple a1 a2 a3 a4 => exact repr_of_reads' (.tuple a1 a2 a3 a4) hs (fun _ => hsm) hg (by omega) (fun _ _ e => e) (fun h' u' tk hk => ⟨.str _, H, I.kept (t' := tk) hk, ⟨_, rfl⟩, q⟩) hz
  | dict a1 a2 a3 a4 a5 => exact repr_of_reads' (.dict a1 a2 a3 a4 a5) hs (fun _ => hsm) hg (by omega) (fun _ _ e => e) (fun h' u' tk hk => ⟨.str _, H, I.kept (t' := tk) hk, ⟨_, rfl⟩, q⟩) hz
end
end Mo

/-! ### rules for data of any kind -/
namespace Mo
open PySem PySem.Spec PyProof.Rows L2
section
variable {X : Cx}
/-- a list of anything == [] -/
def rEqNil (K : PySem.W.Frag) : R2 := fun x y H Q => ∃ a b xs, x = .ref a ∧ y = .ref b ∧ SqL K H a xs ∧ SqL K H b [] ∧ Q (.bl xs.isEmpty) H
theorem op_eqNil (hu : X.A.units + 64 < cLine) : OpR X (compareOp .Eq) (rEqNil X.K) := by
  intro pins s σ H x y v u Q I rx ry h
  obtain ⟨a, b, xs, rfl, rfl, ha, hb, q⟩ := h
  cases rx
  cases ry
  obtain ⟨is, r1, p1, _⟩ := I.list ha
  obtain ⟨js, r2, p2, _⟩ := I.list hb
  cases r2
  cases r1 with
  | nil => exact SeqAt.eq_listAt (e := fun _ => true) p1.isList p2.isList rfl (by omega) (fun j h1 => absurd h1 (by simp)) ⟨.bl true, H, I, rfl, q⟩
  | cons r rs => exact SeqAt.eq_list_lengthsAt p1.isList p2.isList (by simp) (by omega) ⟨.bl false, H, I, rfl, q⟩
/-- a list of anything != [] -/
def rNeNil (K : PySem.W.Frag) : R2 := fun x y H Q => ∃ a b xs, x = .ref a ∧ y = .ref b ∧ SqL K H a xs ∧ SqL K H b [] ∧ Q (.bl (!xs.isEmpty)) H
theorem op_neNil (hu : X.A.units + 64 < cLine) : OpR X (compareOp .NotEq) (rNeNil X.K) := by
  intro pins s σ H x y v u Q I rx ry h
  obtain ⟨a, b, xs, rfl, rfl, ha, hb, q⟩ := h
  cases rx
  cases ry
  obtain ⟨is, r1, p1, _⟩ := I.list ha
  obtain ⟨js, r2, p2, _⟩ := I.list hb
  cases r2
  cases r1 with
  | nil => exact SeqAt.RcNeAt.lists (e := fun _ => true) p1.isList p2.isList rfl (by omega) (fun j h1 => absurd h1 (by simp)) X.prog X.w X.xe _ ⟨.bl false, H, I, rfl, q⟩
  | cons r rs => exact SeqAt.RcNeAt.lists_lengths p1.isList p2.isList (by simp) (by omega) X.prog X.w X.xe _ ⟨.bl true, H, I, rfl, q⟩
/-- a tuple of anything != () -/
def rNeNilT (K : PySem.W.Frag) : R2 := fun x y H Q => ∃ a b xs, x = .ref a ∧ y = .ref b ∧ SqT K H a xs ∧ SqT K H b [] ∧ Q (.bl (!xs.isEmpty)) H
theorem op_neNilT (hu : X.A.units + 64 < cLine) : OpR X (compareOp .NotEq) (rNeNilT X.K) := by
  intro pins s σ H x y v u Q I rx ry h
  obtain ⟨a, b, xs, rfl, rfl, ha, hb, q⟩ := h
  cases rx
  cases ry
  obtain ⟨is, r1, p1, _⟩ := I.tuple ha
  obtain ⟨js, r2, p2, _⟩ := I.tuple hb
  cases r2
  have k1 : s.heap.IsTuple a is.toArray := p1
  have k2 : s.heap.IsTuple b (List.nil (α := Value)).toArray := p2
  refine SeqAt.RcNeAt.tuples (e := fun _ => true) k1 k2 (by omega) (fun j _ h2 => absurd h2 (by simp)) X.prog X.w X.xe _ ?_
  cases r1 with
  | nil => exact ⟨.bl false, H, I, rfl, q⟩
  | cons r rs => exact ⟨.bl true, H, I, by simp only [List.size_toArray, List.length_cons, List.length_nil, Nat.min_zero, List.range_zero, List.all_nil, Bool.true_and]; rfl, q⟩
theorem vals_signs : ∀ (cs : List Nat) (l : List Value), l.length = cs.length → (∀ (j : Nat) (v : Value), l[j]? = some v → ∃ c u, cs[j]? = some c ∧ v = .str ⟨#[c]⟩ u) → Vals (cs.map sg) l
  | [], [], _, _ => .nil
  | [], _ :: _, h, _ => by simp at h
  | _ :: _, [], h, _ => by simp at h
  | c :: cs, v :: l, h, q => by
    obtain ⟨c', u, e1, rfl⟩ := q 0 v rfl
    obtain rfl := Option.some.inj e1
    exact .cons ⟨u, rfl⟩ (vals_signs cs l (by simpa using h) fun j v e => q (j + 1) v e)
/-- tuple(a text) -/
theorem cr_tupS (hc : X.calm = true) : CallR X (.type "tuple") (fun xs H Q => ∃ cs : List Nat, xs = [.str (tx cs)] ∧ cs.length ≤ 100000 ∧ ∀ p, H p = none → Q (.ref p) (upd H p (.tup (cs.map sg)))) := by
  intro pins s σ H xs us Q I r h
  obtain ⟨cs, rfl, hz, q⟩ := h
  obtain ⟨u, rfl, t, rfl⟩ := vals1 r
  refine call_tuple_str (I.ok.hd hc) (tx cs) t (fun h' tk acc hk hacc => ?_) (by rw [tx_size]; exact fits5 hz)
  have I1 : Inv X pins σ H { s with heap := h', toks := tk } := I.kept (t' := tk) hk
  have I2 := I1.laid (t' := tk) (o := .tup (cs.map sg)) (h' := h'.push { cls := .type "tuple", data := .seq acc }) (fun b o e => Heap.get?_push_of_some _ e) (Nat.le_refl _) ⟨by rw [List.length_map]; exact fits5 hz, acc.toList, vals_signs cs acc.toList (by have := hacc.1; rw [tx_size] at this; simpa using this) (fun j v e => by
    obtain ⟨c, u, e1, e2⟩ := hacc.2 j v (by simpa using e)
    exact ⟨c, u, tx_get.symm.trans e1, e2⟩), IsTup.new _ _⟩
  exact ⟨.ref h'.objs.size, _, I2, rfl, q _ (I1.hok.fresh (Nat.le_refl _))⟩
/-- z * n, n a small number -/
def mulS (cs : List Nat) (n : Nat) : List Nat := (List.replicate n cs).flatten
theorem foldl_cat (a : List Nat) : ∀ (n : Nat) (acc : List Nat), ((List.replicate n a.toArray).foldl (fun x y => x ++ y) acc.toArray) = (acc ++ (List.replicate n a).flatten).toArray
  | 0, acc => by simp
  | n + 1, acc => by
    rw [List.replicate_succ, List.foldl_cons, List.replicate_succ, List.flatten_cons, ← List.append_assoc, ← foldl_cat a n (acc ++ a)]
    simp
theorem mulS_eq (cs : List Nat) (n : Nat) : Txt.mul (tx cs) (n : Int) = tx (mulS cs n) := by
  unfold Txt.mul mulS
  by_cases h0 : n = 0
  · subst h0
    rfl
  · rw [if_neg (by omega)]
    by_cases h1 : ((n : Int) == 1 || (tx cs).length == 0) = true
    · rw [if_pos h1]
      rcases Bool.or_eq_true_iff.mp h1 with h | h
      · have : n = 1 := by have := beq_iff_eq.mp h; omega
        subst this
        simp
      · have : cs = [] := by
          have := beq_iff_eq.mp h
          rw [tx_len] at this
          exact List.eq_nil_of_length_eq_zero this
        subst this
        simp
    · rw [if_neg h1, show (n : Int).toNat = n from rfl]
      have q := foldl_cat cs n []
      rw [List.nil_append] at q
      exact congrArg Str.mk q
theorem op_mulS : OpR X (binaryOp .Mult) (fun x y H Q => ∃ (cs : List Nat) (n : Nat), x = .str (tx cs) ∧ y = .int n ∧ cs.length ≤ 100000 ∧ n ≤ 100 ∧ Q (.str (tx (mulS cs n))) H) := by
  intro pins s σ H x y v u Q I rx ry h
  obtain ⟨cs, n, rfl, rfl, hz, hn, q⟩ := h
  obtain ⟨t, rfl⟩ := rx
  obtain ⟨t2, rfl⟩ := ry
  have hl : cs.length * n ≤ 100000 * 100 := Nat.mul_le_mul hz hn
  refine SB.mul ⟨?_, fun h1 h2 => ?_, fun h1 h2 => ?_⟩ fun t' k => ?_
  · rw [decide_eq_false (by omega), decide_eq_false (by omega)]
    rfl
  · rw [tx_len]
    have h3 : ((cs.length : Nat) : Int) * (n : Int) ≤ 2 ^ 63 - 1 := by
      rw [← Int.natCast_mul]
      omega
    have h4 : ((cs.length : Nat) : Int) ≤ (2 ^ 63 - 1) / (n : Int) := Int.le_ediv_of_mul_le (by omega) h3
    omega
  · rw [tx_len]
    show decide (cs.length * (n : Int).toNat > sizeLine) = false
    rw [sizeLine_eq]
    exact decide_eq_false (by show ¬ cs.length * n > _; omega)
  · rw [mulS_eq]
    exact ⟨.str _, H, I.tok _, ⟨_, rfl⟩, q⟩
/-- t * n -/
def rRepG (K : PySem.W.Frag) : R2 := fun x y H Q => ∃ (l : Addr) (n : Nat) (xs : List V), x = .ref l ∧ y = .int n ∧ SqT K H l xs ∧ xs ≠ [] ∧ 2 ≤ n ∧ n ≤ 100000 ∧ xs.length * n ≤ 1000000 ∧ ∀ p, H p = none → Q (.ref p) (upd H p (.tup (List.replicate n xs).flatten))
theorem op_repG : OpR X (binaryOp .Mult) (rRepG X.K) := by
  intro pins s σ H x y v u Q I rx ry h
  obtain ⟨l, n, xs, rfl, rfl, hT, hne, h1, h2, hz, q⟩ := h
  cases rx
  obtain ⟨t, rfl⟩ := ry
  obtain ⟨its, r, ⟨ob, ho, hc, m, hd⟩, hs⟩ := I.tuple hT
  obtain ⟨cls, dd, data, sl⟩ := ob
  obtain rfl : cls = .type "tuple" := hc
  obtain rfl : data = .seq its.toArray m := hd
  have hle := r.length
  have hi : its.toArray.isEmpty = false := by
    cases r with
    | nil => exact absurd rfl hne
    | cons _ _ => rfl
  have hm : xs.length * n ≤ 10 * 100000 := hz
  have hm2 : ((its.toArray.size : Nat) : Int) * (n : Int) = ((xs.length * n : Nat) : Int) := by
    rw [List.size_toArray, ← hle]
    exact (Int.natCast_mul _ _).symm
  have fl : (List.replicate n xs).flatten.length ≤ sizeLine := by
    rw [lm_len_rep_flat, Nat.mul_comm, sizeLine_eq]
    omega
  have fl2 : (List.foldl (fun x1 x2 => x1 ++ x2) #[] (List.replicate (n : Int).toNat its.toArray)).size ≤ sizeLine := by
    rw [size_rep, List.size_toArray, lm_len_rep_flat, ← hle, Nat.mul_comm, sizeLine_eq]
    show xs.length * n ≤ _
    omega
  refine wpAny_binaryOp_repeat_ref (T := "tuple") (U := "int") (by decide) ⟨_, ho, rfl⟩ (fun s' => typeIs_int s' n t) noFill_tuple_mul F.fills_int_mul F.slot_int_rmul repeat_tuple F.slot_int_index.lookup ?_
  refine call_meets F.slot_int_rmul (typeIs_int s n t) F.entry_int_rmul (F.args_int_rmul_2 _ _) (int_rmul_tuple n t l its.toArray m dd sl) ⟨ho, rfl, ⟨_, ho, rfl⟩, ?_⟩
  refine call_meets F.slot_tuple_mul ⟨_, ho, rfl⟩ F.entry_tuple_mul (F.args_tuple_mul_2 _ _) (tuple_mulW l its.toArray m dd sl n t ?_ ?_ ?_ ?_ ?_ fl2) ⟨ho, ?_⟩
  · rw [decide_eq_false (by omega), decide_eq_false (by omega)]
    rfl
  · rw [hi, Bool.false_or]
    exact beq_eq_false_iff_ne.mpr (by omega)
  · rw [hi, Bool.or_false]
    exact decide_eq_false (by omega)
  · rw [hm2]
    omega
  · unfold Builtin.Tuple.tupleTooMany
    rw [hm2, sizeLine_eq]
    exact decide_eq_false (by omega)
  · rw [size_rep]
    exact ⟨.ref s.heap.objs.size, _, I.laid (t' := s.toks) (o := .tup (List.replicate n xs).flatten) (fun b ob q => Heap.get?_push_of_some _ q) (Nat.le_refl _) ⟨fl, _, r.rep n, IsTup.new _ _⟩, rfl, q _ (I.hok.fresh (Nat.le_refl _))⟩
/-- t * n, t of few items -/
def rRepN (K : PySem.W.Frag) : R2 := fun x y H Q => ∃ (l : Addr) (n : Nat) (xs : List V), x = .ref l ∧ y = .int n ∧ SqT K H l xs ∧ xs ≠ [] ∧ 2 ≤ n ∧ n ≤ 100000 ∧ xs.length ≤ 10 ∧ ∀ p, H p = none → Q (.ref p) (upd H p (.tup (List.replicate n xs).flatten))
theorem op_repN : OpR X (binaryOp .Mult) (rRepN X.K) := by
  intro pins s σ H x y v u Q I rx ry h
  obtain ⟨l, n, xs, h1, h2, h3, h4, h5, h6, h7, q⟩ := h
  exact op_repG pins s σ H x y v u Q I rx ry ⟨l, n, xs, h1, h2, h3, h4, h5, h6, Nat.le_trans (Nat.mul_le_mul h7 h6) (by decide), q⟩
/-! what is made anew or is the old one, read alike -/
theorem catA_any {K : PySem.W.Frag} {a b : Addr} {xs ys : List V} {H : Hp} {Q : VK} (ha : H a = some (.tup xs)) (hb : H b = some (.tup ys)) (hl : xs.length + ys.length ≤ sizeLine)
    (q : ∀ p H', Same H H' → H' p = some (.tup (xs ++ ys)) → p = a ∨ p = b ∨ H p = none → Q (.ref p) H') : rCatA K (.ref a) (.ref b) H Q := by
  refine ⟨a, b, xs, ys, rfl, rfl, SqT.of ha, SqT.of hb, hl, fun e => ?_, fun _ e => ?_, fun _ _ p np => ?_⟩
  · subst e
    exact q b H (Same.refl H) hb (.inr (.inl rfl))
  · subst e
    exact q a H (Same.refl H) (by rw [List.append_nil]; exact ha) (.inl rfl)
  · exact q p _ (same_new np) upd_same (.inr (.inr np))
theorem slA_any {K : PySem.W.Frag} {a : Addr} {xs : List V} {lo hi : Option Int} {H : Hp} {Q : VK} (ha : H a = some (.tup xs)) (q : ∀ p H', Same H H' → H' p = some (.tup (cutV xs lo hi)) → p = a ∨ H p = none → Q (.ref p) H') : rSlA K (.ref a) lo hi H Q := by
  refine ⟨a, xs, rfl, SqT.of ha, fun e => ?_, fun _ p np => q p _ (same_new np) upd_same (.inr np)⟩
  have ec : cutV xs lo hi = xs := by
    unfold cutV
    rw [e.1, e.2, List.drop_zero, Nat.sub_zero, List.take_length]
  exact q a H (Same.refl H) (by rw [ec]; exact ha) (.inl rfl)
theorem cut_to (xs : List V) (n : Nat) : cutV xs none (some (n : Int)) = xs.take n := by
  unfold cutV
  rw [HT.sIx_none, HT.sIx_nat, List.drop_zero, Nat.sub_zero, List.take_eq_take_iff]
  omega
theorem cut_from (xs : List V) (n : Nat) : cutV xs (some (n : Int)) none = xs.drop n := by
  unfold cutV
  rw [HT.sIx_none, HT.sIx_nat]
  have e : xs.drop (min n xs.length) = xs.drop n := by
    by_cases h : n ≤ xs.length
    · rw [Nat.min_eq_left h]
    · rw [List.drop_of_length_le (by omega), List.drop_of_length_le (by omega)]
  rw [e]
  exact List.take_of_length_le (by rw [List.length_drop]; omega)
end
end Mo

/-! ### lists and tuples of flat values compared -/
namespace Mo
open PySem PySem.Spec PyProof.Rows L2
def eqLs : List V → List V → Bool
  | [], [] => true
  | x :: xs, y :: ys => eqV x y && eqLs xs ys
  | _, _ => false
theorem eqLs_range : ∀ (xs ys : List V), xs.length = ys.length → (List.range xs.length).all (fun j => eqV (xs.getD j .non) (ys.getD j .non)) = eqLs xs ys
  | [], [], _ => rfl
  | x :: xs, y :: ys, h => by
    rw [List.length_cons, List.range_succ_eq_map, List.all_cons, List.all_map]
    show (eqV x y && (List.range xs.length).all (fun j => eqV (xs.getD j .non) (ys.getD j .non))) = _
    rw [eqLs_range xs ys (by simpa using h)]
    rfl
  | [], _ :: _, h => by simp at h
  | _ :: _, [], h => by simp at h
theorem eqLs_len : ∀ {xs ys : List V}, eqLs xs ys = true → xs.length = ys.length
  | [], [], _ => rfl
  | x :: xs, y :: ys, h => by
    rw [List.length_cons, List.length_cons, eqLs_len (Bool.and_eq_true_iff.mp h).2]
  | [], _ :: _, h => by cases h
  | _ :: _, [], h => by cases h
theorem eqV_self : ∀ {x : V}, flatV x = true → eqV x x = true := by
  intro x h
  cases x <;> first | (exact absurd (show false = true from h) Bool.false_ne_true) | rfl | (simp [eqV])
theorem eqLs_self : ∀ {xs : List V}, xs.all flatV = true → eqLs xs xs = true
  | [], _ => rfl
  | x :: xs, h => by
    rw [List.all_cons, Bool.and_eq_true] at h
    show (eqV x x && eqLs xs xs) = true
    rw [eqV_self h.1, eqLs_self h.2]
    rfl
theorem flat_ints (ns : List Int) : (ns.map V.int).all flatV = true := by
  rw [List.all_map, List.all_eq_true]
  exact fun _ _ => rfl
theorem flat_strs' (zs : List Str) : (zs.map V.str).all flatV = true := by
  rw [List.all_map, List.all_eq_true]
  exact fun _ _ => rfl
theorem eqLs_ints : ∀ (a b : List Int), eqLs (a.map V.int) (b.map V.int) = decide (a = b)
  | [], [] => by simp [eqLs]
  | x :: a, y :: b => by
    show (x == y && eqLs (a.map V.int) (b.map V.int)) = _
    rw [eqLs_ints a b, Bool.eq_iff_iff]
    simp
  | [], _ :: _ => by simp [eqLs]
  | _ :: _, [] => by simp [eqLs]
theorem eqLs_strs : ∀ (a b : List Str), eqLs (a.map V.str) (b.map V.str) = decide (a = b)
  | [], [] => by simp [eqLs]
  | x :: a, y :: b => by
    show (x == y && eqLs (a.map V.str) (b.map V.str)) = _
    rw [eqLs_strs a b, Bool.eq_iff_iff]
    simp
  | [], _ :: _ => by simp [eqLs]
  | _ :: _, [] => by simp [eqLs]
section
variable {X : Cx}
theorem eqAts {A : Around} {s : Shared} {xs ys : List V} {us ws : List Value} (r1 : Vals xs us) (r2 : Vals ys ws) (f1 : xs.all flatV = true) (f2 : ys.all flatV = true) :
    ∀ j (h1 : j < us.toArray.size) (h2 : j < ws.toArray.size), SeqAt.EqAt A s us.toArray[j] ws.toArray[j] (eqV (xs.getD j .non) (ys.getD j .non)) := by
  intro j h1 h2
  have l1 := r1.length
  have l2 := r2.length
  rw [List.size_toArray] at h1 h2
  have e1 : xs[j]? = some (xs.getD j .non) := by
    rw [List.getD_eq_getElem?_getD, List.getElem?_eq_getElem (by omega)]
    rfl
  have e2 : ys[j]? = some (ys.getD j .non) := by
    rw [List.getD_eq_getElem?_getD, List.getElem?_eq_getElem (by omega)]
    rfl
  obtain ⟨u, hu, ru⟩ := r1.get e1
  obtain ⟨v, hv, rv⟩ := r2.get e2
  have q1 : us.toArray[j] = u := by
    rw [List.getElem?_eq_getElem h1] at hu
    exact Option.some.inj hu
  have q2 : ws.toArray[j] = v := by
    rw [List.getElem?_eq_getElem h2] at hv
    exact Option.some.inj hv
  rw [q1, q2]
  exact eqAt_V ru rv (List.all_eq_true.mp f1 _ (List.mem_of_getElem? e1)) (List.all_eq_true.mp f2 _ (List.mem_of_getElem? e2))
def FlatAt (K : PySem.W.Frag) (H : Hp) (x y : V) (xs ys : List V) : Prop := ∃ a b, x = .ref a ∧ y = .ref b ∧ xs.all flatV = true ∧ ys.all flatV = true ∧ ((SqL K H a xs ∧ SqL K H b ys) ∨ (SqT K H a xs ∧ SqT K H b ys))
def rEqFl (K : PySem.W.Frag) : R2 := fun x y H Q => ∃ xs ys, FlatAt K H x y xs ys ∧ Q (.bl (eqLs xs ys)) H
def rNeFl (K : PySem.W.Frag) : R2 := fun x y H Q => ∃ xs ys, FlatAt K H x y xs ys ∧ Q (.bl (!eqLs xs ys)) H
theorem tups_eq {xs ys : List V} : ((List.range (min xs.length ys.length)).all (fun j => eqV (xs.getD j .non) (ys.getD j .non)) && xs.length == ys.length) = eqLs xs ys := by
  by_cases h : xs.length = ys.length
  · rw [← h, Nat.min_self, eqLs_range xs ys h]
    simp
  · have : eqLs xs ys = false := by
      cases e : eqLs xs ys with
      | false => rfl
      | true => exact absurd (eqLs_len e) h
    rw [this, beq_eq_false_iff_ne.mpr h, Bool.and_false]
theorem op_eqFl (hu : X.A.units + 64 < cLine) : OpR X (compareOp .Eq) (rEqFl X.K) := by
  intro pins s σ H x y v u Q I rx ry h
  obtain ⟨xs, ys, ⟨a, b, rfl, rfl, f1, f2, h⟩, q⟩ := h
  cases rx
  cases ry
  rcases h with ⟨ha, hb⟩ | ⟨ha, hb⟩
  · obtain ⟨is, r1, p1, _⟩ := I.list ha
    obtain ⟨js, r2, p2, _⟩ := I.list hb
    have l1 := r1.length
    have l2 := r2.length
    by_cases hl : xs.length = ys.length
    · refine SeqAt.eq_listAt (e := fun j => eqV (xs.getD j .non) (ys.getD j .non)) p1.isList p2.isList (by simp only [List.size_toArray]; omega) (by omega) (eqAts r1 r2 f1 f2) ?_
      rw [List.size_toArray, ← l1, eqLs_range xs ys hl]
      exact ⟨.bl _, H, I, rfl, q⟩
    · have e : eqLs xs ys = false := by
        cases e : eqLs xs ys with
        | false => rfl
        | true => exact absurd (eqLs_len e) hl
      rw [e] at q
      exact SeqAt.eq_list_lengthsAt p1.isList p2.isList (by simp only [List.size_toArray]; rw [bne_iff_ne]; omega) (by omega) ⟨.bl _, H, I, rfl, q⟩
  · obtain ⟨is, r1, p1, _⟩ := I.tuple ha
    obtain ⟨js, r2, p2, _⟩ := I.tuple hb
    have l1 := r1.length
    have l2 := r2.length
    have k1 : s.heap.IsTuple a is.toArray := p1
    have k2 : s.heap.IsTuple b js.toArray := p2
    refine SeqAt.eq_tupleAt (e := fun j => eqV (xs.getD j .non) (ys.getD j .non)) k1 k2 (by omega) (eqAts r1 r2 f1 f2) ?_
    rw [List.size_toArray, List.size_toArray, ← l1, ← l2, tups_eq]
    exact ⟨.bl _, H, I, rfl, q⟩
theorem op_neFl (hu : X.A.units + 64 < cLine) : OpR X (compareOp .NotEq) (rNeFl X.K) := by
  intro pins s σ H x y v u Q I rx ry h
  obtain ⟨xs, ys, ⟨a, b, rfl, rfl, f1, f2, h⟩, q⟩ := h
  cases rx
  cases ry
  rcases h with ⟨ha, hb⟩ | ⟨ha, hb⟩
  · obtain ⟨is, r1, p1, _⟩ := I.list ha
    obtain ⟨js, r2, p2, _⟩ := I.list hb
    have l1 := r1.length
    have l2 := r2.length
    by_cases hl : xs.length = ys.length
    · refine SeqAt.RcNeAt.lists (e := fun j => eqV (xs.getD j .non) (ys.getD j .non)) p1.isList p2.isList (by simp only [List.size_toArray]; omega) (by omega) (eqAts r1 r2 f1 f2) X.prog X.w X.xe _ ?_
      rw [List.size_toArray, ← l1, eqLs_range xs ys hl]
      exact ⟨.bl _, H, I, rfl, q⟩
    · have e : eqLs xs ys = false := by
        cases e : eqLs xs ys with
        | false => rfl
        | true => exact absurd (eqLs_len e) hl
      rw [e] at q
      exact SeqAt.RcNeAt.lists_lengths p1.isList p2.isList (by simp only [List.size_toArray]; rw [bne_iff_ne]; omega) (by omega) X.prog X.w X.xe _ ⟨.bl _, H, I, rfl, q⟩
  · obtain ⟨is, r1, p1, _⟩ := I.tuple ha
    obtain ⟨js, r2, p2, _⟩ := I.tuple hb
    have l1 := r1.length
    have l2 := r2.length
    have k1 : s.heap.IsTuple a is.toArray := p1
    have k2 : s.heap.IsTuple b js.toArray := p2
    refine SeqAt.RcNeAt.tuples (e := fun j => eqV (xs.getD j .non) (ys.getD j .non)) k1 k2 (by omega) (eqAts r1 r2 f1 f2) X.prog X.w X.xe _ ?_
    rw [List.size_toArray, List.size_toArray, ← l1, ← l2, tups_eq]
    exact ⟨.bl _, H, I, rfl, q⟩
end
end Mo

namespace Mo
open PySem PySem.Spec PyProof.Rows L2
section
variable {X : Cx}
/-- x //= y of ints, a divisor that is small -/
theorem ip_fdiv : PIp X .FloorDiv (fun x y H Q => ∃ i j, x = .int i ∧ y = .int j ∧ (j ≠ 0 ∧ j.natAbs < 1073741824) ∧ Q (.int (i.fdiv j)) H) := by
  intro pins s σ H x y v u Q I r1 r2 h
  obtain ⟨i, j, e1, e2, hc, q⟩ := h
  subst e1; subst e2
  obtain ⟨t, rfl⟩ := r1
  obtain ⟨t', rfl⟩ := r2
  exact ifloordiv_int hc.1 ⟨.int _, H, I.tok _, ⟨_, rfl⟩, q⟩ (.inl (PyProof.noPylong_small hc.2))
/-- x += y of texts -/
theorem ip_addS : PIp X .Add (fun x y H Q => ∃ i j, x = .str i ∧ y = .str j ∧ i.length + j.length ≤ sizeLine ∧ Q (.str (i ++ j)) H) :=
  fun pins s σ H x y u v Q I rx ry h => iop_add_str pins s σ H x y u v Q I rx ry h
end
end Mo

/-! ### sorted(set(a text)) -/
namespace Mo
open PySem PySem.Spec PyProof.Rows L2 PySem.Froz
section
variable {P : Program} {w : World} {A : Around} {E : Value → Shared → Prop} {s : Shared}
/-- the set of the signs of cs, as a walk of it wants it -/
def SgAt (P : Program) (w : World) (h : Heap) (a : Addr) (cs : List Nat) : Prop := ∃ (D : SD) (l : List Str), h.get? a = some (sObj "set" D) ∧ TxOk P w D l ∧ (∀ k : Str, k ∈ l ↔ ∃ c ∈ cs, k = ⟨#[c]⟩) ∧ l.length = (met cs).length ∧
  Ris D.2.2.place.toList ∧ (w.params.followText "set-order" = true ∨ D.2.2.led = true)
theorem SgAt.keep {h h' : Heap} {a : Addr} {cs : List Nat} (x : SgAt P w h a cs) (k : ∀ o, h.get? a = some o → h'.get? a = some o) : SgAt P w h' a cs := by
  obtain ⟨D, l, ho, r⟩ := x
  exact ⟨D, l, k _ ho, r⟩
theorem sg_fresh {h : Heap} {a : Addr} (e : h.get? a = some { cls := .type "set", dict := none, data := .set #[] 0 (.fresh 0 0 (!w.params.followText "set-order")) }) : SgAt P w h a [] := by
  refine ⟨(#[], 0, .fresh 0 0 (!w.params.followText "set-order")), [], e, TxOk.nil (by rfl), fun k => by simp, rfl, List.Pairwise.nil, ?_⟩
  show _ ∨ (!w.params.followText "set-order") = true
  cases w.params.followText "set-order"
  · exact .inr rfl
  · exact .inl rfl
theorem tailTx_ris {ep : Nat} {es : Array (Int × Value)} {t : SetTable} {b : Bool} (r : Ris t.place.toList) : Ris (tailTx ep es t b).2.2.place.toList := by
  unfold tailTx
  split
  · exact relayAll_ris _ _ _
  · exact r
theorem tailTx_led {ep : Nat} {es : Array (Int × Value)} {t : SetTable} {b : Bool} : (tailTx ep es t b).2.2.led = t.led := by
  unfold tailTx
  split
  · exact relayAll_led _ _ _
  · rfl
theorem addTx_ris {h : Int} {v : Value} {D : SD} (r : Ris D.2.2.place.toList) : Ris (addTx h v D).2.2.place.toList := by
  have q := layNew_ris D.2.2 D.1 h v r
  unfold addTx
  refine tailTx_ris ?_
  split <;> exact q
theorem addTx_led {h : Int} {v : Value} {D : SD} : (addTx h v D).2.2.led = D.2.2.led := by
  have q := layNew_led D.2.2 D.1 h v
  unfold addTx
  refine tailTx_led.trans ?_
  split <;> exact q
/-- a text that the set has is added: nothing is changed -/
theorem add_old {a : Addr} {T : String} {D : SD} {l : List Str} {k : Str} {u : Tok} {Q : Bool → Shared → Prop} (ho : s.heap.get? a = some (sObj T D)) (F : TxOk P w D l) (hk : k ∈ l) (hb : l.length < scanBound)
    (h : Q false s) : wpAny (model P w) A (setAddHashed a (.str k u) (hashStr w k)) Q E s := by
  obtain ⟨es, ep, t⟩ := D
  have hs : es.size = l.length := F.sz
  obtain ⟨e, he, q⟩ := (F.mem k).mp hk
  unfold setAddHashed setAddHashedIn
  refine wpAny_holding (wpAny_bind (wpAny_setState_of ho rfl F.fit ?_))
  dsimp only
  rw [byScan_of rfl (by rw [hs]; exact hb) F.el]
  simp only [↓reduceIte]
  unfold setAddByScan
  refine wpAny_bind (wpAny_bind (wpAny_rule (wpAny_bind (wpAny_setScan_of (knd := strKind P w) (k := k) (is_str k u) ho rfl F.fit F.el ?_))))
  cases hf : List.findIdx? (fun e => (strKind P w).is k e.2) es.toList with
  | none =>
    have z := List.findIdx?_eq_none_iff.mp hf e he
    rw [q] at z
    cases z
  | some j =>
    dsimp only
    exact wpAny_pure (wpAny_pure h)
theorem sg_add {a : Addr} {cs : List Nat} {c : Nat} {u : Tok} {Q : Bool → Shared → Prop} (x : SgAt P w s.heap a cs) (room : cs.length + 1 < scanBound)
    (h : ∀ b h', Heap.SameBut a s.heap h' → SgAt P w h' a (cs ++ [c]) → Q b { s with heap := h' }) : wpAny (model P w) A (setAddHashed a (.str ⟨#[c]⟩ u) ((strKind P w).hash ⟨#[c]⟩)) Q E s := by
  obtain ⟨D, l, ho, F, hm, hl, hr, hd⟩ := x
  have hml := met_length_le cs
  by_cases hc : c ∈ cs
  · refine add_old ho F ((hm _).mpr ⟨c, hc, rfl⟩) (by omega) ?_
    refine h false s.heap (Heap.SameBut.refl a s.heap) ⟨D, l, ho, F, fun k => ?_, ?_, hr, hd⟩
    · rw [hm k]
      refine ⟨fun ⟨d, z, e⟩ => ⟨d, List.mem_append_left _ z, e⟩, fun ⟨d, z, e⟩ => ?_⟩
      rcases List.mem_append.mp z with z | z
      · exact ⟨d, z, e⟩
      · exact ⟨c, hc, by rw [e, List.mem_singleton.mp z]⟩
    · rw [met_snoc, metStep, if_pos (mem_met.mpr hc)]
      exact hl
  · have hk : (⟨#[c]⟩ : Str) ∉ l := fun z => by
      obtain ⟨d, hd, e⟩ := (hm _).mp z
      rw [sign_inj e] at hc
      exact hc hd
    refine add_x ho F hk (by omega) ?_
    refine h true _ (Heap.SameBut.update s.heap a _) ⟨_, _, get_upd _ ho rfl, add_ok u F, fun k => ?_, ?_, addTx_ris hr, hd.imp id fun z => addTx_led.trans z⟩
    · rw [List.mem_cons, hm k]
      refine ⟨fun z => z.elim (fun e => ⟨c, List.mem_append_right _ (List.mem_singleton.mpr rfl), e⟩) fun ⟨d, z, e⟩ => ⟨d, List.mem_append_left _ z, e⟩, fun ⟨d, z, e⟩ => ?_⟩
      rcases List.mem_append.mp z with z | z
      · exact .inr ⟨d, z, e⟩
      · exact .inl (by rw [e, List.mem_singleton.mp z])
    · rw [met_snoc, metStep, if_neg (fun z => hc (mem_met.mp z)), List.length_append, List.length_cons, hl]
      rfl
theorem sgs_loop {I : Addr} {fp wr : List Addr} {G : Array GenState → Array GenState → Prop} {n : Nat} {Pv : Nat → Value → Prop} {St : Nat → Shared → Prop} {R : Result → Shared → Prop}
    (W : WalksS P w A.in1 I fp wr G n Pv St) (D : Addr) (hD : D ∉ fp) (cs : List Nat) (hn : n = cs.length) (hb : cs.length + 1 < scanBound)
    (hval : ∀ i v, Pv i v → ∃ c t, cs[i]? = some c ∧ v = .str ⟨#[c]⟩ t) :
    ∀ (k i : Nat) (s : Shared), n - i = k → i ≤ n → St i s → SgAt P w s.heap D (cs.take i) →
      (∀ s', Moved (D :: wr) G s s' → SgAt P w s'.heap D cs → R (.ok (.ret .none)) s') →
      codeAny (model P w) A (.builtin "set.update.loop" ⟨[.ref D, .ref I], []⟩) R s := by
  have hDw : D ∉ wr := fun h => hD (W.sub _ h)
  have up : ∀ b ∈ wr, b ∈ D :: wr := fun b q => List.mem_cons_of_mem _ q
  intro k
  induction k with
  | zero =>
    intro i s hk hi hst hS hR
    obtain rfl : i = n := by omega
    refine codeAny_builtin PyProof.Rows.F.entry_set_update_loop (by
      rw [Around.under_plainId PyProof.Rows.F.plain_set_update_loop _]
      show wpAny _ A.in1 (pyNext (.ref I) >>= _) _ _ s
      refine wpAny_bind (W.done s _ _ hst fun s' hm => wpAny_pure (hR s' (hm.mono up) ?_))
      rw [List.take_of_length_le (by omega)] at hS
      exact hS.keep fun o ho => hm.heap D o hDw ho)
  | succ k ih =>
    intro i s hk hi hst hS hR
    have hlt : i < n := by omega
    refine codeAny_builtin PyProof.Rows.F.entry_set_update_loop (by
      rw [Around.under_plainId PyProof.Rows.F.plain_set_update_loop _]
      show wpAny _ A.in1 (pyNext (.ref I) >>= _) _ _ s
      refine wpAny_bind (W.item i s _ _ hlt hst fun v s' hP hst' hm => ?_)
      obtain ⟨c, t, hc, rfl⟩ := hval i v hP
      have hS' : SgAt P w s'.heap D (cs.take i) := hS.keep fun o ho => hm.heap D o hDw ho
      show wpAny _ A.in1 (holding [Value.str ⟨#[c]⟩ t] (setAdd D (.str ⟨#[c]⟩ t)) >>= _) _ _ s'
      refine wpAny_bind (wpAny_holding (by
        unfold setAdd
        refine wpAny_holding (wpAny_bind ((strKind P w).pyHash (k := ⟨#[c]⟩) (is_str _ _) ?_))
        have e3 : cs.take (i + 1) = cs.take i ++ [c] := by
          rw [List.take_add_one, hc]
          rfl
        have room : (cs.take i).length + 1 < scanBound := by
          rw [List.length_take]
          omega
        refine sg_add (s := { s' with toks := s'.toks + 1 }) hS' room fun b h' hsb hS2 => ?_
        have hS3 : SgAt P w h' D (cs.take (i + 1)) := by
          rw [e3]
          exact hS2
        refine wpAny_pure ⟨plainId_quiet PyProof.Rows.F.plain_set_update_loop _, ih (i + 1) _ (by omega) hlt (W.frame _ s' _ _ hst' (Nat.le_succ _) fun b q o e => ?_) hS3 fun s2 hm2 hS4 => ?_⟩
        · rw [hsb.2 b (fun z : b = D => hD (by rw [← z]; exact q))]
          exact e
        · refine hR s2 (Moved.trans W.gtrans ((hm.mono up).then_heap (Nat.le_succ _) fun b o q e => ?_) hm2) hS4
          rw [hsb.2 b (fun z : b = D => q (by rw [z]; exact List.mem_cons_self))]
          exact e)))

set_option maxHeartbeats 8000000 in
/-- set(a text) -/
theorem call_set_sgs {z : Str} {t : Tok} {Q : Value → Shared → Prop} (hh : A.handled = none) (hb : z.cps.size + 1 < scanBound)
    (h : ∀ (h' : Heap) (tk : Nat), SgAt P w h' s.heap.objs.size z.cps.toList → (∀ b o, s.heap.get? b = some o → h'.get? b = some o) → Q (.ref s.heap.objs.size) { s with heap := h', toks := tk }) :
    wpAny (model P w) A (call (.type "set") [.str z t]) Q E s := by
  obtain ⟨c, tl, hmro⟩ := PySem.F.called_set.mro
  have hmade := PySem.F.called_set.made; have hsub := PySem.F.called_set.sub
  refine wpAny_call (codeAny_of_tree (by
    show wpAny _ _ (callAny (.type "set") _) _ _ _
    refine wpAny_pure ⟨Code.quiet_builtin _ (by decide +kernel), codeAny_builtin PySem.F.entry_type_call ?_⟩
    rw [Around.under_plain (weight_type_call_type "set" [.str z t] []) rfl]
    have h1 := PySem.F.called_set.notType; have h2 := PySem.F.called_set.canCreate
    have hct := PySem.F.typeCall_set_1 (.str z t)
    repeat (any_goals (first | assumption | wp_step))
    refine codeAny_mono (code_set_led1 (.str z t) (E := E) (Q₁ := fun obj s₁ => obj = .ref s.heap.objs.size ∧ s₁ = { s with heap := s.heap.push { cls := .type "set", dict := none, data := .set #[] 0 (.fresh 0 0 (!w.params.followText "set-order")) } }) ⟨rfl, rfl⟩) fun r s₁ hr => ?_
    cases r with
    | error e => exact hr
    | ok fl =>
      cases fl with
      | ret obj =>
        obtain ⟨rfl, rfl⟩ := hr
        generalize hNew : ({ cls := .type "set", dict := none, data := .set #[] 0 (.fresh 0 0 (!w.params.followText "set-order")) } : Obj) = nw
        have hfr : ∀ (h : Heap) (a : Addr), h.get? a = some nw → SgAt P w h a [] := by
          intro h a e
          rw [← hNew] at e
          exact sg_fresh e
        have hcls : nw.cls = .type "set" := by rw [← hNew]
        have hnf : nw.isFreed = false := by rw [← hNew]; rfl
        have hS : (s.heap.push nw).get? s.heap.objs.size = some nw := Heap.get?_push_size _ hnf
        have hT : Shared.TypeIs { s with heap := s.heap.push nw } (.ref s.heap.objs.size) "set" := ⟨_, hS, hcls⟩
        have hli := PySem.F.called_set.init.lookup; have hbi := PySem.F.called_set.init.bind (.ref s.heap.objs.size)
        repeat (any_goals (first | assumption | wp_step))
        refine codeAny_mono (codeAny_call_builtin (R := wants (fun r s₂ => r = .none ∧ ∃ h' tk, s₂ = { s with heap := h', toks := tk } ∧ SgAt P w h' s.heap.objs.size z.cps.toList ∧
          (∀ b o, s.heap.get? b = some o → h'.get? b = some o)) E) PySem.F.called_set.init.plain PySem.F.entry_set_init (check_set_init_1 hT ?_)) fun r₂ s₂ hr₂ => ?_
        · subst hNew
          have n1 : isSubtype (.type "str") (.type "set") = pure false := by rw [isSubtype_type]; kernel_rfl
          have n2 : isSubtype (.type "str") (.type "frozenset") = pure false := by rw [isSubtype_type]; kernel_rfl
          have n3 : (Value.type "str" == Value.type "dict") = false := by decide
          unfold Builtin.«set.__init__» noKeywords Builtin.Frozenset.updateFrom
          generalize hPI : pyIter = PI
          wp_walk
          subst hPI
          have hh3 : A.in1.in1.in1.handled = none := by simp [hh]
          generalize hNew : ({ cls := .type "set", data := .set #[] 0 (.fresh 0 0 (!w.params.followText "set-order")) } : Obj) = nw at *
          have hz1 : (s.heap.push nw).objs.size = s.heap.objs.size + 1 := Heap.size_push ..
          have fin : ∀ (ty : String) (wk : Walks P w A.in1.in1.in1 (s.heap.push nw).objs.size [(s.heap.push nw).objs.size] [(s.heap.push nw).objs.size] z.cps.size (SignAt z) (fun i h => h.IsStrIter (s.heap.push nw).objs.size ty z t i))
              (Rk : Result → Shared → Prop), (∀ h' tk, SgAt P w h' s.heap.objs.size z.cps.toList → (∀ b o, s.heap.get? b = some o → h'.get? b = some o) → Rk (.ok (.ret .none)) { s with heap := h', toks := tk }) →
              codeAny (model P w) A.in1.in1 (.builtin "set.update.loop" ⟨[.ref s.heap.objs.size, .ref (s.heap.push nw).objs.size], []⟩) Rk
                { s with heap := (s.heap.push nw).push { cls := .type ty, data := .fields #[.str z t, .int 0 0] } } := by
            intro ty wk Rk hR
            refine sgs_loop (wk.toS) s.heap.objs.size (by rw [hz1]; simp) z.cps.toList (by simp) (by simpa using hb) (fun i v hv => ?_) (z.cps.size - 0) 0 _ (by omega) (Nat.zero_le _) ⟨_, Heap.get?_push_size _ rfl, rfl, rfl⟩ ?_ ?_
            · obtain ⟨c, u, hc, rfl⟩ := hv
              exact ⟨c, u, by rw [Array.getElem?_toList]; exact hc, rfl⟩
            · exact hfr _ _ (Heap.get?_push_of_some _ hS)
            · intro s' hm hS'
              obtain ⟨h', g', d', tk', os'⟩ := s'
              obtain rfl : g' = s.gens := hm.gens
              obtain rfl : d' = s.drawn := hm.drawn
              obtain rfl : os' = s.os := hm.os
              refine hR h' tk' hS' fun b o e => ?_
              have hb0 : b < s.heap.objs.size := Heap.lt_size e
              have n1 : b ∉ s.heap.objs.size :: [(s.heap.push nw).objs.size] := by
                rw [hz1]
                intro q
                rcases List.mem_cons.mp q with q | q
                · exact Nat.ne_of_lt hb0 q
                · exact Nat.ne_of_lt (Nat.lt_succ_of_lt hb0) (List.mem_singleton.mp q)
              exact hm.heap b o n1 (Heap.get?_push_of_some _ (Heap.get?_push_of_some _ e))
          cases ha : z.cps.all (· < 128)
          · refine wpAny_pyIter_wide ha (wpAny_bind (wpAny_runValue (fin _ (Walks.strWide hh3 _ z t) _ fun h' tk hS2 hk2 => wpAny_pure ?_)))
            exact wpAny_pure ⟨rfl, h', tk, rfl, hS2, hk2⟩
          · refine wpAny_pyIter_ascii ha (wpAny_bind (wpAny_runValue (fin _ (Walks.strAscii hh3 _ z t) _ fun h' tk hS2 hk2 => wpAny_pure ?_)))
            exact wpAny_pure ⟨rfl, h', tk, rfl, hS2, hk2⟩
        · cases r₂ with
          | error e => exact hr₂
          | ok fl₂ =>
            cases fl₂ with
            | ret r =>
              obtain ⟨rfl, h', tk, rfl, hS', hk'⟩ := hr₂
              repeat (any_goals (first | assumption | wp_step))
              exact h _ _ hS' hk'
            | _ => exact hr₂.elim
      | _ => exact hr.elim))
end
end Mo

/-! ### sets of tuples whose elements are of any kind of key: adding one -/
namespace Mo
open PySem PySem.Spec PyProof.Rows L2 PySem.Froz
/-- the probe after c steps -/
def stop (t : SetTable) (h : Int) (c : Nat) : SetTable.Probe := nth t.mask (runAt t.mask (SetTable.bits h % (t.mask + 1)) (SetTable.bits h)) c
theorem stop_more (t : SetTable) (h : Int) (c q : Nat) : nth t.mask (stop t h c) q = stop t h (c + q) := (nth_add t.mask c _ q).symm
theorem dummy_nth (m : Nat) : ∀ (n : Nat) {p : SetTable.Probe}, p.dummy = none → (nth m p n).dummy = none
  | 0, _, h => h
  | n + 1, p, h => dummy_nth m n (p := adv m p) (by unfold adv; split <;> exact h)
/-- what stands in a list is what its places hold, in any order -/
theorem all_places {α : Type} : ∀ L : List α, (List.range L.length).filterMap (fun i => L[i]?) = L
  | [] => rfl
  | a :: l => by
    rw [List.length_cons, List.range_succ_eq_map, List.filterMap_cons, List.filterMap_map]
    exact congrArg (a :: ·) (all_places l)
theorem reorder {α : Type} (f : α → Int × Value) {L : List α} {es : Array (Int × Value)} {ord : Array Nat} (he : es.toList = L.map f) (hp : ord.toList.Perm (List.range L.length)) :
    ∃ L2 : List α, (ord.filterMap (es[·]?)).toList = L2.map f ∧ L2.Perm L ∧ (L2.map fun p => (f p).1) = ord.toList.map fun i => (es.map (·.1)).getD i 0 := by
  have get : ∀ i, es[i]? = (L[i]?).map f := fun i => by rw [← Array.getElem?_toList, he, List.getElem?_map]
  refine ⟨ord.toList.filterMap fun i => L[i]?, ?_, ?_, ?_⟩
  · rw [Array.toList_filterMap, List.map_filterMap]
    exact congrArg (fun g => List.filterMap g ord.toList) (funext get)
  · have q := hp.filterMap fun i => L[i]?
    rw [all_places] at q
    exact q
  · have low : ∀ l : List Nat, (∀ i ∈ l, i < L.length) → ((l.filterMap fun i => L[i]?).map fun p => (f p).1) = l.map fun i => (es.map (·.1)).getD i 0 := by
      intro l
      induction l with
      | nil => exact fun _ => rfl
      | cons i l ih =>
        intro hl
        have e := List.getElem?_eq_getElem (hl i List.mem_cons_self)
        have e2 : (es.map (·.1)).getD i 0 = (f (L[i]'(hl i List.mem_cons_self))).1 := by
          rw [Array.getD_eq_getD_getElem?, Array.getElem?_map, get, e]
          rfl
        rw [List.filterMap_cons_some e, List.map_cons, List.map_cons, ih fun j hj => hl j (List.mem_cons_of_mem _ hj), e2]
    exact low _ fun i hi => List.mem_range.mp (hp.mem_iff.mp hi)
section
variable {P : Program} {w : World} {A : Around} {E : Value → Shared → Prop} {s : Shared} {κ : Type} [DecidableEq κ] {knd : KeyKind P w κ}
/-- what a search and an adding ask of the elements -/
structure Mild (knd : KeyKind P w κ) : Prop where
  cls : ∀ (k : κ) (v : Value) (n : Nat), knd.is k v = true → ofAClassStatement n v = pure false
  hby : ∀ (k : κ) (v : Value), knd.is k v = true → ∃ b : Bool, ∀ n, hashByValue n v = pure b
theorem str_mild : Mild (strKind P w) where
  cls := fun k v n h => by
    obtain ⟨t, rfl⟩ := Value.isStrOf_shape (x := k) (v := v) h
    cases n <;> rfl
  hby := fun k v h => by
    obtain ⟨t, rfl⟩ := Value.isStrOf_shape (x := k) (v := v) h
    exact ⟨false, fun n => by cases n <;> rfl⟩
theorem each_key {ks : List κ} {vs : List Value} (h : ItemsAre knd ks vs) : ∀ v ∈ vs, ∃ k, knd.is k v = true := by
  induction h with
  | nil => exact fun v hv => nomatch hv
  | cons h1 _ ih =>
    intro v hv
    rcases List.mem_cons.mp hv with e | hv
    · exact ⟨_, by rw [e]; exact h1⟩
    · exact ih v hv
theorem mild_cls (M : Mild knd) {ks : List κ} {b : Addr} {Q : Bool → Shared → Prop} (hk : IsTupleKey knd s.heap ks b) (q : Q false s) : wpAny (model P w) A (ofAClassStatement 8 (.ref b)) Q E s := by
  have ty := hk.typeIs
  obtain ⟨o, its, n, ho, _, hd, hi⟩ := hk
  unfold ofAClassStatement
  refine wpAny_bind (wpAny_typeOf ty ?_)
  dsimp only
  simp only [show (("tuple" : String) == "tuple") = true by decide, if_true, Bool.not_true, Bool.false_eq_true, if_false]
  try refine wpAny_bind (wpAny_pure ?_)
  try simp only [Bool.not_true, Bool.false_eq_true, if_false]
  show wpAny _ _ (seqItems? (.ref b) >>= _) _ _ s
  refine wpAny_bind (wpAny_seqItems ho hd (wpAny_bind ?_))
  show wpAny _ _ (forIn its _ _) _ _ s
  rw [← Array.forIn_toList]
  refine wpAny_forIn_list _ (fun left r s' => (r.1 = none ∧ s' = s) ∧ ∀ v ∈ left, ∃ k, knd.is k v = true) _ ?_ ?_ _ _ ⟨⟨rfl, rfl⟩, each_key hi⟩
  · rintro v left r s' ⟨⟨hr, rfl⟩, all⟩
    obtain ⟨k, hk⟩ := all v List.mem_cons_self
    rw [M.cls k v _ hk]
    refine wpAny_bind (wpAny_pure ?_)
    simp only [Bool.false_eq_true, if_false]
    exact wpAny_pure ⟨⟨rfl, rfl⟩, fun u hu => all u (List.mem_cons_of_mem _ hu)⟩
  · rintro ⟨r1, r2⟩ s' ⟨⟨hr, rfl⟩, _⟩
    simp only at hr
    subst hr
    exact wpAny_pure q
theorem mild_hby (M : Mild knd) {ks : List κ} {b : Addr} {Q : Bool → Shared → Prop} (hk : IsTupleKey knd s.heap ks b) (q : ∀ r, Q r s) : wpAny (model P w) A (hashByValue 8 (.ref b)) Q E s := by
  have ty := hk.typeIs
  obtain ⟨o, its, n, ho, _, hd, hi⟩ := hk
  unfold hashByValue
  refine wpAny_bind (wpAny_specialOf ty F.slot_tuple_hash.lookup ?_)
  show wpAny _ _ (seqItems? (.ref b) >>= _) _ _ s
  refine wpAny_bind (wpAny_seqItems ho hd (wpAny_bind ?_))
  show wpAny _ _ (forIn its _ _) _ _ s
  rw [← Array.forIn_toList]
  refine wpAny_forIn_list _ (fun left r s' => (r.1 = none ∧ s' = s) ∧ ∀ v ∈ left, ∃ k, knd.is k v = true) _ ?_ ?_ _ _ ⟨⟨rfl, rfl⟩, each_key hi⟩
  · rintro v left r s' ⟨⟨hr, rfl⟩, all⟩
    obtain ⟨k, hk⟩ := all v List.mem_cons_self
    obtain ⟨z, hz⟩ := M.hby k v hk
    rw [hz]
    refine wpAny_bind (wpAny_pure ?_)
    cases z with
    | true =>
      simp only [Bool.not_true, Bool.false_eq_true, if_false]
      exact wpAny_pure ⟨⟨rfl, rfl⟩, fun u hu => all u (List.mem_cons_of_mem _ hu)⟩
    | false =>
      simp only [Bool.not_false, if_true]
      exact wpAny_pure (wpAny_pure (q false))
  · rintro ⟨r1, r2⟩ s' ⟨⟨hr, rfl⟩, _⟩
    simp only at hr
    subst hr
    exact wpAny_pure (q true)
/-- a search among such tuples shows nothing of the table -/
theorem mild_seen (M : Mild knd) {ks : List κ} {b : Addr} {Q : Bool → Shared → Prop} (hk : IsTupleKey knd s.heap ks b) {ys : List Value} (hy : ∀ y ∈ ys, ∃ ls c, y = Value.ref c ∧ IsTupleKey knd s.heap ls c) (q : Q false s) :
    wpAny (model P w) A (searchCouldBeSeen (.ref b) ys) Q E s := by
  unfold searchCouldBeSeen
  refine wpAny_bind (wpAny_forIn_list _ (fun left r s' => (r.1 = none ∧ s' = s) ∧ ∀ y ∈ left, ∃ ls c, y = Value.ref c ∧ IsTupleKey knd s.heap ls c) _ ?_ ?_ _ _ ⟨⟨rfl, rfl⟩, hy⟩)
  · rintro v left r s' ⟨⟨hr, rfl⟩, all⟩
    obtain ⟨ls, c, rfl, hc⟩ := all v List.mem_cons_self
    have on : ∀ y ∈ left, ∃ ls c, y = Value.ref c ∧ IsTupleKey knd s'.heap ls c := fun u hu => all u (List.mem_cons_of_mem _ hu)
    dsimp only
    by_cases hv : (b == c || (carriedByValue (.ref b) && carriedByValue (.ref c))) = true
    · exact wp_if_pos hv (wpAny_pure ⟨⟨rfl, rfl⟩, on⟩)
    · refine wp_if_neg hv (wpAny_bind (wpAny_eqIsQuiet_tuple hk ?_))
      simp only [Bool.not_true, Bool.false_eq_true, if_false]
      refine wpAny_bind (wpAny_eqIsQuiet_tuple hc ?_)
      simp only [Bool.not_true, Bool.false_eq_true, if_false]
      refine wpAny_bind (mild_cls M hk ?_)
      simp only [Bool.false_eq_true, if_false]
      refine wpAny_bind (mild_cls M hc ?_)
      simp only [Bool.false_eq_true, if_false]
      exact wpAny_pure ⟨⟨rfl, rfl⟩, on⟩
  · rintro ⟨r1, r2⟩ s' ⟨⟨hr, rfl⟩, _⟩
    simp only at hr
    subst hr
    exact wpAny_pure q
/-- a set of such tuples: where they stand and their keys, in the set's own order -/
structure Tps (knd : KeyKind P w κ) (h : Heap) (a : Addr) (L : List (Addr × List κ)) (es : Array (Int × Value)) (ep : Nat) (t : SetTable) : Prop where
  obj : ∃ o, h.get? a = some o ∧ o.ExactSet ∧ o.data = .set es ep t
  ent : es.toList = L.map fun p => (tupleKeyHash knd p.2, Value.ref p.1)
  tab : TabOk t (L.map fun p => tupleKeyHash knd p.2)
  one : (L.map (·.2)).Nodup
  here : ∀ p ∈ L, IsTupleKey knd h p.2 p.1
  led : w.params.followText "set-order" = true ∨ t.led = true
  low : L.length * 5 < t.mask * 3
  few : L.length < 64
variable {a : Addr} {L : List (Addr × List κ)} {es : Array (Int × Value)} {ep : Nat} {t : SetTable}
theorem ent_size {f : Addr × List κ → Int × Value} (h : es.toList = L.map f) : es.size = L.length := by
  rw [← Array.length_toList, h, List.length_map]
theorem tab_fits {hs : List Int} (T : TabOk t hs) (e : es.size = hs.length) (l : hs.length ≤ t.mask) : t.fits es.size = true := by
  have h1 := T.sz
  unfold SetTable.fits SetTable.fill
  rw [T.dm, Bool.and_eq_true, beq_iff_eq, decide_eq_true_eq]
  refine ⟨by omega, ?_⟩
  show t.place.size + 0 ≤ t.mask
  omega
theorem Tps.fits (R : Tps knd s.heap a L es ep t) : t.fits es.size = true := by
  have := R.low
  exact tab_fits R.tab (by rw [ent_size R.ent, List.length_map]) (by rw [List.length_map]; omega)
theorem Tps.at (R : Tps knd s.heap a L es ep t) {i : Nat} {p : Addr × List κ} (h : L[i]? = some p) : es[i]? = some (tupleKeyHash knd p.2, Value.ref p.1) := by
  rw [← Array.getElem?_toList, R.ent, List.getElem?_map, h]
  rfl
theorem Tps.stays (R : Tps knd s.heap a L es ep t) : ¬ t.gaveWay = true := by
  unfold SetTable.gaveWay
  rw [mask_odd R.tab.mok]
  decide
/-- the search for a key, from the c-th step on: the first empty place is that of step K -/
theorem seek (M : Mild knd) (R : Tps knd s.heap a L es ep t) {x : Addr} {k : List κ} (hx : IsTupleKey knd s.heap k x) (hu : A.units < cLine) {K : Nat} (kf : K < 10 * SetTable.turns t.mask)
    (ke : (stop t (tupleKeyHash knd k) K).j ∉ t.place.toList) (kb : ∀ c, c < K → (stop t (tupleKeyHash knd k) c).j ∈ t.place.toList) {Q : SetFound → Shared → Prop}
    (yes : k ∈ L.map (·.2) → Q (.there none) s) (no : k ∉ L.map (·.2) → Q (.free (stop t (tupleKeyHash knd k) K).j false) s) (f : Nat) :
    ∀ (c : Nat) (b : Option SetTable.Probe), b.getD (t.probeStart (tupleKeyHash knd k)) = stop t (tupleKeyHash knd k) c → c ≤ K → K < c + f →
      (∀ (i : Nat) p, L[i]? = some p → p.2 = k → ∃ c', c ≤ c' ∧ c' < K ∧ t.place.toList[i]? = some (stop t (tupleKeyHash knd k) c').j) →
      wpAny (model P w) A (setSearchFrom a (.ref x) (tupleKeyHash knd k) true f b) Q E s := by
  induction f with
  | zero => intro c b _ h1 h2; omega
  | succ f ih =>
    intro c b hb hc hf left
    obtain ⟨o, ho, hex, hd⟩ := R.obj
    have hash : ∀ (i : Nat) p, L[i]? = some p → (es[i]?.map (·.1)).getD 0 = tupleKeyHash knd p.2 := fun i p hp => by
      rw [R.at hp]
      rfl
    have live : ∀ {i : Nat} {j : Nat}, t.place.toList[i]? = some j → t.slot j = .live i := fun z => slot_live R.tab.ris z
    have spec := go_spec t R.tab.ris R.tab.dm (fun i => (es[i]?.map (·.1)).getD 0) (tupleKeyHash knd k) (10 * SetTable.turns t.mask) (K - c) (stop t (tupleKeyHash knd k) c) (dummy_nth _ _ rfl) (by omega)
      (fun q hq => by rw [stop_more]; exact kb _ (by omega)) (by rw [stop_more, show c + (K - c) = K by omega]; exact ke)
    simp only [stop_more] at spec
    rw [setSearchFrom_succ]
    refine wpAny_bind (wpAny_setState_of ho hd R.fits ?_)
    dsimp only
    refine wp_if_neg R.stays ?_
    try refine wpAny_bind (wpAny_pure ?_)
    rw [hb]
    rcases spec with ⟨q, i, hq, hi, he, first, pr⟩ | ⟨first, pr⟩
    · have pr : t.probe (fun i => (es[i]?.map (·.1)).getD 0) (tupleKeyHash knd k) (stop t (tupleKeyHash knd k) c) = some (.candidate (stop t (tupleKeyHash knd k) (c + q)).j i (stop t (tupleKeyHash knd k) (c + (q + 1)))) := pr
      rw [pr]
      dsimp only
      have hiL : i < L.length := by
        have h1 := (List.getElem?_eq_some_iff.mp hi).1
        have h2 := R.tab.sz
        rw [List.length_map] at h2
        rw [Array.length_toList] at h1
        omega
      obtain ⟨p, hp⟩ : ∃ p, L[i]? = some p := ⟨_, List.getElem?_eq_getElem hiL⟩
      have pin := List.mem_of_getElem? hp
      have on : wpAny (model P w) A (searchRest a (.ref x) (tupleKeyHash knd k) true f es t (stop t (tupleKeyHash knd k) (c + q)).j i (stop t (tupleKeyHash knd k) (c + (q + 1)))) Q E s := by
        unfold searchRest
        rw [R.at hp]
        refine wpAny_bind (wpAny_holding (wpAny_eqBool_tuple hu (R.here p pin) hx (wpAny_bind (wpAny_setState_of ho hd R.fits ?_))))
        dsimp only
        by_cases same : p.2 = k
        · exact wp_if_pos (by simp [same]) (wpAny_pure (yes (List.mem_map.mpr ⟨p, pin, same⟩)))
        refine wp_if_neg (by simp [same]) ?_
        try refine wpAny_bind (wpAny_pure ?_)
        rw [sameMem]
        dsimp only
        simp only [if_true, live hi, R.at hp]
        refine wpAny_bind (wpAny_isSame_ref_self (wpAny_bind (wpAny_pure ?_)))
        simp only [if_true]
        refine wp_if_neg (by simp [same]) (ih (c + (q + 1)) _ rfl (by omega) (by omega) fun i2 p2 h2 e2 => ?_)
        obtain ⟨c', l1, l2, l3⟩ := left i2 p2 h2 e2
        refine ⟨c', ?_, l2, l3⟩
        rcases Nat.lt_trichotomy c' (c + q) with z | z | z
        · refine absurd ((hash i2 p2 h2).trans (congrArg (tupleKeyHash knd) e2)) (first (c' - c) i2 (by omega) ?_)
          rw [show c + (c' - c) = c' by omega]
          exact l3
        · rw [z] at l3
          have u := (live hi).symm.trans (live l3)
          injection u with u
          rw [← u, hp] at h2
          exact absurd ((congrArg Prod.snd (Option.some.inj h2)).trans e2) same
        · omega
      by_cases hl : t.led = true
      · refine wp_if_neg (by simp [hl]) ?_
        try refine wpAny_bind (wpAny_pure ?_)
        exact on
      · refine wp_if_pos (by simp [hl]) (wpAny_bind (mild_seen M hx (fun y hy => ?_) ?_))
        · obtain ⟨e, e1, e2⟩ := List.mem_map.mp hy
          have e3 : e ∈ es.toList := by
            have : e ∈ es ∧ e.1 = tupleKeyHash knd k := by simpa using e1
            simpa using this.1
          rw [R.ent] at e3
          obtain ⟨p2, m2, rfl⟩ := List.mem_map.mp e3
          exact ⟨p2.2, p2.1, e2.symm, R.here p2 m2⟩
        · refine wp_if_neg (by decide) ?_
          try refine wpAny_bind (wpAny_pure ?_)
          exact on
    · rw [show c + (K - c) = K by omega] at pr
      have pr : t.probe (fun i => (es[i]?.map (·.1)).getD 0) (tupleKeyHash knd k) (stop t (tupleKeyHash knd k) c) = some (.empty (stop t (tupleKeyHash knd k) K).j none) := pr
      rw [pr]
      refine wpAny_pure (no fun hm => ?_)
      obtain ⟨p2, m2, e2⟩ := List.mem_map.mp hm
      obtain ⟨i2, h2⟩ := List.getElem?_of_mem m2
      obtain ⟨c', l1, l2, l3⟩ := left i2 p2 h2 e2
      refine first (c' - c) i2 (by omega) ?_ ((hash i2 p2 h2).trans (congrArg (tupleKeyHash knd) e2))
      rw [show c + (c' - c) = c' by omega]
      exact l3
/-- the search, as adding asks for it -/
theorem seek_all (M : Mild knd) (R : Tps knd s.heap a L es ep t) {x : Addr} {k : List κ} (hx : IsTupleKey knd s.heap k x) (hu : A.units < cLine) {Q : SetFound → Shared → Prop}
    (yes : k ∈ L.map (·.2) → Q (.there none) s)
    (no : ∀ K, k ∉ L.map (·.2) → way t.mask (tupleKeyHash knd k) K ∉ t.place.toList → (∀ c, c < K → way t.mask (tupleKeyHash knd k) c ∈ t.place.toList) → Q (.free (way t.mask (tupleKeyHash knd k) K) false) s) :
    wpAny (model P w) A (setSearch a (.ref x) (tupleKeyHash knd k) true) Q E s := by
  have low := R.low
  obtain ⟨K, kf, ke, kb⟩ := R.tab.first (by rw [List.length_map]; omega) (tupleKeyHash knd k)
  have big : 10 * SetTable.turns t.mask ≤ 1420 := by
    unfold SetTable.turns
    rcases R.tab.mok with e | e | e <;> omega
  unfold setSearch
  refine seek M R hx hu kf ke kb yes (fun z => no K z ke kb) 100000 0 none rfl (Nat.zero_le _) (by omega) fun i p hp e => ?_
  have hi : i < t.place.toList.length := by
    have h1 := (List.getElem?_eq_some_iff.mp hp).1
    have h2 := R.tab.sz
    rw [List.length_map] at h2
    rw [Array.length_toList]
    omega
  obtain ⟨c, c1, c2⟩ := R.tab.before ke (show (L.map fun p => tupleKeyHash knd p.2)[i]? = some (tupleKeyHash knd k) by rw [List.getElem?_map, hp, ← e]; rfl) (List.getElem?_eq_getElem hi)
  exact ⟨c, Nat.zero_le _, c1, by rw [List.getElem?_eq_getElem hi]; exact congrArg some c2.symm⟩
end
end Mo

/-! ### sets of tuples whose elements are of any kind of key: adding -/
namespace Mo
open PySem PySem.Spec PyProof.Rows L2 PySem.Froz
section
variable {P : Program} {w : World} {A : Around} {E : Value → Shared → Prop} {s : Shared} {κ : Type} [DecidableEq κ] {knd : KeyKind P w κ}
variable {a : Addr} {L : List (Addr × List κ)} {es : Array (Int × Value)} {ep : Nat} {t : SetTable}
/-- a tuple stays where another object is written -/
theorem key_but {h h' : Heap} {ks : List κ} {a b : Addr} {o : Obj} (x : IsTupleKey knd h ks b) (ho : h.get? a = some o) (hd : o.data = .set es ep t) (sb : Heap.SameBut a h h') : IsTupleKey knd h' ks b := by
  obtain ⟨o2, its, n, g, c, d, i⟩ := x
  have ne : b ≠ a := fun z => by
    rw [z, ho] at g
    rw [← Option.some.inj g, hd] at d
    cases d
  exact ⟨o2, its, n, (sb.2 b ne).trans g, c, d, i⟩
theorem key_kept {h h' : Heap} {ks : List κ} {b : Addr} (x : IsTupleKey knd h ks b) (k : ∀ c o, h.get? c = some o → h'.get? c = some o) : IsTupleKey knd h' ks b := by
  obtain ⟨o, its, n, g, r⟩ := x
  exact ⟨o, its, n, k _ _ g, r⟩
theorem Tps.kept {h h' : Heap} (R : Tps knd h a L es ep t) (k : ∀ o, h.get? a = some o → h'.get? a = some o) (hp : ∀ p ∈ L, IsTupleKey knd h' p.2 p.1) : Tps knd h' a L es ep t := by
  obtain ⟨⟨o, ho, r⟩, r1, r2, r3, _, r5, r6, r7⟩ := R
  exact ⟨⟨o, k _ ho, r⟩, r1, r2, r3, hp, r5, r6, r7⟩
/-- the table laid anew -/
theorem lay_anew {o : Obj} (ho : s.heap.get? a = some o) (hex : o.ExactSet) (hd : o.data = .set es ep t) (he : es.toList = L.map fun p => (tupleKeyHash knd p.2, Value.ref p.1)) (T : TabOk t (L.map fun p => tupleKeyHash knd p.2)) (hle : L.length ≤ t.mask)
    (one : (L.map (·.2)).Nodup) (here : ∀ p ∈ L, IsTupleKey knd s.heap p.2 p.1) (led : w.params.followText "set-order" = true ∨ t.led = true) (few : L.length < 64) {wanted m : Nat}
    (hw : SetTable.sizeAbove wanted - 1 = m) (hm : MaskOk m) (hs : SetTable.sizeAbove wanted ≤ 128) (low : L.length * 5 < m * 3) {Q : Unit → Shared → Prop}
    (q : ∀ h' L' es' ep' t', Heap.SameBut a s.heap h' → Tps knd h' a L' es' ep' t' → L'.Perm L → Q () { s with heap := h' }) : wpAny (model P w) A (setRelay a wanted) Q E s := by
  have n1 : es.size = L.length := ent_size he
  obtain ⟨t', ord, e, hp, T', e1, e2, _, _⟩ := relaid_ok t (hs := es.map (·.1)) hw hm (by rw [Array.size_map, n1]; omega)
  rw [Array.size_map, n1] at hp
  obtain ⟨L2, r1, r2, r3⟩ := reorder _ he hp
  rw [← r3] at T'
  have n2 : (ord.filterMap (es[·]?)).size = L.length := by rw [ent_size r1, r2.length_eq]
  rw [setRelay_eq]
  refine wpAny_bind (wpAny_setState_of ho hd (tab_fits T (by rw [n1, List.length_map]) (by rw [List.length_map]; exact hle)) ?_)
  dsimp only
  refine wp_if_neg (by rw [sizeLine_eq]; omega) ?_
  try refine wpAny_bind (wpAny_pure ?_)
  rw [e]
  dsimp only
  refine wpAny_bind (wp_if_neg (by rw [n2, n1]; simp) ?_)
  try refine wpAny_bind (wpAny_pure ?_)
  refine wpAny_pure (wpAny_storeSet_of ho hd ?_ (by rw [n2, sizeLine_eq]; omega))
  have sb : Heap.SameBut a s.heap (s.heap.update a (Obj.putSet (ord.filterMap (es[·]?)) t')) := Heap.SameBut.update ..
  exact q _ L2 _ (ep + 1) t' sb ⟨⟨_, store_at ho hd, ⟨hex.1, hex.2.1, hex.2.2⟩, rfl⟩, r1, T', (r2.map (·.2)).nodup_iff.mpr one, fun p h => key_but (here p (r2.mem_iff.mp h)) ho hd sb, by rw [e2]; exact led, by rw [r2.length_eq, e1]; exact low,
    by rw [r2.length_eq]; exact few⟩ r2
/-- one is added -/
theorem put_one (M : Mild knd) (R : Tps knd s.heap a L es ep t) {x : Addr} {k : List κ} (hx : IsTupleKey knd s.heap k x) (hu : A.units < cLine) (few : L.length + 1 < 64) {Q : Bool → Shared → Prop}
    (q : ∀ b h' L' es' ep' t', Heap.SameBut a s.heap h' → Tps knd h' a L' es' ep' t' → (k ∈ L.map (·.2) → L' = L) → (k ∉ L.map (·.2) → L'.Perm ((x, k) :: L)) → Q b { s with heap := h' }) :
    wpAny (model P w) A (setAddHashed a (.ref x) (tupleKeyHash knd k)) Q E s := by
  obtain ⟨o, ho, hex, hd⟩ := R.obj
  have n1 : es.size = L.length := ent_size R.ent
  have low := R.low
  unfold setAddHashed
  refine wpAny_holding ?_
  rw [show (100000 : Nat) = 99999 + 1 from rfl, setAddHashedIn_succ]
  refine wpAny_bind (wpAny_setState_of ho hd R.fits ?_)
  dsimp only
  refine wp_if_neg (by simp [byScan, Value.scannable]) ?_
  try refine wpAny_bind (wpAny_pure ?_)
  refine wpAny_bind (seek_all M R hx hu (fun old => wpAny_pure (q false s.heap L es ep t (Heap.SameBut.refl a s.heap) R (fun _ => rfl) fun z => absurd old z)) fun K new ke kb => ?_)
  dsimp only
  refine wpAny_bind (wpAny_setState_of ho hd R.fits ?_)
  dsimp only
  obtain ⟨p1, p2, p3, p4, p5, p6, p7, p8, p9⟩ := R.tab.put ke kb
  clear p6 p7 p8
  generalize t.put (way t.mask (tupleKeyHash knd k) K) = put at p1 p3 p4 p5 p9 ⊢
  obtain ⟨u, v⟩ := put
  dsimp only at p1 p3 p4 p5 p9 ⊢
  subst p1
  -- whether its hash is by value
  have ask : ∀ {F : Bool → Sem Bool}, (∀ r, wpAny (model P w) A (F r) Q E s) → wpAny (model P w) A (if u.plain = true then hashByValue 8 (.ref x) >>= F else pure true >>= F) Q E s := fun {F} hF => by
    by_cases z : u.plain = true
    · exact wp_if_pos z (wpAny_bind (mild_hby M hx hF))
    · exact wp_if_neg z (wpAny_bind (wpAny_pure (hF true)))
  refine ask fun r => ?_
  have same : ∃ u2 : SetTable, (if r = true then u else { u with plain := false }) = u2 ∧ TabOk u2 ((L.map fun p => tupleKeyHash knd p.2).take (SetTable.below t.place (way t.mask (tupleKeyHash knd k) K)) ++ tupleKeyHash knd k :: (L.map fun p => tupleKeyHash knd p.2).drop (SetTable.below t.place (way t.mask (tupleKeyHash knd k) K))) ∧
      u2.mask = u.mask ∧ u2.led = u.led ∧ u2.tooFull = u.tooFull := by
    cases r with
    | true => exact ⟨_, rfl, p3, rfl, rfl, rfl⟩
    | false => exact ⟨_, rfl, ⟨p3.ris, p3.dm, p3.sz, p3.mok, p3.bd, p3.reach⟩, rfl, rfl, rfl⟩
  obtain ⟨u2, e2, T2, m2, l2, f2⟩ := same
  rw [e2]
  generalize hpl : SetTable.below t.place (way t.mask (tupleKeyHash knd k) K) = pl at p2 T2 ⊢
  obtain ⟨L1, hL1⟩ : ∃ L1, L1 = L.take pl ++ (x, k) :: L.drop pl := ⟨_, rfl⟩
  have pm : L1.Perm ((x, k) :: L) := by
    rw [hL1]
    exact put_perm L pl (x, k)
  have hs1 : (L.map fun p => tupleKeyHash knd p.2).take pl ++ tupleKeyHash knd k :: (L.map fun p => tupleKeyHash knd p.2).drop pl = L1.map fun p => tupleKeyHash knd p.2 := by
    rw [hL1, List.map_append, List.map_cons, List.map_take, List.map_drop]
  rw [hs1] at T2
  have he1 : (SetTable.insertAt es pl (tupleKeyHash knd k, Value.ref x)).toList = L1.map fun p => (tupleKeyHash knd p.2, Value.ref p.1) := by
    rw [SetTable.toList_insertAt, R.ent, hL1, List.map_append, List.map_cons, List.map_take, List.map_drop]
  have one1 : (L1.map (·.2)).Nodup := by
    refine (pm.map (·.2)).nodup_iff.mpr ?_
    rw [List.map_cons]
    exact List.nodup_cons.mpr ⟨new, R.one⟩
  have len1 : L1.length = L.length + 1 := pm.length_eq
  have n2 := ent_size he1
  clear hL1 hs1 p3
  generalize SetTable.insertAt es pl (tupleKeyHash knd k, Value.ref x) = es1 at he1 n2 ⊢
  refine wpAny_bind (wpAny_storeSet_of ho hd ?_ (by rw [n2, len1, sizeLine_eq]; omega))
  have sb : Heap.SameBut a s.heap (s.heap.update a (Obj.putSet es1 u2)) := Heap.SameBut.update ..
  have ho1 := store_at (es' := es1) (t' := u2) ho hd
  have here1 : ∀ p ∈ L1, IsTupleKey knd (s.heap.update a (Obj.putSet es1 u2)) p.2 p.1 := fun p hp => by
    rcases List.mem_cons.mp (pm.mem_iff.mp hp) with e | hp
    · rw [e]
      exact key_but hx ho hd sb
    · exact key_but (R.here p hp) ho hd sb
  generalize s.heap.update a (Obj.putSet es1 u2) = h1 at sb ho1 here1 ⊢
  have led1 : w.params.followText "set-order" = true ∨ u2.led = true := by
    rw [l2, p5]
    exact R.led
  have full : u2.tooFull = decide ((L.length + 1) * 5 ≥ t.mask * 3) := by
    rw [f2]
    unfold SetTable.tooFull
    rw [p9, p4, List.length_map]
  by_cases hf : u2.tooFull = true
  · have hf2 := hf
    rw [full, decide_eq_true_eq] at hf2
    have at_ : (t.mask = 7 ∧ L.length = 4) ∨ (t.mask = 31 ∧ L.length = 18) := by
      rcases R.tab.mok with e | e | e
      · left; rw [e] at hf2 low; exact ⟨e, by omega⟩
      · right; rw [e] at hf2 low; exact ⟨e, by omega⟩
      · rw [e] at hf2; omega
    have grown : ∃ m, SetTable.sizeAbove (SetTable.grown (es.size + 1)) - 1 = m ∧ MaskOk m ∧ SetTable.sizeAbove (SetTable.grown (es.size + 1)) ≤ 128 ∧ L1.length * 5 < m * 3 := by
      rw [n1, len1]
      rcases at_ with ⟨_, e⟩ | ⟨_, e⟩
      · rw [e, size_20]
        exact ⟨31, rfl, .inr (.inl rfl), by decide, by decide⟩
      · rw [e, size_76]
        exact ⟨127, rfl, .inr (.inr rfl), by decide, by decide⟩
    obtain ⟨m, g1, g2, g3, g4⟩ := grown
    refine wp_if_pos (by simp [hf]) (wpAny_bind ?_)
    refine lay_anew (s := { s with heap := h1 }) ho1 ⟨hex.1, hex.2.1, hex.2.2⟩ rfl he1 T2 (by rw [m2, p4, len1]; omega) one1 here1 led1 (by omega) g1 g2 g3 g4 fun h2 L2 es2 ep2 t2 sb2 R2 pm2 => ?_
    exact wpAny_pure (q true h2 L2 es2 ep2 t2 (sb.trans sb2) R2 (fun z => absurd z new) fun _ => pm2.trans pm)
  · refine wp_if_neg (by simp [hf]) ?_
    try refine wpAny_bind (wpAny_pure ?_)
    refine wpAny_pure (q true h1 L1 es1 (ep + 1) u2 sb ⟨⟨_, ho1, ⟨hex.1, hex.2.1, hex.2.2⟩, rfl⟩, he1, T2, one1, here1, led1, ?_, by omega⟩ (fun z => absurd z new) fun _ => pm)
    rw [full, decide_eq_true_eq] at hf
    rw [m2, p4, len1]
    omega
end
end Mo

/-! ### set(a list of tuples whose elements are of any kind of key) -/
namespace Mo
open PySem PySem.Spec PyProof.Rows L2 PySem.Froz
/-- L: of each key of ks one -/
structure Has {κ : Type} (ks L : List (Addr × List κ)) : Prop where
  of : ∀ p ∈ L, p ∈ ks
  all : ∀ p ∈ ks, p.2 ∈ L.map (·.2)
  len : L.length ≤ ks.length
theorem Has.nil {κ : Type} : Has (κ := κ) [] [] := ⟨fun _ h => h, fun _ h => absurd h List.not_mem_nil, Nat.le_refl _⟩
theorem Has.old {κ : Type} {ks L : List (Addr × List κ)} {x : Addr × List κ} (h : Has ks L) (e : x.2 ∈ L.map (·.2)) : Has (ks ++ [x]) L := by
  refine ⟨fun p hp => List.mem_append_left _ (h.of p hp), fun p hp => ?_, by rw [List.length_append]; exact Nat.le_trans h.len (Nat.le_add_right _ _)⟩
  rcases List.mem_append.mp hp with z | z
  · exact h.all p z
  · rw [List.mem_singleton.mp z]
    exact e
theorem Has.new {κ : Type} {ks L L2 : List (Addr × List κ)} {x : Addr × List κ} (h : Has ks L) (pm : L2.Perm (x :: L)) : Has (ks ++ [x]) L2 := by
  refine ⟨fun p hp => ?_, fun p hp => (pm.map (·.2)).mem_iff.mpr ?_, by rw [pm.length_eq, List.length_append]; exact Nat.succ_le_succ h.len⟩
  · rcases List.mem_cons.mp (pm.mem_iff.mp hp) with z | z
    · exact List.mem_append_right _ (List.mem_singleton.mpr z)
    · exact List.mem_append_left _ (h.of p z)
  · rw [List.map_cons]
    rcases List.mem_append.mp hp with z | z
    · exact List.mem_cons_of_mem _ (h.all p z)
    · rw [List.mem_singleton.mp z]
      exact List.mem_cons_self
section
variable {P : Program} {w : World} {A : Around} {E : Value → Shared → Prop} {s : Shared} {κ : Type} [DecidableEq κ] {knd : KeyKind P w κ}
variable {a : Addr} {L : List (Addr × List κ)} {es : Array (Int × Value)} {ep : Nat} {t : SetTable}
theorem tps_fresh {h : Heap} {a : Addr} (e : h.get? a = some { cls := .type "set", dict := none, data := .set #[] 0 (.fresh 0 0 (!w.params.followText "set-order")) }) : Tps knd h a [] #[] 0 (.fresh 0 0 (!w.params.followText "set-order")) := by
  refine ⟨⟨_, e, ⟨rfl, rfl, rfl⟩, rfl⟩, rfl, ⟨List.Pairwise.nil, rfl, rfl, .inl rfl, fun _ hx => absurd hx List.not_mem_nil, fun i h j hi => nomatch hi⟩, List.nodup_nil, fun _ hp => absurd hp List.not_mem_nil, ?_, show 0 * 5 < 7 * 3 by decide, show 0 < 64 by decide⟩
  show _ ∨ (!w.params.followText "set-order") = true
  cases w.params.followText "set-order"
  · exact .inr rfl
  · exact .inl rfl
theorem kset_loop (M : Mild knd) {I : Addr} {fp wr : List Addr} {G : Array GenState → Array GenState → Prop} {n : Nat} {Pv : Nat → Value → Prop} {St : Nat → Shared → Prop} {R : Result → Shared → Prop}
    (W : WalksS P w A.in1 I fp wr G n Pv St) (D : Addr) (hD : D ∉ fp) (ks : List (Addr × List κ)) (hn : n = ks.length) (hb : ks.length < 64) (hu : A.in1.units < cLine)
    (hval : ∀ i v, Pv i v → ∃ p, ks[i]? = some p ∧ v = .ref p.1) (h0 : Heap) (hks : ∀ p ∈ ks, IsTupleKey knd h0 p.2 p.1) (nD : h0.get? D = none) (nw : ∀ b ∈ wr, h0.get? b = none) :
    ∀ (k i : Nat) (s : Shared), n - i = k → i ≤ n → St i s → (∀ b o, h0.get? b = some o → s.heap.get? b = some o) → (∃ L es ep t, Tps knd s.heap D L es ep t ∧ Has (ks.take i) L) →
      (∀ s' L es ep t, Moved (D :: wr) G s s' → (∀ b o, h0.get? b = some o → s'.heap.get? b = some o) → Tps knd s'.heap D L es ep t → Has ks L → R (.ok (.ret .none)) s') →
      codeAny (model P w) A (.builtin "set.update.loop" ⟨[.ref D, .ref I], []⟩) R s := by
  have hDw : D ∉ wr := fun h => hD (W.sub _ h)
  have up : ∀ b ∈ wr, b ∈ D :: wr := fun b q => List.mem_cons_of_mem _ q
  have on : ∀ {s s' : Shared}, Moved wr G s s' → (∀ b o, h0.get? b = some o → s.heap.get? b = some o) → ∀ b o, h0.get? b = some o → s'.heap.get? b = some o := fun m z b o e =>
    m.heap b o (fun hb => by rw [nw b hb] at e; cases e) (z b o e)
  have keys : ∀ {h : Heap}, (∀ b o, h0.get? b = some o → h.get? b = some o) → ∀ p ∈ ks, IsTupleKey knd h p.2 p.1 := fun z p hp => key_kept (hks p hp) z
  intro k
  induction k with
  | zero =>
    intro i s hk hi hst hz hS hR
    obtain rfl : i = n := by omega
    obtain ⟨L, es, ep, t, T, g⟩ := hS
    rw [List.take_of_length_le (by omega)] at g
    refine codeAny_builtin PyProof.Rows.F.entry_set_update_loop (by
      rw [Around.under_plainId PyProof.Rows.F.plain_set_update_loop _]
      show wpAny _ A.in1 (pyNext (.ref I) >>= _) _ _ s
      refine wpAny_bind (W.done s _ _ hst fun s' hm => wpAny_pure (hR s' L es ep t (hm.mono up) (on hm hz) ?_ g))
      exact T.kept (fun o ho => hm.heap D o hDw ho) fun p hp => keys (on hm hz) p (g.of p hp))
  | succ k ih =>
    intro i s hk hi hst hz hS hR
    have hlt : i < n := by omega
    obtain ⟨L, es, ep, t, T, g⟩ := hS
    refine codeAny_builtin PyProof.Rows.F.entry_set_update_loop (by
      rw [Around.under_plainId PyProof.Rows.F.plain_set_update_loop _]
      show wpAny _ A.in1 (pyNext (.ref I) >>= _) _ _ s
      refine wpAny_bind (W.item i s _ _ hlt hst fun v s' hP hst' hm => ?_)
      obtain ⟨p, hp, rfl⟩ := hval i v hP
      have z1 := on hm hz
      have pin := List.mem_of_getElem? hp
      have e3 : ks.take (i + 1) = ks.take i ++ [p] := by
        rw [List.take_add_one, hp]
        rfl
      have T1 : Tps knd s'.heap D L es ep t := T.kept (fun o ho => hm.heap D o hDw ho) fun p hp => keys z1 p (List.mem_of_mem_take (g.of p hp))
      have ll : L.length ≤ i := Nat.le_trans g.len (by rw [List.length_take]; omega)
      show wpAny _ A.in1 (holding [Value.ref p.1] (setAdd D (.ref p.1)) >>= _) _ _ s'
      refine wpAny_bind (wpAny_holding (by
        unfold setAdd
        refine wpAny_holding (wpAny_bind ((tupleKind knd).pyHash (k := p.2) hu (keys z1 p pin) ?_))
        refine put_one M (s := { s' with toks := s'.toks + (tupleKind knd).draws p.2 }) T1 (keys z1 p pin) hu (by omega) fun b h' L2 es2 ep2 t2 sb T2 q1 q2 => ?_
        have g2 : Has (ks.take (i + 1)) L2 := by
          rw [e3]
          by_cases m : p.2 ∈ L.map (·.2)
          · rw [q1 m]
            exact g.old m
          · exact g.new (q2 m)
        have z2 : ∀ b o, h0.get? b = some o → h'.get? b = some o := fun b o e => by
          rw [sb.2 b (fun z : b = D => by rw [z, nD] at e; cases e)]
          exact z1 b o e
        refine wpAny_pure ⟨plainId_quiet PyProof.Rows.F.plain_set_update_loop _, ih (i + 1) _ (by omega) hlt (W.frame _ s' _ _ hst' (Nat.le_add_right _ _) fun b q o e => ?_) z2 ⟨L2, es2, ep2, t2, T2, g2⟩ fun s2 L3 es3 ep3 t3 hm2 z3 T3 g3 => ?_⟩
        · rw [sb.2 b (fun z : b = D => hD (by rw [← z]; exact q))]
          exact e
        · refine hR s2 L3 es3 ep3 t3 (Moved.trans W.gtrans ((hm.mono up).then_heap (Nat.le_add_right _ _) fun b o q e => ?_) hm2) z3 T3 g3
          rw [sb.2 b (fun z : b = D => q (by rw [z]; exact List.mem_cons_self))]
          exact e)))
end
end Mo

/-! ### set(a list of tuples whose elements are of any kind of key): the call -/
namespace Mo
open PySem PySem.Spec PyProof.Rows L2 PySem.Froz
section
variable {P : Program} {w : World} {A : Around} {E : Value → Shared → Prop} {s : Shared} {κ : Type} [DecidableEq κ] {knd : KeyKind P w κ}
set_option maxHeartbeats 8000000 in
theorem call_kset (M : Mild knd) {l : Addr} {items : Array Value} (ks : List (Addr × List κ)) {Q : Value → Shared → Prop} (hh : A.handled = none) (hl : s.heap.IsList l items) (hit : items.toList = ks.map fun p => Value.ref p.1)
    (hks : ∀ p ∈ ks, IsTupleKey knd s.heap p.2 p.1) (hb : ks.length < 64) (hu : A.units + 3 < cLine)
    (h : ∀ (h' : Heap) (tk : Nat) L es ep t, Tps knd h' s.heap.objs.size L es ep t → Has ks L → (∀ b o, s.heap.get? b = some o → h'.get? b = some o) → Q (.ref s.heap.objs.size) { s with heap := h', toks := tk }) :
    wpAny (model P w) A (call (.type "set") [.ref l]) Q E s := by
  have n1 : items.size = ks.length := by rw [← Array.length_toList, hit, List.length_map]
  obtain ⟨c, tl, hmro⟩ := PySem.F.called_set.mro
  have hmade := PySem.F.called_set.made; have hsub := PySem.F.called_set.sub
  refine wpAny_call (codeAny_of_tree (by
    show wpAny _ _ (callAny (.type "set") _) _ _ _
    refine wpAny_pure ⟨Code.quiet_builtin _ (by decide +kernel), codeAny_builtin PySem.F.entry_type_call ?_⟩
    rw [Around.under_plain (weight_type_call_type "set" [.ref l] []) rfl]
    have h1 := PySem.F.called_set.notType; have h2 := PySem.F.called_set.canCreate
    have hct := PySem.F.typeCall_set_1 (.ref l)
    repeat (any_goals (first | assumption | wp_step))
    refine codeAny_mono (code_set_led1 (.ref l) (E := E) (Q₁ := fun obj s₁ => obj = .ref s.heap.objs.size ∧ s₁ = { s with heap := s.heap.push { cls := .type "set", dict := none, data := .set #[] 0 (.fresh 0 0 (!w.params.followText "set-order")) } }) ⟨rfl, rfl⟩) fun r s₁ hr => ?_
    cases r with
    | error e => exact hr
    | ok fl =>
      cases fl with
      | ret obj =>
        obtain ⟨rfl, rfl⟩ := hr
        generalize hNew : ({ cls := .type "set", dict := none, data := .set #[] 0 (.fresh 0 0 (!w.params.followText "set-order")) } : Obj) = nw
        have hfr : ∀ (h : Heap) (a : Addr), h.get? a = some nw → Tps knd h a [] #[] 0 (.fresh 0 0 (!w.params.followText "set-order")) := by
          intro h a e
          rw [← hNew] at e
          exact tps_fresh e
        have hcls : nw.cls = .type "set" := by rw [← hNew]
        have hnf : nw.isFreed = false := by rw [← hNew]; rfl
        have hS : (s.heap.push nw).get? s.heap.objs.size = some nw := Heap.get?_push_size _ hnf
        have hT : Shared.TypeIs { s with heap := s.heap.push nw } (.ref s.heap.objs.size) "set" := ⟨_, hS, hcls⟩
        have hli := PySem.F.called_set.init.lookup; have hbi := PySem.F.called_set.init.bind (.ref s.heap.objs.size)
        repeat (any_goals (first | assumption | wp_step))
        refine codeAny_mono (codeAny_call_builtin (R := wants (fun r s₂ => r = .none ∧ ∃ h' tk L es ep t, s₂ = { s with heap := h', toks := tk } ∧ Tps knd h' s.heap.objs.size L es ep t ∧ Has ks L ∧
          (∀ b o, s.heap.get? b = some o → h'.get? b = some o)) E) PySem.F.called_set.init.plain PySem.F.entry_set_init (check_set_init_1 hT ?_)) fun r₂ s₂ hr₂ => ?_
        · obtain ⟨ol, hol, hcl, nl, hdl⟩ := hl
          obtain ⟨ocls, odict, odata, oslots⟩ := ol
          simp only at hcl hdl
          subst hcl; subst hdl
          have hlt : l < s.heap.objs.size := Heap.lt_size hol
          have hl1 : (s.heap.push nw).IsList l items := ⟨_, Heap.get?_push_of_some _ hol, rfl, nl, rfl⟩
          have hol' := Heap.get?_push_of_some nw hol
          subst hNew
          have n1' := PySem.F.sub_list_set
          have n2' := PySem.F.sub_list_frozenset
          have n3 : (Value.type "list" == Value.type "dict") = false := by decide
          unfold Builtin.«set.__init__» noKeywords Builtin.Frozenset.updateFrom
          generalize hPI : pyIter = PI
          wp_walk
          subst hPI
          have hh3 : A.in1.in1.in1.handled = none := by simp [hh]
          generalize hNew : ({ cls := .type "set", data := .set #[] 0 (.fresh 0 0 (!w.params.followText "set-order")) } : Obj) = nw at *
          have hz1 : (s.heap.push nw).objs.size = s.heap.objs.size + 1 := Heap.size_push ..
          have none_of : ∀ b, s.heap.objs.size ≤ b → s.heap.get? b = none := fun b hb => by
            cases q : s.heap.get? b with
            | none => rfl
            | some o => exact absurd (Nat.lt_of_lt_of_le (Heap.lt_size q) hb) (Nat.lt_irrefl _)
          have hval : ∀ (i : Nat) (v : Value), items[i]? = some v → ∃ p, ks[i]? = some p ∧ v = .ref p.1 := fun i v hv => by
            rw [← Array.getElem?_toList, hit, List.getElem?_map] at hv
            cases hq : ks[i]? with
            | none => rw [hq] at hv; cases hv
            | some p =>
              rw [hq] at hv
              exact ⟨p, rfl, (Option.some.inj hv).symm⟩
          refine wpAny_pyIter_list hl1 (wpAny_bind (wpAny_runValue ?_))
          refine kset_loop M ((Walks.list hh3 _ l (by rw [hz1]; exact Nat.ne_of_lt (Nat.lt_succ_of_lt hlt)) items).toS) s.heap.objs.size (by rw [hz1]; simp only [List.mem_cons, List.not_mem_nil, or_false, not_or]; exact ⟨Nat.ne_of_lt (Nat.lt_succ_self _), Nat.ne_of_gt hlt⟩) ks n1 hb hu hval s.heap hks
            (none_of _ (Nat.le_refl _)) (fun b hb => none_of b (by rw [List.mem_singleton.mp hb, hz1]; exact Nat.le_succ _)) (items.size - 0) 0 _ (by omega) (Nat.zero_le _) ⟨⟨_, Heap.get?_push_size _ rfl, rfl, rfl⟩, hl1.push _⟩
            (fun b o e => Heap.get?_push_of_some _ (Heap.get?_push_of_some _ e)) ⟨[], #[], 0, _, hfr _ _ (Heap.get?_push_of_some _ hS), Has.nil⟩ fun s' L es ep t hm hk2 T g => ?_
          obtain ⟨h', g', d', tk', os'⟩ := s'
          obtain rfl : g' = s.gens := hm.gens
          obtain rfl : d' = s.drawn := hm.drawn
          obtain rfl : os' = s.os := hm.os
          refine wpAny_pure ?_
          exact wpAny_pure ⟨rfl, h', tk', L, es, ep, t, rfl, T, g, hk2⟩
        · cases r₂ with
          | error e => exact hr₂
          | ok fl₂ =>
            cases fl₂ with
            | ret r =>
              obtain ⟨rfl, h', tk, L, es, ep, t, rfl, T, g, hk'⟩ := hr₂
              repeat (any_goals (first | assumption | wp_step))
              exact h _ _ _ _ _ _ T g hk'
            | _ => exact hr₂.elim
      | _ => exact hr.elim))
end
end Mo

/-! ### lists of pairs of texts, sorted -/
namespace Mo
open PySem PySem.Spec PyProof.Rows L2
/-- texts by their signs -/
def sltB (x y : Str) : Bool := decide (x.cps.toList < y.cps.toList)
theorem str_of_list {x y : Str} (h : x.cps.toList = y.cps.toList) : x = y := by
  cases x
  cases y
  congr
  exact Array.toList_inj.mp h
theorem slt_asym {x y : Str} (h : sltB x y = true) : sltB y x = false := decide_eq_false (List.lt_asymm (of_decide_eq_true h))
theorem slt_ntr {x y z : Str} (h1 : sltB y x = false) (h2 : sltB z y = false) : sltB z x = false := by
  have a := of_decide_eq_false h1
  have b := of_decide_eq_false h2
  exact decide_eq_false (List.not_lt.mpr (List.le_trans (List.not_lt.mp a) (List.not_lt.mp b)))
theorem slt_eq {x y : Str} (h1 : sltB x y = false) (h2 : sltB y x = false) : x = y :=
  str_of_list (List.le_antisymm (List.not_lt.mp (of_decide_eq_false h2)) (List.not_lt.mp (of_decide_eq_false h1)))
/-- pairs of texts: by the first, then by the second -/
def lexS (p q : Str × Str) : Bool := if p.1 = q.1 then sltB p.2 q.2 else sltB p.1 q.1
theorem lexS_asym {p q : Str × Str} (h : lexS p q = true) : lexS q p = false := by
  unfold lexS at h ⊢
  by_cases e : p.1 = q.1
  · rw [if_pos e] at h
    rw [if_pos e.symm]
    exact slt_asym h
  · rw [if_neg e] at h
    rw [if_neg (fun z => e z.symm)]
    exact slt_asym h
theorem lexS_ntr {p q r : Str × Str} (h1 : lexS q p = false) (h2 : lexS r q = false) : lexS r p = false := by
  unfold lexS at h1 h2 ⊢
  by_cases e1 : q.1 = p.1
  · rw [if_pos e1] at h1
    by_cases e2 : r.1 = q.1
    · rw [if_pos e2] at h2
      rw [if_pos (e2.trans e1)]
      exact slt_ntr h1 h2
    · rw [if_neg e2] at h2
      rw [if_neg (fun z => e2 (z.trans e1.symm)), ← e1]
      exact h2
  · rw [if_neg e1] at h1
    by_cases e2 : r.1 = q.1
    · rw [if_neg (fun z => e1 (e2.symm.trans z)), e2]
      exact h1
    · rw [if_neg e2] at h2
      have t := slt_ntr h1 h2
      by_cases e3 : r.1 = p.1
      · exfalso
        rw [e3] at h2
        exact e1 (slt_eq h1 h2)
      · rw [if_neg e3]
        exact t
theorem lexS_eq {p q : Str × Str} (h1 : lexS p q = false) (h2 : lexS q p = false) : p = q := by
  unfold lexS at h1 h2
  by_cases e : p.1 = q.1
  · rw [if_pos e] at h1
    rw [if_pos e.symm] at h2
    exact Prod.ext e (slt_eq h1 h2)
  · rw [if_neg e] at h1
    rw [if_neg (fun z => e z.symm)] at h2
    exact absurd (slt_eq h1 h2) e
theorem swo_lexS (k : Value → Str × Str) : SrtO.Swo fun v u => lexS (k v) (k u) := ⟨fun _ _ => lexS_asym, fun _ _ _ => lexS_ntr⟩
/-- v is a pair of these texts -/
def IsPS (h : Heap) (v : Value) (k : Str × Str) : Prop := ∃ a o t u n, v = .ref a ∧ h.get? a = some o ∧ o.cls = .type "tuple" ∧ o.data = .seq #[.str k.1 t, .str k.2 u] n
theorem IsPS.keeps {h h' : Heap} {v : Value} {x : Str × Str} (p : IsPS h v x) (k : ∀ b o, h.get? b = some o → o.cls = .type "tuple" → h'.get? b = some o) : IsPS h' v x := by
  obtain ⟨a, o, t, u, n, e, ho, hc, hd⟩ := p
  exact ⟨a, o, t, u, n, e, k _ _ ho hc, hc, hd⟩
theorem first_texts {h : Heap} : ∀ {vs : List Value}, (∀ v ∈ vs, ∃ k, IsPS h v k) → ∃ fs : List Value, PySem.W.KatTups h vs fs ∧ fs.length = vs.length ∧ ∀ f ∈ fs, ∃ x t, f = Value.str x t
  | [], _ => ⟨[], PySem.W.KatTups.nil, rfl, fun _ hm => absurd hm List.not_mem_nil⟩
  | v :: vs, hp => by
    obtain ⟨fs, h1, h2, h3⟩ := first_texts (vs := vs) fun u hm => hp u (List.mem_cons_of_mem _ hm)
    obtain ⟨k, a, o, t, u, n, rfl, ho, hc, hd⟩ := hp v List.mem_cons_self
    refine ⟨.str k.1 t :: fs, PySem.W.KatTups.cons ho hc hd rfl h1, by rw [List.length_cons, List.length_cons, h2], fun f hm => ?_⟩
    rcases List.mem_cons.mp hm with e | hm
    · exact ⟨k.1, t, e⟩
    · exact h3 f hm
section
variable {prog : Program} {w : World} {A : Around} {E : Value → Shared → Prop} {s : Shared}
theorem ps_cmp {vs : List Value} {k : Value → Str × Str} (hp : ∀ v ∈ vs, IsPS s.heap v (k v)) : SrtO.Cmp prog w A s (tuples' true) (fun p => p.1 ∈ vs) (SrtO.lt2 fun v u => lexS (k v) (k u)) := by
  intro p q hm hm'
  have h1 := hp _ hm
  have h2 := hp _ hm'
  show wpAny (model prog w) A (keyLt' (tuples' true) p.1 q.1) (fun r s' => s' = s ∧ r = lexS (k p.1) (k q.1)) (fun _ _ => False) s
  unfold lexS
  obtain ⟨a, o, t, u, n, e, ho, hc, hd⟩ := h1
  obtain ⟨a', o', t', u', n', e', ho', hc', hd'⟩ := h2
  generalize k p.1 = x at *
  generalize k q.1 = y at *
  rw [e, e']
  refine PySem.W.kat_lt ho hd ho' hd' ?_
  show PySem.W.KatLex prog w A true (decide (2 < 2)) _ [(.str x.1 t, .str y.1 t'), (.str x.2 u, .str y.2 u')] 0 s
  refine PySem.W.kat_cons (SeqAt.EqAt.str_str x.1 t y.1 t' prog w _ _ ?_)
  refine PySem.W.kat_go (fun e1 => ?_) (fun e1 => ?_)
  · have ex : x.1 = y.1 := by simpa using e1
    rw [if_pos ex]
    refine PySem.W.kat_yes (PySem.W.kat_cons (SeqAt.EqAt.str_str x.2 u y.2 u' prog w _ _ ?_))
    refine PySem.W.kat_go (fun e2 => ?_) (fun e2 => ?_)
    · have ey : x.2 = y.2 := by simpa using e2
      refine PySem.W.kat_yes (PySem.W.kat_nil ⟨rfl, ?_⟩)
      rw [ey]
      exact (decide_eq_false (List.lt_irrefl _)).symm
    · exact PySem.W.kat_no (PySem.W.kat_one _ _ (PyProof.Rows.lt_str ⟨rfl, by simp [sltB]⟩))
  · have ex : ¬ x.1 = y.1 := by simpa using e1
    rw [if_neg ex]
    exact PySem.W.kat_no (oneLt_str ⟨rfl, rfl⟩)
theorem ps_sortable {a : Addr} {vs : List Value} {k : Value → Str × Str} (h0 : 0 < vs.length) (hp : ∀ v ∈ vs, IsPS s.heap v (k v)) (ha : ∀ o, s.heap.get? a = some o → o.cls ≠ .type "tuple") : SrtO.SortableO prog w A s a vs fun v u => lexS (k v) (k u) := by
  intro h' keep
  have hp' : ∀ v ∈ vs, IsPS h' v (k v) := fun v hm => (hp v hm).keeps fun b o e c => keep b o (fun z => ha o (by rw [← z]; exact e) c) e
  obtain ⟨fs, h1, h2, h3⟩ := first_texts fun v hm => ⟨_, hp' v hm⟩
  refine ⟨tuples' true, fun Q E hq => ?_, ps_cmp hp'⟩
  refine PySem.W.kat_kind (T := .type "str") h1 (by omega) (fun f hm => ?_) (by rfl) ?_
  · obtain ⟨x, t, rfl⟩ := h3 f hm
    exact PySem.W.Looks.now
  · have e : (Value.type "str" != Value.type "tuple") = true := by first | decide +kernel | rfl | decide
    rw [e]
    exact hq
end
end Mo

/-! ### sorted(set(a text)): the rules -/
namespace Mo
open PySem PySem.Spec PyProof.Rows L2 PySem.Froz
theorem perm_cover {α : Type} [DecidableEq α] : ∀ (L ks : List α), L.Nodup → (∀ x ∈ L, x ∈ ks) → ks.length = L.length → ks.Perm L
  | [], ks, _, _, h => by
    rw [List.length_eq_zero_iff.mp h]
  | x :: L, ks, nd, hs, h => by
    have hx := hs x List.mem_cons_self
    have nd2 := List.nodup_cons.mp nd
    have ih := perm_cover L (ks.erase x) nd2.2 (fun y hy => (List.mem_erase_of_ne (fun e : y = x => nd2.1 (e ▸ hy))).mpr (hs y (List.mem_cons_of_mem _ hy))) (by rw [List.length_erase_of_mem hx, h, List.length_cons]; omega)
    exact (List.perm_cons_erase hx).trans (ih.cons x)
def strOf : Value → Str
  | .str x _ => x
  | _ => Str.empty
theorem strs_of_all : ∀ {vs : List Value}, (∀ v ∈ vs, ∃ x t, v = Value.str x t) → StrsAre vs (vs.map strOf)
  | [], _ => .nil
  | v :: vs, h => by
    obtain ⟨x, t, rfl⟩ := h v List.mem_cons_self
    exact .cons x t (strs_of_all fun u hu => h u (List.mem_cons_of_mem _ hu))
theorem signs_nodup : ∀ {l : List Nat}, l.Nodup → (l.map fun c => (⟨#[c]⟩ : Str)).Nodup
  | [], _ => List.nodup_nil
  | c :: l, h => by
    have h2 := List.nodup_cons.mp h
    refine List.nodup_cons.mpr ⟨fun z => ?_, signs_nodup h2.2⟩
    obtain ⟨d, hd, e⟩ := List.mem_map.mp z
    rw [sign_inj e] at hd
    exact h2.1 hd
section
variable {P : Program} {w : World} {A : Around} {E : Value → Shared → Prop} {s : Shared}
theorem sorted_sgs {a : Addr} {cs : List Nat} {Q : Value → Shared → Prop} (x : SgAt P w s.heap a cs) (hh : A.handled = none) (h64 : (met cs).length < 64)
    (hQ : ∀ s' p (out : Array Value) (c : Nat) (ys : List Str), (∀ b o, s.heap.get? b = some o → s'.heap.get? b = some o) → s'.gens = s.gens → s'.os = s.os → s.heap.objs.size ≤ p →
      s'.heap.get? p = some (seqObj "list" out c) → StrsAre out.toList ys → ys.Perm ((met cs).map fun c => (⟨#[c]⟩ : Str)) → sortedS ys = true → Q (.ref p) s') :
    wpAny (model P w) A (call (.builtin "sorted") [.ref a]) Q E s := by
  obtain ⟨⟨es, ep, t⟩, l, ho, F, hm, hl, hr, hd⟩ := x
  have hn : es.size = (met cs).length := F.sz.trans hl
  refine Calls.call_function_entry kind_sorted plain_sorted entry_sorted (args_sorted1 _) ?_
  unfold Builtin.«sorted»
  refine wpAny_bind (m := checkCount "sorted" 1 1 _) (wpAny_pure ?_)
  refine wpAny_bind (collect_set (A := A.in1) hh ⟨_, ho, rfl, rfl⟩ F.fit (by rw [hn]; unfold scanBound; omega) hr hd fun s1 vs k1 hz g1 o1 pm => ?_)
  have hvl : vs.length = (met cs).length := by rw [pm.length_eq, List.length_map, Array.length_toList, hn]
  have texts : ∀ e ∈ es.toList, ∃ x t, e.2 = Value.str x t := fun e he => by
    obtain ⟨⟨k, hk, _⟩, _⟩ := F.el e he
    obtain ⟨t, ev⟩ := Value.isStrOf_shape (x := k) (v := e.2) hk
    exact ⟨k, t, ev⟩
  have hS : StrsAre vs (vs.map strOf) := strs_of_all fun v hv => by
    obtain ⟨e, he, q⟩ := List.mem_map.mp (pm.mem_iff.mp hv)
    obtain ⟨x, t, h⟩ := texts e he
    exact ⟨x, t, by rw [← q]; exact h⟩
  have pc : (vs.map strOf).Perm ((met cs).map fun c => (⟨#[c]⟩ : Str)) := by
    refine perm_cover _ _ (signs_nodup (met_nodup cs)) (fun k hk => ?_) (by rw [List.length_map, List.length_map, hvl])
    obtain ⟨c, hc, rfl⟩ := List.mem_map.mp hk
    obtain ⟨e, he, q⟩ := (F.mem _).mp ((hm _).mpr ⟨c, mem_met.mp hc, rfl⟩)
    obtain ⟨t, ev⟩ := Value.isStrOf_shape (x := (⟨#[c]⟩ : Str)) (v := e.2) q
    exact List.mem_map.mpr ⟨e.2, pm.mem_iff.mpr (List.mem_map.mpr ⟨e, he, rfl⟩), by rw [ev]; rfl⟩
  refine wpAny_bind (wpAny_newList ?_ (by rw [hvl, sizeLine_eq]; omega))
  have hoL : (s1.heap.push (seqObj "list" vs.toArray 0)).get? s1.heap.objs.size = some (seqObj "list" vs.toArray 0) := Heap.get?_push_size _ rfl
  refine wpAny_bind (wpAny_holding (wpAny_call_entry slot_list_sort ⟨_, hoL, rfl⟩ entry_list_sort
    (list_sort_treeK strKind_oneLt hoL hS.keysOf (fun v₁ v₂ rest e => keyKind_strs (by rw [← e]; exact hS)) (by rw [hvl]; exact h64) fun st' hp hs => ⟨_, rfl, ?_⟩) (args_list_sort _)))
  obtain ⟨ys, y1, y2, y3⟩ := sorted_out_str hS hp hs
  obtain ⟨c, hc⟩ := sortedHeap_at (vs := vs) (out := (arrOf st').map (·.2)) hoL
  refine wpAny_pure ⟨_, rfl, hQ _ s1.heap.objs.size _ c ys (fun b u e => ?_) g1 o1 hz hc y1 (y2.trans pc) y3⟩
  have q := k1 b u e
  have hlt := Heap.lt_size q
  show (sortedHeap (s1.heap.push (seqObj "list" vs.toArray 0)) s1.heap.objs.size vs _).get? b = some u
  rw [sortedHeap_old (Nat.ne_of_lt hlt) (by rw [size_push']; exact Nat.lt_succ_of_lt hlt)]
  exact Heap.get?_push_of_some _ q
end
/-- the set of the signs of cs, at a -/
def SetSg (P : Program) (w : World) (a : Addr) (cs : List Nat) : HO := .ext fun h => SgAt P w h a cs
section
variable {X : Cx}
theorem setSg_new {w : World} {P : Program} {H : Hp} {h : Heap} {a : Addr} {cs : List Nat} (R : SgAt P w h a cs) : ObjOk P w H h a (SetSg P w a cs) := by
  have ⟨_, _, ho, _⟩ := R
  exact ⟨R, ⟨_, ho⟩, fun h1 h2 p k => SgAt.keep p k⟩
def rSetSg (P : Program) (w : World) : List V → Hp → VK → Prop := fun xs H Q => ∃ z : Str, xs = [.str z] ∧ z.cps.size ≤ 4000 ∧ ∀ p, H p = none → Q (.ref p) (upd H p (SetSg P w p z.cps.toList))
/-- set(z), z a text, to be walked -/
theorem cr_setSg {P : Program} {w : World} (hp : X.prog = P) (hw : X.w = w) (hc : X.calm = true) : CallR X (.type "set") (rSetSg P w) := by
  subst hp
  subst hw
  intro pins s σ H xs us Q I r h
  obtain ⟨z, rfl, hz, q⟩ := h
  obtain ⟨u, rfl, t, rfl⟩ := vals1 r
  refine call_set_sgs (I.ok.hd hc) (by unfold scanBound; omega) fun h' tk hS hk => ?_
  exact ⟨.ref _, _, I.laid (t' := tk) hk (Nat.le_refl _) (setSg_new hS), rfl, q _ (I.hok.fresh (Nat.le_refl _))⟩
def rSortSg (P : Program) (w : World) : List V → Hp → VK → Prop := fun vs H Q => ∃ (a : Addr) (cs : List Nat), vs = [V.ref a] ∧ H a = some (SetSg P w a cs) ∧ (met cs).length < 64 ∧
  ∀ (ys : List Str) (p : Addr), ys.Perm ((met cs).map fun c => (⟨#[c]⟩ : Str)) → sortedS ys = true → H p = none → Q (.ref p) (upd H p (.lst (ys.map V.str)))
/-- sorted(a set of signs) -/
theorem cr_sortSg {P : Program} {w : World} (hp : X.prog = P) (hw : X.w = w) (hc : X.calm = true) : CallR X (.builtin "sorted") (rSortSg P w) := by
  subst hp
  subst hw
  intro pins s σ H vs us Q I r h
  obtain ⟨a, cs, rfl, ha, h64, q⟩ := h
  have R : SgAt X.prog X.w s.heap a cs := (I.hok a _ ha).1
  rw [Vals.ref1 r]
  refine sorted_sgs R (I.ok.hd hc) h64 fun s' p out c ys k g o hp hg hi hm hs => ?_
  have hlen : (ys.map V.str).length ≤ sizeLine := by rw [List.length_map, hm.length_eq, List.length_map, sizeLine_eq]; omega
  have hn : H p = none := I.hok.fresh hp
  have J : Inv X pins σ (upd H p (.lst (ys.map V.str))) { s with heap := s'.heap, gens := s'.gens, drawn := s'.drawn, toks := s'.toks } :=
    I.call (ch := []) (Un.laid k hp hn) (I.hok.laid k hp ⟨hlen, out.toList, c, vals_of_strs hi, hg⟩) (by rw [g]; exact I.bare) (fun _ z => nomatch z)
  have e : s' = { s with heap := s'.heap, gens := s'.gens, drawn := s'.drawn, toks := s'.toks } := by
    cases s'
    cases s
    cases o
    rfl
  rw [e]
  exact ⟨.ref p, _, J, rfl, q ys p hm hs hn⟩
end
end Mo

/-! ### sorted(set(a list of pairs of texts)): the rules -/
namespace Mo
open PySem PySem.Spec PyProof.Rows L2 PySem.Froz
def two (l : List Str) : Str × Str := (l.getD 0 Str.empty, l.getD 1 Str.empty)
/-- the two texts of a pair -/
def pairAt (h : Heap) (v : Value) : Str × Str := match v with
  | .ref a => match h.get? a with
    | some o => match o.data with
      | .seq its _ => (strOf (its.getD 0 .none), strOf (its.getD 1 .none))
      | _ => (Str.empty, Str.empty)
    | none => (Str.empty, Str.empty)
  | _ => (Str.empty, Str.empty)
theorem IsPS.at {h : Heap} {v : Value} {k : Str × Str} (p : IsPS h v k) : pairAt h v = k := by
  obtain ⟨a, o, t, u, n, rfl, ho, hc, hd⟩ := p
  unfold pairAt
  simp only [ho, hd]
  rfl
theorem perm_of_map {α β : Type} {f : α → β} {l m : List β} (p : l.Perm m) : ∀ {L : List α}, m = L.map f → ∃ L2 : List α, L2.Perm L ∧ l = L2.map f := by
  induction p with
  | nil => intro L e; exact ⟨L, .refl _, e⟩
  | cons x _ ih =>
    intro L e
    cases L with
    | nil => cases e
    | cons a L =>
      rw [List.map_cons] at e
      obtain ⟨e1, e2⟩ := List.cons.inj e
      obtain ⟨L2, q, e3⟩ := ih e2
      exact ⟨a :: L2, q.cons a, by rw [List.map_cons, e1, e3]⟩
  | swap x y l =>
    intro L e
    match L, e with
    | a :: b :: L, e =>
      rw [List.map_cons, List.map_cons] at e
      obtain ⟨e1, e2⟩ := List.cons.inj e
      obtain ⟨e2, e3⟩ := List.cons.inj e2
      exact ⟨b :: a :: L, .swap .., by rw [List.map_cons, List.map_cons, e1, e2, e3]⟩
  | trans _ _ ih1 ih2 =>
    intro L e
    obtain ⟨L2, q2, e2⟩ := ih2 e
    obtain ⟨L3, q3, e3⟩ := ih1 e2
    exact ⟨L3, q3.trans q2, e3⟩
section
variable {P : Program} {w : World} {A : Around} {E : Value → Shared → Prop} {s : Shared}
theorem key_pair {h : Heap} {ks : List Str} {b : Addr} (x : IsTupleKey (strKind P w) h ks b) (l2 : ks.length = 2) : IsPS h (.ref b) (two ks) := by
  obtain ⟨o, its, n, ho, hc, hd, hi⟩ := x
  match ks, l2 with
  | [k1, k2], _ =>
    generalize hl : its.toList = l at hi
    cases hi with
    | cons h1 t1 =>
      cases t1 with
      | cons h2 t2 =>
        cases t2
        obtain ⟨t, rfl⟩ := Value.isStrOf_shape h1
        obtain ⟨u, rfl⟩ := Value.isStrOf_shape h2
        refine ⟨b, o, t, u, n, rfl, ho, hc, ?_⟩
        rw [hd, Array.toList_inj.mp (show its.toList = (#[.str k1 t, .str k2 u] : Array Value).toList from hl)]
        rfl
theorem sorted_kset {a : Addr} {L : List (Addr × List Str)} {es : Array (Int × Value)} {ep : Nat} {t : SetTable} {Q : Value → Shared → Prop} (R : Tps (strKind P w) s.heap a L es ep t) (hh : A.handled = none) (hl : ∀ p ∈ L, p.2.length = 2)
    (hQ : ∀ s' p (out : Array Value) (c : Nat) (L' : List (Addr × List Str)), (∀ b o, s.heap.get? b = some o → s'.heap.get? b = some o) → s'.gens = s.gens → s'.os = s.os → s.heap.objs.size ≤ p →
      s'.heap.get? p = some (seqObj "list" out c) → out.toList = L'.map (fun q => Value.ref q.1) → L'.Perm L → L'.Pairwise (fun q r => lexS (two r.2) (two q.2) = false) → Q (.ref p) s') :
    wpAny (model P w) A (call (.builtin "sorted") [.ref a]) Q E s := by
  obtain ⟨o, ho, hex, hd⟩ := R.obj
  have n1 : es.size = L.length := ent_size R.ent
  have few := R.few
  refine Calls.call_function_entry kind_sorted plain_sorted entry_sorted (args_sorted1 _) ?_
  unfold Builtin.«sorted»
  refine wpAny_bind (m := checkCount "sorted" 1 1 _) (wpAny_pure ?_)
  refine wpAny_bind (collect_set (A := A.in1) hh ⟨o, ho, hex.1, hd⟩ R.fits (by unfold scanBound; omega) R.tab.ris R.led fun s1 vs k1 hz g1 o1 pm => ?_)
  rw [R.ent, List.map_map] at pm
  have lv : vs.length = L.length := by rw [pm.length_eq, List.length_map]
  refine wpAny_bind (wpAny_newList ?_ (by rw [lv, sizeLine_eq]; omega))
  have hoL : (s1.heap.push (seqObj "list" vs.toArray 0)).get? s1.heap.objs.size = some (seqObj "list" vs.toArray 0) := Heap.get?_push_size _ rfl
  have at_ : ∀ q ∈ L, IsPS (s1.heap.push (seqObj "list" vs.toArray 0)) (.ref q.1) (two q.2) := fun q hq =>
    key_pair (P := P) (w := w) (key_kept (R.here q hq) fun b u e => Heap.get?_push_of_some _ (k1 b u e)) (hl q hq)
  have each : ∀ v ∈ vs, IsPS (s1.heap.push (seqObj "list" vs.toArray 0)) v (pairAt (s1.heap.push (seqObj "list" vs.toArray 0)) v) := fun v hv => by
    obtain ⟨q, hq, e⟩ := List.mem_map.mp (pm.mem_iff.mp hv)
    have e : Value.ref q.1 = v := e
    have x := at_ q hq
    rw [e] at x
    rw [x.at]
    exact x
  refine wpAny_bind (wpAny_holding (wpAny_call_entry slot_list_sort ⟨_, hoL, rfl⟩ entry_list_sort
    (SrtO.list_sort_ord (s := { s1 with heap := s1.heap.push (seqObj "list" vs.toArray 0) }) (swo_lexS (pairAt (s1.heap.push (seqObj "list" vs.toArray 0)))) hoL (by rw [lv, sizeLine_eq]; omega) (fun h2 => ?_) fun out hs hb => ⟨_, rfl, ?_⟩) (args_list_sort _)))
  · refine ps_sortable (by omega) each fun u e c => ?_
    have e : some (seqObj "list" vs.toArray 0) = some u := hoL.symm.trans e
    obtain rfl := Option.some.inj e
    exact absurd (Value.type.inj c) (by decide)
  · obtain ⟨L', p1, p2⟩ := perm_of_map (hb.perm.trans pm) rfl
    obtain ⟨c, hc⟩ := sortedHeap_at (vs := vs) (out := out.toArray) hoL
    refine wpAny_pure ⟨_, rfl, hQ _ s1.heap.objs.size out.toArray c L' (fun b u e => ?_) g1 o1 hz hc p2 p1 ?_⟩
    · have q := k1 b u e
      have hlt := Heap.lt_size q
      show (sortedHeap (s1.heap.push (seqObj "list" vs.toArray 0)) s1.heap.objs.size vs out.toArray).get? b = some u
      rw [sortedHeap_old (Nat.ne_of_lt hlt) (by rw [size_push']; exact Nat.lt_succ_of_lt hlt)]
      exact Heap.get?_push_of_some _ q
    · rw [p2] at hs
      refine List.Pairwise.imp_of_mem (fun {q r} hq hr e => ?_) (List.pairwise_map.mp hs)
      have e : lexS (pairAt (s1.heap.push (seqObj "list" vs.toArray 0)) (.ref r.1)) (pairAt (s1.heap.push (seqObj "list" vs.toArray 0)) (.ref q.1)) = false := e
      rw [(at_ q (p1.mem_iff.mp hq)).at, (at_ r (p1.mem_iff.mp hr)).at] at e
      exact e
/-- the set alone, without the tuples -/
def Tp0 (P : Program) (w : World) (h : Heap) (a : Addr) (L : List (Addr × List Str)) : Prop := ∃ (es : Array (Int × Value)) (ep : Nat) (t : SetTable), (∃ o, h.get? a = some o ∧ o.ExactSet ∧ o.data = .set es ep t) ∧
  es.toList = (L.map fun p => (tupleKeyHash (strKind P w) p.2, Value.ref p.1)) ∧ TabOk t (L.map fun p => tupleKeyHash (strKind P w) p.2) ∧ (L.map (·.2)).Nodup ∧ (w.params.followText "set-order" = true ∨ t.led = true) ∧ L.length * 5 < t.mask * 3 ∧ L.length < 64
def SetKO (P : Program) (w : World) (a : Addr) (L : List (Addr × List Str)) : HO := .ext fun h => Tp0 P w h a L
theorem Tps.alone {a : Addr} {L : List (Addr × List Str)} {es : Array (Int × Value)} {ep : Nat} {t : SetTable} {h : Heap} (R : Tps (strKind P w) h a L es ep t) : Tp0 P w h a L := ⟨es, ep, t, R.obj, R.ent, R.tab, R.one, R.led, R.low, R.few⟩
theorem Tp0.full {a : Addr} {L : List (Addr × List Str)} {h : Heap} (R : Tp0 P w h a L) (hk : ∀ p ∈ L, IsTupleKey (strKind P w) h p.2 p.1) : ∃ es ep t, Tps (strKind P w) h a L es ep t := by
  obtain ⟨es, ep, t, r1, r2, r3, r4, r5, r6, r7⟩ := R
  exact ⟨es, ep, t, r1, r2, r3, r4, hk, r5, r6, r7⟩
theorem setKO_new {H : Hp} {h : Heap} {a : Addr} {L : List (Addr × List Str)} (R : Tp0 P w h a L) : ObjOk P w H h a (SetKO P w a L) := by
  have ⟨_, _, _, ⟨o, ho, _⟩, _⟩ := R
  refine ⟨R, ⟨o, ho⟩, fun h1 h2 p k => ?_⟩
  obtain ⟨es, ep, t, ⟨u, hu, r⟩, r2⟩ := p
  exact ⟨es, ep, t, ⟨u, k _ hu, r⟩, r2⟩
theorem items_str : ∀ {k : List Str} {us : List Value}, Vals (k.map V.str) us → ItemsAre (strKind P w) k us
  | [], _, .nil => .nil
  | x :: k, _, .cons r t => by
    obtain ⟨u, rfl⟩ := r
    exact .cons (is_str x u) (items_str t)
theorem refs_vals {κ : Type} : ∀ {ks : List (Addr × κ)} {us : List Value}, Vals (ks.map fun p => V.ref p.1) us → us = ks.map fun p => Value.ref p.1
  | [], _, .nil => rfl
  | p :: ks, _, .cons r t => by
    cases r
    rw [refs_vals t]
    rfl
theorem vals_refs {κ : Type} : ∀ ks : List (Addr × κ), Vals (ks.map fun p => V.ref p.1) (ks.map fun p => Value.ref p.1)
  | [] => .nil
  | _ :: ks => .cons rfl (vals_refs ks)
end
section
variable {X : Cx}
theorem inv_key {pins : List (Addr × Obj)} {σ : L2.St} {H : Hp} {s : Shared} {b : Addr} {k : List Str} (I : Inv X pins σ H s) (h : SqT X.K H b (k.map V.str)) : IsTupleKey (strKind X.prog X.w) s.heap k b := by
  obtain ⟨its, r, ⟨o, ho, hc, n, hd⟩, _⟩ := I.tuple h
  exact ⟨o, its.toArray, n, ho, hc, hd, by simpa using items_str r⟩
/-- set(xs), xs a list of tuples of texts -/
def rSetKs (K : PySem.W.Frag) (P : Program) (w : World) : List V → Hp → VK → Prop := fun xs H Q => ∃ (l : Addr) (ks : List (Addr × List Str)), xs = [V.ref l] ∧ SqL K H l (ks.map fun p => V.ref p.1) ∧ (∀ p ∈ ks, SqT K H p.1 (p.2.map V.str)) ∧ ks.length < 64 ∧
  ∀ a L, H a = none → Has ks L → (L.map (·.2)).Nodup → Q (.ref a) (upd H a (SetKO P w a L))
theorem cr_setKs {P : Program} {w : World} (hp : X.prog = P) (hw : X.w = w) (hc : X.calm = true) (hu : X.A.units + 64 < cLine) : CallR X (.type "set") (rSetKs X.K P w) := by
  subst hp
  subst hw
  intro pins s σ H xs us Q I r h
  obtain ⟨l, ks, rfl, hl, hk, hf, q⟩ := h
  rw [Vals.ref1 r]
  obtain ⟨its, rv, pl, hz⟩ := I.list hl
  refine call_kset (P := X.prog) (w := X.w) str_mild ks (I.ok.hd hc) pl.isList (by simpa using refs_vals rv) (fun p hp => inv_key I (hk p hp)) hf (by omega) fun h' tk L es ep t R g k => ?_
  exact ⟨.ref s.heap.objs.size, _, I.laid (t' := tk) k (Nat.le_refl _) (setKO_new R.alone), rfl, q _ L (I.hok.fresh (Nat.le_refl _)) g R.one⟩
/-- sorted(a set of pairs of texts) -/
def rSortKs (K : PySem.W.Frag) (P : Program) (w : World) : List V → Hp → VK → Prop := fun vs H Q => ∃ (a : Addr) (L : List (Addr × List Str)), vs = [V.ref a] ∧ H a = some (SetKO P w a L) ∧ (∀ p ∈ L, SqT K H p.1 (p.2.map V.str) ∧ p.2.length = 2) ∧
  ∀ (L' : List (Addr × List Str)) (p : Addr), L'.Perm L → L'.Pairwise (fun q r => lexS (two r.2) (two q.2) = false) → H p = none → Q (.ref p) (upd H p (.lst (L'.map fun q => V.ref q.1)))
theorem cr_sortKs {P : Program} {w : World} (hp : X.prog = P) (hw : X.w = w) (hc : X.calm = true) : CallR X (.builtin "sorted") (rSortKs X.K P w) := by
  subst hp
  subst hw
  intro pins s σ H vs us Q I r h
  obtain ⟨a, L, rfl, ha, hk, q⟩ := h
  have R0 : Tp0 X.prog X.w s.heap a L := (I.hok a _ ha).1
  obtain ⟨es, ep, t, R⟩ := R0.full fun p hp => inv_key I (hk p hp).1
  rw [Vals.ref1 r]
  refine sorted_kset R (I.ok.hd hc) (fun p hp => (hk p hp).2) fun s' p out c L' k g o hp hg hout pm pw => ?_
  have few := R.few
  have hlen : (L'.map fun q => V.ref q.1).length ≤ sizeLine := by rw [List.length_map, pm.length_eq, sizeLine_eq]; omega
  have hn : H p = none := I.hok.fresh hp
  have J : Inv X pins σ (upd H p (.lst (L'.map fun q => V.ref q.1))) { s with heap := s'.heap, gens := s'.gens, drawn := s'.drawn, toks := s'.toks } :=
    I.call (ch := []) (Un.laid k hp hn) (I.hok.laid k hp ⟨hlen, out.toList, c, by rw [hout]; exact vals_refs L', hg⟩) (by rw [g]; exact I.bare) (fun _ z => nomatch z)
  have e : s' = { s with heap := s'.heap, gens := s'.gens, drawn := s'.drawn, toks := s'.toks } := by
    cases s'
    cases s
    cases o
    rfl
  rw [e]
  exact ⟨.ref p, _, J, rfl, q L' p pm pw hn⟩
end
end Mo

/-! ### sorted(a list of pairs of texts) -/
namespace Mo
open PySem PySem.Spec PyProof.Rows L2
section
variable {prog : Program} {w : World} {A : Around} {E : Value → Shared → Prop} {s : Shared}
theorem sorted_ps {l : Addr} {vs : List Value} {k : Value → Str × Str} {Q : Value → Shared → Prop} (hl : s.heap.IsList l vs.toArray) (hz : vs.length ≤ sizeLine) (hp : ∀ v ∈ vs, IsPS s.heap v (k v))
    (q : ∀ (h' : Heap) (d : Addr) (out : List Value), out.Perm vs → (out.Pairwise fun v u => lexS (k u) (k v) = false) → (∀ b o, s.heap.get? b = some o → h'.get? b = some o) → s.heap.objs.size ≤ d → (∃ n, h'.get? d = some (seqObj "list" out.toArray n)) → Q (.ref d) { s with heap := h' }) :
    wpAny (model prog w) A (call (.builtin "sorted") [.ref l]) Q E s := by
  refine SrtO.sorted_ord (swo_lexS k) hl hz (fun h2 h1 a ha kk => ?_) fun out hs hb => q _ _ out hb.perm hs (fun b o e => sortedAll_old e) (Nat.le_succ _) (sortedAll_at s.heap vs out.toArray)
  refine ps_sortable (s := { s with heap := h1 }) (by omega) (fun v hm => (hp v hm).keeps fun b o e _ => (kk b o e).2) fun o e => ?_
  obtain rfl := Option.some.inj (e.symm.trans ha)
  exact fun c => absurd (Value.type.inj c) (by decide)
end
section
variable {X : Cx}
/-- sorted(xs), xs a list of pairs of texts -/
def rSortPs (K : PySem.W.Frag) : List V → Hp → VK → Prop := fun vs H Q => ∃ (l : Addr) (ks : List (Addr × List Str)), vs = [V.ref l] ∧ SqL K H l (ks.map fun p => V.ref p.1) ∧ (∀ p ∈ ks, SqT K H p.1 (p.2.map V.str) ∧ p.2.length = 2) ∧
  ∀ (L' : List (Addr × List Str)) (p : Addr), L'.Perm ks → L'.Pairwise (fun q r => lexS (two r.2) (two q.2) = false) → H p = none → Q (.ref p) (upd H p (.lst (L'.map fun q => V.ref q.1)))
theorem cr_sortPs : CallR X (.builtin "sorted") (rSortPs X.K) := by
  intro pins s σ H vs us Q I r h
  obtain ⟨l, ks, rfl, hl, hk, q⟩ := h
  rw [Vals.ref1 r]
  obtain ⟨its, rv, pl, hz⟩ := I.list hl
  obtain rfl := refs_vals rv
  have at_ : ∀ p ∈ ks, IsPS s.heap (.ref p.1) (two p.2) := fun p hp => key_pair (P := X.prog) (w := X.w) (inv_key I (hk p hp).1) (hk p hp).2
  have each : ∀ v ∈ ks.map (fun p => Value.ref p.1), IsPS s.heap v (pairAt s.heap v) := fun v hv => by
    obtain ⟨p, hp, rfl⟩ := List.mem_map.mp hv
    have x := at_ p hp
    rw [x.at]
    exact x
  have hlen : ks.length ≤ sizeLine := by simpa using hz
  refine sorted_ps pl.isList (by rw [List.length_map]; exact hlen) each fun h' d out pm pw kk hd hget => ?_
  obtain ⟨n, hget⟩ := hget
  obtain ⟨L', p1, rfl⟩ := perm_of_map pm rfl
  have J : Inv X pins σ (upd H d (.lst (L'.map fun q => V.ref q.1))) { s with heap := h' } :=
    I.laid (t' := s.toks) kk hd ⟨by rw [List.length_map, p1.length_eq]; exact hlen, L'.map fun p => Value.ref p.1, n, vals_refs L', hget⟩
  refine ⟨.ref d, _, J, rfl, q L' d p1 (List.Pairwise.imp_of_mem (fun {a b} ha hb e => ?_) (List.pairwise_map.mp pw)) (I.hok.fresh hd)⟩
  have e : lexS (pairAt s.heap (.ref b.1)) (pairAt s.heap (.ref a.1)) = false := e
  rw [(at_ a (p1.mem_iff.mp ha)).at, (at_ b (p1.mem_iff.mp hb)).at] at e
  exact e
end
end Mo

/-! ### sorted(a list of texts), any number of them -/
namespace Mo
open PySem PySem.Spec PyProof.Rows L2
theorem swo_strs : SrtO.Swo fun v u => sltB (strOf v) (strOf u) := ⟨fun _ _ => slt_asym, fun _ _ _ => slt_ntr⟩
theorem strs_mem : ∀ {vs : List Value} {ys : List Str}, StrsAre vs ys → ∀ v ∈ vs, ∃ x t, v = Value.str x t
  | _, _, .nil, v, h => absurd h List.not_mem_nil
  | _, _, .cons n t r, v, h => by
    rcases List.mem_cons.mp h with e | h
    · exact ⟨n, t, e⟩
    · exact strs_mem r v h
theorem strOf_strs : ∀ {vs : List Value} {ys : List Str}, StrsAre vs ys → vs.map strOf = ys
  | _, _, .nil => rfl
  | _, _, .cons n t r => congrArg (n :: ·) (strOf_strs r)
theorem vals_strs : ∀ {ys : List Str} {us : List Value}, Vals (ys.map V.str) us → StrsAre us ys
  | [], _, .nil => .nil
  | y :: ys, _, .cons r t => by
    obtain ⟨u, rfl⟩ := r
    exact .cons y u (vals_strs t)
section
variable {prog : Program} {w : World} {A : Around} {E : Value → Shared → Prop} {s : Shared}
theorem str_cmp {vs : List Value} {ys : List Str} (h : StrsAre vs ys) : SrtO.Cmp prog w A s oneType' (fun p => p.1 ∈ vs) (SrtO.lt2 fun v u => sltB (strOf v) (strOf u)) := by
  intro p q hm hm'
  obtain ⟨a, t, e⟩ := strs_mem h _ hm
  obtain ⟨b, u, e'⟩ := strs_mem h _ hm'
  show wpAny (model prog w) A (keyLt' oneType' p.1 q.1) (fun r s' => s' = s ∧ r = sltB (strOf p.1) (strOf q.1)) (fun _ _ => False) s
  rw [e, e', keyLt'_oneType]
  exact oneLt_str ⟨rfl, rfl⟩
theorem str_sortable {a : Addr} {vs : List Value} {ys : List Str} (h : StrsAre vs ys) (h2 : 2 ≤ vs.length) : SrtO.SortableO prog w A s a vs fun v u => sltB (strOf v) (strOf u) := by
  intro h' _
  refine ⟨oneType', fun Q E hq => ?_, str_cmp h⟩
  match vs, h, h2 with
  | v1 :: v2 :: rest, h, _ =>
    rw [keyKind_strs h]
    exact wpAny_pure hq
  | [], _, h => exact absurd h (by decide)
  | [v], _, h => exact absurd h (by simp)
end
section
variable {X : Cx}
/-- sorted(xs), xs a list of texts -/
def rSortStr (K : PySem.W.Frag) : List V → Hp → VK → Prop := fun vs H Q => ∃ (l : Addr) (ys : List Str), vs = [V.ref l] ∧ SqL K H l (ys.map V.str) ∧
  ∀ (zs : List Str) (p : Addr), zs.Perm ys → zs.Pairwise (fun x y => sltB y x = false) → H p = none → Q (.ref p) (upd H p (.lst (zs.map V.str)))
theorem cr_sortStr : CallR X (.builtin "sorted") (rSortStr X.K) := by
  intro pins s σ H vs us Q I r h
  obtain ⟨a, ys, rfl, hs, q⟩ := h
  obtain ⟨its, rv, hl, hz⟩ := I.list hs
  rw [Vals.ref1 r]
  have hi := vals_strs rv
  refine SrtO.sorted_ord swo_strs hl.isList (by rw [← rv.length]; exact hz) (fun h2 h₁ a' _ _ => str_sortable hi h2) fun out h1 h2 => ?_
  have ho : StrsAre out (out.map strOf) := strs_of_all fun v hv => strs_mem hi v (h2.perm.mem_iff.mp hv)
  have pm : (out.map strOf).Perm ys := by
    have q := h2.perm.map strOf
    rw [strOf_strs hi] at q
    exact q
  obtain ⟨ep, he'⟩ := PyProof.Rows.sortedAll_at s.heap its out.toArray
  have hlen : ((out.map strOf).map V.str).length ≤ sizeLine := by
    rw [List.length_map, pm.length_eq]
    rw [List.length_map] at hz
    exact hz
  exact ⟨.ref _, upd H (s.heap.objs.size + 1) (.lst ((out.map strOf).map V.str)), I.laid (t' := s.toks) (fun _ _ => PyProof.Rows.sortedAll_old) (Nat.le_succ _) ⟨hlen, out, ep, vals_of_strs ho, he'⟩, rfl, q _ _ pm (List.pairwise_map.mpr h1) (I.hok.fresh (Nat.le_succ _))⟩
end
end Mo

namespace Mo
open PySem PySem.Spec PyProof.Rows L2
/-! enumerate(v), v a list or a tuple -/
theorem enum_made {v : Value} {o : Obj} {Hd : Heap → Prop} (B : Begins v o Hd) :
    Meets (Builtin.«enumerate.__new__» ⟨[.type "enumerate", v], []⟩) (fun _ R s => Hd s.heap ∧
      R (.ok (.ret (.ref (s.heap.push o).objs.size))) { s with heap := (s.heap.push o).push { cls := .type "enumerate", data := .fields #[.none, .bool false, .ref s.heap.objs.size, rawInt 0, .none, .none] } }) :=
  .of_wp fun prog w A R s hh => by
    obtain ⟨hp, g, dd, tk, os⟩ := s
    obtain ⟨b0, b1⟩ := hh
    have hsub := sub_enumerate
    have it1 : ∀ {A' : Around} {F : Value → Shared → Prop} {Q : Value → Shared → Prop}, Q (.ref hp.objs.size) ⟨hp.push o, g, dd, tk, os⟩ → wpAny (model prog w) A' (pyIter v) Q F ⟨hp, g, dd, tk, os⟩ := fun z => B.iter prog w _ _ ⟨hp, g, dd, tk, os⟩ _ b0 z
    wp_walk using it1
    refine wpAny_stack_any fun st => wpAny_pure ?_
    split
    · rename_i cc _ _ _ _ _
      by_cases ec : (cc == Value.type "enumerate") = true
      · rw [ec]
        wp_walk using it1
        exact ⟨_, rfl, b1⟩
      · rw [Bool.eq_false_iff.mpr ec]
        wp_walk using it1
        exact ⟨_, rfl, b1⟩
    · wp_walk using it1
      exact ⟨_, rfl, b1⟩
theorem enum_call {prog : Program} {w : World} {A : Around} {E : Value → Shared → Prop} {s : Shared} {v : Value} {o : Obj} {Hd : Heap → Prop} {Q : Value → Shared → Prop} (B : Begins v o Hd) (b0 : Hd s.heap)
    (q : ∀ h', IsEnum h' (s.heap.objs.size + 1) s.heap.objs.size 0 .none → h'.get? s.heap.objs.size = some o → (∀ b ob, s.heap.get? b = some ob → h'.get? b = some ob) → Q (.ref (s.heap.objs.size + 1)) { s with heap := h' }) :
    wpAny (model prog w) A (call (.type "enumerate") [v]) Q E s := by
  refine callType_new F.called_enumerate (by decide) (F.typeCall_enumerate_1 _) (F.newCall_enumerate_1 _) (fun ob => F.args_object_init_2 ob _) F.entry_enumerate_new (enum_made B) ⟨b0, ?_⟩
  have n1 : (s.heap.push o).objs.size = s.heap.objs.size + 1 := Heap.size_push ..
  have g1 := Heap.get?_push_size (s.heap.push o) (o := { cls := .type "enumerate", data := .fields #[.none, .bool false, .ref s.heap.objs.size, rawInt 0, .none, .none] }) rfl
  rw [n1] at g1
  show _ ∧ _
  rw [n1]
  exact ⟨⟨_, g1, rfl⟩, q _ g1 (Heap.get?_push_of_some _ (Heap.get?_push_size _ B.free)) fun b ob z => Heap.get?_push_of_some _ (Heap.get?_push_of_some _ z)⟩
def ItE (K : PySem.W.Frag) (a : Addr) (xs : List V) : It := ⟨fun i H => SqT K H a xs ∧ i < xs.length, fun i H v H' => ∃ T x, v = .ref T ∧ H T = none ∧ xs[i]? = some x ∧ H' = upd H T (.tup [.int (i : Nat), x]), fun i H => SqT K H a xs ∧ xs.length ≤ i⟩
theorem turn_enumT {P : Program} {w : World} {K : PySem.W.Frag} {elts : List Expr} {kk : Nat} {tpos : Pos} {xs : List V} {a e it : Addr} (n1 : e ≠ it) (n2 : a ≠ it) (n3 : e ≠ a) :
    Turn P w K (.Tuple elts kk tpos) (ItE K a xs) [e, it] e (fun i h => ((∃ old, IsEnum h e it ((i : Nat) : Int) old) ∧ h.IsTupleIter it a i) ∧ i ≤ xs.length) where
  mem := List.mem_cons_self ..
  obj := fun i h st b hb => by
    obtain ⟨⟨⟨old, he⟩, o, ho, hc, hd⟩, _⟩ := st
    rcases List.mem_cons.mp hb with rfl | hb
    · exact ⟨_, he, fun v q => nomatch q⟩
    · rw [List.mem_singleton.mp hb]
      exact ⟨o, ho, fun v q => by rw [hd] at q; cases q⟩
  keep := fun i h h' st k => by
    obtain ⟨⟨⟨old, he⟩, hi⟩, hle⟩ := st
    exact ⟨⟨⟨old, k e (List.mem_cons_self ..) _ he⟩, hi.at fun o q => k it (List.mem_cons_of_mem _ (List.mem_singleton.mpr rfl)) o q⟩, hle⟩
  item := by
    intro X hP hw hK hc i pins s σ H E I hf st hg
    subst hP hw hK
    obtain ⟨⟨⟨old, he⟩, hit⟩, hle⟩ := st
    obtain ⟨hq, hi⟩ := hg
    obtain ⟨its, rv, pt, _⟩ := I.tuple hq
    have pt : s.heap.IsTuple a its.toArray := pt
    have hsz : i < its.toArray.size := by rw [List.size_toArray, ← rv.length]; exact hi
    have le : e < s.heap.objs.size := Heap.lt_size he
    have li : it < s.heap.objs.size := by
      obtain ⟨_, z, _⟩ := hit
      exact Heap.lt_size z
    have nh : X.A.in1.handled = none := by simpa using I.ok.hd hc
    have nf : e ∉ [it, a] := fun z => by
      rcases List.mem_cons.mp z with z | z
      · exact n1 z
      · exact n3 (List.mem_singleton.mp z)
    refine wpAny_pyNext_enum_itemD (Draws.tuple nh it a n2 its.toArray) he ⟨hit, pt⟩ hsz n1 nf fun u h1 tk hu ho st1 hT _ hk => ?_
    obtain ⟨x, hx⟩ : ∃ x, xs[i]? = some x := ⟨xs[i], List.getElem?_eq_getElem hi⟩
    obtain ⟨u', hu', ru⟩ := rv.get hx
    have eu : u = u' := by
      have z : its.toArray[i]? = some u' := by simpa using hu'
      rw [hu] at z
      exact Option.some.inj z
    subst eu
    refine ⟨_, rfl, wpAny_letOwnedTupleGo_enum (s := { s with heap := h1, toks := tk + 1 }) ho fun h2 he2 sb => ?_⟩
    have hT2 := (sb.2 _ (Nat.ne_of_gt le)).trans hT
    have I1 : Inv X pins σ (upd H s.heap.objs.size (.tup [.int (i : Nat), x])) { s with heap := h2, toks := tk + 1 } := by
      refine I.turnedNew (ch := [e, it]) (fun b ob hb z => ?_) hf (Nat.le_refl _) ⟨by show 2 ≤ sizeLine; decide, [.int i tk, u], .cons ⟨_, rfl⟩ (.cons ru .nil), ⟨_, hT2, rfl, _, rfl⟩⟩
      have nb1 : b ≠ e := fun z => hb (by rw [z]; exact List.mem_cons_self ..)
      have nb2 : b ≠ it := fun z => hb (by rw [z]; exact List.mem_cons_of_mem _ (List.mem_singleton.mpr rfl))
      exact (sb.2 b nb1).trans (hk b ob nb1 nb2 z)
    refine ⟨.ref s.heap.objs.size, _, I1, rfl, ⟨_, x, rfl, I.hok.fresh (Nat.le_refl _), hx, rfl⟩, ⟨⟨⟨u, ?_⟩, st1.1.at fun o z => (sb.2 it (Ne.symm n1)).trans z⟩, hi⟩, fun b hb => ?_⟩
    · have e1 : ((i + 1 : Nat) : Int) = (i : Int) + 1 := Int.natCast_succ i
      rw [e1]
      exact he2
    · have lb : b < s.heap.objs.size := by
        rcases List.mem_cons.mp hb with rfl | hb
        · exact le
        · rw [List.mem_singleton.mp hb]
          exact li
      rw [upd_ne (Nat.ne_of_lt lb)]
      exact (hf b hb).1
  done := by
    intro X hP hw hK hc i pins s σ H E I hf st hg
    subst hP hw hK
    obtain ⟨⟨⟨old, he⟩, hit⟩, hle⟩ := st
    obtain ⟨hq, hge⟩ := hg
    obtain ⟨its, rv, pt, _⟩ := I.tuple hq
    have pt : s.heap.IsTuple a its.toArray := pt
    have ei : its.toArray.size = i := by
      rw [List.size_toArray, ← rv.length]
      omega
    obtain ⟨f0, f1, f2, f3, f4, f5⟩ := hf it (List.mem_cons_of_mem _ (List.mem_singleton.mpr rfl))
    have nh : X.A.in1.handled = none := by simpa using I.ok.hd hc
    exact wpAny_pyNext_enum_endD (Draws.tuple nh it a n2 its.toArray) he ⟨by rw [ei]; exact hit, pt⟩ fun h' eb => ⟨rfl, I.turned (t' := s.toks) (fun b o hb z => eb b o hb z) f0 f1 f3 f4 f5⟩
  self := fun A i s Q E st h => by
    obtain ⟨⟨⟨_, he⟩, _⟩, _⟩ := st
    exact wpAny_pyIter_enum he h
/-- enumerate of a list or of a tuple -/
def enJ (K : PySem.W.Frag) (a : Addr) (xs : List V) : Bool → It
  | true => ItE K a xs
  | false => Ite K a
def enO (xs : List V) : Bool → HO
  | true => .tup xs
  | false => .lst xs
def iEnumB (K : PySem.W.Frag) (ta : TA) : TI := fun σ H R => ta σ H fun vs H1 => ∃ (a : Addr) (xs : List V) (b : Bool), vs = [.ref a] ∧ H1 a = some (enO xs b) ∧ R (enJ K a xs b) H1
section
variable {X : Cx}
theorem pi_enumB {e : Expr} {ta : TA} {p pos tpos : Pos} {elts : List Expr} {kk : Nat} (hg : Gl X "enumerate") (hm : X.mg "enumerate" = none) (ha : PA X [e] ta) (hs : starEach [e] X.env = [(false, eval e X.env)] := by rfl) :
    PI X (.Tuple elts kk tpos) (.Call (.Name "enumerate" p) [e] [] pos) (iEnumB X.K ta) := by
  refine ⟨fun pins s σ H R I h => ?_⟩
  refine Call_ (ld_blt I hg hm boot_enumerate (PyProof.Rows.callWith_type1 (thn (ha.run pos pins s σ H _ I h) fun us s1 ⟨vs, H1, I1, r1, q1⟩ => ?_) hs rfl))
  obtain ⟨a, xs, b, rfl, hb, q⟩ := q1
  obtain ⟨u, rfl, ru⟩ := vals1 r1
  cases (show u = Value.ref a from ru)
  have far : ∀ b ∈ [s1.heap.objs.size + 1, s1.heap.objs.size], s1.heap.objs.size ≤ b := fun b hb => by
    rcases List.mem_cons.mp hb with rfl | hb
    · exact Nat.le_succ _
    · exact Nat.le_of_eq (List.mem_singleton.mp hb).symm
  cases b with
  | false =>
    obtain ⟨its, rv, pl, _⟩ := I1.list (SqL.of hb)
    exact enum_call (begins_list a its.toArray) pl.isList fun h' he hi hk => wpAny_pyIter_enum he
      ⟨s1.heap.objs.size + 1, _, _, _, H1, rfl, I1.kept (t' := s1.toks) hk, turn_enum a (s1.heap.objs.size + 1) s1.heap.objs.size, ⟨⟨.none, he⟩, ⟨_, hi, rfl, rfl⟩, Nat.succ_ne_self _⟩, fun b hb => I1.fpOk (far b hb) (I1.hok.fresh (far b hb)), q⟩
  | true =>
    obtain ⟨its, rv, pt, _⟩ := I1.tuple (SqT.of hb)
    have pt : s1.heap.IsTuple a its.toArray := pt
    have la : a < s1.heap.objs.size := by
      obtain ⟨_, z, _⟩ := pt
      exact Heap.lt_size z
    exact enum_call (begins_tuple a its.toArray) pt fun h' he hi hk => wpAny_pyIter_enum he
      ⟨s1.heap.objs.size + 1, _, _, _, H1, rfl, I1.kept (t' := s1.toks) hk, turn_enumT (a := a) (e := s1.heap.objs.size + 1) (it := s1.heap.objs.size) (Nat.succ_ne_self _) (Nat.ne_of_lt la) (Nat.ne_of_gt (Nat.lt_succ_of_lt la)), ⟨⟨⟨.none, he⟩, ⟨_, hi, rfl, rfl⟩⟩, Nat.zero_le _⟩, fun b hb => I1.fpOk (far b hb) (I1.hok.fresh (far b hb)), q⟩
end
/-- one walk for both -/
theorem walk_enB {K : PySem.W.Frag} {a : Addr} {xs : List V} {b : Bool} : Walk (enJ K a xs b) xs.length (fun H' => H' a = some (enO xs b)) (YPair (fun i => some (.int (i : Nat))) (fun i => xs[i]?)) := by
  cases b with
  | false => exact walk_enum.mono (fun H' h' => SqL.of h') fun _ _ _ _ _ _ y => y
  | true => exact ⟨fun i H' hi h' => ⟨SqT.of h', hi⟩, fun H' h' => ⟨SqT.of h', Nat.le_refl _⟩, fun i H' v H2 hi h' y => by
      obtain ⟨T, x, h1, h2, h3, h4⟩ := y
      exact ⟨T, _, x, h1, h2, h4, rfl, h3⟩⟩
end Mo
namespace Mo
open PySem PySem.Spec PyProof.Rows L2
theorem pi_listK {X : Cx} {K : PySem.W.Frag} {tg l : Expr} {tl : TE} (h : X.K = K) (hl : PE X l tl) : PI X tg l (iList K tl) := by
  subst h
  exact pi_list hl
end Mo

/-! ### zip of a tuple with a list; walks of a list or of a tuple -/
namespace Mo
open PySem PySem.Spec PyProof.Rows L2
def ItM (K : PySem.W.Frag) (a b : Addr) (xs ys : List V) : It := ⟨fun i H => (SqT K H a xs ∧ SqL K H b ys) ∧ i < xs.length ∧ i < ys.length, fun i H v H' => ∃ T x y, v = .ref T ∧ H T = none ∧ xs[i]? = some x ∧ ys[i]? = some y ∧ H' = upd H T (.tup [x, y]),
  fun i H => (SqT K H a xs ∧ SqL K H b ys) ∧ (xs.length ≤ i ∨ ys.length ≤ i)⟩
/-- the cells lie apart -/
structure Far (z TI TO i1 i2 a b : Addr) : Prop where
  nd : [z, TI, TO, i1, i2].Nodup
  na : a ∉ [z, TI, TO, i1, i2]
  nb : b ∉ [z, TI, TO, i1, i2]
theorem Far.sep {z TI TO i1 i2 a b : Addr} (f : Far z TI TO i1 i2 a b) : ZipSep2 z TI TO i1 i2 [i1, a] [i2, b] := by
  obtain ⟨nd, na, nb⟩ := f
  simp only [List.nodup_cons, List.mem_cons, List.not_mem_nil, or_false, not_or] at nd na nb
  obtain ⟨⟨z1, z2, z3, z4⟩, ⟨t1, t2, t3⟩, ⟨o1, o2⟩, j, _⟩ := nd
  obtain ⟨a1, a2, a3, a4, a5⟩ := na
  obtain ⟨b1, b2, b3, b4, b5⟩ := nb
  exact ⟨Ne.symm z1, Ne.symm z2, t1, t2, by simp, by simp only [List.mem_cons, List.not_mem_nil, or_false, not_or]; exact ⟨z3, Ne.symm a1⟩, by simp only [List.mem_cons, List.not_mem_nil, or_false, not_or]; exact ⟨o1, Ne.symm a3⟩, t3, by simp,
    by simp only [List.mem_cons, List.not_mem_nil, or_false, not_or]; exact ⟨z4, Ne.symm b1⟩, by simp only [List.mem_cons, List.not_mem_nil, or_false, not_or]; exact ⟨o2, Ne.symm b3⟩,
    by simp only [List.mem_cons, List.not_mem_nil, or_false, not_or]; exact ⟨j, Ne.symm b4⟩, by simp only [List.mem_cons, List.not_mem_nil, or_false, not_or]; exact ⟨Ne.symm j, Ne.symm a5⟩⟩
theorem turn_zipM {P : Program} {w : World} {K : PySem.W.Frag} {elts : List Expr} {kk : Nat} {tpos : Pos} {xs ys : List V} {a b z TI TO i1 i2 : Addr} (f : Far z TI TO i1 i2 a b) :
    Turn P w K (.Tuple elts kk tpos) (ItM K a b xs ys) [z, TI, TO, i1, i2] z (fun i h => (IsZip h z TI TO .none ∧ IsTupOf2 h TI (.ref i1) (.ref i2) ∧ (∃ x y, IsTupOf2 h TO x y) ∧ h.IsTupleIter i1 a i ∧ h.IsListIter i2 b i) ∧ i ≤ xs.length ∧ i ≤ ys.length) where
  mem := List.mem_cons_self ..
  obj := fun i h st c hc => by
    obtain ⟨⟨hz, hTI, ⟨x, y, hTO⟩, ⟨o1, e1, _, d1⟩, ⟨o2, e2, _, d2⟩⟩, _⟩ := st
    simp only [List.mem_cons, List.not_mem_nil, or_false] at hc
    rcases hc with q | q | q | q | q <;> rw [q]
    · exact ⟨_, hz, fun v q => nomatch q⟩
    · exact ⟨_, hTI, fun v q => nomatch q⟩
    · exact ⟨_, hTO, fun v q => nomatch q⟩
    · exact ⟨o1, e1, fun v q => by rw [d1] at q; cases q⟩
    · exact ⟨o2, e2, fun v q => by rw [d2] at q; cases q⟩
  keep := fun i h h' st k => by
    obtain ⟨⟨hz, hTI, ⟨x, y, hTO⟩, h1, h2⟩, hle⟩ := st
    exact ⟨⟨k z (by simp) _ hz, k TI (by simp) _ hTI, ⟨x, y, k TO (by simp) _ hTO⟩, h1.at fun o q => k i1 (by simp) o q, h2.at fun o q => k i2 (by simp) o q⟩, hle⟩
  item := by
    intro X hP hw hK hc i pins s σ H E I hf st hg
    subst hP hw hK
    obtain ⟨⟨hz, hTI, ⟨x0, y0, hTO⟩, h1, h2⟩, _⟩ := st
    obtain ⟨⟨hqx, hqy⟩, ix, iy⟩ := hg
    obtain ⟨its, rv, p, _⟩ := I.tuple hqx
    obtain ⟨its2, rv2, p2, _⟩ := I.list hqy
    have p : s.heap.IsTuple a its.toArray := p
    have s1 : i < its.toArray.size := by rw [List.size_toArray, ← rv.length]; exact ix
    have s2 : i < its2.toArray.size := by rw [List.size_toArray, ← rv2.length]; exact iy
    have hzl : z < s.heap.objs.size := Heap.lt_size hz
    have nh : X.A.in1.handled = none := by simpa using I.ok.hd hc
    have S := f.sep
    have na := f.na
    have nb := f.nb
    simp only [List.mem_cons, List.not_mem_nil, or_false, not_or] at na nb
    refine wpAny_pyNext_zipD2_item S (Draws.tuple nh i1 a na.2.2.2.1 its.toArray) (Draws.list nh i2 b nb.2.2.2.2 its2.toArray) hz hTI hTO ⟨h1, p⟩ ⟨h2, p2.isList⟩ s1 s2 fun u u2 h' tk g1 g2 z' TO' st1 st2 hT hsz hk => ?_
    refine ⟨_, rfl, wpAny_letOwnedTupleGo_zip (s := { s with heap := h', toks := tk }) z' fun h'' z'' sb => ?_⟩
    have hT2 : h''.get? s.heap.objs.size = some { cls := .type "tuple", data := .seq #[u, u2] } := (sb.2 _ (Nat.ne_of_gt hzl)).trans hT
    obtain ⟨x, hx⟩ : ∃ x, xs[i]? = some x := ⟨xs[i], List.getElem?_eq_getElem ix⟩
    obtain ⟨y, hy⟩ : ∃ y, ys[i]? = some y := ⟨ys[i], List.getElem?_eq_getElem iy⟩
    obtain ⟨v1, hv1, r1⟩ := rv.get hx
    obtain ⟨v2, hv2, r2⟩ := rv2.get hy
    have e1 : u = v1 := by
      have q : its.toArray[i]? = some v1 := by simpa using hv1
      rw [g1] at q
      exact Option.some.inj q
    have e2 : u2 = v2 := by
      have q : its2.toArray[i]? = some v2 := by simpa using hv2
      rw [g2] at q
      exact Option.some.inj q
    subst e1
    subst e2
    have I1 : Inv X pins σ (upd H s.heap.objs.size (.tup [x, y])) { s with heap := h'', toks := tk } := by
      refine I.turnedNew (ch := [z, TI, TO, i1, i2]) (fun c o hb q => ?_) hf (Nat.le_refl _) ⟨by show 2 ≤ sizeLine; decide, [u, u2], .cons r1 (.cons r2 .nil), ⟨_, hT2, rfl, _, rfl⟩⟩
      simp only [List.mem_cons, List.not_mem_nil, or_false, not_or] at hb
      exact (sb.2 c hb.1).trans (hk c o hb.1 hb.2.2.1 hb.2.2.2.1 hb.2.2.2.2 q)
    refine ⟨.ref s.heap.objs.size, _, I1, rfl, ⟨_, x, y, rfl, I.hok.fresh (Nat.le_refl _), hx, hy, rfl⟩, ⟨⟨z'', ?_, ⟨u, u2, ?_⟩, ?_, ?_⟩, ix, iy⟩, fun c hcm => ?_⟩
    · refine (sb.2 _ S.TIz).trans (hk _ _ S.TIz S.TITO S.TIi1 S.TIi2 hTI)
    · exact (sb.2 _ S.TOz).trans TO'
    · exact st1.1.at fun o q => (sb.2 _ (Ne.symm S.zi1)).trans q
    · exact st2.1.at fun o q => (sb.2 _ (Ne.symm S.zi2)).trans q
    · have hlt : c < s.heap.objs.size := by
        simp only [List.mem_cons, List.not_mem_nil, or_false] at hcm
        rcases hcm with q | q | q | q | q <;> rw [q]
        · exact hzl
        · exact Heap.lt_size hTI
        · exact Heap.lt_size hTO
        · obtain ⟨_, e1, _⟩ := h1
          exact Heap.lt_size e1
        · obtain ⟨_, e2, _⟩ := h2
          exact Heap.lt_size e2
      rw [upd_ne (Nat.ne_of_lt hlt)]
      exact (hf c hcm).1
  done := by
    intro X hP hw hK hc i pins s σ H E I hf st hg
    subst hP hw hK
    obtain ⟨⟨hz, hTI, ⟨x0, y0, hTO⟩, h1, h2⟩, le1, le2⟩ := st
    obtain ⟨⟨hqx, hqy⟩, hend⟩ := hg
    obtain ⟨its, rv, p, _⟩ := I.tuple hqx
    obtain ⟨its2, rv2, p2, _⟩ := I.list hqy
    have p : s.heap.IsTuple a its.toArray := p
    have l1 : its.toArray.size = xs.length := by rw [List.size_toArray, ← rv.length]
    have l2 : its2.toArray.size = ys.length := by rw [List.size_toArray, ← rv2.length]
    have nh : X.A.in1.handled = none := by simpa using I.ok.hd hc
    have na := f.na
    have nb := f.nb
    simp only [List.mem_cons, List.not_mem_nil, or_false, not_or] at na nb
    refine wpAny_pyNext_zipD2_end f.sep (Draws.tuple nh i1 a na.2.2.2.1 its.toArray) (Draws.list nh i2 b nb.2.2.2.2 its2.toArray) hz hTI hTO ⟨h1, p⟩ ⟨h2, p2.isList⟩ (by omega) (by omega) (by omega) fun h' tk hk => ⟨rfl, I.turnedL (t' := tk) (ch := [z, TI, TO, i1, i2]) (fun c o hb q => ?_) hf⟩
    simp only [List.mem_cons, List.not_mem_nil, or_false, not_or] at hb
    exact hk c o hb.1 hb.2.2.1 hb.2.2.2.1 hb.2.2.2.2 q
  self := fun A i s Q E st h => wpAny_pyIter_zip st.1.1 h
/-- zip of a list or of a tuple with a list -/
def zbJ (K : PySem.W.Frag) (a b : Addr) (xs ys : List V) : Bool → It
  | true => ItM K a b xs ys
  | false => Itz K a b
def iZipB (K : PySem.W.Frag) (ta : TA) : TI := fun σ H R => ta σ H fun vs H1 => ∃ (a b : Addr) (xs ys : List V) (f : Bool), vs = [.ref a, .ref b] ∧ H1 a = some (enO xs f) ∧ H1 b = some (.lst ys) ∧ R (zbJ K a b xs ys f) H1
/-- a list or a tuple, walked -/
def sqJ (K : PySem.W.Frag) (a : Addr) : Bool → It
  | true => Itt K a
  | false => Itl K a
def iSeqB (K : PySem.W.Frag) (tl : TE) : TI := fun σ H R => tl σ H fun x H1 => ∃ (a : Addr) (xs : List V) (f : Bool), x = .ref a ∧ H1 a = some (enO xs f) ∧ R (sqJ K a f) H1
section
variable {X : Cx} {K : PySem.W.Frag}
theorem pi_zipB {e e2 : Expr} {ta : TA} {p pos tpos : Pos} {elts : List Expr} {kk : Nat} (hK : X.K = K) (hg : Gl X "zip") (hm : X.mg "zip" = none) (ha : PA X [e, e2] ta)
    (hs : starEach [e, e2] X.env = (false, eval e X.env) :: starEach [e2] X.env := by rfl) (hpl : (backTo pos (starEach [e2] X.env)).any (·.1) = false := by rfl) :
    PI X (.Tuple elts kk tpos) (.Call (.Name "zip" p) [e, e2] [] pos) (iZipB K ta) := by
  subst hK
  refine ⟨fun pins s σ H R I h => ?_⟩
  refine Call_ (ld_blt I hg hm PyProof.Rows.boot_zip (PyProof.Rows.callWith_type1 (thn (ha.run pos pins s σ H _ I h) fun us s1 ⟨vs, H1, I1, r1, q1⟩ => ?_) hs hpl))
  obtain ⟨a, b, xs, ys, f, ex, h1, h2, q⟩ := q1
  subst ex
  cases r1 with
  | cons r rr =>
    cases rr with
    | cons r' rr =>
      cases rr
      cases r
      cases r'
      have far : ∀ c ∈ [s1.heap.objs.size + 4, s1.heap.objs.size + 2, s1.heap.objs.size + 3, s1.heap.objs.size, s1.heap.objs.size + 1], s1.heap.objs.size ≤ c := fun c hc => by
        simp only [List.mem_cons, List.not_mem_nil, or_false] at hc
        rcases hc with q | q | q | q | q <;> rw [q]
        · exact Nat.le_add_right _ _
        · exact Nat.le_add_right _ _
        · exact Nat.le_add_right _ _
        · exact Nat.le_refl _
        · exact Nat.le_add_right _ _
      have old : ∀ {c : Addr} {o : Obj}, s1.heap.get? c = some o → c ∉ [s1.heap.objs.size + 4, s1.heap.objs.size + 2, s1.heap.objs.size + 3, s1.heap.objs.size, s1.heap.objs.size + 1] := fun ho hc => absurd (Heap.lt_size ho) (Nat.not_lt.mpr (far _ hc))
      obtain ⟨its2, rv2, p2, _⟩ := I1.list (SqL.of h2)
      obtain ⟨o2, ho2, _⟩ := id p2.isList
      cases f with
      | false =>
        obtain ⟨its, rv, p1, _⟩ := I1.list (SqL.of h1)
        refine call_zip_2 p1.isList p2.isList fun h' hz hTI hTO g1 g2 hsz hk => wpAny_pyIter_zip hz ?_
        exact ⟨s1.heap.objs.size + 4, _, _, _, H1, rfl, I1.kept (t' := s1.toks) hk, turn_zip (PySem.W.ktu_apart s1.heap.objs.size a b p1.lt p2.lt), ⟨hz, hTI, ⟨_, _, hTO⟩, g1, g2⟩, fun c hc => I1.fpOk (far c hc) (I1.hok.fresh (far c hc)), q⟩
      | true =>
        obtain ⟨its, rv, pt, _⟩ := I1.tuple (SqT.of h1)
        have pt : s1.heap.IsTuple a its.toArray := pt
        obtain ⟨o1, ho1, _⟩ := id pt
        refine zip_begins2 (begins_tuple a its.toArray) (begins_list b its2.toArray) pt p2.isList fun h' hz hTI hTO g1 g2 hsz hk => wpAny_pyIter_zip hz ?_
        exact ⟨s1.heap.objs.size + 4, _, _, _, H1, rfl, I1.kept (t' := s1.toks) hk, turn_zipM (xs := xs) (ys := ys) ⟨by simp, old ho1, old ho2⟩, ⟨⟨hz, hTI, ⟨_, _, hTO⟩, ⟨_, g1, rfl, rfl⟩, ⟨_, g2, rfl, rfl⟩⟩, Nat.zero_le _, Nat.zero_le _⟩, fun c hc => I1.fpOk (far c hc) (I1.hok.fresh (far c hc)), q⟩
theorem walk_zipB {a b : Addr} {xs ys : List V} {f : Bool} {n : Nat} (hn : n = min xs.length ys.length) : Walk (zbJ K a b xs ys f) n (fun H' => H' a = some (enO xs f) ∧ H' b = some (.lst ys)) (YPair (fun i => xs[i]?) (fun i => ys[i]?)) := by
  cases f with
  | false => exact (walk_zip hn).mono (fun H' h' => ⟨SqL.of h'.1, SqL.of h'.2⟩) fun _ _ _ _ _ _ y => y
  | true => exact ⟨fun i H' hi h' => ⟨⟨SqT.of h'.1, SqL.of h'.2⟩, by omega, by omega⟩, fun H' h' => ⟨⟨SqT.of h'.1, SqL.of h'.2⟩, by omega⟩, fun i H' v H2 hi h' y => by
      obtain ⟨T, x, z, h1, h2, h3, h4, h5⟩ := y
      exact ⟨T, x, z, h1, h2, h5, h3, h4⟩⟩
theorem pi_seqB {tg l : Expr} {tl : TE} (hK : X.K = K) (hl : PE X l tl) : PI X tg l (iSeqB K tl) := by
  subst hK
  refine ⟨fun pins s σ H R I h => ?_⟩
  refine thn (hl.run pins s σ H _ I h) fun v s1 ⟨x, H1, I1, r1, q1⟩ => ?_
  obtain ⟨a, xs, f, e, ha, q⟩ := q1
  subst e
  cases r1
  have one : ∀ b ∈ [s1.heap.objs.size], FpOk X pins H1 b := fun b hb => by
    rw [List.mem_singleton.mp hb]
    exact I1.fpOk (Nat.le_refl _) (I1.hok.fresh (Nat.le_refl _))
  cases f with
  | false =>
    obtain ⟨its, rv, p, _⟩ := I1.list (SqL.of ha)
    exact wpAny_pyIter_list p.isList ⟨s1.heap.objs.size, _, _, _, H1, rfl, I1.kept (t' := s1.toks) fun b o e => Heap.get?_push_of_some _ e, turn_list a _, ⟨_, Heap.get?_push_size _ rfl, rfl, rfl⟩, one, q⟩
  | true =>
    obtain ⟨its, rv, p, _⟩ := I1.tuple (SqT.of ha)
    exact wpAny_pyIter_tuple (show s1.heap.IsTuple a its.toArray from p) ⟨s1.heap.objs.size, _, _, _, H1, rfl, I1.kept (t' := s1.toks) fun b o e => Heap.get?_push_of_some _ e, turn_tuple a _, ⟨_, Heap.get?_push_size _ rfl, rfl, rfl⟩, one, q⟩
theorem walk_sqB {a : Addr} {xs : List V} {f : Bool} : Walk (sqJ K a f) xs.length (fun H' => H' a = some (enO xs f)) (YAt xs) := by
  cases f with
  | false => exact walk_list.mono (fun H' h' => SqL.of h') fun _ _ _ _ _ _ y => y
  | true => exact walk_tup.mono (fun H' h' => SqT.of h') fun _ _ _ _ _ _ y => y
/-- a list or a tuple, as the rules that take both ask for it -/
theorem sqB {H : Hp} {a : Addr} {xs : List V} {f : Bool} (h : H a = some (enO xs f)) : SqL K H a xs ∨ SqT K H a xs := by
  cases f with
  | false => exact .inl (SqL.of h)
  | true => exact .inr (SqT.of h)
end
end Mo

/-! ### list(zip(..)): a zip whose tuples are kept -/
namespace Mo
open PySem PySem.Spec PyProof.Rows L2
section
variable {prog : Program} {w : World} {A : Around} {E : Value → Shared → Prop} {s : Shared}
variable {z TI TO i1 i2 : Addr} {fp1 fp2 : List Addr} {n1 n2 i : Nat} {P1 P2 : Nat → Value → Prop} {St1 St2 : Nat → Heap → Prop}
theorem held_item {T : Addr} {f : Bool} {oT : Obj} {Q : Value → Shared → Prop} (S : ZipSep2 z TI TO i1 i2 fp1 fp2) (D1 : Draws prog w A i1 fp1 n1 P1 St1) (D2 : Draws prog w A i2 fp2 n2 P2 St2)
    (hz : IsZipHeld s.heap z TI TO T f) (hT : s.heap.get? T = some oT) (ti : IsTupOf2 s.heap TI (.ref i1) (.ref i2)) (s1 : St1 i s.heap) (s2 : St2 i s.heap) (l1 : i < n1) (l2 : i < n2)
    (q : ∀ x y h' tk, P1 i x → P2 i y → IsZipHeld h' z TI TO T true → St1 (i + 1) h' → St2 (i + 1) h' → IsTupOf2 h' s.heap.objs.size x y →
      (∀ c o, c ≠ z → c ≠ i1 → c ≠ i2 → s.heap.get? c = some o → h'.get? c = some o) → Q (.ref s.heap.objs.size) { s with heap := h', toks := tk }) :
    wpAny (model prog w) A (Builtin.«zip.__next__» ⟨[.ref z], []⟩) (fun fin s' => ∃ v, fin = .done (.ret v) ∧ Q v s') E s := by
  obtain ⟨hp, g, d, tk0, os⟩ := s
  show wpAny _ _ (field (.ref z) 2 >>= _) _ _ _
  refine wpAny_bind (wpAny_field hz rfl (x := .bool false) rfl ?_)
  show wpAny _ _ (field (.ref z) 3 >>= _) _ _ _
  refine wpAny_bind (wpAny_field hz rfl (x := .ref TI) rfl (wpAny_bind (wpAny_seqItems ti rfl ?_)))
  show wpAny _ _ (Builtin.SmallTypes.ownedTupleIsFree (.ref z) >>= _) _ _ _
  refine wpAny_bind (wpAny_tupleHeld_zip hz hT fun h1 hz1 b1 => ?_)
  simp only [Bool.false_eq_true, if_false]
  refine wpAny_bind ?_
  rw [← Array.forIn_toList]
  simp only [List.forIn_cons, List.forIn_nil]
  refine wpAny_bind (wpAny_bind (wpAny_holding ?_))
  show wpAny _ _ (Builtin.SmallTypes.nextOf (.ref i1) >>= _) _ _ ⟨h1, g, d, tk0, os⟩
  have b1 : Heap.SameBut z hp h1 := b1
  refine wpAny_bind (D1.item i _ _ _ l1 (D1.over s1 b1 S.zf1) fun x h2 tk1 px t1 b2 => wpAny_pure (wpAny_pure ?_))
  have b2 : Heap.SameBut i1 h1 h2 := b2
  refine wpAny_bind (wpAny_bind (wpAny_holding ?_))
  show wpAny _ _ (Builtin.SmallTypes.nextOf (.ref i2) >>= _) _ _ ⟨h2, g, d, tk1, os⟩
  refine wpAny_bind (D2.item i _ _ _ l2 (D2.over (D2.over s2 b1 S.zf2) b2 S.sep1_2) fun y h3 tk2 py t2 b3 => wpAny_pure (wpAny_pure (wpAny_pure ?_)))
  have b3 : Heap.SameBut i2 h2 h3 := b3
  show wpAny _ _ (newTuple [x, y] >>= _) _ _ _
  refine wpAny_bind (wpAny_newTuple ?_)
  have sz : h3.objs.size = hp.objs.size := by rw [b3.1, b2.1, b1.1]
  have z3 : IsZipHeld h3 z TI TO T true := b3.extBut _ _ S.zi2 (b2.extBut _ _ S.zi1 hz1)
  have k3 : ∀ c o, c ≠ z → c ≠ i1 → c ≠ i2 → hp.get? c = some o → h3.get? c = some o := fun c o c1 c2 c3 e => b3.extBut _ _ c3 (b2.extBut _ _ c2 (b1.extBut _ _ c1 e))
  refine wpAny_pure ⟨_, rfl, ?_⟩
  show Q (.ref h3.objs.size) ⟨h3.push { cls := .type "tuple", data := .seq #[x, y] }, g, d, tk2, os⟩
  have np : IsTupOf2 (h3.push { cls := .type "tuple", data := .seq #[x, y] }) h3.objs.size x y := Heap.get?_push_size _ rfl
  rw [sz] at np ⊢
  exact q x y _ tk2 px py (Heap.get?_push_of_some _ z3) (D1.frame _ _ _ (D1.over t1 b3 S.sep2_1) fun b _ o e => Heap.get?_push_of_some _ e) (D2.frame _ _ _ t2 fun b _ o e => Heap.get?_push_of_some _ e) np
    fun c o c1 c2 c3 e => Heap.get?_push_of_some _ (k3 c o c1 c2 c3 e)
theorem held_end {T : Addr} {f : Bool} {oT : Obj} {Q : Fin → Shared → Prop} (S : ZipSep2 z TI TO i1 i2 fp1 fp2) (D1 : Draws prog w A i1 fp1 n1 P1 St1) (D2 : Draws prog w A i2 fp2 n2 P2 St2)
    (hz : IsZipHeld s.heap z TI TO T f) (hT : s.heap.get? T = some oT) (ti : IsTupOf2 s.heap TI (.ref i1) (.ref i2)) (s1 : St1 i s.heap) (s2 : St2 i s.heap) (l1 : i ≤ n1) (l2 : i ≤ n2) (le : i = n1 ∨ i = n2)
    (q : ∀ h' tk e, (∀ c o, c ≠ z → c ≠ i1 → c ≠ i2 → s.heap.get? c = some o → h'.get? c = some o) → (∃ o, h'.get? e = some o ∧ o.cls = .type "StopIteration") → E (.ref e) { s with heap := h', toks := tk }) :
    wpAny (model prog w) A (Builtin.«zip.__next__» ⟨[.ref z], []⟩) Q E s := by
  obtain ⟨hp, g, d, tk0, os⟩ := s
  show wpAny _ _ (field (.ref z) 2 >>= _) _ _ _
  refine wpAny_bind (wpAny_field hz rfl (x := .bool false) rfl ?_)
  show wpAny _ _ (field (.ref z) 3 >>= _) _ _ _
  refine wpAny_bind (wpAny_field hz rfl (x := .ref TI) rfl (wpAny_bind (wpAny_seqItems ti rfl ?_)))
  show wpAny _ _ (Builtin.SmallTypes.ownedTupleIsFree (.ref z) >>= _) _ _ _
  refine wpAny_bind (wpAny_tupleHeld_zip hz hT fun h1 hz1 b1 => ?_)
  simp only [Bool.false_eq_true, if_false]
  refine wpAny_bind ?_
  rw [← Array.forIn_toList]
  simp only [List.forIn_cons, List.forIn_nil]
  refine wpAny_bind (wpAny_bind (wpAny_holding ?_))
  show wpAny _ _ (Builtin.SmallTypes.nextOf (.ref i1) >>= _) _ _ ⟨h1, g, d, tk0, os⟩
  have b1 : Heap.SameBut z hp h1 := b1
  by_cases lt : i < n1
  · refine wpAny_bind (D1.item i _ _ _ lt (D1.over s1 b1 S.zf1) fun x h2 tk1 px t1 b2 => wpAny_pure (wpAny_pure ?_))
    have b2 : Heap.SameBut i1 h1 h2 := b2
    have e2 : i = n2 := by omega
    refine wpAny_bind (wpAny_bind (wpAny_holding ?_))
    show wpAny _ _ (Builtin.SmallTypes.nextOf (.ref i2) >>= _) _ _ ⟨h2, g, d, tk1, os⟩
    refine wpAny_bind (D2.done ⟨h2, g, d, tk1, os⟩ _ _ (by rw [← e2]; exact D2.over (D2.over s2 b1 S.zf2) b2 S.sep1_2) fun h3 e b3 he => ?_)
    exact q h3 tk1 e (fun c o c1 c2 c3 u => b3 _ _ c3 (b2.extBut _ _ c2 (b1.extBut _ _ c1 u))) he
  · have e1 : i = n1 := by omega
    refine wpAny_bind (D1.done ⟨h1, g, d, tk0, os⟩ _ _ (by rw [← e1]; exact D1.over s1 b1 S.zf1) fun h3 e b3 he => ?_)
    exact q h3 tk0 e (fun c o c1 c2 c3 u => b3 _ _ c2 (b1.extBut _ _ c1 u)) he
/-- a zip after i steps; out: the tuples that it gave, which are kept -/
structure Zat (z TI TO i1 i2 : Addr) (St1 St2 : Nat → Heap → Prop) (h : Heap) (i : Nat) (out : List Addr) : Prop where
  ti : IsTupOf2 h TI (.ref i1) (.ref i2)
  s1 : St1 i h
  s2 : St2 i h
  to : ∃ o, h.get? TO = some o
  own : (IsZip h z TI TO .none ∧ ∃ a b, IsTupOf2 h TO a b) ∨ ∃ T f oT, T ∈ out ∧ IsZipHeld h z TI TO T f ∧ h.get? T = some oT
theorem zat_item {out : List Addr} {Q : Option Value → Shared → Prop} (S : ZipSep2 z TI TO i1 i2 fp1 fp2) (D1 : Draws prog w A.in1 i1 fp1 n1 P1 St1) (D2 : Draws prog w A.in1 i2 fp2 n2 P2 St2)
    (Z : Zat z TI TO i1 i2 St1 St2 s.heap i out) (ap : ∀ T ∈ out, T ≠ z ∧ T ≠ TO ∧ T ≠ i1 ∧ T ≠ i2) (l1 : i < n1) (l2 : i < n2)
    (q : ∀ x y h' tk, P1 i x → P2 i y → IsTupOf2 h' s.heap.objs.size x y → Zat z TI TO i1 i2 St1 St2 h' (i + 1) (out ++ [s.heap.objs.size]) →
      (∀ c o, c ≠ z → c ≠ TO → c ≠ i1 → c ≠ i2 → s.heap.get? c = some o → h'.get? c = some o) → Q (some (.ref s.heap.objs.size)) { s with heap := h', toks := tk }) :
    wpAny (model prog w) A (pyNext (.ref z)) Q E s := by
  obtain ⟨ti, s1, s2, to, own⟩ := Z
  rcases own with ⟨hz, a, b, ho⟩ | ⟨T, f, oT, hm, hz, hT⟩
  · refine wpAny_pyNext_zipD2_item S D1 D2 hz ti ho s1 s2 l1 l2 fun x y h' tk p1 p2 b1 b2 d1 d2 b5 b6 k => ?_
    exact q x y h' tk p1 p2 b5 ⟨k _ _ S.TIz S.TITO S.TIi1 S.TIi2 ti, d1, d2, ⟨_, b2⟩, .inr ⟨_, false, _, List.mem_append_right _ (List.mem_singleton.mpr rfl), b1, b5⟩⟩ k
  · have hTy : s.TypeIs (.ref z) "zip" := ⟨_, hz, rfl⟩
    obtain ⟨a1, a2, a3, a4⟩ := ap T hm
    unfold pyNext
    refine wpAny_bind (wpAny_attempt (wpAny_callSpecial?_slot (name := Str.ofString "__next__") hTy F.slot_zip_next (wpAny_call_entry F.slot_zip_next hTy F.entry_zip_next
      (held_item S D1 D2 hz hT ti s1 s2 l1 l2 fun x y h' tk p1 p2 b1 d1 d2 b5 k => wpAny_pure ?_) (F.args_zip_next_1 _))))
    exact q x y h' tk p1 p2 b5 ⟨k _ _ S.TIz S.TIi1 S.TIi2 ti, d1, d2, to.imp fun o e => k _ _ S.TOz S.Ti1 S.Ti2 e, .inr ⟨T, true, oT, List.mem_append_left _ hm, b1, k _ _ a1 a3 a4 hT⟩⟩ fun c o c1 _ c3 c4 e => k c o c1 c3 c4 e
theorem zat_end {out : List Addr} {Q : Option Value → Shared → Prop} (S : ZipSep2 z TI TO i1 i2 fp1 fp2) (D1 : Draws prog w A.in1 i1 fp1 n1 P1 St1) (D2 : Draws prog w A.in1 i2 fp2 n2 P2 St2)
    (Z : Zat z TI TO i1 i2 St1 St2 s.heap i out) (l1 : i ≤ n1) (l2 : i ≤ n2) (le : i = n1 ∨ i = n2)
    (q : ∀ h' tk, (∀ c o, c ≠ z → c ≠ TO → c ≠ i1 → c ≠ i2 → s.heap.get? c = some o → h'.get? c = some o) → Q none { s with heap := h', toks := tk }) : wpAny (model prog w) A (pyNext (.ref z)) Q E s := by
  obtain ⟨ti, s1, s2, to, own⟩ := Z
  rcases own with ⟨hz, a, b, ho⟩ | ⟨T, f, oT, hm, hz, hT⟩
  · exact wpAny_pyNext_zipD2_end S D1 D2 hz ti ho s1 s2 l1 l2 le q
  · have hTy : s.TypeIs (.ref z) "zip" := ⟨_, hz, rfl⟩
    unfold pyNext
    refine wpAny_bind (wpAny_attempt (wpAny_callSpecial?_slot (name := Str.ofString "__next__") hTy F.slot_zip_next (wpAny_call_entry F.slot_zip_next hTy F.entry_zip_next
      (held_end S D1 D2 hz hT ti s1 s2 l1 l2 le fun h' tk e k he => ?_) (F.args_zip_next_1 _))))
    obtain ⟨o, ho, hc⟩ := he
    refine wpAny_bind (wpAny_isInstance (T := "StopIteration") (b := true) ⟨o, ho, hc⟩ isSubtype_stop ?_)
    exact wpAny_pure (q _ _ fun c o c1 _ c3 c4 e => k c o c1 c3 c4 e)
end
end Mo

/-! ### list(a zip) -/
namespace Mo
open PySem PySem.Spec PyProof.Rows L2
theorem zip_nolen : typeLookup (.type "zip") "__len__" = pure none := am_miss_of_fast (by decide +kernel)
theorem zip_nohint : typeLookup (.type "zip") "__length_hint__" = pure none := am_miss_of_fast (by decide +kernel)
/-- the tuples that were given -/
def Gave (P1 P2 : Nat → Value → Prop) (h : Heap) (out : List Addr) : Prop := ∀ (j : Nat) (T : Addr), out[j]? = some T → ∃ x y, P1 j x ∧ P2 j y ∧ IsTupOf2 h T x y
abbrev lsO (out : List Addr) (c : Nat) : Obj := { cls := .type "list", dict := none, data := .seq (out.map Value.ref).toArray c, slots := #[] }
section
variable {prog : Program} {w : World} {A : Around} {E : Value → Shared → Prop} {s : Shared}
variable {z TI TO i1 i2 : Addr} {fp1 fp2 : List Addr} {n1 n2 : Nat} {P1 P2 : Nat → Value → Prop} {St1 St2 : Nat → Heap → Prop} {R : Result → Shared → Prop}
theorem Zat.alive {h : Heap} {i : Nat} {out : List Addr} {B : Around} (D1 : Draws prog w B i1 fp1 n1 P1 St1) (D2 : Draws prog w B i2 fp2 n2 P2 St2) (Z : Zat z TI TO i1 i2 St1 St2 h i out) : h.objs.size ≠ z ∧ h.objs.size ≠ TO ∧ h.objs.size ≠ i1 ∧ h.objs.size ≠ i2 := by
  have ne : ∀ {b : Addr}, (∃ o, h.get? b = some o) → h.objs.size ≠ b := fun {b} ⟨o, e⟩ => Nat.ne_of_gt (Heap.lt_size e)
  refine ⟨ne ?_, ne Z.to, ne (D1.live _ _ Z.s1), ne (D2.live _ _ Z.s2)⟩
  rcases Z.own with ⟨hz, _⟩ | ⟨_, _, _, _, hz, _⟩
  · exact ⟨_, hz⟩
  · exact ⟨_, hz⟩
theorem Zat.upd {h h' : Heap} {i : Nat} {out : List Addr} {D : Addr} {B : Around} (D1 : Draws prog w B i1 fp1 n1 P1 St1) (D2 : Draws prog w B i2 fp2 n2 P2 St2) (Z : Zat z TI TO i1 i2 St1 St2 h i out) (hD : D ∉ z :: TI :: TO :: (fp1 ++ fp2)) (ho : D ∉ out)
    (k : ∀ b o, b ≠ D → h.get? b = some o → h'.get? b = some o) : Zat z TI TO i1 i2 St1 St2 h' i out := by
  have nz : z ≠ D := fun e => hD (by rw [e]; exact List.mem_cons_self)
  have nI : TI ≠ D := fun e => hD (by rw [e]; exact List.mem_cons_of_mem _ List.mem_cons_self)
  have nO : TO ≠ D := fun e => hD (by rw [e]; exact List.mem_cons_of_mem _ (List.mem_cons_of_mem _ List.mem_cons_self))
  have n1 : ∀ b ∈ fp1, b ≠ D := fun b hb e => hD (by rw [← e]; exact List.mem_cons_of_mem _ (List.mem_cons_of_mem _ (List.mem_cons_of_mem _ (List.mem_append_left _ hb))))
  have n2 : ∀ b ∈ fp2, b ≠ D := fun b hb e => hD (by rw [← e]; exact List.mem_cons_of_mem _ (List.mem_cons_of_mem _ (List.mem_cons_of_mem _ (List.mem_append_right _ hb))))
  refine ⟨k _ _ nI Z.ti, D1.frame _ _ _ Z.s1 fun b hb o e => k b o (n1 b hb) e, D2.frame _ _ _ Z.s2 fun b hb o e => k b o (n2 b hb) e, Z.to.imp fun o e => k _ _ nO e, ?_⟩
  rcases Z.own with ⟨hz, a, b, e⟩ | ⟨T, f, oT, hm, hz, hT⟩
  · exact .inl ⟨k _ _ nz hz, a, b, k _ _ nO e⟩
  · exact .inr ⟨T, f, oT, hm, k _ _ nz hz, k _ _ (fun e => ho (by rw [← e]; exact hm)) hT⟩
theorem zls_loop (S : ZipSep2 z TI TO i1 i2 fp1 fp2) (D1 : Draws prog w A.in1.in1 i1 fp1 n1 P1 St1) (D2 : Draws prog w A.in1.in1 i2 fp2 n2 P2 St2) {D : Addr} (hD : D ∉ z :: TI :: TO :: (fp1 ++ fp2)) (res : Value) {m : Nat} (hm : m = min n1 n2) (fit : m ≤ sizeLine) (base : Nat) :
    ∀ (k i : Nat) (s : Shared) (out : List Addr) (c : Nat), m - i = k → i ≤ m → out.length = i → base ≤ s.heap.objs.size → (∀ T ∈ out, base ≤ T) → out.Nodup → Zat z TI TO i1 i2 St1 St2 s.heap i out → (∀ T ∈ out, T ≠ D ∧ T ≠ z ∧ T ≠ TO ∧ T ≠ i1 ∧ T ≠ i2) → Gave P1 P2 s.heap out → s.heap.get? D = some (lsO out c) →
      (∀ h' tk out' c', out'.length = m → (∀ T ∈ out', base ≤ T) → out'.Nodup → Gave P1 P2 h' out' → h'.get? D = some (lsO out' c') → (∀ b o, b ≠ D → b ≠ z → b ≠ TO → b ≠ i1 → b ≠ i2 → s.heap.get? b = some o → h'.get? b = some o) → R (.ok (.ret res)) { s with heap := h', toks := tk }) →
      codeAny (model prog w) A (.builtin "list.extend.loop" ⟨[.ref D, .ref z, res], []⟩) R s := by
  have Dz : D ≠ z := fun e => hD (by rw [e]; exact List.mem_cons_self)
  have DO : D ≠ TO := fun e => hD (by rw [e]; exact List.mem_cons_of_mem _ (List.mem_cons_of_mem _ List.mem_cons_self))
  have Di1 : D ≠ i1 := fun e => hD (by rw [e]; exact List.mem_cons_of_mem _ (List.mem_cons_of_mem _ (List.mem_cons_of_mem _ (List.mem_append_left _ S.mem1))))
  have Di2 : D ≠ i2 := fun e => hD (by rw [e]; exact List.mem_cons_of_mem _ (List.mem_cons_of_mem _ (List.mem_cons_of_mem _ (List.mem_append_right _ S.mem2))))
  intro k
  induction k with
  | zero =>
    intro i s out c hk hi hl lo fr nd Z ap gv hd hR
    have ei : i = m := by omega
    refine codeAny_builtin F.entry_extend_loop ?_
    rw [Around.under_plainId F.plain_extend_loop _]
    show wpAny _ A.in1 (pyNext (.ref z) >>= _) _ _ s
    refine wpAny_bind (zat_end S D1 D2 Z (by omega) (by omega) (by omega) fun h' tk k => wpAny_pure (hR h' tk out c (by omega) fr nd (fun j T hj => ?_) (k _ _ Dz DO Di1 Di2 hd) fun b o _ c1 c2 c3 c4 e => k b o c1 c2 c3 c4 e))
    obtain ⟨x, y, p1, p2, t⟩ := gv j T hj
    obtain ⟨_, a1, a2, a3, a4⟩ := ap T (List.mem_of_getElem? hj)
    exact ⟨x, y, p1, p2, k _ _ a1 a2 a3 a4 t⟩
  | succ k ih =>
    intro i s out c hk hi hl lo fr nd Z ap gv hd hR
    have lt : i < m := by omega
    refine codeAny_builtin F.entry_extend_loop ?_
    rw [Around.under_plainId F.plain_extend_loop _]
    show wpAny _ A.in1 (pyNext (.ref z) >>= _) _ _ s
    obtain ⟨e1, e2, e3, e4⟩ := Z.alive D1 D2
    have eD : s.heap.objs.size ≠ D := Nat.ne_of_gt (Heap.lt_size hd)
    refine wpAny_bind (zat_item S D1 D2 Z (fun T hT => (ap T hT).2) (by omega) (by omega) fun x y h' tk p1 p2 nt Z' kp => ?_)
    have hd' := kp _ _ Dz DO Di1 Di2 hd
    show wpAny _ A.in1 (updateSeq D (·.push (.ref s.heap.objs.size)) >>= _) _ _ _
    have upk : ∀ b o, b ≠ D → h'.get? b = some o → (h'.update D (Obj.mapSeq (·.push (.ref s.heap.objs.size)))).get? b = some o := fun b o ne e => (Heap.get?_update_other _ _ (Ne.symm ne)).trans e
    have ap' : ∀ T ∈ out ++ [s.heap.objs.size], T ≠ D ∧ T ≠ z ∧ T ≠ TO ∧ T ≠ i1 ∧ T ≠ i2 := fun T hT => by
      rcases List.mem_append.mp hT with q | q
      · exact ap T q
      · rw [List.mem_singleton.mp q]
        exact ⟨eD, e1, e2, e3, e4⟩
    have hdn := Heap.get?_update_self (Obj.mapSeq (·.push (Value.ref s.heap.objs.size))) hd' rfl
    obtain ⟨c', hd2⟩ : ∃ c', (h'.update D (Obj.mapSeq (·.push (.ref s.heap.objs.size)))).get? D = some (lsO (out ++ [s.heap.objs.size]) c') := by
      have e : ((out.map Value.ref).toArray.push (.ref s.heap.objs.size)) = ((out ++ [s.heap.objs.size]).map Value.ref).toArray := by simp
      unfold Obj.mapSeq at hdn
      dsimp only at hdn
      rw [e] at hdn
      exact ⟨_, hdn⟩
    have small : ∀ T ∈ out, T < s.heap.objs.size := fun T hT => by
      obtain ⟨j, hj⟩ := List.getElem?_of_mem hT
      obtain ⟨_, _, _, _, t⟩ := gv j T hj
      exact Heap.lt_size t
    have fr' : ∀ T ∈ out ++ [s.heap.objs.size], base ≤ T := fun T hT => by
      rcases List.mem_append.mp hT with q | q
      · exact fr T q
      · rw [List.mem_singleton.mp q]
        exact lo
    have nd' : (out ++ [s.heap.objs.size]).Nodup := List.nodup_append.mpr ⟨nd, List.nodup_cons.mpr ⟨List.not_mem_nil, List.nodup_nil⟩, fun a ha b hb => by rw [List.mem_singleton.mp hb]; exact Nat.ne_of_lt (small a ha)⟩
    have lo' : base ≤ (h'.update D (Obj.mapSeq (·.push (.ref s.heap.objs.size)))).objs.size := Nat.le_trans lo (Nat.le_of_lt (Heap.lt_size (upk _ _ eD nt)))
    refine wpAny_bind (wpAny_updateSeq (s := { s with heap := h', toks := tk }) hd' rfl (wpAny_pure ⟨plainId_quiet F.plain_extend_loop _, ih (i + 1) _ (out ++ [s.heap.objs.size]) c' (by omega) (by omega) (by rw [List.length_append, hl]; rfl) lo' fr' nd'
      (Z'.upd D1 D2 hD (fun q => (ap' D q).1 rfl) upk) ap' (fun j T hj => ?_) hd2 fun h2 tk2 out2 c2 l2 f2 n2' g2 d2 k2 => ?_⟩) (by rw [List.size_toArray, List.length_map, hl]; omega) (by show (Array.push _ _).size ≤ sizeLine + 1; rw [Array.size_push, List.size_toArray, List.length_map, hl]; omega))
    · by_cases hj2 : j < out.length
      · rw [List.getElem?_append_left hj2] at hj
        obtain ⟨x', y', q1, q2, t⟩ := gv j T hj
        obtain ⟨a0, a1, a2, a3, a4⟩ := ap T (List.mem_of_getElem? hj)
        exact ⟨x', y', q1, q2, upk _ _ a0 (kp _ _ a1 a2 a3 a4 t)⟩
      · have ej : j = i := by
          have := (List.getElem?_eq_some_iff.mp hj).1
          rw [List.length_append] at this
          simp at this
          omega
        rw [ej, List.getElem?_append_right (by omega), hl, Nat.sub_self] at hj
        obtain rfl : s.heap.objs.size = T := Option.some.inj hj
        rw [ej]
        exact ⟨x, y, p1, p2, upk _ _ eD nt⟩
    · exact hR h2 tk2 out2 c2 l2 f2 n2' g2 d2 fun b o b0 b1 b2 b3 b4 e => k2 b o b0 b1 b2 b3 b4 (upk b o b0 (kp b o b1 b2 b3 b4 e))
end
end Mo

/-! ### list(a zip): the call -/
namespace Mo
open PySem PySem.Spec PyProof.Rows L2
section
variable {prog : Program} {w : World} {A : Around} {E : Value → Shared → Prop} {s : Shared}
variable {z TI TO i1 i2 : Addr} {fp1 fp2 : List Addr} {n1 n2 : Nat} {P1 P2 : Nat → Value → Prop} {St1 St2 : Nat → Heap → Prop} {R : Result → Shared → Prop}
theorem zls_extend (S : ZipSep2 z TI TO i1 i2 fp1 fp2) (D1 : Draws prog w A.in1.in1 i1 fp1 n1 P1 St1) (D2 : Draws prog w A.in1.in1 i2 fp2 n2 P2 St2) {D : Addr} (hD : D ∉ z :: TI :: TO :: (fp1 ++ fp2)) (res : Value) {m : Nat} (hm : m = min n1 n2) (fit : m ≤ sizeLine) (base : Nat) (lo : base ≤ s.heap.objs.size)
    {c : Nat} (Z : Zat z TI TO i1 i2 St1 St2 s.heap 0 []) (hz : IsZip s.heap z TI TO .none) (hd : s.heap.get? D = some (lsO [] c))
    (hR : ∀ h' tk out' c', out'.length = m → (∀ T ∈ out', base ≤ T) → out'.Nodup → Gave P1 P2 h' out' → h'.get? D = some (lsO out' c') → (∀ b o, b ≠ D → b ≠ z → b ≠ TO → b ≠ i1 → b ≠ i2 → s.heap.get? b = some o → h'.get? b = some o) → R (.ok (.ret res)) { s with heap := h', toks := tk }) :
    wpAny (model prog w) A.in1 (Builtin.List.listExtendWith (.ref D) (.ref z) res)
      (fun fin s' => match fin with | .done f => R (.ok f) s' | .again c' => c'.quiet = true ∧ codeAny (model prog w) A c' R s') (fun e s' => R (.error e) s') s := by
  have hT : s.TypeIs (.ref z) "zip" := ⟨_, hz, rfl⟩
  have Dz : D ≠ z := fun e => hD (by rw [e]; exact List.mem_cons_self)
  unfold Builtin.List.listExtendWith
  refine wpAny_bind (wpAny_typeOf hT ?_)
  simp only [show Builtin.List.listSameRef (.ref D) (.ref z) = false by simp [Builtin.List.listSameRef, Dz], show (Value.type "zip" == Value.type "list") = false by decide, show (Value.type "zip" == Value.type "tuple") = false by decide, Bool.or_false, Bool.false_eq_true, if_false]
  refine wpAny_bind (wpAny_pyIter_zip hz (wpAny_bind (wpAny_holding ?_)))
  unfold Builtin.List.listLengthHint
  refine wpAny_bind (wpAny_specialOf hT zip_nolen ?_)
  show wpAny _ A.in1 (specialOf (Value.ref z) (Str.ofString "__length_hint__") >>= _) _ _ _
  refine wpAny_bind (wpAny_specialOf hT zip_nohint (wpAny_pure ?_))
  show wpAny _ A.in1 (rule "list.extend.makes-room" >>= fun _ => Builtin.List.listTouch (.ref D) >>= fun _ => again (.builtin "list.extend.loop" ⟨[.ref D, .ref z, res], []⟩)) _ _ _
  refine wpAny_bind (wpAny_rule (wpAny_bind ?_))
  show wpAny _ A.in1 (updateSeq D (·.push .none) >>= fun _ => updateSeq D (·.pop)) _ _ _
  have up : ∀ (f : Array Value → Array Value) (h : Heap) b o, b ≠ D → h.get? b = some o → (h.update D (Obj.mapSeq f)).get? b = some o := fun f h b o ne e => (Heap.get?_update_other _ _ (Ne.symm ne)).trans e
  have hd1 := Heap.get?_update_self (Obj.mapSeq (·.push Value.none)) hd rfl
  have hd2 := Heap.get?_update_self (Obj.mapSeq (·.pop)) hd1 rfl
  refine wpAny_bind (wpAny_updateSeq hd rfl (wpAny_updateSeq (s := { s with heap := s.heap.update D (Obj.mapSeq (·.push Value.none)) }) hd1 rfl ?_ (by simp [sizeLine_eq]) (by simp [sizeLine_eq])) (by simp [sizeLine_eq]) (by simp [sizeLine_eq]))
  obtain ⟨c2, hd3⟩ : ∃ c2, ((s.heap.update D (Obj.mapSeq (·.push Value.none))).update D (Obj.mapSeq (·.pop))).get? D = some (lsO [] c2) := by
    unfold Obj.mapSeq at hd1 hd2 ⊢
    dsimp only at hd2 ⊢
    exact ⟨_, hd2⟩
  refine wpAny_pure ⟨plainId_quiet F.plain_extend_loop _, zls_loop S D1 D2 hD res hm fit base m 0 _ [] c2 (by omega) (Nat.zero_le _) rfl (by rw [Heap.size_update, Heap.size_update]; exact lo) (fun _ q => absurd q List.not_mem_nil) List.nodup_nil (Z.upd D1 D2 hD List.not_mem_nil fun b o ne e => up _ _ b o ne (up _ _ b o ne e)) (fun _ q => absurd q List.not_mem_nil)
    (fun j T q => nomatch q) hd3 fun h' tk out' c' l f n g d k => ?_⟩
  exact hR h' tk out' c' l f n g d fun b o b0 b1 b2 b3 b4 e => k b o b0 b1 b2 b3 b4 (up _ _ b o b0 (up _ _ b o b0 e))
theorem zls_init (S : ZipSep2 z TI TO i1 i2 fp1 fp2) (D1 : Draws prog w A.in1.in1 i1 fp1 n1 P1 St1) (D2 : Draws prog w A.in1.in1 i2 fp2 n2 P2 St2) {D : Addr} (hD : D ∉ z :: TI :: TO :: (fp1 ++ fp2)) {m : Nat} (hm : m = min n1 n2) (fit : m ≤ sizeLine) (base : Nat) (lo : base ≤ s.heap.objs.size)
    (Z : Zat z TI TO i1 i2 St1 St2 s.heap 0 []) (hz : IsZip s.heap z TI TO .none) (hd : s.heap.get? D = some (lsO [] 0))
    (hR : ∀ h' tk out' c', out'.length = m → (∀ T ∈ out', base ≤ T) → out'.Nodup → Gave P1 P2 h' out' → h'.get? D = some (lsO out' c') → (∀ b o, b ≠ D → b ≠ z → b ≠ TO → b ≠ i1 → b ≠ i2 → s.heap.get? b = some o → h'.get? b = some o) → R (.ok (.ret .none)) { s with heap := h', toks := tk }) :
    wpAny (model prog w) A.in1 (Builtin.«list.__init__» ⟨[.ref D, .ref z], []⟩)
      (fun fin s' => match fin with | .done f => R (.ok f) s' | .again c' => c'.quiet = true ∧ codeAny (model prog w) A c' R s') (fun e s' => R (.error e) s') s := by
  show wpAny _ A.in1 (do let old ← Builtin.List.listItems (.ref D); Builtin.List.listUpdate (.ref D) (fun _ => #[]); letGo old.toList.reverse; Builtin.List.listExtendWith (.ref D) (.ref z) .none) _ _ s
  refine wpAny_bind ?_
  unfold Builtin.List.listItems
  refine wpAny_bind (wpAny_seqItems hd rfl (wpAny_pure ?_))
  show wpAny _ A.in1 (updateSeq D (fun _ => #[]) >>= fun _ => letGo (#[] : Array Value).toList.reverse >>= fun _ => Builtin.List.listExtendWith (.ref D) (.ref z) .none) _ _ s
  have Dz : D ≠ z := fun e => hD (by rw [e]; exact List.mem_cons_self)
  have up : ∀ b o, b ≠ D → s.heap.get? b = some o → (s.heap.update D (Obj.mapSeq fun _ => (#[] : Array Value))).get? b = some o := fun b o ne e => (Heap.get?_update_other _ _ (Ne.symm ne)).trans e
  have hd1 := Heap.get?_update_self (Obj.mapSeq (fun _ => (#[] : Array Value))) hd rfl
  obtain ⟨c1, hd2⟩ : ∃ c1, (s.heap.update D (Obj.mapSeq fun _ => (#[] : Array Value))).get? D = some (lsO [] c1) := by
    unfold Obj.mapSeq at hd1 ⊢
    dsimp only at hd1 ⊢
    exact ⟨_, hd1⟩
  refine wpAny_bind (wpAny_updateSeq hd rfl (wpAny_bind (wpAny_letGo ?_)) (by simp [sizeLine_eq]) (by simp [sizeLine_eq]))
  refine zls_extend (s := { s with heap := s.heap.update D (Obj.mapSeq fun _ => (#[] : Array Value)) }) S D1 D2 hD .none hm fit base (by show _ ≤ (s.heap.update _ _).objs.size; rw [Heap.size_update]; exact lo) (Z.upd D1 D2 hD List.not_mem_nil up) (up _ _ (Ne.symm Dz) hz) hd2 fun h' tk out' c' l f n g d k => ?_
  exact hR h' tk out' c' l f n g d fun b o b0 b1 b2 b3 b4 e => k b o b0 b1 b2 b3 b4 (up b o b0 e)
theorem call_list_zip {Q : Value → Shared → Prop} (S : ZipSep2 z TI TO i1 i2 fp1 fp2) (D1 : Draws prog w A.in1.in1.in1 i1 fp1 n1 P1 St1) (D2 : Draws prog w A.in1.in1.in1 i2 fp2 n2 P2 St2) (hD : ∀ b ∈ z :: TI :: TO :: (fp1 ++ fp2), b < s.heap.objs.size) {m : Nat} (hm : m = min n1 n2) (fit : m ≤ sizeLine)
    (Z : Zat z TI TO i1 i2 St1 St2 s.heap 0 []) (hz : IsZip s.heap z TI TO .none)
    (q : ∀ h' tk out' c', out'.length = m → (∀ T ∈ out', s.heap.objs.size < T) → out'.Nodup → Gave P1 P2 h' out' → h'.get? s.heap.objs.size = some (lsO out' c') → (∀ b o, b ≠ z → b ≠ TO → b ≠ i1 → b ≠ i2 → s.heap.get? b = some o → h'.get? b = some o) → Q (.ref s.heap.objs.size) { s with heap := h', toks := tk }) :
    wpAny (model prog w) A (call (.type "list") [.ref z]) Q E s := by
  have nD : s.heap.objs.size ∉ z :: TI :: TO :: (fp1 ++ fp2) := fun e => Nat.lt_irrefl _ (hD _ e)
  refine callType_codes (Q₁ := fun obj s₁ => obj = .ref s.heap.objs.size ∧ s₁ = { s with heap := s.heap.push { cls := .type "list", data := .seq #[] } }) F.called_list (F.typeCall_list_1 _) F.entry_list_init (code_list_new _ ⟨rfl, rfl⟩) fun obj s₁ h₁ => ?_
  obtain ⟨rfl, rfl⟩ := h₁
  have hd : (s.heap.push { cls := .type "list", data := .seq #[] }).get? s.heap.objs.size = some (lsO [] 0) := Heap.get?_push_size _ rfl
  have up : ∀ b o, s.heap.get? b = some o → (s.heap.push { cls := .type "list", data := .seq #[] }).get? b = some o := fun b o e => Heap.get?_push_of_some _ e
  refine ⟨⟨_, hd, rfl⟩, F.args_list_init_2 _ _, zls_init (s := { s with heap := s.heap.push { cls := .type "list", data := .seq #[] } }) S D1 D2 nD hm fit (s.heap.objs.size + 1) (by show _ ≤ (s.heap.push _).objs.size; rw [Heap.size_push]; exact Nat.le_refl _) (Z.upd D1 D2 nD List.not_mem_nil fun b o _ e => up b o e) (up _ _ hz) hd fun h' tk out' c' l f n g d k => ?_⟩
  refine ⟨rfl, q h' tk out' c' l f n g d fun b o b1 b2 b3 b4 e => k b o (fun z => ?_) b1 b2 b3 b4 (up b o e)⟩
  exact Nat.lt_irrefl _ (by have := Heap.lt_size e; rw [z] at this; exact this)
end
end Mo

/-! ### list(zip(x, y)) of two texts: the rule -/
namespace Mo
open PySem PySem.Spec PyProof.Rows L2
/-- what stands, and the new things -/
def plus (H Hn : Hp) : Hp := fun b => match Hn b with
  | some o => some o
  | none => H b
theorem plus_old {H Hn : Hp} {b : Addr} (h : Hn b = none) : plus H Hn b = H b := by
  unfold plus
  rw [h]
theorem plus_new {H Hn : Hp} {b : Addr} {o : HO} (h : Hn b = some o) : plus H Hn b = some o := by
  unfold plus
  rw [h]
section
variable {X : Cx}
theorem inv_more {pins : List (Addr × Obj)} {σ : L2.St} {H Hn : Hp} {s : Shared} {h' : Heap} {t' : Nat} (I : Inv X pins σ H s) (k : ∀ b u, s.heap.get? b = some u → h'.get? b = some u) (gone : ∀ b o, Hn b = some o → s.heap.get? b = none ∧ H b = none)
    (new : ∀ b o, Hn b = some o → ObjOk X.prog X.w (plus H Hn) h' b o) : Inv X pins σ (plus H Hn) { s with heap := h', toks := t' } := by
  have old : ∀ {b : Addr} {u : Obj}, s.heap.get? b = some u → Hn b = none := fun {b u} e => by
    cases z : Hn b with
    | none => rfl
    | some o =>
      rw [(gone b o z).1] at e
      cases e
  have stay : ∀ {b : Addr} {o : HO}, H b = some o → plus H Hn b = some o := fun {b o} e => by
    refine (plus_old ?_).trans e
    cases z : Hn b with
    | none => rfl
    | some o2 =>
      rw [(gone b o2 z).2] at e
      cases e
  refine I.un ⟨fun b u e _ _ _ => k b u e, fun b u e _ _ _ => ⟨u.slots, k b u e⟩, fun b u e n _ => (plus_old (old e)).trans n, fun b u e _ => ⟨u, k b u e⟩, fun b xs e => stay e, fun b u xs e => stay e, fun b ps e => ⟨#[], by rw [stay e]; simp⟩⟩ fun b o e => ?_
  cases z : Hn b with
  | some o2 =>
    rw [plus_new z] at e
    obtain rfl := Option.some.inj e
    exact new b o2 z
  | none =>
    rw [plus_old z] at e
    exact (I.hok b o e).stay (fun c v _ q => k c v q) (fun c q => stay q) fun c xs q => stay q
theorem inv_plus {pins : List (Addr × Obj)} {σ : L2.St} {H Hn : Hp} {s : Shared} {h' : Heap} {t' : Nat} (I : Inv X pins σ H s) (k : ∀ b u, s.heap.get? b = some u → h'.get? b = some u) (fr : ∀ b o, Hn b = some o → s.heap.objs.size ≤ b)
    (new : ∀ b o, Hn b = some o → ObjOk X.prog X.w (plus H Hn) h' b o) : Inv X pins σ (plus H Hn) { s with heap := h', toks := t' } :=
  inv_more I k (fun b o e => ⟨by
    cases z : s.heap.get? b with
    | none => rfl
    | some u => exact absurd (Heap.lt_size z) (Nat.not_lt.mpr (fr b o e)), I.hok.fresh (fr b o e)⟩) new
end
def pairV (x y : Str) (j : Nat) : HO := .tup [.str ⟨#[x.cps.getD j 0]⟩, .str ⟨#[y.cps.getD j 0]⟩]
/-- the pairs from place j on, at ps -/
def pairsH (x y : Str) : List Addr → Nat → Hp
  | [], _ => fun _ => none
  | p :: ps, j => fun b => if b = p then some (pairV x y j) else pairsH x y ps (j + 1) b
theorem pairsH_of {x y : Str} : ∀ {ps : List Addr} {j : Nat} {b : Addr} {o : HO}, pairsH x y ps j b = some o → ∃ i, ps[i]? = some b ∧ o = pairV x y (j + i)
  | [], _, _, _, h => nomatch h
  | p :: ps, j, b, o, h => by
    unfold pairsH at h
    by_cases e : b = p
    · rw [if_pos e] at h
      exact ⟨0, by rw [e]; rfl, (Option.some.inj h).symm⟩
    · rw [if_neg e] at h
      obtain ⟨i, h1, h2⟩ := pairsH_of h
      exact ⟨i + 1, h1, by rw [h2, show j + 1 + i = j + (i + 1) by omega]⟩
theorem pairsH_at {x y : Str} : ∀ {ps : List Addr} {j i : Nat} {b : Addr}, ps.Nodup → ps[i]? = some b → pairsH x y ps j b = some (pairV x y (j + i))
  | [], _, _, _, _, h => nomatch h
  | p :: ps, j, 0, b, _, h => by
    obtain rfl : p = b := Option.some.inj h
    exact if_pos rfl
  | p :: ps, j, i + 1, b, nd, h => by
    have h : ps[i]? = some b := h
    have nd2 := List.nodup_cons.mp nd
    have ne : b ≠ p := fun e => nd2.1 (by rw [← e]; exact List.mem_of_getElem? h)
    have r := pairsH_at (x := x) (y := y) (j := j + 1) nd2.2 h
    unfold pairsH
    rw [if_neg ne, r, show j + 1 + i = j + (i + 1) by omega]
/-- the new things of list(zip(x, y)) -/
def zipH (l : Addr) (ps : List Addr) (x y : Str) : Hp := fun b => if b = l then some (.lst (ps.map V.ref)) else pairsH x y ps 0 b
/-- list(zip(x, y)) -/
def tLzip (ta : TA) : TE := fun σ H Q => ta σ H fun vs H1 => ∃ x y : Str, vs = [.str x, .str y] ∧ min x.cps.size y.cps.size ≤ 4000 ∧
  ∀ (l : Addr) (ps : List Addr) (H' : Hp), ps.length = min x.cps.size y.cps.size → Same H1 H' → H1 l = none → H' l = some (.lst (ps.map V.ref)) → (∀ (j : Nat) (p : Addr), ps[j]? = some p → H1 p = none ∧ H' p = some (pairV x y j)) → Q (.ref l) H'
theorem refs_vals1 : ∀ ps : List Addr, Vals (ps.map V.ref) (ps.map Value.ref)
  | [] => .nil
  | _ :: ps => .cons rfl (refs_vals1 ps)
section
variable {X : Cx}
theorem pe_lzip {e1 e2 : Expr} {ta : TA} {p1 p2 q1 q2 : Pos} (hc : X.calm = true) (hl : Gl X "list") (ml : X.mg "list" = none) (hz : Gl X "zip") (mz : X.mg "zip" = none) (ha : PA X [e1, e2] ta)
    (na : starEach [Expr.Call (.Name "zip" p2) [e1, e2] [] q2] X.env = (false, eval (.Call (.Name "zip" p2) [e1, e2] [] q2) X.env) :: starEach [] X.env := by rfl)
    (he : starEach [e1, e2] X.env = (false, eval e1 X.env) :: starEach [e2] X.env := by rfl) (hpl : (backTo q2 (starEach [e2] X.env)).any (·.1) = false := by rfl) :
    PE X (.Call (.Name "list" p1) [.Call (.Name "zip" p2) [e1, e2] [] q2] [] q1) (tLzip ta) := by
  refine ⟨fun pins s σ H Q I h => ?_⟩
  refine Call_ (ld_blt I hl ml (show bootBuiltins "list" = some (.type "list") by decide +kernel) ?_)
  refine PyProof.Rows.callWith_type1 (PyProof.Rows.args_cons ?_ na) na rfl
  refine Call_ (ld_blt I hz mz (show bootBuiltins "zip" = some (.type "zip") by decide +kernel) ?_)
  refine PyProof.Rows.callWith_type1 (thn (ha.run _ pins s σ H _ I h) fun us s1 ⟨vs, H1, I1, r1, qq⟩ => ?_) he hpl
  obtain ⟨x, y, rfl, fit, q⟩ := qq
  obtain ⟨t, u, rfl⟩ : ∃ t u, us = [.str x t, .str y u] := by
    cases r1 with
    | cons a r =>
      cases r with
      | cons b r =>
        cases r
        obtain ⟨t, rfl⟩ := a
        obtain ⟨u, rfl⟩ := b
        exact ⟨t, u, rfl⟩
  refine zip_begins2 (begins_text x t) (begins_text y u) trivial trivial fun h' z1 z2 z3 z4 z5 z6 kk => ?_
  refine PyProof.Rows.args_nil ?_
  have hh0 : X.A.handled = none := I1.ok.hd hc
  have hh : X.A.in1.in1.in1.handled = none := by simp [hh0]
  have sep : ZipSep2 (s1.heap.objs.size + 4) (s1.heap.objs.size + 2) (s1.heap.objs.size + 3) s1.heap.objs.size (s1.heap.objs.size + 1) [s1.heap.objs.size] [s1.heap.objs.size + 1] := by
    constructor <;> first | (intro z; omega) | (simp; try omega)
  have Z : Zat (s1.heap.objs.size + 4) (s1.heap.objs.size + 2) (s1.heap.objs.size + 3) s1.heap.objs.size (s1.heap.objs.size + 1) (fun i h => h.IsStrIter s1.heap.objs.size (strIterType x) x t i) (fun i h => h.IsStrIter (s1.heap.objs.size + 1) (strIterType y) y u i) h' 0 [] :=
    ⟨z2, ⟨_, z4, rfl, rfl⟩, ⟨_, z5, rfl, rfl⟩, ⟨_, z3⟩, .inl ⟨z1, _, _, z3⟩⟩
  refine call_list_zip (s := { s1 with heap := h' }) (m := min x.cps.size y.cps.size) sep (Draws.text hh s1.heap.objs.size x t) (Draws.text hh (s1.heap.objs.size + 1) y u) (fun b hb => ?_) rfl (by rw [sizeLine_eq]; omega) Z z1 fun h2 tk out c len fr nd gv hd k => ?_
  · show b < h'.objs.size
    rw [z6]
    simp only [List.mem_cons, List.mem_append, List.not_mem_nil, or_false] at hb
    rcases hb with rfl | rfl | rfl | rfl | rfl <;> first | exact Nat.add_lt_add_left (by decide) _ | exact Nat.lt_add_of_pos_right (by decide)
  have fr : ∀ T ∈ out, h'.objs.size < T := fr
  have hd : h2.get? h'.objs.size = some (lsO out c) := hd
  rw [z6] at fr hd
  have keep : ∀ b o, s1.heap.get? b = some o → h2.get? b = some o := fun b o e => by
    have := Heap.lt_size e
    exact k b o (Nat.ne_of_lt (Nat.lt_of_lt_of_le this (Nat.le_add_right _ _))) (Nat.ne_of_lt (Nat.lt_of_lt_of_le this (Nat.le_add_right _ _))) (Nat.ne_of_lt this) (Nat.ne_of_lt (Nat.lt_of_lt_of_le this (Nat.le_add_right _ _))) (kk b o e)
  have nl : ∀ T ∈ out, T ≠ s1.heap.objs.size + 5 := fun T hT => Nat.ne_of_gt (fr T hT)
  have at_ : ∀ {j : Nat} {p : Addr}, out[j]? = some p → zipH (s1.heap.objs.size + 5) out x y p = some (pairV x y j) := fun {j p} e => by
    unfold zipH
    rw [if_neg (nl p (List.mem_of_getElem? e)), pairsH_at nd e, Nat.zero_add]
  have atl : zipH (s1.heap.objs.size + 5) out x y (s1.heap.objs.size + 5) = some (.lst (out.map V.ref)) := if_pos rfl
  have fresh : ∀ b o, zipH (s1.heap.objs.size + 5) out x y b = some o → s1.heap.objs.size ≤ b := fun b o e => by
    unfold zipH at e
    by_cases z : b = s1.heap.objs.size + 5
    · rw [z]
      exact Nat.le_add_right _ _
    · rw [if_neg z] at e
      obtain ⟨i, h1, _⟩ := pairsH_of e
      exact Nat.le_trans (Nat.le_add_right _ 5) (Nat.le_of_lt (fr b (List.mem_of_getElem? h1)))
  have J : Inv X pins σ (plus H1 (zipH (s1.heap.objs.size + 5) out x y)) { s1 with heap := h2, toks := tk } := inv_plus I1 keep fresh fun b o e => by
    unfold zipH at e
    by_cases z : b = s1.heap.objs.size + 5
    · rw [if_pos z] at e
      obtain rfl := Option.some.inj e
      refine ⟨by rw [List.length_map, len, sizeLine_eq]; omega, out.map Value.ref, c, refs_vals1 out, ?_⟩
      rw [z]
      exact hd
    · rw [if_neg z] at e
      obtain ⟨i, h1, rfl⟩ := pairsH_of e
      obtain ⟨_, _, ⟨c1, u1, g1, rfl⟩, ⟨c2, u2, g2, rfl⟩, tp⟩ := gv i b h1
      refine ⟨by rw [sizeLine_eq]; show 2 ≤ 16777216; decide, [.str ⟨#[c1]⟩ u1, .str ⟨#[c2]⟩ u2], ?_, ⟨_, tp, rfl, 0, rfl⟩⟩
      rw [Nat.zero_add, Array.getD_eq_getD_getElem?, Array.getD_eq_getD_getElem?, g1, g2]
      exact .cons ⟨u1, rfl⟩ (.cons ⟨u2, rfl⟩ .nil)
  have fn : ∀ {b o}, zipH (s1.heap.objs.size + 5) out x y b = some o → H1 b = none := fun e => I1.hok.fresh (fresh _ _ e)
  refine ⟨.ref (s1.heap.objs.size + 5), _, J, ?_, q _ out _ len (fun b o e => ?_) (fn atl) (plus_new atl) fun j p e => ⟨fn (at_ e), plus_new (at_ e)⟩⟩
  · show Value.ref h'.objs.size = _
    rw [z6]
  · refine (plus_old ?_).trans e
    cases z : zipH (s1.heap.objs.size + 5) out x y b with
    | none => rfl
    | some o2 =>
      rw [fn z] at e
      cases e
end
end Mo

/-! ### sorted(a text): its signs -/
namespace Mo
open PySem PySem.Spec PyProof.Rows L2
theorem strs_by {vs : List Value} {ys : List Str} (hl : vs.length = ys.length) (h : ∀ (j : Nat) (v : Value), vs[j]? = some v → ∃ y t, ys[j]? = some y ∧ v = .str y t) : StrsAre vs ys := by
  induction vs generalizing ys with
  | nil =>
    cases ys with
    | nil => exact .nil
    | cons y ys => cases hl
  | cons v vs ih =>
    cases ys with
    | nil => cases hl
    | cons y ys =>
      obtain ⟨y', t, e, rfl⟩ := h 0 v rfl
      obtain rfl : y = y' := Option.some.inj e
      exact .cons y t (ih (Nat.succ.inj hl) fun j u hj => h (j + 1) u hj)
section
variable {prog : Program} {w : World} {A : Around} {E : Value → Shared → Prop} {s : Shared}
theorem sorted_text {x : Str} {t : Tok} {Q : Value → Shared → Prop} (hh : A.handled = none) (hz : x.cps.size ≤ 4000)
    (q : ∀ (s' : Shared) (d : Addr) (out : List Value) (zs : List Str), StrsAre out zs → zs.Perm (x.cps.toList.map fun c => (⟨#[c]⟩ : Str)) → (zs.Pairwise fun a b => sltB b a = false) → (∀ b o, s.heap.get? b = some o → s'.heap.get? b = some o) → s.heap.get? d = none → s'.gens = s.gens → s'.drawn = s.drawn → s'.os = s.os →
      (∃ n, s'.heap.get? d = some (seqObj "list" out.toArray n)) → Q (.ref d) s') :
    wpAny (model prog w) A (call (.builtin "sorted") [.str x t]) Q E s := by
  refine Calls.call_function_entry kind_sorted plain_sorted entry_sorted (args_sorted1 _) ?_
  unfold Builtin.«sorted»
  refine wpAny_bind (m := checkCount "sorted" 1 1 _) (wpAny_pure ?_)
  refine wpAny_bind (wpAny_collect_str (A := A.in1) (by simp [hh]) x t (fun s1 acc k1 g1 d1 o1 hi => ?_) (by rw [sizeLine_eq]; omega))
  have l1 : acc.toList.length = x.cps.size := by rw [Array.length_toList]; exact hi.1
  have hS : StrsAre acc.toList (x.cps.toList.map fun c => (⟨#[c]⟩ : Str)) := strs_by (by rw [l1, List.length_map, Array.length_toList]) fun j v hj => by
    obtain ⟨c, u, hc, rfl⟩ := hi.2 j v (by rw [← Array.getElem?_toList]; exact hj)
    exact ⟨⟨#[c]⟩, u, by rw [List.getElem?_map, Array.getElem?_toList, hc]; rfl, rfl⟩
  refine wpAny_bind (wpAny_newList ?_ (by rw [l1, sizeLine_eq]; omega))
  have hoL : (s1.heap.push (seqObj "list" acc.toList.toArray 0)).get? s1.heap.objs.size = some (seqObj "list" acc.toList.toArray 0) := Heap.get?_push_size _ rfl
  refine wpAny_bind (wpAny_holding (wpAny_call_entry slot_list_sort ⟨_, hoL, rfl⟩ entry_list_sort
    (SrtO.list_sort_ord (s := { s1 with heap := s1.heap.push (seqObj "list" acc.toList.toArray 0) }) swo_strs hoL (by rw [l1, sizeLine_eq]; omega) (fun h2 => str_sortable hS h2) fun out hs hb => ⟨_, rfl, ?_⟩) (args_list_sort _)))
  have ho : StrsAre out (out.map strOf) := strs_of_all fun v hv => strs_mem hS v (hb.perm.mem_iff.mp hv)
  have pm : (out.map strOf).Perm (x.cps.toList.map fun c => (⟨#[c]⟩ : Str)) := by
    have z := hb.perm.map strOf
    rw [strOf_strs hS] at z
    exact z
  obtain ⟨c, hc⟩ := sortedHeap_at (vs := acc.toList) (out := out.toArray) hoL
  have gone : s.heap.get? s1.heap.objs.size = none := by
    cases z : s.heap.get? s1.heap.objs.size with
    | none => rfl
    | some u => exact absurd (Heap.lt_size (k1 _ _ z)) (Nat.lt_irrefl _)
  refine wpAny_pure ⟨_, rfl, q _ s1.heap.objs.size out _ ho pm (List.pairwise_map.mpr hs) (fun b u e => ?_) gone g1 d1 o1 ⟨c, hc⟩⟩
  have z := k1 b u e
  have lt := Heap.lt_size z
  show (sortedHeap (s1.heap.push (seqObj "list" acc.toList.toArray 0)) s1.heap.objs.size acc.toList out.toArray).get? b = some u
  rw [sortedHeap_old (Nat.ne_of_lt lt) (by rw [size_push']; exact Nat.lt_succ_of_lt lt)]
  exact Heap.get?_push_of_some _ z
end
section
variable {X : Cx}
/-- sorted(z), z a text -/
def rSortTxt : List V → Hp → VK → Prop := fun vs H Q => ∃ z : Str, vs = [V.str z] ∧ z.cps.size ≤ 4000 ∧
  ∀ (zs : List Str) (p : Addr) (H' : Hp), zs.Perm (z.cps.toList.map fun c => (⟨#[c]⟩ : Str)) → zs.Pairwise (fun x y => sltB y x = false) → Same H H' → H p = none → H' p = some (.lst (zs.map V.str)) → Q (.ref p) H'
theorem cr_sortTxt (hc : X.calm = true) : CallR X (.builtin "sorted") rSortTxt := by
  intro pins s σ H vs us Q I r h
  obtain ⟨z, rfl, hz, q⟩ := h
  obtain ⟨u, rfl, t, rfl⟩ := vals1 r
  refine sorted_text (I.ok.hd hc) hz fun s' d out zs ho pm pw kk gone g1 d1 o1 hget => ?_
  obtain ⟨n, hget⟩ := hget
  have hn : H d = none := by
    cases e : H d with
    | none => rfl
    | some o =>
      obtain ⟨u, hu⟩ := objOk_get (I.hok d o e)
      rw [gone] at hu
      cases hu
  have hlen : (zs.map V.str).length ≤ sizeLine := by
    rw [List.length_map, pm.length_eq, List.length_map, Array.length_toList, sizeLine_eq]
    omega
  have only : ∀ b o, (fun b => if b = d then some (HO.lst (zs.map V.str)) else none) b = some o → b = d ∧ o = .lst (zs.map V.str) := fun b o e => by
    dsimp only at e
    by_cases z : b = d
    · rw [if_pos z] at e
      exact ⟨z, (Option.some.inj e).symm⟩
    · rw [if_neg z] at e
      cases e
  have J : Inv X pins σ (plus H fun b => if b = d then some (.lst (zs.map V.str)) else none) { s with heap := s'.heap, toks := s'.toks } := by
    refine inv_more I kk (fun b o e => ?_) fun b o e => ?_
    · rw [(only b o e).1]
      exact ⟨gone, hn⟩
    · obtain ⟨rfl, rfl⟩ := only b o e
      exact ⟨hlen, out, n, vals_of_strs ho, hget⟩
  have e : s' = { s with heap := s'.heap, toks := s'.toks } := by
    cases s'
    cases s
    cases g1
    cases d1
    cases o1
    rfl
  rw [e]
  refine ⟨.ref d, _, J, rfl, q zs d _ pm pw (fun b o e => (plus_old ?_).trans e) hn (plus_new (if_pos rfl))⟩
  exact if_neg fun z => by rw [z, hn] at e; cases e
end
end Mo

namespace Mo
open PySem PySem.Spec PyProof.Rows L2
/-! ### normal forms, over lists of codes -/
theorem idx_ne {a c : Nat} (r : List Nat) (h : a ≠ c) : (a :: r).idxOf c = r.idxOf c + 1 := by
  rw [List.idxOf_cons]
  have e : (a == c) = false := by simpa using h
  rw [e]
  rfl
theorem nodup_idx : ∀ (ns : List Nat) (i c : Nat), ns.Nodup → ns[i]? = some c → ns.idxOf c = i
  | [], i, c, _, h => by simp at h
  | a :: r, 0, c, _, h => by
    have e : a = c := by simpa using h
    subst e
    exact List.idxOf_cons_self
  | a :: r, i + 1, c, hn, h => by
    have h2 : r[i]? = some c := by simpa using h
    have hn2 := List.nodup_cons.mp hn
    have ne : a ≠ c := fun e => hn2.1 (e ▸ List.mem_of_getElem? h2)
    rw [idx_ne _ ne, nodup_idx r i c hn2.2 h2]
theorem idx_at {ns : List Nat} {c : Nat} (h : c ∈ ns) : ns[ns.idxOf c]? = some c := by
  have hl := List.idxOf_lt_length_of_mem h
  rw [List.getElem?_eq_getElem hl, List.getElem_idxOf hl]
/-- names.index(sign) -/
theorem index_one {ns : List Nat} (hn : ns.Nodup) {c : Nat} (hc : c ∈ ns) : ∃ rest, Builtin.Str.occurrences (tx ns) ⟨#[c]⟩ 0 (tx ns).length 1 = ns.idxOf c :: rest := by
  have h1 := StrLaws.found_one (tx ns) c
  rw [decide_eq_true (show c ∈ (tx ns).cps.toList from hc)] at h1
  cases e : Builtin.Str.occurrences (tx ns) ⟨#[c]⟩ 0 (tx ns).length 1 with
  | nil => rw [e] at h1; cases h1
  | cons i rest =>
    have h2 := StrLaws.occ_spec (tx ns) ⟨#[c]⟩ 0 (tx ns).length 1 i (by rw [e]; exact List.mem_cons_self)
    have h3 := (StrLaws.subAt_one (tx ns) c i).mp h2
    rw [nodup_idx ns i c hn h3]
    exact ⟨rest, rfl⟩
/-- the code of the sign's place in the order of first occurrence -/
def nfc (cs : List Nat) (c : Nat) : Nat := 97 + (met cs).idxOf c
def nf (cs : List Nat) : List Nat := cs.map (nfc cs)
theorem met_map_key (f : Nat → Nat) : ∀ (cs acc : List Nat), (∀ x y, x ∈ acc ++ cs → y ∈ acc ++ cs → f x = f y → x = y) → (cs.map f).foldl metStep (acc.map f) = (cs.foldl metStep acc).map f
  | [], acc, _ => rfl
  | c :: cs, acc, h => by
    rw [List.map_cons, List.foldl_cons, List.foldl_cons]
    have e : metStep (acc.map f) (f c) = (metStep acc c).map f := by
      unfold metStep
      by_cases q : c ∈ acc
      · rw [if_pos q, if_pos (List.mem_map.mpr ⟨c, q, rfl⟩)]
      · have q2 : ¬ f c ∈ acc.map f := fun z => by
          obtain ⟨x, hx, e⟩ := List.mem_map.mp z
          exact q (h x c (by simp [hx]) (by simp) e ▸ hx)
        rw [if_neg q, if_neg q2, List.map_append]
        rfl
    rw [e]
    refine met_map_key f cs (metStep acc c) fun x y hx hy => h x y ?_ ?_
    · rcases List.mem_append.mp hx with z | z
      · rcases mem_metStep.mp z with z | z
        · simp [z]
        · simp [z]
      · simp [z]
    · rcases List.mem_append.mp hy with z | z
      · rcases mem_metStep.mp z with z | z
        · simp [z]
        · simp [z]
      · simp [z]
theorem met_map {f : Nat → Nat} {cs : List Nat} (h : ∀ x y, x ∈ cs → y ∈ cs → f x = f y → x = y) : met (cs.map f) = (met cs).map f := by
  have q := met_map_key f cs [] (by simpa using h)
  exact q
theorem idx_map {f : Nat → Nat} : ∀ (ns : List Nat) (c : Nat), (∀ x, x ∈ ns → f x = f c → x = c) → (ns.map f).idxOf (f c) = ns.idxOf c
  | [], c, _ => rfl
  | a :: r, c, h => by
    rw [List.map_cons]
    by_cases e : a = c
    · subst e
      rw [List.idxOf_cons_self, List.idxOf_cons_self]
    · have e2 : f a ≠ f c := fun z => e (h a List.mem_cons_self z)
      rw [idx_ne _ e, idx_ne _ e2, idx_map r c fun x hx => h x (List.mem_cons_of_mem _ hx)]
theorem nf_map {f : Nat → Nat} {cs : List Nat} (h : ∀ x y, x ∈ cs → y ∈ cs → f x = f y → x = y) : nf (cs.map f) = nf cs := by
  unfold nf
  rw [List.map_map]
  refine List.map_congr_left fun c hc => ?_
  show nfc (cs.map f) (f c) = nfc cs c
  unfold nfc
  rw [met_map h, idx_map _ _ fun x hx e => h x c (mem_met.mp hx) hc e]
theorem nfc_inj {cs : List Nat} {x y : Nat} (hx : x ∈ cs) (hy : y ∈ cs) (e : nfc cs x = nfc cs y) : x = y := by
  unfold nfc at e
  have h1 := idx_at (mem_met.mpr hx)
  have h2 := idx_at (mem_met.mpr hy)
  rw [show (met cs).idxOf x = (met cs).idxOf y by omega] at h1
  rw [h1] at h2
  exact Option.some.inj h2
theorem nf_nf (cs : List Nat) : nf (nf cs) = nf cs := nf_map fun _ _ hx hy e => nfc_inj hx hy e
theorem nfc_lt {cs : List Nat} {c : Nat} (h : c ∈ cs) : (met cs).idxOf c < (met cs).length := List.idxOf_lt_length_of_mem (mem_met.mpr h)
/-- a pattern, as its codes -/
structure Pat (cs : List Nat) : Prop where
  len : cs.length ≤ 40
  low : Low cs
  few : (met cs).length ≤ 8
theorem Pat.nil : Pat [] := ⟨by decide, fun c h => by simp at h, by decide⟩
theorem Pat.map {f : Nat → Nat} {cs : List Nat} (p : Pat cs) (h : ∀ x y, x ∈ cs → y ∈ cs → f x = f y → x = y) (hl : ∀ c ∈ cs, 97 ≤ f c ∧ f c ≤ 122) : Pat (cs.map f) :=
  ⟨by rw [List.length_map]; exact p.len, fun x hx => by obtain ⟨c, hc, rfl⟩ := List.mem_map.mp hx; exact hl c hc, by rw [met_map h, List.length_map]; exact p.few⟩
theorem Pat.nf {cs : List Nat} (p : Pat cs) : Pat (nf cs) := p.map (fun _ _ hx hy e => nfc_inj hx hy e) fun c hc => by
  have h1 := nfc_lt hc
  have h2 := p.few
  unfold nfc
  omega
theorem repr_room {cs : List Nat} (h : Low cs) (hl : cs.length ≤ 1000) : (reprText (tx cs)).length ≤ sizeLine := by
  have h1 := StrLaws.reprText_len (tx cs) (fun c hc => by
    have := h c hc
    have h3 : (122 : Nat) < 16 ^ 8 := by decide
    omega)
  rw [tx_len] at h1
  exact fits5 (by omega)
theorem map_take_snoc {α β : Type} {f : α → β} {cs : List α} {i : Nat} {c : α} (h : cs[i]? = some c) : (cs.take (i + 1)).map f = (cs.take i).map f ++ [f c] := by
  rw [List.take_add_one, h, List.map_append]
  rfl
theorem met_take_snoc {cs : List Nat} {i c : Nat} (h : cs[i]? = some c) : met (cs.take (i + 1)) = metStep (met (cs.take i)) c := by
  rw [List.take_add_one, h]
  exact met_snoc _ _
end Mo

namespace Mo
open PySem PySem.Spec PyProof.Rows L2
/-! ### components of a bipartite graph: by merging, and by walking -/
abbrev Nd := Bool × Nat
inductive Cn (es : List (Nat × Nat)) : Nd → Nd → Prop
  | refl (v : Nd) : Cn es v v
  | l2r {v : Nd} {a b : Nat} : Cn es v (false, a) → (a, b) ∈ es → Cn es v (true, b)
  | r2l {v : Nd} {a b : Nat} : Cn es v (true, b) → (a, b) ∈ es → Cn es v (false, a)
section
variable {es es' : List (Nat × Nat)} {u v x : Nd} {a b : Nat}
theorem Cn.trans (h : Cn es u v) (k : Cn es v x) : Cn es u x := by
  induction k with
  | refl => exact h
  | l2r _ e ih => exact .l2r ih e
  | r2l _ e ih => exact .r2l ih e
theorem Cn.symm (h : Cn es u v) : Cn es v u := by
  induction h with
  | refl => exact .refl _
  | l2r _ e ih => exact (Cn.r2l (.refl _) e).trans ih
  | r2l _ e ih => exact (Cn.l2r (.refl _) e).trans ih
theorem Cn.mono (h : Cn es u v) (s : ∀ e ∈ es, e ∈ es') : Cn es' u v := by
  induction h with
  | refl => exact .refl _
  | l2r _ e ih => exact .l2r ih (s _ e)
  | r2l _ e ih => exact .r2l ih (s _ e)
theorem Cn.in {ns : List Nat} (h : Cn es u v) (hu : u.2 ∈ ns) (s : ∀ e ∈ es, e.1 ∈ ns ∧ e.2 ∈ ns) : v.2 ∈ ns := by
  induction h with
  | refl => exact hu
  | l2r _ e ih => exact (s _ e).2
  | r2l _ e ih => exact (s _ e).1
theorem Cn.nil_iff : Cn [] u v ↔ v = u := by
  refine ⟨fun h => ?_, fun h => h ▸ .refl _⟩
  induction h with
  | refl => rfl
  | l2r _ e _ => cases e
  | r2l _ e _ => cases e
/-- the node is joined with an end of the edge (a, b) -/
def Tch (es : List (Nat × Nat)) (a b : Nat) (u : Nd) : Prop := Cn es u (false, a) ∨ Cn es u (true, b)
theorem Tch.at (h : Tch es a b u) (k : Cn es v u) : Tch es a b v := h.imp k.trans k.trans
theorem Cn.add : Cn (es ++ [(a, b)]) u v ↔ Cn es u v ∨ (Tch es a b u ∧ Tch es a b v) := by
  constructor
  · intro h
    induction h with
    | refl => exact .inl (.refl _)
    | @l2r a' b' _ e ih =>
      rcases List.mem_append.mp e with e | e
      · exact ih.imp (fun h => .l2r h e) fun h => ⟨h.1, h.2.at (.r2l (.refl _) e)⟩
      · obtain ⟨rfl, rfl⟩ := Prod.mk.inj (List.mem_singleton.mp e)
        exact .inr ⟨ih.elim .inl (·.1), .inr (.refl _)⟩
    | @r2l a' b' _ e ih =>
      rcases List.mem_append.mp e with e | e
      · exact ih.imp (fun h => .r2l h e) fun h => ⟨h.1, h.2.at (.l2r (.refl _) e)⟩
      · obtain ⟨rfl, rfl⟩ := Prod.mk.inj (List.mem_singleton.mp e)
        exact .inr ⟨ih.elim .inr (·.1), .inl (.refl _)⟩
  · have s : ∀ e ∈ es, e ∈ es ++ [(a, b)] := fun e h => List.mem_append_left _ h
    have m : (a, b) ∈ es ++ [(a, b)] := by simp
    have one : ∀ {y : Nd}, Tch es a b y → Cn (es ++ [(a, b)]) y (false, a) := fun h =>
      h.elim (fun h => h.mono s) fun h => .r2l (h.mono s) m
    rintro (h | ⟨h, k⟩)
    · exact h.mono s
    · exact (one h).trans (one k).symm
end
abbrev Pt := List Nat × List Nat
/-- the node is in the part -/
def At (p : Pt) (u : Nd) : Prop := u.2 ∈ (if u.1 then p.2 else p.1)
theorem at_l {p : Pt} {c : Nat} : At p (false, c) ↔ c ∈ p.1 := Iff.rfl
theorem at_r {p : Pt} {c : Nat} : At p (true, c) ↔ c ∈ p.2 := Iff.rfl
theorem asc_ext : ∀ a b : List Nat, a.Pairwise (· < ·) → b.Pairwise (· < ·) → (∀ x, x ∈ a ↔ x ∈ b) → a = b
  | [], [], _, _, _ => rfl
  | [], y :: b, _, _, h => absurd ((h y).mpr List.mem_cons_self) (by simp)
  | x :: a, [], _, _, h => absurd ((h x).mp List.mem_cons_self) (by simp)
  | x :: a, y :: b, ha, hb, h => by
    have ha2 := List.pairwise_cons.mp ha
    have hb2 := List.pairwise_cons.mp hb
    have e : x = y := by
      rcases List.mem_cons.mp ((h x).mp List.mem_cons_self) with q | q
      · exact q
      · rcases List.mem_cons.mp ((h y).mpr List.mem_cons_self) with q' | q'
        · exact q'.symm
        · have := hb2.1 x q
          have := ha2.1 y q'
          omega
    subst e
    congr 1
    refine asc_ext a b ha2.2 hb2.2 fun z => ⟨fun hz => ?_, fun hz => ?_⟩
    · rcases List.mem_cons.mp ((h z).mp (List.mem_cons_of_mem _ hz)) with q | q
      · have := ha2.1 z hz
        omega
      · exact q
    · rcases List.mem_cons.mp ((h z).mpr (List.mem_cons_of_mem _ hz)) with q | q
      · have := hb2.1 z hz
        omega
      · exact q
theorem asc_nodup {a : List Nat} (h : a.Pairwise (· < ·)) : a.Nodup := h.imp fun h => Nat.ne_of_lt h
/-- a component of the graph, in which v lies -/
structure Comp (es : List (Nat × Nat)) (v : Nd) (p : Pt) : Prop where
  asc1 : p.1.Pairwise (· < ·)
  asc2 : p.2.Pairwise (· < ·)
  all : ∀ u, At p u ↔ Cn es v u
theorem Comp.eq {es : List (Nat × Nat)} {v u : Nd} {p q : Pt} (h : Comp es v p) (k : Comp es u q) {x : Nd} (hx : At p x) (kx : At q x) : p = q := by
  have e : ∀ y, At p y ↔ At q y := fun y => by
    rw [h.all, k.all]
    have h1 := (h.all x).mp hx
    have k1 := (k.all x).mp kx
    exact ⟨fun z => k1.trans (h1.symm.trans z), fun z => h1.trans (k1.symm.trans z)⟩
  exact Prod.ext (asc_ext _ _ h.asc1 k.asc1 fun c => e (false, c)) (asc_ext _ _ h.asc2 k.asc2 fun c => e (true, c))
theorem Comp.self {es : List (Nat × Nat)} {v : Nd} {p : Pt} (h : Comp es v p) : At p v := (h.all v).mpr (.refl v)
/-- the components of the graph whose nodes have these names -/
structure Parts (es : List (Nat × Nat)) (ns : List Nat) (ps : List Pt) : Prop where
  nd : ps.Nodup
  cov : ∀ v : Nd, v.2 ∈ ns → ∃ p ∈ ps, At p v
  cmp : ∀ p ∈ ps, ∃ v : Nd, v.2 ∈ ns ∧ Comp es v p
section
variable {es : List (Nat × Nat)} {ns : List Nat} {ps qs : List Pt}
theorem Parts.iff (h : Parts es ns ps) (k : Parts es ns qs) {p : Pt} : p ∈ ps ↔ p ∈ qs := by
  have one : ∀ {ps qs : List Pt}, Parts es ns ps → Parts es ns qs → p ∈ ps → p ∈ qs := fun h k hp => by
    obtain ⟨v, hv, hc⟩ := h.cmp p hp
    obtain ⟨q, hq, ha⟩ := k.cov v hv
    obtain ⟨u, _, hd⟩ := k.cmp q hq
    rw [hc.eq hd hc.self ha]
    exact hq
  exact ⟨one h k, one k h⟩
theorem Parts.nil (hn : ns.Nodup) : Parts [] ns (ns.map (fun c => ([c], [])) ++ ns.map fun c => ([], [c])) := by
  refine ⟨?_, fun v hv => ?_, fun p hp => ?_⟩
  · refine List.nodup_append.mpr ⟨?_, ?_, ?_⟩
    · refine (List.pairwise_map.mpr (hn.imp fun h e => h ?_))
      simpa using e
    · refine (List.pairwise_map.mpr (hn.imp fun h e => h ?_))
      simpa using e
    · intro a ha b hb e
      obtain ⟨c, _, rfl⟩ := List.mem_map.mp ha
      obtain ⟨d, _, rfl⟩ := List.mem_map.mp hb
      simp at e
  · obtain ⟨s, c⟩ := v
    cases s
    · exact ⟨([c], []), List.mem_append_left _ (List.mem_map.mpr ⟨c, hv, rfl⟩), List.mem_singleton.mpr rfl⟩
    · exact ⟨([], [c]), List.mem_append_right _ (List.mem_map.mpr ⟨c, hv, rfl⟩), List.mem_singleton.mpr rfl⟩
  · rcases List.mem_append.mp hp with h | h
    · obtain ⟨c, hc, rfl⟩ := List.mem_map.mp h
      refine ⟨(false, c), hc, by simp, by simp, fun u => ?_⟩
      rw [Cn.nil_iff]
      obtain ⟨s, d⟩ := u
      cases s <;> simp [At]
    · obtain ⟨c, hc, rfl⟩ := List.mem_map.mp h
      refine ⟨(true, c), hc, by simp, by simp, fun u => ?_⟩
      rw [Cn.nil_iff]
      obtain ⟨s, d⟩ := u
      cases s <;> simp [At]
/-- the parts near an edge, and the others -/
def nearP (ps : List Pt) (a b : Nat) : List Pt := ps.filter fun p => decide (a ∈ p.1) || decide (b ∈ p.2)
def farP (ps : List Pt) (a b : Nat) : List Pt := ps.filter fun p => !decide (a ∈ p.1) && !decide (b ∈ p.2)
theorem mem_near {a b : Nat} {p : Pt} : p ∈ nearP ps a b ↔ p ∈ ps ∧ (a ∈ p.1 ∨ b ∈ p.2) := by
  unfold nearP
  rw [List.mem_filter]
  simp
theorem mem_far {a b : Nat} {p : Pt} : p ∈ farP ps a b ↔ p ∈ ps ∧ a ∉ p.1 ∧ b ∉ p.2 := by
  unfold farP
  rw [List.mem_filter]
  simp
theorem nodup_flatMap {f : Pt → List Nat} : ∀ {l : List Pt}, l.Nodup → (∀ p ∈ l, (f p).Nodup) → (∀ p ∈ l, ∀ q ∈ l, ∀ c, c ∈ f p → c ∈ f q → p = q) → (l.flatMap f).Nodup
  | [], _, _, _ => List.nodup_nil
  | p :: l, hn, h1, h2 => by
    have hn2 := List.nodup_cons.mp hn
    rw [List.flatMap_cons]
    refine List.nodup_append.mpr ⟨h1 p List.mem_cons_self, nodup_flatMap hn2.2 (fun q hq => h1 q (List.mem_cons_of_mem _ hq)) (fun q hq r hr => h2 q (List.mem_cons_of_mem _ hq) r (List.mem_cons_of_mem _ hr)), fun c hc d hd e => ?_⟩
    subst e
    obtain ⟨q, hq, hcq⟩ := List.mem_flatMap.mp hd
    have := h2 p List.mem_cons_self q (List.mem_cons_of_mem _ hq) c hc hcq
    rw [this] at hn2
    exact hn2.1 hq
theorem le_asc {l : List Nat} (h : l.Pairwise (· ≤ ·)) (n : l.Nodup) : l.Pairwise (· < ·) := List.Pairwise.imp₂ (fun a b h1 h2 => Nat.lt_of_le_of_ne h1 h2) h n
theorem Parts.step (h : Parts es ns ps) {a b : Nat} (ha : a ∈ ns) (hb : b ∈ ns) {L R : List Nat} (pl : L.Perm ((nearP ps a b).flatMap (·.1))) (pr : R.Perm ((nearP ps a b).flatMap (·.2))) (sl : L.Pairwise (· ≤ ·)) (sr : R.Pairwise (· ≤ ·)) :
    Parts (es ++ [(a, b)]) ns (farP ps a b ++ [(L, R)]) := by
  have nn : (nearP ps a b).Nodup := h.nd.filter _
  have same : ∀ p ∈ ps, ∀ q ∈ ps, ∀ x : Nd, At p x → At q x → p = q := fun p hp q hq x h1 h2 => by
    obtain ⟨v, _, hv⟩ := h.cmp p hp
    obtain ⟨u, _, hu⟩ := h.cmp q hq
    exact hv.eq hu h1 h2
  have nl : ((nearP ps a b).flatMap (·.1)).Nodup := nodup_flatMap nn (fun p hp => by
      obtain ⟨v, _, hv⟩ := h.cmp p (mem_near.mp hp).1
      exact asc_nodup hv.asc1) fun p hp q hq c h1 h2 => same p (mem_near.mp hp).1 q (mem_near.mp hq).1 (false, c) h1 h2
  have nr : ((nearP ps a b).flatMap (·.2)).Nodup := nodup_flatMap nn (fun p hp => by
      obtain ⟨v, _, hv⟩ := h.cmp p (mem_near.mp hp).1
      exact asc_nodup hv.asc2) fun p hp q hq c h1 h2 => same p (mem_near.mp hp).1 q (mem_near.mp hq).1 (true, c) h1 h2
  have at_ : ∀ u, At (L, R) u ↔ ∃ p ∈ nearP ps a b, At p u := fun u => by
    obtain ⟨s, c⟩ := u
    cases s
    · exact (pl.mem_iff).trans List.mem_flatMap
    · exact (pr.mem_iff).trans List.mem_flatMap
  have cn : ∀ u, At (L, R) u ↔ Tch es a b u := fun u => by
    rw [at_]
    constructor
    · rintro ⟨p, hp, hu⟩
      obtain ⟨hp, hn⟩ := mem_near.mp hp
      obtain ⟨v, _, hv⟩ := h.cmp p hp
      have h1 := ((hv.all u).mp hu).symm
      exact hn.imp (fun z => h1.trans ((hv.all (false, a)).mp z)) fun z => h1.trans ((hv.all (true, b)).mp z)
    · rintro (z | z)
      · obtain ⟨p, hp, hq⟩ := h.cov (false, a) ha
        obtain ⟨v, _, hv⟩ := h.cmp p hp
        exact ⟨p, mem_near.mpr ⟨hp, .inl hq⟩, (hv.all u).mpr (((hv.all _).mp hq).trans z.symm)⟩
      · obtain ⟨p, hp, hq⟩ := h.cov (true, b) hb
        obtain ⟨v, _, hv⟩ := h.cmp p hp
        exact ⟨p, mem_near.mpr ⟨hp, .inr hq⟩, (hv.all u).mpr (((hv.all _).mp hq).trans z.symm)⟩
  have ain : At (L, R) (false, a) := (cn _).mpr (.inl (.refl _))
  refine ⟨?_, fun v hv => ?_, fun p hp => ?_⟩
  · refine List.nodup_append.mpr ⟨h.nd.filter _, by simp, fun p hp q hq e => ?_⟩
    obtain rfl := List.mem_singleton.mp hq
    subst e
    exact (mem_far.mp hp).2.1 ain
  · obtain ⟨p, hp, hpv⟩ := h.cov v hv
    by_cases g : a ∈ p.1 ∨ b ∈ p.2
    · exact ⟨(L, R), by simp, (at_ v).mpr ⟨p, mem_near.mpr ⟨hp, g⟩, hpv⟩⟩
    · exact ⟨p, List.mem_append_left _ (mem_far.mpr ⟨hp, fun z => g (.inl z), fun z => g (.inr z)⟩), hpv⟩
  · rcases List.mem_append.mp hp with hp | hp
    · obtain ⟨hp, h1, h2⟩ := mem_far.mp hp
      obtain ⟨v, hv, c⟩ := h.cmp p hp
      refine ⟨v, hv, c.asc1, c.asc2, fun u => ?_⟩
      rw [c.all, Cn.add]
      refine ⟨.inl, fun z => z.elim id fun z => ?_⟩
      rcases z.1 with z | z
      · exact absurd ((c.all (false, a)).mpr z) h1
      · exact absurd ((c.all (true, b)).mpr z) h2
    · obtain rfl := List.mem_singleton.mp hp
      refine ⟨(false, a), ha, le_asc sl (pl.nodup_iff.mpr nl), le_asc sr (pr.nodup_iff.mpr nr), fun u => ?_⟩
      rw [cn, Cn.add]
      refine ⟨fun z => .inr ⟨.inl (.refl _), z⟩, fun z => z.elim (fun z => .inl z.symm) (·.2)⟩
end
/-! the walk from a node -/
def nextN (es : List (Nat × Nat)) (u : Nd) : List Nd :=
  if u.1 then (es.filter fun e => decide (e.2 = u.2)).map fun e => (false, e.1) else (es.filter fun e => decide (e.1 = u.2)).map fun e => (true, e.2)
theorem mem_next {es : List (Nat × Nat)} {u x : Nd} : x ∈ nextN es u ↔ x.1 ≠ u.1 ∧ (if u.1 then (x.2, u.2) ∈ es else (u.2, x.2) ∈ es) := by
  obtain ⟨s, c⟩ := u
  obtain ⟨t, d⟩ := x
  cases s <;> cases t <;> simp [nextN, List.mem_filter]
/-- the nodes found so far, those before index i with all that are next to them -/
structure Wlk (es : List (Nat × Nat)) (v : Nd) (F : List Nd) (i : Nat) : Prop where
  nd : F.Nodup
  st : v ∈ F
  cn : ∀ u ∈ F, Cn es v u
  dn : ∀ k u, k < i → F[k]? = some u → ∀ x ∈ nextN es u, x ∈ F
theorem Wlk.one {es : List (Nat × Nat)} {v : Nd} : Wlk es v [v] 0 := ⟨by simp, by simp, fun u h => by rw [List.mem_singleton.mp h]; exact .refl _, fun k u h => absurd h (Nat.not_lt_zero _)⟩
theorem next_cn {es : List (Nat × Nat)} {v u x : Nd} (h : Cn es v u) (k : x ∈ nextN es u) : Cn es v x := by
  obtain ⟨s, c⟩ := u
  obtain ⟨t, d⟩ := x
  obtain ⟨h1, h2⟩ := mem_next.mp k
  cases s <;> cases t
  · exact absurd rfl h1
  · exact .l2r h h2
  · exact .r2l h h2
  · exact absurd rfl h1
theorem nodup_next {es : List (Nat × Nat)} (hn : es.Nodup) (u : Nd) : (nextN es u).Nodup := by
  unfold nextN
  split
  · refine List.pairwise_map.mpr (List.Pairwise.imp_of_mem (fun {p q} hp hq h e => h ?_) (hn.filter _))
    have h1 := of_decide_eq_true (List.mem_filter.mp hp).2
    have h2 := of_decide_eq_true (List.mem_filter.mp hq).2
    exact Prod.ext (by simpa using e) (h1.trans h2.symm)
  · refine List.pairwise_map.mpr (List.Pairwise.imp_of_mem (fun {p q} hp hq h e => h ?_) (hn.filter _))
    have h1 := of_decide_eq_true (List.mem_filter.mp hp).2
    have h2 := of_decide_eq_true (List.mem_filter.mp hq).2
    exact Prod.ext (h1.trans h2.symm) (by simpa using e)
def newN (es : List (Nat × Nat)) (F : List Nd) (u : Nd) : List Nd := (nextN es u).filter fun x => !decide (x ∈ F)
theorem Wlk.step {es : List (Nat × Nat)} {v u : Nd} {F : List Nd} {i : Nat} (hn : es.Nodup) (h : Wlk es v F i) (hu : F[i]? = some u) : Wlk es v (F ++ newN es F u) (i + 1) := by
  have um := List.mem_of_getElem? hu
  refine ⟨?_, List.mem_append_left _ h.st, fun x hx => ?_, fun k y hk hy x hx => ?_⟩
  · refine List.nodup_append.mpr ⟨h.nd, (nodup_next hn u).filter _, fun a ha b hb e => ?_⟩
    subst e
    have := (List.mem_filter.mp hb).2
    simp [ha] at this
  · rcases List.mem_append.mp hx with hx | hx
    · exact h.cn x hx
    · exact next_cn (h.cn u um) (List.mem_filter.mp hx).1
  · by_cases g : k = i
    · subst g
      have lt := (List.getElem?_eq_some_iff.mp hu).1
      rw [List.getElem?_append_left lt, hu] at hy
      obtain rfl := Option.some.inj hy
      by_cases m : x ∈ F
      · exact List.mem_append_left _ m
      · exact List.mem_append_right _ (List.mem_filter.mpr ⟨hx, by simp [m]⟩)
    · have lt := (List.getElem?_eq_some_iff.mp hu).1
      rw [List.getElem?_append_left (by omega)] at hy
      exact List.mem_append_left _ (h.dn k y (by omega) hy x hx)
theorem Wlk.end {es : List (Nat × Nat)} {v : Nd} {F : List Nd} {i : Nat} (h : Wlk es v F i) (hi : F.length ≤ i) : ∀ u, u ∈ F ↔ Cn es v u := by
  have cl : ∀ u ∈ F, ∀ x ∈ nextN es u, x ∈ F := fun u hu x hx => by
    obtain ⟨k, hk⟩ := List.getElem?_of_mem hu
    have := (List.getElem?_eq_some_iff.mp hk).1
    exact h.dn k u (by omega) hk x hx
  refine fun u => ⟨h.cn u, fun z => ?_⟩
  induction z with
  | refl => exact h.st
  | l2r _ e ih => exact cl _ ih _ (mem_next.mpr ⟨by simp, by simpa using e⟩)
  | r2l _ e ih => exact cl _ ih _ (mem_next.mpr ⟨by simp, by simpa using e⟩)
theorem nd_sub {α : Type} [DecidableEq α] : ∀ (a b : List α), a.Nodup → (∀ x ∈ a, x ∈ b) → a.length ≤ b.length
  | [], b, _, _ => Nat.zero_le _
  | x :: a, b, hn, hs => by
    have hx : x ∈ b := hs x List.mem_cons_self
    have hn2 := List.nodup_cons.mp hn
    have ih := nd_sub a (b.erase x) hn2.2 fun y hy => by
      have ne : y ≠ x := fun e => hn2.1 (e ▸ hy)
      exact (List.mem_erase_of_ne ne).mpr (hs y (List.mem_cons_of_mem _ hy))
    rw [List.length_erase_of_mem hx] at ih
    have := List.length_pos_of_mem hx
    rw [List.length_cons]
    omega
theorem Wlk.len {es : List (Nat × Nat)} {v : Nd} {F : List Nd} {i : Nat} (h : Wlk es v F i) : F.length ≤ 2 * es.length + 1 := by
  refine Nat.le_trans (nd_sub F (v :: (es.map (fun e => (false, e.1)) ++ es.map fun e => (true, e.2))) h.nd fun x hx => ?_) (by simp; omega)
  have := h.cn x hx
  cases this with
  | refl => simp
  | l2r _ e => exact List.mem_cons_of_mem _ (List.mem_append_right _ (List.mem_map.mpr ⟨_, e, rfl⟩))
  | r2l _ e => exact List.mem_cons_of_mem _ (List.mem_append_left _ (List.mem_map.mpr ⟨_, e, rfl⟩))
/-- the walk's whole: the nodes of v's component, none twice -/
structure Whole (es : List (Nat × Nat)) (v : Nd) (F : List Nd) : Prop where
  nd : F.Nodup
  all : ∀ u, u ∈ F ↔ Cn es v u
def sideN (F : List Nd) (s : Bool) : List Nat := (F.filter fun u => decide (u.1 = s)).map (·.2)
theorem mem_side {F : List Nd} {s : Bool} {c : Nat} : c ∈ sideN F s ↔ (s, c) ∈ F := by
  unfold sideN
  constructor
  · intro h
    obtain ⟨u, hu, rfl⟩ := List.mem_map.mp h
    obtain ⟨h1, h2⟩ := List.mem_filter.mp hu
    have h2 := of_decide_eq_true h2
    rw [← h2]
    exact h1
  · intro h
    exact List.mem_map.mpr ⟨_, List.mem_filter.mpr ⟨h, by simp⟩, rfl⟩
theorem nodup_side {F : List Nd} (h : F.Nodup) (s : Bool) : (sideN F s).Nodup := by
  unfold sideN
  refine List.pairwise_map.mpr (List.Pairwise.imp_of_mem (fun {p q} hp hq h e => h ?_) (h.filter _))
  have h1 := of_decide_eq_true (List.mem_filter.mp hp).2
  have h2 := of_decide_eq_true (List.mem_filter.mp hq).2
  exact Prod.ext (h1.trans h2.symm) e
theorem Whole.comp {es : List (Nat × Nat)} {v : Nd} {F : List Nd} (h : Whole es v F) {L R : List Nat} (pl : L.Perm (sideN F false)) (pr : R.Perm (sideN F true)) (sl : L.Pairwise (· ≤ ·)) (sr : R.Pairwise (· ≤ ·)) : Comp es v (L, R) := by
  refine ⟨le_asc sl (pl.nodup_iff.mpr (nodup_side h.nd _)), le_asc sr (pr.nodup_iff.mpr (nodup_side h.nd _)), fun u => ?_⟩
  rw [← h.all]
  obtain ⟨s, c⟩ := u
  cases s
  · exact (pl.mem_iff).trans mem_side
  · exact (pr.mem_iff).trans mem_side
/-- the components of the nodes gone through so far, and the nodes seen -/
structure Gone (es : List (Nat × Nat)) (ns : List Nat) (vs : List Nd) (qs : List Pt) (S : List Nd) : Prop where
  nd : qs.Nodup
  cov : ∀ v ∈ vs, v ∈ S
  cmp : ∀ p ∈ qs, ∃ v : Nd, v.2 ∈ ns ∧ Comp es v p
  sn : ∀ u, u ∈ S ↔ ∃ q ∈ qs, At q u
theorem Gone.nil {es : List (Nat × Nat)} {ns : List Nat} : Gone es ns [] [] [] := ⟨List.nodup_nil, fun _ h => absurd h (by simp), fun _ h => absurd h (by simp), fun u => by simp⟩
theorem Gone.old {es : List (Nat × Nat)} {ns : List Nat} {vs : List Nd} {qs : List Pt} {S : List Nd} (h : Gone es ns vs qs S) {v : Nd} (hv : v ∈ S) : Gone es ns (vs ++ [v]) qs S :=
  ⟨h.nd, fun u hu => (List.mem_append.mp hu).elim (h.cov u) fun z => by rw [List.mem_singleton.mp z]; exact hv, h.cmp, h.sn⟩
theorem Gone.new {es : List (Nat × Nat)} {ns : List Nat} {vs : List Nd} {qs : List Pt} {S : List Nd} (h : Gone es ns vs qs S) {v : Nd} (hn : v.2 ∈ ns) (hv : v ∉ S) {F : List Nd} (w : Whole es v F) {p : Pt} (c : Comp es v p) : Gone es ns (vs ++ [v]) (qs ++ [p]) (S ++ F) := by
  refine ⟨List.nodup_append.mpr ⟨h.nd, by simp, fun q hq r hr e => ?_⟩, fun u hu => ?_, fun q hq => ?_, fun u => ?_⟩
  · obtain rfl := List.mem_singleton.mp hr
    subst e
    exact hv ((h.sn v).mpr ⟨q, hq, c.self⟩)
  · rcases List.mem_append.mp hu with hu | hu
    · exact List.mem_append_left _ (h.cov u hu)
    · rw [List.mem_singleton.mp hu]
      exact List.mem_append_right _ ((w.all v).mpr (.refl v))
  · rcases List.mem_append.mp hq with hq | hq
    · exact h.cmp q hq
    · rw [List.mem_singleton.mp hq]
      exact ⟨v, hn, c⟩
  · rw [List.mem_append, h.sn, w.all, ← c.all]
    constructor
    · rintro (⟨q, hq, hu⟩ | hu)
      · exact ⟨q, List.mem_append_left _ hq, hu⟩
      · exact ⟨p, by simp, hu⟩
    · rintro ⟨q, hq, hu⟩
      rcases List.mem_append.mp hq with hq | hq
      · exact .inl ⟨q, hq, hu⟩
      · rw [List.mem_singleton.mp hq] at hu
        exact .inr hu
theorem Gone.parts {es : List (Nat × Nat)} {ns : List Nat} {vs : List Nd} {qs : List Pt} {S : List Nd} (h : Gone es ns vs qs S) (all : ∀ v : Nd, v.2 ∈ ns → v ∈ vs) : Parts es ns qs :=
  ⟨h.nd, fun v hv => (h.sn v).mp (h.cov v (all v hv)), h.cmp⟩
/-! ### the parts in order -/
/-- the sign c as a text -/
def ch1 (c : Nat) : Str := ⟨#[c]⟩
theorem ch1_inj {a b : Nat} (h : ch1 a = ch1 b) : a = b := by
  have h : (#[a] : Array Nat) = #[b] := congrArg Str.cps h
  simpa using h
def edS (e : Nat × Nat) : List Str := [ch1 e.1, ch1 e.2]
def ptS (q : Pt) : List Str := [tx q.1, tx q.2]
def sd (b : Bool) : Str := if b then Str.ofString "right" else Str.ofString "left"
def ndS (u : Nd) : List Str := [sd u.1, ch1 u.2]
def edV (e : Nat × Nat) : List V := (edS e).map V.str
def ptV (q : Pt) : List V := (ptS q).map V.str
def ndV (u : Nd) : List V := (ndS u).map V.str
theorem sd_ne : Str.ofString "right" ≠ Str.ofString "left" := by decide +kernel
theorem sd_inj {a b : Bool} (h : sd a = sd b) : a = b := by
  cases a <;> cases b
  · rfl
  · exact absurd h.symm sd_ne
  · exact absurd h sd_ne
  · rfl
theorem edS_inj {a b : Nat × Nat} (h : edS a = edS b) : a = b := by
  obtain ⟨h1, h2⟩ := List.cons.inj h
  obtain ⟨h2, _⟩ := List.cons.inj h2
  exact Prod.ext (ch1_inj h1) (ch1_inj h2)
theorem ptS_inj {a b : Pt} (h : ptS a = ptS b) : a = b := by
  obtain ⟨h1, h2⟩ := List.cons.inj h
  obtain ⟨h2, _⟩ := List.cons.inj h2
  exact Prod.ext (tx_inj h1) (tx_inj h2)
theorem ndS_inj {a b : Nd} (h : ndS a = ndS b) : a = b := by
  obtain ⟨h1, h2⟩ := List.cons.inj h
  obtain ⟨h2, _⟩ := List.cons.inj h2
  exact Prod.ext (sd_inj h1) (ch1_inj h2)
/-- in order -/
def LeS {α : Type} (g : α → List Str) (a b : α) : Prop := lexS (two (g b)) (two (g a)) = false
theorem ptS_anti {a b : Pt} (h : LeS ptS a b) (k : LeS ptS b a) : a = b := by
  have e := lexS_eq h k
  have e : (tx b.1, tx b.2) = (tx a.1, tx a.2) := e
  obtain ⟨e1, e2⟩ := Prod.mk.inj e
  exact (Prod.ext (tx_inj e1) (tx_inj e2)).symm
theorem perm_le_eq {α : Type} {le : α → α → Prop} (anti : ∀ a b, le a b → le b a → a = b) : ∀ {a b : List α}, a.Perm b → a.Pairwise le → b.Pairwise le → a = b
  | [], [], _, _, _ => rfl
  | [], y :: b, h, _, _ => absurd h.length_eq (by simp)
  | x :: a, [], h, _, _ => absurd h.length_eq (by simp)
  | x :: a, y :: b, h, ha, hb => by
    have ha2 := List.pairwise_cons.mp ha
    have hb2 := List.pairwise_cons.mp hb
    have e : x = y := by
      rcases List.mem_cons.mp (h.mem_iff.mp List.mem_cons_self) with q | q
      · exact q
      · rcases List.mem_cons.mp (h.mem_iff.mpr List.mem_cons_self) with q' | q'
        · exact q'.symm
        · exact anti _ _ (ha2.1 y q') (hb2.1 x q)
    subst e
    rw [perm_le_eq anti ((List.perm_cons x).mp h) ha2.2 hb2.2]
theorem perm_of_nodup {α : Type} [DecidableEq α] : ∀ {a b : List α}, a.Nodup → b.Nodup → (∀ x, x ∈ a ↔ x ∈ b) → a.Perm b
  | [], [], _, _, _ => .refl _
  | [], y :: b, _, _, h => absurd ((h y).mpr List.mem_cons_self) (by simp)
  | x :: a, b, ha, hb, h => by
    have ha2 := List.nodup_cons.mp ha
    have hx : x ∈ b := (h x).mp List.mem_cons_self
    have ih := perm_of_nodup (a := a) (b := b.erase x) ha2.2 (hb.erase x) fun z => by
      rw [hb.mem_erase_iff, ← h z, List.mem_cons]
      exact ⟨fun q => ⟨fun e => ha2.1 (e ▸ q), .inr q⟩, fun q => q.2.elim (fun e => absurd e q.1) id⟩
    exact (ih.cons x).trans (List.perm_cons_erase hx).symm
/-- the components in order -/
structure Comps (es : List (Nat × Nat)) (ns : List Nat) (ps : List Pt) : Prop where
  prt : Parts es ns ps
  ord : ps.Pairwise (LeS ptS)
theorem Comps.eq {es : List (Nat × Nat)} {ns : List Nat} {ps qs : List Pt} (h : Comps es ns ps) (k : Comps es ns qs) : ps = qs :=
  perm_le_eq (fun _ _ => ptS_anti) (perm_of_nodup h.prt.nd k.prt.nd fun _ => h.prt.iff k.prt) h.ord k.ord
theorem Parts.perm {es : List (Nat × Nat)} {ns : List Nat} {ps qs : List Pt} (h : Parts es ns ps) (p : qs.Perm ps) : Parts es ns qs :=
  ⟨p.nodup_iff.mpr h.nd, fun v hv => by
    obtain ⟨q, hq, a⟩ := h.cov v hv
    exact ⟨q, p.mem_iff.mpr hq, a⟩, fun q hq => h.cmp q (p.mem_iff.mp hq)⟩
theorem Parts.names {es : List (Nat × Nat)} {ns ms : List Nat} {ps : List Pt} (h : Parts es ns ps) (e : ∀ c, c ∈ ns ↔ c ∈ ms) : Parts es ms ps :=
  ⟨h.nd, fun v hv => h.cov v ((e _).mpr hv), fun p hp => by
    obtain ⟨v, hv, c⟩ := h.cmp p hp
    exact ⟨v, (e _).mp hv, c⟩⟩
/-- ascending pairs, none twice -/
def ltE (p q : Nat × Nat) : Prop := p.1 < q.1 ∨ (p.1 = q.1 ∧ p.2 < q.2)
theorem slt_ch (a b : Nat) : sltB (ch1 a) (ch1 b) = decide (a < b) := by
  unfold sltB ch1
  refine decide_eq_decide.mpr ?_
  show [a] < [b] ↔ a < b
  rw [List.cons_lt_cons_iff]
  exact ⟨fun h => h.elim id fun z => absurd z.2 (List.lt_irrefl _), .inl⟩
theorem lex_ch (p q : Nat × Nat) (h : lexS (ch1 p.1, ch1 p.2) (ch1 q.1, ch1 q.2) = false) (ne : p ≠ q) : ltE q p := by
  unfold lexS at h
  dsimp only at h
  by_cases e : p.1 = q.1
  · rw [e, if_pos rfl, slt_ch] at h
    have h := of_decide_eq_false h
    have : p.2 ≠ q.2 := fun z => ne (Prod.ext e z)
    exact .inr ⟨e.symm, by omega⟩
  · rw [if_neg (fun z => e (ch1_inj z)), slt_ch] at h
    have h := of_decide_eq_false h
    exact .inl (by omega)
theorem ltE_ne {p q : Nat × Nat} (h : ltE p q) : p ≠ q := fun e => by
  subst e
  rcases h with h | h
  · exact Nat.lt_irrefl _ h
  · exact Nat.lt_irrefl _ h.2
theorem ltE_asym {p q : Nat × Nat} (h : ltE p q) (k : ltE q p) : False := by
  rcases h with h | h <;> rcases k with k | k <;> omega
/-- the edges of a graph: ascending, just these -/
structure Edges (es : List (Nat × Nat)) (E : Nat × Nat → Prop) : Prop where
  mem : ∀ e, e ∈ es ↔ E e
  asc : es.Pairwise ltE
theorem Edges.nd {es : List (Nat × Nat)} {E : Nat × Nat → Prop} (h : Edges es E) : es.Nodup := h.asc.imp fun h => ltE_ne h
theorem Edges.eq {es fs : List (Nat × Nat)} {E : Nat × Nat → Prop} (h : Edges es E) (k : Edges fs E) : es = fs :=
  perm_le_eq (fun _ _ a b => (ltE_asym a b).elim) (perm_of_nodup h.nd k.nd fun e => (h.mem e).trans (k.mem e).symm) h.asc k.asc
/-- the neighbours -/
def nbr (cs : List Nat) : List (Nat × Nat) := cs.zip (cs.drop 1)
theorem nbr_in {cs : List Nat} {e : Nat × Nat} (h : e ∈ nbr cs) : e.1 ∈ cs ∧ e.2 ∈ cs := by
  obtain ⟨h1, h2⟩ := List.of_mem_zip (show (e.1, e.2) ∈ cs.zip (cs.drop 1) from h)
  exact ⟨h1, List.mem_of_mem_drop h2⟩
theorem nbr_len (cs : List Nat) : (nbr cs).length ≤ cs.length := by
  unfold nbr
  rw [List.length_zip]
  omega
/-! ### where tuples stand -/
structure TpsAt {α : Type} (f : α → List V) (H : Hp) (ps : List Addr) (qs : List α) : Prop where
  len : ps.length = qs.length
  el : ∀ (k : Nat) (p : Addr) (q : α), ps[k]? = some p → qs[k]? = some q → H p = some (.tup (f q))
section
variable {α : Type} {f : α → List V} {H H' : Hp} {ps rs : List Addr} {qs us : List α}
theorem TpsAt.same (h : TpsAt f H ps qs) (s : Same H H') : TpsAt f H' ps qs := ⟨h.len, fun k p q a b => s _ _ (h.el k p q a b)⟩
theorem TpsAt.but {d : Addr} {o : HO} (h : TpsAt f H ps qs) (hd : H d = some o) (no : ∀ xs, o ≠ .tup xs) (s : But d H H') : TpsAt f H' ps qs :=
  ⟨h.len, fun k p q a b => s _ _ (fun e => by
    have := h.el k p q a b
    rw [e, hd] at this
    exact no _ (Option.some.inj this)) (h.el k p q a b)⟩
theorem TpsAt.nil : TpsAt f H [] [] := ⟨rfl, fun k p q h => by simp at h⟩
theorem TpsAt.one {p : Addr} {q : α} (h : H p = some (.tup (f q))) : TpsAt f H [p] [q] := ⟨rfl, fun k p' q' h1 h2 => by
  cases k with
  | zero =>
    obtain rfl : p = p' := by simpa using h1
    obtain rfl : q = q' := by simpa using h2
    exact h
  | succ k => simp at h1⟩
theorem TpsAt.app (h : TpsAt f H ps qs) (g : TpsAt f H rs us) : TpsAt f H (ps ++ rs) (qs ++ us) := by
  refine ⟨by rw [List.length_append, List.length_append, h.len, g.len], fun k p q hp hq => ?_⟩
  have hl := h.len
  by_cases lt : k < ps.length
  · rw [List.getElem?_append_left lt] at hp
    rw [List.getElem?_append_left (by omega)] at hq
    exact h.el k p q hp hq
  · rw [List.getElem?_append_right (by omega)] at hp
    rw [List.getElem?_append_right (by omega), ← hl] at hq
    exact g.el _ p q hp hq
theorem TpsAt.add {p : Addr} {q : α} (h : TpsAt f H ps qs) (e : H p = some (.tup (f q))) : TpsAt f H (ps ++ [p]) (qs ++ [q]) := h.app (.one e)
theorem TpsAt.get (h : TpsAt f H ps qs) {k : Nat} {q : α} (hq : qs[k]? = some q) : ∃ p, ps[k]? = some p ∧ H p = some (.tup (f q)) := by
  have lt := (List.getElem?_eq_some_iff.mp hq).1
  have hl := h.len
  exact ⟨ps[k], List.getElem?_eq_getElem (by omega), h.el k _ q (List.getElem?_eq_getElem (by omega)) hq⟩
theorem TpsAt.at (h : TpsAt f H ps qs) {k : Nat} {p : Addr} (hp : ps[k]? = some p) : ∃ q, qs[k]? = some q ∧ H p = some (.tup (f q)) := by
  have lt := (List.getElem?_eq_some_iff.mp hp).1
  have hl := h.len
  exact ⟨qs[k], List.getElem?_eq_getElem (by omega), h.el k p _ hp (List.getElem?_eq_getElem (by omega))⟩
theorem TpsAt.refs (h : TpsAt f H ps qs) {k : Nat} {v : V} (hv : (ps.map V.ref)[k]? = some v) : ∃ p q, v = .ref p ∧ qs[k]? = some q ∧ H p = some (.tup (f q)) := by
  rw [List.getElem?_map] at hv
  obtain ⟨p, hp, rfl⟩ := Option.map_eq_some_iff.mp hv
  obtain ⟨q, h1, h2⟩ := h.at hp
  exact ⟨p, q, rfl, h1, h2⟩
theorem TpsAt.put {D T : Addr} {q : α} {xs ys : List V} (h : TpsAt f H ps qs) (hD : H D = some (.lst xs)) (nT : H T = none) : TpsAt f (upd (upd H T (.tup (f q))) D (.lst ys)) (ps ++ [T]) (qs ++ [q]) := by
  have ne : T ≠ D := fun e => by
    rw [e, hD] at nT
    cases nT
  exact ((h.same (same_new nT)).but (d := D) (o := .lst xs) (by rw [upd_ne ne.symm]; exact hD) (fun _ e => by cases e) But.set).add (by rw [upd_ne ne, upd_same])
theorem TpsAt.set {D : Addr} {o : HO} {xs : List V} (h : TpsAt f H ps qs) (hD : H D = some (.lst xs)) : TpsAt f (upd H D o) ps qs := h.but (d := D) hD (fun _ e => by cases e) But.set
theorem TpsAt.tail {p : Addr} {q : α} (h : TpsAt f H (p :: ps) (q :: qs)) : TpsAt f H ps qs := ⟨by simpa using h.len, fun k p' q' a b => h.el (k + 1) p' q' (by simpa using a) (by simpa using b)⟩
theorem TpsAt.rl (h : TpsAt f H ps qs) : (ps.map V.ref).length = qs.length := by rw [List.length_map, h.len]
theorem TpsAt.ks {g : α → List Str} : ∀ {ps : List Addr} {qs : List α}, TpsAt (fun q => (g q).map V.str) H ps qs →
    ∃ ks : List (Addr × List Str), (ks.map fun p => V.ref p.1) = ps.map V.ref ∧ ks.map (·.2) = qs.map g ∧ ∀ p ∈ ks, (∃ q, p.2 = g q) ∧ H p.1 = some (.tup (p.2.map V.str))
  | [], [], _ => ⟨[], rfl, rfl, fun _ h => absurd h (by simp)⟩
  | [], q :: qs, h => absurd h.len (by simp)
  | p :: ps, [], h => absurd h.len (by simp)
  | p :: ps, q :: qs, h => by
    obtain ⟨ks, e1, e2, e3⟩ := h.tail.ks
    refine ⟨(p, g q) :: ks, by rw [List.map_cons, List.map_cons, e1], by rw [List.map_cons, List.map_cons, e2], fun x hx => ?_⟩
    rcases List.mem_cons.mp hx with rfl | hx
    · exact ⟨⟨q, rfl⟩, h.el 0 p q rfl rfl⟩
    · exact e3 x hx
theorem tps_back {g : α → List Str} : ∀ {L : List (Addr × List Str)}, (∀ p ∈ L, (∃ q, p.2 = g q) ∧ H p.1 = some (.tup (p.2.map V.str))) →
    ∃ us : List α, L.map (·.2) = us.map g ∧ TpsAt (fun q => (g q).map V.str) H (L.map (·.1)) us
  | [], _ => ⟨[], rfl, .nil⟩
  | p :: L, h => by
    obtain ⟨us, e1, e2⟩ := tps_back fun x hx => h x (List.mem_cons_of_mem p hx)
    obtain ⟨⟨q, hq⟩, e3⟩ := h p List.mem_cons_self
    rw [hq] at e3
    exact ⟨q :: us, by rw [List.map_cons, List.map_cons, e1, hq], TpsAt.app (ps := [p.1]) (qs := [q]) (.one e3) e2⟩
theorem map_inj_eq {β : Type} {g : α → β} (inj : ∀ a b, g a = g b → a = b) : ∀ {a b : List α}, a.map g = b.map g → a = b
  | [], [], _ => rfl
  | [], y :: b, h => by simp at h
  | x :: a, [], h => by simp at h
  | x :: a, y :: b, h => by
    rw [List.map_cons, List.map_cons] at h
    obtain ⟨h1, h2⟩ := List.cons.inj h
    rw [inj _ _ h1, map_inj_eq inj h2]
theorem perm_map_inj {β : Type} {g : α → β} (inj : ∀ a b, g a = g b → a = b) {a b : List α} (h : (a.map g).Perm (b.map g)) : a.Perm b := by
  obtain ⟨L2, p, e⟩ := perm_of_map h rfl
  rw [map_inj_eq inj e]
  exact p
theorem SqT.strs {K : PySem.W.Frag} {p : Addr} {ss : List Str} (h : H p = some (.tup (ss.map V.str))) : SqT K H p (ss.map V.str) := SqT.of h
/-- sorted(a list of pairs of texts) -/
theorem sortPs_of {K : PySem.W.Frag} {l : Addr} {g : α → List Str} {Q : VK} (two_ : ∀ q, (g q).length = 2) (inj : ∀ a b, g a = g b → a = b) (hl : H l = some (.lst (ps.map V.ref))) (h : TpsAt (fun q => (g q).map V.str) H ps qs)
    (q : ∀ rs us p, us.Perm qs → us.Pairwise (LeS g) → TpsAt (fun q => (g q).map V.str) H rs us → H p = none → Q (.ref p) (upd H p (.lst (rs.map V.ref)))) : rSortPs K [.ref l] H Q := by
  obtain ⟨ks, e1, e2, e3⟩ := h.ks
  refine ⟨l, ks, rfl, SqL.of (by rw [e1]; exact hl), fun p hp => ?_, fun L' p pm pw np => ?_⟩
  · obtain ⟨⟨x, hx⟩, hp⟩ := e3 p hp
    exact ⟨SqT.of hp, by rw [hx]; exact two_ x⟩
  · obtain ⟨us, f1, f2⟩ := tps_back (g := g) (L := L') fun x hx => e3 x (pm.mem_iff.mp hx)
    have r := q (L'.map (·.1)) us p (perm_map_inj inj (by rw [← f1, ← e2]; exact pm.map _)) ?_ f2 np
    · rw [List.map_map] at r
      exact r
    · have z := (List.pairwise_map (f := fun p : Addr × List Str => p.2) (R := fun a b => lexS (two b) (two a) = false)).mpr pw
      rw [f1] at z
      exact (List.pairwise_map (f := g)).mp z
/-- sorted(set(a list of pairs of texts)) -/
theorem sortSet_of {P : Program} {w : World} {K : PySem.W.Frag} {l : Addr} {g : α → List Str} {Q : VK} (two_ : ∀ q, (g q).length = 2) (inj : ∀ a b, g a = g b → a = b) (hl : H l = some (.lst (ps.map V.ref))) (h : TpsAt (fun q => (g q).map V.str) H ps qs) (few : qs.length < 64)
    (q : ∀ rs us p H', Same H H' → H p = none → H' p = some (.lst (rs.map V.ref)) → TpsAt (fun q => (g q).map V.str) H' rs us → (∀ e, e ∈ us ↔ e ∈ qs) → us.Nodup → us.Pairwise (LeS g) → Q (.ref p) H') : rSetKs K P w [.ref l] H fun v H1 => rSortKs K P w [v] H1 Q := by
  obtain ⟨ks, e1, e2, e3⟩ := h.ks
  have kl : ks.length = qs.length := by
    have := congrArg List.length e2
    rw [List.length_map, List.length_map] at this
    exact this
  refine ⟨l, ks, rfl, SqL.of (by rw [e1]; exact hl), fun p hp => ?_, by omega, fun a L na has nd => ?_⟩
  · exact SqT.of (e3 p hp).2
  have s3 : Same H (upd H a (SetKO P w a L)) := same_new na
  have e4 : ∀ p ∈ L, (∃ q, p.2 = g q) ∧ upd H a (SetKO P w a L) p.1 = some (.tup (p.2.map V.str)) := fun p hp => ⟨(e3 p (has.of p hp)).1, s3 _ _ (e3 p (has.of p hp)).2⟩
  refine ⟨a, L, rfl, upd_same, fun p hp => ?_, fun L' p pm pw np => ?_⟩
  · obtain ⟨⟨x, hx⟩, hp⟩ := e4 p hp
    exact ⟨SqT.of hp, by rw [hx]; exact two_ x⟩
  · have s4 := same_new (o := .lst (L'.map fun q => V.ref q.1)) np
    obtain ⟨us, f1, f2⟩ := tps_back (g := g) (L := L') fun x hx => e4 x (pm.mem_iff.mp hx)
    refine q (L'.map (·.1)) us p _ (s3.trans s4) (s3.free np) (by rw [upd_same, List.map_map]; rfl) (f2.same s4) (fun e => ?_) ?_ ?_
    · have m1 : e ∈ us ↔ g e ∈ L'.map (·.2) := by
        rw [f1]
        exact ⟨fun h => List.mem_map.mpr ⟨e, h, rfl⟩, fun h => by
          obtain ⟨x, h1, h2⟩ := List.mem_map.mp h
          rw [← inj _ _ h2]
          exact h1⟩
      have m2 : e ∈ qs ↔ g e ∈ ks.map (·.2) := by
        rw [e2]
        exact ⟨fun h => List.mem_map.mpr ⟨e, h, rfl⟩, fun h => by
          obtain ⟨x, h1, h2⟩ := List.mem_map.mp h
          rw [← inj _ _ h2]
          exact h1⟩
      rw [m1, m2]
      constructor
      · intro h
        obtain ⟨x, h1, h2⟩ := List.mem_map.mp h
        exact List.mem_map.mpr ⟨x, has.of x (pm.mem_iff.mp h1), h2⟩
      · intro h
        obtain ⟨x, h1, h2⟩ := List.mem_map.mp h
        rw [← h2]
        exact (pm.map (·.2)).mem_iff.mpr (has.all x h1)
    · have nd' : (L'.map (·.2)).Nodup := (pm.map (·.2)).nodup_iff.mpr nd
      rw [f1] at nd'
      exact (List.pairwise_map.mp nd').imp fun h e => h (congrArg g e)
    · have z := (List.pairwise_map (f := fun p : Addr × List Str => p.2) (R := fun a b => lexS (two b) (two a) = false)).mpr pw
      rw [f1] at z
      exact (List.pairwise_map (f := g)).mp z
end
theorem edges_of {es : List (Nat × Nat)} {E : Nat × Nat → Prop} (m : ∀ e, e ∈ es ↔ E e) (n : es.Nodup) (o : es.Pairwise (LeS edS)) : Edges es E :=
  ⟨m, List.Pairwise.imp₂ (fun a b h1 h2 => lex_ch b a h1 fun e => h2 e.symm) o n⟩
/-! ### signs sorted -/
theorem signs_are : ∀ (ys : List Str), (∀ y ∈ ys, ∃ c : Nat, y = ch1 c) → ∃ ls : List Nat, ys = ls.map ch1
  | [], _ => ⟨[], rfl⟩
  | y :: ys, h => by
    obtain ⟨c, rfl⟩ := h y List.mem_cons_self
    obtain ⟨ls, rfl⟩ := signs_are ys fun z hz => h z (List.mem_cons_of_mem _ hz)
    exact ⟨c :: ls, rfl⟩
theorem signs_sort {zs : List Str} {cs : List Nat} (p : zs.Perm (cs.map ch1)) (o : zs.Pairwise fun x y => sltB y x = false) : ∃ ls : List Nat, zs = ls.map ch1 ∧ ls.Perm cs ∧ ls.Pairwise (· ≤ ·) := by
  obtain ⟨ls, pl, rfl⟩ := perm_of_map p rfl
  refine ⟨ls, rfl, pl, (List.pairwise_map.mp o).imp fun {a b} h => ?_⟩
  rw [slt_ch] at h
  exact Nat.not_lt.mp (of_decide_eq_false h)
theorem sortTxt_of {H : Hp} {cs : List Nat} {Q : VK} (hl : cs.length ≤ 4000) (q : ∀ (ls : List Nat) p H', ls.Perm cs → ls.Pairwise (· ≤ ·) → Same H H' → H p = none → H' p = some (.lst (ls.map sg)) → Q (.ref p) H') : rSortTxt [.str (tx cs)] H Q :=
  ⟨tx cs, rfl, by rw [tx_size]; exact hl, fun zs p H' pm pw s np hp => by
    obtain ⟨ls, rfl, pl, ol⟩ := signs_sort pm pw
    exact q ls p H' pl ol s np (by rw [hp, List.map_map]; rfl)⟩
theorem lt_sg (x p : Nat) : ltCps [x] [p] = decide (x < p) := by
  by_cases h : x < p
  · simp [ltCps, h]
  · by_cases h2 : x = p
    · simp [ltCps, h2]
    · simp [ltCps, h, h2]
theorem rising_ch : ∀ (ls : List Nat) (p : Nat), risingS (ch1 p) (ls.map ch1) = true → (p :: ls).Pairwise (· ≤ ·)
  | [], p, _ => by simp
  | x :: ls, p, h => by
    have h2 : (!ltCps [x] [p] && risingS (ch1 x) (ls.map ch1)) = true := h
    obtain ⟨h3, h4⟩ := Bool.and_eq_true_iff.mp h2
    rw [lt_sg] at h3
    have h5 : ¬ x < p := by simpa using h3
    have ih := rising_ch ls x h4
    refine List.pairwise_cons.mpr ⟨fun y hy => ?_, ih⟩
    rcases List.mem_cons.mp hy with q | q
    · omega
    · have := (List.pairwise_cons.mp ih).1 y q
      omega
theorem sorted_le {ls : List Nat} (h : sortedS (ls.map ch1) = true) : ls.Pairwise (· ≤ ·) := by
  cases ls with
  | nil => exact List.Pairwise.nil
  | cons p r => exact rising_ch r p h
/-- sorted(set(text)): the signs -/
theorem signs_set {ys : List Str} {cs : List Nat} (p : ys.Perm ((met cs).map fun c => (⟨#[c]⟩ : Str))) (h : sortedS ys = true) : ∃ ls : List Nat, ys = ls.map ch1 ∧ ls.Pairwise (· < ·) ∧ (∀ c, c ∈ ls ↔ c ∈ cs) ∧ ls.length = (met cs).length := by
  obtain ⟨ls, pl, rfl⟩ := perm_of_map p rfl
  exact ⟨ls, rfl, le_asc (sorted_le h) (pl.nodup_iff.mpr (met_nodup cs)), fun c => pl.mem_iff.trans mem_met, pl.length_eq⟩
/-! ### texts joined -/
def tzs (l : List (List Nat)) : List V := l.map fun q => V.str (tx q)
theorem tzs_strs (l : List (List Nat)) : tzs l = (l.map tx).map V.str := by
  unfold tzs
  rw [List.map_map]
  rfl
theorem join_tzs : ∀ l : List (List Nat), Txt.join (Str.ofString "") (l.map tx) = tx l.flatten := by
  have key : ∀ l : List (List Nat), Str.join (tx []) (l.map tx) = tx l.flatten := by
    intro l
    induction l with
    | nil => rfl
    | cons u r ih =>
      cases r with
      | nil =>
        show tx u = tx (u ++ [])
        rw [List.append_nil]
      | cons v r =>
        show tx u ++ tx [] ++ Str.join (tx []) ((v :: r).map tx) = tx (u :: v :: r).flatten
        rw [ih, tx_app, tx_app, List.append_nil]
        rfl
  intro l
  show Builtin.Str.glued _ _ = _
  rw [StrLaws.glued_eq_join, tx_nil]
  exact key l
theorem tzs_room {l : List (List Nat)} (h : l.flatten.length ≤ 100000) : ((l.map tx).map (·.length)).sum + (l.map tx).length * (Str.ofString "").length ≤ 16777216 := by
  have e3 : (Str.ofString "").length = 0 := by decide
  have e : ∀ l : List (List Nat), ((l.map tx).map (·.length)).sum = l.flatten.length := by
    intro l
    induction l with
    | nil => rfl
    | cons u r ih => rw [List.map_cons, List.map_cons, List.sum_cons, ih, tx_len, List.flatten_cons, List.length_append]
  rw [e, e3]
  omega
theorem sgs_room {zs : List Nat} (h : zs.length ≤ 100000) : ((zs.map fun c => (⟨#[c]⟩ : Str)).map (·.length)).sum + (zs.map fun c => (⟨#[c]⟩ : Str)).length * (Str.ofString "").length ≤ 16777216 := by
  have e3 : (Str.ofString "").length = 0 := by decide
  have e2 : ∀ l : List Nat, ((l.map fun c => (⟨#[c]⟩ : Str)).map (·.length)).sum = l.length := by
    intro l
    induction l with
    | nil => rfl
    | cons x l ih =>
      rw [List.map_cons, List.map_cons, List.sum_cons, ih, List.length_cons]
      show 1 + l.length = _
      omega
  rw [e2, e3]
  omega
theorem sgs_map (zs : List Nat) : zs.map sg = (zs.map fun c => (⟨#[c]⟩ : Str)).map V.str := by rw [List.map_map]; rfl
/-! ### nodes as data -/
def ndD (u : Nd) : PyData := .tuple [.str (sd u.1), .str (ch1 u.2)]
theorem sd_lay (b : Bool) : (PyData.str (sd b)).canLay0 = true := by
  cases b <;> decide +kernel
theorem ch1_lay {c : Nat} (h : c < 128) : (PyData.str (ch1 c)).canLay0 = true := by
  have : ∀ c : Fin 128, (PyData.str (ch1 c.1)).canLay0 = true := by decide +kernel
  exact this ⟨c, h⟩
theorem ndD_lay {u : Nd} (h : u.2 < 128) : (ndD u).canLay0 = true := by
  simp only [ndD, PyData.canLay0, PyData.canLayAll0, Bool.and_true]
  have h1 := sd_lay u.1
  have h2 := ch1_lay h
  simp only [PyData.canLay0] at h1 h2
  rw [h1, h2]
  rfl
theorem ndD_depth (u : Nd) : (ndD u).depth = 1 := by simp [ndD, PyData.depth, PyData.depthAll]
theorem ndDs_lay : ∀ {us : List Nd}, (∀ u ∈ us, u.2 < 128) → PyData.canLayAll0 (us.map ndD) = true
  | [], _ => by simp [PyData.canLayAll0]
  | u :: us, h => by
    rw [List.map_cons]
    simp only [PyData.canLayAll0]
    rw [ndD_lay (h u List.mem_cons_self), ndDs_lay fun v hv => h v (List.mem_cons_of_mem _ hv)]
    rfl
theorem ndDs_depth : ∀ us : List Nd, PyData.depthAll (us.map ndD) ≤ 1
  | [] => by simp [PyData.depthAll]
  | u :: us => by
    have h1 := ndDs_depth us
    have h2 := ndD_depth u
    simp only [List.map_cons, PyData.depthAll]
    omega
theorem ndD_shaped {u : Nd} (h : u.2 < 128) : SeqAt.shaped (ndD u) = true := by
  have h1 := ndD_depth u
  show ((ndD u).canLay0 && decide ((ndD u).depth ≤ 64)) = true
  rw [Bool.and_eq_true]
  exact ⟨ndD_lay h, decide_eq_true (by omega)⟩
theorem ndDs_shaped {us : List Nd} (h : ∀ u ∈ us, u.2 < 128) : SeqAt.shaped (.list (us.map ndD)) = true := by
  have h1 := ndDs_depth us
  have h2 : PyData.depth (.list (us.map ndD)) ≤ 64 := by
    simp only [PyData.depth]
    omega
  show (PyData.canLay0 (.list (us.map ndD)) && decide (PyData.depth (.list (us.map ndD)) ≤ 64)) = true
  rw [Bool.and_eq_true]
  exact ⟨by simp only [PyData.canLay0]; exact ndDs_lay h, decide_eq_true h2⟩
theorem ndD_eqv (u v : Nd) : PyData.eqv (ndD u) (ndD v) = decide (u = v) := by
  have e : PyData.eqv (ndD u) (ndD v) = ((sd u.1 == sd v.1) && ((ch1 u.2 == ch1 v.2) && true)) := by simp only [ndD, PyData.eqv, PyData.eqvAll]
  rw [e, Bool.eq_iff_iff]
  simp only [Bool.and_true, Bool.and_eq_true, beq_iff_eq, decide_eq_true_eq]
  exact ⟨fun h => Prod.ext (sd_inj h.1) (ch1_inj h.2), fun h => by rw [h]; exact ⟨rfl, rfl⟩⟩
section
variable {K : PySem.W.Frag} {H : Hp}
theorem ndV_dp {p : Addr} {u : Nd} (h : H p = some (.tup (ndV u))) : Dp K H (.ref p) (ndD u) := .tup (SqT.of h) (.cons (.str _) (.cons (.str _) .nil))
theorem ndVs_dp : ∀ {ps : List Addr} {us : List Nd}, TpsAt ndV H ps us → DpAll K H (ps.map V.ref) (us.map ndD)
  | [], [], _ => .nil
  | [], q :: qs, h => absurd h.len (by simp)
  | p :: ps, [], h => absurd h.len (by simp)
  | p :: ps, q :: qs, h => .cons (ndV_dp (h.el 0 p q rfl rfl)) (ndVs_dp h.tail)
theorem notIn_nd {Q : VK} {p l : Addr} {u : Nd} {ps : List Addr} {us : List Nd} (hp : H p = some (.tup (ndV u))) (hl : SqL K H l (ps.map V.ref)) (h : TpsAt ndV H ps us) (lo : u.2 < 128) (los : ∀ v ∈ us, v.2 < 128)
    (q : Q (.bl (!decide (u ∈ us))) H) : rNotInD K (.ref p) (.ref l) H Q := by
  refine ⟨ndD u, us.map ndD, ndV_dp hp, .lst hl (ndVs_dp h), ndD_shaped lo, ndDs_shaped los, ?_⟩
  have e : ((us.map ndD).any fun z => PyData.eqv z (ndD u)) = decide (u ∈ us) := by
    rw [List.any_map, Bool.eq_iff_iff, List.any_eq_true, decide_eq_true_eq]
    constructor
    · rintro ⟨x, hx, e⟩
      have e : PyData.eqv (ndD x) (ndD u) = true := e
      rw [ndD_eqv] at e
      rw [← of_decide_eq_true e]
      exact hx
    · exact fun hx => ⟨u, hx, by show PyData.eqv (ndD u) (ndD u) = true; rw [ndD_eqv]; exact decide_eq_true rfl⟩
  rw [e]
  exact q
end
section
variable {X : Cx}
theorem op_notInDK {K : PySem.W.Frag} (h : X.K = K) (hu : X.A.units + 65 < cLine) : OpR X (compareOp .NotIn) (rNotInD K) := by
  subst h
  exact op_notInD hu
theorem op_inDK {K : PySem.W.Frag} (h : X.K = K) (hu : X.A.units + 65 < cLine) : OpR X (compareOp .In) (rInD K) := by
  subst h
  exact op_inD hu
end
end Mo

/-! ### an error of several classes that is kept behind its except suite -/
namespace Mo
open PySem PySem.Spec PyProof.Rows L2
/-- a new tuple -/
abbrev tupO (us : List Value) : Obj := { cls := .type "tuple", data := .seq us.toArray }
/-- what stands behind 'except': it is a new tuple of these classes -/
structure TestT (X : Cx) (te : Expr) (us : List Value) : Prop where
  test : ∀ (a : Addr) (oe : Obj) (pn : List (Addr × Obj)) {σ : L2.St} {H : Hp} {s : Shared} {Q : Value → Shared → Prop} {E : Value → Shared → Prop}, Inv (X.suite a ((a, oe) :: pn)) [] σ H s → Q (.ref s.heap.objs.size) { s with heap := s.heap.push (tupO us) } →
    wpAny (model X.prog X.w) (X.A.mark (some (.ref a))) (eval te X.env) Q E s
  fits : ∀ {M : Model} {h : Heap} {tp e : Addr} {cls : Value} {b : Bool}, X.K.In h → PySem.W.Looks M h (typeOf (.ref e)) cls → h.get? tp = some (tupO us) → PySem.W.exmAny X.K cls us = some b → PySem.W.Looks M h (excMatches (.ref e) (.ref tp)) b
theorem frames_kept {base h h' : Heap} (k : ∀ b o, h.get? b = some o → h'.get? b = some o) : ∀ {l : List Env}, h.FunFrames base l → h'.FunFrames base l
  | [], _ => True.intro
  | _ :: _, ⟨hk, ⟨L, o, hf, hb, ho, hd⟩, hr⟩ => ⟨hk, ⟨L, o, hf, hb, k _ _ ho, hd⟩, frames_kept k hr⟩
theorem flying_kept {base h h' : Heap} {l : List Env} {e : Addr} {Z : Obj → Prop} (k : ∀ b o, h.get? b = some o → h'.get? b = some o) (f : HandSPX.FlyingZ base l e Z h) : HandSPX.FlyingZ base l e Z h' := by
  obtain ⟨f1, f2, f3, oe, vs, T, oT, ts, h1, h2, h3, h4, h5, h6, h7, h8, h9⟩ := f
  exact ⟨fun b o q => k b o (f1 b o q), f2, frames_kept k f3, oe, vs, T, oT, ts, k _ _ h1, h2, h3, h4, h5, h6, k _ _ h7, h8, h9⟩
theorem ld_names {Y : Cx} {pins : List (Addr × Obj)} {σ : L2.St} {H : Hp} {s : Shared} {x : Str} {c : Value} {p : Pos} {Q : Value → Shared → Prop} {E : Value → Shared → Prop} (I : Inv Y pins σ H s) (hc : Names Y x c) (q : Q c s) : wpAny (model Y.prog Y.w) Y.A (eval (.Name x p) Y.env) Q E s := by
  rcases hc with ⟨hg, hdbg, hm | ⟨hm, hv, hnn⟩⟩
  · exact ld_glob I hg hm q hdbg
  · exact ld_blt I hg hm hv q hnn hdbg
theorem testT3 {X : Cx} {x1 x2 x3 : Str} {c1 c2 c3 : Value} {p1 p2 p3 pos : Pos} {k : Nat} (h1 : Names X x1 c1) (h2 : Names X x2 c2) (h3 : Names X x3 c3) : TestT X (.Tuple [.Name x1 p1, .Name x2 p2, .Name x3 p3] k pos) [c1, c2, c3] where
  test a oe pn _ _ _ _ _ S q := Tuple_ (spliced_more (ld_names S h1 (spliced_more (ld_names S h2 (spliced_more (ld_names S h3 (spliced_none (wpAny_newObj_type q))))))))
  fits K LT hp hb := PySem.W.exm_tup3 K LT hp hb
theorem testT4 {X : Cx} {x1 x2 x3 x4 : Str} {c1 c2 c3 c4 : Value} {p1 p2 p3 p4 pos : Pos} {k : Nat} (h1 : Names X x1 c1) (h2 : Names X x2 c2) (h3 : Names X x3 c3) (h4 : Names X x4 c4) : TestT X (.Tuple [.Name x1 p1, .Name x2 p2, .Name x3 p3, .Name x4 p4] k pos) [c1, c2, c3, c4] where
  test a oe pn _ _ _ _ _ S q := Tuple_ (spliced_more (ld_names S h1 (spliced_more (ld_names S h2 (spliced_more (ld_names S h3 (spliced_more (ld_names S h4 (spliced_none (wpAny_newObj_type q))))))))))
  fits K LT hp hb := PySem.W.exm_tup4 K LT hp hb
/-- what 'except (x, ..) as n: kept = n' wishes of an error of the body: n in slot i, kept in slot j; behind it the error is tracked -/
def wKeepT (K : PySem.W.Frag) (us : List Value) (i j : Nat) (Wout : WX) (D : Ends) : WX := fun cls d σ H =>
  ∃ b, PySem.W.exmAny K cls us = some b ∧ (b = true → ∀ a, H a = none → D.nx (((σ.set i (some (.ref a))).set j (some (.ref a))).set i none) (upd H a (exV a cls d))) ∧ (b = false → Wout cls d σ H)
section
variable {X : Cx} {n kx : Str} {us : List Value} {te : Expr} {i j : Nat} {body : List Stmt} {np2 kp ap pos pos' : Pos} {tb : WX → TS} {Wout : WX}
theorem ps_try_keepT (hs : X.stack = X.env :: X.outer) (hf : X.env.frame = some X.env.locals) (hN : X.N.Nodup) (hi : X.N[i]? = some n) (hj : X.N[j]? = some kx) (hln : X.env.kindOf n = some .local) (hlk : X.env.kindOf kx = some .local) (hc : TestT X te us) (tk : Takes X Wout)
    (hb : ∀ (W : WX) (pn : List (Addr × Obj)) (xe : Value → Shared → Prop), Takes (X.tr pn xe) W → PassesOwn (model X.prog X.w) X.A X.env xe → PSs (X.tr pn xe) body (tb W))
    (hsu : ∀ (a : Addr) (oe : Obj) (pn : List (Addr × Obj)), PSs (X.suite a ((a, oe) :: pn)) [.Assign [.Name kx kp] (.Name n np2) ap] (tAsg (tVar i) (gName j))) :
    PS X (.Try body [.ExceptHandler (some te) (some n) [.Assign [.Name kx kp] (.Name n np2) ap] pos'] [] [] pos) (fun D σ H => tb (wKeepT X.K us i j Wout D) D σ H) := by
  refine ⟨fun pins s σ H D I h => ?_⟩
  have ok := I.ok
  have hfr : X.A.frames = some (X.env :: X.outer) := ok.frames.trans (by rw [hs])
  refine wpAny_Try_except (wpAny_mono ((hb (wKeepT X.K us i j Wout D) (X.pn ++ pins) (fun e s₁ => wpAny (model X.prog X.w) X.A (noteFrame e X.env) (fun _ s₂ => wpAny (model X.prog X.w) X.A (setFlight e none) (fun _ s₃ =>
    wpAny (model X.prog X.w) X.A (handleBy e X.env [.ExceptHandler (some te) (some n) [.Assign [.Name kx kp] (.Name n np2) ap] pos']) (SP X pins D) X.xe s₃) X.xe s₂) X.xe s₁) (fun u s' xx => ?_) PassesOwn.looking).run [] s σ H D (I.toTry _) h) (fun f s1 hsp => ?_) (fun e s1 he => he))
  · obtain ⟨a, B, sI, pins', σ', H', cls, d, rfl, J', nb, up, sky, na, os, ag, b, hb1, hyes, hno⟩ := xx
    have J : Inv X pins σ' H' sI := J'.ofTry ok
    have sky' : Sky B (X.env :: X.outer) a (Zc cls d) X.env.locals s'.heap := hs ▸ sky
    show wpAny (model X.prog X.w) X.A (noteFrame (.ref a) X.env) _ _ _
    refine Sky.land Zc.steady hfr hf sky' fun h3 fl3 up3 => ?_
    have J3 : Inv X pins σ' H' { s' with heap := h3 } := J.landed nb fl3.1 (up.trans up3) os ag
    obtain ⟨oe3, vs3, he3, hz3, hd3⟩ := fl3.there
    have nfr : a ∉ frs (X.env :: X.outer) := fun hm => by
      obtain ⟨_, o', e', hnf⟩ := fl3.2.2.1.mem hm
      rw [he3] at e'
      cases e'
      exact hnf _ hd3
    have nL : a ≠ X.env.locals := fun z => nfr (List.mem_filterMap.mpr ⟨X.env, List.mem_cons_self, hf.trans (congrArg some z.symm)⟩)
    have nF : a ∉ X.fs := fun hm => by
      obtain ⟨e, he, q⟩ := List.mem_filterMap.mp hm
      exact nfr (List.mem_filterMap.mpr ⟨e, List.mem_cons_of_mem _ he, q⟩)
    have nB : B.get? a = none := fl3.2.1
    have nI : sI.heap.get? a = none := by
      cases q : sI.heap.get? a with
      | none => rfl
      | some o =>
        have z := nb a o q (by show a ∉ frs X.stack; rw [hs]; exact nfr)
        rw [nB] at z
        cases z
    have n0 : ∀ u, X.s_0.heap.get? a = some u → a ∈ X.ex := fun u q => by
      by_cases hx : a ∈ X.ex
      · exact hx
      · obtain ⟨o', z⟩ := J.base.there a u q hx
        rw [nI] at z
        cases z
    have npp : ∀ p ∈ X.pn ++ pins, p.1 ≠ a := fun p hp z => by
      have q := (J.pin p hp).1
      rw [z, nI] at q
      cases q
    have S3 := J3.suite he3 hd3 na nL nF
    refine wpAny_handleBy_cons (codeAny_handlers_test ?_) (by intro q; cases q)
    refine hc.test a oe3 (X.pn ++ pins) S3 ?_
    have up5 : s'.heap.UpToSlots (h3.push (tupO us)) := up3.trans (Heap.UpToSlots.of_keeps fun b o e => Heap.get?_push_of_some _ e)
    have fl5 := flying_kept (h' := h3.push (tupO us)) (fun b o e => Heap.get?_push_of_some _ e) fl3
    have J5 : Inv X pins σ' H' { s' with heap := h3.push (tupO us) } := J3.kept (t' := s'.toks) fun b o e => Heap.get?_push_of_some _ e
    have he5 : (h3.push (tupO us)).get? a = some oe3 := Heap.get?_push_of_some _ he3
    have LT : PySem.W.Looks (model X.prog X.w) (h3.push (tupO us)) (typeOf (.ref a)) cls := fun A Q E s k q => wpAny_typeOf_ref (k _ _ he5) (hz3.1 ▸ q)
    have LM := hc.fits (M := model X.prog X.w) J5.kIn LT (Heap.get?_push_size _ rfl) hb1
    refine LM.here ?_
    cases b with
    | true =>
      refine codeAny_handlers_suite_as (HandSPX.lands_againZ fl5 fun h4 fl4 up4 => ?_)
      have J4 : Inv X pins σ' H' { s' with heap := h4 } := J.landed nb fl4.1 ((up.trans up5).trans up4) os ag
      obtain ⟨oe4, vs4, he4, hz4, hd4⟩ := fl4.there
      refine store_ok (X := X.suite a ((a, oe4) :: (X.pn ++ pins))) (v := .ref a) (J4.suite he4 hd4 na nL nF) hN hi (.inl hln) rfl (fun s5 S5 => ?_) (.inr hln)
      have lenσ : i < σ'.length := by
        rw [J.len]
        exact (List.getElem?_eq_some_iff.mp hi).1
      have want : tAsg (tVar i) (gName j) { nx := fun σ6 H6 => σ6 = (σ'.set i (some (.ref a))).set j (some (.ref a)) ∧ H6 = H', rt := fun _ _ => False, bk := fun _ _ => False, ct := fun _ _ => False } (σ'.set i (some (.ref a))) H' :=
        ⟨.ref a, by rw [List.getElem?_set_self lenσ], rfl, rfl⟩
      refine wpAny_mono ((hsu a oe4 (X.pn ++ pins)).run [] s5 _ H' _ S5 want) (fun f s6 hsp => ?_) (fun _ _ z => False.elim z)
      cases f with
      | next =>
        obtain ⟨σ6, H6, S6, rfl, rfl⟩ := hsp
        obtain ⟨he6, _⟩ := S6.pin (a, oe4) (List.mem_append_left _ List.mem_cons_self)
        have J6 : Inv X pins _ H6 s6 := S6.unsuite ok
        have J7 := track J6 he6 hd4 na nL n0 npp (exV_ok he6 hz4 hd4)
        exact gone_ok J7 hN hi hln fun s7 J8 => ⟨_, _, J8, hyes rfl a na⟩
      | brk => exact hsp.elim fun _ z => z.elim fun _ z => z.2.elim
      | cont => exact hsp.elim fun _ z => z.elim fun _ z => z.2.elim
      | ret u => exact hsp.elim fun _ z => z.elim fun _ z => z.elim fun _ z => z.2.2.elim
    | false =>
      show wpAny _ X.A (handleBy (.ref a) X.env []) _ _ _
      refine wpAny_handleBy_nil ?_
      obtain ⟨k1, k2, k3, oe, vs, T, oT, ts', he, hz, hd, h1, hr⟩ := id fl5
      unfold PySem.passOn
      refine wpAny_bind (wpAny_field he hd h1 ?_)
      rw [if_neg (show ¬ ((Value.ref T == Value.none) = true) from by simp)]
      have fin : wpAny (model X.prog X.w) X.A (setFlight (.ref a) X.env.frame) (fun _ s4 => wpAny (model X.prog X.w) X.A (throw (.ref a) : Sem Flow) (SP X pins D) X.xe s4) X.xe { s' with heap := h3.push (tupO us) } := by
        rw [hf]
        refine HandSPX.setFlight_upZ fl5 fun h4 hh4 up4 => wpAny_throw (tk _ _ ⟨a, B, sI, pins, σ', H', cls, d, rfl, J, nb, (up.trans up5).trans up4, .inr (.inr (hs ▸ hh4)), na, os, ag, hno rfl⟩)
      first
        | exact wpAny_bind (wpAny_pure (wpAny_bind fin))
        | exact wpAny_bind fin
  · cases f with
    | next => exact hsp.elim fun σ1 z => z.elim fun H1 z => wpAny_execs_nil ⟨σ1, H1, z.1.ofTry ok, z.2⟩
    | brk => exact hsp.elim fun σ1 z => z.elim fun H1 z => ⟨σ1, H1, z.1.ofTry ok, z.2⟩
    | cont => exact hsp.elim fun σ1 z => z.elim fun H1 z => ⟨σ1, H1, z.1.ofTry ok, z.2⟩
    | ret u => exact hsp.elim fun v z => z.elim fun σ1 z => z.elim fun H1 z => ⟨v, σ1, H1, z.1.ofTry ok, z.2⟩
end
end Mo

/-! ### lists of truth values: count, index; statements that are never reached -/
namespace Mo
open PySem PySem.Spec PyProof.Rows L2
theorem room65 {k : Nat} {A : Around} (r : Room k A) : A.units + 65 < cLine := by have := r.un; omega
theorem pss_never {X : Cx} {b : List Stmt} : PSs X b (fun _ _ _ => False) := ⟨fun _ _ _ _ _ _ h => h.elim⟩
def rCountB (K : PySem.W.Frag) : V → List V → Hp → VK → Prop := fun x xs H Q => ∃ (p : Addr) (bs : List Bool) (b : Bool), x = .ref p ∧ xs = [.bl b] ∧ SqL K H p (bs.map V.bl) ∧ Q (.int (bs.count b : Nat)) H
def rIndexB (K : PySem.W.Frag) : V → List V → Hp → VK → Prop := fun x xs H Q => ∃ (p : Addr) (bs : List Bool) (b : Bool) (j : Nat), x = .ref p ∧ xs = [.bl b] ∧ SqL K H p (bs.map V.bl) ∧ bs[j]? = some b ∧ (∀ m, m < j → bs[m]? = some (!b)) ∧ Q (.int (j : Nat)) H
theorem bools_dp {K : PySem.W.Frag} {H : Hp} : ∀ bs : List Bool, DpAll K H (bs.map V.bl) (bs.map PyData.bool)
  | [] => .nil
  | b :: r => .cons (.bl b) (bools_dp r)
theorem bools_plain : ∀ bs : List Bool, PyData.plainAll (bs.map PyData.bool) = true
  | [] => by simp [PyData.plainAll]
  | b :: r => by simp [PyData.plainAll, PyData.plain, bools_plain r]
theorem eqv_bools (a b : Bool) : PyData.eqv (.bool a) (.bool b) = (a == b) := by cases a <;> cases b <;> rfl
theorem bools_count (b : Bool) : ∀ bs : List Bool, (bs.map PyData.bool).countP (fun y => PyData.eqv y (.bool b)) = bs.count b
  | [] => rfl
  | a :: r => by
    rw [List.map_cons, List.countP_cons, bools_count b r, eqv_bools, List.count_cons]
section
variable {X : Cx}
theorem mt_countB (hu : X.A.units + 64 < cLine) : MtR X "list.count" (rCountB X.K) := by
  intro pins s σ H x xs v us Q I rx rxs h
  obtain ⟨p, bs, b, rfl, rfl, hs, q⟩ := h
  cases rx
  obtain ⟨u, rfl, ru⟩ := rxs.one
  obtain ⟨as1, r1⟩ := Dp.reads I (.bool b) (.bl b) u (.bl b) ru
  obtain ⟨its, rv, ⟨⟨cls, dd, data, sl⟩, n, ho, hc, hdn, hd⟩, hlen⟩ := I.list hs
  simp only at hc hd
  subst hc hd
  obtain ⟨as, r2⟩ := Dp.readsAll I (bs.map PyData.bool) (bs.map V.bl) its (bools_dp bs) rv
  refine PySem.SeqAt.count_list_data (vs := its.toArray) ⟨_, ho, rfl, n, rfl⟩ (show ReadsAll s.heap its.toArray.toList _ as from r2) r1 (bools_plain bs) rfl ?_ ?_
  · have : min (PyData.depthAll (bs.map PyData.bool)) (PyData.bool b).depth ≤ (PyData.bool b).depth := Nat.min_le_right _ _
    have : (PyData.bool b).depth ≤ 1 := by simp [PyData.depth]
    omega
  · rw [bools_count]
    exact ⟨.int (bs.count b : Nat), H, I.tok _, ⟨_, rfl⟩, q⟩
theorem mt_indexB (hu : X.A.units + 65 < cLine) : MtR X "list.index" (rIndexB X.K) := by
  intro pins s σ H x xs v us Q I rx rxs h
  obtain ⟨p, bs, b, j, rfl, rfl, hs, hj, hno, q⟩ := h
  refine mt_indexD hu pins s σ H _ _ v us Q I rx rxs ⟨p, .bl b, .bool b, bs.map PyData.bool, j, .bool b, rfl, rfl, .lst hs (bools_dp bs), .bl b, ?_, rfl, by rw [List.getElem?_map, hj]; rfl, by rw [eqv_bools]; simp, fun m z' hm hz => ?_, q⟩
  · have lay : ∀ l : List Bool, PyData.canLayAll0 (l.map PyData.bool) = true := fun l => by
      induction l with
      | nil => simp [PyData.canLayAll0]
      | cons a r ih => simp [PyData.canLayAll0, PyData.canLay0, ih]
    have dep : ∀ l : List Bool, PyData.depthAll (l.map PyData.bool) ≤ 1 := fun l => by
      induction l with
      | nil => simp [PyData.depthAll]
      | cons a r ih => simp [PyData.depthAll, PyData.depth]; omega
    have := dep bs
    show ((PyData.list (bs.map PyData.bool)).canLay0 && decide ((PyData.list (bs.map PyData.bool)).depth ≤ 64)) = true
    simp [PyData.canLay0, PyData.depth, lay bs]
    omega
  · rw [List.getElem?_map, hno m hm] at hz
    cases hz
    rw [eqv_bools]
    cases b <;> rfl
theorem pe_callG0 {X : Cx} {CX : CXT} {k : Nat} {f : Addr} {fd : FuncData} {ps : List Str} {sp : Sp} {ds : List Value} {dvs : List V} {E : XK} {x : Str} {p pos : Pos} (F : FnG X.prog X.w X.K X.mg X.base CX k f fd ps sp) (hr : Room k X.A) (hu : X.A.guards = some []) (hg : Gl X x) (hm : X.mg x = some (.ref f)) (hk : PySem.W.keepIn X.K (.ref f) = true)
    (hb : Binds X.K fd ps ds) (hd : Vals dvs ds) (hx : Passes CX X E) (hdb : (x == ("__debug__" : Str)) = false := by decide) : PE X (.Call (.Name x p) [] [] pos) (tCall sp dvs E tNil) :=
  ⟨fun pins s σ H Q I h => wpAny_Call_Name_kw (ld_glob I hg hm (PySem.W.callWith_K0 I.kIn hk (run_G (us := []) F hr hu hb hd hx I .nil h)) hdb)⟩
end
end Mo

/-! ### the end of a law whose promise is an FnG -/
namespace Mo
open PySem PySem.Spec PyProof.Rows L2
theorem callG {P : Program} {w : World} {K : PySem.W.Frag} {mg mb : Str → Option Value} {CX : CXT} {k : Nat} {fa a : Addr} {fd : FuncData} {x : Str} {sp : Sp} {s₁ : Shared} {vs : List Value} {ns : List Int}
    (KX : K.In s₁.heap) (hns : s₁.heap.Ns mainGlobals mg) (hb : s₁.heap.Ns builtinsNs mb) (hbb : ∀ x : Str, x ≠ "__name__" → mb x = bootBuiltins x) (hlim : s₁.heap.NoLimit) (hg : s₁.gens = #[])
    (ha : s₁.heap.get? a = some { cls := .type "list", data := .seq vs.toArray }) (hi : IntsAre vs ns) (hl : ns.length ≤ sizeLine) (hr : Room k callerA)
    (F : ∀ base : Heap, K.In base → base.Ns mainGlobals mg → (∀ b m, s₁.heap.Ns b m → base.Ns b m) → FnG P w K mg base CX k fa fd [x] sp) (hbind : ∀ (s : Shared) (u : Value), BindsTo s fd ⟨[u], []⟩ [(x, u)])
    (hsp : ∀ H : Hp, Only H → SqL K H a (ns.map V.int) → sp [.ref a] H (fun v _ => v = .bl true) fun _ _ _ => False)
    (hCX : ∀ H e s', CX [] H s₁ (fun _ _ _ => False) e s' → False) :
    codeAny (model P w) callerA (.call (.ref fa) ⟨[.ref a], []⟩) (fun r s' => r = .ok (.ret (.bool true)) ∧ OldK s₁.heap s'.heap ∧ s'.os = s₁.os ∧ AllBare s'.gens) s₁ := by
  have rv := vals_ints hi
  have lenV := hi.length
  have core : ∀ H : Hp, Only H → SqL K H a (ns.map V.int) → HOk P w H s₁.heap → (∀ b, H b ≠ none → b = a) → (H a ≠ none → K.lookup a = none) →
      codeAny (model P w) callerA (.call (.ref fa) ⟨[.ref a], []⟩) (fun r s' => r = .ok (.ret (.bool true)) ∧ OldK s₁.heap s'.heap ∧ s'.os = s₁.os ∧ AllBare s'.gens) s₁ := by
    intro H hO hS hok hA hK
    have atA : ∀ {b : Addr} {u : HO}, H b = some u → b = a := fun {b u} q => hA b (by rw [q]; exact Option.some_ne_none _)
    have grnd : ∀ {b : Addr} {o : Obj}, s₁.heap.get? b = some o → H b = none → (hidT s₁.heap H).get? b = some o := fun e n => hidT_get e n
    have noA : ∀ {b : Addr} {o : Obj} {es : Array DictEntry} {ep : Nat}, s₁.heap.get? b = some o → o.data = .dict es ep → H b = none := fun {b o es ep} e d => by
      cases q : H b with
      | none => rfl
      | some u =>
        rw [atA q, ha] at e
        cases e
        cases (show Data.seq vs.toArray _ = Data.dict es ep from d)
    have nsK : ∀ {b : Addr} {m : Str → Option Value}, s₁.heap.Ns b m → (hidT s₁.heap H).Ns b m := fun {b m} ⟨o, es, ep, e, d, r⟩ => ⟨o, es, ep, grnd e (noA e d), d, r⟩
    have hKb : K.In (hidT s₁.heap H) := fun b o e => grnd (KX b o e) (by
      cases q : H b with
      | none => rfl
      | some u =>
        obtain rfl := atA q
        rw [hK (by rw [q]; exact Option.some_ne_none _)] at e
        cases e)
    have hM : Mod K mg (hidT s₁.heap H) := ⟨hKb, nsK hns, ⟨mb, nsK hb, hbb⟩, hlim.elim fun mc z => ⟨mc, nsK z.1, z.2⟩⟩
    have e0 : Env0 P w K mg (hidT s₁.heap H) callerA [] s₁ H := ⟨rfl, hM, fun b o e => of_hidT e, Nat.le_of_eq (hidT_size _ _), trivial, fun b hb => absurd (show b ∈ ([] : List Addr) from hb) (by simp), hok, .of_eq hg⟩
    refine codeAny_mono ((F _ hKb (nsK hns) fun b m z => nsK z).run callerA [] s₁ H ⟨[.ref a], []⟩ [.ref a] [.ref a] _ _ hr rfl e0 (hbind s₁ (.ref a)) (.cons rfl .nil) (hsp H hO hS)) fun r s' h => ?_
    cases r with
    | error e => exact (hCX H e s' h).elim
    | ok fl =>
      cases fl with
      | next => exact h.elim
      | brk => exact h.elim
      | cont => exact h.elim
      | ret u =>
        obtain ⟨v, H', os, bare, un, hok', r', q⟩ := h
        obtain rfl : v = .bl true := q
        obtain rfl : u = Value.bool true := r'
        refine ⟨rfl, OldK.of_keep fun b o e => ?_, os, bare⟩
        cases q : H b with
        | none => exact un.keep b o e q (by intro z; exact absurd (show b ∈ ([] : List Addr) from z) (by simp)) (by simp)
        | some u =>
          rcases hO b with z | ⟨ob, xs, z⟩
          · rw [q] at z
            cases z
          · have z2 := un.frzs b ob _ z
            have e1 := (hok b _ z).1
            rw [e] at e1
            cases e1
            exact (hok' b _ z2).1
  cases hk : K.lookup a with
  | some o =>
    have e := KX a o hk
    rw [ha] at e
    cases e
    exact core (fun _ => none) (fun _ => .inl rfl) (.inr ⟨_, vs.toArray, _, hk, rfl, rfl, rfl, by rw [List.size_toArray, lenV]; exact hl, by simpa using rv⟩) (fun b u z => nomatch z) (fun b z => absurd rfl z) fun z => absurd rfl z
  | none =>
    have at2 : ∀ {b : Addr} {u : HO}, (if b = a then some (HO.frz { cls := .type "list", data := .seq vs.toArray } (.lst (ns.map V.int))) else none) = some u → b = a ∧ u = .frz { cls := .type "list", data := .seq vs.toArray } (.lst (ns.map V.int)) := fun {b u} z => by
      by_cases hb : b = a
      · rw [if_pos hb] at z
        exact ⟨hb, (Option.some.inj z).symm⟩
      · rw [if_neg hb] at z
        cases z
    refine core (fun b => if b = a then some (.frz { cls := .type "list", data := .seq vs.toArray } (.lst (ns.map V.int))) else none) (fun b => ?_) (.inl (.inr ⟨{ cls := .type "list", data := .seq vs.toArray }, if_pos rfl⟩)) (fun b u z => ?_) (fun b z => ?_) fun _ => hk
    · by_cases hb : b = a
      · exact .inr ⟨_, _, if_pos hb⟩
      · exact .inl (if_neg hb)
    · obtain ⟨rfl, rfl⟩ := at2 z
      exact ⟨ha, by rw [List.length_map]; exact hl, vs, _, rv, ha⟩
    · by_cases hb : b = a
      · exact hb
      · exact absurd (if_neg hb) z
theorem walkG {l : PySem.W.OpenLaw} {n k : Nat} {q : Program} {loose : List Str} {XP : (Str → Option Value) → Heap → Prop} {YP : World → Heap → Prop} {d : DefRec} {K : Params → PySem.W.Frag} {CX : World → CXT} {sp : World → Sp} {x : Str}
    (hn : l.most = some n) (hn2 : n ≤ sizeLine) (hdf : d.params.defaults = []) (hr : Room k callerA) (hY : ∀ (w : World) (h : Heap), YP w h → (K w.params).In h)
    (F : ∀ (w : World) (mg : Str → Option Value) (fa : Addr) (h : Heap), (K w.params).In h → h.Ns mainGlobals mg → mg d.name = some (.ref fa) →
      ∃ fd : FuncData, (∀ (s : Shared) (u : Value), BindsTo s fd ⟨[u], []⟩ [(x, u)]) ∧ ∀ base : Heap, (K w.params).In base → base.Ns mainGlobals mg → FnG l.prog w (K w.params) mg base (CX w) k fa fd [x] (sp w))
    (hsp : ∀ (w : World) (H : Hp) (a : Addr) (ns : List Int), ns.length ≤ n → Only H → SqL (K w.params) H a (ns.map V.int) → sp w [.ref a] H (fun v _ => v = .bl true) fun _ _ _ => False)
    (hCX : ∀ (w : World) (H : Hp) (s : Shared) (e : Value) (s' : Shared), CX w [] H s (fun _ _ _ => False) e s' → False) :
    PySem.W.WalkO q loose XP YP l.row.toRowW d [] (fun f vs => PySem.call f vs) := by
  refine Att.attach_call hn hdf fun w s₀ s₁ mg mb fa o pm cd doc a vs ns G Y ho hd hcd hmg hobj hints hlen hg => ?_
  obtain ⟨fd, hb, hF⟩ := F w mg fa _ (hY w _ Y) G.T.g hmg
  exact callG (hY w _ Y) G.T.g G.T.b G.T.builtins G.T.nolimit hg hobj hints (Nat.le_trans hlen hn2) hr (fun base a b _ => hF base a b) hb (fun H hO hS => hsp w H a ns hlen hO hS) fun H e s' => hCX w H s₁ e s'
/-- where repr meets dicts: sys.modules is there, and is none of ours -/
theorem walkM {l : PySem.W.OpenLaw} {n k : Nat} {q : Program} {loose : List Str} {XP : (Str → Option Value) → Heap → Prop} {YP : World → Heap → Prop} {d : DefRec} {K : Params → PySem.W.Frag} {CX : World → CXT} {sp : World → Sp} {x : Str}
    (hn : l.most = some n) (hn2 : n ≤ sizeLine) (hdf : d.params.defaults = []) (hr : Room k callerA) (hY : ∀ (w : World) (h : Heap), YP w h → (K w.params).In h) (hi : importsNone q = true)
    (F : ∀ (w : World) (mg : Str → Option Value) (fa : Addr) (h : Heap), (K w.params).In h → h.Ns mainGlobals mg → mg d.name = some (.ref fa) →
      ∃ fd : FuncData, (∀ (s : Shared) (u : Value), BindsTo s fd ⟨[u], []⟩ [(x, u)]) ∧ ∀ base : Heap, (K w.params).In base → base.Ns mainGlobals mg → (∃ mm, base.Ns sysModules mm) → FnG l.prog w (K w.params) mg base (CX w) k fa fd [x] (sp w))
    (hsp : ∀ (w : World) (H : Hp) (a : Addr) (ns : List Int), ns.length ≤ n → Only H → SqL (K w.params) H a (ns.map V.int) → sp w [.ref a] H (fun v _ => v = .bl true) fun _ _ _ => False)
    (hCX : ∀ (w : World) (H : Hp) (s : Shared) (e : Value) (s' : Shared), CX w [] H s (fun _ _ _ => False) e s' → False) :
    PySem.W.WalkO q loose XP YP l.row.toRowW d [] (fun f vs => PySem.call f vs) := by
  refine Att.attach_call hn hdf fun w s₀ s₁ mg mb fa o pm cd doc a vs ns G Y ho hd hcd hmg hobj hints hlen hg => ?_
  obtain ⟨fd, hb, hF⟩ := F w mg fa _ (hY w _ Y) G.T.g hmg
  obtain ⟨mm, hm, _⟩ := (G.T.seer hi).mods
  exact callG (hY w _ Y) G.T.g G.T.b G.T.builtins G.T.nolimit hg hobj hints (Nat.le_trans hlen hn2) hr (fun base a b c => hF base a b ⟨mm, c _ _ hm⟩) hb (fun H hO hS => hsp w H a ns hlen hO hS) fun H e s' => hCX w H s₁ e s'
end Mo

namespace Mo
open PySem PySem.Spec PyProof.Rows L2
/-! ### the pen -/
def srcD (c : Addr) (t r : Int) : List (Key × V) := [(.inr "cells", .ref c), (.inr "index", .int t), (.inr "rest", .int r)]
theorem s_ct : ¬ ((Sum.inr "cells" : Key) = (Sum.inr "index" : Key)) := by decide +kernel
theorem s_cr : ¬ ((Sum.inr "cells" : Key) = (Sum.inr "rest" : Key)) := by decide +kernel
theorem s_tr : ¬ ((Sum.inr "index" : Key) = (Sum.inr "rest" : Key)) := by decide +kernel
theorem src_cells (c : Addr) (t r : Int) : valV (srcD c t r) (Sum.inr "cells") = some (.ref c) := valV_pos rfl
theorem src_index (c : Addr) (t r : Int) : valV (srcD c t r) (Sum.inr "index") = some (.int t) := by
  unfold srcD
  rw [valV_neg s_ct, valV_pos rfl]
theorem src_rest (c : Addr) (t r : Int) : valV (srcD c t r) (Sum.inr "rest") = some (.int r) := by
  unfold srcD
  rw [valV_neg s_cr, valV_neg s_tr, valV_pos rfl]
theorem sput_index (c : Addr) (t r u : Int) : putK (srcD c t r) (Sum.inr "index") (.int u) = srcD c u r := by
  unfold putK srcD
  have k1 := s_ct
  have k2 : ¬ ((Sum.inr "rest" : Key) = (Sum.inr "index" : Key)) := fun e => s_tr e.symm
  simp only [List.any_cons, List.map_cons, List.map_nil, k1, k2, if_false, if_true, decide_true, decide_false, Bool.true_or, Bool.or_true, Bool.false_or]
theorem sput_rest (c : Addr) (t r u : Int) : putK (srcD c t r) (Sum.inr "rest") (.int u) = srcD c t u := by
  unfold putK srcD
  have k1 := s_cr
  have k2 := s_tr
  simp only [List.any_cons, List.map_cons, List.map_nil, k1, k2, if_false, if_true, decide_true, decide_false, Bool.true_or, Bool.or_true, Bool.false_or]
theorem src_merge (c : Addr) (t r : Int) : mergeK [] (srcD c t r) = srcD c t r := by
  have k1 := s_ct
  have k2 := s_cr
  have k3 := s_tr
  simp only [mergeK, srcD, putK, List.foldl_cons, List.foldl_nil, List.any_nil, List.any_cons, List.nil_append, List.cons_append, k1, k2, k3, decide_false, Bool.or_false, Bool.false_eq_true, if_false]
/-- the pen at d, its cells at c, t draws done -/
def Src (H : Hp) (d c : Addr) (t : Nat) : Prop := ∃ (ns : List Int) (r : Int), H d = some (.dK (srcD c t r)) ∧ H c = some (.lst (ns.map V.int)) ∧ ns.length ≤ 63 ∧ 0 ≤ r
theorem Src.ne {H : Hp} {d c : Addr} {t : Nat} (h : Src H d c t) : d ≠ c := by
  obtain ⟨ns, r, h1, h2, _⟩ := h
  exact ne_of h1 h2 (by intro z; cases z)
theorem Src.new {H : Hp} {d c : Addr} {t : Nat} (h : Src H d c t) {p : Addr} (hp : H p = none) : p ≠ d ∧ p ≠ c := by
  obtain ⟨ns, r, h1, h2, _⟩ := h
  exact ⟨(ne_of_none h1 hp).symm, (ne_of_none h2 hp).symm⟩
theorem Src.upd {H : Hp} {d c : Addr} {t : Nat} (h : Src H d c t) {p : Addr} {o : HO} (h1 : p ≠ d) (h2 : p ≠ c) : Src (upd H p o) d c t := by
  obtain ⟨ns, r, e1, e2, e3⟩ := h
  exact ⟨ns, r, by rw [upd_ne h1.symm]; exact e1, by rw [upd_ne h2.symm]; exact e2, e3⟩
theorem Src.same {H H' : Hp} {d c : Addr} {t : Nat} (h : Src H d c t) (s : Same H H') : Src H' d c t := by
  obtain ⟨ns, r, e1, e2, e3⟩ := h
  exact ⟨ns, r, s _ _ e1, s _ _ e2, e3⟩
theorem src_set {H : Hp} {d c : Addr} {t : Nat} (h : Src H d c t) {u : Nat} {r : Int} (hr : 0 ≤ r) : Src (L2.upd H d (.dK (srcD c u r))) d c u := by
  have n := h.ne
  obtain ⟨ns, r0, e1, e2, e3, _⟩ := h
  exact ⟨ns, r, upd_same, by rw [upd_ne n.symm]; exact e2, e3, hr⟩
def spSDraw : Sp := fun vs H Q _ => ∃ (d c : Addr) (n : Int) (t : Nat), vs = [.ref d, .int n] ∧ Src H d c t ∧ 0 < n ∧ n < 1073741824 ∧ t < 1073741824 ∧
  ∀ H' k t', But d H H' → Src H' d c t' → t' ≤ t + 1 → 0 ≤ k → k < n → Q (.int k) H'
def spSPick (K : PySem.W.Frag) : Sp := fun vs H Q _ => ∃ (d c l : Addr) (xs : List V) (t : Nat), vs = [.ref d, .ref l] ∧ Src H d c t ∧ SqL K H l xs ∧ l ≠ d ∧ 0 < xs.length ∧ xs.length < 1073741824 ∧ t < 1073741824 ∧
  ∀ H' v t', But d H H' → Src H' d c t' → t' ≤ t + 1 → v ∈ xs → Q v H'
end Mo

/-! ### own error classes over any of Python's errors -/
namespace Mo
open PySem PySem.Spec PyProof.Rows L2
open Builtin Builtin.ObjectAttr in
section
variable {prog : Program} {w : World} {A : Around} {E : Value → Shared → Prop} {R : Result → Shared → Prop} {hp : Heap} {g : Array GenState} {d : Drawn} {t : Nat} {os : OsState}
/-- the first field of such an error -/
theorem osaG {K : PySem.W.Frag} {nm : Str} {tk : Tok} {v : Value} {x C : Addr} {fv : Array Value} {cd : ClassData} {bmB : List Value} (X : K.In hp) (hx : hp.get? x = some { cls := .ref C, data := .fields fv }) (hcd : PySem.W.clsIn K C = some cd)
    (hm : PySem.W.excTail bmB cd.mro = true) (hne : bmB ≠ []) (hob : bmB.contains (.type "object") = true) (hps : ∀ self, refuseLoop self "__setattr__" bmB = pure ()) (hh : cd.hasDict = true) (ha : PySem.W.findIn K (.ref C) nm = some none)
    (hq : ∀ h' tk' dx, (∀ b o, b ≠ x → hp.get? b = some o → h'.get? b = some o) → hp.objs.size ≤ dx → dx ≠ x → h'.get? x = some { cls := .ref C, dict := some dx, data := .fields fv } → h'.Ns1 dx (fun y => if y = nm then some v else none) → R (.ok (.ret .none)) ⟨h', g, d, tk', os⟩) :
    codeAny (model prog w) A (.call (.builtin "object.__setattr__") ⟨[.ref x, .str nm tk, v], []⟩) R ⟨hp, g, d, t, os⟩ := by
  have J : PySem.W.InstAt hp x { cls := .ref C, data := .fields fv } C none := ⟨hx, rfl, rfl, trivial⟩
  have SO := PySem.F.store_object
  have e1 : cd.mro.isEmpty = false := by
    cases q : cd.mro with
    | nil =>
      rw [q] at hm
      exact absurd (beq_iff_eq.mp hm).symm hne
    | cons _ _ => rfl
  have e2 : cd.mro.contains (.type "object") = true := (PySem.W.excTail_contains "object" _ hm).trans hob
  have n1 : x ≠ hp.objs.size := Nat.ne_of_lt (Heap.lt_size hx)
  have su : PySem.W.Looks (model prog w) hp (isInstance (.ref x) (.type "object")) true := J.type.andThen (PySem.W.looks_mroIn X (by unfold PySem.W.mroIn; rw [hcd, Option.bind_some, if_neg (by rw [e1]; decide), e2]))
  refine codeAny_call_builtin SO.slot.plain SO.entry (@PySem.W.check_slot (model prog w) _ _ ⟨hp, g, d, t, os⟩ "object.__setattr__" "object" "__setattr__" (.ref x) [.str nm tk, v] [] _ SO.kind SO.split su (SO.args (.ref x) (.str nm tk) v) ?_)
  have l1 : PySem.W.Looks (model prog w) hp (mroOf (.ref C)) cd.mro := (PySem.W.looks_clsIn X hcd).andThen .now
  have l2 : PySem.W.Looks (model prog w) hp (storeTaker? none) none := .now
  have l3 : PySem.W.Looks (model prog w) hp (classData C) cd := PySem.W.looks_clsIn X hcd
  rw [PySem.W.osa_eq, refuse_eq]
  refine wpAny_bind (wpAny_bind (J.type.at (wpAny_bind (l1.at ?_))))
  rw [PySem.W.excTail_pass _ (hps _) _ hm]
  refine wpAny_pure (wpAny_bind (J.type.at (wpAny_bind ((PySem.W.looks_findIn X ha).at (wpAny_bind (l2.at ?_))))))
  show wpAny _ _ (storeInOwnDict (.ref x) (.ref C) (.str nm tk) nm v false) _ _ _
  obtain ⟨_, _, mro, _, _, hd, _, _, _, _, _⟩ := cd
  obtain rfl : hd = true := hh
  unfold storeInOwnDict ownDictForStores
  repeat (first | with_reducible refine PySem.HandSPX.store_in_new ?_ ?_ | with_reducible refine wpAny_loadPart_at hx ?_ | with_reducible refine l3.at ?_ | wp_step)
  · exact ⟨_, #[], _, (Heap.get?_update_ne _ _ _ _ n1.symm).trans (Heap.get?_push_at rfl rfl), rfl, fun e he => absurd he (by simp), fun _ => rfl⟩
  · intro h2 tk2 hn2 hs2
    have hx1 : (hp.push { cls := .type "dict", data := .dict #[] }).get? x = some { cls := .ref C, data := .fields fv } := Heap.get?_push_of_some _ hx
    exact hq h2 tk2 hp.objs.size (fun b o hb ho => (hs2.2 b (Nat.ne_of_lt (Heap.lt_size ho))).trans ((Heap.get?_update_ne _ _ _ _ hb).trans (Heap.get?_push_of_some _ ho))) (Nat.le_refl _) n1.symm ((hs2.2 x n1).trans (Heap.get?_update_self _ hx1 rfl)) hn2
end
/-- what the written part says of an own error class at C over Python's B -/
structure OvC (K : PySem.W.Frag) (C : Addr) (B newId initId : String) (bmB : List Value) : Prop where
  cls : ∃ nm q N bs bm sn sub ab col dd k0 k1 k2 k3 k5, K.lookup C = some (excClassObj nm q C N bs bm true sn sub ab col dd k0 k1 k2 k3 k5 newId) ∧ PySem.W.excTail bmB bm = true
  bas : ExcBaseFacts B newId initId bmB
  obj : bmB.contains (.type "object") = true
  pas : ∀ self, refuseLoop self "__setattr__" bmB = pure ()
  sa : PySem.W.findIn K (.ref C) "__setattr__" = some (some (.builtin "object.__setattr__"))
  exC : PySem.W.subIn K (.ref C) (.type "BaseException") = some true
  tyC : PySem.W.typeIn K (.ref C) = some (.type "type")
  kC : PySem.W.keepIn K (.ref C) = true
section
variable {X : Cx} {pins : List (Addr × Obj)} {σ : L2.St} {H : Hp} {s : Shared} {a C : Addr} {f : Str} {y : V} {u : Value} {Q : Unit → Shared → Prop} {E : Value → Shared → Prop} {A : Around} {B newId initId : String} {bmB : List Value}
theorem fieldG (T : OvC X.K C B newId initId bmB) (I : Inv X pins σ H s) (e : H a = some (exo a C none)) (hno : PySem.W.findIn X.K (.ref C) f = some none) (ry : RelV y u)
    (h : ∀ dx s', H dx = none → dx ≠ a → Inv X pins σ (upd (upd H dx (exd dx [(f, y)])) a (exo a C (some dx))) s' → Q () s') : wpAny (model X.prog X.w) A (setAttr (.ref a) f u) Q E s := by
  obtain ⟨nm, q, N, bs, bm, sn, sub, ab, col, dd, k0, k1, k2, k3, k5, hC, hbm⟩ := T.cls
  have hcl : ∃ cd, PySem.W.clsIn X.K C = some cd ∧ cd.mro = .ref C :: bm ∧ cd.hasDict = true := by
    refine ⟨⟨nm, bs, .ref C :: bm, N, q, true, sn, sub, ab, col, false⟩, ?_, rfl, rfl⟩
    unfold PySem.W.clsIn
    rw [hC]
  obtain ⟨cd, c1, c2, c3⟩ := hcl
  obtain ⟨t1, ho⟩ := exo_at I.hok e
  obtain ⟨hp, g, dr, tk, os⟩ := s
  refine PySem.W.set_plain I.kIn (ox := { cls := .ref C, dict := none, data := .fields #[.ref t1, .none, .none, .none, .bool false, .none] }) (od := none) ⟨ho, rfl, rfl, trivial⟩ T.sa ?_
  refine osaG I.kIn ho c1 (by rw [c2]; exact hbm) (fun z => ?_) T.obj T.pas c3 hno (fun h2 tk2 dx kp dn ne hx hn => ?_)
  · have z2 := T.obj
    rw [z] at z2
    cases z2
  have free : H dx = none := I.hok.fresh dn
  have old : ∀ {b : Addr} {o : Obj}, hp.get? b = some o → b ≠ dx := fun {b o} q => Nat.ne_of_lt (Nat.lt_of_lt_of_le (Heap.lt_size q) dn)
  have off : ∀ {b : Addr}, H b = none → b ≠ a := fun {b} n z => by
    subst z
    rw [e] at n
    cases n
  have un : Un X.fs [] H (upd (upd H dx (exd dx [(f, y)])) a (exo a C (some dx))) hp h2 := by
    constructor
    · exact fun b o q n _ _ => kp b o (off n) q
    · exact fun b o q n _ _ => ⟨o.slots, kp b o (off n) q⟩
    · exact fun b o q n _ => by
        rw [upd_ne (off n), upd_ne (old q)]
        exact n
    · intro b o q _
      by_cases hb : b = a
      · subst hb
        exact ⟨_, hx⟩
      · exact ⟨o, kp b o hb q⟩
    · exact fun b xs q => by
        rw [upd_ne (at_ne e q exo_tup), upd_ne (ne_of_none q free)]
        exact q
    · exact fun b o v q => by
        rw [upd_ne (at_ne e q exo_frz), upd_ne (ne_of_none q free)]
        exact q
    · exact fun b ps q => ⟨#[], by
        rw [upd_ne (at_ne e q exo_tbl), upd_ne (ne_of_none q free), q]
        simp⟩
  refine h dx _ free ne (I.un (t' := tk2) un fun b o q => ?_)
  by_cases hb : b = a
  · subst hb
    rw [upd_same] at q
    obtain rfl := Option.some.inj q
    exact exo_ok hx
  rw [upd_ne hb] at q
  by_cases hd : b = dx
  · subst hd
    rw [upd_same] at q
    obtain rfl := Option.some.inj q
    exact exd_ok hn (relO_put (fs := []) ry fun _ => True.intro)
  rw [upd_ne hd] at q
  refine (I.hok b o q).stay (fun c v hc z => kp c v ?_ z) (fun c hc => ?_) (fun c xs hc => ?_)
  · rcases hc with rfl | hc
    · exact hb
    · exact at_ne e hc exo_own
  · rw [upd_ne (at_ne e hc exo_own), upd_ne (ne_of_none hc free)]
    exact hc
  · rw [upd_ne (at_ne e hc exo_tup), upd_ne (ne_of_none hc free)]
    exact hc
end
/-- self.f = e, the one field of such an error -/
def tFieldG (K : PySem.W.Frag) (f : Str) (to te : TE) : TS := fun D σ H => te σ H fun y H1 => to σ H1 fun x H2 => ∃ (a C : Addr) (B newId initId : String) (bmB : List Value), x = .ref a ∧ OvC K C B newId initId bmB ∧ PySem.W.findIn K (.ref C) f = some none ∧
  H2 a = some (exo a C none) ∧ ∀ dx, H2 dx = none → dx ≠ a → D.nx σ (upd (upd H2 dx (exd dx [(f, y)])) a (exo a C (some dx)))
section
variable {X : Cx} {o e : Expr} {es : List Expr} {to te : TE} {ta : TA} {f : Str} {p q1 pos : Pos} {B newId initId : String} {bmB : List Value}
theorem ps_fieldG (ho : PE X o to) (he : PE X e te) (hs : swapsWith e (some (.Attribute o f q1)) pos.line X.env = pure false := by rfl) : PS X (.Assign [.Attribute o f q1] e pos) (tFieldG X.K f to te) := by
  refine ⟨fun pins s σ H D I h => ?_⟩
  refine plainObj_wpAny_Assign_Attribute (thn (he.run pins s σ H _ I h) fun v s1 ⟨y, H1, I1, r1, z1⟩ => thn (ho.run pins s1 σ H1 _ I1 z1) fun u s2 ⟨x, H2, I2, r2, a, C, B, newId, initId, bmB, ex, T, hno, ea, z⟩ => ?_) hs
  subst ex
  obtain rfl : u = Value.ref a := r2
  exact fieldG T I2 ea hno r1 fun dx s' n ne J => ⟨σ, _, J, z dx n ne⟩
/-- C(e, ..) where it is raised -/
theorem pmkG {CX : CXT} {x : Str} {C fI : Addr} {k : Nat} {fd : FuncData} {ps : List Str} {sp : Sp} (T : OvC X.K C B newId initId bmB) (iC : PySem.W.findIn X.K (.ref C) "__init__" = some (some (.ref fI))) (tI : PySem.W.typeIn X.K (.ref fI) = some (.type "function"))
    (F1 : FnOk X.prog X.w X.K X.mg X.base CX k fI fd ps sp) (hr : Room (k + 1) X.A) (hb : Binds X.K fd ps []) (hx : Passes CX X (fun _ _ _ => False)) (hg : Gl X x) (hm : X.mg x = some (.ref C)) (ha : PA X (e :: es) ta)
    (hdb : (x == ("__debug__" : Str)) = false := by decide) (he : starEach (e :: es) X.env = (false, eval e X.env) :: starEach es X.env := by rfl) (hpl : (backTo pos (starEach es X.env)).any (·.1) = false := by rfl) :
    PMk X (.Call (.Name x p) (e :: es) [] pos) (tMkO C sp [] ta) := by
  intro pins s σ H Q I h
  obtain ⟨nm, q, N, bs, bm, sn, sub, ab, col, dd, k0, k1, k2, k3, k5, hC, hbm⟩ := T.cls
  refine wpAny_Call_Name_kw (ld_glob I hg hm (PySem.W.callWith_K (h₀ := X.base) I.ok.mod.kin T.kC (thn (ha.run pos pins s σ H _ I h) fun us s1 ⟨vs, H1, I1, r1, hz, z1⟩ => ⟨I1.kIn, ?_⟩) he hpl) hdb)
  show wpAny _ _ (call (.ref C) us) _ _ _
  obtain ⟨hp, g, dr, tk, os⟩ := s1
  have le1 : hp.objs.size ≤ hp.objs.size + 1 := Nat.le_succ _
  have z2 := z1 (hp.objs.size + 1) (I1.hok.fresh le1)
  have keep : ∀ b o, hp.get? b = some o → ((hp.push (PySem.W.kdv_tup us)).push (PySem.HandSPX.excO C hp.objs.size)).get? b = some o := fun b o e => Heap.get?_push_of_some _ (Heap.get?_push_of_some _ e)
  have hget : ((hp.push (PySem.W.kdv_tup us)).push (PySem.HandSPX.excO C hp.objs.size)).get? (hp.objs.size + 1) = some (PySem.HandSPX.excO C hp.objs.size) := by heap_get
  have I2 := I1.laid (t' := tk) (a := hp.objs.size + 1) (o := exo (hp.objs.size + 1) C none) (h' := (hp.push (PySem.W.kdv_tup us)).push (PySem.HandSPX.excO C hp.objs.size)) keep le1 (exo_ok hget)
  rw [List.append_nil] at z2
  have r2 : Vals (V.ref (hp.objs.size + 1) :: vs) (Value.ref (hp.objs.size + 1) :: us) := .cons rfl r1
  have bi := hb ⟨(hp.push (PySem.W.kdv_tup us)).push (PySem.HandSPX.excO C hp.objs.size), g, dr, tk, os⟩ (Value.ref (hp.objs.size + 1) :: us) I2.kIn (by rw [List.append_nil]; exact r2.length.symm.trans (F1.len _ _ _ _ z2))
  rw [List.append_nil] at bi
  have hus : us.length ≤ sizeLine := by
    have := r1.length
    rw [sizeLine_eq]
    omega
  refine wpAny_call (PySem.HandSPX.call_own T.bas (fun Y => PySem.W.excTail_contains Y bm hbm) (I1.kIn _ _ hC) (PySem.W.looks_findIn I1.kIn iC) (fun self => PySem.W.bind_fn I1.kIn self tI) hus (codeAny_mono
    (F1.run _ X.stack _ _ ⟨Value.ref (hp.objs.size + 1) :: us, []⟩ (Value.ref (hp.objs.size + 1) :: us) _ _ (fun _ _ _ => False) (hr.make C us []) (I2.env0.make C us []) bi r2 z2) fun r s2 z3 => ?_))
  match r, z3 with
  | .error er, z3 => exact hx pins σ _ _ er s2 I2 z3
  | .ok (.ret u), z3 =>
    obtain ⟨v, H2, os2, bare2, un2, hok2, rv, ev, dx, fs, ea, ed, hd1, z4⟩ := z3
    subst ev
    obtain ⟨h2, g2, d2, t2, os'⟩ := s2
    exact ⟨rv, mk_end (raises_own T.exC T.tyC) I1 le1 keep un2 hok2 os2 bare2 ea ed hd1 z4⟩
end
/-- such a class with one field f, its __init__ at fI -/
structure ErrG (K : PySem.W.Frag) (C fI : Addr) (f : Str) (B newId initId : String) (bmB : List Value) : Prop where
  ov : OvC K C B newId initId bmB
  xf : XfC K C
  exc : ExcC K C
  no : PySem.W.findIn K (.ref C) f = some none
  te : PySem.W.exmOne K (.ref C) (.ref C) = some true
  iC : PySem.W.findIn K (.ref C) "__init__" = some (some (.ref fI))
  tI : PySem.W.typeIn K (.ref fI) = some (.type "function")
end Mo

/-! ### `is`, `is not` of truth values -/
namespace Mo
open PySem PySem.Spec PyProof.Rows L2
variable {X : Cx}
def rIsB : R2 := fun x y H Q => ∃ a b, x = .bl a ∧ y = .bl b ∧ Q (.bl (decide (a = b))) H
def rNotB : R2 := fun x y H Q => ∃ a b, x = .bl a ∧ y = .bl b ∧ Q (.bl (!decide (a = b))) H
theorem op_isB : OpR X (compareOp .Is) rIsB := by
  intro pins s σ H x y v u Q I rx ry h
  obtain ⟨a, b, rfl, rfl, q⟩ := h
  cases rx
  cases ry
  refine wpAny_is_plain rfl (fin_bl I q ?_)
  cases a <;> cases b <;> first | rfl | decide
theorem op_notB : OpR X (compareOp .IsNot) rNotB := by
  intro pins s σ H x y v u Q I rx ry h
  obtain ⟨a, b, rfl, rfl, q⟩ := h
  cases rx
  cases ry
  refine wpAny_isNot_plain rfl (fin_bl I q ?_)
  cases a <;> cases b <;> first | rfl | decide
end Mo

set_option exponentiation.threshold 3000
/-! ### how great data is: its ints below 10 ^ B, its signs, its bulk, its depth -/
namespace Mo
open PySem PySem.Spec PyProof.Rows L2
mutual
def okD (B : Nat) : PyData → Prop
  | .none | .bool _ => True
  | .int i => i.natAbs < 10 ^ B
  | .str z => ∀ c ∈ z.cps.toList, c < 128
  | .list ds | .tuple ds => okAll B ds
  | .dict kvs => okKv B kvs
def okAll (B : Nat) : List PyData → Prop
  | [] => True
  | d :: ds => okD B d ∧ okAll B ds
def okKv (B : Nat) : List (PyData × PyData) → Prop
  | [] => True
  | (k, v) :: r => (okD B k ∧ okD B v) ∧ okKv B r
end
theorem okAll_iff {B : Nat} : ∀ {ds : List PyData}, okAll B ds ↔ ∀ d ∈ ds, okD B d
  | [] => by simp [okAll]
  | d :: ds => by
    rw [List.forall_mem_cons, ← okAll_iff (ds := ds)]
    simp only [okAll]
mutual
theorem okD.mono {B C : Nat} (h : B ≤ C) : ∀ {d : PyData}, okD B d → okD C d
  | .none, _ => by simp only [okD]
  | .bool _, _ => by simp only [okD]
  | .int i, q => by
    simp only [okD] at q ⊢
    exact Nat.lt_of_lt_of_le q (Nat.pow_le_pow_right (by decide) h)
  | .str z, q => by
    simp only [okD] at q ⊢
    exact q
  | .list ds, q => by
    simp only [okD] at q ⊢
    exact okAll.mono h q
  | .tuple ds, q => by
    simp only [okD] at q ⊢
    exact okAll.mono h q
  | .dict kvs, q => by
    simp only [okD] at q ⊢
    exact okKv.mono h q
theorem okAll.mono {B C : Nat} (h : B ≤ C) : ∀ {ds : List PyData}, okAll B ds → okAll C ds
  | [], _ => by simp only [okAll]
  | d :: ds, q => by
    simp only [okAll] at q ⊢
    exact ⟨okD.mono h q.1, okAll.mono h q.2⟩
theorem okKv.mono {B C : Nat} (h : B ≤ C) : ∀ {kvs : List (PyData × PyData)}, okKv B kvs → okKv C kvs
  | [], _ => by simp only [okKv]
  | (k, v) :: r, q => by
    simp only [okKv] at q ⊢
    exact ⟨⟨okD.mono h q.1.1, okD.mono h q.1.2⟩, okKv.mono h q.2⟩
end
theorem int_short {B : Nat} {i : Int} (hB : 1 ≤ B) (h : i.natAbs < 10 ^ B) : (PyData.shown (.int i)).length ≤ B + 1 := by
  rw [PyData.shown_int, PySem.ofString_length]
  exact int_text_length_le10 hB h
/-- str(i) -/
theorem int_signs (i : Int) : ∀ c ∈ (Str.ofString (toString i)).cps.toList, c < 128 := fun c hc => by
  by_cases h : c ≠ 45 ∧ (c < 48 ∨ 57 < c)
  · exact absurd hc (int_text_free' c h i)
  · omega
theorem int_text_size {B : Nat} {i : Int} (hB : 1 ≤ B) (h : i.natAbs < 10 ^ B) : (Str.ofString (toString i)).cps.size ≤ B + 1 := by
  have q := int_short hB h
  rw [PyData.shown_int] at q
  exact q
theorem log_small {B n : Nat} (hB : B ≤ 100) (h : n < 10 ^ B) : n.log2 < 1920 := by
  by_cases h0 : n = 0
  · subst h0
    decide
  · have h1 : n < 2 ^ 1920 := Nat.lt_of_lt_of_le h (Nat.le_trans (Nat.pow_le_pow_right (by decide) hB) (by decide))
    exact (Nat.log2_lt h0).mpr h1
mutual
theorem okD.short {B : Nat} (hB : 1 ≤ B) : ∀ {d : PyData}, okD B d → d.leavesShort (B + 8) = true
  | .none, _ => by simp only [PyData.leavesShort]
  | .bool _, _ => by simp only [PyData.leavesShort]
  | .int i, q => by
    simp only [okD] at q
    have := int_short hB q
    simp only [PyData.leavesShort]
    exact decide_eq_true (by omega)
  | .str z, q => by
    simp only [okD] at q
    simp only [PyData.leavesShort, List.all_eq_true]
    exact fun c hc => decide_eq_true (Nat.lt_trans (q c hc) (by decide))
  | .list ds, q => by
    simp only [okD, PyData.leavesShort] at q ⊢
    exact okAll.short hB q
  | .tuple ds, q => by
    simp only [okD, PyData.leavesShort] at q ⊢
    exact okAll.short hB q
  | .dict kvs, q => by
    simp only [okD, PyData.leavesShort] at q ⊢
    exact okKv.short hB q
theorem okAll.short {B : Nat} (hB : 1 ≤ B) : ∀ {ds : List PyData}, okAll B ds → PyData.leavesShortAll (B + 8) ds = true
  | [], _ => by simp only [PyData.leavesShortAll]
  | d :: ds, q => by
    simp only [okAll, PyData.leavesShortAll, Bool.and_eq_true] at q ⊢
    exact ⟨okD.short hB q.1, okAll.short hB q.2⟩
theorem okKv.short {B : Nat} (hB : 1 ≤ B) : ∀ {kvs : List (PyData × PyData)}, okKv B kvs → PyData.leavesShortKv (B + 8) kvs = true
  | [], _ => by simp only [PyData.leavesShortKv]
  | (k, v) :: r, q => by
    simp only [okKv, PyData.leavesShortKv, Bool.and_eq_true] at q ⊢
    exact ⟨⟨okD.short hB q.1.1, okD.short hB q.1.2⟩, okKv.short hB q.2⟩
end
mutual
theorem okD.show {B : Nat} (hB : B ≤ 100) : ∀ {d : PyData}, okD B d → d.showable = true
  | .none, _ => by simp only [PyData.showable]
  | .bool _, _ => by simp only [PyData.showable]
  | .int i, q => by
    simp only [okD, PyData.showable] at q ⊢
    exact decide_eq_true (log_small hB q)
  | .str z, q => by simp only [PyData.showable]
  | .list ds, q => by
    simp only [okD, PyData.showable] at q ⊢
    exact okAll.show hB q
  | .tuple ds, q => by
    simp only [okD, PyData.showable] at q ⊢
    exact okAll.show hB q
  | .dict kvs, q => by
    simp only [okD, PyData.showable] at q ⊢
    exact okKv.show hB q
theorem okAll.show {B : Nat} (hB : B ≤ 100) : ∀ {ds : List PyData}, okAll B ds → PyData.showableAll ds = true
  | [], _ => by simp only [PyData.showableAll]
  | d :: ds, q => by
    simp only [okAll, PyData.showableAll, Bool.and_eq_true] at q ⊢
    exact ⟨okD.show hB q.1, okAll.show hB q.2⟩
theorem okKv.show {B : Nat} (hB : B ≤ 100) : ∀ {kvs : List (PyData × PyData)}, okKv B kvs → PyData.showableKv kvs = true
  | [], _ => by simp only [PyData.showableKv]
  | (k, v) :: r, q => by
    simp only [okKv, PyData.showableKv, Bool.and_eq_true] at q ⊢
    exact ⟨⟨okD.show hB q.1.1, okD.show hB q.1.2⟩, okKv.show hB q.2⟩
end
theorem bulkAll_app : ∀ (a b : List PyData), PyData.bulkAll (a ++ b) = PyData.bulkAll a + PyData.bulkAll b
  | [], b => by simp [PyData.bulkAll]
  | x :: a, b => by
    rw [List.cons_append]
    simp only [PyData.bulkAll]
    rw [bulkAll_app a b]
    omega
theorem depthAll_le {n : Nat} : ∀ {ds : List PyData}, PyData.depthAll ds ≤ n ↔ ∀ d ∈ ds, d.depth ≤ n
  | [] => by simp [PyData.depthAll]
  | d :: ds => by
    rw [List.forall_mem_cons, ← depthAll_le (ds := ds)]
    simp only [PyData.depthAll]
    exact Nat.max_le
/-- data of these bounds -/
structure Fit (B W D : Nat) (d : PyData) : Prop where
  ok : okD B d
  bulk : d.bulk ≤ W
  deep : d.depth ≤ D
/-- lists of such data, of this bulk together -/
structure FitAll (B W D : Nat) (ds : List PyData) : Prop where
  ok : okAll B ds
  bulk : PyData.bulkAll ds ≤ W
  deep : PyData.depthAll ds ≤ D
theorem Fit.mono {B W D B' W' D' : Nat} {d : PyData} (h : Fit B W D d) (h1 : B ≤ B') (h2 : W ≤ W') (h3 : D ≤ D') : Fit B' W' D' d := ⟨h.ok.mono h1, Nat.le_trans h.bulk h2, Nat.le_trans h.deep h3⟩
theorem FitAll.app {B W D W' : Nat} {a b : List PyData} (h : FitAll B W D a) (g : FitAll B W' D b) : FitAll B (W + W') D (a ++ b) :=
  ⟨okAll_iff.mpr fun d hd => (List.mem_append.mp hd).elim (okAll_iff.mp h.ok d) (okAll_iff.mp g.ok d), by rw [bulkAll_app]; exact Nat.add_le_add h.bulk g.bulk, depthAll_le.mpr fun d hd => (List.mem_append.mp hd).elim (depthAll_le.mp h.deep d) (depthAll_le.mp g.deep d)⟩
theorem FitAll.tup {B W D : Nat} {a : List PyData} (h : FitAll B W D a) : Fit B W (D + 1) (.tuple a) := ⟨by simp only [okD]; exact h.ok, by simp only [PyData.bulk]; exact h.bulk, by simp only [PyData.depth]; exact Nat.succ_le_succ h.deep⟩
theorem FitAll.lst {B W D : Nat} {a : List PyData} (h : FitAll B W D a) : Fit B W (D + 1) (.list a) := ⟨by simp only [okD]; exact h.ok, by simp only [PyData.bulk]; exact h.bulk, by simp only [PyData.depth]; exact Nat.succ_le_succ h.deep⟩
theorem Fit.of_tup {B W D : Nat} {a : List PyData} (h : Fit B W (D + 1) (.tuple a)) : FitAll B W D a := ⟨by have := h.ok; simp only [okD] at this; exact this, by have := h.bulk; simp only [PyData.bulk] at this; exact this, by have := h.deep; simp only [PyData.depth] at this; omega⟩
theorem Fit.one {B W D : Nat} {d : PyData} (h : Fit B W D d) : FitAll B (W + 1) D [d] := ⟨by simp only [okAll]; exact ⟨h.ok, trivial⟩, by simp only [PyData.bulkAll]; have := h.bulk; omega, by simp only [PyData.depthAll]; have := h.deep; omega⟩
theorem FitAll.sub {B W D : Nat} {a b : List PyData} (h : FitAll B W D b) (hs : a.Sublist b) : FitAll B (PyData.bulkAll a) D a := ⟨okAll_iff.mpr fun d hd => okAll_iff.mp h.ok d (hs.subset hd), Nat.le_refl _, depthAll_le.mpr fun d hd => depthAll_le.mp h.deep d (hs.subset hd)⟩
theorem FitAll.mono {B W D B' W' D' : Nat} {d : List PyData} (h : FitAll B W D d) (h1 : B ≤ B') (h2 : W ≤ W') (h3 : D ≤ D') : FitAll B' W' D' d := ⟨h.ok.mono h1, Nat.le_trans h.bulk h2, Nat.le_trans h.deep h3⟩
theorem FitAll.len {B W D : Nat} {a : List PyData} (h : FitAll B W D a) : a.length ≤ W := by
  have key : ∀ a : List PyData, a.length ≤ PyData.bulkAll a := by
    intro a
    induction a with
    | nil => exact Nat.zero_le _
    | cons x a ih =>
      simp only [PyData.bulkAll, List.length_cons]
      omega
  exact Nat.le_trans (key a) h.bulk
/-- what repr asks -/
theorem Fit.repr {B W D : Nat} {d : PyData} (h : Fit B W D d) (h1 : 1 ≤ B) (h2 : B ≤ 40) (h3 : W ≤ 300000) (h4 : D ≤ 40) : d.showable = true ∧ d.depth ≤ 40 ∧ d.shown.length ≤ sizeLine := by
  refine ⟨h.ok.show (by omega), Nat.le_trans h.deep h4, ?_⟩
  have q := PyData.shown_le_bulk (B + 8) (by omega) d (h.ok.short h1)
  have hb := h.bulk
  have m : (B + 8 + 2) * d.bulk ≤ 50 * 300000 := Nat.mul_le_mul (by omega) (by omega)
  rw [sizeLine_eq]
  omega
/-! ### kinds -/
def tyD : PyData → String
  | .none => "NoneType"
  | .bool _ => "bool"
  | .int _ => "int"
  | .str _ => "str"
  | .list _ => "list"
  | .tuple _ => "tuple"
  | .dict _ => "dict"
theorem Dx.ty {N : Addr → Prop} {K : PySem.W.Frag} {H : Hp} {x : V} {d : PyData} (h : Dx N H x d) : TyX K H x (.type (tyD d)) := by
  cases h with
  | non => exact .base .non
  | bl b => exact .base (.bl b)
  | int i => exact .base (.int i)
  | str z => exact .base (.str z)
  | lst h _ _ => exact .base (.lst h)
  | tup h _ _ => exact .base (.tup h)
  | dct h _ _ => exact .base (.dK h)
def letterD : PyData → Bool
  | .int i => decide (0 ≤ i) && decide (i ≤ 999999)
  | _ => false
def textD : PyData → Bool
  | .tuple ds => decide (ds.length ≤ 4096) && ds.all letterD
  | _ => false
end Mo

/-! ### data written out: new, and holding nothing that was there -/
namespace Mo
open PySem PySem.Spec PyProof.Rows L2
def Was (H0 : Hp) : Addr → Prop := fun a => H0 a ≠ none
theorem Was.mono {H H' : Hp} (s : Same H H') {b : Addr} (h : Was H b) : Was H' b := by
  cases e : H b with
  | none => exact absurd e h
  | some o =>
    unfold Was
    rw [s _ _ e]
    exact Option.some_ne_none _
def LitE (te : TE) (d : PyData) : Prop := ∀ σ H Q, (∀ H' v, Same H H' → Dx (Was H) H' v d → Q v H') → te σ H Q
def LitA (ta : TA) (ds : List PyData) : Prop := ∀ σ H Q, (∀ H' vs, Same H H' → DxAll (Was H) H' vs ds → Q vs H') → ta σ H Q
theorem LitE.use {te : TE} {d : PyData} (h : LitE te d) {σ : L2.St} {H : Hp} {Q : VK} (q : ∀ H' v, Same H H' → Dx (Was H) H' v d → Q v H') : te σ H Q := h σ H Q q
theorem lit_non : LitE (tC .non) .none := fun _ _ _ q => q _ _ (Same.refl _) .non
theorem lit_bl {b : Bool} : LitE (tC (.bl b)) (.bool b) := fun _ _ _ q => q _ _ (Same.refl _) (.bl b)
theorem lit_int {i : Int} : LitE (tC (.int i)) (.int i) := fun _ _ _ q => q _ _ (Same.refl _) (.int i)
theorem lit_str {x : Str} : LitE (tC (.str x)) (.str x) := fun _ _ _ q => q _ _ (Same.refl _) (.str x)
theorem lit_neg {i : Int} : LitE (tUn (rU fun i => .int (-i)) (tC (.int i))) (.int (-i)) := fun _ _ _ q => ⟨i, rfl, q _ _ (Same.refl _) (.int _)⟩
theorem lit_pow {i j : Int} (h : CPow i j) : LitE (tOp (rI CPow fun i j => .int (i ^ j.toNat)) (tC (.int i)) (tC (.int j))) (.int (i ^ j.toNat)) := fun _ _ _ q => ⟨i, j, rfl, rfl, h, q _ _ (Same.refl _) (.int _)⟩
theorem lit_nil : LitA tNil [] := fun _ _ _ q => q _ _ (Same.refl _) .nil
theorem lit_cons {te : TE} {ta : TA} {d : PyData} {ds : List PyData} (h : LitE te d) (g : LitA ta ds) : LitA (tCons te ta) (d :: ds) := fun σ H Q q =>
  h σ H _ fun H1 v s1 hv => g σ H1 _ fun H2 vs s2 hvs => q H2 (v :: vs) (s1.trans s2) (.cons (hv.same s2) (hvs.more fun b _ z => Was.mono s1 z))
theorem lit_tup {t : TA} {ds : List PyData} (h : LitA t ds) (hl : ds.length ≤ 1000 := by decide) : LitE (tTup t) (.tuple ds) := fun σ H Q q =>
  h σ H _ fun H1 vs s1 hx => ⟨Nat.le_of_lt (small1000 (by rw [hx.length]; exact hl)), fun p np => q _ _ (s1.trans (same_new np)) (.tup upd_same (fun z => z (s1.free np)) (hx.same (same_new np)))⟩
theorem lit_lst {t : TA} {ds : List PyData} (h : LitA t ds) (hl : ds.length ≤ 1000 := by decide) : LitE (tLst t) (.list ds) := fun σ H Q q =>
  h σ H _ fun H1 vs s1 hx => ⟨Nat.le_of_lt (small1000 (by rw [hx.length]; exact hl)), fun p np => q _ _ (s1.trans (same_new np)) (.lst upd_same (fun z => z (s1.free np)) (hx.same (same_new np)))⟩
theorem lit_dnew : LitE tDNewK (.dict []) := fun σ H Q q p np => q _ _ (same_new np) (.dct (kvs := []) (ds := []) upd_same (fun z => z np) .nil)
theorem lit_disp1 {k : Key} {tv : TE} {d : PyData} (h : LitE tv d) : LitE (tDisp [(tC (kV k), tv)]) (.dict [(keyD k, d)]) := fun σ H Q q p np =>
  h σ _ _ fun H1 v s1 hv => ⟨s1 _ _ upd_same, [(k, v)], rfl, by show 1 ≤ 15; decide, by
    have n1 : H p = none := np
    have e : mergeK [] [(k, v)] = [(k, v)] := rfl
    rw [e]
    refine q _ _ (Same.put ((same_new np).trans s1) np) (.dct (kvs := [(k, v)]) (ds := [d]) upd_same (fun z => z np) (.cons ?_ .nil))
    refine (hv.more (N' := fun b => Was H b ∨ b = p) fun b _ z => z.elim (fun z => Was.mono (same_new np) z) (fun z => ?_)).but ?_ |>.more fun b _ z => .inl z
    · subst z
      unfold Was
      rw [upd_same]
      exact Option.some_ne_none _
    · intro b o nb e
      rw [upd_ne fun z => nb (.inr z)]
      exact e⟩
theorem lit_dispS {x : Str} {tv : TE} {d : PyData} (h : LitE tv d) : LitE (tDisp [(tC (.str x), tv)]) (.dict [(.str x, d)]) := lit_disp1 (k := .inr x) h
theorem lit_dispI {i : Int} {tv : TE} {d : PyData} (h : LitE tv d) : LitE (tDisp [(tC (.int i), tv)]) (.dict [(.int i, d)]) := lit_disp1 (k := .inl i) h
/-! what stands behind -/
theorem lst_dx {N : Addr → Prop} {H : Hp} {x : V} {ds : List PyData} (h : Dx N H x (.list ds)) : ∃ a xs, x = .ref a ∧ H a = some (.lst xs) ∧ ¬ N a ∧ DxAll N H xs ds := by
  generalize e : PyData.list ds = d at h
  cases h with
  | lst h n t => obtain rfl := PyData.list.inj e; exact ⟨_, _, rfl, h, n, t⟩
  | _ => cases e
theorem tpl_dx {N : Addr → Prop} {H : Hp} {x : V} {ds : List PyData} (h : Dx N H x (.tuple ds)) : ∃ a xs, x = .ref a ∧ H a = some (.tup xs) ∧ ¬ N a ∧ DxAll N H xs ds := by
  generalize e : PyData.tuple ds = d at h
  cases h with
  | tup h n t => obtain rfl := PyData.tuple.inj e; exact ⟨_, _, rfl, h, n, t⟩
  | _ => cases e
theorem keyD_inj : ∀ {a b : Key}, keyD a = keyD b → a = b
  | .inl _, .inl _, h => congrArg Sum.inl (PyData.int.inj h)
  | .inr _, .inr _, h => congrArg Sum.inr (PyData.str.inj h)
  | .inl _, .inr _, h => by cases h
  | .inr _, .inl _, h => by cases h
theorem dct1_dx {N : Addr → Prop} {H : Hp} {x : V} {k : Key} {e : PyData} (h : Dx N H x (.dict [(keyD k, e)])) : ∃ a u, x = .ref a ∧ H a = some (.dK [(k, u)]) ∧ ¬ N a ∧ Dx N H u e := by
  generalize q : PyData.dict [(keyD k, e)] = d at h
  cases h with
  | @dct a kvs ds h n t =>
    have q1 := PyData.dict.inj q
    cases kvs with
    | nil => cases t; cases q1
    | cons kv r =>
      cases t with
      | @cons _ _ d ds h1 t =>
        rw [List.map_cons, List.zip_cons_cons] at q1
        have q2 := List.cons.inj q1
        have q3 := Prod.mk.inj q2.1
        cases r with
        | nil =>
          cases t
          obtain ⟨k', u⟩ := kv
          have : k = k' := keyD_inj q3.1
          subst this
          refine ⟨a, u, rfl, h, n, ?_⟩
          rw [q3.2]
          exact h1
        | cons kv2 r =>
          cases t with
          | cons h2 t => cases q2.2
  | _ => cases q
end Mo

/-! ### lambdas without parameters, handed to a def that calls them within a try -/
namespace Mo
open PySem PySem.Spec PyProof.Rows L2
section
variable {P : Program} {w : World} {K : PySem.W.Frag} {mg : Str → Option Value} {base : Heap} {k : Nat} {f c : Addr} {fd : FuncData} {ps : List Str} {sp : Sp}
/-- a def that raises nothing, the place of its code object told -/
theorem okT {x qual : Str} {st : Stmt} {N : List Str} (F : Fun K x qual st f fd) (hc : fd.code = .ref c) (S : FnScope N ps (defScope st)) (len : ∀ vs H Q E, sp vs H Q E → vs.length = ps.length)
    (hbody : ∀ (A : Around) (outer : List Env) (s : Shared) (H : Hp) (vs : List V) (Q : VK) (E : XK), Room k (A.deeper (envOfC qual (defScope st) s.heap.objs.size f (.ref c))) → A.guards = some [] → sp vs H Q E →
      ∃ t, PSs (cxOf CX0 P w K mg base N qual (defScope st) f (.ref c) A outer s H E).nox (defBody st) t ∧ t { nx := fun _ H' => Q .non H', rt := Q } (start N vs) H) : FnG P w K mg base CX0 (k + 1) f fd ps sp := by
  obtain ⟨oc, od, kV, doc, pm, an, cdv, ct, osl, rfl, lk, hcd⟩ := F.ex
  obtain rfl : cdv = .ref c := hc
  refine ⟨len, fun A outer s H args us vs Q E hr hg e0 hb r hsp => ?_⟩
  have stays : ∀ b o, base.get? b = some o → s.heap.get? b = some o := fun b o e => (e0.bs b o e).1
  have KX : K.In s.heap := e0.mod.kin.keeps stays
  have kinds : ∀ y ∈ ps.zip us, (defScope st).names.lookup y.1 = some .local ∨ ((defScope st).names.lookup y.1 = some .cell ∧ ((cellsFrom (s.heap.objs.size + 1) (defScope st).names []).lookup y.1).isSome = true) := fun y hy =>
    (S.par y.1 (List.of_mem_zip (a := y.1) (b := y.2) hy).1).elim .inl fun q => .inr ⟨q, PySem.W.cellsFrom_some _ _ _ (.inl q)⟩
  refine codeAny_call_function hr.depth (KX _ _ lk) rfl S.co S.gen rfl (PySem.W.codeRec_of KX hcd) (hb _ _ _ _ (wpAny_newFunctionEnv_cells S.kind kinds fun env he s1 x => ?_))
  subst he
  refine ⟨(e0.mod.nolimit.keeps stays).keeps x.toInCall.keep, codeAny_func ?_⟩
  obtain ⟨t, ht, hq⟩ := hbody A outer s H vs Q E (hr.deeper _) hg hsp
  have I : Inv (cxOf CX0 P w K mg base N qual (defScope st) f (.ref c) A outer s H E) [] (start N vs) H s1 := inv_start S hr.hd e0 (len _ _ _ _ hsp) r x
  refine wpAny_mono (ht.nox.run [] s1 (start N vs) H _ I hq) (fun fl s' hs => ?_) fun e s' hs => hs
  cases fl with
  | ret u => exact hs.elim fun v z => z.elim fun σ' z => z.elim fun H' z => ⟨v, H', z.1.os, z.1.bare, z.1.base, z.1.hok, z.2.1, z.2.2⟩
  | next => exact hs.elim fun σ' z => z.elim fun H' z => ⟨V.non, H', z.1.os, z.1.bare, z.1.base, z.1.hok, rfl, z.2⟩
  | brk => exact hs.elim fun _ z => z.elim fun _ z => z.2.elim
  | cont => exact hs.elim fun _ z => z.elim fun _ z => z.2.elim
end
/-- the call of what was got: it stands in slot i; what it lets out is wished by W there -/
def tAct (i : Nat) (fn cc : Addr) (q : Str) (tl : XK → Hp → VK → Prop) (W : WX) : TE := fun σ H Q =>
  σ[i]? = some (some (.ref fn)) ∧ H cc = some (LamX.CodeO cc q) ∧ ∃ E : XK, (∀ cls d H', E cls d H' → W cls d σ H') ∧ tl E H Q
section
variable {X : Cx} {pins : List (Addr × Obj)} {σ : L2.St} {H : Hp} {s : Shared}
theorem pe_actS {CXg : CXT} {Eg : XK} {Ng : List Str} {qg : Str} {sg : Scope} {g fn cc : Addr} {cdg pm ctv : Value} {params : Arguments} {body : Expr} {scope : Scope} {k i : Nat} {a : Str} {pn : List (Addr × Obj)} {xe : Value → Shared → Prop} {W : WX} {tb : XK → TE} {p1 p2 : Pos}
    (I : Inv X pins σ H s) (L : LamX.LamS X.env.scope scope) (hf : s.heap.get? fn = some (PySem.W.kla_obj "<lambda>" (X.env.qual ++ "<lambda>") params body scope (cloFrom X.env.cells scope.names []) pm cc ctv)) (nfn : H fn = none) (frn : fn ∉ frs X.stack)
    (hbind : bindArgs (PySem.W.kla_fn "<lambda>" (X.env.qual ++ "<lambda>") params body scope (cloFrom X.env.cells scope.names []) pm (.ref cc) ctv) ⟨[], []⟩ = pure [])
    (tk : Takes ((cxOf CXg X.prog X.w X.K X.mg X.base Ng qg sg g cdg X.A X.stack s H Eg).tr pn xe) W) (hr : Room (k + 1) (X.A.deeper (envOfC qg sg s.heap.objs.size g cdg)))
    (hbody : ∀ (A : Around) (outer : List Env) (s' : Shared) (H' : Hp) (E : XK), Room k (A.deeper (LamX.lamEnv X scope s'.heap.objs.size fn cc)) → A.guards = X.A.guards → PE (LamX.lamCx X A outer s' H' E scope fn cc) body (tb E))
    (hN : Ng[i]? = some a) (hv : Vis sg a) (hd : (a == ("__debug__" : Str)) = false := by decide) (hcd : (a == ("__classdict__" : Str)) = false := by decide) :
    PE ((cxOf CXg X.prog X.w X.K X.mg X.base Ng qg sg g cdg X.A X.stack s H Eg).tr pn xe) (.Call (.Name a p1) [] [] p2) (tAct i fn cc (X.env.qual ++ "<lambda>") (fun E H' Q' => tb E σ H' Q') W) := by
  refine ⟨fun pinsZ sZ σZ HZ Q IZ want => ?_⟩
  obtain ⟨at_i, at_c, E, toW, told⟩ := want
  refine wpAny_Call_Name_kw (thn ((pe_var (pos := p1) (i := i) hN hv hd hcd).run pinsZ sZ σZ HZ (fun v H1 => v = .ref fn ∧ H1 = HZ) IZ ⟨.ref fn, at_i, rfl, rfl⟩) fun u s1 got => ?_)
  obtain ⟨v, H1, J1, rv, ev, eH⟩ := got
  subst ev
  subst eH
  obtain rfl : u = Value.ref fn := rv
  have stands := J1.base.keep fn _ hf nfn frn (fun z => nomatch (show fn ∈ ([] : List Addr) from z))
  refine PySem.W.callWith_F0 ⟨_, _, _, _, stands⟩ ?_
  have kept : Un (frs X.stack) [] H H1 s.heap s1.heap := J1.base
  obtain ⟨⟨ob, us, tk1, g1, g2, g3⟩, _, _⟩ := J1.hok cc _ at_c
  have runs : codeAny (model X.prog X.w) (X.A.deeper (envOfC qg sg s.heap.objs.size g cdg)) (.call (.ref fn) ⟨[], []⟩) (CR (L2.CX X.prog X.w) (envOfC qg sg s.heap.objs.size g cdg :: X.stack) X.prog X.w H1 s1 Q E) s1 := by
    refine PySem.W.kla_callFunE hr.depth stands rfl L.co L.gen rfl ⟨cc, ob, us, tk1, rfl, g1, g2, g3⟩ ?_
    rw [hbind]
    refine wpAny_pure (wpAny_newFunctionEnv (fun y hy => (L.own y hy).2) (fun y hy => absurd hy (by simp)) (fun h₂ names sub => ⟨J1.nolimit.fresh _ sub, ?_⟩) L.kind)
    show codeAny _ _ (.expr body (LamX.lamEnv X scope s1.heap.objs.size fn cc)) _ _
    have old : ∀ b o, s1.heap.get? b = some o → h₂.get? b = some o := fun b o e => sub.extBut b o (Nat.ne_of_lt (Heap.lt_size e)) (Heap.get?_push_of_some _ e)
    have J : Inv (LamX.lamCx X (X.A.deeper (envOfC qg sg s.heap.objs.size g cdg)) (envOfC qg sg s.heap.objs.size g cdg :: X.stack) s1 H1 E scope fn cc) [] σ H1 { s1 with heap := h₂, toks := s1.toks + ([] : List (Str × Value)).length } := LamX.lam_start2 I L J1.env0 hr.hd kept names old
    refine PySem.W.kla_codeExpr (wpAny_mono ((hbody _ _ s1 H1 E (hr.deeper _) rfl).run [] _ _ H1 Q J told) (fun v s' hq => hq.elim fun w' z => z.elim fun H' z => ⟨w', H', z.1.os, z.1.bare, z.1.base, z.1.hok, z.2.1, z.2.2⟩) fun e s' hq => hq)
  refine wpAny_call (codeAny_mono runs fun r s' hq => ?_)
  cases r with
  | error e => exact tk e s' (XE.of_call J1 (fun cls d H' h => toW cls d H' h) hq)
  | ok fl =>
    cases fl with
    | ret u => exact J1.after hq
    | next => exact hq.elim
    | brk => exact hq.elim
    | cont => exact hq.elim
/-- the def that calls what it got, by its body; TT: what it makes of the lambda's reading -/
def Gives (X : Cx) (Ng : List Str) (x : Str) (sg : Scope) (g : Addr) (cdg : Value) (bg : List Stmt) (a : Str) (q : Str) (k : Nat) (TT : (XK → Hp → VK → Prop) → Hp → VK → Prop) : Prop :=
  ∀ (fn cc : Addr) (s : Shared) (H : Hp) (Q : VK) (tl : XK → Hp → VK → Prop), Room (k + 1) (X.A.deeper (envOfC x sg s.heap.objs.size g cdg)) →
    (∀ (W : WX) (pn : List (Addr × Obj)) (xe : Value → Shared → Prop) (p1 p2 : Pos), Takes ((cxOf CX0 X.prog X.w X.K X.mg X.base Ng x sg g cdg X.A X.stack s H C8.E0).nox.tr pn xe) W →
      PE ((cxOf CX0 X.prog X.w X.K X.mg X.base Ng x sg g cdg X.A X.stack s H C8.E0).nox.tr pn xe) (.Call (.Name a p1) [] [] p2) (tAct 0 fn cc q tl W)) →
    H cc = some (LamX.CodeO cc q) → TT tl H Q →
    ∃ t, PSs (cxOf CX0 X.prog X.w X.K X.mg X.base Ng x sg g cdg X.A X.stack s H C8.E0).nox bg t ∧ t { nx := fun _ H' => Q .non H', rt := Q } (L2.start Ng [.ref fn]) H
end
section
variable {X : Cx}
/-- x(lambda: body) -/
theorem pe_lam {T : List (Addr × Str)} {TT : (XK → Hp → VK → Prop) → Hp → VK → Prop} {x a : Str} {g c P : Addr} {k : Nat} {st : Stmt} {fd : FuncData} {Ng : List Str} {params : Arguments} {body : Expr} {scope : Scope} {t : XK → TE} {p lpos pos : Pos}
    (F : Fun X.K x x st g fd) (hb : L2.Binds X.K fd [a] []) (Sg : FnScope Ng [a] (defScope st)) (hg : Gl X x) (hm : X.mg x = some (.ref g)) (hNg : Ng[0]? = some a) (hva : Vis (defScope st) a)
    (hG : ∀ cdv : Value, Gives X Ng x (defScope st) g cdv (defBody st) a (X.env.qual ++ "<lambda>") k TT)
    (TB : LamX.TabB X.base X.mg c P) (hcode : X.env.code = .ref c) (hmT : (P, X.env.qual ++ "<lambda>") ∈ T) (hu : ∀ p ∈ T, p.1 = P → p.2 = X.env.qual ++ "<lambda>") (hr : Room (k + 2) X.A) (L : LamX.LamS X.env.scope scope) (hdef : defaultsOf params X.env = ([], []))
    (hbind : ∀ (q : Str) (cl : List (Str × Addr)) (pm cv ctv : Value), bindArgs (PySem.W.kla_fn "<lambda>" q params body scope cl pm cv ctv) ⟨[], []⟩ = pure [])
    (hbody : ∀ (A : Around) (outer : List Env) (s' : Shared) (H' : Hp) (E : XK) (fn cc : Addr), Room k (A.deeper (LamX.lamEnv X scope s'.heap.objs.size fn cc)) → A.guards = X.A.guards → PE (LamX.lamCx X A outer s' H' E scope fn cc) body (t E))
    (hdb : (x == ("__debug__" : Str)) = false := by decide) (hd : (a == ("__debug__" : Str)) = false := by decide) (hcd : (a == ("__classdict__" : Str)) = false := by decide) :
    PE X (.Call (.Name x p) [.Lambda params body scope lpos] [] pos) (LamX.tLam T TT t) := by
  refine ⟨fun pins s σ H Q I want => ?_⟩
  obtain ⟨oc, od, kV, doc, pm, an, cdv, ct, osl, rfl, lk, hcg⟩ := F.ex
  obtain ⟨tabs, told⟩ := want
  refine wpAny_Call_Name_kw (ld_glob I hg hm (PySem.W.callWith_K (h₀ := X.base) I.ok.mod.kin F.kp ?_ (by rfl) (by rfl)) hdb)
  show wpAny _ _ (spliced ((false, eval (.Lambda params body scope lpos) X.env) :: backTo pos (starEach [] X.env))) _ _ s
  refine Calls.spliced_cons (LamX.lam_make2 I TB hcode hmT hu tabs hdef (L.has I.ok) fun fn cc pm' ctv H1 s1 J ext tabs1 stands nfn frn hco => Calls.spliced_nil ⟨J.kIn, ?_⟩)
  have runs : codeAny (model X.prog X.w) X.A (.call (.ref g) ⟨[.ref fn], []⟩) (CR CX0 X.stack X.prog X.w H1 s1 Q C8.E0) s1 := by
    refine LamX.run_ofS (N := Ng) (ps := [a]) (us := [.ref fn]) (vs := [.ref fn]) lk hcg Sg hr J.env0 (hb s1 [.ref fn] J.kIn rfl) (.cons rfl .nil) rfl fun hr1 => ?_
    obtain ⟨t1, ht1, hq1⟩ := hG cdv fn cc s1 H1 Q (fun E H' Q' => t E σ H' Q') hr1 (fun W pn xe p1 p2 tk => pe_actS (CXg := CX0) (Eg := C8.E0) (i := 0) J L stands nfn frn (hbind _ _ _ _ _) tk hr1 (fun A outer s' H' E hr2 hgu => hbody A outer s' H' E fn cc hr2 hgu) hNg hva hd hcd) hco (told H1 ext tabs1)
    exact ⟨t1, ht1.nox, hq1⟩
  refine wpAny_call (codeAny_mono runs fun r s2 hq => ?_)
  cases r with
  | error e => exact (show False from hq).elim
  | ok fl =>
    cases fl with
    | ret u => exact J.after hq
    | next => exact hq.elim
    | brk => exact hq.elim
    | cont => exact hq.elim
end
end Mo

/-! ### kinds of data, counts among data of any kind, tables of code objects kept -/
namespace Mo
open PySem PySem.Spec PyProof.Rows L2
def isIntD : PyData → Bool
  | .int _ | .bool _ => true
  | _ => false
def isBoolD : PyData → Bool
  | .bool _ => true
  | _ => false
def isStrD : PyData → Bool
  | .str _ => true
  | _ => false
def isTupD : PyData → Bool
  | .tuple _ => true
  | _ => false
theorem kit_int : ∀ d : PyData, kitB (tyD d) "int" = some (isIntD d)
  | .none => by show kitB "NoneType" "int" = some false; decide +kernel
  | .bool _ => by show kitB "bool" "int" = some true; decide +kernel
  | .int _ => by show kitB "int" "int" = some true; decide +kernel
  | .str _ => by show kitB "str" "int" = some false; decide +kernel
  | .list _ => by show kitB "list" "int" = some false; decide +kernel
  | .tuple _ => by show kitB "tuple" "int" = some false; decide +kernel
  | .dict _ => by show kitB "dict" "int" = some false; decide +kernel
theorem kit_bool : ∀ d : PyData, kitB (tyD d) "bool" = some (isBoolD d)
  | .none => by show kitB "NoneType" "bool" = some false; decide +kernel
  | .bool _ => by show kitB "bool" "bool" = some true; decide +kernel
  | .int _ => by show kitB "int" "bool" = some false; decide +kernel
  | .str _ => by show kitB "str" "bool" = some false; decide +kernel
  | .list _ => by show kitB "list" "bool" = some false; decide +kernel
  | .tuple _ => by show kitB "tuple" "bool" = some false; decide +kernel
  | .dict _ => by show kitB "dict" "bool" = some false; decide +kernel
theorem kit_str : ∀ d : PyData, kitB (tyD d) "str" = some (isStrD d)
  | .none => by show kitB "NoneType" "str" = some false; decide +kernel
  | .bool _ => by show kitB "bool" "str" = some false; decide +kernel
  | .int _ => by show kitB "int" "str" = some false; decide +kernel
  | .str _ => by show kitB "str" "str" = some true; decide +kernel
  | .list _ => by show kitB "list" "str" = some false; decide +kernel
  | .tuple _ => by show kitB "tuple" "str" = some false; decide +kernel
  | .dict _ => by show kitB "dict" "str" = some false; decide +kernel
theorem kit_tup : ∀ d : PyData, kitB (tyD d) "tuple" = some (isTupD d)
  | .none => by show kitB "NoneType" "tuple" = some false; decide +kernel
  | .bool _ => by show kitB "bool" "tuple" = some false; decide +kernel
  | .int _ => by show kitB "int" "tuple" = some false; decide +kernel
  | .str _ => by show kitB "str" "tuple" = some false; decide +kernel
  | .list _ => by show kitB "list" "tuple" = some false; decide +kernel
  | .tuple _ => by show kitB "tuple" "tuple" = some true; decide +kernel
  | .dict _ => by show kitB "dict" "tuple" = some false; decide +kernel
def plainD (d : PyData) : Bool := isIntD d && !isBoolD d
/-- a question about data -/
def spAsk (f : PyData → Bool) : Sp := fun vs H Q _ => ∃ (N : Addr → Prop) (x : V) (d : PyData), vs = [x] ∧ Dx N H x d ∧ d.bulk ≤ 1000000 ∧ ∀ H', Same H H' → Q (.bl (f d)) H'
theorem plain_int : ∀ {N : Addr → Prop} {H : Hp} {x : V} {d : PyData}, Dx N H x d → plainD d = true → ∃ i : Int, x = .int i ∧ d = .int i := by
  intro N H x d h e
  cases h with
  | int i => exact ⟨i, rfl, rfl⟩
  | _ => exact absurd (show false = true from e) (by decide)
def isListD : PyData → Bool
  | .list _ => true
  | _ => false
def isDictD : PyData → Bool
  | .dict _ => true
  | _ => false
theorem kit_list : ∀ d : PyData, kitB (tyD d) "list" = some (isListD d)
  | .none => by show kitB "NoneType" "list" = some false; decide +kernel
  | .bool _ => by show kitB "bool" "list" = some false; decide +kernel
  | .int _ => by show kitB "int" "list" = some false; decide +kernel
  | .str _ => by show kitB "str" "list" = some false; decide +kernel
  | .list _ => by show kitB "list" "list" = some true; decide +kernel
  | .tuple _ => by show kitB "tuple" "list" = some false; decide +kernel
  | .dict _ => by show kitB "dict" "list" = some false; decide +kernel
/-- an integer from a to b -/
def cntB (a b : Int) : PyData → Bool
  | .int i => decide (a ≤ i) && decide (i ≤ b)
  | _ => false
/-- check_count: nothing, or InvalidCount with the very value -/
def spCnt (C : Addr) : Sp := fun vs H Q E => ∃ (N : Addr → Prop) (x : V) (d : PyData) (a b : Int), vs = [x, .int a, .int b] ∧ Dx N H x d ∧ d.bulk ≤ 1000000 ∧ (cntB a b d = true → ∀ H', Same H H' → Q .non H') ∧
  (cntB a b d = false → ∀ dd H', H dd = none → Same H H' → H' dd = some (.xd [("value", x)]) → E (.ref C) (some dd) H')
theorem cnt_no {a b : Int} {d : PyData} (h : plainD d = false) : cntB a b d = false := by
  cases d <;> first | rfl | exact absurd (show true = false from h) (by decide)
/-! more written data -/
theorem lit_negE {te : TE} {i : Int} (h : LitE te (.int i)) : LitE (tUn (rU fun i => .int (-i)) te) (.int (-i)) := fun σ H Q q => h σ H _ fun H' v s hv => by
  cases hv
  exact ⟨i, rfl, q _ _ s (.int _)⟩
/-! nothing is changed but tables -/
mutual
theorem Dx.tabs {N : Addr → Prop} {H H' : Hp} (s : LamX.ExtN H H') : ∀ {v : V} {d : PyData}, Dx N H v d → Dx N H' v d
  | _, _, .non => .non
  | _, _, .bl b => .bl b
  | _, _, .int i => .int i
  | _, _, .str x => .str x
  | _, _, .lst h n a => .lst (s _ _ h (fun _ z => nomatch z)) n (DxAll.tabs s a)
  | _, _, .tup h n a => .tup (s _ _ h (fun _ z => nomatch z)) n (DxAll.tabs s a)
  | _, _, .dct h n a => .dct (s _ _ h (fun _ z => nomatch z)) n (DxAll.tabs s a)
theorem DxAll.tabs {N : Addr → Prop} {H H' : Hp} (s : LamX.ExtN H H') : ∀ {v : List V} {d : List PyData}, DxAll N H v d → DxAll N H' v d
  | _, _, .nil => .nil
  | _, _, .cons a b => .cons (Dx.tabs s a) (DxAll.tabs s b)
end
theorem Tabs.same {T : List (Addr × Str)} {H H' : Hp} (t : LamX.Tabs T H) (s : Same H H') : LamX.Tabs T H' := t.ext s
theorem Tabs.but {T : List (Addr × Str)} {H H' : Hp} {d : Addr} {kvs : List (Key × V)} (t : LamX.Tabs T H) (hd : H d = some (.dK kvs)) (s : But d H H') : LamX.Tabs T H' := fun p hp => by
  obtain ⟨ps, h1, h2, h3⟩ := t p hp
  refine ⟨ps, s _ _ (fun z => ?_) h1, h2, fun pos cv hc => ?_⟩
  · rw [z, hd] at h1
    cases h1
  · obtain ⟨c, e1, e2⟩ := h3 pos cv hc
    refine ⟨c, e1, s _ _ (fun z => ?_) e2⟩
    rw [z, hd] at e2
    cases e2
theorem tabs_nil {H : Hp} {P : Addr} {q : Str} (h : H P = some (.tbl #[])) : LamX.Tabs [(P, q)] H := fun p hp => by
  rw [List.mem_singleton.mp hp]
  exact LamX.TabS.nil h
end Mo
namespace Mo
open PySem PySem.Spec PyProof.Rows L2
/-- while, by a word and a measure; the test's own reading told as it stands -/
theorem while_raw {c : TT} {tb : TS} {D : Ends} {σ : L2.St} {H : Hp} (Pv : L2.St → Hp → Prop) (μ : L2.St → Hp → Nat) (h0 : Pv σ H)
    (hs : ∀ σ H, Pv σ H → c σ H fun b H1 => if b = true then ∃ N : L2.St → Hp → Prop, (∀ σ' H', N σ' H' → ∃ m', m' < μ σ H ∧ m' = μ σ' H' ∧ Pv σ' H') ∧ tb { D with nx := N, ct := N, bk := D.nx } σ H1 else D.nx σ H1) : tWhile c tb D σ H :=
  ⟨fun m σ H => m = μ σ H ∧ Pv σ H, ⟨_, rfl, h0⟩, fun m σ H p => by
    obtain ⟨rfl, p⟩ := p
    exact hs σ H p⟩
/-- an odd value: small, and no integer from 0 on -/
structure OddD (e : PyData) : Prop where
  fit : Fit 30 100 3 e
  no : ∀ a b : Int, 0 ≤ a → cntB a b e = false
theorem fitI {B W D : Nat} {i : Int} (h : i.natAbs < 10 ^ B) (hW : 1 ≤ W) : Fit B W D (.int i) := ⟨by simp only [okD]; exact h, by simp only [PyData.bulk]; exact Nat.zero_le _, by simp only [PyData.depth]; exact Nat.zero_le _⟩
theorem odd_neg {i : Int} (h : i.natAbs < 10 ^ 30) (hn : i < 0) : OddD (.int i) := ⟨fitI h (by decide), fun a b ha => by
  show (decide (a ≤ i) && decide (i ≤ b)) = false
  rw [decide_eq_false (show ¬ a ≤ i by omega)]
  rfl⟩
theorem odd_bl (b : Bool) : OddD (.bool b) := ⟨⟨by simp [okD], by simp [PyData.bulk], by simp [PyData.depth]⟩, fun _ _ _ => rfl⟩
theorem odd_non : OddD .none := ⟨⟨by simp [okD], by simp [PyData.bulk], by simp [PyData.depth]⟩, fun _ _ _ => rfl⟩
theorem odd_str {x : Str} (h : ∀ c ∈ x.cps.toList, c < 128) (hl : x.cps.size ≤ 50) : OddD (.str x) := ⟨⟨by simp only [okD]; exact h, by simp only [PyData.bulk]; omega, by simp [PyData.depth]⟩, fun _ _ _ => rfl⟩
theorem odd_tup1 {i : Int} (h : i.natAbs < 10 ^ 30) : OddD (.tuple [.int i]) := ⟨(FitAll.tup (fitI (W := 1) (D := 0) h (by decide)).one).mono (by decide) (by decide) (by decide), fun _ _ _ => rfl⟩
theorem odd_lst1 {i : Int} (h : i.natAbs < 10 ^ 30) : OddD (.list [.int i]) := ⟨(FitAll.lst (fitI (W := 1) (D := 0) h (by decide)).one).mono (by decide) (by decide) (by decide), fun _ _ _ => rfl⟩
theorem odd_dct : OddD (.dict []) := ⟨⟨by simp [okD, okKv], by simp [PyData.bulk, PyData.bulkKv], by simp [PyData.depth, PyData.depthKv]⟩, fun _ _ _ => rfl⟩
/-- what was new when the old heap was H0, d being old: nothing of it is at d -/
theorem Dx.keep {H0 H H' : Hp} {d : Addr} {v : V} {e : PyData} (h : Dx (Was H0) H v e) (hd : H0 d ≠ none) (b : But d H H') : Dx (fun x => x = d) H' v e :=
  (h.but fun x o nx hx => b x o (fun z => nx (by rw [z]; exact hd)) hx).more fun x _ z => by rw [z]; exact hd
theorem Dx.pen {H H' : Hp} {d : Addr} {v : V} {e : PyData} (h : Dx (fun x => x = d) H v e) (b : But d H H') : Dx (fun x => x = d) H' v e := h.but fun x o nx hx => b x o nx hx
end Mo

namespace Mo
open PySem PySem.Spec PyProof.Rows L2
section
variable {K : PySem.W.Frag}
theorem intsDp {H : Hp} : ∀ ns : List Int, DpAll K H (ns.map V.int) (ns.map PyData.int)
  | [] => .nil
  | n :: ns => .cons (.int n) (intsDp ns)
theorem tupI_dat {H : Hp} {p : Addr} {ns : List Int} (h : H p = some (.tup (ns.map V.int))) : Dat K H (.ref p) (.tuple (ns.map PyData.int)) := .inl (.tup (SqT.of h) (intsDp ns))
theorem lstI_dat {H : Hp} {p : Addr} {ns : List Int} (h : H p = some (.lst (ns.map V.int))) : Dat K H (.ref p) (.list (ns.map PyData.int)) := .inl (.lst (SqL.of h) (intsDp ns))
theorem ints_fitAll {B : Nat} : ∀ {ns : List Int}, (∀ n ∈ ns, n.natAbs < 10 ^ B) → FitAll B (2 * ns.length) 0 (ns.map PyData.int)
  | [], _ => ⟨trivial, Nat.le_refl _, Nat.le_refl _⟩
  | n :: ns, h => by
    have ih := ints_fitAll (B := B) (ns := ns) fun x hx => h x (List.mem_cons_of_mem _ hx)
    refine ⟨?_, ?_, ?_⟩
    · simp only [List.map_cons, okAll]
      exact ⟨by simp only [okD]; exact h n (List.mem_cons_self ..), ih.ok⟩
    · have := ih.bulk
      simp only [List.map_cons, PyData.bulkAll, PyData.bulk, List.length_cons]
      omega
    · have := ih.deep
      simp only [List.map_cons, PyData.depthAll, PyData.depth]
      omega
theorem tupI_repr {ns : List Int} (h : ∀ n ∈ ns, n.natAbs < 10 ^ 20) (hl : ns.length ≤ 100000) : (PyData.tuple (ns.map PyData.int)).showable = true ∧ (PyData.tuple (ns.map PyData.int)).depth ≤ 40 ∧ (PyData.tuple (ns.map PyData.int)).shown.length ≤ sizeLine :=
  ((ints_fitAll h).tup).repr (by decide) (by decide) (by omega) (by decide)
theorem lstI_repr {ns : List Int} (h : ∀ n ∈ ns, n.natAbs < 10 ^ 20) (hl : ns.length ≤ 100000) : (PyData.list (ns.map PyData.int)).showable = true ∧ (PyData.list (ns.map PyData.int)).depth ≤ 40 ∧ (PyData.list (ns.map PyData.int)).shown.length ≤ sizeLine :=
  ((ints_fitAll h).lst).repr (by decide) (by decide) (by omega) (by decide)
end
end Mo

namespace Mo
open PySem PySem.Spec PyProof.Rows L2
theorem ints_dx {N : Addr → Prop} {H : Hp} : ∀ ns : List Int, DxAll N H (ns.map V.int) (ns.map PyData.int)
  | [] => .nil
  | n :: r => .cons (.int n) (ints_dx r)
theorem tupI_dx {H : Hp} {p : Addr} {ns : List Int} (h : H p = some (.tup (ns.map V.int))) : Dx (fun _ => False) H (.ref p) (.tuple (ns.map PyData.int)) := .tup h (fun z => z) (ints_dx ns)
theorem same_ne (x : V) : V.bl (!decide (x = x)) = V.bl false := by simp
theorem same_eq (x : V) : V.bl (decide (x = x)) = V.bl true := by simp
/-- two equal tuples of flat values are not unlike -/
theorem neFl_self {K : PySem.W.Frag} {H : Hp} {p r : Addr} {xs : List V} {Q : VK} (hp : H p = some (.tup xs)) (hr : H r = some (.tup xs)) (hf : xs.all flatV = true) (q : Q (.bl false) H) : rNeFl K (.ref p) (.ref r) H Q :=
  ⟨xs, xs, ⟨p, r, rfl, rfl, hf, hf, .inr ⟨SqT.of hp, SqT.of hr⟩⟩, by rw [eqLs_self hf]; exact q⟩
theorem eqFl_self {K : PySem.W.Frag} {H : Hp} {p r : Addr} {xs : List V} {Q : VK} (hp : H p = some (.tup xs)) (hr : H r = some (.tup xs)) (hf : xs.all flatV = true) (q : Q (.bl true) H) : rEqFl K (.ref p) (.ref r) H Q :=
  ⟨xs, xs, ⟨p, r, rfl, rfl, hf, hf, .inr ⟨SqT.of hp, SqT.of hr⟩⟩, by rw [eqLs_self hf]; exact q⟩
theorem cnt_abs {a b : Int} {N : Addr → Prop} {H : Hp} {i : Int} {e : PyData} (h : Dx N H (.int i) e) (hn : cntB a b e = false) (h1 : a ≤ i) (h2 : i ≤ b) : False := by
  cases h
  have z : (decide (a ≤ i) && decide (i ≤ b)) = false := hn
  rw [decide_eq_true h1, decide_eq_true h2] at z
  cases z
theorem cnt_out {a b i : Int} (h : i < a ∨ b < i) : cntB a b (.int i) = false := by
  show (decide (a ≤ i) && decide (i ≤ b)) = false
  rcases h with h | h
  · rw [decide_eq_false (show ¬ a ≤ i by omega)]
    rfl
  · rw [decide_eq_false (show ¬ i ≤ b by omega), Bool.and_false]
/-- where a dict d is and the tables, what the lambda leaves -/
theorem ext_at {H H' : Hp} (s : LamX.ExtN H H') {b : Addr} {o : HO} (h : H b = some o) (n : ∀ ps, o ≠ .tbl ps) : H' b = some o := s b o h n
end Mo

/-! ### texts among data of any kind -/
namespace Mo
open PySem PySem.Spec PyProof.Rows L2
theorem bulk_mem : ∀ {ds : List PyData} {d : PyData}, d ∈ ds → d.bulk ≤ PyData.bulkAll ds
  | x :: ds, d, h => by
    simp only [PyData.bulkAll]
    rcases List.mem_cons.mp h with rfl | h
    · omega
    · have := bulk_mem h
      omega
theorem bulk_len (a : List PyData) : a.length ≤ PyData.bulkAll a := by
  induction a with
  | nil => exact Nat.zero_le _
  | cons x a ih =>
    simp only [PyData.bulkAll, List.length_cons]
    omega
theorem tup_dx : ∀ {N : Addr → Prop} {H : Hp} {x : V} {d : PyData}, Dx N H x d → isTupD d = true → ∃ a xs ds, x = .ref a ∧ d = .tuple ds ∧ H a = some (.tup xs) ∧ ¬ N a ∧ DxAll N H xs ds := by
  intro N H x d h e
  cases h with
  | tup h n t => exact ⟨_, _, _, rfl, rfl, h, n, t⟩
  | _ => exact absurd (show false = true from e) (by decide)
theorem str_dx : ∀ {N : Addr → Prop} {H : Hp} {x : V} {d : PyData}, Dx N H x d → isStrD d = true → ∃ cs : List Nat, x = .str (tx cs) ∧ d = .str (tx cs) := by
  intro N H x d h e
  cases h with
  | str z => exact ⟨z.cps.toList, rfl, rfl⟩
  | _ => exact absurd (show false = true from e) (by decide)
theorem notTup {d : PyData} (h : isTupD d = false) : textD d = false := by
  cases d <;> first | rfl | exact absurd (show true = false from h) (by decide)
/-- check_text: nothing, or InvalidText with the very value -/
def spChkT (C : Addr) : Sp := fun vs H Q E => ∃ (N : Addr → Prop) (x : V) (d : PyData), vs = [x] ∧ Dx N H x d ∧ d.bulk ≤ 1000000 ∧ (textD d = true → ∀ H', Same H H' → Q .non H') ∧
  (textD d = false → ∀ dd H', H dd = none → Same H H' → H' dd = some (.xd [("value", x)]) → E (.ref C) (some dd) H')
theorem text_ints {ns : List Int} (h : ∀ n ∈ ns, 0 ≤ n ∧ n ≤ 999999) (hl : ns.length ≤ 4096) : textD (.tuple (ns.map PyData.int)) = true := by
  show (decide ((ns.map PyData.int).length ≤ 4096) && (ns.map PyData.int).all letterD) = true
  rw [decide_eq_true (by rw [List.length_map]; exact hl), Bool.true_and, List.all_eq_true]
  intro d hd
  obtain ⟨n, hn, rfl⟩ := List.mem_map.mp hd
  show (decide (0 ≤ n) && decide (n ≤ 999999)) = true
  rw [decide_eq_true (h n hn).1, decide_eq_true (h n hn).2]
  rfl
theorem bulk_ints (ns : List Int) : PyData.bulkAll (ns.map PyData.int) = ns.length := by
  induction ns with
  | nil => rfl
  | cons n r ih =>
    rw [List.map_cons]
    simp only [PyData.bulkAll, PyData.bulk, List.length_cons]
    omega
end Mo
namespace Mo
open PySem PySem.Spec PyProof.Rows L2
/-- an error of the class C with the field f, value x, is let out -/
def Errs (C : Addr) (f : Str) (x : V) (H : Hp) (E : XK) : Prop := ∀ dd H', H dd = none → Same H H' → H' dd = some (.xd [(f, x)]) → E (.ref C) (some dd) H'
theorem Errs.same {C : Addr} {f : Str} {x : V} {H H1 : Hp} {E : XK} (h : Errs C f x H E) (s : Same H H1) : Errs C f x H1 E := fun dd H' nd s2 hd => h dd H' (s.free nd) (s.trans s2) hd
end Mo
namespace Mo
open PySem PySem.Spec PyProof.Rows L2
/-- a method of a list within a try: the reading names K itself -/
theorem pe_appK {X : Cx} {K : PySem.W.Frag} {o e : Expr} {to : TE} {t : TA} {apos cpos : Pos} (hK : X.K = K) (ho : PE X o to) (ha : PA X [e] t)
    (hbase : attributeBase o "append" X.env (eval o X.env) = eval o X.env := by rfl) (hfew : ((backTo cpos (starEach [e] X.env)).all (fun x => !x.1) && (backToKw cpos (keywordEach [] X.env)).all (fun x => x.1.isSome) && decide (([e] : List Expr).length + ([] : List Keyword).length + (if ([] : List Keyword).isEmpty then 0 else 1) < 30)) = true := by rfl)
    (hline : (apos.endLine == cpos.line) = true := by rfl) (hs : starEach [e] X.env = (false, eval e X.env) :: starEach [] X.env := by rfl) (hplain : (backTo cpos (starEach [] X.env)).any (·.1) = false := by rfl) :
    PE X (.Call (.Attribute o "append" apos) [e] [] cpos) (tBM K "list" rAppend to t) := by
  subst hK
  exact pe_bm PySem.F.plainAttrs_list PySem.F.slot_list_append PySem.F.type_list_append mt_append ho ha hbase hfew hline hs hplain
end Mo

/-! ### lists of texts, written texts, pens and tables -/
namespace Mo
open PySem PySem.Spec PyProof.Rows L2
theorem Src.here {H : Hp} {d c : Addr} {t : Nat} (h : Src H d c t) : H d ≠ none := by
  obtain ⟨_, _, h, _⟩ := h
  rw [h]
  exact Option.some_ne_none _
theorem Src.tabs {H H' : Hp} {d c : Addr} {t : Nat} (h : Src H d c t) (s : LamX.ExtN H H') : Src H' d c t := by
  obtain ⟨ns, r, h1, h2, h3⟩ := h
  exact ⟨ns, r, s _ _ h1 (fun _ z => nomatch z), s _ _ h2 (fun _ z => nomatch z), h3⟩
theorem Src.dict {H : Hp} {d c : Addr} {t : Nat} (h : Src H d c t) : ∃ kvs, H d = some (.dK kvs) := by
  obtain ⟨ns, r, h1, _⟩ := h
  exact ⟨_, h1⟩
theorem Src.tab {T : List (Addr × Str)} {H H' : Hp} {d c : Addr} {t : Nat} (h : Src H d c t) (tb : LamX.Tabs T H) (b : But d H H') : LamX.Tabs T H' := h.dict.elim fun _ e => Tabs.but tb e b
theorem Tabs.put {T : List (Addr × Str)} {H : Hp} {l : Addr} {xs : List V} {o : HO} (t : LamX.Tabs T H) (hl : H l = some (.lst xs)) : LamX.Tabs T (upd H l o) := fun p hp => by
  obtain ⟨ps, h1, h2, h3⟩ := t p hp
  have n1 : p.1 ≠ l := fun z => by
    rw [z, hl] at h1
    cases h1
  refine ⟨ps, by rw [upd_ne n1]; exact h1, h2, fun pos cv hc => ?_⟩
  obtain ⟨c, e1, e2⟩ := h3 pos cv hc
  have n2 : c ≠ l := fun z => by
    rw [z, hl] at e2
    cases e2
  exact ⟨c, e1, by rw [upd_ne n2]; exact e2⟩
def nat2 (ns : List Nat) : List Int := ns.map fun n : Nat => (n : Int)
theorem nat2_len (ns : List Nat) : (nat2 ns).length = ns.length := List.length_map ..
/-- letters as they may be, in a text as long as it may be -/
def Okn (ns : List Nat) : Prop := (∀ n ∈ ns, n ≤ 999999) ∧ ns.length ≤ 4096
/-- v is a text -/
def TxtAt (H : Hp) (v : V) : Prop := ∃ (p : Addr) (ns : List Nat), v = .ref p ∧ H p = some (.tup ((nat2 ns).map V.int)) ∧ Okn ns
theorem TxtAt.same {H H' : Hp} {v : V} (h : TxtAt H v) (s : Same H H') : TxtAt H' v := h.elim fun p z => z.elim fun ns z => ⟨p, ns, z.1, s _ _ z.2.1, z.2.2⟩
theorem TxtAt.tabs {H H' : Hp} {v : V} (h : TxtAt H v) (s : LamX.ExtN H H') : TxtAt H' v := h.elim fun p z => z.elim fun ns z => ⟨p, ns, z.1, s _ _ z.2.1 (fun _ z => nomatch z), z.2.2⟩
theorem TxtAt.but {H H' : Hp} {v : V} {d c : Addr} {t : Nat} (h : TxtAt H v) (src : Src H d c t) (s : But d H H') : TxtAt H' v := by
  obtain ⟨p, ns, e, hp, ok⟩ := h
  obtain ⟨kvs, hd⟩ := src.dict
  exact ⟨p, ns, e, s _ _ (ne_of hp hd (by intro z; cases z)) hp, ok⟩
theorem TxtAt.put {H : Hp} {v : V} {l : Addr} {xs : List V} {o : HO} (h : TxtAt H v) (hl : H l = some (.lst xs)) : TxtAt (upd H l o) v := by
  obtain ⟨p, ns, e, hp, ok⟩ := h
  exact ⟨p, ns, e, by rw [upd_ne (ne_of hp hl (by intro z; cases z))]; exact hp, ok⟩
theorem dx_ints {N : Addr → Prop} {H : Hp} : ∀ {xs : List V} {ns : List Int}, DxAll N H xs (ns.map PyData.int) → xs = ns.map V.int
  | [], [], _ => rfl
  | [], _ :: _, h => nomatch h
  | _ :: _, [], h => nomatch h
  | x :: xs, n :: ns, .cons a b => by
    cases a
    rw [dx_ints b]
    rfl
theorem txt_of {N : Addr → Prop} {H : Hp} {v : V} {ns : List Nat} (h : Dx N H v (.tuple ((nat2 ns).map PyData.int))) (ok : Okn ns) : TxtAt H v := by
  obtain ⟨a, xs, e, ha, _, hx⟩ := tpl_dx h
  rw [dx_ints hx] at ha
  exact ⟨a, ns, e, ha, ok⟩
/-- t * n, written -/
theorem dx_rep {N : Addr → Prop} {H : Hp} {xs : List V} {ds : List PyData} (h : DxAll N H xs ds) : ∀ n : Nat, DxAll N H (List.replicate n xs).flatten (List.replicate n ds).flatten
  | 0 => .nil
  | n + 1 => by
    rw [List.replicate_succ, List.replicate_succ, List.flatten_cons, List.flatten_cons]
    exact h.append (dx_rep h n)
def repD (n : Nat) (ds : List PyData) : PyData := .tuple (List.replicate n ds).flatten
theorem lit_rep {K : PySem.W.Frag} {te : TE} {ds : List PyData} {i : Int} (n : Nat) (h : LitE te (.tuple ds)) (hi : i = (n : Int)) (hne : ds ≠ []) (hl : ds.length ≤ 10) (h2 : 2 ≤ n) (hn : n ≤ 100000) : LitE (tOp (rRepN K) te (tC (.int i))) (repD n ds) := fun σ H Q q => h σ H _ fun H1 v s1 hv => by
  obtain ⟨a, xs, rfl, ha, na, hx⟩ := tpl_dx hv
  have el := hx.length
  subst hi
  refine ⟨a, n, xs, rfl, rfl, SqT.of ha, fun z => ?_, h2, hn, by omega, fun p np => ?_⟩
  · rw [z] at el
    exact hne (List.eq_nil_of_length_eq_zero el.symm)
  · have s2 := same_new (o := .tup (List.replicate n xs).flatten) np
    exact q _ _ (s1.trans s2) (.tup upd_same (fun z => z (s1.free np)) (dx_rep (hx.same s2) n))
/-- (x,) * i, written -/
theorem lit_rep1 {K : PySem.W.Frag} {x i : Int} (h : 2 ≤ i ∧ i ≤ 100000) : LitE (tOp (rRepN K) (tTup (tCons (tC (.int x)) tNil)) (tC (.int i))) (repD i.toNat [.int x]) :=
  lit_rep i.toNat (lit_tup (lit_cons lit_int lit_nil) (by show 1 ≤ 1000; decide)) (by omega) (fun z => by cases z) (by show 1 ≤ 10; decide) (by omega) (by omega)
theorem rep_one {α : Type} (x : α) : ∀ n : Nat, (List.replicate n [x]).flatten = List.replicate n x
  | 0 => rfl
  | n + 1 => by
    rw [List.replicate_succ, List.flatten_cons, rep_one x n, List.replicate_succ]
    rfl
theorem rep_nat2 (n k : Nat) : (List.replicate n [PyData.int ((k : Nat) : Int)]).flatten = (nat2 (List.replicate n k)).map PyData.int := by
  rw [rep_one, nat2, List.map_replicate, List.map_replicate]
theorem repD_nat2 (n k : Nat) : repD n [PyData.int ((k : Nat) : Int)] = .tuple ((nat2 (List.replicate n k)).map PyData.int) := congrArg PyData.tuple (rep_nat2 n k)
theorem ok_rep {n k : Nat} (hn : n ≤ 4096) (hk : k ≤ 999999) : Okn (List.replicate n k) := ⟨fun m hm => by rw [(List.mem_replicate.mp hm).2]; exact hk, by rw [List.length_replicate]; exact hn⟩
/-! what repr says of texts and lists of one text -/
theorem txt_dx {H : Hp} {p : Addr} {ns : List Nat} (h : H p = some (.tup ((nat2 ns).map V.int))) : Dx (fun _ => False) H (.ref p) (.tuple ((nat2 ns).map PyData.int)) := tupI_dx h
theorem nat2_dig {ns : List Nat} (ok : Okn ns) : ∀ n ∈ nat2 ns, n.natAbs < 10 ^ 20 := fun n hn => by
  obtain ⟨m, hm, rfl⟩ := List.mem_map.mp hn
  have := ok.1 m hm
  omega
theorem txt_fit {ns : List Nat} (ok : Okn ns) : Fit 20 10000 1 (.tuple ((nat2 ns).map PyData.int)) := (FitAll.tup ((ints_fitAll (B := 20) (nat2_dig ok)).mono (Nat.le_refl _) (by rw [nat2_len]; have := ok.2; omega) (Nat.le_refl _)))
theorem one_fit {ns : List Nat} (ok : Okn ns) : Fit 20 10001 2 (.list [.tuple ((nat2 ns).map PyData.int)]) := FitAll.lst (txt_fit ok).one
theorem one_dx {H : Hp} {l p : Addr} {ns : List Nat} (hl : H l = some (.lst [.ref p])) (hp : H p = some (.tup ((nat2 ns).map V.int))) : Dx (fun _ => False) H (.ref l) (.list [.tuple ((nat2 ns).map PyData.int)]) := .lst hl (fun z => z) (.cons (txt_dx hp) .nil)
theorem txt_text {ns : List Nat} (ok : Okn ns) : textD (.tuple ((nat2 ns).map PyData.int)) = true := text_ints (fun n hn => by
  obtain ⟨m, hm, rfl⟩ := List.mem_map.mp hn
  have := ok.1 m hm
  omega) (by rw [nat2_len]; exact ok.2)
theorem txt_bulk {ns : List Nat} (ok : Okn ns) : (PyData.tuple ((nat2 ns).map PyData.int)).bulk ≤ 1000000 := Nat.le_trans (txt_fit ok).bulk (by decide)
theorem str_fit {cs : List Nat} (h : ∀ c ∈ cs, c < 128) (hl : cs.length ≤ 100000) : Fit 20 100000 1 (.str (tx cs)) := ⟨by simp only [okD]; exact h, by simp only [PyData.bulk]; rw [tx_size]; exact hl, by simp only [PyData.depth]; exact Nat.zero_le _⟩
end Mo

/-! ### rule sets: the mathematics -/
namespace Mo
/-- images of letters: none empty, of letters that have images -/
structure Ims (ims : List (List Nat)) : Prop where
  ne : ∀ im ∈ ims, im ≠ []
  lt : ∀ im ∈ ims, ∀ l ∈ im, l < ims.length
  few : ∀ im ∈ ims, im.length ≤ 64
  n1 : 1 ≤ ims.length
  n2 : ims.length ≤ 400
def img (ims : List (List Nat)) (l : Nat) : List Nat := ims.getD l []
/-- what a letter becomes -/
def word (ims : List (List Nat)) : Nat → Nat → List Nat
  | 0, l => [l]
  | s + 1, l => (img ims l).flatMap (word ims s)
def len (ims : List (List Nat)) (s l : Nat) : Nat := (word ims s l).length
theorem len_succ (ims : List (List Nat)) (s l : Nat) : len ims (s + 1) l = ((img ims l).map (len ims s)).sum := by
  unfold len
  show ((img ims l).flatMap (word ims s)).length = _
  rw [List.length_flatMap]
theorem img_mem {ims : List (List Nat)} {l : Nat} (h : l < ims.length) : img ims l ∈ ims := by
  unfold img
  rw [List.getD_eq_getElem?_getD, List.getElem?_eq_getElem h]
  exact List.getElem_mem h
theorem img_at {ims : List (List Nat)} {l : Nat} (h : l < ims.length) : ims[l]? = some (img ims l) := by
  unfold img
  rw [List.getD_eq_getElem?_getD, List.getElem?_eq_getElem h]
  rfl
theorem word_lt {ims : List (List Nat)} (ok : Ims ims) : ∀ (s : Nat) {l : Nat}, l < ims.length → ∀ x ∈ word ims s l, x < ims.length
  | 0, l, h, x, hx => by
    rw [List.mem_singleton.mp hx]
    exact h
  | s + 1, l, h, x, hx => by
    obtain ⟨a, ha, hx⟩ := List.mem_flatMap.mp hx
    exact word_lt ok s (ok.lt _ (img_mem h) a ha) x hx
theorem len_pos {ims : List (List Nat)} (ok : Ims ims) : ∀ (s : Nat) {l : Nat}, l < ims.length → 0 < len ims s l
  | 0, _, _ => Nat.one_pos
  | s + 1, l, h => by
    rw [len_succ]
    cases e : img ims l with
    | nil => exact absurd e (ok.ne _ (img_mem h))
    | cons a r =>
      have := len_pos ok s (ok.lt _ (img_mem h) a (by rw [e]; exact List.mem_cons_self))
      rw [List.map_cons, List.sum_cons]
      omega
/-- the last replacement -/
theorem word_last (ims : List (List Nat)) : ∀ (s l : Nat), word ims (s + 1) l = (word ims s l).flatMap (img ims)
  | 0, l => by
    show (img ims l).flatMap (fun a => [a]) = [l].flatMap (img ims)
    simp
  | s + 1, l => by
    show (img ims l).flatMap (word ims (s + 1)) = ((img ims l).flatMap (word ims s)).flatMap (img ims)
    rw [List.flatMap_assoc]
    exact congrArg (List.flatMap · (img ims l)) (funext fun a => word_last ims s a)
/-- the letter of the image that holds an index, and the index in it -/
def within (r : Nat → Nat) : List Nat → Nat → Nat × Nat
  | [], i => (0, i)
  | a :: t, i => if i < r a then (a, i) else within r t (i - r a)
def letAt (ims : List (List Nat)) : Nat → Nat → Nat → Nat
  | 0, l, _ => l
  | s + 1, l, i => letAt ims s (within (len ims s) (img ims l) i).1 (within (len ims s) (img ims l) i).2
theorem within_in {r : Nat → Nat} : ∀ {im : List Nat} {i : Nat}, i < (im.map r).sum → (within r im i).1 ∈ im ∧ (within r im i).2 < r (within r im i).1
  | [], i, h => absurd h (Nat.not_lt_zero _)
  | a :: t, i, h => by
    show (if i < r a then (a, i) else within r t (i - r a)).1 ∈ a :: t ∧ _
    by_cases c : i < r a
    · have e : within r (a :: t) i = (a, i) := if_pos c
      rw [e, if_pos c]
      exact ⟨List.mem_cons_self, c⟩
    · have e : within r (a :: t) i = within r t (i - r a) := if_neg c
      rw [e, if_neg c]
      rw [List.map_cons, List.sum_cons] at h
      obtain ⟨h1, h2⟩ := within_in (r := r) (im := t) (i := i - r a) (by omega)
      exact ⟨List.mem_cons_of_mem _ h1, h2⟩
theorem within_flat {f : Nat → List Nat} : ∀ {im : List Nat} {i : Nat}, i < (im.map fun a => (f a).length).sum → (im.flatMap f)[i]? = (f (within (fun a => (f a).length) im i).1)[(within (fun a => (f a).length) im i).2]?
  | [], i, h => absurd h (Nat.not_lt_zero _)
  | a :: t, i, h => by
    rw [List.flatMap_cons]
    by_cases c : i < (f a).length
    · have e : within (fun a => (f a).length) (a :: t) i = (a, i) := if_pos c
      rw [e, List.getElem?_append_left c]
    · have e : within (fun a => (f a).length) (a :: t) i = within (fun a => (f a).length) t (i - (f a).length) := if_neg c
      rw [List.map_cons, List.sum_cons] at h
      rw [e, List.getElem?_append_right (by omega), within_flat (by omega)]
theorem letAt_word {ims : List (List Nat)} (ok : Ims ims) : ∀ (s : Nat) {l i : Nat}, l < ims.length → i < len ims s l → (word ims s l)[i]? = some (letAt ims s l i)
  | 0, l, i, h, hi => by
    have : i = 0 := by
      have : i < 1 := hi
      omega
    subst this
    rfl
  | s + 1, l, i, h, hi => by
    rw [len_succ] at hi
    have w := within_in hi
    have f := within_flat (f := word ims s) hi
    show ((img ims l).flatMap (word ims s))[i]? = _
    rw [f]
    exact letAt_word ok s (ok.lt _ (img_mem h) _ w.1) w.2
theorem letAt_lt {ims : List (List Nat)} (ok : Ims ims) {s l i : Nat} (h : l < ims.length) (hi : i < len ims s l) : letAt ims s l i < ims.length :=
  word_lt ok s h _ (List.mem_of_getElem? (letAt_word ok s h hi))
/-- the row of s replacements -/
def rowL (ims : List (List Nat)) (s : Nat) : List Nat := (List.range ims.length).map (len ims s)
theorem rowL_at {ims : List (List Nat)} {s l : Nat} (h : l < ims.length) : (rowL ims s)[l]? = some (len ims s l) := by
  unfold rowL
  rw [List.getElem?_map, List.getElem?_range h]
  rfl
theorem rowL_len (ims : List (List Nat)) (s : Nat) : (rowL ims s).length = ims.length := by
  unfold rowL
  rw [List.length_map, List.length_range]
/-- where the image of the letter at m begins after the last replacement -/
def hereL (ims : List (List Nat)) (W : List Nat) (m : Nat) : Nat := ((W.take m).map fun a => (img ims a).length).sum
theorem last_at {ims : List (List Nat)} {W : List Nat} {m k a : Nat} (hm : W[m]? = some a) (hk : k < (img ims a).length) : (W.flatMap (img ims))[hereL ims W m + k]? = (img ims a)[k]? := by
  have hlt := (List.getElem?_eq_some_iff.mp hm).1
  have e : W = W.take m ++ a :: W.drop (m + 1) := by
    have e2 : W[m] = a := (List.getElem?_eq_some_iff.mp hm).2
    rw [← e2, ← List.drop_eq_getElem_cons hlt, List.take_append_drop]
  have hl : ((W.take m).flatMap (img ims)).length = hereL ims W m := by
    rw [List.length_flatMap]
    rfl
  have e3 : W.flatMap (img ims) = (W.take m).flatMap (img ims) ++ (img ims a ++ (W.drop (m + 1)).flatMap (img ims)) := by
    conv => lhs; rw [e]
    rw [List.flatMap_append, List.flatMap_cons]
  rw [e3, List.getElem?_append_right (by omega), hl, show hereL ims W m + k - hereL ims W m = k by omega, List.getElem?_append_left hk]
theorem here_succ {ims : List (List Nat)} {W : List Nat} {m a : Nat} (hm : W[m]? = some a) : hereL ims W (m + 1) = hereL ims W m + (img ims a).length := by
  unfold hereL
  rw [List.take_add_one, hm, List.map_append, List.sum_append]
  simp
theorem here_lt {ims : List (List Nat)} {W : List Nat} {m k a : Nat} (hm : W[m]? = some a) (hk : k < (img ims a).length) : hereL ims W m + k < (W.flatMap (img ims)).length := by
  have := last_at (ims := ims) hm hk
  rw [List.getElem?_eq_getElem hk] at this
  exact (List.getElem?_eq_some_iff.mp this).1
/-- where the letters after the first k parts begin -/
def partL (ims : List (List Nat)) (s : Nat) (im : List Nat) (k : Nat) : Nat := ((im.take k).map (len ims s)).sum
end Mo

/-! ### max of a tuple of ints -/
namespace Mo
open PySem PySem.Spec PyProof.Rows L2
def rMaxT (K : PySem.W.Frag) : List V → Hp → VK → Prop := fun vs H Q => ∃ (a : Addr) (ns : List Int), vs = [V.ref a] ∧ SqT K H a (ns.map V.int) ∧ 0 < ns.length ∧ ∀ m, m ∈ ns → (∀ y, y ∈ ns → y ≤ m) → Q (.int m) H
theorem cr_maxT {X : Cx} (hc : X.calm = true) : CallR X (.builtin "max") (rMaxT X.K) := by
  intro pins s σ H vs us Q I r h
  obtain ⟨a, ns, rfl, hs, n0, q⟩ := h
  obtain ⟨its, rv, pt, _⟩ := I.tuple hs
  have pt : s.heap.IsTuple a its.toArray := pt
  obtain ⟨zs, ez⟩ := rv.ints.allInts.items
  have en : numsOf (intItems zs).toList = ns := by
    rw [← ez]
    exact rv.ints.numsOf
  rw [nums_intItems] at en
  subst en
  rw [ez] at pt
  have n1 : 0 < zs.size := by simpa using n0
  have la : a < s.heap.objs.size := by
    obtain ⟨_, z, _⟩ := pt
    exact Heap.lt_size z
  rw [Vals.ref1 r]
  refine call_max_walk (wpAny_pyIter_tuple pt ⟨s.heap.objs.size, [s.heap.objs.size, a], [s.heap.objs.size], _, _, _, _, rfl, Walks.tuple (A := X.A.in1) (I.ok.hd hc) s.heap.objs.size a (Nat.ne_of_lt la) (intItems zs), ?_, fun b hb => ?_, ?_, CmpOf.ints_gt (numAt zs) (fun _ _ z => intItems_at z), fun v h' tk hP hk => ?_⟩)
  · exact ⟨⟨_, Heap.get?_push_size _ rfl, rfl, rfl⟩, pt.push _⟩
  · show b < (s.heap.push _).objs.size
    rw [Heap.size_push]
    rcases List.mem_cons.mp hb with z | hb
    · rw [z]
      exact Nat.lt_succ_self _
    · rw [List.mem_singleton.mp hb]
      exact Nat.lt_succ_of_lt la
  · simpa [intItems] using n1
  · have hP : (intItems zs)[argBest (fun i j => decide (numAt zs i > numAt zs j)) ((intItems zs).size - 1)]? = some v := hP
    have es : (intItems zs).size - 1 = zs.size - 1 := by simp [intItems]
    rw [es] at hP
    obtain ⟨t, rfl⟩ := intItems_at hP
    obtain ⟨b1, b2⟩ := argBest_gt (numAt zs) (zs.size - 1)
    refine ⟨.int _, H, I.kept (t' := tk) (fun b o z => hk b o (fun hm => ?_) (Heap.get?_push_of_some _ z)), ⟨t, rfl⟩, q _ ?_ fun y hy => ?_⟩
    · have z1 := Heap.lt_size z
      rw [List.mem_singleton.mp hm] at z1
      exact absurd z1 (Nat.lt_irrefl _)
    · rw [numAt_eq]
      exact PySem.getD_mem (by rw [List.length_map, Array.length_toList]; omega)
    · obtain ⟨j, hj, rfl⟩ := mem_getD hy
      rw [List.length_map, Array.length_toList] at hj
      rw [← numAt_eq]
      exact b2 j (by omega)
theorem cr_sumK {X : Cx} {K : PySem.W.Frag} (h : X.K = K) (hc : X.calm = true) : CallR X (.builtin "sum") (rSum K) := by
  subst h
  exact cr_sum hc
end Mo

namespace Mo
open PySem PySem.Spec PyProof.Rows L2
/-! ### the pen -/
def nxtD (c : Addr) (t r : Int) : List (Key × V) := [(.inr "cells", .ref c), (.inr "next", .int t), (.inr "rest", .int r)]
theorem n_ct : ¬ ((Sum.inr "cells" : Key) = (Sum.inr "next" : Key)) := by decide +kernel
theorem n_cr : ¬ ((Sum.inr "cells" : Key) = (Sum.inr "rest" : Key)) := by decide +kernel
theorem n_tr : ¬ ((Sum.inr "next" : Key) = (Sum.inr "rest" : Key)) := by decide +kernel
theorem nxt_cells (c : Addr) (t r : Int) : valV (nxtD c t r) (Sum.inr "cells") = some (.ref c) := valV_pos rfl
theorem nxt_next (c : Addr) (t r : Int) : valV (nxtD c t r) (Sum.inr "next") = some (.int t) := by
  unfold nxtD
  rw [valV_neg n_ct, valV_pos rfl]
theorem nxt_rest (c : Addr) (t r : Int) : valV (nxtD c t r) (Sum.inr "rest") = some (.int r) := by
  unfold nxtD
  rw [valV_neg n_cr, valV_neg n_tr, valV_pos rfl]
theorem nput_next (c : Addr) (t r u : Int) : putK (nxtD c t r) (Sum.inr "next") (.int u) = nxtD c u r := by
  unfold putK nxtD
  have k1 := n_ct
  have k2 : ¬ ((Sum.inr "rest" : Key) = (Sum.inr "next" : Key)) := fun e => n_tr e.symm
  simp only [List.any_cons, List.map_cons, List.map_nil, k1, k2, if_false, if_true, decide_true, decide_false, Bool.true_or, Bool.or_true, Bool.false_or]
theorem nput_rest (c : Addr) (t r u : Int) : putK (nxtD c t r) (Sum.inr "rest") (.int u) = nxtD c t u := by
  unfold putK nxtD
  have k1 := n_cr
  have k2 := n_tr
  simp only [List.any_cons, List.map_cons, List.map_nil, k1, k2, if_false, if_true, decide_true, decide_false, Bool.true_or, Bool.or_true, Bool.false_or]
theorem nxt_merge (c : Addr) (t r : Int) : mergeK [] (nxtD c t r) = nxtD c t r := by
  have k1 := n_ct
  have k2 := n_cr
  have k3 := n_tr
  simp only [mergeK, nxtD, putK, List.foldl_cons, List.foldl_nil, List.any_nil, List.any_cons, List.nil_append, List.cons_append, k1, k2, k3, decide_false, Bool.or_false, Bool.false_eq_true, if_false]
/-- the pen at d, its cells at c, t draws done -/
def Nxt (H : Hp) (d c : Addr) (t : Nat) : Prop := ∃ (ns : List Int) (r : Int), H d = some (.dK (nxtD c t r)) ∧ H c = some (.lst (ns.map V.int)) ∧ ns.length ≤ 63 ∧ 0 ≤ r
theorem Nxt.ne {H : Hp} {d c : Addr} {t : Nat} (h : Nxt H d c t) : d ≠ c := by
  obtain ⟨ns, r, h1, h2, _⟩ := h
  exact ne_of h1 h2 (by intro z; cases z)
theorem Nxt.new {H : Hp} {d c : Addr} {t : Nat} (h : Nxt H d c t) {p : Addr} (hp : H p = none) : p ≠ d ∧ p ≠ c := by
  obtain ⟨ns, r, h1, h2, _⟩ := h
  exact ⟨(ne_of_none h1 hp).symm, (ne_of_none h2 hp).symm⟩
theorem Nxt.upd {H : Hp} {d c : Addr} {t : Nat} (h : Nxt H d c t) {p : Addr} {o : HO} (h1 : p ≠ d) (h2 : p ≠ c) : Nxt (upd H p o) d c t := by
  obtain ⟨ns, r, e1, e2, e3⟩ := h
  exact ⟨ns, r, by rw [upd_ne h1.symm]; exact e1, by rw [upd_ne h2.symm]; exact e2, e3⟩
theorem Nxt.same {H H' : Hp} {d c : Addr} {t : Nat} (h : Nxt H d c t) (s : Same H H') : Nxt H' d c t := by
  obtain ⟨ns, r, e1, e2, e3⟩ := h
  exact ⟨ns, r, s _ _ e1, s _ _ e2, e3⟩
theorem nxt_set {H : Hp} {d c : Addr} {t : Nat} (h : Nxt H d c t) {u : Nat} {r : Int} (hr : 0 ≤ r) : Nxt (L2.upd H d (.dK (nxtD c u r))) d c u := by
  have n := h.ne
  obtain ⟨ns, r0, e1, e2, e3, _⟩ := h
  exact ⟨ns, r, upd_same, by rw [upd_ne n.symm]; exact e2, e3, hr⟩
def spNDraw : Sp := fun vs H Q _ => ∃ (d c : Addr) (n : Int) (t : Nat), vs = [.ref d, .int n] ∧ Nxt H d c t ∧ 0 < n ∧ n < 1073741824 ∧ t < 1073741824 ∧
  ∀ H' k t', But d H H' → Nxt H' d c t' → t' ≤ t + 1 → 0 ≤ k → k < n → Q (.int k) H'
def spNPick (K : PySem.W.Frag) : Sp := fun vs H Q _ => ∃ (d c l : Addr) (xs : List V) (t : Nat), vs = [.ref d, .ref l] ∧ Nxt H d c t ∧ SqL K H l xs ∧ l ≠ d ∧ 0 < xs.length ∧ xs.length < 1073741824 ∧ t < 1073741824 ∧
  ∀ H' v t', But d H H' → Nxt H' d c t' → t' ≤ t + 1 → v ∈ xs → Q v H'
end Mo

/-! ### all but the pen's dict and the tables stands: one relation for what is made, drawn and called -/
namespace Mo
open PySem PySem.Spec PyProof.Rows L2
def Kp (d : Addr) (H H' : Hp) : Prop := ∀ b o, b ≠ d → H b = some o → (∀ ps, o ≠ .tbl ps) → H' b = some o
theorem Kp.refl (d : Addr) (H : Hp) : Kp d H H := fun _ _ _ e _ => e
theorem Kp.trans {d : Addr} {H H' H2 : Hp} (h : Kp d H H') (g : Kp d H' H2) : Kp d H H2 := fun b o n e t => g b o n (h b o n e t) t
theorem Kp.same {d : Addr} {H H' : Hp} (s : Same H H') : Kp d H H' := fun b o _ e _ => s b o e
theorem Kp.but {d : Addr} {H H' : Hp} (s : But d H H') : Kp d H H' := fun b o n e _ => s b o n e
theorem Kp.tabs {d : Addr} {H H' : Hp} (s : LamX.ExtN H H') : Kp d H H' := fun b o _ e t => s b o e t
theorem Kp.lst {d b : Addr} {H H' : Hp} {xs : List V} (s : Kp d H H') (n : b ≠ d) (h : H b = some (.lst xs)) : H' b = some (.lst xs) := s _ _ n h fun _ z => nomatch z
theorem Kp.tup {d b : Addr} {H H' : Hp} {xs : List V} (s : Kp d H H') (n : b ≠ d) (h : H b = some (.tup xs)) : H' b = some (.tup xs) := s _ _ n h fun _ z => nomatch z
mutual
theorem Dx.kp {d : Addr} {H H' : Hp} (s : Kp d H H') : ∀ {v : V} {e : PyData}, Dx (fun x => x = d) H v e → Dx (fun x => x = d) H' v e
  | _, _, .non => .non
  | _, _, .bl b => .bl b
  | _, _, .int i => .int i
  | _, _, .str x => .str x
  | _, _, .lst h n t => .lst (s _ _ n h fun _ z => nomatch z) n (DxAll.kp s t)
  | _, _, .tup h n t => .tup (s _ _ n h fun _ z => nomatch z) n (DxAll.kp s t)
  | _, _, .dct h n t => .dct (s _ _ n h fun _ z => nomatch z) n (DxAll.kp s t)
theorem DxAll.kp {d : Addr} {H H' : Hp} (s : Kp d H H') : ∀ {v : List V} {e : List PyData}, DxAll (fun x => x = d) H v e → DxAll (fun x => x = d) H' v e
  | _, _, .nil => .nil
  | _, _, .cons h t => .cons (Dx.kp s h) (DxAll.kp s t)
end
theorem ne_dk {d b : Addr} {H : Hp} {kvs : List (Key × V)} {o : HO} (h : H d = some (.dK kvs)) (hb : H b = some o) (n : ∀ kvs, o ≠ .dK kvs) : b ≠ d := fun z => by
  rw [z, h] at hb
  exact n _ (Option.some.inj hb).symm
end Mo

/-! ### rule sets: where they stand -/
namespace Mo
open PySem PySem.Spec PyProof.Rows L2
theorem n2v_len (im : List Nat) : ((nat2 im).map V.int).length = im.length := by rw [List.length_map, nat2_len]
theorem n2v_at {im : List Nat} {k n : Nat} (h : im[k]? = some n) : ((nat2 im).map V.int)[k]? = some (.int (n : Int)) := by
  unfold nat2
  rw [List.getElem?_map, List.getElem?_map, h]
  rfl
theorem n2v_get {im : List Nat} {k : Nat} {v : V} (h : ((nat2 im).map V.int)[k]? = some v) : ∃ n, im[k]? = some n ∧ v = .int (n : Int) := by
  unfold nat2 at h
  rw [List.getElem?_map, List.getElem?_map] at h
  cases e : im[k]? with
  | none => rw [e] at h; cases h
  | some n =>
    rw [e] at h
    exact ⟨n, rfl, (Option.some.inj h).symm⟩
theorem n2v_snoc (im : List Nat) (n : Nat) : (nat2 (im ++ [n])).map V.int = (nat2 im).map V.int ++ [.int (n : Int)] := by
  unfold nat2
  rw [List.map_append, List.map_append]
  rfl
theorem nat2_sum : ∀ l : List Nat, (nat2 l).sum = ((l.sum : Nat) : Int)
  | [] => rfl
  | n :: r => by
    show (n : Int) + (nat2 r).sum = _
    rw [nat2_sum r, List.sum_cons]
    omega
/-- tuples (or lists) of letters, one after the other -/
structure ImsAt (H : Hp) (ps : List Addr) (ims : List (List Nat)) : Prop where
  len : ps.length = ims.length
  el : ∀ (k : Nat) (p : Addr) (im : List Nat), ps[k]? = some p → ims[k]? = some im → H p = some (.tup ((nat2 im).map V.int))
theorem ImsAt.same {H H' : Hp} {ps : List Addr} {ims : List (List Nat)} (h : ImsAt H ps ims) (s : Same H H') : ImsAt H' ps ims := ⟨h.len, fun k p im a b => s _ _ (h.el k p im a b)⟩
theorem ImsAt.by {H H' : Hp} {ps : List Addr} {ims : List (List Nat)} (h : ImsAt H ps ims) (s : ∀ p xs, H p = some (.tup xs) → H' p = some (.tup xs)) : ImsAt H' ps ims := ⟨h.len, fun k p im a b => s _ _ (h.el k p im a b)⟩
/-- the tuple of letter l -/
theorem ImsAt.at {H : Hp} {ps : List Addr} {ims : List (List Nat)} (h : ImsAt H ps ims) {l : Nat} (hl : l < ims.length) : ∃ p, ps[l]? = some p ∧ H p = some (.tup ((nat2 (img ims l)).map V.int)) := by
  have e : ps[l]? = some (ps[l]'(by rw [h.len]; exact hl)) := List.getElem?_eq_getElem (by rw [h.len]; exact hl)
  exact ⟨_, e, h.el l _ _ e (img_at hl)⟩
/-- a rule set -/
def RlsAt (C : Addr) (H : Hp) (r : Addr) (ims : List (List Nat)) : Prop := ∃ (dx t : Addr) (ps : List Addr), H r = some (.ins C dx [(("table" : Str), .ref t)]) ∧ H t = some (.tup (ps.map V.ref)) ∧ ImsAt H ps ims
theorem RlsAt.same {C : Addr} {H H' : Hp} {r : Addr} {ims : List (List Nat)} (h : RlsAt C H r ims) (s : Same H H') : RlsAt C H' r ims := by
  obtain ⟨dx, t, ps, h1, h2, h3⟩ := h
  exact ⟨dx, t, ps, s _ _ h1, s _ _ h2, h3.same s⟩
theorem RlsAt.but {C d c : Addr} {n : Nat} {H H' : Hp} {r : Addr} {ims : List (List Nat)} (h : RlsAt C H r ims) (x : Nxt H d c n) (s : But d H H') : RlsAt C H' r ims := by
  obtain ⟨dx, t, ps, h1, h2, h3⟩ := h
  obtain ⟨_, _, hd, _⟩ := x
  exact ⟨dx, t, ps, s _ _ (ne_dk hd h1 (fun _ z => nomatch z)) h1, s _ _ (ne_dk hd h2 (fun _ z => nomatch z)) h2, h3.by fun p xs e => s _ _ (ne_dk hd e (fun _ z => nomatch z)) e⟩
theorem ref_at {ps : List Addr} {k : Nat} {p : Addr} (h : ps[k]? = some p) : (ps.map V.ref)[k]? = some (.ref p) := by
  rw [List.getElem?_map, h]
  rfl
theorem ref_get {ps : List Addr} {k : Nat} {v : V} (h : (ps.map V.ref)[k]? = some v) : ∃ p, ps[k]? = some p ∧ v = .ref p := by
  rw [List.getElem?_map] at h
  cases e : ps[k]? with
  | none => rw [e] at h; cases h
  | some p =>
    rw [e] at h
    exact ⟨p, rfl, (Option.some.inj h).symm⟩
/-- lists of rows, one after the other -/
structure RowsAt (H : Hp) (qs : List Addr) (rows : List (List Nat)) : Prop where
  len : qs.length = rows.length
  el : ∀ (k : Nat) (p : Addr) (row : List Nat), qs[k]? = some p → rows[k]? = some row → H p = some (.lst ((nat2 row).map V.int))
theorem RowsAt.same {H H' : Hp} {qs : List Addr} {rows : List (List Nat)} (h : RowsAt H qs rows) (s : Same H H') : RowsAt H' qs rows := ⟨h.len, fun k p im a b => s _ _ (h.el k p im a b)⟩
/-- the rows of 0 to s replacements -/
def rowsL (ims : List (List Nat)) (s : Nat) : List (List Nat) := (List.range (s + 1)).map (rowL ims)
theorem rowsL_len (ims : List (List Nat)) (s : Nat) : (rowsL ims s).length = s + 1 := by
  unfold rowsL
  rw [List.length_map, List.length_range]
theorem rowsL_at {ims : List (List Nat)} {s k : Nat} (h : k < s + 1) : (rowsL ims s)[k]? = some (rowL ims k) := by
  unfold rowsL
  rw [List.getElem?_map, List.getElem?_range h]
  rfl
theorem rowsL_succ (ims : List (List Nat)) (s : Nat) : rowsL ims (s + 1) = rowsL ims s ++ [rowL ims (s + 1)] := by
  unfold rowsL
  rw [List.range_succ (n := s + 1), List.map_append]
  rfl
theorem row0 (ims : List (List Nat)) : rowL ims 0 = List.replicate ims.length 1 := by
  unfold rowL
  rw [List.eq_replicate_iff]
  refine ⟨by rw [List.length_map, List.length_range], fun b hb => ?_⟩
  obtain ⟨l, _, rfl⟩ := List.mem_map.mp hb
  rfl
theorem row_next {ims : List (List Nat)} {s k : Nat} (hk : k < ims.length) : (rowL ims (s + 1)).take (k + 1) = (rowL ims (s + 1)).take k ++ [((img ims k).map (len ims s)).sum] := by
  rw [List.take_add_one, rowL_at hk, len_succ]
  rfl
theorem ref_last {ps : List Addr} {i : Nat} {p : Addr} (hl : ps.length = i + 1) (h : ps[i]? = some p) : atI (ps.map V.ref) (-1) = some (.ref p) := by
  have e : ps = ps.take i ++ [p] := by
    conv => lhs; rw [← List.take_length (l := ps), hl, List.take_add_one, h]
    rfl
  rw [e, List.map_append]
  exact atI_last _ _
theorem cut_last (xs : List V) : cutV xs none (some (-1)) = xs.take (xs.length - 1) := by
  have e : HT.sIx xs.length xs.length (some (-1)) = xs.length - 1 := by
    unfold HT.sIx
    simp
    omega
  unfold cutV
  rw [e, HT.sIx_none, List.drop_zero, Nat.sub_zero]
end Mo

/-! ### several 'except x as n: ..', each with its own suite -/
namespace Mo
open PySem PySem.Spec PyProof.Rows L2
/-- a clause: the class, the slot of its name, what its suite does -/
abbrev Cls3 := Value × Nat × (Addr → Value → Option Addr → TS)
/-- what the clauses wish of an error of the body, one after the other -/
def wEach (K : PySem.W.Frag) (Wout : WX) (D : Ends) : List Cls3 → WX
  | [] => Wout
  | (c, i, ts) :: r => fun cls d σ H => ∃ b, PySem.W.exmOne K cls c = some b ∧
      (b = true → ∀ a, H a = none → ts a cls d { nx := fun σ' H' => D.nx (σ'.set i none) H', rt := D.rt, bk := fun σ' H' => D.bk (σ'.set i none) H', ct := fun σ' H' => D.ct (σ'.set i none) H' } (σ.set i (some (.ref a))) H) ∧ (b = false → wEach K Wout D r cls d σ H)
inductive HdsAs (X : Cx) : List ExceptHandler → List Cls3 → Prop
  | nil : HdsAs X [] []
  | cons {x n : Str} {c : Value} {i : Nat} {ts : Addr → Value → Option Addr → TS} {b₀ : Stmt} {rest : List Stmt} {np ep : Pos} {hds : List ExceptHandler} {l : List Cls3} (hc : Names X x c) (hi : X.N[i]? = some n) (hln : X.env.kindOf n = some .local)
      (hsu : ∀ (a : Addr) (oe : Obj) (cls : Value) (d : Option Addr) (pn : List (Addr × Obj)), Zc cls d oe → (∃ vs, oe.data = .fields vs) → PSs (X.suite a ((a, oe) :: pn)) (b₀ :: rest) (ts a cls d)) (r : HdsAs X hds l) : HdsAs X (.ExceptHandler (some (.Name x np)) (some n) (b₀ :: rest) ep :: hds) ((c, i, ts) :: l)
section
variable {X : Cx} {body : List Stmt} {h₀ : ExceptHandler} {hds : List ExceptHandler} {l : List Cls3} {pos : Pos} {tb : WX → TS} {Wout : WX}
theorem ps_try_each (hs : X.stack = X.env :: X.outer) (hf : X.env.frame = some X.env.locals) (hN : X.N.Nodup) (tk : Takes X Wout)
    (hb : ∀ (W : WX) (pn : List (Addr × Obj)) (xe : Value → Shared → Prop), Takes (X.tr pn xe) W → PassesOwn (model X.prog X.w) X.A X.env xe → PSs (X.tr pn xe) body (tb W)) (hh : HdsAs X (h₀ :: hds) l) :
    PS X (.Try body (h₀ :: hds) [] [] pos) (fun D σ H => tb (wEach X.K Wout D l) D σ H) := by
  refine ⟨fun pins s σ H D I h => ?_⟩
  have ok := I.ok
  have hfr : X.A.frames = some (X.env :: X.outer) := ok.frames.trans (by rw [hs])
  refine wpAny_Try_except (wpAny_mono ((hb (wEach X.K Wout D l) (X.pn ++ pins) (fun e s₁ => wpAny (model X.prog X.w) X.A (noteFrame e X.env) (fun _ s₂ => wpAny (model X.prog X.w) X.A (setFlight e none) (fun _ s₃ => wpAny (model X.prog X.w) X.A (handleBy e X.env (h₀ :: hds)) (SP X pins D) X.xe s₃) X.xe s₂) X.xe s₁)
    (fun u s' xx => ?_) PassesOwn.looking).run [] s σ H D (I.toTry _) h) (fun f s1 hsp => ?_) (fun e s1 he => he))
  · obtain ⟨a, B, sI, pins', σ', H', cls, d, rfl, J', nb, up, sky, na, os, ag, w⟩ := xx
    have J : Inv X pins σ' H' sI := J'.ofTry ok
    show wpAny (model X.prog X.w) X.A (noteFrame (.ref a) X.env) _ _ _
    refine Sky.land Zc.steady hfr hf (hs ▸ sky) fun h3 fl3 up3 => ?_
    have J3 : Inv X pins σ' H' { s' with heap := h3 } := J.landed nb fl3.1 (up.trans up3) os ag
    obtain ⟨oe3, vs3, he3, hz3, hd3⟩ := fl3.there
    have nfr : a ∉ frs (X.env :: X.outer) := fun hm => by
      obtain ⟨_, o2, e2, hnf⟩ := fl3.2.2.1.mem hm
      rw [he3] at e2
      cases e2
      exact hnf _ hd3
    have nL : a ≠ X.env.locals := fun z => nfr (List.mem_filterMap.mpr ⟨X.env, List.mem_cons_self, hf.trans (congrArg some z.symm)⟩)
    have nF : a ∉ X.fs := fun hm => (List.mem_filterMap.mp hm).elim fun e z => nfr (List.mem_filterMap.mpr ⟨e, List.mem_cons_of_mem _ z.1, z.2⟩)
    have S3 := J3.suite he3 hd3 na nL nF
    have LT : PySem.W.Looks (model X.prog X.w) h3 (typeOf (.ref a)) cls := fun A Q E s k q => wpAny_typeOf_ref (k _ _ he3) (hz3.1 ▸ q)
    have go : ∀ {hs2 : List ExceptHandler} {l2 : List Cls3}, HdsAs X hs2 l2 → wEach X.K Wout D l2 cls d σ' H' → wpAny (model X.prog X.w) X.A (handleBy (.ref a) X.env hs2) (SP X pins D) X.xe { s' with heap := h3 } := by
      intro hs2 l2 hk
      induction hk with
      | nil =>
        intro w
        refine wpAny_handleBy_nil ?_
        obtain ⟨k1, k2, k3, oe, vs, T, oT, t2, he, hz, hd, h1, hr⟩ := id fl3
        unfold PySem.passOn
        refine wpAny_bind (wpAny_field he hd h1 ?_)
        rw [if_neg (show ¬ ((Value.ref T == Value.none) = true) from by simp)]
        have fin : wpAny (model X.prog X.w) X.A (setFlight (.ref a) X.env.frame) (fun _ s4 => wpAny (model X.prog X.w) X.A (throw (.ref a) : Sem Flow) (SP X pins D) X.xe s4) X.xe { s' with heap := h3 } := by
          rw [hf]
          refine HandSPX.setFlight_upZ fl3 fun h4 hh4 up4 => wpAny_throw (tk _ _ ⟨a, B, sI, pins, σ', H', cls, d, rfl, J, nb, (up.trans up3).trans up4, .inr (.inr (hs ▸ hh4)), na, os, ag, w⟩)
        first
          | exact wpAny_bind (wpAny_pure (wpAny_bind fin))
          | exact wpAny_bind fin
      | @cons x n c i ts b₀ rest np ep hds' l' hc hi hln hsu r ih =>
        rintro ⟨b, hb1, hyes, hno⟩
        refine wpAny_handleBy_cons (codeAny_handlers_test ?_) (by intro q; cases q)
        have test : ∀ {Q : Value → Shared → Prop} {E : Value → Shared → Prop}, Q c { s' with heap := h3 } → wpAny (model X.prog X.w) (X.A.mark (some (.ref a))) (eval (.Name x np) X.env) Q E { s' with heap := h3 } := fun {Q E} q => by
          rcases hc with ⟨hg, hdbg, hm | ⟨hm, hv, hnn⟩⟩
          · exact ld_glob (X := X.suite a ((a, oe3) :: (X.pn ++ pins))) S3 hg hm q hdbg
          · exact ld_blt (X := X.suite a ((a, oe3) :: (X.pn ++ pins))) S3 hg hm hv q hnn hdbg
        refine test ((PySem.W.exm_one (M := model X.prog X.w) J3.kIn LT hb1).here ?_)
        cases b with
        | false => exact ih (hno rfl)
        | true =>
          refine codeAny_handlers_suite_as (HandSPX.lands_againZ fl3 fun h4 fl4 up4 => ?_)
          have J4 : Inv X pins σ' H' { s' with heap := h4 } := J.landed nb fl4.1 ((up.trans up3).trans up4) os ag
          obtain ⟨oe4, vs4, he4, hz4, hd4⟩ := fl4.there
          refine store_ok (X := X.suite a ((a, oe4) :: (X.pn ++ pins))) (v := .ref a) (J4.suite he4 hd4 na nL nF) hN hi (.inl hln) rfl (fun s5 S5 => ?_) (.inr hln)
          refine wpAny_mono ((hsu a oe4 cls d (X.pn ++ pins) hz4 ⟨_, hd4⟩).run [] s5 _ H' _ S5 (hyes rfl a na)) (fun f s6 hsp => ?_) (fun _ _ z => False.elim z)
          cases f with
          | next => exact hsp.elim fun σ6 z => z.elim fun H6 z => gone_ok (z.1.unsuite ok) hN hi hln fun s7 J7 => ⟨_, _, J7, z.2⟩
          | brk => exact hsp.elim fun σ6 z => z.elim fun H6 z => gone_ok (z.1.unsuite ok) hN hi hln fun s7 J7 => ⟨_, _, J7, z.2⟩
          | cont => exact hsp.elim fun σ6 z => z.elim fun H6 z => gone_ok (z.1.unsuite ok) hN hi hln fun s7 J7 => ⟨_, _, J7, z.2⟩
          | ret u => exact hsp.elim fun v z => z.elim fun σ6 z => z.elim fun H6 z => gone_ok (z.1.unsuite ok) hN hi hln fun s7 J7 => ⟨v, _, _, J7, z.2.1, z.2.2⟩
    exact go hh w
  · cases f with
    | next => exact hsp.elim fun σ1 z => z.elim fun H1 z => wpAny_execs_nil ⟨σ1, H1, z.1.ofTry ok, z.2⟩
    | brk => exact hsp.elim fun σ1 z => z.elim fun H1 z => ⟨σ1, H1, z.1.ofTry ok, z.2⟩
    | cont => exact hsp.elim fun σ1 z => z.elim fun H1 z => ⟨σ1, H1, z.1.ofTry ok, z.2⟩
    | ret u => exact hsp.elim fun v z => z.elim fun σ1 z => z.elim fun H1 z => ⟨v, σ1, H1, z.1.ofTry ok, z.2⟩
end
/-! isinstance(e, c) in the suite, e an error with its own dict -/
/-- the error at a, its class at C, its dict at dd -/
def rIsS (K : PySem.W.Frag) (a : Addr) (cls : Value) (d : Option Addr) : List V → Hp → VK → Prop := fun xs H Q => ∃ (C dd : Addr) (fs : List (Str × V)) (c : V) (u : Value) (b : Bool), xs = [.ref a, c] ∧ cls = .ref C ∧ d = some dd ∧ H dd = some (.xd fs) ∧ ExcC K C ∧ ClsV c u ∧ PySem.W.kitOne K (.ref C) u = some b ∧ Q (.bl b) H
theorem cr_isS {X : Cx} {a : Addr} {oe : Obj} {cls : Value} {d : Option Addr} {pn : List (Addr × Obj)} (hz : Zc cls d oe) (hf : ∃ vs, oe.data = .fields vs) : CallR (X.suite a ((a, oe) :: pn)) (.builtin "isinstance") (rIsS X.K a cls d) := by
  intro pins s σ H xs us Q I r h
  obtain ⟨C, dd, fs, c, u, b, rfl, rfl, rfl, hd, T, k, e, q⟩ := h
  obtain ⟨u1, u2, rfl, r1, r2⟩ := vals2 r
  cases r1
  obtain rfl := k.eq r2
  obtain ⟨ha, _⟩ := I.pin (a, oe) (List.mem_append_left _ List.mem_cons_self)
  obtain ⟨vs, hv⟩ := hf
  obtain ⟨mA, hns, hr⟩ := (show ObjOk X.prog X.w H s.heap dd (.xd fs) from I.hok dd _ hd)
  obtain ⟨od, ho, hl⟩ := lookIn_ns hns
  exact PySem.W.kia_one (err_kit T) I.kIn ⟨oe, od, ha, hz.1, by unfold PySem.W.notCls; rw [hv] <;> rfl, by rw [hz.2]; exact ho⟩ e (fun z => nomatch z) fun tk => ⟨.bl b, H, I.tok tk, rfl, q⟩
/-- e.f in the suite -/
def tXs (K : PySem.W.Frag) (a : Addr) (cls : Value) (d : Option Addr) (f : Str) (te : TE) : TE := fun σ H Q => te σ H fun x H1 => ∃ (C dd : Addr) (fs : List (Str × V)) (v : V), x = .ref a ∧ cls = .ref C ∧ d = some dd ∧ H1 dd = some (.xd fs) ∧ XfC K C ∧ PySem.W.findIn K (.ref C) f = some none ∧ fs.lookup f = some v ∧ Q v H1
theorem pe_xs {X : Cx} {a : Addr} {oe : Obj} {cls : Value} {d : Option Addr} {pn : List (Addr × Obj)} {e : Expr} {te : TE} {pos : Pos} {f : Str} (hz : Zc cls d oe) (hf : ∃ vs, oe.data = .fields vs) (he : PE (X.suite a ((a, oe) :: pn)) e te)
    (hb : attributeBase e f X.env (eval e X.env) = eval e X.env := by rfl) : PE (X.suite a ((a, oe) :: pn)) (.Attribute e f pos) (tXs X.K a cls d f te) := by
  refine ⟨fun pins s σ H Q I h => attr_of hb (thn (he.run pins s σ H _ I h) fun u s1 hh => ?_)⟩
  obtain ⟨x, H1, I1, rx, C, dd, fs, v, rfl, rfl, rfl, ea, T, hno, l, q⟩ := hh
  obtain rfl : u = Value.ref a := rx
  obtain ⟨ha, _⟩ := I1.pin (a, oe) (List.mem_append_left _ List.mem_cons_self)
  obtain ⟨vs, hv⟩ := hf
  obtain ⟨mA, hns, hr⟩ := (show ObjOk X.prog X.w H1 s1.heap dd (.xd fs) from I1.hok dd _ ea)
  obtain ⟨od, ho, hl⟩ := lookIn_ns hns
  obtain ⟨u, hu, ru⟩ := RelO.some_of (v := v) (o := mA f) (l ▸ hr f)
  exact HandSPX.exc_get I1.kIn ⟨ha, hz.1, by unfold PySem.W.notCls; rw [hv] <;> rfl, by rw [hz.2]; exact ho⟩ T.ga T.gg T.exC (PySem.W.findObj_own T.hdC hno rfl (by rw [hl, hu])) (handed_of ru) ⟨v, H1, I1.tok _, ru, q⟩
end Mo

/-! ### own errors with two fields; isinstance with several classes in a suite -/
namespace Mo
open PySem PySem.Spec PyProof.Rows L2
open Builtin Builtin.ObjectAttr in
section
variable {prog : Program} {w : World} {A : Around} {E : Value → Shared → Prop} {R : Result → Shared → Prop} {hp : Heap} {g : Array GenState} {d : Drawn} {t : Nat} {os : OsState}
/-- a further field of such an error -/
theorem osaG2 {K : PySem.W.Frag} {nm : Str} {tk : Tok} {v : Value} {x C dx : Addr} {fv : Array Value} {cd : ClassData} {bmB : List Value} {m0 : Str → Option Value} {nl : List Str} (X : K.In hp) (hx : hp.get? x = some { cls := .ref C, dict := some dx, data := .fields fv })
    (hns : hp.Ns1 dx m0) (hw : Within m0 nl) (hz : nl.length ≤ 1000) (hcd : PySem.W.clsIn K C = some cd)
    (hm : PySem.W.excTail bmB cd.mro = true) (hne : bmB ≠ []) (hob : bmB.contains (.type "object") = true) (hps : ∀ self, refuseLoop self "__setattr__" bmB = pure ()) (hh : cd.hasDict = true) (ha : PySem.W.findIn K (.ref C) nm = some none)
    (hq : ∀ h' tk', (∀ b o, b ≠ dx → hp.get? b = some o → h'.get? b = some o) → h'.Ns1 dx (fun y => if y = nm then some v else m0 y) → R (.ok (.ret .none)) ⟨h', g, d, tk', os⟩) :
    codeAny (model prog w) A (.call (.builtin "object.__setattr__") ⟨[.ref x, .str nm tk, v], []⟩) R ⟨hp, g, d, t, os⟩ := by
  obtain ⟨oD, _, _, hoD, _, _⟩ := hns.count hw
  have J : PySem.W.InstAt hp x { cls := .ref C, dict := some dx, data := .fields fv } C (some oD) := ⟨hx, rfl, rfl, hoD⟩
  have SO := PySem.F.store_object
  have e1 : cd.mro.isEmpty = false := by
    cases q : cd.mro with
    | nil =>
      rw [q] at hm
      exact absurd (beq_iff_eq.mp hm).symm hne
    | cons _ _ => rfl
  have e2 : cd.mro.contains (.type "object") = true := (PySem.W.excTail_contains "object" _ hm).trans hob
  have su : PySem.W.Looks (model prog w) hp (isInstance (.ref x) (.type "object")) true := J.type.andThen (PySem.W.looks_mroIn X (by unfold PySem.W.mroIn; rw [hcd, Option.bind_some, if_neg (by rw [e1]; decide), e2]))
  refine codeAny_call_builtin SO.slot.plain SO.entry (@PySem.W.check_slot (model prog w) _ _ ⟨hp, g, d, t, os⟩ "object.__setattr__" "object" "__setattr__" (.ref x) [.str nm tk, v] [] _ SO.kind SO.split su (SO.args (.ref x) (.str nm tk) v) ?_)
  have l1 : PySem.W.Looks (model prog w) hp (mroOf (.ref C)) cd.mro := (PySem.W.looks_clsIn X hcd).andThen .now
  have l2 : PySem.W.Looks (model prog w) hp (storeTaker? none) none := .now
  have l3 : PySem.W.Looks (model prog w) hp (classData C) cd := PySem.W.looks_clsIn X hcd
  rw [PySem.W.osa_eq, refuse_eq]
  refine wpAny_bind (wpAny_bind (J.type.at (wpAny_bind (l1.at ?_))))
  rw [PySem.W.excTail_pass _ (hps _) _ hm]
  refine wpAny_pure (wpAny_bind (J.type.at (wpAny_bind ((PySem.W.looks_findIn X ha).at (wpAny_bind (l2.at ?_))))))
  show wpAny _ _ (storeInOwnDict (.ref x) (.ref C) (.str nm tk) nm v false) _ _ _
  obtain ⟨_, _, mro, _, _, hd, _, _, _, _, _⟩ := cd
  obtain rfl : hd = true := hh
  unfold storeInOwnDict ownDictForStores
  repeat (first | with_reducible refine PySem.OEX.store_in_old hns hw hz ?_ | with_reducible refine wpAny_loadPart_at hx ?_ | with_reducible refine l3.at ?_ | wp_step)
  intro h2 tk2 hn2 hs2
  exact hq h2 tk2 (fun b o hb ho => (hs2.2 b hb).trans ho) hn2
end
section
variable {X : Cx} {pins : List (Addr × Obj)} {σ : L2.St} {H : Hp} {s : Shared} {a C dx : Addr} {f : Str} {y : V} {u : Value} {fs : List (Str × V)} {Q : Unit → Shared → Prop} {E : Value → Shared → Prop} {A : Around} {B newId initId : String} {bmB : List Value}
theorem fieldG2 (T : OvC X.K C B newId initId bmB) (I : Inv X pins σ H s) (e : H a = some (exo a C (some dx))) (ed : H dx = some (exd dx fs)) (hl : fs.length ≤ 900) (hno : PySem.W.findIn X.K (.ref C) f = some none) (ry : RelV y u)
    (h : ∀ s', Inv X pins σ (upd H dx (exd dx ((f, y) :: fs))) s' → Q () s') : wpAny (model X.prog X.w) A (setAttr (.ref a) f u) Q E s := by
  obtain ⟨nm, q, N, bs, bm, sn, sub, ab, col, dd, k0, k1, k2, k3, k5, hC, hbm⟩ := T.cls
  have hcl : ∃ cd, PySem.W.clsIn X.K C = some cd ∧ cd.mro = .ref C :: bm ∧ cd.hasDict = true := by
    refine ⟨⟨nm, bs, .ref C :: bm, N, q, true, sn, sub, ab, col, false⟩, ?_, rfl, rfl⟩
    unfold PySem.W.clsIn
    rw [hC]
  obtain ⟨cd, c1, c2, c3⟩ := hcl
  obtain ⟨t1, ho⟩ := exo_at I.hok e
  obtain ⟨mA, hns, rel⟩ := exd_at I.hok ed
  have hw := within_of rel
  obtain ⟨hp, g, dr, tk, os⟩ := s
  obtain ⟨oD, _, _, hoD, _, _⟩ := hns.count hw
  refine PySem.W.set_plain I.kIn (ox := { cls := .ref C, dict := some dx, data := .fields #[.ref t1, .none, .none, .none, .bool false, .none] }) (od := some oD) ⟨ho, rfl, rfl, hoD⟩ T.sa ?_
  refine osaG2 I.kIn ho hns hw (by rw [List.length_map]; omega) c1 (by rw [c2]; exact hbm) (fun z => ?_) T.obj T.pas c3 hno (fun h2 tk2 kp hn => ?_)
  · have z2 := T.obj
    rw [z] at z2
    cases z2
  have there : ∃ o, h2.get? dx = some o := hn.elim fun o z => z.elim fun _ z => z.elim fun _ z => ⟨o, z.1⟩
  exact h _ (I.write (t' := tk2) (x := dx) (e := dx) (o := exd dx ((f, y) :: fs)) (by rw [ed]; exact True.intro) (.inl rfl) kp there (exd_ok hn (relO_put ry rel)))
end
/-- self.f = e, a further field of such an error -/
def tFieldG2 (K : PySem.W.Frag) (f : Str) (to te : TE) : TS := fun D σ H => te σ H fun y H1 => to σ H1 fun x H2 => ∃ (a C dx : Addr) (fs : List (Str × V)) (B newId initId : String) (bmB : List Value), x = .ref a ∧ OvC K C B newId initId bmB ∧ PySem.W.findIn K (.ref C) f = some none ∧
  H2 a = some (exo a C (some dx)) ∧ H2 dx = some (exd dx fs) ∧ fs.length ≤ 900 ∧ D.nx σ (upd H2 dx (exd dx ((f, y) :: fs)))
section
variable {X : Cx} {o e : Expr} {to te : TE} {f : Str} {q1 pos : Pos}
theorem ps_fieldG2 (ho : PE X o to) (he : PE X e te) (hs : swapsWith e (some (.Attribute o f q1)) pos.line X.env = pure false := by rfl) : PS X (.Assign [.Attribute o f q1] e pos) (tFieldG2 X.K f to te) := by
  refine ⟨fun pins s σ H D I h => ?_⟩
  refine plainObj_wpAny_Assign_Attribute (thn (he.run pins s σ H _ I h) fun v s1 ⟨y, H1, I1, r1, z1⟩ => thn (ho.run pins s1 σ H1 _ I1 z1) fun u s2 ⟨x, H2, I2, r2, a, C, dx, fs, B, newId, initId, bmB, ex, T, hno, ea, ed, hl, z⟩ => ?_) hs
  subst ex
  obtain rfl : u = Value.ref a := r2
  exact fieldG2 T I2 ea ed hl hno r1 fun s' J => ⟨σ, _, J, z⟩
end
/-- __init__ of such an error: self.f = y; self.g = z -/
def spInit2 (C : Addr) (f g : Str) : Sp := fun vs H Q _ => ∃ (a : Addr) (y z : V), vs = [.ref a, y, z] ∧ H a = some (exo a C none) ∧ ∀ dx, H dx = none → dx ≠ a → Q .non (upd (upd (upd H dx (exd dx [(f, y)])) a (exo a C (some dx))) dx (exd dx [(g, z), (f, y)]))
/-- raising it: what is left to be shown -/
theorem err_read2 {C : Addr} {f g : Str} {H : Hp} {v u : V} {Q : XK} (h : ∀ d H', H d = none → Same H H' → H' d = some (.xd [(g, u), (f, v)]) → Q (.ref C) (some d) H') :
    [v, u].length ≤ 1000 ∧ ∀ a, H a = none → spInit2 C f g (.ref a :: ([v, u] ++ [])) (upd H a (exo a C none)) (fun x H2 => x = .non ∧ ∃ (d : Addr) (fs : List (Str × V)), H2 a = some (exo a C (some d)) ∧ H2 d = some (exd d fs) ∧ H d = none ∧ Q (.ref C) (some d) (upd (del H2 a) d (.xd fs))) (fun _ _ _ => False) := by
  refine ⟨by show 2 ≤ 1000; decide, fun a na => ⟨a, v, u, rfl, upd_same, fun dx nd ne => ⟨rfl, dx, [(g, u), (f, v)], by rw [upd_ne (Ne.symm ne), upd_same], upd_same, ?_, ?_⟩⟩⟩
  · rw [upd_ne ne] at nd
    exact nd
  · have nd' : H dx = none := by rw [upd_ne ne] at nd; exact nd
    refine h dx _ nd' (fun b o e => ?_) upd_same
    have nb : b ≠ dx := ne_of_none e nd'
    have nba : b ≠ a := ne_of_none e na
    rw [upd_ne nb, del_ne nba, upd_ne nb, upd_ne nba, upd_ne nb, upd_ne nba]
    exact e
/-- isinstance(e, (c1, c2, ..)) in the suite -/
def rIsST (K : PySem.W.Frag) (a : Addr) (cls : Value) (d : Option Addr) : List V → Hp → VK → Prop := fun xs H Q => ∃ (C dd tp : Addr) (fs : List (Str × V)) (cs : List V) (us : List Value) (b : Bool), xs = [.ref a, .ref tp] ∧ cls = .ref C ∧ d = some dd ∧ H dd = some (.xd fs) ∧ ExcC K C ∧ H tp = some (.tup cs) ∧ Paired ClsV cs us ∧
  PySem.W.kitAny K (.ref C) us = some b ∧ Q (.bl b) H
theorem cr_isST {X : Cx} {a : Addr} {oe : Obj} {cls : Value} {d : Option Addr} {pn : List (Addr × Obj)} (hz : Zc cls d oe) (hf : ∃ vs, oe.data = .fields vs) : CallR (X.suite a ((a, oe) :: pn)) (.builtin "isinstance") (rIsST X.K a cls d) := by
  intro pins s σ H xs ws Q I r h
  obtain ⟨C, dd, tp, fs, cs, us, b, rfl, rfl, rfl, hd, T, hT, k, e, q⟩ := h
  obtain ⟨u1, u2, rfl, r1, r2⟩ := vals2 r
  cases r1
  cases (show u2 = Value.ref tp from r2)
  obtain ⟨ha, _⟩ := I.pin (a, oe) (List.mem_append_left _ List.mem_cons_self)
  obtain ⟨vs, hv⟩ := hf
  obtain ⟨mA, hns, hr⟩ := (show ObjOk X.prog X.w H s.heap dd (.xd fs) from I.hok dd _ hd)
  obtain ⟨od, ho, hl⟩ := lookIn_ns hns
  obtain ⟨_, its, rv, ⟨oc, od', dt, sl⟩, h1, h2, n, h3⟩ := (show ObjOk X.prog X.w H s.heap tp (.tup cs) from I.hok tp _ hT)
  obtain rfl := ClsV.all k rv
  simp only at h2 h3
  subst h2 h3
  exact PySem.W.kia_tup (err_kit T) I.kIn ⟨oe, od, ha, hz.1, by unfold PySem.W.notCls; rw [hv] <;> rfl, by rw [hz.2]; exact ho⟩ h1 e (fun z => nomatch z) fun tk => ⟨.bl b, H, I.tok tk, rfl, q⟩
end Mo

namespace Mo
open PySem PySem.Spec PyProof.Rows L2
theorem vals_app : ∀ {vs : List V} {us : List Value} {zs : List V} {ws : List Value}, Vals vs us → Vals zs ws → Vals (vs ++ zs) (us ++ ws)
  | _, _, _, _, .nil, h => h
  | _, _, _, _, .cons a r, h => .cons a (vals_app r h)
end Mo

/-! ### errors made as values, by position and by name -/
namespace Mo
open PySem PySem.Spec
section
variable {M : Model} {A : Around} {E : Value → Shared → Prop} {h : Heap} {g : Array GenState} {d : Drawn} {t : Nat} {os : OsState}
variable {nm q : Str} {C N : Addr} {bs bm bmN : List Value} {hdct : Bool} {sn : List Str} {sub : List Value} {ab : Bool} {col : Option Bool} {dd : Option Addr} {k0 k1 k2 k3 k5 : Option Value} {B newId initId : String} {kw : List (Str × Value)}
theorem chk_newK (F : ExcBaseFacts B newId initId bmN) (hb : bm.contains (.type B) = true) {rest : List Value} {Q : Unit → Shared → Prop}
    (hC : h.get? C = some (excClassObj nm q C N bs bm hdct sn sub ab col dd k0 k1 k2 k3 k5 newId)) (hq : Q () ⟨h, g, d, t, os⟩) : wpAny M A (checkBuiltinCall newId ⟨.ref C :: rest, kw⟩) Q E ⟨h, g, d, t, os⟩ := by
  have hcont : (Value.ref C :: bm).contains (.type B) = true := by rw [List.contains_cons, hb, Bool.or_true]
  have hstar := F.noStar
  simp only [checkBuiltinCall, F.newKind, F.newSplit, F.newRow]
  repeat (first | refine wpAny_loadPart_at hC ?_ | (refine wpAny_isSubtype_exc hC ?_; rw [hcont]) | refine wpAny_staticBase_exc hC ?_ | refine wpAny_madeBy_exc hC ?_ | simp only [bne_self_eq_false, Bool.false_eq_true, if_false] | wp_step)
  exact hq
theorem chk_typeK {rest : List Value} {Q : Unit → Shared → Prop} (hC : h.get? C = some (excClassObj nm q C N bs bm hdct sn sub ab col dd k0 k1 k2 k3 k5 newId))
    (hq : Q () ⟨h, g, d, t, os⟩) : wpAny M A (checkBuiltinCall "type.__call__" ⟨.ref C :: rest, kw⟩) Q E ⟨h, g, d, t, os⟩ := by
  have f3 := tc_sub
  have hT : (⟨h, g, d, t, os⟩ : Shared).TypeIs (.ref C) "type" := ⟨_, hC, rfl⟩
  simp only [checkBuiltinCall, tc_kind, tc_split]
  repeat (any_goals (first | assumption | with_reducible refine wpAny_loadPart_at hC ?_ | with_reducible refine wpAny_onRaise ?_ | with_reducible refine wpAny_map ?_ | wp_step))
end
section
variable {prog : Program} {w : World} {A : Around} {E : Value → Shared → Prop} {R : Result → Shared → Prop} {h : Heap} {g : Array GenState} {d : Drawn} {t : Nat} {os : OsState}
variable {nm q : Str} {C N : Addr} {bs bm bmN : List Value} {hdct : Bool} {sn : List Str} {sub : List Value} {ab : Bool} {col : Option Bool} {dd : Option Addr} {k0 k1 k2 k3 k5 : Option Value} {B newId initId : String} {kw : List (Str × Value)}
theorem new_K (F : ExcBaseFacts B newId initId bmN) (hb : bm.contains (.type B) = true) (hna : bm.contains (.type "AttributeError") = false) (hnn : bm.contains (.type "NameError") = false) {rest : List Value}
    (hC : h.get? C = some (excClassObj nm q C N bs bm hdct sn sub ab col dd k0 k1 k2 k3 k5 newId))
    (hq : R (.ok (.ret (.ref (h.objs.size + 1)))) ⟨(h.push { cls := .type "tuple", data := .seq rest.toArray }).push
      { cls := .ref C, data := .fields #[.ref h.objs.size, .none, .none, .none, .bool false, .none] }, g, d, t, os⟩) (hrest : rest.length ≤ sizeLine) :
    codeAny (model prog w) A (.builtin newId ⟨.ref C :: rest, kw⟩) R ⟨h, g, d, t, os⟩ := by
  have hends := F.ends
  have hcB : (Value.ref C :: bm).contains (.type B) = true := by rw [List.contains_cons, hb, Bool.or_true]
  have hcA : (Value.ref C :: bm).contains (.type "AttributeError") = false := by rw [List.contains_cons, hna]; rfl
  have hcN : (Value.ref C :: bm).contains (.type "NameError") = false := by rw [List.contains_cons, hnn]; rfl
  refine codeAny_builtinAt F.entry ?_
  unfold Builtin.«BaseException.__new__»
  refine PySem.wpAt_bind ?_
  show PySem.wpAt _ _ _ (stack >>= _) _ _ _
  refine PySem.wpAt_bind (wpAt_stack fun p below => wpAt_of_wpAny ?_)
  wp_walk
  refine wpAt_of_wpAny ?_
  rw [F.owner]
  repeat (first | with_reducible refine wpAny_madeHere_exc F.canon hC ?_ | with_reducible refine wpAny_loadPart_at hC ?_ | (with_reducible refine wpAny_isSubtype_exc hC ?_; first | rw [hcB] | rw [hcA] | rw [hcN]) | wp_step)
  show R _ _
  rw [Heap.size_push]
  exact hq
theorem type_callK (F : ExcBaseFacts B newId initId bmN) (hb : bm.contains (.type B) = true) (hna : bm.contains (.type "AttributeError") = false) (hnn : bm.contains (.type "NameError") = false) {rest : List Value} {fI : Addr} {Q : Fin → Shared → Prop}
    (hC : h.get? C = some (excClassObj nm q C N bs bm hdct sn sub ab col dd k0 k1 k2 k3 k5 newId))
    (hi : W.Looks (model prog w) h (typeLookup (.ref C) "__init__") (some (.ref fI))) (hbi : ∀ self, W.Looks (model prog w) h (bindSpecial (.ref fI) self) (.ref fI, [self])) (hrest : rest.length ≤ sizeLine)
    (hq : codeAny (model prog w) A (.call (.ref fI) ⟨.ref (h.objs.size + 1) :: rest, kw⟩)
      (fun r s' => match r with | .ok (.ret v) => v = .none ∧ Q (.done (.ret (.ref (h.objs.size + 1)))) s' | .ok _ => False | .error e => E e s')
      ⟨(h.push (W.kdv_tup rest)).push (HandSPX.excO C h.objs.size), g, d, t, os⟩) :
    wpAny (model prog w) A (Builtin.«type.__call__» ⟨.ref C :: rest, kw⟩) Q E ⟨h, g, d, t, os⟩ := by
  repeat (first | with_reducible refine wpAny_loadPart_at hC ?_ | with_reducible refine wpAny_madeBy_exc hC ?_ | wp_step)
  refine codeAny_call_builtin_code (Code.quiet_builtin _ F.quiet) (chk_newK F hb hC ?_)
  refine new_K F hb hna hnn hC ?_ hrest
  show wpAny _ _ _ _ _ _
  have k : ∀ b o, h.get? b = some o → ((h.push (W.kdv_tup rest)).push (HandSPX.excO C h.objs.size)).get? b = some o := fun b o e => Heap.get?_push_of_some _ (Heap.get?_push_of_some _ e)
  have hC₁ := k _ _ hC
  have hget : ((h.push (W.kdv_tup rest)).push (HandSPX.excO C h.objs.size)).get? (h.objs.size + 1) = some (HandSPX.excO C h.objs.size) := by heap_get
  have hcC : (Value.ref C :: bm).contains (.ref C) = true := by simp
  have i1 := hi.keeps k
  have b1 := (hbi (.ref (h.objs.size + 1))).keeps k
  unfold isInstance
  repeat (first | with_reducible refine wpAny_loadPart_at hget ?_ | (with_reducible refine wpAny_isSubtype_exc hC₁ ?_; rw [hcC]) | wp_step)
  show wpAny _ _ (typeLookup (.ref C) _) _ _ _
  refine i1.at ?_
  refine wpAny_holding (wpAny_bind (b1.at ?_))
  refine wpAny_bind (wpAny_call (codeAny_mono hq fun r s' z => ?_))
  rcases r with e | (v | _ | _ | _) <;> first | exact z | exact z.elim | skip
  obtain ⟨rfl, z⟩ := z
  first
    | exact wpAny_pure (wpAny_pure z)
    | (wp_walk; exact z)
theorem call_K (F : ExcBaseFacts B newId initId bmN) (hb : bm.contains (.type B) = true) (hna : bm.contains (.type "AttributeError") = false) (hnn : bm.contains (.type "NameError") = false) {rest : List Value} {fI : Addr}
    (hC : h.get? C = some (excClassObj nm q C N bs bm hdct sn sub ab col dd k0 k1 k2 k3 k5 newId))
    (hi : W.Looks (model prog w) h (typeLookup (.ref C) "__init__") (some (.ref fI))) (hbi : ∀ self, W.Looks (model prog w) h (bindSpecial (.ref fI) self) (.ref fI, [self])) (hrest : rest.length ≤ sizeLine)
    (hq : codeAny (model prog w) (A.under (.builtin "type.__call__" ⟨.ref C :: rest, kw⟩)) (.call (.ref fI) ⟨.ref (h.objs.size + 1) :: rest, kw⟩) (W.InitBack (h.objs.size + 1) R)
      ⟨(h.push (W.kdv_tup rest)).push (HandSPX.excO C h.objs.size), g, d, t, os⟩) :
    codeAny (model prog w) A (.call (.ref C) ⟨rest, kw⟩) R ⟨h, g, d, t, os⟩ := by
  have f1 := tc_lookup
  have f2 := tc_bind (.ref C)
  have hTy : (⟨h, g, d, t, os⟩ : Shared).TypeIs (.ref C) "type" := ⟨_, hC, rfl⟩
  refine codeAny_of_tree ?_
  show wpAny _ _ (callAny (.ref C) _) _ _ _
  repeat (any_goals (first | assumption | with_reducible refine wpAny_loadPart_at hC ?_ | wp_step))
  refine ⟨rfl, ?_⟩
  refine codeAny_call_builtin_at (Code.quiet_builtin _ (by decide +kernel)) entry_typeCall (chk_typeK hC (type_callK F hb hna hnn hC hi hbi hrest ?_))
  refine codeAny_mono hq fun r s' z => ?_
  rcases r with e | (v | _ | _ | _) <;> exact z
end
end Mo

/-! ### errors made as values: their fields, and the tracked heap -/
namespace Mo
open PySem PySem.Spec PyProof.Rows L2
/-- what the written part says of an own error class at C; B is the one of Python's whose __new__ it takes, bmB the tail of its order -/
structure OvN (K : PySem.W.Frag) (C : Addr) (B newId initId : String) (bmN bmB : List Value) : Prop where
  cls : ∃ nm q N bs bm sn sub ab col dd k0 k1 k2 k3 k5, K.lookup C = some (excClassObj nm q C N bs bm true sn sub ab col dd k0 k1 k2 k3 k5 newId) ∧ PySem.W.excTail bmB bm = true
  bas : ExcBaseFacts B newId initId bmN
  hB : bmB.contains (.type B) = true
  hA : bmB.contains (.type "AttributeError") = false
  hN : bmB.contains (.type "NameError") = false
  obj : bmB.contains (.type "object") = true
  pas : ∀ self, refuseLoop self "__setattr__" bmB = pure ()
  sa : PySem.W.findIn K (.ref C) "__setattr__" = some (some (.builtin "object.__setattr__"))
  exC : PySem.W.subIn K (.ref C) (.type "BaseException") = some true
  tyC : PySem.W.typeIn K (.ref C) = some (.type "type")
  kC : PySem.W.keepIn K (.ref C) = true
section
variable {X : Cx} {pins : List (Addr × Obj)} {σ : L2.St} {H : Hp} {s : Shared} {a C : Addr} {f : Str} {y : V} {u : Value} {Q : Unit → Shared → Prop} {E : Value → Shared → Prop} {A : Around} {B newId initId : String} {bmB bmN : List Value}
theorem fieldN (T : OvN X.K C B newId initId bmN bmB) (I : Inv X pins σ H s) (e : H a = some (exo a C none)) (hno : PySem.W.findIn X.K (.ref C) f = some none) (ry : RelV y u)
    (h : ∀ dx s', H dx = none → dx ≠ a → Inv X pins σ (upd (upd H dx (exd dx [(f, y)])) a (exo a C (some dx))) s' → Q () s') : wpAny (model X.prog X.w) A (setAttr (.ref a) f u) Q E s := by
  obtain ⟨nm, q, N, bs, bm, sn, sub, ab, col, dd, k0, k1, k2, k3, k5, hC, hbm⟩ := T.cls
  have hcl : ∃ cd, PySem.W.clsIn X.K C = some cd ∧ cd.mro = .ref C :: bm ∧ cd.hasDict = true := by
    refine ⟨⟨nm, bs, .ref C :: bm, N, q, true, sn, sub, ab, col, false⟩, ?_, rfl, rfl⟩
    unfold PySem.W.clsIn
    rw [hC]
  obtain ⟨cd, c1, c2, c3⟩ := hcl
  obtain ⟨t1, ho⟩ := exo_at I.hok e
  obtain ⟨hp, g, dr, tk, os⟩ := s
  refine PySem.W.set_plain I.kIn (ox := { cls := .ref C, dict := none, data := .fields #[.ref t1, .none, .none, .none, .bool false, .none] }) (od := none) ⟨ho, rfl, rfl, trivial⟩ T.sa ?_
  refine osaG I.kIn ho c1 (by rw [c2]; exact hbm) (fun z => ?_) T.obj T.pas c3 hno (fun h2 tk2 dx kp dn ne hx hn => ?_)
  · have z2 := T.obj
    rw [z] at z2
    cases z2
  have free : H dx = none := I.hok.fresh dn
  have old : ∀ {b : Addr} {o : Obj}, hp.get? b = some o → b ≠ dx := fun {b o} q => Nat.ne_of_lt (Nat.lt_of_lt_of_le (Heap.lt_size q) dn)
  have off : ∀ {b : Addr}, H b = none → b ≠ a := fun {b} n z => by
    subst z
    rw [e] at n
    cases n
  have un : Un X.fs [] H (upd (upd H dx (exd dx [(f, y)])) a (exo a C (some dx))) hp h2 := by
    constructor
    · exact fun b o q n _ _ => kp b o (off n) q
    · exact fun b o q n _ _ => ⟨o.slots, kp b o (off n) q⟩
    · exact fun b o q n _ => by
        rw [upd_ne (off n), upd_ne (old q)]
        exact n
    · intro b o q _
      by_cases hb : b = a
      · subst hb
        exact ⟨_, hx⟩
      · exact ⟨o, kp b o hb q⟩
    · exact fun b xs q => by
        rw [upd_ne (at_ne e q exo_tup), upd_ne (ne_of_none q free)]
        exact q
    · exact fun b o v q => by
        rw [upd_ne (at_ne e q exo_frz), upd_ne (ne_of_none q free)]
        exact q
    · exact fun b ps q => ⟨#[], by
        rw [upd_ne (at_ne e q exo_tbl), upd_ne (ne_of_none q free), q]
        simp⟩
  refine h dx _ free ne (I.un (t' := tk2) un fun b o q => ?_)
  by_cases hb : b = a
  · subst hb
    rw [upd_same] at q
    obtain rfl := Option.some.inj q
    exact exo_ok hx
  rw [upd_ne hb] at q
  by_cases hd : b = dx
  · subst hd
    rw [upd_same] at q
    obtain rfl := Option.some.inj q
    exact exd_ok hn (relO_put (fs := []) ry fun _ => True.intro)
  rw [upd_ne hd] at q
  refine (I.hok b o q).stay (fun c v hc z => kp c v ?_ z) (fun c hc => ?_) (fun c xs hc => ?_)
  · rcases hc with rfl | hc
    · exact hb
    · exact at_ne e hc exo_own
  · rw [upd_ne (at_ne e hc exo_own), upd_ne (ne_of_none hc free)]
    exact hc
  · rw [upd_ne (at_ne e hc exo_tup), upd_ne (ne_of_none hc free)]
    exact hc
end
/-- self.f = e, the one field of such an error -/
def tFieldN (K : PySem.W.Frag) (f : Str) (to te : TE) : TS := fun D σ H => te σ H fun y H1 => to σ H1 fun x H2 => ∃ (a C : Addr) (B newId initId : String) (bmB bmN : List Value), x = .ref a ∧ OvN K C B newId initId bmN bmB ∧ PySem.W.findIn K (.ref C) f = some none ∧
  H2 a = some (exo a C none) ∧ ∀ dx, H2 dx = none → dx ≠ a → D.nx σ (upd (upd H2 dx (exd dx [(f, y)])) a (exo a C (some dx)))
section
variable {X : Cx} {o e : Expr} {es : List Expr} {to te : TE} {ta : TA} {f : Str} {p q1 pos : Pos} {B newId initId : String} {bmB bmN : List Value}
theorem ps_fieldN (ho : PE X o to) (he : PE X e te) (hs : swapsWith e (some (.Attribute o f q1)) pos.line X.env = pure false := by rfl) : PS X (.Assign [.Attribute o f q1] e pos) (tFieldN X.K f to te) := by
  refine ⟨fun pins s σ H D I h => ?_⟩
  refine plainObj_wpAny_Assign_Attribute (thn (he.run pins s σ H _ I h) fun v s1 ⟨y, H1, I1, r1, z1⟩ => thn (ho.run pins s1 σ H1 _ I1 z1) fun u s2 ⟨x, H2, I2, r2, a, C, B, newId, initId, bmB, bmN, ex, T, hno, ea, z⟩ => ?_) hs
  subst ex
  obtain rfl : u = Value.ref a := r2
  exact fieldN T I2 ea hno r1 fun dx s' n ne J => ⟨σ, _, J, z dx n ne⟩
end
section
variable {X : Cx} {pins : List (Addr × Obj)} {σ : L2.St} {H : Hp} {s : Shared} {a C dx : Addr} {f : Str} {y : V} {u : Value} {fs : List (Str × V)} {Q : Unit → Shared → Prop} {E : Value → Shared → Prop} {A : Around} {B newId initId : String} {bmB bmN : List Value}
theorem fieldN2 (T : OvN X.K C B newId initId bmN bmB) (I : Inv X pins σ H s) (e : H a = some (exo a C (some dx))) (ed : H dx = some (exd dx fs)) (hl : fs.length ≤ 900) (hno : PySem.W.findIn X.K (.ref C) f = some none) (ry : RelV y u)
    (h : ∀ s', Inv X pins σ (upd H dx (exd dx ((f, y) :: fs))) s' → Q () s') : wpAny (model X.prog X.w) A (setAttr (.ref a) f u) Q E s := by
  obtain ⟨nm, q, N, bs, bm, sn, sub, ab, col, dd, k0, k1, k2, k3, k5, hC, hbm⟩ := T.cls
  have hcl : ∃ cd, PySem.W.clsIn X.K C = some cd ∧ cd.mro = .ref C :: bm ∧ cd.hasDict = true := by
    refine ⟨⟨nm, bs, .ref C :: bm, N, q, true, sn, sub, ab, col, false⟩, ?_, rfl, rfl⟩
    unfold PySem.W.clsIn
    rw [hC]
  obtain ⟨cd, c1, c2, c3⟩ := hcl
  obtain ⟨t1, ho⟩ := exo_at I.hok e
  obtain ⟨mA, hns, rel⟩ := exd_at I.hok ed
  have hw := within_of rel
  obtain ⟨hp, g, dr, tk, os⟩ := s
  obtain ⟨oD, _, _, hoD, _, _⟩ := hns.count hw
  refine PySem.W.set_plain I.kIn (ox := { cls := .ref C, dict := some dx, data := .fields #[.ref t1, .none, .none, .none, .bool false, .none] }) (od := some oD) ⟨ho, rfl, rfl, hoD⟩ T.sa ?_
  refine osaG2 I.kIn ho hns hw (by rw [List.length_map]; omega) c1 (by rw [c2]; exact hbm) (fun z => ?_) T.obj T.pas c3 hno (fun h2 tk2 kp hn => ?_)
  · have z2 := T.obj
    rw [z] at z2
    cases z2
  have there : ∃ o, h2.get? dx = some o := hn.elim fun o z => z.elim fun _ z => z.elim fun _ z => ⟨o, z.1⟩
  exact h _ (I.write (t' := tk2) (x := dx) (e := dx) (o := exd dx ((f, y) :: fs)) (by rw [ed]; exact True.intro) (.inl rfl) kp there (exd_ok hn (relO_put ry rel)))
end
/-- self.f = e, a further field of such an error -/
def tFieldN2 (K : PySem.W.Frag) (f : Str) (to te : TE) : TS := fun D σ H => te σ H fun y H1 => to σ H1 fun x H2 => ∃ (a C dx : Addr) (fs : List (Str × V)) (B newId initId : String) (bmB bmN : List Value), x = .ref a ∧ OvN K C B newId initId bmN bmB ∧ PySem.W.findIn K (.ref C) f = some none ∧
  H2 a = some (exo a C (some dx)) ∧ H2 dx = some (exd dx fs) ∧ fs.length ≤ 900 ∧ D.nx σ (upd H2 dx (exd dx ((f, y) :: fs)))
section
variable {X : Cx} {o e : Expr} {to te : TE} {f : Str} {q1 pos : Pos}
theorem ps_fieldN2 (ho : PE X o to) (he : PE X e te) (hs : swapsWith e (some (.Attribute o f q1)) pos.line X.env = pure false := by rfl) : PS X (.Assign [.Attribute o f q1] e pos) (tFieldN2 X.K f to te) := by
  refine ⟨fun pins s σ H D I h => ?_⟩
  refine plainObj_wpAny_Assign_Attribute (thn (he.run pins s σ H _ I h) fun v s1 ⟨y, H1, I1, r1, z1⟩ => thn (ho.run pins s1 σ H1 _ I1 z1) fun u s2 ⟨x, H2, I2, r2, a, C, dx, fs, B, newId, initId, bmB, bmN, ex, T, hno, ea, ed, hl, z⟩ => ?_) hs
  subst ex
  obtain rfl : u = Value.ref a := r2
  exact fieldN2 T I2 ea ed hl hno r1 fun s' J => ⟨σ, _, J, z⟩
end
end Mo

/-! ### errors made as values: the rules -/
namespace Mo
open PySem PySem.W PySem.Spec PySem.Calls PyProof.Rows
section
variable {prog : Program} {w : World} {A : Around} {E : Value → Shared → Prop} {s : Shared} {K : Frag} {x D : Addr} {ox : Obj} {oy : Option Obj}
theorem err_classO {Q : Option Value → Shared → Prop} (C : L2.ExcC K D) (X : K.In s.heap) (I : PySem.W.InstAt s.heap x ox D oy) (h : Q (some (.ref D)) { s with toks := s.toks + 1 }) : wpAny (model prog w) A (getAttr? (.ref x) "__class__") Q E s := by
  have hf : findObj K D oy "__class__" = some (.bind (.builtin "getset_descriptor.__get__") (.builtin "object.__class__")) := by
    obtain ⟨cd, hc, _⟩ := any_some C.hd
    unfold findObj
    rw [hc, Option.bind_some, C.ha, Option.bind_some]
    simp [C.hn, C.ht]
  obtain ⟨hp, g, d, t, os⟩ := s
  have a0 := I.type (M := model prog w)
  have a1 := looks_findIn (M := model prog w) X C.hg
  have a2 := looks_findIn (M := model prog w) X C.hk
  have a3 := looks_find (M := model prog w) X I hf
  have sub : Looks (model prog w) hp (isInstance (.ref x) (.type "BaseException")) true := a0.andThen (looks_subIn X C.hs)
  have y2 : (Value.builtin "BaseException.__getattribute__" == Value.builtin "object.__getattribute__") = false := by decide +kernel
  have y1 : (onTheHeap (Value.ref D) && Value.builtin "BaseException.__getattribute__" == Value.builtin "object.__getattribute__") = false := by rw [y2]; rfl
  have y0 : (false && onTheHeap (Value.builtin "BaseException.__getattribute__")) = false := rfl
  unfold getAttr? getAttrBy? getAttrBy
  refine wpAny_bind (wpAny_mkText (wpAny_bind (wpAny_attempt (wpAny_holding (wpAny_bind (a0.at (wpAny_bind (a1.at ?_))))))))
  show wpAny _ _ (if (onTheHeap (Value.ref D) && Value.builtin "BaseException.__getattribute__" == Value.builtin "object.__getattribute__") = true then _ else _) _ _ _
  rw [y1, if_neg Bool.false_ne_true]
  unfold getAttrByItsOwn hookBefore
  refine wpAny_bind (by
    rw [if_pos (show onTheHeap (Value.ref D) = true from rfl)]
    refine a2.at (wpAny_bind (wpAny_attempt (wpAny_holding ?_)))
    unfold callGetattribute
    rw [y0, if_neg Bool.false_ne_true]
    unfold boundAndCalled
    rw [PySem.F.excAttr_ValueError.ga.bind (.ref x)]
    refine wpAny_bind (wpAny_pure (by
      show wpAny _ _ (call (.builtin "BaseException.__getattribute__") [.ref x, .str "__class__" t]) _ _ _
      refine wpAny_call (codeAny_call_builtin PySem.F.excAttr_ValueError.ga.plain PySem.F.entry_bexc_ga (@check_slot (model prog w) _ _ ⟨hp, g, d, t + 1, os⟩ "BaseException.__getattribute__" "BaseException" "__getattribute__" (.ref x) [.str "__class__" t] [] _ (by decide +kernel) (by decide +kernel) sub (PySem.F.args_bexc_ga (.ref x) (.str "__class__" t)) ?_))
      unfold Builtin.«object.__getattribute__»
      refine wpAny_bind (wpAny_of_eq (a := ((Value.ref x : Value), [Value.str "__class__" t])) (by first | rfl | (simp only [slotArgs]; rfl)) (wpAny_bind (wpAny_pure (wpAny_bind (a0.at (wpAny_bind (a3.at ?_)))))))
      show wpAny _ _ (holding [Value.builtin "object.__class__"] (call (.builtin "getset_descriptor.__get__") [.builtin "object.__class__", .ref x, .ref D]) >>= ret) _ _ _
      refine wpAny_bind (wpAny_holding (wpAny_call (class_get (s := ⟨hp, g, d, t + 1, os⟩) (ox := ox) (od := oy) X I C.hm (wpAny_pure ?_))))
      show wpAny _ _ (handedOut (.ref D)) _ _ _
      rw [handedOut_of (v := .ref D) rfl]
      first | exact wpAny_pure (wpAny_pure h) | exact wpAny_pure h | exact wpAny_pure (wpAny_bind (wpAny_pure (wpAny_pure h))))))
theorem err_kitO (C : L2.ExcC K D) : KitX K (.ref x) (.ref D) (fun h => ∃ ox oy, PySem.W.InstAt h x ox D oy) where
  ty := fun _ _ _ ⟨_, _, I⟩ => I.type
  it := fun M h X _ => by
    obtain ⟨cd, hc, _⟩ := any_some C.hd
    unfold clsIn at hc
    split at hc
    · rename_i c' d' cd' sl' ho
      intro A' Q' E' s' k q
      unfold isType loadHead
      exact wpAny_bind (wpAny_loadPart (k _ _ (X _ _ ho)) (wpAny_pure q))
    · cases hc
  ne := fun h tp dd its n sl X htp => by
    obtain ⟨cd, hc, _⟩ := any_some C.hd
    refine Bool.eq_false_iff.mpr fun q => ?_
    obtain rfl : D = tp := Value.ref.inj (beq_iff_eq.mp q)
    unfold clsIn at hc
    split at hc
    · rename_i c' d' cd' sl' ho
      cases (X _ _ ho).symm.trans htp
    · cases hc
  ca := fun X ⟨_, _, I⟩ k => err_classO C X I k
end
end Mo
namespace Mo
open PySem PySem.Spec PyProof.Rows L2
section
variable {X : Cx} {pins : List (Addr × Obj)} {σ : L2.St} {H : Hp} {s : Shared} {B newId initId : String} {bmN bmB : List Value} {C fI : Addr} {k : Nat} {fd : FuncData} {ps ks : List Str} {sp : Sp} {CX : CXT}
/-- what C(..) leaves at a -/
def MadeQ (C a : Addr) (Q : VK) : VK := fun v H3 => v = .non ∧ ((∃ (d : Addr) (fs : List (Str × V)), H3 a = some (exo a C (some d)) ∧ H3 d = some (exd d fs) ∧ d ≠ a ∧ Q (.ref a) (upd (upd H3 a (exV a (.ref C) (some d))) d (.xd fs))) ∨
  (H3 a = some (exo a C none) ∧ Q (.ref a) (upd H3 a (exV a (.ref C) none))))
theorem made_run (T : OvN X.K C B newId initId bmN bmB) (iC : PySem.W.findIn X.K (.ref C) "__init__" = some (some (.ref fI))) (tI : PySem.W.typeIn X.K (.ref fI) = some (.type "function"))
    (F1 : FnOk X.prog X.w X.K X.mg X.base CX k fI fd ps sp) (hr : Room (k + 1) X.A) (hx : Passes CX X (fun _ _ _ => False)) (I : Inv X pins σ H s) {us : List Value} {kw : List (Str × Value)} (hus : us.length ≤ sizeLine) {Q : VK}
    (hb : ∀ a : Addr, ∃ (ws : List Value) (vs : List V), (∀ s' : Shared, X.K.In s'.heap → BindsTo s' fd ⟨.ref a :: us, kw⟩ (ps.zip ws)) ∧ Vals vs ws ∧ (H a = none → sp vs (upd H a (exo a C none)) (MadeQ C a Q) (fun _ _ _ => False))) :
    wpAny (model X.prog X.w) X.A (call (.ref C) us kw) (EP X pins σ Q) X.xe s := by
  obtain ⟨nm, q, N, bs, bm, sn, sub, ab, col, dd, k0, k1, k2, k3, k5, hC, hbm⟩ := T.cls
  obtain ⟨hp, g, dr, tk, os⟩ := s
  have le1 : hp.objs.size ≤ hp.objs.size + 1 := Nat.le_succ _
  obtain ⟨ws, vs, hb1, hv, z1⟩ := hb (hp.objs.size + 1)
  have z2 := z1 (I.hok.fresh le1)
  have keep : ∀ b o, hp.get? b = some o → ((hp.push (PySem.W.kdv_tup us)).push (PySem.HandSPX.excO C hp.objs.size)).get? b = some o := fun b o e => Heap.get?_push_of_some _ (Heap.get?_push_of_some _ e)
  have hget : ((hp.push (PySem.W.kdv_tup us)).push (PySem.HandSPX.excO C hp.objs.size)).get? (hp.objs.size + 1) = some (PySem.HandSPX.excO C hp.objs.size) := by heap_get
  have I2 := I.laid (t' := tk) (a := hp.objs.size + 1) (o := exo (hp.objs.size + 1) C none) (h' := (hp.push (PySem.W.kdv_tup us)).push (PySem.HandSPX.excO C hp.objs.size)) keep le1 (exo_ok hget)
  have bi := hb1 ⟨(hp.push (PySem.W.kdv_tup us)).push (PySem.HandSPX.excO C hp.objs.size), g, dr, tk, os⟩ I2.kIn
  have cc : ∀ Y : String, bm.contains (.type Y) = bmB.contains (.type Y) := fun Y => PySem.W.excTail_contains Y bm hbm
  refine wpAny_call (call_K T.bas ((cc _).trans T.hB) ((cc _).trans T.hA) ((cc _).trans T.hN) (I.kIn _ _ hC) (PySem.W.looks_findIn I.kIn iC) (fun self => PySem.W.bind_fn I.kIn self tI) hus (codeAny_mono
    (F1.run _ X.stack _ _ ⟨Value.ref (hp.objs.size + 1) :: us, kw⟩ ws vs _ (fun _ _ _ => False) (hr.make C us kw) (I2.env0.make C us kw) bi hv z2) fun r s2 z3 => ?_))
  match r, z3 with
  | .error er, z3 => exact hx pins σ _ _ er s2 I2 z3
  | .ok (.ret u), z3 =>
    obtain ⟨v, H3, I3, rv, ev, z4⟩ := I2.after z3
    subst ev
    obtain ⟨h2, g2, d2, t2, os2⟩ := s2
    refine ⟨rv, ?_⟩
    rcases z4 with ⟨d, fs, ea, ed, hd, q⟩ | ⟨ea, q⟩
    · obtain ⟨t1, ho⟩ := exo_at I3.hok ea
      obtain ⟨mA, hns, rel⟩ := exd_at I3.hok ed
      have J1 := I3.write (t' := t2) (x := hp.objs.size + 1) (e := hp.objs.size + 1) (o := exV (hp.objs.size + 1) (.ref C) (some d)) (h' := h2) (by rw [ea]; exact True.intro) (.inl rfl) (fun b o _ e => e) ⟨_, ho⟩ (exV_ok ho ⟨rfl, rfl⟩ rfl)
      have hdo : ∃ o, h2.get? d = some o := by
        obtain ⟨o, _, _, e', _⟩ := hns
        exact ⟨o, e'⟩
      have J2 := J1.write (t' := t2) (x := d) (e := d) (o := .xd fs) (h' := h2) (by rw [upd_ne hd, ed]; exact True.intro) (.inl rfl) (fun b o _ e => e) hdo ⟨mA, hns, rel⟩
      exact ⟨.ref (hp.objs.size + 1), _, J2, rfl, q⟩
    · obtain ⟨t1, ho⟩ := exo_at I3.hok ea
      have J1 := I3.write (t' := t2) (x := hp.objs.size + 1) (e := hp.objs.size + 1) (o := exV (hp.objs.size + 1) (.ref C) none) (h' := h2) (by rw [ea]; exact True.intro) (.inl rfl) (fun b o _ e => e) ⟨_, ho⟩ (exV_ok ho ⟨rfl, rfl⟩ rfl)
      exact ⟨.ref (hp.objs.size + 1), _, J1, rfl, q⟩
end
/-- C(e, ..) -/
def tMkP (C : Addr) (sp : Sp) (ta : TA) : TE := fun σ H Q => ta σ H fun vs H1 => vs.length ≤ 1000 ∧ ∀ a, H1 a = none → sp (.ref a :: vs) (upd H1 a (exo a C none)) (MadeQ C a Q) (fun _ _ _ => False)
/-- C(f = e, ..) -/
def tMkK (C : Addr) (n : Nat) (sp : Sp) (gV : List V → List V) (tk : TA) : TE := fun σ H Q => tk σ H fun zs H1 => zs.length = n ∧ ∀ a, H1 a = none → sp (.ref a :: gV zs) (upd H1 a (exo a C none)) (MadeQ C a Q) (fun _ _ _ => False)
section
variable {X : Cx} {e : Expr} {es : List Expr} {kws : List Keyword} {ta tk : TA} {p pos : Pos} {x : Str} {B newId initId : String} {bmN bmB : List Value} {C fI : Addr} {k : Nat} {fd : FuncData} {ps ks : List Str} {sp : Sp} {CX : CXT} {g : List Value → List Value} {gV : List V → List V}
theorem pe_mkP (T : OvN X.K C B newId initId bmN bmB) (iC : PySem.W.findIn X.K (.ref C) "__init__" = some (some (.ref fI))) (tI : PySem.W.typeIn X.K (.ref fI) = some (.type "function"))
    (F1 : FnOk X.prog X.w X.K X.mg X.base CX k fI fd ps sp) (hr : Room (k + 1) X.A) (hb : Binds X.K fd ps []) (hx : Passes CX X (fun _ _ _ => False)) (hg : Gl X x) (hm : X.mg x = some (.ref C)) (ha : PA X (e :: es) ta)
    (hdb : (x == ("__debug__" : Str)) = false := by decide) (he : starEach (e :: es) X.env = (false, eval e X.env) :: starEach es X.env := by rfl) (hpl : (backTo pos (starEach es X.env)).any (·.1) = false := by rfl) :
    PE X (.Call (.Name x p) (e :: es) [] pos) (tMkP C sp ta) := by
  refine ⟨fun pins s σ H Q I h => ?_⟩
  refine wpAny_Call_Name_kw (ld_glob I hg hm (PySem.W.callWith_K (h₀ := X.base) I.ok.mod.kin T.kC (thn (ha.run pos pins s σ H _ I h) fun us s1 ⟨vs, H1, I1, r1, hz, z1⟩ => ⟨I1.kIn, ?_⟩) he hpl) hdb)
  show wpAny _ _ (call (.ref C) us) _ _ _
  have hus : us.length ≤ sizeLine := by
    have := r1.length
    rw [sizeLine_eq]
    omega
  refine made_run T iC tI F1 hr hx I1 (kw := []) hus fun a => ⟨.ref a :: us, .ref a :: vs, fun s' Y => ?_, .cons rfl r1, z1 a⟩
  have l := F1.len
  refine (fun b => by rw [List.append_nil] at b; exact b) (hb s' (.ref a :: us) Y ?_)
  rw [List.append_nil]
  by_cases na : H1 a = none
  · exact (Paired.length (show Vals (V.ref a :: vs) (Value.ref a :: us) from .cons rfl r1)).symm.trans (F1.len _ _ _ _ (z1 a na))
  · have n0 := I1.hok.fresh (Nat.le_refl _)
    have l0 := F1.len _ _ _ _ (z1 _ n0)
    have l1 := r1.length
    simp only [List.length_cons] at l0 ⊢
    omega
theorem pe_mk0 (T : OvN X.K C B newId initId bmN bmB) (iC : PySem.W.findIn X.K (.ref C) "__init__" = some (some (.ref fI))) (tI : PySem.W.typeIn X.K (.ref fI) = some (.type "function"))
    (F1 : FnOk X.prog X.w X.K X.mg X.base CX k fI fd ["self"] sp) (hr : Room (k + 1) X.A) (hb : Binds X.K fd ["self"] []) (hx : Passes CX X (fun _ _ _ => False)) (hg : Gl X x) (hm : X.mg x = some (.ref C))
    (hdb : (x == ("__debug__" : Str)) = false := by decide) :
    PE X (.Call (.Name x p) [] [] pos) (tMkP C sp tNil) := by
  refine ⟨fun pins s σ H Q I h => ?_⟩
  refine wpAny_Call_Name_kw (ld_glob I hg hm ?_ hdb)
  refine PySem.W.callWith_K0 I.kIn T.kC ?_
  show wpAny _ _ (call (.ref C) []) _ _ _
  obtain ⟨hz, z1⟩ := h
  exact made_run T iC tI F1 hr hx I (us := []) (kw := []) (by rw [sizeLine_eq]; decide) fun a => ⟨[.ref a], [.ref a], fun s' Y => hb s' [.ref a] Y rfl, .cons rfl .nil, z1 a⟩
theorem pe_mkK (T : OvN X.K C B newId initId bmN bmB) (iC : PySem.W.findIn X.K (.ref C) "__init__" = some (some (.ref fI))) (tI : PySem.W.typeIn X.K (.ref fI) = some (.type "function"))
    (F1 : FnOk X.prog X.w X.K X.mg X.base CX k fI fd ps sp) (hr : Room (k + 1) X.A) (hb : ∀ (s : Shared) (u : Value) (ws : List Value), X.K.In s.heap → ws.length = ks.length → BindsTo s fd ⟨[u], ks.zip ws⟩ (ps.zip (u :: g ws)))
    (hgr : ∀ (zs : List V) (ws : List Value), Vals zs ws → zs.length = ks.length → Vals (gV zs) (g ws)) (hx : Passes CX X (fun _ _ _ => False)) (hg : Gl X x) (hm : X.mg x = some (.ref C)) (hk : PK X kws tk)
    (hall : (backToKw pos (keywordEach kws X.env)).all (·.1.isSome) = true := by rfl) (hks : (backToKw pos (keywordEach kws X.env)).filterMap (·.1) = ks := by rfl)
    (hdb : (x == ("__debug__" : Str)) = false := by decide)
    (hpl : ((backTo pos (starEach [] X.env)).any (·.1) || (backToKw pos (keywordEach kws X.env)).any (·.1.isNone)) = false := by rfl) :
    PE X (.Call (.Name x p) [] kws pos) (tMkK C ks.length sp gV tk) := by
  refine ⟨fun pins s σ H Q I h => ?_⟩
  refine wpAny_Call_Name_kw (ld_glob I hg hm ?_ hdb)
  refine PySem.W.callWith_of (P := fun h => X.K.In h) hpl (PySem.W.keeps_K T.kC) (evalArgs_kw_nil hall (thn (hk.run pos pins s σ H _ I h) fun ws s1 ⟨zs, H1, I1, rz, hz, z1⟩ => ⟨I1.kIn, ?_⟩))
  rw [hks]
  show wpAny _ _ (call (.ref C) [] (ks.zip ws)) _ _ _
  exact made_run T iC tI F1 hr hx I1 (us := []) (by rw [sizeLine_eq]; decide) fun a => ⟨.ref a :: g ws, .ref a :: gV zs, fun s' Y => hb s' (.ref a) ws Y (rz.length.symm.trans hz), .cons rfl (hgr zs ws rz hz), z1 a⟩
end
/-- such a class, its __init__ at fI -/
structure ErrN (K : PySem.W.Frag) (C fI : Addr) (B newId initId : String) (bmN bmB : List Value) : Prop where
  ov : OvN K C B newId initId bmN bmB
  xf : XfC K C
  exc : ExcC K C
  iC : PySem.W.findIn K (.ref C) "__init__" = some (some (.ref fI))
  tI : PySem.W.typeIn K (.ref fI) = some (.type "function")
/-- of these classes none is over another -/
def kitsB (K : PySem.W.Frag) (cs : List Addr) : Bool := cs.all fun c => PySem.W.isClsIn K c && (PySem.W.typeIn K (.ref c) == some (.type "type")) && cs.all fun u => PySem.W.subIn K (.ref c) (.ref u) == some (c == u)
/-- over which of Python's they are -/
def pysB (K : PySem.W.Frag) (Ts : List String) (cs : List (Addr × List Value)) : Bool := cs.all fun p => Ts.all fun T => PySem.W.subIn K (.ref p.1) (.type T) == some (p.2.contains (.type T))
theorem kit1_self {K : PySem.W.Frag} {C : Addr} : PySem.W.kitOne K (.ref C) (.ref C) = some true := by
  show (if (Value.ref C == Value.ref C) = true then some true else _) = some true
  rw [if_pos (beq_self_eq_true _)]
theorem kits_one {K : PySem.W.Frag} {cs : List Addr} (h : kitsB K cs = true) {c u : Addr} (hc : c ∈ cs) (hu : u ∈ cs) : PySem.W.kitOne K (.ref c) (.ref u) = some (c == u) := by
  unfold kitsB at h
  have h1 := List.all_eq_true.mp h
  have a := h1 c hc
  have b := h1 u hu
  simp only [Bool.and_eq_true, beq_iff_eq, List.all_eq_true] at a b
  by_cases e : c = u
  · subst e
    rw [beq_self_eq_true]
    exact kit1_self
  · have e2 : (c == u) = false := by simpa using e
    have q := a.2 u hu
    rw [e2] at q ⊢
    have qs := a.2 c hc
    rw [beq_self_eq_true] at qs
    exact kit1_ref q qs b.1.1 b.1.2
theorem pys_one {K : PySem.W.Frag} {Ts : List String} {cs : List (Addr × List Value)} (h : pysB K Ts cs = true) {p : Addr × List Value} (hp : p ∈ cs) {T : String} (hT : T ∈ Ts) (hm : PySem.W.kitMeta T = true) : PySem.W.kitOne K (.ref p.1) (.type T) = some (p.2.contains (.type T)) := by
  unfold pysB at h
  have a := List.all_eq_true.mp (List.all_eq_true.mp h p hp) T hT
  exact kit1_type (beq_iff_eq.mp a) hm
/-- an error at a of the class C with the fields fs (no dict of its own where it has none) -/
def ErrIs (H : Hp) (a C : Addr) (fs : List (Str × V)) : Prop := (∃ dd, ErrAt H a C dd fs) ∨ (fs = [] ∧ H a = some (exV a (.ref C) none))
theorem ErrIs.same {H H' : Hp} {a C : Addr} {fs : List (Str × V)} (e : ErrIs H a C fs) (h : Same H H') : ErrIs H' a C fs := by
  rcases e with ⟨dd, e1, e2⟩ | ⟨e1, e2⟩
  · exact .inl ⟨dd, h _ _ e1, h _ _ e2⟩
  · exact .inr ⟨e1, h _ _ e2⟩
theorem ErrIs.inst {X : Cx} {pins : List (Addr × Obj)} {σ : L2.St} {H : Hp} {s : Shared} {a C : Addr} {fs : List (Str × V)} (e : ErrIs H a C fs) (I : Inv X pins σ H s) : ∃ ox oy, PySem.W.InstAt s.heap a ox C oy := by
  rcases e with ⟨dd, e⟩ | ⟨_, e⟩
  · obtain ⟨ox, od, mA, J, _⟩ := e.inst I
    exact ⟨ox, some od, J⟩
  · obtain ⟨oe, vs, ha, hz, hd⟩ := exV_at I e
    exact ⟨oe, none, ha, hz.1, by unfold PySem.W.notCls; rw [hd] <;> rfl, by rw [hz.2]; exact trivial⟩
/-- isinstance(err, c), within a comprehension too -/
def rIsY (K : PySem.W.Frag) : List V → Hp → VK → Prop := fun xs H Q => ∃ (a C : Addr) (fs : List (Str × V)) (c : V) (u : Value) (b : Bool), xs = [.ref a, c] ∧ ErrIs H a C fs ∧ ExcC K C ∧ ClsV c u ∧ PySem.W.kitOne K (.ref C) u = some b ∧ Q (.bl b) H
theorem cr_isY {X : Cx} : CallR X (.builtin "isinstance") (rIsY X.K) := by
  intro pins s σ H xs us Q I r h
  obtain ⟨a, C, fs, c, u, b, rfl, ea, T, k, e, q⟩ := h
  obtain ⟨u1, u2, rfl, r1, r2⟩ := vals2 r
  cases r1
  obtain rfl := k.eq r2
  obtain ⟨ox, oy, J⟩ := ea.inst I
  exact PySem.W.kia_one (err_kitO T) I.kIn ⟨ox, oy, J⟩ e (fun z => nomatch z) fun tk => ⟨.bl b, H, I.tok tk, rfl, q⟩
theorem pe_xvK {X : Cx} {K : PySem.W.Frag} (hK : X.K = K) {e : Expr} {te : TE} {pos : Pos} {f : Str} (he : PE X e te) (hb : attributeBase e f X.env (eval e X.env) = eval e X.env := by rfl) : PE X (.Attribute e f pos) (tXv K f te) := by
  subst hK
  exact pe_xv he hb
/-- __init__ of an error without a field -/
def spInit0 (C : Addr) : Sp := fun vs H Q _ => ∃ a : Addr, vs = [.ref a] ∧ H a = some (exo a C none) ∧ Q .non H
/-- making one: what is left to be shown -/
theorem mk_read1 {C : Addr} {f : Str} {H : Hp} {v : V} {Q : VK} (h : ∀ a H', Same H H' → ErrIs H' a C [(f, v)] → Q (.ref a) H') {a : Addr} (na : H a = none) :
    spInit C f [.ref a, v] (upd H a (exo a C none)) (MadeQ C a Q) (fun _ _ _ => False) := by
  refine ⟨a, v, rfl, upd_same, fun dx nd ne => ⟨rfl, .inl ⟨dx, [(f, v)], upd_same, by rw [upd_ne ne, upd_same], ne, ?_⟩⟩⟩
  have nd' : H dx = none := by rw [upd_ne ne] at nd; exact nd
  refine h a _ (fun b o e => ?_) (.inl ⟨dx, ?_, upd_same⟩)
  · have nb : b ≠ dx := ne_of_none e nd'
    have nba : b ≠ a := ne_of_none e na
    rw [upd_ne nb, upd_ne nba, upd_ne nba, upd_ne nb, upd_ne nba]
    exact e
  · rw [upd_ne (Ne.symm ne), upd_same]
theorem mk_read2 {C : Addr} {f g : Str} {H : Hp} {v u : V} {Q : VK} (h : ∀ a H', Same H H' → ErrIs H' a C [(g, u), (f, v)] → Q (.ref a) H') {a : Addr} (na : H a = none) :
    spInit2 C f g [.ref a, v, u] (upd H a (exo a C none)) (MadeQ C a Q) (fun _ _ _ => False) := by
  refine ⟨a, v, u, rfl, upd_same, fun dx nd ne => ⟨rfl, .inl ⟨dx, [(g, u), (f, v)], by rw [upd_ne (Ne.symm ne), upd_same], upd_same, ne, ?_⟩⟩⟩
  have nd' : H dx = none := by rw [upd_ne ne] at nd; exact nd
  refine h a _ (fun b o e => ?_) (.inl ⟨dx, ?_, upd_same⟩)
  · have nb : b ≠ dx := ne_of_none e nd'
    have nba : b ≠ a := ne_of_none e na
    rw [upd_ne nb, upd_ne nba, upd_ne nb, upd_ne nba, upd_ne nb, upd_ne nba]
    exact e
  · rw [upd_ne (Ne.symm ne), upd_same]
theorem mk_read0 {C : Addr} {H : Hp} {Q : VK} (h : ∀ a H', Same H H' → ErrIs H' a C [] → Q (.ref a) H') {a : Addr} (na : H a = none) :
    spInit0 C [.ref a] (upd H a (exo a C none)) (MadeQ C a Q) (fun _ _ _ => False) := by
  refine ⟨a, rfl, upd_same, rfl, .inr ⟨upd_same, h a _ (fun b o e => ?_) (.inr ⟨rfl, upd_same⟩)⟩⟩
  have nba : b ≠ a := ne_of_none e na
  rw [upd_ne nba, upd_ne nba]
  exact e
theorem typ_RE : typeOf (.type "RuntimeError") = pure (.type "type") := by kernel_rfl
abbrev bmRt : List Value := [.type "RuntimeError", .type "Exception", .type "BaseException", .type "object"]
section
variable {X : Cx} {pins : List (Addr × Obj)} {σ : L2.St} {H : Hp} {s : Shared} {a C : Addr} {A : Around} {E : Value → Shared → Prop}
theorem oinit_rt {us : List Value} {Q : Value → Shared → Prop} (T : OvN X.K C "RuntimeError" "RuntimeError.__new__" "RuntimeError.__init__" bmRt bmRt) (I : Inv X pins σ H s) (e : H a = some (exo a C none)) (hl : us.length ≤ sizeLine) (h : ∀ s', Inv X pins σ H s' → Q .none s') :
    wpAny (model X.prog X.w) A (call (.builtin "RuntimeError.__init__") (.ref a :: us)) Q E s := by
  obtain ⟨nm, q, N, bs, bm, sn, sub, ab, col, dd, k0, k1, k2, k3, k5, hC, hbm⟩ := T.cls
  obtain ⟨t1, ho⟩ := exo_at I.hok e
  obtain ⟨hp, g, d, t, os⟩ := s
  refine wpAny_call (PySem.HandSPX.init_base F.excBase_RuntimeError (fun Y => PySem.W.excTail_contains Y bm hbm) (I.kIn _ _ hC) ho hl fun h' t2 k hx => ?_)
  have J := I.write (t' := t) (x := a) (e := a) (o := exo a C none) (by rw [e]; exact True.intro) (.inl rfl) k ⟨_, hx⟩ (exo_ok hx)
  have eu : upd H a (exo a C none) = H := by
    funext b
    by_cases hb : b = a
    · rw [hb, upd_same, e]
    · rw [upd_ne hb]
  rw [eu] at J
  exact h _ J
end
def tRtI (K : PySem.W.Frag) (ta : TA) : TE := fun σ H Q => ta σ H fun vs H1 => ∃ (a C : Addr) (ws : List V), vs = .ref a :: ws ∧ ws.length ≤ 1000 ∧ OvN K C "RuntimeError" "RuntimeError.__new__" "RuntimeError.__init__" bmRt bmRt ∧ H1 a = some (exo a C none) ∧ Q .non H1
theorem pe_rtinit {X : Cx} {e : Expr} {es : List Expr} {ta : TA} {p1 p2 pos : Pos} {pl : Sem Bool} (hg : Gl X "RuntimeError") (hm : X.mg "RuntimeError" = none) (vV : PySem.W.findCls X.K (.type "RuntimeError") (.type "type") "__init__" = some (.val (.builtin "RuntimeError.__init__"))) (ha : PA X (e :: es) ta)
    (hc : eval (.Call (.Attribute (.Name "RuntimeError" p1) "__init__" p2) (e :: es) [] pos) X.env = (do
      let ov ← eval (.Name "RuntimeError" p1) X.env
      standAt p2.atName
      let (f, first) ← holding [ov] (getMethod ov "__init__" pl)
      callWith pos f first (backTo pos (starEach (e :: es) X.env)) (backToKw pos (keywordEach [] X.env))) := by rfl)
    (he : starEach (e :: es) X.env = (false, eval e X.env) :: starEach es X.env := by rfl) (hpl : (backTo pos (starEach es X.env)).any (·.1) = false := by rfl) :
    PE X (.Call (.Attribute (.Name "RuntimeError" p1) "__init__" p2) (e :: es) [] pos) (tRtI X.K ta) := by
  refine ⟨fun pins s σ H Q I h => ?_⟩
  refine PySem.W.methodCall_KW (ld_blt I hg hm PyProof.Rows.Boot.«RuntimeError» ?_ (by decide) (by decide)) hc
  obtain ⟨m, fr⟩ := I.fr
  refine PySem.W.method_type fr I.ok.mod.kin typ_RE (by decide +kernel) vV (by decide +kernel) ?_
  show wpAny _ _ (callWith pos (Value.builtin "RuntimeError.__init__") [] (backTo pos (starEach (e :: es) X.env)) []) _ _ _
  refine PyProof.Rows.callWith_method1 (thn (ha.run pos pins _ σ H _ (I.tok _) h) fun us s1 ⟨vs, H1, I1, r1, a, C, ws, ev, hl, T, ea, q⟩ => ?_) he hpl
  subst ev
  cases r1 with
  | @cons _ u0 _ ur ra rw' =>
    obtain rfl : u0 = Value.ref a := ra
    have hlen : ur.length ≤ sizeLine := by
      rw [← Paired.length rw', sizeLine_eq]
      omega
    exact oinit_rt T I1 ea hlen fun s' J => ⟨.non, H1, J, rfl, q⟩
theorem vals_rev2 (zs : List V) (ws : List Value) (r : Vals zs ws) (h : zs.length = 2) : Vals zs.reverse ws.reverse := by
  match zs, ws, r, h with
  | [a, b], [u, v], .cons r1 (.cons r2 .nil), _ => exact .cons r2 (.cons r1 .nil)
end Mo

namespace Mo
open PySem PySem.Spec PyProof.Rows L2
def topS (i : Nat) : Stmt := PySem.Challenge.pw_mustoccur_k96_errors_and_their_fields.main.body.getD i (.Pass ⟨0, 0, 0, 0⟩)
abbrev sLValues : Stmt := topS 25
theorem scLValues : FnScope ["_law_script", "_law_some", "_law_turn"] ["_law_script"] (defScope sLValues) := ⟨rfl, rfl, rfl, by decide +kernel, rfl, by decide +kernel, by decide +kernel⟩
abbrev sLMade : Stmt := topS 26
theorem scLMade : FnScope ["_law_aa", "_law_bb", "_law_found"] ["_law_aa", "_law_bb"] (defScope sLMade) := ⟨rfl, rfl, rfl, by decide +kernel, rfl, by decide +kernel, by decide +kernel⟩
abbrev sLNamed : Stmt := topS 27
theorem scLNamed : FnScope ["_law_aa", "_law_bb", "_law_found"] ["_law_aa", "_law_bb"] (defScope sLNamed) := ⟨rfl, rfl, rfl, by decide +kernel, rfl, by decide +kernel, by decide +kernel⟩
abbrev sLFields : Stmt := topS 28
theorem scLFields : FnScope ["_law_some", "_law_found", "_law_one"] ["_law_some"] (defScope sLFields) := ⟨rfl, rfl, rfl, by decide +kernel, rfl, by decide +kernel, by decide +kernel⟩
abbrev sLKinds : Stmt := topS 29
theorem scLKinds : FnScope ["_law_thing", "_law_found"] ["_law_thing"] (defScope sLKinds) := ⟨rfl, rfl, rfl, by decide +kernel, rfl, by decide +kernel, by decide +kernel⟩
abbrev sLPython : Stmt := topS 30
theorem scLPython : FnScope ["_law_thing", "_law_found"] ["_law_thing"] (defScope sLPython) := ⟨rfl, rfl, rfl, by decide +kernel, rfl, by decide +kernel, by decide +kernel⟩
abbrev sLaw : Stmt := topS 31
theorem scLaw : FnScope ["_law_script", "_law_due", "_law_values_here", "_law_k", "_law_some", "_law_spot", "_law_one", "_law_at"] ["_law_script"] (defScope sLaw) := ⟨rfl, rfl, rfl, by decide +kernel, rfl, by decide +kernel, by decide +kernel⟩
abbrev sInitInvalidPattern : Stmt := inClass (topS 1) 0
theorem scInitInvalidPattern : FnScope ["self", "value"] ["self", "value"] (defScope sInitInvalidPattern) := ⟨rfl, rfl, rfl, by decide +kernel, rfl, by decide +kernel, by decide +kernel⟩
abbrev sInitInvalidText : Stmt := inClass (topS 2) 0
theorem scInitInvalidText : FnScope ["self", "value"] ["self", "value"] (defScope sInitInvalidText) := ⟨rfl, rfl, rfl, by decide +kernel, rfl, by decide +kernel, by decide +kernel⟩
abbrev sInitInvalidVariables : Stmt := inClass (topS 3) 0
theorem scInitInvalidVariables : FnScope ["self", "value"] ["self", "value"] (defScope sInitInvalidVariables) := ⟨rfl, rfl, rfl, by decide +kernel, rfl, by decide +kernel, by decide +kernel⟩
abbrev sInitInvalidValues : Stmt := inClass (topS 4) 0
theorem scInitInvalidValues : FnScope ["self", "value"] ["self", "value"] (defScope sInitInvalidValues) := ⟨rfl, rfl, rfl, by decide +kernel, rfl, by decide +kernel, by decide +kernel⟩
abbrev sInitInvalidCount : Stmt := inClass (topS 5) 0
theorem scInitInvalidCount : FnScope ["self", "value"] ["self", "value"] (defScope sInitInvalidCount) := ⟨rfl, rfl, rfl, by decide +kernel, rfl, by decide +kernel, by decide +kernel⟩
abbrev sInitInvalidChain : Stmt := inClass (topS 6) 0
theorem scInitInvalidChain : FnScope ["self", "value"] ["self", "value"] (defScope sInitInvalidChain) := ⟨rfl, rfl, rfl, by decide +kernel, rfl, by decide +kernel, by decide +kernel⟩
abbrev sInitInvalidPlace : Stmt := inClass (topS 7) 0
theorem scInitInvalidPlace : FnScope ["self", "value"] ["self", "value"] (defScope sInitInvalidPlace) := ⟨rfl, rfl, rfl, by decide +kernel, rfl, by decide +kernel, by decide +kernel⟩
abbrev sInitInvalidFormula : Stmt := inClass (topS 8) 0
theorem scInitInvalidFormula : FnScope ["self", "value"] ["self", "value"] (defScope sInitInvalidFormula) := ⟨rfl, rfl, rfl, by decide +kernel, rfl, by decide +kernel, by decide +kernel⟩
abbrev sInitInvalidRules : Stmt := inClass (topS 9) 0
theorem scInitInvalidRules : FnScope ["self", "value"] ["self", "value"] (defScope sInitInvalidRules) := ⟨rfl, rfl, rfl, by decide +kernel, rfl, by decide +kernel, by decide +kernel⟩
abbrev sInitInvalidName : Stmt := inClass (topS 10) 0
theorem scInitInvalidName : FnScope ["self", "value"] ["self", "value"] (defScope sInitInvalidName) := ⟨rfl, rfl, rfl, by decide +kernel, rfl, by decide +kernel, by decide +kernel⟩
abbrev sInitInvalidDeed : Stmt := inClass (topS 11) 0
theorem scInitInvalidDeed : FnScope ["self", "index"] ["self", "index"] (defScope sInitInvalidDeed) := ⟨rfl, rfl, rfl, by decide +kernel, rfl, by decide +kernel, by decide +kernel⟩
abbrev sInitInvalidCommand : Stmt := inClass (topS 12) 0
theorem scInitInvalidCommand : FnScope ["self", "line"] ["self", "line"] (defScope sInitInvalidCommand) := ⟨rfl, rfl, rfl, by decide +kernel, rfl, by decide +kernel, by decide +kernel⟩
abbrev sInitParseError : Stmt := inClass (topS 13) 0
theorem scInitParseError : FnScope ["self", "offset"] ["self", "offset"] (defScope sInitParseError) := ⟨rfl, rfl, rfl, by decide +kernel, rfl, by decide +kernel, by decide +kernel⟩
abbrev sInitNotFree : Stmt := inClass (topS 14) 0
theorem scInitNotFree : FnScope ["self", "variables"] ["self", "variables"] (defScope sInitNotFree) := ⟨rfl, rfl, rfl, by decide +kernel, rfl, by decide +kernel, by decide +kernel⟩
abbrev sInitAvoidable : Stmt := inClass (topS 15) 0
theorem scInitAvoidable : FnScope ["self", "pattern"] ["self", "pattern"] (defScope sInitAvoidable) := ⟨rfl, rfl, rfl, by decide +kernel, rfl, by decide +kernel, by decide +kernel⟩
abbrev sInitRankTooSmall : Stmt := inClass (topS 16) 0
theorem scInitRankTooSmall : FnScope ["self", "rank"] ["self", "rank"] (defScope sInitRankTooSmall) := ⟨rfl, rfl, rfl, by decide +kernel, rfl, by decide +kernel, by decide +kernel⟩
abbrev sInitNoBlock : Stmt := inClass (topS 17) 0
theorem scInitNoBlock : FnScope ["self", "first", "second"] ["self", "first", "second"] (defScope sInitNoBlock) := ⟨rfl, rfl, rfl, by decide +kernel, rfl, by decide +kernel, by decide +kernel⟩
abbrev sInitUnknownName : Stmt := inClass (topS 18) 0
theorem scInitUnknownName : FnScope ["self", "name"] ["self", "name"] (defScope sInitUnknownName) := ⟨rfl, rfl, rfl, by decide +kernel, rfl, by decide +kernel, by decide +kernel⟩
abbrev sInitDuplicateName : Stmt := inClass (topS 19) 0
theorem scInitDuplicateName : FnScope ["self", "name"] ["self", "name"] (defScope sInitDuplicateName) := ⟨rfl, rfl, rfl, by decide +kernel, rfl, by decide +kernel, by decide +kernel⟩
abbrev sInitNoMoment : Stmt := inClass (topS 20) 0
theorem scInitNoMoment : FnScope ["self", "asked"] ["self", "asked"] (defScope sInitNoMoment) := ⟨rfl, rfl, rfl, by decide +kernel, rfl, by decide +kernel, by decide +kernel⟩
abbrev sInitTooLarge : Stmt := inClass (topS 21) 0
theorem scInitTooLarge : FnScope ["self", "limit"] ["self", "limit"] (defScope sInitTooLarge) := ⟨rfl, rfl, rfl, by decide +kernel, rfl, by decide +kernel, by decide +kernel⟩
abbrev sInitNothingToUndo : Stmt := inClass (topS 22) 0
theorem scInitNothingToUndo : FnScope ["self"] ["self"] (defScope sInitNothingToUndo) := ⟨rfl, rfl, rfl, by decide +kernel, rfl, by decide +kernel, by decide +kernel⟩
abbrev sInitNothingToRedo : Stmt := inClass (topS 23) 0
theorem scInitNothingToRedo : FnScope ["self"] ["self"] (defScope sInitNothingToRedo) := ⟨rfl, rfl, rfl, by decide +kernel, rfl, by decide +kernel, by decide +kernel⟩
structure Txt (K : PySem.W.Frag) (mg : Str → Option Value) where
  cInvalidPattern : Addr
  eInvalidPattern : mg "InvalidPattern" = some (.ref cInvalidPattern)
  cInvalidText : Addr
  eInvalidText : mg "InvalidText" = some (.ref cInvalidText)
  cInvalidVariables : Addr
  eInvalidVariables : mg "InvalidVariables" = some (.ref cInvalidVariables)
  cInvalidValues : Addr
  eInvalidValues : mg "InvalidValues" = some (.ref cInvalidValues)
  cInvalidCount : Addr
  eInvalidCount : mg "InvalidCount" = some (.ref cInvalidCount)
  cInvalidChain : Addr
  eInvalidChain : mg "InvalidChain" = some (.ref cInvalidChain)
  cInvalidPlace : Addr
  eInvalidPlace : mg "InvalidPlace" = some (.ref cInvalidPlace)
  cInvalidFormula : Addr
  eInvalidFormula : mg "InvalidFormula" = some (.ref cInvalidFormula)
  cInvalidRules : Addr
  eInvalidRules : mg "InvalidRules" = some (.ref cInvalidRules)
  cInvalidName : Addr
  eInvalidName : mg "InvalidName" = some (.ref cInvalidName)
  cInvalidDeed : Addr
  eInvalidDeed : mg "InvalidDeed" = some (.ref cInvalidDeed)
  cInvalidCommand : Addr
  eInvalidCommand : mg "InvalidCommand" = some (.ref cInvalidCommand)
  cParseError : Addr
  eParseError : mg "ParseError" = some (.ref cParseError)
  cNotFree : Addr
  eNotFree : mg "NotFree" = some (.ref cNotFree)
  cAvoidable : Addr
  eAvoidable : mg "Avoidable" = some (.ref cAvoidable)
  cRankTooSmall : Addr
  eRankTooSmall : mg "RankTooSmall" = some (.ref cRankTooSmall)
  cNoBlock : Addr
  eNoBlock : mg "NoBlock" = some (.ref cNoBlock)
  cUnknownName : Addr
  eUnknownName : mg "UnknownName" = some (.ref cUnknownName)
  cDuplicateName : Addr
  eDuplicateName : mg "DuplicateName" = some (.ref cDuplicateName)
  cNoMoment : Addr
  eNoMoment : mg "NoMoment" = some (.ref cNoMoment)
  cTooLarge : Addr
  eTooLarge : mg "TooLarge" = some (.ref cTooLarge)
  cNothingToUndo : Addr
  eNothingToUndo : mg "NothingToUndo" = some (.ref cNothingToUndo)
  cNothingToRedo : Addr
  eNothingToRedo : mg "NothingToRedo" = some (.ref cNothingToRedo)
  iInvalidPattern : Addr
  dInvalidPattern : FuncData
  fInitInvalidPattern : Fun K "__init__" "InvalidPattern.__init__" sInitInvalidPattern iInvalidPattern dInvalidPattern
  bInitInvalidPattern : Binds K dInvalidPattern ["self", "value"] []
  xInvalidPattern : ErrN K cInvalidPattern iInvalidPattern "ValueError" "ValueError.__new__" "ValueError.__init__" [.type "ValueError", .type "Exception", .type "BaseException", .type "object"] [.type "ValueError", .type "Exception", .type "BaseException", .type "object"]
  n1InvalidPattern : PySem.W.findIn K (.ref cInvalidPattern) "value" = some none
  wInvalidPattern : ∀ (s : Shared) (u : Value) (ws : List Value), K.In s.heap → ws.length = 1 → BindsTo s dInvalidPattern ⟨[u], (["value"] : List Str).zip ws⟩ ((["self", "value"] : List Str).zip (u :: id ws))
  iInvalidText : Addr
  dInvalidText : FuncData
  fInitInvalidText : Fun K "__init__" "InvalidText.__init__" sInitInvalidText iInvalidText dInvalidText
  bInitInvalidText : Binds K dInvalidText ["self", "value"] []
  xInvalidText : ErrN K cInvalidText iInvalidText "ValueError" "ValueError.__new__" "ValueError.__init__" [.type "ValueError", .type "Exception", .type "BaseException", .type "object"] [.type "ValueError", .type "Exception", .type "BaseException", .type "object"]
  n1InvalidText : PySem.W.findIn K (.ref cInvalidText) "value" = some none
  wInvalidText : ∀ (s : Shared) (u : Value) (ws : List Value), K.In s.heap → ws.length = 1 → BindsTo s dInvalidText ⟨[u], (["value"] : List Str).zip ws⟩ ((["self", "value"] : List Str).zip (u :: id ws))
  iInvalidVariables : Addr
  dInvalidVariables : FuncData
  fInitInvalidVariables : Fun K "__init__" "InvalidVariables.__init__" sInitInvalidVariables iInvalidVariables dInvalidVariables
  bInitInvalidVariables : Binds K dInvalidVariables ["self", "value"] []
  xInvalidVariables : ErrN K cInvalidVariables iInvalidVariables "ValueError" "ValueError.__new__" "ValueError.__init__" [.type "ValueError", .type "Exception", .type "BaseException", .type "object"] [.type "ValueError", .type "Exception", .type "BaseException", .type "object"]
  n1InvalidVariables : PySem.W.findIn K (.ref cInvalidVariables) "value" = some none
  wInvalidVariables : ∀ (s : Shared) (u : Value) (ws : List Value), K.In s.heap → ws.length = 1 → BindsTo s dInvalidVariables ⟨[u], (["value"] : List Str).zip ws⟩ ((["self", "value"] : List Str).zip (u :: id ws))
  iInvalidValues : Addr
  dInvalidValues : FuncData
  fInitInvalidValues : Fun K "__init__" "InvalidValues.__init__" sInitInvalidValues iInvalidValues dInvalidValues
  bInitInvalidValues : Binds K dInvalidValues ["self", "value"] []
  xInvalidValues : ErrN K cInvalidValues iInvalidValues "ValueError" "ValueError.__new__" "ValueError.__init__" [.type "ValueError", .type "Exception", .type "BaseException", .type "object"] [.type "ValueError", .type "Exception", .type "BaseException", .type "object"]
  n1InvalidValues : PySem.W.findIn K (.ref cInvalidValues) "value" = some none
  wInvalidValues : ∀ (s : Shared) (u : Value) (ws : List Value), K.In s.heap → ws.length = 1 → BindsTo s dInvalidValues ⟨[u], (["value"] : List Str).zip ws⟩ ((["self", "value"] : List Str).zip (u :: id ws))
  iInvalidCount : Addr
  dInvalidCount : FuncData
  fInitInvalidCount : Fun K "__init__" "InvalidCount.__init__" sInitInvalidCount iInvalidCount dInvalidCount
  bInitInvalidCount : Binds K dInvalidCount ["self", "value"] []
  xInvalidCount : ErrN K cInvalidCount iInvalidCount "ValueError" "ValueError.__new__" "ValueError.__init__" [.type "ValueError", .type "Exception", .type "BaseException", .type "object"] [.type "ValueError", .type "Exception", .type "BaseException", .type "object"]
  n1InvalidCount : PySem.W.findIn K (.ref cInvalidCount) "value" = some none
  wInvalidCount : ∀ (s : Shared) (u : Value) (ws : List Value), K.In s.heap → ws.length = 1 → BindsTo s dInvalidCount ⟨[u], (["value"] : List Str).zip ws⟩ ((["self", "value"] : List Str).zip (u :: id ws))
  iInvalidChain : Addr
  dInvalidChain : FuncData
  fInitInvalidChain : Fun K "__init__" "InvalidChain.__init__" sInitInvalidChain iInvalidChain dInvalidChain
  bInitInvalidChain : Binds K dInvalidChain ["self", "value"] []
  xInvalidChain : ErrN K cInvalidChain iInvalidChain "ValueError" "ValueError.__new__" "ValueError.__init__" [.type "ValueError", .type "Exception", .type "BaseException", .type "object"] [.type "ValueError", .type "Exception", .type "BaseException", .type "object"]
  n1InvalidChain : PySem.W.findIn K (.ref cInvalidChain) "value" = some none
  wInvalidChain : ∀ (s : Shared) (u : Value) (ws : List Value), K.In s.heap → ws.length = 1 → BindsTo s dInvalidChain ⟨[u], (["value"] : List Str).zip ws⟩ ((["self", "value"] : List Str).zip (u :: id ws))
  iInvalidPlace : Addr
  dInvalidPlace : FuncData
  fInitInvalidPlace : Fun K "__init__" "InvalidPlace.__init__" sInitInvalidPlace iInvalidPlace dInvalidPlace
  bInitInvalidPlace : Binds K dInvalidPlace ["self", "value"] []
  xInvalidPlace : ErrN K cInvalidPlace iInvalidPlace "ValueError" "ValueError.__new__" "ValueError.__init__" [.type "ValueError", .type "Exception", .type "BaseException", .type "object"] [.type "ValueError", .type "Exception", .type "BaseException", .type "object"]
  n1InvalidPlace : PySem.W.findIn K (.ref cInvalidPlace) "value" = some none
  wInvalidPlace : ∀ (s : Shared) (u : Value) (ws : List Value), K.In s.heap → ws.length = 1 → BindsTo s dInvalidPlace ⟨[u], (["value"] : List Str).zip ws⟩ ((["self", "value"] : List Str).zip (u :: id ws))
  iInvalidFormula : Addr
  dInvalidFormula : FuncData
  fInitInvalidFormula : Fun K "__init__" "InvalidFormula.__init__" sInitInvalidFormula iInvalidFormula dInvalidFormula
  bInitInvalidFormula : Binds K dInvalidFormula ["self", "value"] []
  xInvalidFormula : ErrN K cInvalidFormula iInvalidFormula "ValueError" "ValueError.__new__" "ValueError.__init__" [.type "ValueError", .type "Exception", .type "BaseException", .type "object"] [.type "ValueError", .type "Exception", .type "BaseException", .type "object"]
  n1InvalidFormula : PySem.W.findIn K (.ref cInvalidFormula) "value" = some none
  wInvalidFormula : ∀ (s : Shared) (u : Value) (ws : List Value), K.In s.heap → ws.length = 1 → BindsTo s dInvalidFormula ⟨[u], (["value"] : List Str).zip ws⟩ ((["self", "value"] : List Str).zip (u :: id ws))
  iInvalidRules : Addr
  dInvalidRules : FuncData
  fInitInvalidRules : Fun K "__init__" "InvalidRules.__init__" sInitInvalidRules iInvalidRules dInvalidRules
  bInitInvalidRules : Binds K dInvalidRules ["self", "value"] []
  xInvalidRules : ErrN K cInvalidRules iInvalidRules "ValueError" "ValueError.__new__" "ValueError.__init__" [.type "ValueError", .type "Exception", .type "BaseException", .type "object"] [.type "ValueError", .type "Exception", .type "BaseException", .type "object"]
  n1InvalidRules : PySem.W.findIn K (.ref cInvalidRules) "value" = some none
  wInvalidRules : ∀ (s : Shared) (u : Value) (ws : List Value), K.In s.heap → ws.length = 1 → BindsTo s dInvalidRules ⟨[u], (["value"] : List Str).zip ws⟩ ((["self", "value"] : List Str).zip (u :: id ws))
  iInvalidName : Addr
  dInvalidName : FuncData
  fInitInvalidName : Fun K "__init__" "InvalidName.__init__" sInitInvalidName iInvalidName dInvalidName
  bInitInvalidName : Binds K dInvalidName ["self", "value"] []
  xInvalidName : ErrN K cInvalidName iInvalidName "ValueError" "ValueError.__new__" "ValueError.__init__" [.type "ValueError", .type "Exception", .type "BaseException", .type "object"] [.type "ValueError", .type "Exception", .type "BaseException", .type "object"]
  n1InvalidName : PySem.W.findIn K (.ref cInvalidName) "value" = some none
  wInvalidName : ∀ (s : Shared) (u : Value) (ws : List Value), K.In s.heap → ws.length = 1 → BindsTo s dInvalidName ⟨[u], (["value"] : List Str).zip ws⟩ ((["self", "value"] : List Str).zip (u :: id ws))
  iInvalidDeed : Addr
  dInvalidDeed : FuncData
  fInitInvalidDeed : Fun K "__init__" "InvalidDeed.__init__" sInitInvalidDeed iInvalidDeed dInvalidDeed
  bInitInvalidDeed : Binds K dInvalidDeed ["self", "index"] []
  xInvalidDeed : ErrN K cInvalidDeed iInvalidDeed "ValueError" "ValueError.__new__" "ValueError.__init__" [.type "ValueError", .type "Exception", .type "BaseException", .type "object"] [.type "ValueError", .type "Exception", .type "BaseException", .type "object"]
  n1InvalidDeed : PySem.W.findIn K (.ref cInvalidDeed) "index" = some none
  wInvalidDeed : ∀ (s : Shared) (u : Value) (ws : List Value), K.In s.heap → ws.length = 1 → BindsTo s dInvalidDeed ⟨[u], (["index"] : List Str).zip ws⟩ ((["self", "index"] : List Str).zip (u :: id ws))
  iInvalidCommand : Addr
  dInvalidCommand : FuncData
  fInitInvalidCommand : Fun K "__init__" "InvalidCommand.__init__" sInitInvalidCommand iInvalidCommand dInvalidCommand
  bInitInvalidCommand : Binds K dInvalidCommand ["self", "line"] []
  xInvalidCommand : ErrN K cInvalidCommand iInvalidCommand "ValueError" "ValueError.__new__" "ValueError.__init__" [.type "ValueError", .type "Exception", .type "BaseException", .type "object"] [.type "ValueError", .type "Exception", .type "BaseException", .type "object"]
  n1InvalidCommand : PySem.W.findIn K (.ref cInvalidCommand) "line" = some none
  wInvalidCommand : ∀ (s : Shared) (u : Value) (ws : List Value), K.In s.heap → ws.length = 1 → BindsTo s dInvalidCommand ⟨[u], (["line"] : List Str).zip ws⟩ ((["self", "line"] : List Str).zip (u :: id ws))
  iParseError : Addr
  dParseError : FuncData
  fInitParseError : Fun K "__init__" "ParseError.__init__" sInitParseError iParseError dParseError
  bInitParseError : Binds K dParseError ["self", "offset"] []
  xParseError : ErrN K cParseError iParseError "ValueError" "ValueError.__new__" "ValueError.__init__" [.type "ValueError", .type "Exception", .type "BaseException", .type "object"] [.type "ValueError", .type "Exception", .type "BaseException", .type "object"]
  n1ParseError : PySem.W.findIn K (.ref cParseError) "offset" = some none
  wParseError : ∀ (s : Shared) (u : Value) (ws : List Value), K.In s.heap → ws.length = 1 → BindsTo s dParseError ⟨[u], (["offset"] : List Str).zip ws⟩ ((["self", "offset"] : List Str).zip (u :: id ws))
  iNotFree : Addr
  dNotFree : FuncData
  fInitNotFree : Fun K "__init__" "NotFree.__init__" sInitNotFree iNotFree dNotFree
  bInitNotFree : Binds K dNotFree ["self", "variables"] []
  xNotFree : ErrN K cNotFree iNotFree "ValueError" "ValueError.__new__" "ValueError.__init__" [.type "ValueError", .type "Exception", .type "BaseException", .type "object"] [.type "ValueError", .type "Exception", .type "BaseException", .type "object"]
  n1NotFree : PySem.W.findIn K (.ref cNotFree) "variables" = some none
  wNotFree : ∀ (s : Shared) (u : Value) (ws : List Value), K.In s.heap → ws.length = 1 → BindsTo s dNotFree ⟨[u], (["variables"] : List Str).zip ws⟩ ((["self", "variables"] : List Str).zip (u :: id ws))
  iAvoidable : Addr
  dAvoidable : FuncData
  fInitAvoidable : Fun K "__init__" "Avoidable.__init__" sInitAvoidable iAvoidable dAvoidable
  bInitAvoidable : Binds K dAvoidable ["self", "pattern"] []
  xAvoidable : ErrN K cAvoidable iAvoidable "ValueError" "ValueError.__new__" "ValueError.__init__" [.type "ValueError", .type "Exception", .type "BaseException", .type "object"] [.type "ValueError", .type "Exception", .type "BaseException", .type "object"]
  n1Avoidable : PySem.W.findIn K (.ref cAvoidable) "pattern" = some none
  wAvoidable : ∀ (s : Shared) (u : Value) (ws : List Value), K.In s.heap → ws.length = 1 → BindsTo s dAvoidable ⟨[u], (["pattern"] : List Str).zip ws⟩ ((["self", "pattern"] : List Str).zip (u :: id ws))
  iRankTooSmall : Addr
  dRankTooSmall : FuncData
  fInitRankTooSmall : Fun K "__init__" "RankTooSmall.__init__" sInitRankTooSmall iRankTooSmall dRankTooSmall
  bInitRankTooSmall : Binds K dRankTooSmall ["self", "rank"] []
  xRankTooSmall : ErrN K cRankTooSmall iRankTooSmall "LookupError" "LookupError.__new__" "LookupError.__init__" [.type "LookupError", .type "Exception", .type "BaseException", .type "object"] [.type "LookupError", .type "Exception", .type "BaseException", .type "object"]
  n1RankTooSmall : PySem.W.findIn K (.ref cRankTooSmall) "rank" = some none
  wRankTooSmall : ∀ (s : Shared) (u : Value) (ws : List Value), K.In s.heap → ws.length = 1 → BindsTo s dRankTooSmall ⟨[u], (["rank"] : List Str).zip ws⟩ ((["self", "rank"] : List Str).zip (u :: id ws))
  iNoBlock : Addr
  dNoBlock : FuncData
  fInitNoBlock : Fun K "__init__" "NoBlock.__init__" sInitNoBlock iNoBlock dNoBlock
  bInitNoBlock : Binds K dNoBlock ["self", "first", "second"] []
  xNoBlock : ErrN K cNoBlock iNoBlock "LookupError" "LookupError.__new__" "LookupError.__init__" [.type "LookupError", .type "Exception", .type "BaseException", .type "object"] [.type "LookupError", .type "Exception", .type "BaseException", .type "object"]
  n1NoBlock : PySem.W.findIn K (.ref cNoBlock) "first" = some none
  n2NoBlock : PySem.W.findIn K (.ref cNoBlock) "second" = some none
  wNoBlock : ∀ (s : Shared) (u : Value) (ws : List Value), K.In s.heap → ws.length = 2 → BindsTo s dNoBlock ⟨[u], (["second", "first"] : List Str).zip ws⟩ ((["self", "first", "second"] : List Str).zip (u :: List.reverse ws))
  iUnknownName : Addr
  dUnknownName : FuncData
  fInitUnknownName : Fun K "__init__" "UnknownName.__init__" sInitUnknownName iUnknownName dUnknownName
  bInitUnknownName : Binds K dUnknownName ["self", "name"] []
  xUnknownName : ErrN K cUnknownName iUnknownName "LookupError" "LookupError.__new__" "LookupError.__init__" [.type "LookupError", .type "Exception", .type "BaseException", .type "object"] [.type "KeyError", .type "LookupError", .type "Exception", .type "BaseException", .type "object"]
  n1UnknownName : PySem.W.findIn K (.ref cUnknownName) "name" = some none
  wUnknownName : ∀ (s : Shared) (u : Value) (ws : List Value), K.In s.heap → ws.length = 1 → BindsTo s dUnknownName ⟨[u], (["name"] : List Str).zip ws⟩ ((["self", "name"] : List Str).zip (u :: id ws))
  iDuplicateName : Addr
  dDuplicateName : FuncData
  fInitDuplicateName : Fun K "__init__" "DuplicateName.__init__" sInitDuplicateName iDuplicateName dDuplicateName
  bInitDuplicateName : Binds K dDuplicateName ["self", "name"] []
  xDuplicateName : ErrN K cDuplicateName iDuplicateName "LookupError" "LookupError.__new__" "LookupError.__init__" [.type "LookupError", .type "Exception", .type "BaseException", .type "object"] [.type "KeyError", .type "LookupError", .type "Exception", .type "BaseException", .type "object"]
  n1DuplicateName : PySem.W.findIn K (.ref cDuplicateName) "name" = some none
  wDuplicateName : ∀ (s : Shared) (u : Value) (ws : List Value), K.In s.heap → ws.length = 1 → BindsTo s dDuplicateName ⟨[u], (["name"] : List Str).zip ws⟩ ((["self", "name"] : List Str).zip (u :: id ws))
  iNoMoment : Addr
  dNoMoment : FuncData
  fInitNoMoment : Fun K "__init__" "NoMoment.__init__" sInitNoMoment iNoMoment dNoMoment
  bInitNoMoment : Binds K dNoMoment ["self", "asked"] []
  xNoMoment : ErrN K cNoMoment iNoMoment "IndexError" "IndexError.__new__" "IndexError.__init__" [.type "IndexError", .type "LookupError", .type "Exception", .type "BaseException", .type "object"] [.type "IndexError", .type "LookupError", .type "Exception", .type "BaseException", .type "object"]
  n1NoMoment : PySem.W.findIn K (.ref cNoMoment) "asked" = some none
  wNoMoment : ∀ (s : Shared) (u : Value) (ws : List Value), K.In s.heap → ws.length = 1 → BindsTo s dNoMoment ⟨[u], (["asked"] : List Str).zip ws⟩ ((["self", "asked"] : List Str).zip (u :: id ws))
  iTooLarge : Addr
  dTooLarge : FuncData
  fInitTooLarge : Fun K "__init__" "TooLarge.__init__" sInitTooLarge iTooLarge dTooLarge
  bInitTooLarge : Binds K dTooLarge ["self", "limit"] []
  xTooLarge : ErrN K cTooLarge iTooLarge "OverflowError" "OverflowError.__new__" "OverflowError.__init__" [.type "OverflowError", .type "ArithmeticError", .type "Exception", .type "BaseException", .type "object"] [.type "OverflowError", .type "ArithmeticError", .type "Exception", .type "BaseException", .type "object"]
  n1TooLarge : PySem.W.findIn K (.ref cTooLarge) "limit" = some none
  wTooLarge : ∀ (s : Shared) (u : Value) (ws : List Value), K.In s.heap → ws.length = 1 → BindsTo s dTooLarge ⟨[u], (["limit"] : List Str).zip ws⟩ ((["self", "limit"] : List Str).zip (u :: id ws))
  iNothingToUndo : Addr
  dNothingToUndo : FuncData
  fInitNothingToUndo : Fun K "__init__" "NothingToUndo.__init__" sInitNothingToUndo iNothingToUndo dNothingToUndo
  bInitNothingToUndo : Binds K dNothingToUndo ["self"] []
  xNothingToUndo : ErrN K cNothingToUndo iNothingToUndo "RuntimeError" "RuntimeError.__new__" "RuntimeError.__init__" [.type "RuntimeError", .type "Exception", .type "BaseException", .type "object"] [.type "RuntimeError", .type "Exception", .type "BaseException", .type "object"]
  iNothingToRedo : Addr
  dNothingToRedo : FuncData
  fInitNothingToRedo : Fun K "__init__" "NothingToRedo.__init__" sInitNothingToRedo iNothingToRedo dNothingToRedo
  bInitNothingToRedo : Binds K dNothingToRedo ["self"] []
  xNothingToRedo : ErrN K cNothingToRedo iNothingToRedo "RuntimeError" "RuntimeError.__new__" "RuntimeError.__init__" [.type "RuntimeError", .type "Exception", .type "BaseException", .type "object"] [.type "RuntimeError", .type "Exception", .type "BaseException", .type "object"]
  nds : [cInvalidPattern, cInvalidText, cInvalidVariables, cInvalidValues, cInvalidCount, cInvalidChain, cInvalidPlace, cInvalidFormula, cInvalidRules, cInvalidName, cInvalidDeed, cInvalidCommand, cParseError, cNotFree, cAvoidable, cRankTooSmall, cNoBlock, cUnknownName, cDuplicateName, cNoMoment, cTooLarge, cNothingToUndo, cNothingToRedo].Nodup
  kits : kitsB K [cInvalidPattern, cInvalidText, cInvalidVariables, cInvalidValues, cInvalidCount, cInvalidChain, cInvalidPlace, cInvalidFormula, cInvalidRules, cInvalidName, cInvalidDeed, cInvalidCommand, cParseError, cNotFree, cAvoidable, cRankTooSmall, cNoBlock, cUnknownName, cDuplicateName, cNoMoment, cTooLarge, cNothingToUndo, cNothingToRedo] = true
  vRt : PySem.W.findCls K (.type "RuntimeError") (.type "type") "__init__" = some (.val (.builtin "RuntimeError.__init__"))
  pys : pysB K ["ValueError", "LookupError", "KeyError", "IndexError", "OverflowError", "ArithmeticError", "RuntimeError", "TypeError"] [(cInvalidPattern, [.type "ValueError", .type "Exception", .type "BaseException", .type "object"]), (cInvalidText, [.type "ValueError", .type "Exception", .type "BaseException", .type "object"]), (cInvalidVariables, [.type "ValueError", .type "Exception", .type "BaseException", .type "object"]), (cInvalidValues, [.type "ValueError", .type "Exception", .type "BaseException", .type "object"]), (cInvalidCount, [.type "ValueError", .type "Exception", .type "BaseException", .type "object"]), (cInvalidChain, [.type "ValueError", .type "Exception", .type "BaseException", .type "object"]), (cInvalidPlace, [.type "ValueError", .type "Exception", .type "BaseException", .type "object"]), (cInvalidFormula, [.type "ValueError", .type "Exception", .type "BaseException", .type "object"]), (cInvalidRules, [.type "ValueError", .type "Exception", .type "BaseException", .type "object"]), (cInvalidName, [.type "ValueError", .type "Exception", .type "BaseException", .type "object"]), (cInvalidDeed, [.type "ValueError", .type "Exception", .type "BaseException", .type "object"]), (cInvalidCommand, [.type "ValueError", .type "Exception", .type "BaseException", .type "object"]), (cParseError, [.type "ValueError", .type "Exception", .type "BaseException", .type "object"]), (cNotFree, [.type "ValueError", .type "Exception", .type "BaseException", .type "object"]), (cAvoidable, [.type "ValueError", .type "Exception", .type "BaseException", .type "object"]), (cRankTooSmall, [.type "LookupError", .type "Exception", .type "BaseException", .type "object"]), (cNoBlock, [.type "LookupError", .type "Exception", .type "BaseException", .type "object"]), (cUnknownName, [.type "KeyError", .type "LookupError", .type "Exception", .type "BaseException", .type "object"]), (cDuplicateName, [.type "KeyError", .type "LookupError", .type "Exception", .type "BaseException", .type "object"]), (cNoMoment, [.type "IndexError", .type "LookupError", .type "Exception", .type "BaseException", .type "object"]), (cTooLarge, [.type "OverflowError", .type "ArithmeticError", .type "Exception", .type "BaseException", .type "object"]), (cNothingToUndo, [.type "RuntimeError", .type "Exception", .type "BaseException", .type "object"]), (cNothingToRedo, [.type "RuntimeError", .type "Exception", .type "BaseException", .type "object"])] = true
  aLValues : Addr
  dLValues : FuncData
  fLValues : Fun K "_law_values" "_law_values" sLValues aLValues dLValues
  bLValues : Binds K dLValues ["_law_script"] []
  gLValues : mg "_law_values" = some (.ref aLValues)
  aLMade : Addr
  dLMade : FuncData
  fLMade : Fun K "_law_made" "_law_made" sLMade aLMade dLMade
  bLMade : Binds K dLMade ["_law_aa", "_law_bb"] []
  gLMade : mg "_law_made" = some (.ref aLMade)
  aLNamed : Addr
  dLNamed : FuncData
  fLNamed : Fun K "_law_named" "_law_named" sLNamed aLNamed dLNamed
  bLNamed : Binds K dLNamed ["_law_aa", "_law_bb"] []
  gLNamed : mg "_law_named" = some (.ref aLNamed)
  aLFields : Addr
  dLFields : FuncData
  fLFields : Fun K "_law_fields" "_law_fields" sLFields aLFields dLFields
  bLFields : Binds K dLFields ["_law_some"] []
  gLFields : mg "_law_fields" = some (.ref aLFields)
  aLKinds : Addr
  dLKinds : FuncData
  fLKinds : Fun K "_law_kinds" "_law_kinds" sLKinds aLKinds dLKinds
  bLKinds : Binds K dLKinds ["_law_thing"] []
  gLKinds : mg "_law_kinds" = some (.ref aLKinds)
  aLPython : Addr
  dLPython : FuncData
  fLPython : Fun K "_law_python" "_law_python" sLPython aLPython dLPython
  bLPython : Binds K dLPython ["_law_thing"] []
  gLPython : mg "_law_python" = some (.ref aLPython)
  aLaw : Addr
  dLaw : FuncData
  fLaw : Fun K "law" "law" sLaw aLaw dLaw
  bLaw : Binds K dLaw ["_law_script"] []
  gLaw : mg "law" = some (.ref aLaw)
  m_abs : mg "abs" = none
  m_sum : mg "sum" = none
  m_len : mg "len" = none
  m_isinstance : mg "isinstance" = none
  m_int : mg "int" = none
  m_TypeError : mg "TypeError" = none
  m_RuntimeError : mg "RuntimeError" = none
  m_ArithmeticError : mg "ArithmeticError" = none
  m_OverflowError : mg "OverflowError" = none
  m_IndexError : mg "IndexError" = none
  m_KeyError : mg "KeyError" = none
  m_LookupError : mg "LookupError" = none
  m_ValueError : mg "ValueError" = none
  m_range : mg "range" = none
  m_repr : mg "repr" = none
end Mo

namespace Mo
open PySem PySem.Spec PyProof.Rows L2
variable {P : Program} {w : World} {K : PySem.W.Frag} {mg : Str → Option Value} {base : Heap}
theorem ok_iInvalidPattern {k : Nat} (T : Txt K mg) : FnOk P w K mg base CX0 (k + 1) T.iInvalidPattern T.dInvalidPattern ["self", "value"] (spInit T.cInvalidPattern "value") := by
  refine T.fInitInvalidPattern.ok scInitInvalidPattern (fun vs H Q E h => ?_) (fun cdv A outer s H vs Q E hr h => ?_)
  · obtain ⟨a, y, rfl, _⟩ := h
    rfl
  · obtain ⟨a, y, rfl, ha, q⟩ := h
    refine ⟨_, pss_one (Mo.ps_fieldN (pv 0) (pv 1)), ?_⟩
    exact ⟨_, rfl, _, rfl, a, T.cInvalidPattern, _, _, _, _, _, rfl, T.xInvalidPattern.ov, T.n1InvalidPattern, ha, fun dx nd ne => q dx nd ne⟩
theorem ok_iInvalidText {k : Nat} (T : Txt K mg) : FnOk P w K mg base CX0 (k + 1) T.iInvalidText T.dInvalidText ["self", "value"] (spInit T.cInvalidText "value") := by
  refine T.fInitInvalidText.ok scInitInvalidText (fun vs H Q E h => ?_) (fun cdv A outer s H vs Q E hr h => ?_)
  · obtain ⟨a, y, rfl, _⟩ := h
    rfl
  · obtain ⟨a, y, rfl, ha, q⟩ := h
    refine ⟨_, pss_one (Mo.ps_fieldN (pv 0) (pv 1)), ?_⟩
    exact ⟨_, rfl, _, rfl, a, T.cInvalidText, _, _, _, _, _, rfl, T.xInvalidText.ov, T.n1InvalidText, ha, fun dx nd ne => q dx nd ne⟩
theorem ok_iInvalidVariables {k : Nat} (T : Txt K mg) : FnOk P w K mg base CX0 (k + 1) T.iInvalidVariables T.dInvalidVariables ["self", "value"] (spInit T.cInvalidVariables "value") := by
  refine T.fInitInvalidVariables.ok scInitInvalidVariables (fun vs H Q E h => ?_) (fun cdv A outer s H vs Q E hr h => ?_)
  · obtain ⟨a, y, rfl, _⟩ := h
    rfl
  · obtain ⟨a, y, rfl, ha, q⟩ := h
    refine ⟨_, pss_one (Mo.ps_fieldN (pv 0) (pv 1)), ?_⟩
    exact ⟨_, rfl, _, rfl, a, T.cInvalidVariables, _, _, _, _, _, rfl, T.xInvalidVariables.ov, T.n1InvalidVariables, ha, fun dx nd ne => q dx nd ne⟩
theorem ok_iInvalidValues {k : Nat} (T : Txt K mg) : FnOk P w K mg base CX0 (k + 1) T.iInvalidValues T.dInvalidValues ["self", "value"] (spInit T.cInvalidValues "value") := by
  refine T.fInitInvalidValues.ok scInitInvalidValues (fun vs H Q E h => ?_) (fun cdv A outer s H vs Q E hr h => ?_)
  · obtain ⟨a, y, rfl, _⟩ := h
    rfl
  · obtain ⟨a, y, rfl, ha, q⟩ := h
    refine ⟨_, pss_one (Mo.ps_fieldN (pv 0) (pv 1)), ?_⟩
    exact ⟨_, rfl, _, rfl, a, T.cInvalidValues, _, _, _, _, _, rfl, T.xInvalidValues.ov, T.n1InvalidValues, ha, fun dx nd ne => q dx nd ne⟩
theorem ok_iInvalidCount {k : Nat} (T : Txt K mg) : FnOk P w K mg base CX0 (k + 1) T.iInvalidCount T.dInvalidCount ["self", "value"] (spInit T.cInvalidCount "value") := by
  refine T.fInitInvalidCount.ok scInitInvalidCount (fun vs H Q E h => ?_) (fun cdv A outer s H vs Q E hr h => ?_)
  · obtain ⟨a, y, rfl, _⟩ := h
    rfl
  · obtain ⟨a, y, rfl, ha, q⟩ := h
    refine ⟨_, pss_one (Mo.ps_fieldN (pv 0) (pv 1)), ?_⟩
    exact ⟨_, rfl, _, rfl, a, T.cInvalidCount, _, _, _, _, _, rfl, T.xInvalidCount.ov, T.n1InvalidCount, ha, fun dx nd ne => q dx nd ne⟩
theorem ok_iInvalidChain {k : Nat} (T : Txt K mg) : FnOk P w K mg base CX0 (k + 1) T.iInvalidChain T.dInvalidChain ["self", "value"] (spInit T.cInvalidChain "value") := by
  refine T.fInitInvalidChain.ok scInitInvalidChain (fun vs H Q E h => ?_) (fun cdv A outer s H vs Q E hr h => ?_)
  · obtain ⟨a, y, rfl, _⟩ := h
    rfl
  · obtain ⟨a, y, rfl, ha, q⟩ := h
    refine ⟨_, pss_one (Mo.ps_fieldN (pv 0) (pv 1)), ?_⟩
    exact ⟨_, rfl, _, rfl, a, T.cInvalidChain, _, _, _, _, _, rfl, T.xInvalidChain.ov, T.n1InvalidChain, ha, fun dx nd ne => q dx nd ne⟩
theorem ok_iInvalidPlace {k : Nat} (T : Txt K mg) : FnOk P w K mg base CX0 (k + 1) T.iInvalidPlace T.dInvalidPlace ["self", "value"] (spInit T.cInvalidPlace "value") := by
  refine T.fInitInvalidPlace.ok scInitInvalidPlace (fun vs H Q E h => ?_) (fun cdv A outer s H vs Q E hr h => ?_)
  · obtain ⟨a, y, rfl, _⟩ := h
    rfl
  · obtain ⟨a, y, rfl, ha, q⟩ := h
    refine ⟨_, pss_one (Mo.ps_fieldN (pv 0) (pv 1)), ?_⟩
    exact ⟨_, rfl, _, rfl, a, T.cInvalidPlace, _, _, _, _, _, rfl, T.xInvalidPlace.ov, T.n1InvalidPlace, ha, fun dx nd ne => q dx nd ne⟩
theorem ok_iInvalidFormula {k : Nat} (T : Txt K mg) : FnOk P w K mg base CX0 (k + 1) T.iInvalidFormula T.dInvalidFormula ["self", "value"] (spInit T.cInvalidFormula "value") := by
  refine T.fInitInvalidFormula.ok scInitInvalidFormula (fun vs H Q E h => ?_) (fun cdv A outer s H vs Q E hr h => ?_)
  · obtain ⟨a, y, rfl, _⟩ := h
    rfl
  · obtain ⟨a, y, rfl, ha, q⟩ := h
    refine ⟨_, pss_one (Mo.ps_fieldN (pv 0) (pv 1)), ?_⟩
    exact ⟨_, rfl, _, rfl, a, T.cInvalidFormula, _, _, _, _, _, rfl, T.xInvalidFormula.ov, T.n1InvalidFormula, ha, fun dx nd ne => q dx nd ne⟩
theorem ok_iInvalidRules {k : Nat} (T : Txt K mg) : FnOk P w K mg base CX0 (k + 1) T.iInvalidRules T.dInvalidRules ["self", "value"] (spInit T.cInvalidRules "value") := by
  refine T.fInitInvalidRules.ok scInitInvalidRules (fun vs H Q E h => ?_) (fun cdv A outer s H vs Q E hr h => ?_)
  · obtain ⟨a, y, rfl, _⟩ := h
    rfl
  · obtain ⟨a, y, rfl, ha, q⟩ := h
    refine ⟨_, pss_one (Mo.ps_fieldN (pv 0) (pv 1)), ?_⟩
    exact ⟨_, rfl, _, rfl, a, T.cInvalidRules, _, _, _, _, _, rfl, T.xInvalidRules.ov, T.n1InvalidRules, ha, fun dx nd ne => q dx nd ne⟩
theorem ok_iInvalidName {k : Nat} (T : Txt K mg) : FnOk P w K mg base CX0 (k + 1) T.iInvalidName T.dInvalidName ["self", "value"] (spInit T.cInvalidName "value") := by
  refine T.fInitInvalidName.ok scInitInvalidName (fun vs H Q E h => ?_) (fun cdv A outer s H vs Q E hr h => ?_)
  · obtain ⟨a, y, rfl, _⟩ := h
    rfl
  · obtain ⟨a, y, rfl, ha, q⟩ := h
    refine ⟨_, pss_one (Mo.ps_fieldN (pv 0) (pv 1)), ?_⟩
    exact ⟨_, rfl, _, rfl, a, T.cInvalidName, _, _, _, _, _, rfl, T.xInvalidName.ov, T.n1InvalidName, ha, fun dx nd ne => q dx nd ne⟩
theorem ok_iInvalidDeed {k : Nat} (T : Txt K mg) : FnOk P w K mg base CX0 (k + 1) T.iInvalidDeed T.dInvalidDeed ["self", "index"] (spInit T.cInvalidDeed "index") := by
  refine T.fInitInvalidDeed.ok scInitInvalidDeed (fun vs H Q E h => ?_) (fun cdv A outer s H vs Q E hr h => ?_)
  · obtain ⟨a, y, rfl, _⟩ := h
    rfl
  · obtain ⟨a, y, rfl, ha, q⟩ := h
    refine ⟨_, pss_one (Mo.ps_fieldN (pv 0) (pv 1)), ?_⟩
    exact ⟨_, rfl, _, rfl, a, T.cInvalidDeed, _, _, _, _, _, rfl, T.xInvalidDeed.ov, T.n1InvalidDeed, ha, fun dx nd ne => q dx nd ne⟩
theorem ok_iInvalidCommand {k : Nat} (T : Txt K mg) : FnOk P w K mg base CX0 (k + 1) T.iInvalidCommand T.dInvalidCommand ["self", "line"] (spInit T.cInvalidCommand "line") := by
  refine T.fInitInvalidCommand.ok scInitInvalidCommand (fun vs H Q E h => ?_) (fun cdv A outer s H vs Q E hr h => ?_)
  · obtain ⟨a, y, rfl, _⟩ := h
    rfl
  · obtain ⟨a, y, rfl, ha, q⟩ := h
    refine ⟨_, pss_one (Mo.ps_fieldN (pv 0) (pv 1)), ?_⟩
    exact ⟨_, rfl, _, rfl, a, T.cInvalidCommand, _, _, _, _, _, rfl, T.xInvalidCommand.ov, T.n1InvalidCommand, ha, fun dx nd ne => q dx nd ne⟩
theorem ok_iParseError {k : Nat} (T : Txt K mg) : FnOk P w K mg base CX0 (k + 1) T.iParseError T.dParseError ["self", "offset"] (spInit T.cParseError "offset") := by
  refine T.fInitParseError.ok scInitParseError (fun vs H Q E h => ?_) (fun cdv A outer s H vs Q E hr h => ?_)
  · obtain ⟨a, y, rfl, _⟩ := h
    rfl
  · obtain ⟨a, y, rfl, ha, q⟩ := h
    refine ⟨_, pss_one (Mo.ps_fieldN (pv 0) (pv 1)), ?_⟩
    exact ⟨_, rfl, _, rfl, a, T.cParseError, _, _, _, _, _, rfl, T.xParseError.ov, T.n1ParseError, ha, fun dx nd ne => q dx nd ne⟩
theorem ok_iNotFree {k : Nat} (T : Txt K mg) : FnOk P w K mg base CX0 (k + 1) T.iNotFree T.dNotFree ["self", "variables"] (spInit T.cNotFree "variables") := by
  refine T.fInitNotFree.ok scInitNotFree (fun vs H Q E h => ?_) (fun cdv A outer s H vs Q E hr h => ?_)
  · obtain ⟨a, y, rfl, _⟩ := h
    rfl
  · obtain ⟨a, y, rfl, ha, q⟩ := h
    refine ⟨_, pss_one (Mo.ps_fieldN (pv 0) (pv 1)), ?_⟩
    exact ⟨_, rfl, _, rfl, a, T.cNotFree, _, _, _, _, _, rfl, T.xNotFree.ov, T.n1NotFree, ha, fun dx nd ne => q dx nd ne⟩
theorem ok_iAvoidable {k : Nat} (T : Txt K mg) : FnOk P w K mg base CX0 (k + 1) T.iAvoidable T.dAvoidable ["self", "pattern"] (spInit T.cAvoidable "pattern") := by
  refine T.fInitAvoidable.ok scInitAvoidable (fun vs H Q E h => ?_) (fun cdv A outer s H vs Q E hr h => ?_)
  · obtain ⟨a, y, rfl, _⟩ := h
    rfl
  · obtain ⟨a, y, rfl, ha, q⟩ := h
    refine ⟨_, pss_one (Mo.ps_fieldN (pv 0) (pv 1)), ?_⟩
    exact ⟨_, rfl, _, rfl, a, T.cAvoidable, _, _, _, _, _, rfl, T.xAvoidable.ov, T.n1Avoidable, ha, fun dx nd ne => q dx nd ne⟩
theorem ok_iRankTooSmall {k : Nat} (T : Txt K mg) : FnOk P w K mg base CX0 (k + 1) T.iRankTooSmall T.dRankTooSmall ["self", "rank"] (spInit T.cRankTooSmall "rank") := by
  refine T.fInitRankTooSmall.ok scInitRankTooSmall (fun vs H Q E h => ?_) (fun cdv A outer s H vs Q E hr h => ?_)
  · obtain ⟨a, y, rfl, _⟩ := h
    rfl
  · obtain ⟨a, y, rfl, ha, q⟩ := h
    refine ⟨_, pss_one (Mo.ps_fieldN (pv 0) (pv 1)), ?_⟩
    exact ⟨_, rfl, _, rfl, a, T.cRankTooSmall, _, _, _, _, _, rfl, T.xRankTooSmall.ov, T.n1RankTooSmall, ha, fun dx nd ne => q dx nd ne⟩
theorem ok_iNoBlock {k : Nat} (T : Txt K mg) : FnOk P w K mg base CX0 (k + 1) T.iNoBlock T.dNoBlock ["self", "first", "second"] (spInit2 T.cNoBlock "first" "second") := by
  refine T.fInitNoBlock.ok scInitNoBlock (fun vs H Q E h => ?_) (fun cdv A outer s H vs Q E hr h => ?_)
  · obtain ⟨a, y, z, rfl, _⟩ := h
    rfl
  · obtain ⟨a, y, z, rfl, ha, q⟩ := h
    refine ⟨_, pss_cons (Mo.ps_fieldN (pv 0) (pv 1)) (pss_one (Mo.ps_fieldN2 (pv 0) (pv 2))), ?_⟩
    refine ⟨_, rfl, _, rfl, a, T.cNoBlock, _, _, _, _, _, rfl, T.xNoBlock.ov, T.n1NoBlock, ha, fun dx nd ne => ?_⟩
    exact ⟨_, rfl, _, rfl, a, T.cNoBlock, dx, _, _, _, _, _, _, rfl, T.xNoBlock.ov, T.n2NoBlock, upd_same, by rw [upd_ne ne, upd_same], (by show 1 ≤ 900; decide), q dx nd ne⟩
theorem ok_iUnknownName {k : Nat} (T : Txt K mg) : FnOk P w K mg base CX0 (k + 1) T.iUnknownName T.dUnknownName ["self", "name"] (spInit T.cUnknownName "name") := by
  refine T.fInitUnknownName.ok scInitUnknownName (fun vs H Q E h => ?_) (fun cdv A outer s H vs Q E hr h => ?_)
  · obtain ⟨a, y, rfl, _⟩ := h
    rfl
  · obtain ⟨a, y, rfl, ha, q⟩ := h
    refine ⟨_, pss_one (Mo.ps_fieldN (pv 0) (pv 1)), ?_⟩
    exact ⟨_, rfl, _, rfl, a, T.cUnknownName, _, _, _, _, _, rfl, T.xUnknownName.ov, T.n1UnknownName, ha, fun dx nd ne => q dx nd ne⟩
theorem ok_iDuplicateName {k : Nat} (T : Txt K mg) : FnOk P w K mg base CX0 (k + 1) T.iDuplicateName T.dDuplicateName ["self", "name"] (spInit T.cDuplicateName "name") := by
  refine T.fInitDuplicateName.ok scInitDuplicateName (fun vs H Q E h => ?_) (fun cdv A outer s H vs Q E hr h => ?_)
  · obtain ⟨a, y, rfl, _⟩ := h
    rfl
  · obtain ⟨a, y, rfl, ha, q⟩ := h
    refine ⟨_, pss_one (Mo.ps_fieldN (pv 0) (pv 1)), ?_⟩
    exact ⟨_, rfl, _, rfl, a, T.cDuplicateName, _, _, _, _, _, rfl, T.xDuplicateName.ov, T.n1DuplicateName, ha, fun dx nd ne => q dx nd ne⟩
theorem ok_iNoMoment {k : Nat} (T : Txt K mg) : FnOk P w K mg base CX0 (k + 1) T.iNoMoment T.dNoMoment ["self", "asked"] (spInit T.cNoMoment "asked") := by
  refine T.fInitNoMoment.ok scInitNoMoment (fun vs H Q E h => ?_) (fun cdv A outer s H vs Q E hr h => ?_)
  · obtain ⟨a, y, rfl, _⟩ := h
    rfl
  · obtain ⟨a, y, rfl, ha, q⟩ := h
    refine ⟨_, pss_one (Mo.ps_fieldN (pv 0) (pv 1)), ?_⟩
    exact ⟨_, rfl, _, rfl, a, T.cNoMoment, _, _, _, _, _, rfl, T.xNoMoment.ov, T.n1NoMoment, ha, fun dx nd ne => q dx nd ne⟩
theorem ok_iTooLarge {k : Nat} (T : Txt K mg) : FnOk P w K mg base CX0 (k + 1) T.iTooLarge T.dTooLarge ["self", "limit"] (spInit T.cTooLarge "limit") := by
  refine T.fInitTooLarge.ok scInitTooLarge (fun vs H Q E h => ?_) (fun cdv A outer s H vs Q E hr h => ?_)
  · obtain ⟨a, y, rfl, _⟩ := h
    rfl
  · obtain ⟨a, y, rfl, ha, q⟩ := h
    refine ⟨_, pss_one (Mo.ps_fieldN (pv 0) (pv 1)), ?_⟩
    exact ⟨_, rfl, _, rfl, a, T.cTooLarge, _, _, _, _, _, rfl, T.xTooLarge.ov, T.n1TooLarge, ha, fun dx nd ne => q dx nd ne⟩
theorem ok_iNothingToUndo {k : Nat} (T : Txt K mg) : FnOk P w K mg base CX0 (k + 1) T.iNothingToUndo T.dNothingToUndo ["self"] (spInit0 T.cNothingToUndo) := by
  refine T.fInitNothingToUndo.ok scInitNothingToUndo (fun vs H Q E h => ?_) (fun cdv A outer s H vs Q E hr h => ?_)
  · obtain ⟨a, rfl, _⟩ := h
    rfl
  · obtain ⟨a, rfl, ha, q⟩ := h
    refine ⟨_, pss_one (ps_expr (Mo.pe_rtinit (by rfl) T.m_RuntimeError T.vRt (pa_cons (pv 0) pa_nil))), ?_⟩
    exact ⟨_, rfl, a, T.cNothingToUndo, [], rfl, by decide, T.xNothingToUndo.ov, ha, q⟩
theorem ok_iNothingToRedo {k : Nat} (T : Txt K mg) : FnOk P w K mg base CX0 (k + 1) T.iNothingToRedo T.dNothingToRedo ["self"] (spInit0 T.cNothingToRedo) := by
  refine T.fInitNothingToRedo.ok scInitNothingToRedo (fun vs H Q E h => ?_) (fun cdv A outer s H vs Q E hr h => ?_)
  · obtain ⟨a, rfl, _⟩ := h
    rfl
  · obtain ⟨a, rfl, ha, q⟩ := h
    refine ⟨_, pss_one (ps_expr (Mo.pe_rtinit (by rfl) T.m_RuntimeError T.vRt (pa_cons (pv 0) pa_nil))), ?_⟩
    exact ⟨_, rfl, a, T.cNothingToRedo, [], rfl, by decide, T.xNothingToRedo.ov, ha, q⟩
end Mo

namespace Mo
open PySem PySem.Spec PyProof.Rows L2
variable {P : Program} {w : World} {K : PySem.W.Frag} {mg : Str → Option Value} {base : Heap}
/-- the errors of a list, each of its class with its fields -/
def ErrP (H : Hp) (r : V) (p : Addr × List (Str × V)) : Prop := ∃ a, r = .ref a ∧ ErrIs H a p.1 p.2
theorem errs_same {H H' : Hp} (s : Same H H') : ∀ {rs : List V} {tb : List (Addr × List (Str × V))}, Paired (ErrP H) rs tb → Paired (ErrP H') rs tb
  | _, _, .nil => .nil
  | _, _, .cons ⟨a, e, x⟩ r => .cons ⟨a, e, x.same s⟩ (errs_same s r)
def tblE (T : Txt K mg) (v u : V) : List (Addr × List (Str × V)) := [(T.cInvalidPattern, [("value", v)]), (T.cInvalidText, [("value", v)]), (T.cInvalidVariables, [("value", v)]), (T.cInvalidValues, [("value", v)]), (T.cInvalidCount, [("value", v)]), (T.cInvalidChain, [("value", v)]), (T.cInvalidPlace, [("value", v)]), (T.cInvalidFormula, [("value", v)]), (T.cInvalidRules, [("value", v)]), (T.cInvalidName, [("value", v)]), (T.cInvalidDeed, [("index", v)]), (T.cInvalidCommand, [("line", v)]), (T.cParseError, [("offset", v)]), (T.cNotFree, [("variables", v)]), (T.cAvoidable, [("pattern", v)]), (T.cRankTooSmall, [("rank", v)]), (T.cNoBlock, [("second", u), ("first", v)]), (T.cUnknownName, [("name", v)]), (T.cDuplicateName, [("name", v)]), (T.cNoMoment, [("asked", v)]), (T.cTooLarge, [("limit", v)]), (T.cNothingToUndo, []), (T.cNothingToRedo, [])]
def spMade (T : Txt K mg) : Sp := fun vs H Q _ => ∃ v u, vs = [v, u] ∧ ∀ r rs H', Same H H' → H r = none → H' r = some (.lst rs) → Paired (ErrP H') rs (tblE T v u) → Q (.ref r) H'
theorem errs_len {H : Hp} {rs : List V} {tb : List (Addr × List (Str × V))} (h : Paired (ErrP H) rs tb) : rs.length = tb.length := Paired.length h
theorem errs_app {H : Hp} : ∀ {rs zs : List V} {tb uu : List (Addr × List (Str × V))}, Paired (ErrP H) rs tb → Paired (ErrP H) zs uu → Paired (ErrP H) (rs ++ zs) (tb ++ uu)
  | _, _, _, _, .nil, h => h
  | _, _, _, _, .cons a r, h => .cons a (errs_app r h)
/-- a row of errors that are made one after the other -/
def Mks (σ : L2.St) (t : TA) (tb : List (Addr × List (Str × V))) : Prop := ∀ (H : Hp) (Q : List V → Hp → Prop), (∀ rs H', Same H H' → Paired (ErrP H') rs tb → Q rs H') → t σ H Q
section
variable {σ : L2.St} {t : TA} {tb : List (Addr × List (Str × V))} {C : Addr} {f g : Str} {v u : V} {i j : Nat}
theorem mks_nil : Mks σ tNil [] := fun H Q h => h [] H (fun _ _ e => e) .nil
theorem mks_go {te : TE} {p : Addr × List (Str × V)} (h1 : ∀ (H : Hp) (Q : VK), (∀ a H', Same H H' → ErrIs H' a p.1 p.2 → Q (.ref a) H') → te σ H Q) (h : Mks σ t tb) : Mks σ (tCons te t) (p :: tb) := fun H Q q =>
  h1 H _ fun a H1 s1 e1 => h H1 _ fun rs H2 s2 p2 => q (.ref a :: rs) H2 (fun b o e => s2 _ _ (s1 _ _ e)) (.cons ⟨a, rfl, e1.same s2⟩ p2)
theorem mks_1 (e : σ[i]? = some (some v)) (h : Mks σ t tb) : Mks σ (tCons (tMkP C (spInit C f) (tCons (tVar i) tNil)) t) ((C, [(f, v)]) :: tb) :=
  mks_go (fun H Q q => ⟨v, e, by show 1 ≤ 1000; decide, fun a na => mk_read1 q na⟩) h
theorem mks_2 (e : σ[i]? = some (some v)) (e2 : σ[j]? = some (some u)) (h : Mks σ t tb) : Mks σ (tCons (tMkP C (spInit2 C f g) (tCons (tVar i) (tCons (tVar j) tNil))) t) ((C, [(g, u), (f, v)]) :: tb) :=
  mks_go (fun H Q q => ⟨v, e, u, e2, by show 2 ≤ 1000; decide, fun a na => mk_read2 q na⟩) h
theorem mks_0 (h : Mks σ t tb) : Mks σ (tCons (tMkP C (spInit0 C) tNil) t) ((C, []) :: tb) :=
  mks_go (fun H Q q => ⟨by show 0 ≤ 1000; decide, fun a na => mk_read0 q na⟩) h
theorem mks_k1 {n : Nat} (hn : n = 1) (e : σ[i]? = some (some v)) (h : Mks σ t tb) : Mks σ (tCons (tMkK C n (spInit C f) id (tCons (tVar i) tNil)) t) ((C, [(f, v)]) :: tb) :=
  mks_go (fun H Q q => ⟨v, e, hn.symm, fun a na => mk_read1 q na⟩) h
theorem mks_k2 {n : Nat} (hn : n = 2) (e : σ[i]? = some (some v)) (e2 : σ[j]? = some (some u)) (h : Mks σ t tb) : Mks σ (tCons (tMkK C n (spInit2 C f g) List.reverse (tCons (tVar j) (tCons (tVar i) tNil))) t) ((C, [(g, u), (f, v)]) :: tb) :=
  mks_go (fun H Q q => ⟨u, e2, v, e, hn.symm, fun a na => mk_read2 q na⟩) h
theorem lst_mks {H : Hp} {Q : VK} (h : Mks σ t tb) (hl : tb.length ≤ 100) (q : ∀ r rs H', Same H H' → H r = none → H' r = some (.lst rs) → Paired (ErrP H') rs tb → Q (.ref r) H') : tLst t σ H Q := by
  refine h H _ fun rs H1 s1 p1 => ⟨by have := errs_len p1; rw [sizeLine_eq]; omega, fun r nr => ?_⟩
  have s2 : Same H1 (upd H1 r (.lst rs)) := fun b o e => (upd_ne (ne_of_none e nr)).trans e
  refine q r rs _ (fun b o e => s2 _ _ (s1 _ _ e)) ?_ upd_same (errs_same s2 p1)
  cases z : H r with
  | none => rfl
  | some o => rw [s1 _ _ z] at nr; cases nr
theorem cat_mks {H : Hp} {Q : VK} {a : Addr} {rs0 : List V} {tb0 : List (Addr × List (Str × V))} (e : σ[i]? = some (some (.ref a))) (ha : H a = some (.lst rs0)) (p0 : Paired (ErrP H) rs0 tb0) (h : Mks σ t tb) (hl : tb0.length + tb.length ≤ 100)
    (q : ∀ r rs H', Same H H' → H r = none → H' r = some (.lst rs) → Paired (ErrP H') rs (tb0 ++ tb) → Q (.ref r) H') : tOp rCat (tVar i) (tLst t) σ H Q := by
  refine ⟨_, e, lst_mks h (by omega) fun b zs H1 s1 nb hb p1 => ⟨a, b, rs0, zs, rfl, rfl, s1 _ _ ha, hb, ?_, fun r nr => ?_⟩⟩
  · have := errs_len p0
    have := errs_len p1
    rw [sizeLine_eq]
    omega
  have s2 : Same H1 (upd H1 r (.lst (rs0 ++ zs))) := fun b o e => (upd_ne (ne_of_none e nr)).trans e
  refine q r _ _ (fun b o e => s2 _ _ (s1 _ _ e)) ?_ upd_same (errs_app (errs_same (fun b o e => s2 _ _ (s1 _ _ e)) p0) (errs_same s2 p1))
  cases z : H r with
  | none => rfl
  | some o => rw [s1 _ _ z] at nr; cases nr
end
theorem ok_made {k : Nat} (T : Txt K mg) : FnOk P w K mg base CX0 (k + 3) T.aLMade T.dLMade ["_law_aa", "_law_bb"] (spMade T) := by
  have GIInvalidPattern := ok_iInvalidPattern (P := P) (w := w) (base := base) (k := k) T
  have GIInvalidText := ok_iInvalidText (P := P) (w := w) (base := base) (k := k) T
  have GIInvalidVariables := ok_iInvalidVariables (P := P) (w := w) (base := base) (k := k) T
  have GIInvalidValues := ok_iInvalidValues (P := P) (w := w) (base := base) (k := k) T
  have GIInvalidCount := ok_iInvalidCount (P := P) (w := w) (base := base) (k := k) T
  have GIInvalidChain := ok_iInvalidChain (P := P) (w := w) (base := base) (k := k) T
  have GIInvalidPlace := ok_iInvalidPlace (P := P) (w := w) (base := base) (k := k) T
  have GIInvalidFormula := ok_iInvalidFormula (P := P) (w := w) (base := base) (k := k) T
  have GIInvalidRules := ok_iInvalidRules (P := P) (w := w) (base := base) (k := k) T
  have GIInvalidName := ok_iInvalidName (P := P) (w := w) (base := base) (k := k) T
  have GIInvalidDeed := ok_iInvalidDeed (P := P) (w := w) (base := base) (k := k) T
  have GIInvalidCommand := ok_iInvalidCommand (P := P) (w := w) (base := base) (k := k) T
  have GIParseError := ok_iParseError (P := P) (w := w) (base := base) (k := k) T
  have GINotFree := ok_iNotFree (P := P) (w := w) (base := base) (k := k) T
  have GIAvoidable := ok_iAvoidable (P := P) (w := w) (base := base) (k := k) T
  have GIRankTooSmall := ok_iRankTooSmall (P := P) (w := w) (base := base) (k := k) T
  have GINoBlock := ok_iNoBlock (P := P) (w := w) (base := base) (k := k) T
  have GIUnknownName := ok_iUnknownName (P := P) (w := w) (base := base) (k := k) T
  have GIDuplicateName := ok_iDuplicateName (P := P) (w := w) (base := base) (k := k) T
  have GINoMoment := ok_iNoMoment (P := P) (w := w) (base := base) (k := k) T
  have GITooLarge := ok_iTooLarge (P := P) (w := w) (base := base) (k := k) T
  have GINothingToUndo := ok_iNothingToUndo (P := P) (w := w) (base := base) (k := k) T
  have GINothingToRedo := ok_iNothingToRedo (P := P) (w := w) (base := base) (k := k) T
  refine T.fLMade.ok scLMade (fun vs H Q E h => ?_) (fun cdv A outer s H vs Q E hr h => ?_)
  · obtain ⟨v, u, rfl, _⟩ := h
    rfl
  · obtain ⟨v, u, rfl, q⟩ := h
    refine ⟨_, (pss_cons (ps_set (i := 2) scLMade.nd rfl (Or.inl rfl) (pe_lst (pa_cons (Mo.pe_mkP T.xInvalidPattern.ov T.xInvalidPattern.iC T.xInvalidPattern.tI GIInvalidPattern hr T.bInitInvalidPattern pass0 (by rfl) T.eInvalidPattern (pa_cons (pv 0) pa_nil)) (pa_cons (Mo.pe_mkP T.xInvalidText.ov T.xInvalidText.iC T.xInvalidText.tI GIInvalidText hr T.bInitInvalidText pass0 (by rfl) T.eInvalidText (pa_cons (pv 0) pa_nil)) (pa_cons (Mo.pe_mkP T.xInvalidVariables.ov T.xInvalidVariables.iC T.xInvalidVariables.tI GIInvalidVariables hr T.bInitInvalidVariables pass0 (by rfl) T.eInvalidVariables (pa_cons (pv 0) pa_nil)) (pa_cons (Mo.pe_mkP T.xInvalidValues.ov T.xInvalidValues.iC T.xInvalidValues.tI GIInvalidValues hr T.bInitInvalidValues pass0 (by rfl) T.eInvalidValues (pa_cons (pv 0) pa_nil)) (pa_cons (Mo.pe_mkP T.xInvalidCount.ov T.xInvalidCount.iC T.xInvalidCount.tI GIInvalidCount hr T.bInitInvalidCount pass0 (by rfl) T.eInvalidCount (pa_cons (pv 0) pa_nil)) pa_nil)))))))
      (pss_cons (ps_set (i := 2) scLMade.nd rfl (Or.inl rfl) (pe_op op_cat (pv 2) (pe_lst (pa_cons (Mo.pe_mkP T.xInvalidChain.ov T.xInvalidChain.iC T.xInvalidChain.tI GIInvalidChain hr T.bInitInvalidChain pass0 (by rfl) T.eInvalidChain (pa_cons (pv 0) pa_nil)) (pa_cons (Mo.pe_mkP T.xInvalidPlace.ov T.xInvalidPlace.iC T.xInvalidPlace.tI GIInvalidPlace hr T.bInitInvalidPlace pass0 (by rfl) T.eInvalidPlace (pa_cons (pv 0) pa_nil)) (pa_cons (Mo.pe_mkP T.xInvalidFormula.ov T.xInvalidFormula.iC T.xInvalidFormula.tI GIInvalidFormula hr T.bInitInvalidFormula pass0 (by rfl) T.eInvalidFormula (pa_cons (pv 0) pa_nil)) (pa_cons (Mo.pe_mkP T.xInvalidRules.ov T.xInvalidRules.iC T.xInvalidRules.tI GIInvalidRules hr T.bInitInvalidRules pass0 (by rfl) T.eInvalidRules (pa_cons (pv 0) pa_nil)) (pa_cons (Mo.pe_mkP T.xInvalidName.ov T.xInvalidName.iC T.xInvalidName.tI GIInvalidName hr T.bInitInvalidName pass0 (by rfl) T.eInvalidName (pa_cons (pv 0) pa_nil)) pa_nil))))))))
      (pss_cons (ps_set (i := 2) scLMade.nd rfl (Or.inl rfl) (pe_op op_cat (pv 2) (pe_lst (pa_cons (Mo.pe_mkP T.xInvalidDeed.ov T.xInvalidDeed.iC T.xInvalidDeed.tI GIInvalidDeed hr T.bInitInvalidDeed pass0 (by rfl) T.eInvalidDeed (pa_cons (pv 0) pa_nil)) (pa_cons (Mo.pe_mkP T.xInvalidCommand.ov T.xInvalidCommand.iC T.xInvalidCommand.tI GIInvalidCommand hr T.bInitInvalidCommand pass0 (by rfl) T.eInvalidCommand (pa_cons (pv 0) pa_nil)) (pa_cons (Mo.pe_mkP T.xParseError.ov T.xParseError.iC T.xParseError.tI GIParseError hr T.bInitParseError pass0 (by rfl) T.eParseError (pa_cons (pv 0) pa_nil)) (pa_cons (Mo.pe_mkP T.xNotFree.ov T.xNotFree.iC T.xNotFree.tI GINotFree hr T.bInitNotFree pass0 (by rfl) T.eNotFree (pa_cons (pv 0) pa_nil)) (pa_cons (Mo.pe_mkP T.xAvoidable.ov T.xAvoidable.iC T.xAvoidable.tI GIAvoidable hr T.bInitAvoidable pass0 (by rfl) T.eAvoidable (pa_cons (pv 0) pa_nil)) pa_nil))))))))
      (pss_cons (ps_set (i := 2) scLMade.nd rfl (Or.inl rfl) (pe_op op_cat (pv 2) (pe_lst (pa_cons (Mo.pe_mkP T.xRankTooSmall.ov T.xRankTooSmall.iC T.xRankTooSmall.tI GIRankTooSmall hr T.bInitRankTooSmall pass0 (by rfl) T.eRankTooSmall (pa_cons (pv 0) pa_nil)) (pa_cons (Mo.pe_mkP T.xNoBlock.ov T.xNoBlock.iC T.xNoBlock.tI GINoBlock hr T.bInitNoBlock pass0 (by rfl) T.eNoBlock (pa_cons (pv 0) (pa_cons (pv 1) pa_nil))) (pa_cons (Mo.pe_mkP T.xUnknownName.ov T.xUnknownName.iC T.xUnknownName.tI GIUnknownName hr T.bInitUnknownName pass0 (by rfl) T.eUnknownName (pa_cons (pv 0) pa_nil)) (pa_cons (Mo.pe_mkP T.xDuplicateName.ov T.xDuplicateName.iC T.xDuplicateName.tI GIDuplicateName hr T.bInitDuplicateName pass0 (by rfl) T.eDuplicateName (pa_cons (pv 0) pa_nil)) (pa_cons (Mo.pe_mkP T.xNoMoment.ov T.xNoMoment.iC T.xNoMoment.tI GINoMoment hr T.bInitNoMoment pass0 (by rfl) T.eNoMoment (pa_cons (pv 0) pa_nil)) pa_nil))))))))
      (pss_one (ps_ret (pe_op op_cat (pv 2) (pe_lst (pa_cons (Mo.pe_mkP T.xTooLarge.ov T.xTooLarge.iC T.xTooLarge.tI GITooLarge hr T.bInitTooLarge pass0 (by rfl) T.eTooLarge (pa_cons (pv 0) pa_nil)) (pa_cons (Mo.pe_mk0 T.xNothingToUndo.ov T.xNothingToUndo.iC T.xNothingToUndo.tI GINothingToUndo hr T.bInitNothingToUndo pass0 (by rfl) T.eNothingToUndo) (pa_cons (Mo.pe_mk0 T.xNothingToRedo.ov T.xNothingToRedo.iC T.xNothingToRedo.tI GINothingToRedo hr T.bInitNothingToRedo pass0 (by rfl) T.eNothingToRedo) pa_nil))))))))))), ?_⟩
    (try dsimp only [tSeq, tAsg, gName, tRet])
    refine lst_mks (mks_1 rfl (mks_1 rfl (mks_1 rfl (mks_1 rfl (mks_1 rfl mks_nil))))) (by simp only [List.length_cons, List.length_nil, List.length_append]; decide) fun r1 rs1 H1 s1 n1 h1 p1 => ?_
    (try dsimp only [tSeq, tAsg, gName, tRet])
    refine cat_mks rfl h1 p1 (mks_1 rfl (mks_1 rfl (mks_1 rfl (mks_1 rfl (mks_1 rfl mks_nil))))) (by simp only [List.length_cons, List.length_nil, List.length_append]; decide) fun r2 rs2 H2 s2 n2 h2 p2 => ?_
    (try dsimp only [tSeq, tAsg, gName, tRet])
    refine cat_mks rfl h2 p2 (mks_1 rfl (mks_1 rfl (mks_1 rfl (mks_1 rfl (mks_1 rfl mks_nil))))) (by simp only [List.length_cons, List.length_nil, List.length_append]; decide) fun r3 rs3 H3 s3 n3 h3 p3 => ?_
    (try dsimp only [tSeq, tAsg, gName, tRet])
    refine cat_mks rfl h3 p3 (mks_1 rfl (mks_2 rfl rfl (mks_1 rfl (mks_1 rfl (mks_1 rfl mks_nil))))) (by simp only [List.length_cons, List.length_nil, List.length_append]; decide) fun r4 rs4 H4 s4 n4 h4 p4 => ?_
    (try dsimp only [tSeq, tAsg, gName, tRet])
    refine cat_mks rfl h4 p4 (mks_1 rfl (mks_0 (mks_0 mks_nil))) (by simp only [List.length_cons, List.length_nil, List.length_append]; decide) fun r5 rs5 H5 s5 n5 h5 p5 => ?_
    refine q r5 rs5 H5 (fun b o e => s5 _ _ (s4 _ _ (s3 _ _ (s2 _ _ (s1 _ _ e))))) ?_ h5 p5
    cases z : H r5 with
    | none => rfl
    | some o =>
      have e := z
      rw [s4 _ _ (s3 _ _ (s2 _ _ (s1 _ _ e)))] at n5
      cases n5
theorem ok_named {k : Nat} (T : Txt K mg) : FnOk P w K mg base CX0 (k + 3) T.aLNamed T.dLNamed ["_law_aa", "_law_bb"] (spMade T) := by
  have GIInvalidPattern := ok_iInvalidPattern (P := P) (w := w) (base := base) (k := k) T
  have GIInvalidText := ok_iInvalidText (P := P) (w := w) (base := base) (k := k) T
  have GIInvalidVariables := ok_iInvalidVariables (P := P) (w := w) (base := base) (k := k) T
  have GIInvalidValues := ok_iInvalidValues (P := P) (w := w) (base := base) (k := k) T
  have GIInvalidCount := ok_iInvalidCount (P := P) (w := w) (base := base) (k := k) T
  have GIInvalidChain := ok_iInvalidChain (P := P) (w := w) (base := base) (k := k) T
  have GIInvalidPlace := ok_iInvalidPlace (P := P) (w := w) (base := base) (k := k) T
  have GIInvalidFormula := ok_iInvalidFormula (P := P) (w := w) (base := base) (k := k) T
  have GIInvalidRules := ok_iInvalidRules (P := P) (w := w) (base := base) (k := k) T
  have GIInvalidName := ok_iInvalidName (P := P) (w := w) (base := base) (k := k) T
  have GIInvalidDeed := ok_iInvalidDeed (P := P) (w := w) (base := base) (k := k) T
  have GIInvalidCommand := ok_iInvalidCommand (P := P) (w := w) (base := base) (k := k) T
  have GIParseError := ok_iParseError (P := P) (w := w) (base := base) (k := k) T
  have GINotFree := ok_iNotFree (P := P) (w := w) (base := base) (k := k) T
  have GIAvoidable := ok_iAvoidable (P := P) (w := w) (base := base) (k := k) T
  have GIRankTooSmall := ok_iRankTooSmall (P := P) (w := w) (base := base) (k := k) T
  have GINoBlock := ok_iNoBlock (P := P) (w := w) (base := base) (k := k) T
  have GIUnknownName := ok_iUnknownName (P := P) (w := w) (base := base) (k := k) T
  have GIDuplicateName := ok_iDuplicateName (P := P) (w := w) (base := base) (k := k) T
  have GINoMoment := ok_iNoMoment (P := P) (w := w) (base := base) (k := k) T
  have GITooLarge := ok_iTooLarge (P := P) (w := w) (base := base) (k := k) T
  have GINothingToUndo := ok_iNothingToUndo (P := P) (w := w) (base := base) (k := k) T
  have GINothingToRedo := ok_iNothingToRedo (P := P) (w := w) (base := base) (k := k) T
  refine T.fLNamed.ok scLNamed (fun vs H Q E h => ?_) (fun cdv A outer s H vs Q E hr h => ?_)
  · obtain ⟨v, u, rfl, _⟩ := h
    rfl
  · obtain ⟨v, u, rfl, q⟩ := h
    refine ⟨_, (pss_cons (ps_set (i := 2) scLNamed.nd rfl (Or.inl rfl) (pe_lst (pa_cons (Mo.pe_mkK (ks := ["value"]) (g := id) (gV := id) T.xInvalidPattern.ov T.xInvalidPattern.iC T.xInvalidPattern.tI GIInvalidPattern hr T.wInvalidPattern (fun _ _ r _ => r) pass0 (by rfl) T.eInvalidPattern (pk_cons (pv 0) pk_nil)) (pa_cons (Mo.pe_mkK (ks := ["value"]) (g := id) (gV := id) T.xInvalidText.ov T.xInvalidText.iC T.xInvalidText.tI GIInvalidText hr T.wInvalidText (fun _ _ r _ => r) pass0 (by rfl) T.eInvalidText (pk_cons (pv 0) pk_nil)) (pa_cons (Mo.pe_mkK (ks := ["value"]) (g := id) (gV := id) T.xInvalidVariables.ov T.xInvalidVariables.iC T.xInvalidVariables.tI GIInvalidVariables hr T.wInvalidVariables (fun _ _ r _ => r) pass0 (by rfl) T.eInvalidVariables (pk_cons (pv 0) pk_nil)) (pa_cons (Mo.pe_mkK (ks := ["value"]) (g := id) (gV := id) T.xInvalidValues.ov T.xInvalidValues.iC T.xInvalidValues.tI GIInvalidValues hr T.wInvalidValues (fun _ _ r _ => r) pass0 (by rfl) T.eInvalidValues (pk_cons (pv 0) pk_nil)) pa_nil))))))
      (pss_cons (ps_set (i := 2) scLNamed.nd rfl (Or.inl rfl) (pe_op op_cat (pv 2) (pe_lst (pa_cons (Mo.pe_mkK (ks := ["value"]) (g := id) (gV := id) T.xInvalidCount.ov T.xInvalidCount.iC T.xInvalidCount.tI GIInvalidCount hr T.wInvalidCount (fun _ _ r _ => r) pass0 (by rfl) T.eInvalidCount (pk_cons (pv 0) pk_nil)) (pa_cons (Mo.pe_mkK (ks := ["value"]) (g := id) (gV := id) T.xInvalidChain.ov T.xInvalidChain.iC T.xInvalidChain.tI GIInvalidChain hr T.wInvalidChain (fun _ _ r _ => r) pass0 (by rfl) T.eInvalidChain (pk_cons (pv 0) pk_nil)) (pa_cons (Mo.pe_mkK (ks := ["value"]) (g := id) (gV := id) T.xInvalidPlace.ov T.xInvalidPlace.iC T.xInvalidPlace.tI GIInvalidPlace hr T.wInvalidPlace (fun _ _ r _ => r) pass0 (by rfl) T.eInvalidPlace (pk_cons (pv 0) pk_nil)) pa_nil))))))
      (pss_cons (ps_set (i := 2) scLNamed.nd rfl (Or.inl rfl) (pe_op op_cat (pv 2) (pe_lst (pa_cons (Mo.pe_mkK (ks := ["value"]) (g := id) (gV := id) T.xInvalidFormula.ov T.xInvalidFormula.iC T.xInvalidFormula.tI GIInvalidFormula hr T.wInvalidFormula (fun _ _ r _ => r) pass0 (by rfl) T.eInvalidFormula (pk_cons (pv 0) pk_nil)) (pa_cons (Mo.pe_mkK (ks := ["value"]) (g := id) (gV := id) T.xInvalidRules.ov T.xInvalidRules.iC T.xInvalidRules.tI GIInvalidRules hr T.wInvalidRules (fun _ _ r _ => r) pass0 (by rfl) T.eInvalidRules (pk_cons (pv 0) pk_nil)) (pa_cons (Mo.pe_mkK (ks := ["value"]) (g := id) (gV := id) T.xInvalidName.ov T.xInvalidName.iC T.xInvalidName.tI GIInvalidName hr T.wInvalidName (fun _ _ r _ => r) pass0 (by rfl) T.eInvalidName (pk_cons (pv 0) pk_nil)) pa_nil))))))
      (pss_cons (ps_set (i := 2) scLNamed.nd rfl (Or.inl rfl) (pe_op op_cat (pv 2) (pe_lst (pa_cons (Mo.pe_mkK (ks := ["index"]) (g := id) (gV := id) T.xInvalidDeed.ov T.xInvalidDeed.iC T.xInvalidDeed.tI GIInvalidDeed hr T.wInvalidDeed (fun _ _ r _ => r) pass0 (by rfl) T.eInvalidDeed (pk_cons (pv 0) pk_nil)) (pa_cons (Mo.pe_mkK (ks := ["line"]) (g := id) (gV := id) T.xInvalidCommand.ov T.xInvalidCommand.iC T.xInvalidCommand.tI GIInvalidCommand hr T.wInvalidCommand (fun _ _ r _ => r) pass0 (by rfl) T.eInvalidCommand (pk_cons (pv 0) pk_nil)) pa_nil)))))
      (pss_cons (ps_set (i := 2) scLNamed.nd rfl (Or.inl rfl) (pe_op op_cat (pv 2) (pe_lst (pa_cons (Mo.pe_mkK (ks := ["offset"]) (g := id) (gV := id) T.xParseError.ov T.xParseError.iC T.xParseError.tI GIParseError hr T.wParseError (fun _ _ r _ => r) pass0 (by rfl) T.eParseError (pk_cons (pv 0) pk_nil)) (pa_cons (Mo.pe_mkK (ks := ["variables"]) (g := id) (gV := id) T.xNotFree.ov T.xNotFree.iC T.xNotFree.tI GINotFree hr T.wNotFree (fun _ _ r _ => r) pass0 (by rfl) T.eNotFree (pk_cons (pv 0) pk_nil)) (pa_cons (Mo.pe_mkK (ks := ["pattern"]) (g := id) (gV := id) T.xAvoidable.ov T.xAvoidable.iC T.xAvoidable.tI GIAvoidable hr T.wAvoidable (fun _ _ r _ => r) pass0 (by rfl) T.eAvoidable (pk_cons (pv 0) pk_nil)) (pa_cons (Mo.pe_mkK (ks := ["rank"]) (g := id) (gV := id) T.xRankTooSmall.ov T.xRankTooSmall.iC T.xRankTooSmall.tI GIRankTooSmall hr T.wRankTooSmall (fun _ _ r _ => r) pass0 (by rfl) T.eRankTooSmall (pk_cons (pv 0) pk_nil)) pa_nil)))))))
      (pss_cons (ps_set (i := 2) scLNamed.nd rfl (Or.inl rfl) (pe_op op_cat (pv 2) (pe_lst (pa_cons (Mo.pe_mkK (ks := ["second", "first"]) (g := List.reverse) (gV := List.reverse) T.xNoBlock.ov T.xNoBlock.iC T.xNoBlock.tI GINoBlock hr T.wNoBlock Mo.vals_rev2 pass0 (by rfl) T.eNoBlock (pk_cons (pv 1) (pk_cons (pv 0) pk_nil))) (pa_cons (Mo.pe_mkK (ks := ["name"]) (g := id) (gV := id) T.xUnknownName.ov T.xUnknownName.iC T.xUnknownName.tI GIUnknownName hr T.wUnknownName (fun _ _ r _ => r) pass0 (by rfl) T.eUnknownName (pk_cons (pv 0) pk_nil)) (pa_cons (Mo.pe_mkK (ks := ["name"]) (g := id) (gV := id) T.xDuplicateName.ov T.xDuplicateName.iC T.xDuplicateName.tI GIDuplicateName hr T.wDuplicateName (fun _ _ r _ => r) pass0 (by rfl) T.eDuplicateName (pk_cons (pv 0) pk_nil)) (pa_cons (Mo.pe_mkK (ks := ["asked"]) (g := id) (gV := id) T.xNoMoment.ov T.xNoMoment.iC T.xNoMoment.tI GINoMoment hr T.wNoMoment (fun _ _ r _ => r) pass0 (by rfl) T.eNoMoment (pk_cons (pv 0) pk_nil)) pa_nil)))))))
      (pss_one (ps_ret (pe_op op_cat (pv 2) (pe_lst (pa_cons (Mo.pe_mkK (ks := ["limit"]) (g := id) (gV := id) T.xTooLarge.ov T.xTooLarge.iC T.xTooLarge.tI GITooLarge hr T.wTooLarge (fun _ _ r _ => r) pass0 (by rfl) T.eTooLarge (pk_cons (pv 0) pk_nil)) (pa_cons (Mo.pe_mk0 T.xNothingToUndo.ov T.xNothingToUndo.iC T.xNothingToUndo.tI GINothingToUndo hr T.bInitNothingToUndo pass0 (by rfl) T.eNothingToUndo) (pa_cons (Mo.pe_mk0 T.xNothingToRedo.ov T.xNothingToRedo.iC T.xNothingToRedo.tI GINothingToRedo hr T.bInitNothingToRedo pass0 (by rfl) T.eNothingToRedo) pa_nil))))))))))))), ?_⟩
    (try dsimp only [tSeq, tAsg, gName, tRet])
    refine lst_mks (mks_k1 rfl rfl (mks_k1 rfl rfl (mks_k1 rfl rfl (mks_k1 rfl rfl mks_nil)))) (by simp only [List.length_cons, List.length_nil, List.length_append]; decide) fun r1 rs1 H1 s1 n1 h1 p1 => ?_
    (try dsimp only [tSeq, tAsg, gName, tRet])
    refine cat_mks rfl h1 p1 (mks_k1 rfl rfl (mks_k1 rfl rfl (mks_k1 rfl rfl mks_nil))) (by simp only [List.length_cons, List.length_nil, List.length_append]; decide) fun r2 rs2 H2 s2 n2 h2 p2 => ?_
    (try dsimp only [tSeq, tAsg, gName, tRet])
    refine cat_mks rfl h2 p2 (mks_k1 rfl rfl (mks_k1 rfl rfl (mks_k1 rfl rfl mks_nil))) (by simp only [List.length_cons, List.length_nil, List.length_append]; decide) fun r3 rs3 H3 s3 n3 h3 p3 => ?_
    (try dsimp only [tSeq, tAsg, gName, tRet])
    refine cat_mks rfl h3 p3 (mks_k1 rfl rfl (mks_k1 rfl rfl mks_nil)) (by simp only [List.length_cons, List.length_nil, List.length_append]; decide) fun r4 rs4 H4 s4 n4 h4 p4 => ?_
    (try dsimp only [tSeq, tAsg, gName, tRet])
    refine cat_mks rfl h4 p4 (mks_k1 rfl rfl (mks_k1 rfl rfl (mks_k1 rfl rfl (mks_k1 rfl rfl mks_nil)))) (by simp only [List.length_cons, List.length_nil, List.length_append]; decide) fun r5 rs5 H5 s5 n5 h5 p5 => ?_
    (try dsimp only [tSeq, tAsg, gName, tRet])
    refine cat_mks rfl h5 p5 (mks_k2 rfl rfl rfl (mks_k1 rfl rfl (mks_k1 rfl rfl (mks_k1 rfl rfl mks_nil)))) (by simp only [List.length_cons, List.length_nil, List.length_append]; decide) fun r6 rs6 H6 s6 n6 h6 p6 => ?_
    (try dsimp only [tSeq, tAsg, gName, tRet])
    refine cat_mks rfl h6 p6 (mks_k1 rfl rfl (mks_0 (mks_0 mks_nil))) (by simp only [List.length_cons, List.length_nil, List.length_append]; decide) fun r7 rs7 H7 s7 n7 h7 p7 => ?_
    refine q r7 rs7 H7 (fun b o e => s7 _ _ (s6 _ _ (s5 _ _ (s4 _ _ (s3 _ _ (s2 _ _ (s1 _ _ e))))))) ?_ h7 p7
    cases z : H r7 with
    | none => rfl
    | some o =>
      have e := z
      rw [s6 _ _ (s5 _ _ (s4 _ _ (s3 _ _ (s2 _ _ (s1 _ _ e)))))] at n7
      cases n7
end Mo

namespace Mo
open PySem PySem.Spec PyProof.Rows L2
variable {P : Program} {w : World} {K : PySem.W.Frag} {mg : Str → Option Value} {base : Heap}
/-- a row of values that are there already -/
def Vr (σ : L2.St) (G : Hp → Prop) (t : TA) (vs : List V) : Prop := ∀ (H : Hp) (Q : List V → Hp → Prop), G H → Q vs H → t σ H Q
section
variable {σ : L2.St} {G : Hp → Prop} {t : TA} {vs : List V} {i : Nat}
theorem vr_nil : Vr σ G tNil [] := fun H Q _ q => q
theorem vr_go {te : TE} {v : V} (h1 : ∀ (H : Hp) (Q : VK), G H → Q v H → te σ H Q) (h : Vr σ G t vs) : Vr σ G (tCons te t) (v :: vs) := fun H Q g q => h1 H _ g (h H _ g q)
theorem lst_vr {H : Hp} {Q : VK} (h : Vr σ G t vs) (g : G H) (hl : vs.length ≤ 100) (q : ∀ r H', Same H H' → H r = none → H' r = some (.lst vs) → Q (.ref r) H') : tLst t σ H Q :=
  h H _ g ⟨by rw [sizeLine_eq]; omega, fun r nr => q r _ (fun b o e => (upd_ne (ne_of_none e nr)).trans e) nr upd_same⟩
theorem cat_vr {H : Hp} {Q : VK} {a : Addr} {vs0 : List V} (e : σ[i]? = some (some (.ref a))) (ha : H a = some (.lst vs0)) (h : Vr σ G t vs) (g : G H) (hl : vs0.length + vs.length ≤ 100)
    (q : ∀ r H', Same H H' → H r = none → H' r = some (.lst (vs0 ++ vs)) → Q (.ref r) H') : tOp rCat (tVar i) (tLst t) σ H Q := by
  refine ⟨_, e, lst_vr h g (by omega) fun b H1 s1 nb hb => ⟨a, b, vs0, vs, rfl, rfl, s1 _ _ ha, hb, by rw [sizeLine_eq]; omega, fun r nr => ?_⟩⟩
  refine q r _ (fun b o e => (upd_ne (ne_of_none (s1 _ _ e) nr)).trans (s1 _ _ e)) ?_ upd_same
  cases z : H r with
  | none => rfl
  | some o => rw [s1 _ _ z] at nr; cases nr
end
section
variable {σ : L2.St} {a C : Addr} {fs : List (Str × V)} {K' : PySem.W.Frag}
theorem el_kind {u : Addr} {b : Bool} (hK : K' = K) (e0 : σ[0]? = some (some (.ref a))) (hx : ExcC K C) (k : PySem.W.kitOne K (.ref C) (.ref u) = some b) (H : Hp) (Q : VK) (g : ErrIs H a C fs) (q : Q (.bl b) H) : tCB (rIsY K') (tCons (tVar 0) (tCons (tC (.ref u)) tNil)) σ H Q := by
  subst hK
  exact ⟨_, e0, a, C, fs, .ref u, .ref u, b, rfl, g, hx, .own u, k, q⟩
theorem el_py {N : String} {b : Bool} {c : Nat} {x : Str} (hK : K' = K) (hxs : x = tx [c]) (e0 : σ[0]? = some (some (.ref a))) (hx : ExcC K C) (k : PySem.W.kitOne K (.ref C) (.type N) = some b) (H : Hp) (Q : VK) (g : ErrIs H a C fs) (q : Q (.str (tx (if b = true then [c] else []))) H) :
    tOp (fun x y H Q => ∃ (cs : List Nat) (n : Nat), x = V.str (tx cs) ∧ y = V.int n ∧ cs.length ≤ 100000 ∧ n ≤ 100 ∧ Q (V.str (tx (mulS cs n))) H) (tC (.str x))
      (tCB (fun xs H Q => (∃ i, xs = [V.int i] ∧ Q (V.int i) H) ∨ ∃ k : Bool, xs = [V.bl k] ∧ Q (V.int (if k = true then 1 else 0)) H) (tCons (tCB (rIsY K') (tCons (tVar 0) (tCons (tC (.ty N)) tNil))) tNil)) σ H Q := by
  subst hK
  refine ⟨_, e0, a, C, fs, .ty N, .type N, b, rfl, g, hx, .ty N, k, .inr ⟨b, rfl, [c], if b = true then 1 else 0, by rw [hxs], ?_, by show 1 ≤ 100000; decide, ?_, ?_⟩⟩
  · cases b <;> rfl
  · cases b <;> decide
  · cases b <;> exact q
end
theorem join_vr {σ : L2.St} {H : Hp} {Q : VK} {r : V → List V → Hp → VK → Prop} {sep : Str} {te : TE} (h : te σ H fun y H1 => r (.str sep) [y] H1 Q) : tM1 r (tC (.str sep)) te σ H Q := ⟨⟨_, rfl⟩, h⟩
theorem if_len (b : Bool) (c : Nat) : (tx (if b = true then [c] else [])).length ≤ 1 := by
  rw [tx_len]
  cases b
  · exact Nat.zero_le _
  · exact Nat.le_refl _
def clsL (T : Txt K mg) : List Addr := [T.cInvalidPattern, T.cInvalidText, T.cInvalidVariables, T.cInvalidValues, T.cInvalidCount, T.cInvalidChain, T.cInvalidPlace, T.cInvalidFormula, T.cInvalidRules, T.cInvalidName, T.cInvalidDeed, T.cInvalidCommand, T.cParseError, T.cNotFree, T.cAvoidable, T.cRankTooSmall, T.cNoBlock, T.cUnknownName, T.cDuplicateName, T.cNoMoment, T.cTooLarge, T.cNothingToUndo, T.cNothingToRedo]
def pysL (T : Txt K mg) : List (Addr × List Value) := [(T.cInvalidPattern, [.type "ValueError", .type "Exception", .type "BaseException", .type "object"]), (T.cInvalidText, [.type "ValueError", .type "Exception", .type "BaseException", .type "object"]), (T.cInvalidVariables, [.type "ValueError", .type "Exception", .type "BaseException", .type "object"]), (T.cInvalidValues, [.type "ValueError", .type "Exception", .type "BaseException", .type "object"]), (T.cInvalidCount, [.type "ValueError", .type "Exception", .type "BaseException", .type "object"]), (T.cInvalidChain, [.type "ValueError", .type "Exception", .type "BaseException", .type "object"]), (T.cInvalidPlace, [.type "ValueError", .type "Exception", .type "BaseException", .type "object"]), (T.cInvalidFormula, [.type "ValueError", .type "Exception", .type "BaseException", .type "object"]), (T.cInvalidRules, [.type "ValueError", .type "Exception", .type "BaseException", .type "object"]), (T.cInvalidName, [.type "ValueError", .type "Exception", .type "BaseException", .type "object"]), (T.cInvalidDeed, [.type "ValueError", .type "Exception", .type "BaseException", .type "object"]), (T.cInvalidCommand, [.type "ValueError", .type "Exception", .type "BaseException", .type "object"]), (T.cParseError, [.type "ValueError", .type "Exception", .type "BaseException", .type "object"]), (T.cNotFree, [.type "ValueError", .type "Exception", .type "BaseException", .type "object"]), (T.cAvoidable, [.type "ValueError", .type "Exception", .type "BaseException", .type "object"]), (T.cRankTooSmall, [.type "LookupError", .type "Exception", .type "BaseException", .type "object"]), (T.cNoBlock, [.type "LookupError", .type "Exception", .type "BaseException", .type "object"]), (T.cUnknownName, [.type "KeyError", .type "LookupError", .type "Exception", .type "BaseException", .type "object"]), (T.cDuplicateName, [.type "KeyError", .type "LookupError", .type "Exception", .type "BaseException", .type "object"]), (T.cNoMoment, [.type "IndexError", .type "LookupError", .type "Exception", .type "BaseException", .type "object"]), (T.cTooLarge, [.type "OverflowError", .type "ArithmeticError", .type "Exception", .type "BaseException", .type "object"]), (T.cNothingToUndo, [.type "RuntimeError", .type "Exception", .type "BaseException", .type "object"]), (T.cNothingToRedo, [.type "RuntimeError", .type "Exception", .type "BaseException", .type "object"])]
def spKinds (T : Txt K mg) : Sp := fun vs H Q _ => ∃ a C fs, vs = [.ref a] ∧ ErrIs H a C fs ∧ ExcC K C ∧ C ∈ clsL T ∧ ∀ p H', Same H H' → H p = none → H' p = some (.lst ((clsL T).map fun u => V.bl (C == u))) → Q (.ref p) H'
theorem ok_kinds {k : Nat} (T : Txt K mg) : FnOk P w K mg base CX0 (k + 1) T.aLKinds T.dLKinds ["_law_thing"] (spKinds T) := by
  refine T.fLKinds.ok scLKinds (fun vs H Q E h => ?_) (fun cdv A outer s H vs Q E hr h => ?_)
  · obtain ⟨a, C, fs, rfl, _⟩ := h
    rfl
  · obtain ⟨a, C, fs, rfl, he, hx, hc, q⟩ := h
    have kk : ∀ i u, (clsL T)[i]? = some u → PySem.W.kitOne K (.ref C) (.ref u) = some (C == u) := fun i u e => kits_one (cs := clsL T) T.kits hc (List.mem_of_getElem? e)
    refine ⟨_, (pss_cons (ps_set (i := 1) scLKinds.nd rfl (Or.inl rfl) (pe_lst (pa_cons (pe_callB Mo.cr_isY (by rfl) T.m_isinstance (by decide +kernel) (pa_cons (pv 0) (pa_cons (pe_glob (v := .ref T.cInvalidPattern) rfl T.eInvalidPattern rfl) pa_nil))) (pa_cons (pe_callB Mo.cr_isY (by rfl) T.m_isinstance (by decide +kernel) (pa_cons (pv 0) (pa_cons (pe_glob (v := .ref T.cInvalidText) rfl T.eInvalidText rfl) pa_nil))) (pa_cons (pe_callB Mo.cr_isY (by rfl) T.m_isinstance (by decide +kernel) (pa_cons (pv 0) (pa_cons (pe_glob (v := .ref T.cInvalidVariables) rfl T.eInvalidVariables rfl) pa_nil))) pa_nil)))))
      (pss_cons (ps_set (i := 1) scLKinds.nd rfl (Or.inl rfl) (pe_op op_cat (pv 1) (pe_lst (pa_cons (pe_callB Mo.cr_isY (by rfl) T.m_isinstance (by decide +kernel) (pa_cons (pv 0) (pa_cons (pe_glob (v := .ref T.cInvalidValues) rfl T.eInvalidValues rfl) pa_nil))) (pa_cons (pe_callB Mo.cr_isY (by rfl) T.m_isinstance (by decide +kernel) (pa_cons (pv 0) (pa_cons (pe_glob (v := .ref T.cInvalidCount) rfl T.eInvalidCount rfl) pa_nil))) pa_nil)))))
      (pss_cons (ps_set (i := 1) scLKinds.nd rfl (Or.inl rfl) (pe_op op_cat (pv 1) (pe_lst (pa_cons (pe_callB Mo.cr_isY (by rfl) T.m_isinstance (by decide +kernel) (pa_cons (pv 0) (pa_cons (pe_glob (v := .ref T.cInvalidChain) rfl T.eInvalidChain rfl) pa_nil))) (pa_cons (pe_callB Mo.cr_isY (by rfl) T.m_isinstance (by decide +kernel) (pa_cons (pv 0) (pa_cons (pe_glob (v := .ref T.cInvalidPlace) rfl T.eInvalidPlace rfl) pa_nil))) pa_nil)))))
      (pss_cons (ps_set (i := 1) scLKinds.nd rfl (Or.inl rfl) (pe_op op_cat (pv 1) (pe_lst (pa_cons (pe_callB Mo.cr_isY (by rfl) T.m_isinstance (by decide +kernel) (pa_cons (pv 0) (pa_cons (pe_glob (v := .ref T.cInvalidFormula) rfl T.eInvalidFormula rfl) pa_nil))) (pa_cons (pe_callB Mo.cr_isY (by rfl) T.m_isinstance (by decide +kernel) (pa_cons (pv 0) (pa_cons (pe_glob (v := .ref T.cInvalidRules) rfl T.eInvalidRules rfl) pa_nil))) pa_nil)))))
      (pss_cons (ps_set (i := 1) scLKinds.nd rfl (Or.inl rfl) (pe_op op_cat (pv 1) (pe_lst (pa_cons (pe_callB Mo.cr_isY (by rfl) T.m_isinstance (by decide +kernel) (pa_cons (pv 0) (pa_cons (pe_glob (v := .ref T.cInvalidName) rfl T.eInvalidName rfl) pa_nil))) (pa_cons (pe_callB Mo.cr_isY (by rfl) T.m_isinstance (by decide +kernel) (pa_cons (pv 0) (pa_cons (pe_glob (v := .ref T.cInvalidDeed) rfl T.eInvalidDeed rfl) pa_nil))) pa_nil)))))
      (pss_cons (ps_set (i := 1) scLKinds.nd rfl (Or.inl rfl) (pe_op op_cat (pv 1) (pe_lst (pa_cons (pe_callB Mo.cr_isY (by rfl) T.m_isinstance (by decide +kernel) (pa_cons (pv 0) (pa_cons (pe_glob (v := .ref T.cInvalidCommand) rfl T.eInvalidCommand rfl) pa_nil))) pa_nil))))
      (pss_cons (ps_set (i := 1) scLKinds.nd rfl (Or.inl rfl) (pe_op op_cat (pv 1) (pe_lst (pa_cons (pe_callB Mo.cr_isY (by rfl) T.m_isinstance (by decide +kernel) (pa_cons (pv 0) (pa_cons (pe_glob (v := .ref T.cParseError) rfl T.eParseError rfl) pa_nil))) (pa_cons (pe_callB Mo.cr_isY (by rfl) T.m_isinstance (by decide +kernel) (pa_cons (pv 0) (pa_cons (pe_glob (v := .ref T.cNotFree) rfl T.eNotFree rfl) pa_nil))) (pa_cons (pe_callB Mo.cr_isY (by rfl) T.m_isinstance (by decide +kernel) (pa_cons (pv 0) (pa_cons (pe_glob (v := .ref T.cAvoidable) rfl T.eAvoidable rfl) pa_nil))) pa_nil))))))
      (pss_cons (ps_set (i := 1) scLKinds.nd rfl (Or.inl rfl) (pe_op op_cat (pv 1) (pe_lst (pa_cons (pe_callB Mo.cr_isY (by rfl) T.m_isinstance (by decide +kernel) (pa_cons (pv 0) (pa_cons (pe_glob (v := .ref T.cRankTooSmall) rfl T.eRankTooSmall rfl) pa_nil))) (pa_cons (pe_callB Mo.cr_isY (by rfl) T.m_isinstance (by decide +kernel) (pa_cons (pv 0) (pa_cons (pe_glob (v := .ref T.cNoBlock) rfl T.eNoBlock rfl) pa_nil))) (pa_cons (pe_callB Mo.cr_isY (by rfl) T.m_isinstance (by decide +kernel) (pa_cons (pv 0) (pa_cons (pe_glob (v := .ref T.cUnknownName) rfl T.eUnknownName rfl) pa_nil))) pa_nil))))))
      (pss_cons (ps_set (i := 1) scLKinds.nd rfl (Or.inl rfl) (pe_op op_cat (pv 1) (pe_lst (pa_cons (pe_callB Mo.cr_isY (by rfl) T.m_isinstance (by decide +kernel) (pa_cons (pv 0) (pa_cons (pe_glob (v := .ref T.cDuplicateName) rfl T.eDuplicateName rfl) pa_nil))) (pa_cons (pe_callB Mo.cr_isY (by rfl) T.m_isinstance (by decide +kernel) (pa_cons (pv 0) (pa_cons (pe_glob (v := .ref T.cNoMoment) rfl T.eNoMoment rfl) pa_nil))) (pa_cons (pe_callB Mo.cr_isY (by rfl) T.m_isinstance (by decide +kernel) (pa_cons (pv 0) (pa_cons (pe_glob (v := .ref T.cTooLarge) rfl T.eTooLarge rfl) pa_nil))) pa_nil))))))
      (pss_one (ps_ret (pe_op op_cat (pv 1) (pe_lst (pa_cons (pe_callB Mo.cr_isY (by rfl) T.m_isinstance (by decide +kernel) (pa_cons (pv 0) (pa_cons (pe_glob (v := .ref T.cNothingToUndo) rfl T.eNothingToUndo rfl) pa_nil))) (pa_cons (pe_callB Mo.cr_isY (by rfl) T.m_isinstance (by decide +kernel) (pa_cons (pv 0) (pa_cons (pe_glob (v := .ref T.cNothingToRedo) rfl T.eNothingToRedo rfl) pa_nil))) pa_nil))))))))))))))), ?_⟩
    (try dsimp only [tSeq, tAsg, gName, tRet])
    refine lst_vr (vr_go (el_kind rfl rfl hx (kk 0 _ rfl)) (vr_go (el_kind rfl rfl hx (kk 1 _ rfl)) (vr_go (el_kind rfl rfl hx (kk 2 _ rfl)) vr_nil))) he (by simp only [List.length_cons, List.length_nil]; decide) fun r1 H1 s1 n1 h1 => ?_
    (try dsimp only [tSeq, tAsg, gName, tRet])
    refine cat_vr rfl h1 (vr_go (el_kind rfl rfl hx (kk 3 _ rfl)) (vr_go (el_kind rfl rfl hx (kk 4 _ rfl)) vr_nil)) (ErrIs.same he s1) (by simp only [List.length_cons, List.length_nil, List.length_append]; decide) fun r2 H2 s2 n2 h2 => ?_
    (try dsimp only [tSeq, tAsg, gName, tRet])
    refine cat_vr rfl h2 (vr_go (el_kind rfl rfl hx (kk 5 _ rfl)) (vr_go (el_kind rfl rfl hx (kk 6 _ rfl)) vr_nil)) (ErrIs.same (ErrIs.same he s1) s2) (by simp only [List.length_cons, List.length_nil, List.length_append]; decide) fun r3 H3 s3 n3 h3 => ?_
    (try dsimp only [tSeq, tAsg, gName, tRet])
    refine cat_vr rfl h3 (vr_go (el_kind rfl rfl hx (kk 7 _ rfl)) (vr_go (el_kind rfl rfl hx (kk 8 _ rfl)) vr_nil)) (ErrIs.same (ErrIs.same (ErrIs.same he s1) s2) s3) (by simp only [List.length_cons, List.length_nil, List.length_append]; decide) fun r4 H4 s4 n4 h4 => ?_
    (try dsimp only [tSeq, tAsg, gName, tRet])
    refine cat_vr rfl h4 (vr_go (el_kind rfl rfl hx (kk 9 _ rfl)) (vr_go (el_kind rfl rfl hx (kk 10 _ rfl)) vr_nil)) (ErrIs.same (ErrIs.same (ErrIs.same (ErrIs.same he s1) s2) s3) s4) (by simp only [List.length_cons, List.length_nil, List.length_append]; decide) fun r5 H5 s5 n5 h5 => ?_
    (try dsimp only [tSeq, tAsg, gName, tRet])
    refine cat_vr rfl h5 (vr_go (el_kind rfl rfl hx (kk 11 _ rfl)) vr_nil) (ErrIs.same (ErrIs.same (ErrIs.same (ErrIs.same (ErrIs.same he s1) s2) s3) s4) s5) (by simp only [List.length_cons, List.length_nil, List.length_append]; decide) fun r6 H6 s6 n6 h6 => ?_
    (try dsimp only [tSeq, tAsg, gName, tRet])
    refine cat_vr rfl h6 (vr_go (el_kind rfl rfl hx (kk 12 _ rfl)) (vr_go (el_kind rfl rfl hx (kk 13 _ rfl)) (vr_go (el_kind rfl rfl hx (kk 14 _ rfl)) vr_nil))) (ErrIs.same (ErrIs.same (ErrIs.same (ErrIs.same (ErrIs.same (ErrIs.same he s1) s2) s3) s4) s5) s6) (by simp only [List.length_cons, List.length_nil, List.length_append]; decide) fun r7 H7 s7 n7 h7 => ?_
    (try dsimp only [tSeq, tAsg, gName, tRet])
    refine cat_vr rfl h7 (vr_go (el_kind rfl rfl hx (kk 15 _ rfl)) (vr_go (el_kind rfl rfl hx (kk 16 _ rfl)) (vr_go (el_kind rfl rfl hx (kk 17 _ rfl)) vr_nil))) (ErrIs.same (ErrIs.same (ErrIs.same (ErrIs.same (ErrIs.same (ErrIs.same (ErrIs.same he s1) s2) s3) s4) s5) s6) s7) (by simp only [List.length_cons, List.length_nil, List.length_append]; decide) fun r8 H8 s8 n8 h8 => ?_
    (try dsimp only [tSeq, tAsg, gName, tRet])
    refine cat_vr rfl h8 (vr_go (el_kind rfl rfl hx (kk 18 _ rfl)) (vr_go (el_kind rfl rfl hx (kk 19 _ rfl)) (vr_go (el_kind rfl rfl hx (kk 20 _ rfl)) vr_nil))) (ErrIs.same (ErrIs.same (ErrIs.same (ErrIs.same (ErrIs.same (ErrIs.same (ErrIs.same (ErrIs.same he s1) s2) s3) s4) s5) s6) s7) s8) (by simp only [List.length_cons, List.length_nil, List.length_append]; decide) fun r9 H9 s9 n9 h9 => ?_
    (try dsimp only [tSeq, tAsg, gName, tRet])
    refine cat_vr rfl h9 (vr_go (el_kind rfl rfl hx (kk 21 _ rfl)) (vr_go (el_kind rfl rfl hx (kk 22 _ rfl)) vr_nil)) (ErrIs.same (ErrIs.same (ErrIs.same (ErrIs.same (ErrIs.same (ErrIs.same (ErrIs.same (ErrIs.same (ErrIs.same he s1) s2) s3) s4) s5) s6) s7) s8) s9) (by simp only [List.length_cons, List.length_nil, List.length_append]; decide) fun r10 H10 s10 n10 h10 => ?_
    refine q r10 H10 (fun b o e => s10 _ _ (s9 _ _ (s8 _ _ (s7 _ _ (s6 _ _ (s5 _ _ (s4 _ _ (s3 _ _ (s2 _ _ (s1 _ _ e)))))))))) ?_ h10
    cases z : H r10 with
    | none => rfl
    | some o =>
      rw [s9 _ _ (s8 _ _ (s7 _ _ (s6 _ _ (s5 _ _ (s4 _ _ (s3 _ _ (s2 _ _ (s1 _ _ z))))))))] at n10
      cases n10
def pyT (bm : List Value) : List (List Nat) := [if bm.contains (.type "ValueError") = true then [118] else [], if bm.contains (.type "LookupError") = true then [108] else [], if bm.contains (.type "KeyError") = true then [107] else [], if bm.contains (.type "IndexError") = true then [105] else [], if bm.contains (.type "OverflowError") = true then [111] else [], if bm.contains (.type "ArithmeticError") = true then [97] else [], if bm.contains (.type "RuntimeError") = true then [114] else [], if bm.contains (.type "TypeError") = true then [116] else []]
def spPy (T : Txt K mg) : Sp := fun vs H Q _ => ∃ a C bm fs, vs = [.ref a] ∧ ErrIs H a C fs ∧ ExcC K C ∧ (C, bm) ∈ pysL T ∧ ∀ H', Same H H' → Q (.str (tx (pyT bm).flatten)) H'
theorem ok_python {k : Nat} (T : Txt K mg) : FnOk P w K mg base CX0 (k + 1) T.aLPython T.dLPython ["_law_thing"] (spPy T) := by
  refine T.fLPython.ok scLPython (fun vs H Q E h => ?_) (fun cdv A outer s H vs Q E hr h => ?_)
  · obtain ⟨a, C, bm, fs, rfl, _⟩ := h
    rfl
  · obtain ⟨a, C, bm, fs, rfl, he, hx, hc, q⟩ := h
    have kk : ∀ N, N ∈ (["ValueError", "LookupError", "KeyError", "IndexError", "OverflowError", "ArithmeticError", "RuntimeError", "TypeError"] : List String) → PySem.W.kitMeta N = true → PySem.W.kitOne K (.ref C) (.type N) = some (bm.contains (.type N)) := fun N hN hm => pys_one (cs := pysL T) T.pys hc hN hm
    refine ⟨_, (pss_cons (ps_set (i := 1) scLPython.nd rfl (Or.inl rfl) (pe_lst (pa_cons (pe_op Mo.op_mulS pe_str (pe_callTy call_int1 (by rfl) T.m_int (by decide +kernel) (pa_cons (pe_callB Mo.cr_isY (by rfl) T.m_isinstance (by decide +kernel) (pa_cons (pv 0) (pa_cons (pe_bltn (v := .ty "ValueError") (by rfl) T.m_ValueError (by decide +kernel) rfl) pa_nil))) pa_nil))) (pa_cons (pe_op Mo.op_mulS pe_str (pe_callTy call_int1 (by rfl) T.m_int (by decide +kernel) (pa_cons (pe_callB Mo.cr_isY (by rfl) T.m_isinstance (by decide +kernel) (pa_cons (pv 0) (pa_cons (pe_bltn (v := .ty "LookupError") (by rfl) T.m_LookupError (by decide +kernel) rfl) pa_nil))) pa_nil))) pa_nil))))
      (pss_cons (ps_set (i := 1) scLPython.nd rfl (Or.inl rfl) (pe_op op_cat (pv 1) (pe_lst (pa_cons (pe_op Mo.op_mulS pe_str (pe_callTy call_int1 (by rfl) T.m_int (by decide +kernel) (pa_cons (pe_callB Mo.cr_isY (by rfl) T.m_isinstance (by decide +kernel) (pa_cons (pv 0) (pa_cons (pe_bltn (v := .ty "KeyError") (by rfl) T.m_KeyError (by decide +kernel) rfl) pa_nil))) pa_nil))) (pa_cons (pe_op Mo.op_mulS pe_str (pe_callTy call_int1 (by rfl) T.m_int (by decide +kernel) (pa_cons (pe_callB Mo.cr_isY (by rfl) T.m_isinstance (by decide +kernel) (pa_cons (pv 0) (pa_cons (pe_bltn (v := .ty "IndexError") (by rfl) T.m_IndexError (by decide +kernel) rfl) pa_nil))) pa_nil))) pa_nil)))))
      (pss_cons (ps_set (i := 1) scLPython.nd rfl (Or.inl rfl) (pe_op op_cat (pv 1) (pe_lst (pa_cons (pe_op Mo.op_mulS pe_str (pe_callTy call_int1 (by rfl) T.m_int (by decide +kernel) (pa_cons (pe_callB Mo.cr_isY (by rfl) T.m_isinstance (by decide +kernel) (pa_cons (pv 0) (pa_cons (pe_bltn (v := .ty "OverflowError") (by rfl) T.m_OverflowError (by decide +kernel) rfl) pa_nil))) pa_nil))) (pa_cons (pe_op Mo.op_mulS pe_str (pe_callTy call_int1 (by rfl) T.m_int (by decide +kernel) (pa_cons (pe_callB Mo.cr_isY (by rfl) T.m_isinstance (by decide +kernel) (pa_cons (pv 0) (pa_cons (pe_bltn (v := .ty "ArithmeticError") (by rfl) T.m_ArithmeticError (by decide +kernel) rfl) pa_nil))) pa_nil))) pa_nil)))))
      (pss_one (ps_ret (pe_join pe_str (pe_op op_cat (pv 1) (pe_lst (pa_cons (pe_op Mo.op_mulS pe_str (pe_callTy call_int1 (by rfl) T.m_int (by decide +kernel) (pa_cons (pe_callB Mo.cr_isY (by rfl) T.m_isinstance (by decide +kernel) (pa_cons (pv 0) (pa_cons (pe_bltn (v := .ty "RuntimeError") (by rfl) T.m_RuntimeError (by decide +kernel) rfl) pa_nil))) pa_nil))) (pa_cons (pe_op Mo.op_mulS pe_str (pe_callTy call_int1 (by rfl) T.m_int (by decide +kernel) (pa_cons (pe_callB Mo.cr_isY (by rfl) T.m_isinstance (by decide +kernel) (pa_cons (pv 0) (pa_cons (pe_bltn (v := .ty "TypeError") (by rfl) T.m_TypeError (by decide +kernel) rfl) pa_nil))) pa_nil))) pa_nil)))))))))), ?_⟩
    (try dsimp only [tSeq, tAsg, gName, tRet])
    refine lst_vr (vr_go (el_py rfl rfl rfl hx (kk "ValueError" (by decide) (by decide +kernel))) (vr_go (el_py rfl rfl rfl hx (kk "LookupError" (by decide) (by decide +kernel))) vr_nil)) he (by simp only [List.length_cons, List.length_nil]; decide) fun r1 H1 s1 n1 h1 => ?_
    (try dsimp only [tSeq, tAsg, gName, tRet])
    refine cat_vr rfl h1 (vr_go (el_py rfl rfl rfl hx (kk "KeyError" (by decide) (by decide +kernel))) (vr_go (el_py rfl rfl rfl hx (kk "IndexError" (by decide) (by decide +kernel))) vr_nil)) (ErrIs.same he s1) (by simp only [List.length_cons, List.length_nil, List.length_append]; decide) fun r2 H2 s2 n2 h2 => ?_
    (try dsimp only [tSeq, tAsg, gName, tRet])
    refine cat_vr rfl h2 (vr_go (el_py rfl rfl rfl hx (kk "OverflowError" (by decide) (by decide +kernel))) (vr_go (el_py rfl rfl rfl hx (kk "ArithmeticError" (by decide) (by decide +kernel))) vr_nil)) (ErrIs.same (ErrIs.same he s1) s2) (by simp only [List.length_cons, List.length_nil, List.length_append]; decide) fun r3 H3 s3 n3 h3 => ?_
    (try dsimp only [tSeq, tAsg, gName, tRet])
    refine join_vr ?_
    refine cat_vr rfl h3 (vr_go (el_py rfl rfl rfl hx (kk "RuntimeError" (by decide) (by decide +kernel))) (vr_go (el_py rfl rfl rfl hx (kk "TypeError" (by decide) (by decide +kernel))) vr_nil)) (ErrIs.same (ErrIs.same (ErrIs.same he s1) s2) s3) (by simp only [List.length_cons, List.length_nil, List.length_append]; decide) fun r4 H4 s4 n4 h4 => ?_
    refine ⟨Str.ofString "", r4, (pyT bm).map tx, rfl, rfl, .inl (SqL.of h4), ?_, ?_⟩
    · have e0 : (Str.ofString "").length = 0 := rfl
      rw [e0, Nat.mul_zero, Nat.add_zero]
      have b1 := if_len (bm.contains (.type "ValueError")) 118
      have b2 := if_len (bm.contains (.type "LookupError")) 108
      have b3 := if_len (bm.contains (.type "KeyError")) 107
      have b4 := if_len (bm.contains (.type "IndexError")) 105
      have b5 := if_len (bm.contains (.type "OverflowError")) 111
      have b6 := if_len (bm.contains (.type "ArithmeticError")) 97
      have b7 := if_len (bm.contains (.type "RuntimeError")) 114
      have b8 := if_len (bm.contains (.type "TypeError")) 116
      simp only [pyT, List.map_cons, List.map_nil, List.sum_cons, List.sum_nil]
      omega
    · rw [join_tzs]
      exact q H4 fun b o e => s4 _ _ (s3 _ _ (s2 _ _ (s1 _ _ e)))
end Mo

namespace Mo
open PySem PySem.Spec PyProof.Rows L2
variable {P : Program} {w : World} {K : PySem.W.Frag} {mg : Str → Option Value} {base : Heap}
theorem prd_get {α β : Type} {R : α → β → Prop} : ∀ {xs : List α} {ys : List β}, Paired R xs ys → ∀ {i : Nat} {y : β}, ys[i]? = some y → ∃ x, xs[i]? = some x ∧ R x y
  | _, _, .nil, i, y, h => by simp at h
  | _, _, .cons r t, 0, y, h => ⟨_, rfl, by cases h; exact r⟩
  | _, _, .cons r t, i + 1, y, h => prd_get t h
/-- the errors of a list, for a walk over their fields -/
def Gf (r : Addr) (rs : List V) (tb : List (Addr × List (Str × V))) (H : Hp) : Prop := H r = some (.lst rs) ∧ Paired (ErrP H) rs tb
theorem Gf.same {r : Addr} {rs : List V} {tb : List (Addr × List (Str × V))} {H H' : Hp} (g : Gf r rs tb H) (s : Same H H') : Gf r rs tb H' := ⟨s _ _ g.1, errs_same s g.2⟩
theorem el_fld {σ : L2.St} {K' : PySem.W.Frag} {r C : Addr} {rs : List V} {tb : List (Addr × List (Str × V))} {i : Nat} {f : Str} {fs : List (Str × V)} {v : V} (hK : K' = K) (e0 : σ[0]? = some (some (.ref r))) (hi : tb[i]? = some (C, fs)) (hf : fs.lookup f = some v) (hne : fs ≠ []) (xf : XfC K C) (no : PySem.W.findIn K (.ref C) f = some none)
    (H : Hp) (Q : VK) (g : Gf r rs tb H) (q : Q v H) : tXv K' f (tOp (rIxL K') (tVar 0) (tC (.int (i : Nat)))) σ H Q := by
  subst hK
  obtain ⟨x, hx, a, rfl, he⟩ := prd_get g.2 hi
  rcases he with ⟨dd, he⟩ | ⟨z, _⟩
  · exact ⟨_, e0, r, rs, _, _, rfl, rfl, SqL.of g.1, atI_nat hx, a, C, dd, fs, v, rfl, he, xf, no, hf, q⟩
  · exact absurd z hne
theorem cat2_vr {σ : L2.St} {G : Hp → Prop} {t : TA} {vs : List V} {H : Hp} {Q : VK} {a : Addr} {vs0 : List V} (ha : H a = some (.lst vs0)) (h : Vr σ G t vs) (g : G H) (hl : vs0.length + vs.length ≤ 100)
    (q : ∀ r H', Same H H' → H r = none → H' r = some (.lst (vs0 ++ vs)) → Q (.ref r) H') : tLst t σ H (fun y H2 => rCat (.ref a) y H2 Q) := by
  refine lst_vr h g (by omega) fun b H1 s1 nb hb => ⟨a, b, vs0, vs, rfl, rfl, s1 _ _ ha, hb, by rw [sizeLine_eq]; omega, fun r nr => ?_⟩
  refine q r _ (fun b o e => (upd_ne (ne_of_none (s1 _ _ e) nr)).trans (s1 _ _ e)) ?_ upd_same
  cases z : H r with
  | none => rfl
  | some o => rw [s1 _ _ z] at nr; cases nr
theorem ok_fields {k : Nat} (T : Txt K mg) : FnOk P w K mg base CX0 (k + 1) T.aLFields T.dLFields ["_law_some"] (fun vs H Q _ => ∃ r rs v u, vs = [.ref r] ∧ Gf r rs (tblE T v u) H ∧ ∀ p H', Same H H' → H p = none → H' p = some (.lst (List.replicate 21 v)) → Q (.ref p) H') := by
  refine T.fLFields.ok scLFields (fun vs H Q E h => ?_) (fun cdv A outer s H vs Q E hr h => ?_)
  · obtain ⟨r, rs, v, u, rfl, _⟩ := h
    rfl
  · obtain ⟨r, rs, v, u, rfl, g, q⟩ := h
    refine ⟨_, (pss_cons (ps_set (i := 1) scLFields.nd rfl (Or.inl rfl) (pe_op op_cat (pe_lc (own := [("_law_one", 2)]) (g := gName 2) (tt := tYes) rfl scLFields.nd (pi_list (pe_slice sl_list (pv 0) po_none (po_some pe_int))) (blkOk_by (N := ["_law_some", "_law_found", "_law_one"]) (sc := defScope sLFields) (by decide +kernel)) (fun _ _ _ _ _ => pg_name (i := 2) scLFields.nd rfl (Or.inl rfl)) (fun _ _ _ _ _ => pts_nil) (fun _ _ _ _ _ => (Mo.pe_xvK (K := K) rfl (pv 2)))) (pe_lst (pa_cons (Mo.pe_xv (pe_ix ix_list (pv 0) pe_int (fun _ _ => rfl))) (pa_cons (Mo.pe_xv (pe_ix ix_list (pv 0) pe_int (fun _ _ => rfl))) (pa_cons (Mo.pe_xv (pe_ix ix_list (pv 0) pe_int (fun _ _ => rfl))) (pa_cons (Mo.pe_xv (pe_ix ix_list (pv 0) pe_int (fun _ _ => rfl))) pa_nil)))))))
      (pss_cons (ps_set (i := 1) scLFields.nd rfl (Or.inl rfl) (pe_op op_cat (pv 1) (pe_lst (pa_cons (Mo.pe_xv (pe_ix ix_list (pv 0) pe_int (fun _ _ => rfl))) (pa_cons (Mo.pe_xv (pe_ix ix_list (pv 0) pe_int (fun _ _ => rfl))) (pa_cons (Mo.pe_xv (pe_ix ix_list (pv 0) pe_int (fun _ _ => rfl))) (pa_cons (Mo.pe_xv (pe_ix ix_list (pv 0) pe_int (fun _ _ => rfl))) (pa_cons (Mo.pe_xv (pe_ix ix_list (pv 0) pe_int (fun _ _ => rfl))) (pa_cons (Mo.pe_xv (pe_ix ix_list (pv 0) pe_int (fun _ _ => rfl))) pa_nil)))))))))
      (pss_one (ps_ret (pe_op op_cat (pv 1) (pe_lst (pa_cons (Mo.pe_xv (pe_ix ix_list (pv 0) pe_int (fun _ _ => rfl))) pa_nil))))))), ?_⟩
    (try dsimp only [tSeq, tAsg, gName, tRet])
    have l23 : rs.length = 23 := errs_len g.2
    refine ⟨_, rfl, _, rfl, r, rs, rfl, SqL.of g.1, fun c nc => ?_⟩
    have s1 : Same H (upd H c (.lst (cutV rs Option.none (some 10)))) := same_new nc
    have hcut : cutV rs Option.none (some 10) = rs.take 10 := by
      unfold cutV
      rw [l23]
      show (rs.drop 0).take 10 = _
      rfl
    refine ⟨_, rfl, ⟨_, SqL.of upd_same⟩, fun D nD => lc_it (walk_list (xs := cutV rs Option.none (some 10))) (fun i H' => Same H H' ∧ H' c = some (.lst (cutV rs Option.none (some 10))) ∧ H' D = some (.lst (List.replicate i v))) ?_ ?_ ?_ ?_⟩
    · exact ⟨fun b o e => (same_new nD) _ _ (s1 _ _ e), (same_new nD) _ _ upd_same, upd_same⟩
    · rintro i H' _ ⟨_, hc, _⟩
      exact SqL.of hc
    · rintro i x H4 H5 hi ⟨sa, hc, hD⟩ ⟨rfl, hx⟩
      have hi10 : i < 10 := by rw [hcut, List.length_take, l23] at hi; omega
      have gx := g.same sa
      obtain ⟨C, fl, xfc, noc⟩ : ∃ C : Addr, (tblE T v u)[i]? = some (C, [(("value" : Str), v)]) ∧ XfC K C ∧ PySem.W.findIn K (.ref C) "value" = some none := by
        match i, hi10 with
        | 0, _ => exact ⟨_, rfl, T.xInvalidPattern.xf, T.n1InvalidPattern⟩
        | 1, _ => exact ⟨_, rfl, T.xInvalidText.xf, T.n1InvalidText⟩
        | 2, _ => exact ⟨_, rfl, T.xInvalidVariables.xf, T.n1InvalidVariables⟩
        | 3, _ => exact ⟨_, rfl, T.xInvalidValues.xf, T.n1InvalidValues⟩
        | 4, _ => exact ⟨_, rfl, T.xInvalidCount.xf, T.n1InvalidCount⟩
        | 5, _ => exact ⟨_, rfl, T.xInvalidChain.xf, T.n1InvalidChain⟩
        | 6, _ => exact ⟨_, rfl, T.xInvalidPlace.xf, T.n1InvalidPlace⟩
        | 7, _ => exact ⟨_, rfl, T.xInvalidFormula.xf, T.n1InvalidFormula⟩
        | 8, _ => exact ⟨_, rfl, T.xInvalidRules.xf, T.n1InvalidRules⟩
        | 9, _ => exact ⟨_, rfl, T.xInvalidName.xf, T.n1InvalidName⟩
      obtain ⟨x', hx', a, rfl, he⟩ := prd_get gx.2 fl
      have ex : x = .ref a := by
        have z : (cutV rs Option.none (some 10))[i]? = some (.ref a) := by rw [hcut, List.getElem?_take_of_lt hi10]; exact hx'
        exact Option.some.inj (hx.symm.trans z)
      subst ex
      rcases he with ⟨dd, he⟩ | ⟨z, _⟩
      · refine ⟨rfl, _, rfl, a, C, dd, _, v, rfl, he, xfc, noc, rfl, _, hD, by rw [List.length_replicate, sizeLine_eq]; omega, ?_⟩
        have cD : c ≠ D := fun z => by rw [← z, upd_same] at nD; cases nD
        refine ⟨fun b o e => ?_, ?_, ?_⟩
        · have nb : b ≠ D := ne_of_none (s1 _ _ e) nD
          rw [upd_ne nb]
          exact sa _ _ e
        · rw [upd_ne cD]
          exact hc
        · rw [upd_same, List.replicate_succ']
      · cases z
    rintro H4 ⟨sa, hc, hD⟩
    have hD10 : H4 D = some (.lst (List.replicate 10 v)) := by
      have z : (cutV rs Option.none (some 10)).length = 10 := by rw [hcut, List.length_take, l23]; rfl
      rw [z] at hD
      exact hD
    have g4 := g.same sa
    refine cat2_vr hD10 (vr_go (el_fld (i := 10) rfl rfl rfl rfl (List.cons_ne_nil _ _) T.xInvalidDeed.xf T.n1InvalidDeed) (vr_go (el_fld (i := 11) rfl rfl rfl rfl (List.cons_ne_nil _ _) T.xInvalidCommand.xf T.n1InvalidCommand) (vr_go (el_fld (i := 12) rfl rfl rfl rfl (List.cons_ne_nil _ _) T.xParseError.xf T.n1ParseError) (vr_go (el_fld (i := 13) rfl rfl rfl rfl (List.cons_ne_nil _ _) T.xNotFree.xf T.n1NotFree) vr_nil)))) g4 (by simp only [List.length_cons, List.length_nil, List.length_replicate]; decide) fun r1 H5 s5 n5 h5 => ?_
    (try dsimp only [tSeq, tAsg, gName, tRet])
    refine cat_vr rfl h5 (vr_go (el_fld (i := 14) rfl rfl rfl rfl (List.cons_ne_nil _ _) T.xAvoidable.xf T.n1Avoidable) (vr_go (el_fld (i := 15) rfl rfl rfl rfl (List.cons_ne_nil _ _) T.xRankTooSmall.xf T.n1RankTooSmall) (vr_go (el_fld (i := 16) rfl rfl rfl rfl (List.cons_ne_nil _ _) T.xNoBlock.xf T.n1NoBlock) (vr_go (el_fld (i := 17) rfl rfl rfl rfl (List.cons_ne_nil _ _) T.xUnknownName.xf T.n1UnknownName) (vr_go (el_fld (i := 18) rfl rfl rfl rfl (List.cons_ne_nil _ _) T.xDuplicateName.xf T.n1DuplicateName) (vr_go (el_fld (i := 19) rfl rfl rfl rfl (List.cons_ne_nil _ _) T.xNoMoment.xf T.n1NoMoment) vr_nil)))))) (g4.same s5) (by simp only [List.length_cons, List.length_nil, List.length_append, List.length_replicate]; decide) fun r2 H6 s6 n6 h6 => ?_
    (try dsimp only [tSeq, tAsg, gName, tRet])
    refine cat_vr rfl h6 (vr_go (el_fld (i := 20) rfl rfl rfl rfl (List.cons_ne_nil _ _) T.xTooLarge.xf T.n1TooLarge) vr_nil) ((g4.same s5).same s6) (by simp only [List.length_cons, List.length_nil, List.length_append, List.length_replicate]; decide) fun r3 H7 s7 n7 h7 => ?_
    refine q r3 H7 (fun b o e => s7 _ _ (s6 _ _ (s5 _ _ (sa _ _ e)))) ?_ h7
    cases z : H r3 with
    | none => rfl
    | some o =>
      rw [s6 _ _ (s5 _ _ (sa _ _ z))] at n7
      cases n7
end Mo

namespace Mo
open PySem PySem.Spec PyProof.Rows L2
variable {P : Program} {w : World} {K : PySem.W.Frag} {mg : Str → Option Value} {base : Heap}
def dat0 : List PyData := [.none, .bool true, .bool false, .int 0, .int (-7), .int ((10 : Int) ^ (20 : Int).toNat), .str (Str.ofString ""), .str (Str.ofString "a"), .str (Str.ofString "A b"), .tuple [], .tuple [.str (Str.ofString "a"), .int 1], .list [], .dict [], .dict [(.str (Str.ofString "a"), .list [.int 1])]]
def shwB (d : PyData) : Bool := d.showable && decide (d.depth ≤ 40) && decide (d.shown.length ≤ 100000)
theorem dat_ok : (dat0.all fun d => shwB d && shwB (.list (List.replicate 21 d))) = true := by decide +kernel
def spVals (K : PySem.W.Frag) : Sp := fun vs H Q _ => ∃ a, ∃ ns : List Int, vs = [.ref a] ∧ SqL K H a (ns.map V.int) ∧ ns.length ≤ 63 ∧ ∀ r xs H', Same H H' → H r = none → H' r = some (.lst xs) → xs.length = 14 → (∀ x ∈ xs, ∃ d ∈ dat0, Dx (fun _ => False) H' x d) → Q (.ref r) H'
theorem ok_values {k : Nat} (T : Txt K mg) : FnOk P w K mg base CX0 (k + 1) T.aLValues T.dLValues ["_law_script"] (spVals K) := by
  refine T.fLValues.ok scLValues (fun vs H Q E h => ?_) (fun cdv A outer s H vs Q E hr h => ?_)
  · obtain ⟨a, ns, rfl, _⟩ := h
    rfl
  · obtain ⟨a, ns, rfl, ha, hn, q⟩ := h
    refine ⟨_, (pss_cons (ps_set (i := 1) scLValues.nd rfl (Or.inl rfl) (pe_lst (pa_cons pe_non (pa_cons pe_bl (pa_cons pe_bl (pa_cons pe_int (pa_cons (pe_un un_neg pe_int) (pa_cons (pe_op op_pow pe_int pe_int) (pa_cons pe_str (pa_cons pe_str (pa_cons pe_str (pa_cons (pe_tup pa_nil) (pa_cons (pe_tup (pa_cons pe_str (pa_cons pe_int pa_nil))) (pa_cons (pe_lst pa_nil) (pa_cons pe_dnewK (pa_cons (pe_disp (pps_cons pe_str (pe_lst (pa_cons pe_int pa_nil)) pps_nil) (by rfl) (by rfl) (fun z => by cases z) (by decide)) pa_nil))))))))))))))))
      (pss_cons (ps_set (i := 2) scLValues.nd rfl (Or.inl rfl) (pe_ifExp (pt_cmpR (Mo.op_neNil hr.units) (pv 0) (pe_lst pa_nil) (nomark _)) (pe_op op_modN (pe_callB call_abs (by rfl) T.m_abs (by decide +kernel) (pa_cons (pe_callB (cr_sum rfl) (by rfl) T.m_sum (by decide +kernel) (pa_cons (pe_slice sl_list (pv 0) po_none (po_some pe_int)) pa_nil)) pa_nil)) (pe_callB call_len_seq (by rfl) T.m_len PySem.boot_len (pa_cons (pv 1) pa_nil))) pe_int))
      (pss_one (ps_ret (pe_op op_cat (pe_slice sl_list (pv 1) (po_some (pv 2)) po_none) (pe_slice sl_list (pv 1) po_none (po_some (pv 2)))))))), ?_⟩
    dsimp only [tSeq, tAsg, gName, tRet]
    refine ⟨7, rfl, 10, 20, rfl, rfl, ⟨by decide, by decide, by decide⟩, by show 0 ≤ sizeLine; exact Nat.zero_le _, fun p1 n1 => ⟨by show 2 ≤ sizeLine; rw [sizeLine_eq]; decide, fun p2 n2 => ⟨Nat.zero_le _, fun p3 n3 => fun p4 n4 => fun p5 n5 => ?_⟩⟩⟩
    have t1 := same_new (o := HO.tup []) n1
    have t2 := same_new (o := HO.tup [V.str (Str.ofString "a"), V.int 1]) n2
    have t3 := same_new (o := HO.lst []) n3
    have t4 := same_new (o := HO.dK []) n4
    have t5 := same_new (o := HO.dK []) n5
    refine ⟨by show 1 ≤ sizeLine; rw [sizeLine_eq]; decide, fun p6 n6 => ?_⟩
    have t6 := same_new (o := HO.lst [V.int 1]) n6
    refine ⟨t6 _ _ upd_same, [(.inr (Str.ofString "a"), .ref p6)], rfl, by show 1 ≤ 15; decide, by show 14 ≤ sizeLine; rw [sizeLine_eq]; decide, fun r0 nr0 => ?_⟩
    dsimp only
    have t0 := same_new (o := HO.lst [V.non, .bl true, .bl false, .int 0, .int (-7), .int ((10 : Int) ^ (20 : Int).toNat), .str (Str.ofString ""), .str (Str.ofString "a"), .str (Str.ofString "A b"), .ref p1, .ref p2, .ref p3, .ref p4, .ref p5]) nr0
    have up := fun (b : Addr) (o : HO) (z : (upd (upd (upd (upd H p1 (HO.tup [])) p2 (HO.tup [V.str (Str.ofString "a"), V.int 1])) p3 (HO.lst [])) p4 (HO.dK [])) b = some o) => t0 _ _ ((upd_ne (ne_of_none z n5)).trans (t6 _ _ (t5 _ _ z)))
    have f1 := up p1 _ (t4 _ _ (t3 _ _ (t2 _ _ upd_same)))
    have f2 := up p2 _ (t4 _ _ (t3 _ _ upd_same))
    have f3 := up p3 _ (t4 _ _ upd_same)
    have f4 := up p4 _ upd_same
    have f5 := t0 p5 _ upd_same
    have e56 : p5 ≠ p6 := ne_of_none upd_same n6
    have f6 := t0 p6 _ ((upd_ne (Ne.symm e56)).trans upd_same)
    have sH := fun (b : Addr) (o : HO) (z : H b = some o) => up b o (t4 _ _ (t3 _ _ (t2 _ _ (t1 _ _ z))))
    have nr : H r0 = none := by
      cases z : H r0 with
      | none => rfl
      | some o =>
        have y := t4 _ _ (t3 _ _ (t2 _ _ (t1 _ _ z)))
        rw [(upd_ne (ne_of_none y n5)).trans (t6 _ _ (t5 _ _ y))] at nr0
        cases nr0
    clear up t0 t1 t2 t3 t4 t5 t6
    have f0 : (upd (upd (upd (upd (upd (upd (upd (upd H p1 (HO.tup [])) p2 (HO.tup [V.str (Str.ofString "a"), V.int 1])) p3 (HO.lst [])) p4 (HO.dK [])) p5 (HO.dK [])) p6 (HO.lst [V.int 1])) p5 (HO.dK (mergeK [] [(.inr (Str.ofString "a"), .ref p6)]))) r0 (HO.lst [V.non, .bl true, .bl false, .int 0, .int (-7), .int ((10 : Int) ^ (20 : Int).toNat), .str (Str.ofString ""), .str (Str.ofString "a"), .str (Str.ofString "A b"), .ref p1, .ref p2, .ref p3, .ref p4, .ref p5])) r0 = some (HO.lst [V.non, .bl true, .bl false, .int 0, .int (-7), .int ((10 : Int) ^ (20 : Int).toNat), .str (Str.ofString ""), .str (Str.ofString "a"), .str (Str.ofString "A b"), .ref p1, .ref p2, .ref p3, .ref p4, .ref p5]) := upd_same
    revert f0 f1 f2 f3 f4 f5 f6 sH
    generalize (upd _ r0 _ : Hp) = Hz
    intro f1 f2 f3 f4 f5 f6 sH f0
    have sz : Same H Hz := sH
    have dx : ∀ x ∈ [V.non, .bl true, .bl false, .int 0, .int (-7), .int ((10 : Int) ^ (20 : Int).toNat), .str (Str.ofString ""), .str (Str.ofString "a"), .str (Str.ofString "A b"), .ref p1, .ref p2, .ref p3, .ref p4, .ref p5], ∃ d ∈ dat0, Dx (fun _ => False) Hz x d := by
      intro x hx
      simp only [List.mem_cons, List.not_mem_nil, or_false] at hx
      rcases hx with rfl | rfl | rfl | rfl | rfl | rfl | rfl | rfl | rfl | rfl | rfl | rfl | rfl | rfl
      · exact ⟨_, List.mem_of_getElem? (i := 0) rfl, .non⟩
      · exact ⟨_, List.mem_of_getElem? (i := 1) rfl, .bl true⟩
      · exact ⟨_, List.mem_of_getElem? (i := 2) rfl, .bl false⟩
      · exact ⟨_, List.mem_of_getElem? (i := 3) rfl, .int 0⟩
      · exact ⟨_, List.mem_of_getElem? (i := 4) rfl, .int (-7)⟩
      · exact ⟨_, List.mem_of_getElem? (i := 5) rfl, .int _⟩
      · exact ⟨_, List.mem_of_getElem? (i := 6) rfl, .str _⟩
      · exact ⟨_, List.mem_of_getElem? (i := 7) rfl, .str _⟩
      · exact ⟨_, List.mem_of_getElem? (i := 8) rfl, .str _⟩
      · exact ⟨_, List.mem_of_getElem? (i := 9) rfl, .tup f1 (fun z => z) .nil⟩
      · exact ⟨_, List.mem_of_getElem? (i := 10) rfl, .tup f2 (fun z => z) (.cons (.str _) (.cons (.int 1) .nil))⟩
      · exact ⟨_, List.mem_of_getElem? (i := 11) rfl, .lst f3 (fun z => z) .nil⟩
      · exact ⟨_, List.mem_of_getElem? (i := 12) rfl, .dct f4 (fun z => z) .nil⟩
      · exact ⟨_, List.mem_of_getElem? (i := 13) rfl, .dct f5 (fun z => z) (.cons (.lst f6 (fun z => z) (.cons (.int 1) .nil)) .nil)⟩
    have lx : [V.non, .bl true, .bl false, .int 0, .int (-7), .int ((10 : Int) ^ (20 : Int).toNat), .str (Str.ofString ""), .str (Str.ofString "a"), .str (Str.ofString "A b"), .ref p1, .ref p2, .ref p3, .ref p4, .ref p5].length = 14 := rfl
    revert f0 dx lx
    generalize [V.non, .bl true, .bl false, .int 0, .int (-7), .int ((10 : Int) ^ (20 : Int).toNat), .str (Str.ofString ""), .str (Str.ofString "a"), .str (Str.ofString "A b"), .ref p1, .ref p2, .ref p3, .ref p4, .ref p5] = xs
    intro f0 dx lx
    have haS : ∀ H', Same H H' → SqL K H' a (ns.map V.int) := fun H' s => by
      rcases ha with (e | ⟨o, e⟩) | e
      · exact .inl (.inl (s _ _ e))
      · exact .inl (.inr ⟨o, s _ _ e⟩)
      · exact .inr e
    have rest : ∀ (t : Nat) (H2 : Hp), Same Hz H2 → t ≤ 14 → tOp rCat (tSl (rSlL K) (tVar 1) (tPart (tVar 2)) tNoPart) (tSl (rSlL K) (tVar 1) tNoPart (tPart (tVar 2))) [some (.ref a), some (.ref r0), some (.int (t : Nat))] H2 Q := by
      intro t H2 s2 ht
      refine ⟨_, rfl, _, rfl, _, rfl, r0, xs, rfl, SqL.of (s2 _ _ f0), fun c1 m1 => ?_⟩
      have u1 := same_new (o := HO.lst (cutV xs (some (t : Int)) none)) m1
      refine ⟨_, rfl, _, rfl, _, rfl, r0, xs, rfl, SqL.of (u1 _ _ (s2 _ _ f0)), fun c2 m2 => ?_⟩
      have u2 := same_new (o := HO.lst (cutV xs none (some (t : Int)))) m2
      refine ⟨c1, c2, _, _, rfl, rfl, u2 _ _ upd_same, upd_same, ?_, fun p np => ?_⟩
      · rw [cut_from, cut_to, List.length_drop, List.length_take, lx, sizeLine_eq]
        omega
      have u3 := same_new (o := HO.lst (cutV xs (some (t : Int)) none ++ cutV xs none (some (t : Int)))) np
      have ss : Same Hz (upd (upd (upd H2 c1 _) c2 _) p _) := fun b o e => u3 _ _ (u2 _ _ (u1 _ _ (s2 _ _ e)))
      refine q p (cutV xs (some (t : Int)) none ++ cutV xs none (some (t : Int))) _ (fun b o e => ss _ _ (sz _ _ e)) ?_ upd_same ?_ fun x hx => ?_
      · cases z : H p with
        | none => rfl
        | some o =>
          rw [u2 _ _ (u1 _ _ (s2 _ _ (sz _ _ z)))] at np
          cases np
      · rw [List.length_append, cut_from, cut_to, List.length_drop, List.length_take, lx]
        omega
      · have hx' : x ∈ xs := by
          rcases List.mem_append.mp hx with h | h
          · rw [cut_from] at h
            exact List.mem_of_mem_drop h
          · rw [cut_to] at h
            exact List.mem_of_mem_take h
        obtain ⟨dd, hd, hdx⟩ := dx x hx'
        exact ⟨dd, hd, hdx.same ss⟩
    refine ⟨_, rfl, Nat.zero_le _, fun c0 nc0 => ⟨a, c0, ns.map V.int, rfl, rfl, haS _ (fun b o e => same_new nc0 _ _ (sz _ _ e)), SqL.of upd_same, _, rfl, ?_⟩⟩
    dsimp only
    have sC : Same Hz (upd Hz c0 (.lst [])) := same_new nc0
    cases hE : (ns.map V.int).isEmpty with
    | true =>
      rw [Bool.not_true, if_neg (by decide)]
      exact rest 0 _ sC (Nat.zero_le _)
    | false =>
      rw [Bool.not_false, if_pos rfl]
      obtain ⟨ms, hms⟩ : ∃ ms : List Int, cutV (ns.map V.int) Option.none (some 63) = ms.map V.int := by
        unfold cutV
        exact ⟨_, by rw [List.map_take, List.map_drop]⟩
      refine ⟨_, rfl, _, rfl, a, ns.map V.int, rfl, haS _ (fun b o e => sC _ _ (sz _ _ e)), fun c1 nc1 => ⟨c1, ms, rfl, SqL.of (by rw [← hms]; exact upd_same), _, rfl, _, rfl, r0, xs, rfl, .inl (SqL.of (same_new nc1 _ _ (sC _ _ f0))), _, _, rfl, rfl, by rw [lx]; show ((14 : Nat) : Int) ≠ 0; decide, ?_⟩⟩
      rw [lx]
      dsimp only
      generalize (if ms.sum < 0 then -ms.sum else ms.sum) = i
      have em : i.fmod ((14 : Nat) : Int) = i % ((14 : Nat) : Int) := Int.fmod_eq_emod_of_nonneg _ (by decide)
      have hi0 : 0 ≤ i.fmod ((14 : Nat) : Int) := by omega
      have hi1 : i.fmod ((14 : Nat) : Int) < 14 := by omega
      obtain ⟨t, ht⟩ := Int.eq_ofNat_of_zero_le hi0
      rw [ht]
      exact rest t _ (fun b o e => same_new nc1 _ _ (sC _ _ e)) (by omega)
end Mo

namespace Mo
open PySem PySem.Spec PyProof.Rows L2
variable {P : Program} {w : World} {K : PySem.W.Frag} {mg : Str → Option Value} {base : Heap}
def spLaw (K : PySem.W.Frag) : Sp := fun vs H Q _ => ∃ (a : Addr) (ns : List Int), vs = [.ref a] ∧ SqL K H a (ns.map V.int) ∧ ns.length ≤ 63 ∧ ∀ H', Q (.bl true) H'
def spFld (T : Txt K mg) : Sp := fun vs H Q _ => ∃ r rs v u, vs = [.ref r] ∧ Gf r rs (tblE T v u) H ∧ ∀ p H', Same H H' → H p = none → H' p = some (.lst (List.replicate 21 v)) → Q (.ref p) H'
/-- a term that makes a new list of these values -/
def LvT (σ : L2.St) (te : TE) (xs : List V) : Prop := ∀ (H : Hp) (Q : VK), (∀ r H', Same H H' → H r = none → H' r = some (.lst xs) → Q (.ref r) H') → te σ H Q
section
variable {σ : L2.St} {t : TA} {te ta tb : TE} {xs ys : List V}
theorem lv_lst (h : Vr σ (fun _ => True) t xs) (hl : xs.length ≤ 100) : LvT σ (tLst t) xs := fun H Q q => lst_vr h True.intro hl q
theorem lv_new {H H1 : Hp} {Q : VK} (zs : List V) (s1 : Same H H1) (q : ∀ r H', Same H H' → H r = none → H' r = some (.lst zs) → Q (.ref r) H') : ∀ p, H1 p = none → Q (.ref p) (upd H1 p (.lst zs)) := fun p np => by
  refine q p _ (fun b o e => (upd_ne (ne_of_none (s1 _ _ e) np)).trans (s1 _ _ e)) ?_ upd_same
  cases z : H p with
  | none => rfl
  | some o => rw [s1 _ _ z] at np; cases np
theorem lv_rep (n : Nat) (h : LvT σ te xs) (hn : xs.length * n ≤ 100) (hn2 : n ≤ 100) : LvT σ (tOp rRep te (tC (.int (n : Nat)))) (List.replicate n xs).flatten := fun H Q q =>
  h H _ fun r H1 s1 nr hr => ⟨r, ((n : Nat) : Int), xs, rfl, rfl, hr, by omega, by omega, by rw [Int.toNat_natCast, sizeLine_eq]; omega, by rw [Int.toNat_natCast]; exact lv_new _ s1 q⟩
theorem lv_cat (ha : LvT σ ta xs) (hb : LvT σ tb ys) (hl : xs.length + ys.length ≤ 100) : LvT σ (tOp rCat ta tb) (xs ++ ys) := fun H Q q =>
  ha H _ fun r1 H1 s1 n1 h1 => hb H1 _ fun r2 H2 s2 n2 h2 => ⟨r1, r2, xs, ys, rfl, rfl, s2 _ _ h1, h2, by rw [sizeLine_eq]; omega, lv_new _ (fun b o e => s2 _ _ (s1 _ _ e)) q⟩
end
theorem nes {x : V} {A B : Prop} (h : B) : if (!decide (x = x)) = true then A else B := by
  rw [decide_eq_true rfl, Bool.not_true, if_neg Bool.false_ne_true]
  exact h
theorem nes2 {xs : List V} {A B : Prop} (f : xs.all flatV = true) (h : B) : if (!eqLs xs xs) = true then A else B := by
  rw [eqLs_self f, Bool.not_true, if_neg Bool.false_ne_true]
  exact h
def dueT : List (List Nat) := [[118], [118], [118], [118], [118], [118], [118], [118], [118], [118], [118], [118], [118], [118], [118], [108], [108], [108, 107], [108, 107], [108, 105], [111, 97], [114], [114]]
def dueL : List V := dueT.map fun cs => V.str (tx cs)
theorem due_py (T : Txt K mg) : (pysL T).map (fun p => (pyT p.2).flatten) = dueT := by
  show ((pysL T).map (·.2)).map (fun bm => (pyT bm).flatten) = dueT
  show ([[.type "ValueError", .type "Exception", .type "BaseException", .type "object"], [.type "ValueError", .type "Exception", .type "BaseException", .type "object"], [.type "ValueError", .type "Exception", .type "BaseException", .type "object"], [.type "ValueError", .type "Exception", .type "BaseException", .type "object"], [.type "ValueError", .type "Exception", .type "BaseException", .type "object"], [.type "ValueError", .type "Exception", .type "BaseException", .type "object"], [.type "ValueError", .type "Exception", .type "BaseException", .type "object"], [.type "ValueError", .type "Exception", .type "BaseException", .type "object"], [.type "ValueError", .type "Exception", .type "BaseException", .type "object"], [.type "ValueError", .type "Exception", .type "BaseException", .type "object"], [.type "ValueError", .type "Exception", .type "BaseException", .type "object"], [.type "ValueError", .type "Exception", .type "BaseException", .type "object"], [.type "ValueError", .type "Exception", .type "BaseException", .type "object"], [.type "ValueError", .type "Exception", .type "BaseException", .type "object"], [.type "ValueError", .type "Exception", .type "BaseException", .type "object"], [.type "LookupError", .type "Exception", .type "BaseException", .type "object"], [.type "LookupError", .type "Exception", .type "BaseException", .type "object"], [.type "KeyError", .type "LookupError", .type "Exception", .type "BaseException", .type "object"], [.type "KeyError", .type "LookupError", .type "Exception", .type "BaseException", .type "object"], [.type "IndexError", .type "LookupError", .type "Exception", .type "BaseException", .type "object"], [.type "OverflowError", .type "ArithmeticError", .type "Exception", .type "BaseException", .type "object"], [.type "RuntimeError", .type "Exception", .type "BaseException", .type "object"], [.type "RuntimeError", .type "Exception", .type "BaseException", .type "object"]] : List (List Value)).map (fun bm => (pyT bm).flatten) = dueT
  decide +kernel
theorem tbl_cls (T : Txt K mg) (v u : V) : (tblE T v u).map (·.1) = clsL T := rfl
theorem pys_cls (T : Txt K mg) : (pysL T).map (·.1) = clsL T := rfl
theorem exc_all (T : Txt K mg) : ∀ C ∈ clsL T, ExcC K C := by
  intro C hC
  simp only [clsL, List.mem_cons, List.not_mem_nil, or_false] at hC
  rcases hC with rfl | rfl | rfl | rfl | rfl | rfl | rfl | rfl | rfl | rfl | rfl | rfl | rfl | rfl | rfl | rfl | rfl | rfl | rfl | rfl | rfl | rfl | rfl
  · exact T.xInvalidPattern.exc
  · exact T.xInvalidText.exc
  · exact T.xInvalidVariables.exc
  · exact T.xInvalidValues.exc
  · exact T.xInvalidCount.exc
  · exact T.xInvalidChain.exc
  · exact T.xInvalidPlace.exc
  · exact T.xInvalidFormula.exc
  · exact T.xInvalidRules.exc
  · exact T.xInvalidName.exc
  · exact T.xInvalidDeed.exc
  · exact T.xInvalidCommand.exc
  · exact T.xParseError.exc
  · exact T.xNotFree.exc
  · exact T.xAvoidable.exc
  · exact T.xRankTooSmall.exc
  · exact T.xNoBlock.exc
  · exact T.xUnknownName.exc
  · exact T.xDuplicateName.exc
  · exact T.xNoMoment.exc
  · exact T.xTooLarge.exc
  · exact T.xNothingToUndo.exc
  · exact T.xNothingToRedo.exc
theorem sh_of {d : PyData} (h : d ∈ dat0) : (d.showable = true ∧ d.depth ≤ 40 ∧ d.shown.length ≤ sizeLine) ∧ (PyData.list (List.replicate 21 d)).showable = true ∧ (PyData.list (List.replicate 21 d)).depth ≤ 40 ∧ (PyData.list (List.replicate 21 d)).shown.length ≤ sizeLine := by
  have a := List.all_eq_true.mp dat_ok d h
  unfold shwB at a
  simp only [Bool.and_eq_true, decide_eq_true_eq] at a
  obtain ⟨⟨⟨a1, a2⟩, a3⟩, ⟨b1, b2⟩, b3⟩ := a
  refine ⟨⟨a1, a2, ?_⟩, b1, b2, ?_⟩ <;> (rw [sizeLine_eq]; omega)
theorem dx_rp {N : Addr → Prop} {H : Hp} {v : V} {d : PyData} (h : Dx N H v d) : ∀ n : Nat, DxAll N H (List.replicate n v) (List.replicate n d)
  | 0 => .nil
  | n + 1 => .cons h (dx_rp h n)
theorem at_prev {xs : List V} (lx : xs.length = 14) {i : Nat} (hi : i < 14) : ∃ u, u ∈ xs ∧ atI xs (0 + (i : Int) - 1) = some u := by
  cases i with
  | zero =>
    refine ⟨xs[13], List.getElem_mem _, ?_⟩
    have hix : ixN xs.length (0 + ((0 : Nat) : Int) - 1) = some 13 := by rw [lx]; rfl
    unfold atI
    rw [hix]
    exact List.getElem?_eq_getElem _
  | succ j =>
    refine ⟨xs[j], List.getElem_mem _, ?_⟩
    have e : 0 + ((j + 1 : Nat) : Int) - 1 = ((j : Nat) : Int) := by omega
    rw [e]
    exact atI_nat (List.getElem?_eq_getElem _)
theorem ok_law {k : Nat} (T : Txt K mg) (hbm : ∃ mm, base.Ns sysModules mm) : FnG P w K mg base CX0 (k + 6) T.aLaw T.dLaw ["_law_script"] (spLaw K) := by
  have GLValues : FnOk P w K mg base CX0 (k + 5) T.aLValues T.dLValues ["_law_script"] (spVals K) := ok_values T
  have GLMade : FnOk P w K mg base CX0 (k + 5) T.aLMade T.dLMade ["_law_aa", "_law_bb"] (spMade T) := ok_made T
  have GLNamed : FnOk P w K mg base CX0 (k + 5) T.aLNamed T.dLNamed ["_law_aa", "_law_bb"] (spMade T) := ok_named T
  have GLFields : FnOk P w K mg base CX0 (k + 5) T.aLFields T.dLFields ["_law_some"] (spFld T) := ok_fields T
  have GLKinds : FnOk P w K mg base CX0 (k + 5) T.aLKinds T.dLKinds ["_law_thing"] (spKinds T) := ok_kinds T
  have GLPython : FnOk P w K mg base CX0 (k + 5) T.aLPython T.dLPython ["_law_thing"] (spPy T) := ok_python T
  refine okG T.fLaw scLaw (fun vs H Q E h => ?_) (fun cdv A outer s H vs Q E hr hgd h => ?_)
  · obtain ⟨a, ns, rfl, _⟩ := h
    rfl
  · obtain ⟨a, ns, rfl, ha, hn, q⟩ := h
    refine ⟨_, (pss_cons (ps_set (i := 1) scLaw.nd rfl (Or.inl rfl) (pe_op op_cat (pe_op op_cat (pe_op op_cat (pe_op op_cat (pe_op op_rep (pe_lst (pa_cons pe_str pa_nil)) pe_int) (pe_op op_rep (pe_lst (pa_cons pe_str pa_nil)) pe_int)) (pe_op op_rep (pe_lst (pa_cons pe_str pa_nil)) pe_int)) (pe_lst (pa_cons pe_str (pa_cons pe_str pa_nil)))) (pe_op op_rep (pe_lst (pa_cons pe_str pa_nil)) pe_int)))
      (pss_cons (ps_set (i := 2) scLaw.nd rfl (Or.inl rfl) (pe_call GLValues hr (by rfl) T.gLValues T.fLValues.kp T.bLValues .nil pass0 (pa_cons (pv 0) pa_nil)))
      (pss_cons (ps_for PassesOwn.never rfl (pi_range1 (by rfl) T.m_range (pa_cons (pe_callB call_len_seq (by rfl) T.m_len PySem.boot_len (pa_cons (pv 2) pa_nil)) pa_nil)) (pg_name (i := 3) scLaw.nd rfl (Or.inl rfl)) (pss_one (ps_for PassesOwn.never rfl (pi_tup (pe_tup (pa_cons (pe_call GLMade hr (by rfl) T.gLMade T.fLMade.kp T.bLMade .nil pass0 (pa_cons (pe_ix ix_list (pv 2) (pv 3) (fun _ _ => rfl)) (pa_cons (pe_ix ix_list (pv 2) (pe_op op_sub (pv 3) pe_int) (fun _ _ => rfl)) pa_nil))) (pa_cons (pe_call GLNamed hr (by rfl) T.gLNamed T.fLNamed.kp T.bLNamed .nil pass0 (pa_cons (pe_ix ix_list (pv 2) (pv 3) (fun _ _ => rfl)) (pa_cons (pe_ix ix_list (pv 2) (pe_op op_sub (pv 3) pe_int) (fun _ _ => rfl)) pa_nil))) pa_nil)))) (pg_name (i := 4) scLaw.nd rfl (Or.inl rfl)) (pss_cons (ps_if (PW.pt (pw_or (pt_cmpR op_ne (pe_callB (Mo.cr_reprX hbm hgd hr.units) (by rfl) T.m_repr (by decide +kernel) (pa_cons (pe_call GLFields hr (by rfl) T.gLFields T.fLFields.kp T.bLFields .nil pass0 (pa_cons (pv 4) pa_nil)) pa_nil)) (pe_callB (Mo.cr_reprX hbm hgd hr.units) (by rfl) T.m_repr (by decide +kernel) (pa_cons (pe_op op_rep (pe_lst (pa_cons (pe_ix ix_list (pv 2) (pv 3) (fun _ _ => rfl)) pa_nil)) pe_int) pa_nil)) (nomark _)) (pw_or1 (pt_cmpR op_ne (pe_callB (Mo.cr_reprX hbm hgd hr.units) (by rfl) T.m_repr (by decide +kernel) (pa_cons (Mo.pe_xv (pe_ix ix_list (pv 4) pe_int (fun _ _ => rfl))) pa_nil)) (pe_callB (Mo.cr_reprX hbm hgd hr.units) (by rfl) T.m_repr (by decide +kernel) (pa_cons (pe_ix ix_list (pv 2) (pe_op op_sub (pv 3) pe_int) (fun _ _ => rfl)) pa_nil)) (nomark _))))) (pss_one (ps_ret pe_bl)) pss_nil)
      (pss_cons (ps_if (pt_cmpR (Mo.op_neFl hr.units) (pe_lc (own := [("_law_one", 6)]) (g := gName 6) (tt := tYes) rfl scLaw.nd (pi_list (pv 4)) (blkOk_by (N := ["_law_script", "_law_due", "_law_values_here", "_law_k", "_law_some", "_law_spot", "_law_one", "_law_at"]) (sc := defScope sLaw) (by decide +kernel)) (fun _ _ _ _ _ => pg_name (i := 6) scLaw.nd rfl (Or.inl rfl)) (fun _ _ _ _ _ => pts_nil) (fun _ _ _ _ _ => (pe_call GLPython hr (by rfl) T.gLPython T.fLPython.kp T.bLPython .nil pass0 (pa_cons (pv 6) pa_nil)))) (pv 1) (nomark _)) (pss_one (ps_ret pe_bl)) pss_nil)
      (pss_one (ps_for PassesOwn.never rfl (pi_range1 (by rfl) T.m_range (pa_cons (pe_callB call_len_seq (by rfl) T.m_len PySem.boot_len (pa_cons (pv 4) pa_nil)) pa_nil)) (pg_name (i := 5) scLaw.nd rfl (Or.inr rfl)) (pss_one (ps_if (pt_cmpR (Mo.op_neFl hr.units) (pe_call GLKinds hr (by rfl) T.gLKinds T.fLKinds.kp T.bLKinds .nil pass0 (pa_cons (pe_ix ix_list (pv 4) (pv 5) (fun _ _ => rfl)) pa_nil)) (pe_lc (own := [("_law_at", 7)]) (g := gName 7) (tt := tYes) rfl scLaw.nd (pi_range1 (by rfl) T.m_range (pa_cons (pe_callB call_len_seq (by rfl) T.m_len PySem.boot_len (pa_cons (pv 4) pa_nil)) pa_nil)) (blkOk_by (N := ["_law_script", "_law_due", "_law_values_here", "_law_k", "_law_some", "_law_spot", "_law_one", "_law_at"]) (sc := defScope sLaw) (by decide +kernel)) (fun _ _ _ _ _ => pg_name (i := 7) scLaw.nd rfl (Or.inl rfl)) (fun _ _ _ _ _ => pts_nil) (fun _ _ _ _ _ => (pe_cmpR op_eq (pv 7) (pv 5) (nomark _)))) (nomark _)) (pss_one (ps_ret pe_bl)) pss_nil)))))))))
      (pss_one (ps_ret pe_bl))))), ?_⟩
    dsimp only [tSeq, tAsg, gName, tRet]
    have cs : ∀ (σ : L2.St) (s : Str), Vr σ (fun _ => True) (tCons (tC (.str s)) tNil) [.str s] := fun σ s => vr_go (fun H Q _ q => q) vr_nil
    refine (lv_cat (lv_cat (lv_cat (lv_cat (lv_rep 15 (lv_lst (cs _ _) (by decide)) (by decide) (by decide)) (lv_rep 2 (lv_lst (cs _ _) (by decide)) (by decide) (by decide)) (by decide)) (lv_rep 2 (lv_lst (cs _ _) (by decide)) (by decide) (by decide)) (by decide)) (lv_lst (vr_go (fun H Q _ q => q) (cs _ _)) (by decide)) (by decide)) (lv_rep 2 (lv_lst (cs _ _) (by decide)) (by decide) (by decide)) (by decide)) H _ fun du H1 s1 n1 hdu => ?_
    have hdu : H1 du = some (.lst dueL) := hdu
    have haS : SqL K H1 a (ns.map V.int) := by
      rcases ha with (e | ⟨o, e⟩) | e
      · exact .inl (.inl (s1 _ _ e))
      · exact .inl (.inr ⟨o, s1 _ _ e⟩)
      · exact .inr e
    refine ⟨_, rfl, a, ns, rfl, haS, hn, fun r xs Hs s2 nr hr lx dx => ?_⟩
    have hduS := s2 _ _ hdu
    refine ⟨_, rfl, r, xs, rfl, .inl (SqL.of hr), _, rfl, by omega, by omega, for_range (lo := 0) (fun i σ H' => ∃ o3 o4 o5 o6 o7 : Option V, σ = [some (.ref a), some (.ref du), some (.ref r), o3, o4, o5, o6, o7] ∧ Same Hs H') ?_ ?_ ?_⟩
    · exact ⟨_, _, _, _, _, rfl, fun b o e => e⟩
    · rintro i σ H2 hi ⟨o3, o4, o5, o6, o7, rfl, sS⟩
      have hi14 : i < 14 := by rw [lx] at hi; exact hi
      obtain ⟨u, hu, hat2⟩ := at_prev lx hi14
      obtain ⟨v, hv, hat⟩ : ∃ v, v ∈ xs ∧ atI xs (0 + (i : Int)) = some v := ⟨xs[i], List.getElem_mem _, by rw [Int.zero_add]; exact atI_nat (List.getElem?_eq_getElem _)⟩
      obtain ⟨dv, hdv, dxv⟩ := dx v hv
      obtain ⟨dU, hdU, dxu⟩ := dx u hu
      refine ⟨_, rfl, _, rfl, r, xs, _, v, rfl, rfl, SqL.of (sS _ _ hr), hat, _, rfl, _, rfl, _, _, rfl, rfl, r, xs, _, u, rfl, rfl, SqL.of (sS _ _ hr), hat2, v, u, rfl, fun r1 rs1 H3 s3 n3 h3 p3 => ?_⟩
      have sS3 : Same Hs H3 := fun b o e => s3 _ _ (sS _ _ e)
      refine ⟨_, rfl, _, rfl, r, xs, _, v, rfl, rfl, SqL.of (sS3 _ _ hr), hat, _, rfl, _, rfl, _, _, rfl, rfl, r, xs, _, u, rfl, rfl, SqL.of (sS3 _ _ hr), hat2, v, u, rfl, fun r2 rs2 H4 s4 n4 h4 p4 => ⟨by show 2 ≤ sizeLine; rw [sizeLine_eq]; decide, fun tp ntp => ?_⟩⟩
      have s5 := same_new (o := HO.tup [V.ref r1, V.ref r2]) ntp
      have sS5 : Same Hs _ := fun b o e => s5 _ _ (s4 _ _ (sS3 _ _ e))
      have g1 : Gf r1 rs1 (tblE T v u) _ := Gf.same (Gf.same ⟨h3, p3⟩ s4) s5
      have g2 : Gf r2 rs2 (tblE T v u) _ := Gf.same ⟨h4, p4⟩ s5
      have htp : (upd H4 tp (HO.tup [V.ref r1, V.ref r2])) tp = _ := upd_same
      revert s5 sS5 g1 g2 htp
      generalize (upd H4 tp (HO.tup [V.ref r1, V.ref r2])) = H5
      intro s5 sS5 g1 g2 htp
      refine ⟨tp, rfl, ⟨_, SqT.of htp⟩, for_it (walk_tup (xs := [V.ref r1, V.ref r2])) (fun j σ H' => ∃ o4 o5 o6 o7 : Option V, σ = [some (.ref a), some (.ref du), some (.ref r), some (.int (0 + (i : Int))), o4, o5, o6, o7] ∧ Same H5 H') ?_ ?_ ?_ ?_⟩
      · exact ⟨_, _, _, _, rfl, fun b o e => e⟩
      · rintro j σ H6 _ ⟨_, _, _, _, _, s6⟩
        exact SqT.of (s6 _ _ htp)
      · rintro j x σ H6' H6 hj ⟨q4, q5, q6, q7, rfl, s6⟩ ⟨rfl, hx⟩
        obtain ⟨rr, rs, rfl, gf⟩ : ∃ rr rs, x = V.ref rr ∧ Gf rr rs (tblE T v u) H6 := by
          match j, hj with
          | 0, _ => exact ⟨r1, rs1, (Option.some.inj hx).symm, g1.same s6⟩
          | 1, _ => exact ⟨r2, rs2, (Option.some.inj hx).symm, g2.same s6⟩
        have sS6 : Same Hs H6 := fun b o e => s6 _ _ (sS5 _ _ e)
        obtain ⟨⟨a1, a2, a3⟩, b1, b2, b3⟩ := sh_of hdv
        obtain ⟨⟨c1, c2, c3⟩, _⟩ := sh_of hdU
        have dv6 : Dx (fun _ => False) H6 v dv := dxv.same sS6
        refine ⟨_, rfl, rr, rs, v, u, rfl, gf, fun p1 H7 s7 n7 h7 => ⟨fun _ => False, .ref p1, .list (List.replicate 21 dv), rfl, .lst h7 (fun z => z) (dx_rp (dv6.same s7) 21), b1, b2, b3, ?_⟩⟩
        have sS7 : Same Hs H7 := fun b o e => s7 _ _ (sS6 _ _ e)
        refine ⟨_, rfl, _, rfl, r, xs, _, v, rfl, rfl, SqL.of (sS7 _ _ hr), hat, by show 1 ≤ sizeLine; rw [sizeLine_eq]; decide, fun b1' m1 => ⟨b1', 21, [v], rfl, rfl, upd_same, by decide, by decide, by show 21 ≤ sizeLine; rw [sizeLine_eq]; decide, fun b2' m2 => ?_⟩⟩
        have s8 := same_new (o := HO.lst [v]) m1
        have s9 := same_new (o := HO.lst (List.replicate (21 : Int).toNat [v]).flatten) m2
        have h9 : (upd (upd H7 b1' (HO.lst [v])) b2' (HO.lst (List.replicate (21 : Int).toNat [v]).flatten)) b2' = some (HO.lst (List.replicate 21 v)) := upd_same
        have sS9 : Same Hs _ := fun b o e => s9 _ _ (s8 _ _ (sS7 _ _ e))
        have g9 : Gf rr rs (tblE T v u) _ := ((gf.same s7).same s8).same s9
        have s69 : Same H6 _ := fun b o e => s9 _ _ (s8 _ _ (s7 _ _ e))
        revert h9 sS9 g9 s69
        generalize (upd (upd H7 b1' (HO.lst [v])) b2' (HO.lst (List.replicate (21 : Int).toNat [v]).flatten)) = H9
        intro h9 sS9 g9 s69
        refine ⟨fun _ => False, .ref b2', .list (List.replicate 21 dv), rfl, .lst h9 (fun z => z) (dx_rp (dxv.same sS9) 21), b1, b2, b3, rfl, _, rfl, ?_⟩
        refine nes ?_
        obtain ⟨x16, hx16, a16, rfl, he16⟩ := prd_get g9.2 (i := 16) (y := (T.cNoBlock, [("second", u), ("first", v)])) rfl
        rcases he16 with ⟨dd16, he16⟩ | ⟨z, _⟩
        rotate_left
        · cases z
        refine ⟨_, rfl, rr, rs, 16, _, rfl, rfl, SqL.of g9.1, atI_nat (j := 16) hx16, a16, _, dd16, _, u, rfl, he16, T.xNoBlock.xf, T.n2NoBlock, rfl, fun _ => False, u, dU, rfl, dxu.same sS9, c1, c2, c3, ?_⟩
        refine ⟨_, rfl, _, rfl, _, _, rfl, rfl, r, xs, _, u, rfl, rfl, SqL.of (sS9 _ _ hr), hat2, fun _ => False, u, dU, rfl, dxu.same sS9, c1, c2, c3, rfl, _, rfl, ?_⟩
        refine nes ?_
        have l23 : rs.length = 23 := errs_len gf.2
        have row : ∀ (H' : Hp) (i : Nat), Same H6 H' → i < 23 → ∃ a C bm fs, rs[i]? = some (V.ref a) ∧ ErrIs H' a C fs ∧ C ∈ clsL T ∧ ExcC K C ∧ (clsL T)[i]? = some C ∧ (C, bm) ∈ pysL T ∧ dueT[i]? = some (pyT bm).flatten := by
          intro H' i sh hi
          have ht : i < (tblE T v u).length := hi
          obtain ⟨x, hx, a', rfl, he⟩ := prd_get (gf.same sh).2 (List.getElem?_eq_getElem ht)
          have hc : (clsL T)[i]? = some ((tblE T v u)[i].1) := by rw [← tbl_cls T v u, List.getElem?_map, List.getElem?_eq_getElem ht]; rfl
          have hp : i < (pysL T).length := hi
          have hc2 : (clsL T)[i]? = some ((pysL T)[i].1) := by rw [← pys_cls T, List.getElem?_map, List.getElem?_eq_getElem hp]; rfl
          have hd : dueT[i]? = some (pyT (pysL T)[i].2).flatten := by rw [← due_py T, List.getElem?_map, List.getElem?_eq_getElem hp]; rfl
          have ec : (pysL T)[i].1 = (tblE T v u)[i].1 := Option.some.inj (hc2.symm.trans hc)
          have hm := List.mem_of_getElem? hc
          refine ⟨a', _, (pysL T)[i].2, _, hx, he, hm, exc_all T _ hm, hc, ?_, hd⟩
          have hh : ((pysL T)[i].1, (pysL T)[i].2) ∈ pysL T := List.getElem_mem hp
          rw [ec] at hh
          exact hh
        refine ⟨_, rfl, rr, rfl, ⟨_, SqL.of g9.1⟩, fun D nD => lc_it (walk_list (xs := rs)) (fun i H' => Same H9 H' ∧ H' D = some (.lst (dueL.take i))) ?_ ?_ ?_ ?_⟩
        · exact ⟨same_new nD, upd_same⟩
        · rintro i H' _ ⟨sa, _⟩
          exact SqL.of (sa _ _ g9.1)
        · rintro i x H4' H10 hi ⟨sa, hD⟩ ⟨rfl, hx⟩
          rw [l23] at hi
          obtain ⟨a', C, bm, fs, hx2, he, hm, hex, hc, hpm, hd⟩ := row H10 i (fun b o e => sa _ _ (s69 _ _ e)) hi
          have ex : x = V.ref a' := Option.some.inj (hx.symm.trans hx2)
          subst ex
          refine ⟨rfl, _, rfl, a', C, bm, fs, rfl, he, hex, hpm, fun H11 s11 => ⟨_, s11 _ _ hD, ?_, fun b o e => ?_, ?_⟩⟩
          · rw [List.length_take, sizeLine_eq]
            omega
          · have nb : b ≠ D := ne_of_none e nD
            rw [upd_ne nb]
            exact s11 _ _ (sa _ _ e)
          · rw [upd_same, List.take_add_one, show dueL[i]? = some (V.str (tx (pyT bm).flatten)) from by unfold dueL; rw [List.getElem?_map, hd]; rfl]
            rfl
        rintro H10 ⟨sa, hD⟩
        have hD : H10 D = some (.lst dueL) := by
          rw [l23] at hD
          exact hD
        have sS10 : Same Hs H10 := fun b o e => sa _ _ (sS9 _ _ e)
        refine ⟨_, rfl, dueL, dueL, ⟨D, du, rfl, rfl, rfl, rfl, .inl ⟨SqL.of hD, SqL.of (sS10 _ _ hduS)⟩⟩, _, rfl, ?_⟩
        refine nes2 rfl ?_
        have g10 : Gf rr rs (tblE T v u) H10 := g9.same sa
        refine ⟨_, rfl, rr, rs, rfl, .inl (SqL.of g10.1), _, rfl, by omega, by omega, for_range (lo := 0) (fun m σ H' => ∃ o5 o6 o7 : Option V, σ = [some (.ref a), some (.ref du), some (.ref r), some (.int (0 + (i : Int))), some (.ref rr), o5, o6, o7] ∧ Same H10 H') ?_ ?_ ?_⟩
        · exact ⟨_, _, _, rfl, fun b o e => e⟩
        · rintro m σ H11 hm ⟨o5, o6, o7, rfl, s11⟩
          have hm23 : m < 23 := by rw [l23] at hm; exact hm
          obtain ⟨a', C, bm, fs, hx2, he, hmem, hex, hc, hpm, hd⟩ := row H11 m (fun b o e => s11 _ _ (sa _ _ (s69 _ _ e))) hm23
          refine ⟨_, rfl, _, rfl, rr, rs, _, _, rfl, rfl, SqL.of (s11 _ _ g10.1), by rw [Int.zero_add]; exact atI_nat hx2, a', C, fs, rfl, he, hex, hmem, fun p2 H12 s12 n12 h12 => ?_⟩
          refine ⟨_, rfl, rr, rs, rfl, .inl (SqL.of (s12 _ _ (s11 _ _ g10.1))), _, rfl, by omega, by omega, fun D2 nD2 => lc_range (lo := 0) (fun z H' => Same H12 H' ∧ H' D2 = some (.lst ((List.range z).map fun y => V.bl (decide (y = m))))) ?_ ?_ ?_⟩
          · exact ⟨same_new nD2, upd_same⟩
          · rintro z H13 hz ⟨sz, hD2⟩
            refine ⟨rfl, _, rfl, _, rfl, rfl, _, hD2, ?_, fun b o e => ?_, ?_⟩
            · rw [List.length_map, List.length_range, sizeLine_eq]
              omega
            · have nb : b ≠ D2 := ne_of_none e nD2
              rw [upd_ne nb]
              exact sz _ _ e
            · rw [upd_same, List.range_succ, List.map_append]
              have e1 : decide (V.int (0 + (z : Int)) = V.int (0 + (m : Int))) = decide (z = m) := by
                rw [dec_int]
                by_cases h : z = m
                · subst h
                  rw [beq_self_eq_true, decide_eq_true rfl]
                · rw [decide_eq_false h]
                  exact beq_eq_false_iff_ne.mpr (fun y => h (by omega))
              rw [e1]
              rfl
          · rintro H13 ⟨sz, hD2⟩
            rw [l23] at hD2
            have eqk : (clsL T).map (fun y => V.bl (C == y)) = (List.range 23).map fun y => V.bl (decide (y = m)) := by
              refine List.ext_getElem? fun y => ?_
              rw [List.getElem?_map, List.getElem?_map]
              by_cases hy : y < 23
              · have hy2 : y < (clsL T).length := hy
                rw [List.getElem?_eq_getElem hy2, List.getElem?_range hy]
                have hmc : m < (clsL T).length := hm23
                rw [List.getElem?_eq_getElem hmc] at hc
                have hC : C = (clsL T)[m] := (Option.some.inj hc).symm
                have nd : (clsL T).Nodup := T.nds
                show some (V.bl (C == (clsL T)[y])) = some (V.bl (decide (y = m)))
                by_cases h : y = m
                · subst h
                  rw [hC, beq_self_eq_true, decide_eq_true rfl]
                · rw [decide_eq_false h, hC]
                  have : ((clsL T)[m] == (clsL T)[y]) = false := beq_eq_false_iff_ne.mpr fun e => by
                    rcases Nat.lt_or_gt_of_ne h with z | z
                    · exact List.pairwise_iff_getElem.mp nd y m hy2 hmc z e.symm
                    · exact List.pairwise_iff_getElem.mp nd m y hmc hy2 z e
                  rw [this]
              · have hy2 : (clsL T).length ≤ y := Nat.le_of_not_lt hy
                rw [List.getElem?_eq_none hy2, List.getElem?_eq_none (by rw [List.length_range]; omega)]
                rfl
            have fl : ((clsL T).map (fun y => V.bl (C == y))).all flatV = true := by
              rw [List.all_map]
              exact List.all_eq_true.mpr fun y _ => rfl
            have hD2 : H13 D2 = some (.lst ((List.range 23).map fun y => V.bl (decide (y = m)))) := hD2
            rw [← eqk] at hD2
            refine ⟨_, _, ⟨p2, D2, rfl, rfl, fl, fl, .inl ⟨SqL.of (sz _ _ h12), SqL.of hD2⟩⟩, _, rfl, ?_⟩
            refine nes2 fl ?_
            exact ⟨_, _, _, rfl, fun b o e => sz _ _ (s12 _ _ (s11 _ _ e))⟩
        · rintro σ H11 ⟨o5, o6, o7, rfl, s11⟩
          exact ⟨_, _, _, _, rfl, fun b o e => s11 _ _ (sa _ _ (s69 _ _ (s6 _ _ e)))⟩
      · rintro σ H6 ⟨q4, q5, q6, q7, rfl, s6⟩
        exact ⟨_, _, _, _, _, rfl, fun b o e => s6 _ _ (sS5 _ _ e)⟩
    · rintro σ H6 ⟨o3, o4, o5, o6, o7, rfl, _⟩
      exact q _
end Mo

namespace Mo
open PySem PySem.Spec PyProof.Rows L2
theorem txt_mk {K : PySem.W.Frag} {h : Heap} {mg : Str → Option Value} {fa : Addr} (X : K.In h) (G : h.Ns mainGlobals mg) (hfa : mg "law" = some (.ref fa))
    {cInvalidPattern : Addr} (eInvalidPattern : PySem.W.nsIn K mainGlobals "InvalidPattern" = some (some (.ref cInvalidPattern)))
    {cInvalidText : Addr} (eInvalidText : PySem.W.nsIn K mainGlobals "InvalidText" = some (some (.ref cInvalidText)))
    {cInvalidVariables : Addr} (eInvalidVariables : PySem.W.nsIn K mainGlobals "InvalidVariables" = some (some (.ref cInvalidVariables)))
    {cInvalidValues : Addr} (eInvalidValues : PySem.W.nsIn K mainGlobals "InvalidValues" = some (some (.ref cInvalidValues)))
    {cInvalidCount : Addr} (eInvalidCount : PySem.W.nsIn K mainGlobals "InvalidCount" = some (some (.ref cInvalidCount)))
    {cInvalidChain : Addr} (eInvalidChain : PySem.W.nsIn K mainGlobals "InvalidChain" = some (some (.ref cInvalidChain)))
    {cInvalidPlace : Addr} (eInvalidPlace : PySem.W.nsIn K mainGlobals "InvalidPlace" = some (some (.ref cInvalidPlace)))
    {cInvalidFormula : Addr} (eInvalidFormula : PySem.W.nsIn K mainGlobals "InvalidFormula" = some (some (.ref cInvalidFormula)))
    {cInvalidRules : Addr} (eInvalidRules : PySem.W.nsIn K mainGlobals "InvalidRules" = some (some (.ref cInvalidRules)))
    {cInvalidName : Addr} (eInvalidName : PySem.W.nsIn K mainGlobals "InvalidName" = some (some (.ref cInvalidName)))
    {cInvalidDeed : Addr} (eInvalidDeed : PySem.W.nsIn K mainGlobals "InvalidDeed" = some (some (.ref cInvalidDeed)))
    {cInvalidCommand : Addr} (eInvalidCommand : PySem.W.nsIn K mainGlobals "InvalidCommand" = some (some (.ref cInvalidCommand)))
    {cParseError : Addr} (eParseError : PySem.W.nsIn K mainGlobals "ParseError" = some (some (.ref cParseError)))
    {cNotFree : Addr} (eNotFree : PySem.W.nsIn K mainGlobals "NotFree" = some (some (.ref cNotFree)))
    {cAvoidable : Addr} (eAvoidable : PySem.W.nsIn K mainGlobals "Avoidable" = some (some (.ref cAvoidable)))
    {cRankTooSmall : Addr} (eRankTooSmall : PySem.W.nsIn K mainGlobals "RankTooSmall" = some (some (.ref cRankTooSmall)))
    {cNoBlock : Addr} (eNoBlock : PySem.W.nsIn K mainGlobals "NoBlock" = some (some (.ref cNoBlock)))
    {cUnknownName : Addr} (eUnknownName : PySem.W.nsIn K mainGlobals "UnknownName" = some (some (.ref cUnknownName)))
    {cDuplicateName : Addr} (eDuplicateName : PySem.W.nsIn K mainGlobals "DuplicateName" = some (some (.ref cDuplicateName)))
    {cNoMoment : Addr} (eNoMoment : PySem.W.nsIn K mainGlobals "NoMoment" = some (some (.ref cNoMoment)))
    {cTooLarge : Addr} (eTooLarge : PySem.W.nsIn K mainGlobals "TooLarge" = some (some (.ref cTooLarge)))
    {cNothingToUndo : Addr} (eNothingToUndo : PySem.W.nsIn K mainGlobals "NothingToUndo" = some (some (.ref cNothingToUndo)))
    {cNothingToRedo : Addr} (eNothingToRedo : PySem.W.nsIn K mainGlobals "NothingToRedo" = some (some (.ref cNothingToRedo)))
    {nmInvalidPattern qInvalidPattern : Str} {NInvalidPattern : Addr} {bsInvalidPattern : List Value} {snInvalidPattern : List Str} {subInvalidPattern : List Value} {abInvalidPattern : Bool} {colInvalidPattern : Option Bool} {ddInvalidPattern : Option Addr} {u0InvalidPattern u1InvalidPattern u2InvalidPattern u3InvalidPattern u5InvalidPattern : Option Value}
    (xLInvalidPattern : K.lookup cInvalidPattern = some (excClassObj nmInvalidPattern qInvalidPattern cInvalidPattern NInvalidPattern bsInvalidPattern [.type "ValueError", .type "Exception", .type "BaseException", .type "object"] true snInvalidPattern subInvalidPattern abInvalidPattern colInvalidPattern ddInvalidPattern u0InvalidPattern u1InvalidPattern u2InvalidPattern u3InvalidPattern u5InvalidPattern "ValueError.__new__"))
    (saInvalidPattern : PySem.W.findIn K (.ref cInvalidPattern) "__setattr__" = some (some (.builtin "object.__setattr__")))
    (gaInvalidPattern : PySem.W.findIn K (.ref cInvalidPattern) "__getattribute__" = some (some (.builtin "BaseException.__getattribute__")))
    (ggInvalidPattern : PySem.W.findIn K (.ref cInvalidPattern) "__getattr__" = some none)
    (nbInvalidPattern : PySem.W.findIn K (.ref cInvalidPattern) "value" = some none)
    (exInvalidPattern : PySem.W.subIn K (.ref cInvalidPattern) (.type "BaseException") = some true)
    (tyInvalidPattern : PySem.W.typeIn K (.ref cInvalidPattern) = some (.type "type"))
    (hdInvalidPattern : PySem.W.hasDictIn K cInvalidPattern = true)
    (kCInvalidPattern : PySem.W.keepIn K (.ref cInvalidPattern) = true)
    (sCInvalidPattern : PySem.W.subIn K (.ref cInvalidPattern) (.ref cInvalidPattern) = some true)
    (caInvalidPattern : PySem.W.findIn K (.ref cInvalidPattern) "__class__" = some (some (.builtin "object.__class__")))
    (cnInvalidPattern : PySem.W.specialIn K (.builtin "object.__class__") "__get__" = some (some (.builtin "getset_descriptor.__get__")))
    (ctInvalidPattern : PySem.W.takesIn K (.builtin "object.__class__") = some true)
    (cmInvalidPattern : PySem.W.mroIn K cInvalidPattern (.type "object") = some true)
    {iInvalidPattern : Addr} (iCInvalidPattern : PySem.W.findIn K (.ref cInvalidPattern) "__init__" = some (some (.ref iInvalidPattern))) (tIInvalidPattern : PySem.W.typeIn K (.ref iInvalidPattern) = some (.type "function"))
    {iodInvalidPattern ianInvalidPattern : Option Addr} {islInvalidPattern : Array (Option Value)} {iocInvalidPattern ikVInvalidPattern idcInvalidPattern ipmInvalidPattern icdInvalidPattern ictInvalidPattern : Value} (iLInvalidPattern : K.lookup iInvalidPattern = some ⟨iocInvalidPattern, iodInvalidPattern, .func (PySem.W.fnOf "__init__" "InvalidPattern.__init__" (defArgs sInitInvalidPattern) (defBody sInitInvalidPattern) (defScope sInitInvalidPattern) .none ikVInvalidPattern idcInvalidPattern ipmInvalidPattern ianInvalidPattern icdInvalidPattern ictInvalidPattern), islInvalidPattern⟩) (iDInvalidPattern : PySem.W.codeIn K icdInvalidPattern "InvalidPattern.__init__" = true) (iKInvalidPattern : PySem.W.keepIn K (.ref iInvalidPattern) = true)
    {nmInvalidText qInvalidText : Str} {NInvalidText : Addr} {bsInvalidText : List Value} {snInvalidText : List Str} {subInvalidText : List Value} {abInvalidText : Bool} {colInvalidText : Option Bool} {ddInvalidText : Option Addr} {u0InvalidText u1InvalidText u2InvalidText u3InvalidText u5InvalidText : Option Value}
    (xLInvalidText : K.lookup cInvalidText = some (excClassObj nmInvalidText qInvalidText cInvalidText NInvalidText bsInvalidText [.type "ValueError", .type "Exception", .type "BaseException", .type "object"] true snInvalidText subInvalidText abInvalidText colInvalidText ddInvalidText u0InvalidText u1InvalidText u2InvalidText u3InvalidText u5InvalidText "ValueError.__new__"))
    (saInvalidText : PySem.W.findIn K (.ref cInvalidText) "__setattr__" = some (some (.builtin "object.__setattr__")))
    (gaInvalidText : PySem.W.findIn K (.ref cInvalidText) "__getattribute__" = some (some (.builtin "BaseException.__getattribute__")))
    (ggInvalidText : PySem.W.findIn K (.ref cInvalidText) "__getattr__" = some none)
    (nbInvalidText : PySem.W.findIn K (.ref cInvalidText) "value" = some none)
    (exInvalidText : PySem.W.subIn K (.ref cInvalidText) (.type "BaseException") = some true)
    (tyInvalidText : PySem.W.typeIn K (.ref cInvalidText) = some (.type "type"))
    (hdInvalidText : PySem.W.hasDictIn K cInvalidText = true)
    (kCInvalidText : PySem.W.keepIn K (.ref cInvalidText) = true)
    (sCInvalidText : PySem.W.subIn K (.ref cInvalidText) (.ref cInvalidText) = some true)
    (caInvalidText : PySem.W.findIn K (.ref cInvalidText) "__class__" = some (some (.builtin "object.__class__")))
    (cnInvalidText : PySem.W.specialIn K (.builtin "object.__class__") "__get__" = some (some (.builtin "getset_descriptor.__get__")))
    (ctInvalidText : PySem.W.takesIn K (.builtin "object.__class__") = some true)
    (cmInvalidText : PySem.W.mroIn K cInvalidText (.type "object") = some true)
    {iInvalidText : Addr} (iCInvalidText : PySem.W.findIn K (.ref cInvalidText) "__init__" = some (some (.ref iInvalidText))) (tIInvalidText : PySem.W.typeIn K (.ref iInvalidText) = some (.type "function"))
    {iodInvalidText ianInvalidText : Option Addr} {islInvalidText : Array (Option Value)} {iocInvalidText ikVInvalidText idcInvalidText ipmInvalidText icdInvalidText ictInvalidText : Value} (iLInvalidText : K.lookup iInvalidText = some ⟨iocInvalidText, iodInvalidText, .func (PySem.W.fnOf "__init__" "InvalidText.__init__" (defArgs sInitInvalidText) (defBody sInitInvalidText) (defScope sInitInvalidText) .none ikVInvalidText idcInvalidText ipmInvalidText ianInvalidText icdInvalidText ictInvalidText), islInvalidText⟩) (iDInvalidText : PySem.W.codeIn K icdInvalidText "InvalidText.__init__" = true) (iKInvalidText : PySem.W.keepIn K (.ref iInvalidText) = true)
    {nmInvalidVariables qInvalidVariables : Str} {NInvalidVariables : Addr} {bsInvalidVariables : List Value} {snInvalidVariables : List Str} {subInvalidVariables : List Value} {abInvalidVariables : Bool} {colInvalidVariables : Option Bool} {ddInvalidVariables : Option Addr} {u0InvalidVariables u1InvalidVariables u2InvalidVariables u3InvalidVariables u5InvalidVariables : Option Value}
    (xLInvalidVariables : K.lookup cInvalidVariables = some (excClassObj nmInvalidVariables qInvalidVariables cInvalidVariables NInvalidVariables bsInvalidVariables [.type "ValueError", .type "Exception", .type "BaseException", .type "object"] true snInvalidVariables subInvalidVariables abInvalidVariables colInvalidVariables ddInvalidVariables u0InvalidVariables u1InvalidVariables u2InvalidVariables u3InvalidVariables u5InvalidVariables "ValueError.__new__"))
    (saInvalidVariables : PySem.W.findIn K (.ref cInvalidVariables) "__setattr__" = some (some (.builtin "object.__setattr__")))
    (gaInvalidVariables : PySem.W.findIn K (.ref cInvalidVariables) "__getattribute__" = some (some (.builtin "BaseException.__getattribute__")))
    (ggInvalidVariables : PySem.W.findIn K (.ref cInvalidVariables) "__getattr__" = some none)
    (nbInvalidVariables : PySem.W.findIn K (.ref cInvalidVariables) "value" = some none)
    (exInvalidVariables : PySem.W.subIn K (.ref cInvalidVariables) (.type "BaseException") = some true)
    (tyInvalidVariables : PySem.W.typeIn K (.ref cInvalidVariables) = some (.type "type"))
    (hdInvalidVariables : PySem.W.hasDictIn K cInvalidVariables = true)
    (kCInvalidVariables : PySem.W.keepIn K (.ref cInvalidVariables) = true)
    (sCInvalidVariables : PySem.W.subIn K (.ref cInvalidVariables) (.ref cInvalidVariables) = some true)
    (caInvalidVariables : PySem.W.findIn K (.ref cInvalidVariables) "__class__" = some (some (.builtin "object.__class__")))
    (cnInvalidVariables : PySem.W.specialIn K (.builtin "object.__class__") "__get__" = some (some (.builtin "getset_descriptor.__get__")))
    (ctInvalidVariables : PySem.W.takesIn K (.builtin "object.__class__") = some true)
    (cmInvalidVariables : PySem.W.mroIn K cInvalidVariables (.type "object") = some true)
    {iInvalidVariables : Addr} (iCInvalidVariables : PySem.W.findIn K (.ref cInvalidVariables) "__init__" = some (some (.ref iInvalidVariables))) (tIInvalidVariables : PySem.W.typeIn K (.ref iInvalidVariables) = some (.type "function"))
    {iodInvalidVariables ianInvalidVariables : Option Addr} {islInvalidVariables : Array (Option Value)} {iocInvalidVariables ikVInvalidVariables idcInvalidVariables ipmInvalidVariables icdInvalidVariables ictInvalidVariables : Value} (iLInvalidVariables : K.lookup iInvalidVariables = some ⟨iocInvalidVariables, iodInvalidVariables, .func (PySem.W.fnOf "__init__" "InvalidVariables.__init__" (defArgs sInitInvalidVariables) (defBody sInitInvalidVariables) (defScope sInitInvalidVariables) .none ikVInvalidVariables idcInvalidVariables ipmInvalidVariables ianInvalidVariables icdInvalidVariables ictInvalidVariables), islInvalidVariables⟩) (iDInvalidVariables : PySem.W.codeIn K icdInvalidVariables "InvalidVariables.__init__" = true) (iKInvalidVariables : PySem.W.keepIn K (.ref iInvalidVariables) = true)
    {nmInvalidValues qInvalidValues : Str} {NInvalidValues : Addr} {bsInvalidValues : List Value} {snInvalidValues : List Str} {subInvalidValues : List Value} {abInvalidValues : Bool} {colInvalidValues : Option Bool} {ddInvalidValues : Option Addr} {u0InvalidValues u1InvalidValues u2InvalidValues u3InvalidValues u5InvalidValues : Option Value}
    (xLInvalidValues : K.lookup cInvalidValues = some (excClassObj nmInvalidValues qInvalidValues cInvalidValues NInvalidValues bsInvalidValues [.type "ValueError", .type "Exception", .type "BaseException", .type "object"] true snInvalidValues subInvalidValues abInvalidValues colInvalidValues ddInvalidValues u0InvalidValues u1InvalidValues u2InvalidValues u3InvalidValues u5InvalidValues "ValueError.__new__"))
    (saInvalidValues : PySem.W.findIn K (.ref cInvalidValues) "__setattr__" = some (some (.builtin "object.__setattr__")))
    (gaInvalidValues : PySem.W.findIn K (.ref cInvalidValues) "__getattribute__" = some (some (.builtin "BaseException.__getattribute__")))
    (ggInvalidValues : PySem.W.findIn K (.ref cInvalidValues) "__getattr__" = some none)
    (nbInvalidValues : PySem.W.findIn K (.ref cInvalidValues) "value" = some none)
    (exInvalidValues : PySem.W.subIn K (.ref cInvalidValues) (.type "BaseException") = some true)
    (tyInvalidValues : PySem.W.typeIn K (.ref cInvalidValues) = some (.type "type"))
    (hdInvalidValues : PySem.W.hasDictIn K cInvalidValues = true)
    (kCInvalidValues : PySem.W.keepIn K (.ref cInvalidValues) = true)
    (sCInvalidValues : PySem.W.subIn K (.ref cInvalidValues) (.ref cInvalidValues) = some true)
    (caInvalidValues : PySem.W.findIn K (.ref cInvalidValues) "__class__" = some (some (.builtin "object.__class__")))
    (cnInvalidValues : PySem.W.specialIn K (.builtin "object.__class__") "__get__" = some (some (.builtin "getset_descriptor.__get__")))
    (ctInvalidValues : PySem.W.takesIn K (.builtin "object.__class__") = some true)
    (cmInvalidValues : PySem.W.mroIn K cInvalidValues (.type "object") = some true)
    {iInvalidValues : Addr} (iCInvalidValues : PySem.W.findIn K (.ref cInvalidValues) "__init__" = some (some (.ref iInvalidValues))) (tIInvalidValues : PySem.W.typeIn K (.ref iInvalidValues) = some (.type "function"))
    {iodInvalidValues ianInvalidValues : Option Addr} {islInvalidValues : Array (Option Value)} {iocInvalidValues ikVInvalidValues idcInvalidValues ipmInvalidValues icdInvalidValues ictInvalidValues : Value} (iLInvalidValues : K.lookup iInvalidValues = some ⟨iocInvalidValues, iodInvalidValues, .func (PySem.W.fnOf "__init__" "InvalidValues.__init__" (defArgs sInitInvalidValues) (defBody sInitInvalidValues) (defScope sInitInvalidValues) .none ikVInvalidValues idcInvalidValues ipmInvalidValues ianInvalidValues icdInvalidValues ictInvalidValues), islInvalidValues⟩) (iDInvalidValues : PySem.W.codeIn K icdInvalidValues "InvalidValues.__init__" = true) (iKInvalidValues : PySem.W.keepIn K (.ref iInvalidValues) = true)
    {nmInvalidCount qInvalidCount : Str} {NInvalidCount : Addr} {bsInvalidCount : List Value} {snInvalidCount : List Str} {subInvalidCount : List Value} {abInvalidCount : Bool} {colInvalidCount : Option Bool} {ddInvalidCount : Option Addr} {u0InvalidCount u1InvalidCount u2InvalidCount u3InvalidCount u5InvalidCount : Option Value}
    (xLInvalidCount : K.lookup cInvalidCount = some (excClassObj nmInvalidCount qInvalidCount cInvalidCount NInvalidCount bsInvalidCount [.type "ValueError", .type "Exception", .type "BaseException", .type "object"] true snInvalidCount subInvalidCount abInvalidCount colInvalidCount ddInvalidCount u0InvalidCount u1InvalidCount u2InvalidCount u3InvalidCount u5InvalidCount "ValueError.__new__"))
    (saInvalidCount : PySem.W.findIn K (.ref cInvalidCount) "__setattr__" = some (some (.builtin "object.__setattr__")))
    (gaInvalidCount : PySem.W.findIn K (.ref cInvalidCount) "__getattribute__" = some (some (.builtin "BaseException.__getattribute__")))
    (ggInvalidCount : PySem.W.findIn K (.ref cInvalidCount) "__getattr__" = some none)
    (nbInvalidCount : PySem.W.findIn K (.ref cInvalidCount) "value" = some none)
    (exInvalidCount : PySem.W.subIn K (.ref cInvalidCount) (.type "BaseException") = some true)
    (tyInvalidCount : PySem.W.typeIn K (.ref cInvalidCount) = some (.type "type"))
    (hdInvalidCount : PySem.W.hasDictIn K cInvalidCount = true)
    (kCInvalidCount : PySem.W.keepIn K (.ref cInvalidCount) = true)
    (sCInvalidCount : PySem.W.subIn K (.ref cInvalidCount) (.ref cInvalidCount) = some true)
    (caInvalidCount : PySem.W.findIn K (.ref cInvalidCount) "__class__" = some (some (.builtin "object.__class__")))
    (cnInvalidCount : PySem.W.specialIn K (.builtin "object.__class__") "__get__" = some (some (.builtin "getset_descriptor.__get__")))
    (ctInvalidCount : PySem.W.takesIn K (.builtin "object.__class__") = some true)
    (cmInvalidCount : PySem.W.mroIn K cInvalidCount (.type "object") = some true)
    {iInvalidCount : Addr} (iCInvalidCount : PySem.W.findIn K (.ref cInvalidCount) "__init__" = some (some (.ref iInvalidCount))) (tIInvalidCount : PySem.W.typeIn K (.ref iInvalidCount) = some (.type "function"))
    {iodInvalidCount ianInvalidCount : Option Addr} {islInvalidCount : Array (Option Value)} {iocInvalidCount ikVInvalidCount idcInvalidCount ipmInvalidCount icdInvalidCount ictInvalidCount : Value} (iLInvalidCount : K.lookup iInvalidCount = some ⟨iocInvalidCount, iodInvalidCount, .func (PySem.W.fnOf "__init__" "InvalidCount.__init__" (defArgs sInitInvalidCount) (defBody sInitInvalidCount) (defScope sInitInvalidCount) .none ikVInvalidCount idcInvalidCount ipmInvalidCount ianInvalidCount icdInvalidCount ictInvalidCount), islInvalidCount⟩) (iDInvalidCount : PySem.W.codeIn K icdInvalidCount "InvalidCount.__init__" = true) (iKInvalidCount : PySem.W.keepIn K (.ref iInvalidCount) = true)
    {nmInvalidChain qInvalidChain : Str} {NInvalidChain : Addr} {bsInvalidChain : List Value} {snInvalidChain : List Str} {subInvalidChain : List Value} {abInvalidChain : Bool} {colInvalidChain : Option Bool} {ddInvalidChain : Option Addr} {u0InvalidChain u1InvalidChain u2InvalidChain u3InvalidChain u5InvalidChain : Option Value}
    (xLInvalidChain : K.lookup cInvalidChain = some (excClassObj nmInvalidChain qInvalidChain cInvalidChain NInvalidChain bsInvalidChain [.type "ValueError", .type "Exception", .type "BaseException", .type "object"] true snInvalidChain subInvalidChain abInvalidChain colInvalidChain ddInvalidChain u0InvalidChain u1InvalidChain u2InvalidChain u3InvalidChain u5InvalidChain "ValueError.__new__"))
    (saInvalidChain : PySem.W.findIn K (.ref cInvalidChain) "__setattr__" = some (some (.builtin "object.__setattr__")))
    (gaInvalidChain : PySem.W.findIn K (.ref cInvalidChain) "__getattribute__" = some (some (.builtin "BaseException.__getattribute__")))
    (ggInvalidChain : PySem.W.findIn K (.ref cInvalidChain) "__getattr__" = some none)
    (nbInvalidChain : PySem.W.findIn K (.ref cInvalidChain) "value" = some none)
    (exInvalidChain : PySem.W.subIn K (.ref cInvalidChain) (.type "BaseException") = some true)
    (tyInvalidChain : PySem.W.typeIn K (.ref cInvalidChain) = some (.type "type"))
    (hdInvalidChain : PySem.W.hasDictIn K cInvalidChain = true)
    (kCInvalidChain : PySem.W.keepIn K (.ref cInvalidChain) = true)
    (sCInvalidChain : PySem.W.subIn K (.ref cInvalidChain) (.ref cInvalidChain) = some true)
    (caInvalidChain : PySem.W.findIn K (.ref cInvalidChain) "__class__" = some (some (.builtin "object.__class__")))
    (cnInvalidChain : PySem.W.specialIn K (.builtin "object.__class__") "__get__" = some (some (.builtin "getset_descriptor.__get__")))
    (ctInvalidChain : PySem.W.takesIn K (.builtin "object.__class__") = some true)
    (cmInvalidChain : PySem.W.mroIn K cInvalidChain (.type "object") = some true)
    {iInvalidChain : Addr} (iCInvalidChain : PySem.W.findIn K (.ref cInvalidChain) "__init__" = some (some (.ref iInvalidChain))) (tIInvalidChain : PySem.W.typeIn K (.ref iInvalidChain) = some (.type "function"))
    {iodInvalidChain ianInvalidChain : Option Addr} {islInvalidChain : Array (Option Value)} {iocInvalidChain ikVInvalidChain idcInvalidChain ipmInvalidChain icdInvalidChain ictInvalidChain : Value} (iLInvalidChain : K.lookup iInvalidChain = some ⟨iocInvalidChain, iodInvalidChain, .func (PySem.W.fnOf "__init__" "InvalidChain.__init__" (defArgs sInitInvalidChain) (defBody sInitInvalidChain) (defScope sInitInvalidChain) .none ikVInvalidChain idcInvalidChain ipmInvalidChain ianInvalidChain icdInvalidChain ictInvalidChain), islInvalidChain⟩) (iDInvalidChain : PySem.W.codeIn K icdInvalidChain "InvalidChain.__init__" = true) (iKInvalidChain : PySem.W.keepIn K (.ref iInvalidChain) = true)
    {nmInvalidPlace qInvalidPlace : Str} {NInvalidPlace : Addr} {bsInvalidPlace : List Value} {snInvalidPlace : List Str} {subInvalidPlace : List Value} {abInvalidPlace : Bool} {colInvalidPlace : Option Bool} {ddInvalidPlace : Option Addr} {u0InvalidPlace u1InvalidPlace u2InvalidPlace u3InvalidPlace u5InvalidPlace : Option Value}
    (xLInvalidPlace : K.lookup cInvalidPlace = some (excClassObj nmInvalidPlace qInvalidPlace cInvalidPlace NInvalidPlace bsInvalidPlace [.type "ValueError", .type "Exception", .type "BaseException", .type "object"] true snInvalidPlace subInvalidPlace abInvalidPlace colInvalidPlace ddInvalidPlace u0InvalidPlace u1InvalidPlace u2InvalidPlace u3InvalidPlace u5InvalidPlace "ValueError.__new__"))
    (saInvalidPlace : PySem.W.findIn K (.ref cInvalidPlace) "__setattr__" = some (some (.builtin "object.__setattr__")))
    (gaInvalidPlace : PySem.W.findIn K (.ref cInvalidPlace) "__getattribute__" = some (some (.builtin "BaseException.__getattribute__")))
    (ggInvalidPlace : PySem.W.findIn K (.ref cInvalidPlace) "__getattr__" = some none)
    (nbInvalidPlace : PySem.W.findIn K (.ref cInvalidPlace) "value" = some none)
    (exInvalidPlace : PySem.W.subIn K (.ref cInvalidPlace) (.type "BaseException") = some true)
    (tyInvalidPlace : PySem.W.typeIn K (.ref cInvalidPlace) = some (.type "type"))
    (hdInvalidPlace : PySem.W.hasDictIn K cInvalidPlace = true)
    (kCInvalidPlace : PySem.W.keepIn K (.ref cInvalidPlace) = true)
    (sCInvalidPlace : PySem.W.subIn K (.ref cInvalidPlace) (.ref cInvalidPlace) = some true)
    (caInvalidPlace : PySem.W.findIn K (.ref cInvalidPlace) "__class__" = some (some (.builtin "object.__class__")))
    (cnInvalidPlace : PySem.W.specialIn K (.builtin "object.__class__") "__get__" = some (some (.builtin "getset_descriptor.__get__")))
    (ctInvalidPlace : PySem.W.takesIn K (.builtin "object.__class__") = some true)
    (cmInvalidPlace : PySem.W.mroIn K cInvalidPlace (.type "object") = some true)
    {iInvalidPlace : Addr} (iCInvalidPlace : PySem.W.findIn K (.ref cInvalidPlace) "__init__" = some (some (.ref iInvalidPlace))) (tIInvalidPlace : PySem.W.typeIn K (.ref iInvalidPlace) = some (.type "function"))
    {iodInvalidPlace ianInvalidPlace : Option Addr} {islInvalidPlace : Array (Option Value)} {iocInvalidPlace ikVInvalidPlace idcInvalidPlace ipmInvalidPlace icdInvalidPlace ictInvalidPlace : Value} (iLInvalidPlace : K.lookup iInvalidPlace = some ⟨iocInvalidPlace, iodInvalidPlace, .func (PySem.W.fnOf "__init__" "InvalidPlace.__init__" (defArgs sInitInvalidPlace) (defBody sInitInvalidPlace) (defScope sInitInvalidPlace) .none ikVInvalidPlace idcInvalidPlace ipmInvalidPlace ianInvalidPlace icdInvalidPlace ictInvalidPlace), islInvalidPlace⟩) (iDInvalidPlace : PySem.W.codeIn K icdInvalidPlace "InvalidPlace.__init__" = true) (iKInvalidPlace : PySem.W.keepIn K (.ref iInvalidPlace) = true)
    {nmInvalidFormula qInvalidFormula : Str} {NInvalidFormula : Addr} {bsInvalidFormula : List Value} {snInvalidFormula : List Str} {subInvalidFormula : List Value} {abInvalidFormula : Bool} {colInvalidFormula : Option Bool} {ddInvalidFormula : Option Addr} {u0InvalidFormula u1InvalidFormula u2InvalidFormula u3InvalidFormula u5InvalidFormula : Option Value}
    (xLInvalidFormula : K.lookup cInvalidFormula = some (excClassObj nmInvalidFormula qInvalidFormula cInvalidFormula NInvalidFormula bsInvalidFormula [.type "ValueError", .type "Exception", .type "BaseException", .type "object"] true snInvalidFormula subInvalidFormula abInvalidFormula colInvalidFormula ddInvalidFormula u0InvalidFormula u1InvalidFormula u2InvalidFormula u3InvalidFormula u5InvalidFormula "ValueError.__new__"))
    (saInvalidFormula : PySem.W.findIn K (.ref cInvalidFormula) "__setattr__" = some (some (.builtin "object.__setattr__")))
    (gaInvalidFormula : PySem.W.findIn K (.ref cInvalidFormula) "__getattribute__" = some (some (.builtin "BaseException.__getattribute__")))
    (ggInvalidFormula : PySem.W.findIn K (.ref cInvalidFormula) "__getattr__" = some none)
    (nbInvalidFormula : PySem.W.findIn K (.ref cInvalidFormula) "value" = some none)
    (exInvalidFormula : PySem.W.subIn K (.ref cInvalidFormula) (.type "BaseException") = some true)
    (tyInvalidFormula : PySem.W.typeIn K (.ref cInvalidFormula) = some (.type "type"))
    (hdInvalidFormula : PySem.W.hasDictIn K cInvalidFormula = true)
    (kCInvalidFormula : PySem.W.keepIn K (.ref cInvalidFormula) = true)
    (sCInvalidFormula : PySem.W.subIn K (.ref cInvalidFormula) (.ref cInvalidFormula) = some true)
    (caInvalidFormula : PySem.W.findIn K (.ref cInvalidFormula) "__class__" = some (some (.builtin "object.__class__")))
    (cnInvalidFormula : PySem.W.specialIn K (.builtin "object.__class__") "__get__" = some (some (.builtin "getset_descriptor.__get__")))
    (ctInvalidFormula : PySem.W.takesIn K (.builtin "object.__class__") = some true)
    (cmInvalidFormula : PySem.W.mroIn K cInvalidFormula (.type "object") = some true)
    {iInvalidFormula : Addr} (iCInvalidFormula : PySem.W.findIn K (.ref cInvalidFormula) "__init__" = some (some (.ref iInvalidFormula))) (tIInvalidFormula : PySem.W.typeIn K (.ref iInvalidFormula) = some (.type "function"))
    {iodInvalidFormula ianInvalidFormula : Option Addr} {islInvalidFormula : Array (Option Value)} {iocInvalidFormula ikVInvalidFormula idcInvalidFormula ipmInvalidFormula icdInvalidFormula ictInvalidFormula : Value} (iLInvalidFormula : K.lookup iInvalidFormula = some ⟨iocInvalidFormula, iodInvalidFormula, .func (PySem.W.fnOf "__init__" "InvalidFormula.__init__" (defArgs sInitInvalidFormula) (defBody sInitInvalidFormula) (defScope sInitInvalidFormula) .none ikVInvalidFormula idcInvalidFormula ipmInvalidFormula ianInvalidFormula icdInvalidFormula ictInvalidFormula), islInvalidFormula⟩) (iDInvalidFormula : PySem.W.codeIn K icdInvalidFormula "InvalidFormula.__init__" = true) (iKInvalidFormula : PySem.W.keepIn K (.ref iInvalidFormula) = true)
    {nmInvalidRules qInvalidRules : Str} {NInvalidRules : Addr} {bsInvalidRules : List Value} {snInvalidRules : List Str} {subInvalidRules : List Value} {abInvalidRules : Bool} {colInvalidRules : Option Bool} {ddInvalidRules : Option Addr} {u0InvalidRules u1InvalidRules u2InvalidRules u3InvalidRules u5InvalidRules : Option Value}
    (xLInvalidRules : K.lookup cInvalidRules = some (excClassObj nmInvalidRules qInvalidRules cInvalidRules NInvalidRules bsInvalidRules [.type "ValueError", .type "Exception", .type "BaseException", .type "object"] true snInvalidRules subInvalidRules abInvalidRules colInvalidRules ddInvalidRules u0InvalidRules u1InvalidRules u2InvalidRules u3InvalidRules u5InvalidRules "ValueError.__new__"))
    (saInvalidRules : PySem.W.findIn K (.ref cInvalidRules) "__setattr__" = some (some (.builtin "object.__setattr__")))
    (gaInvalidRules : PySem.W.findIn K (.ref cInvalidRules) "__getattribute__" = some (some (.builtin "BaseException.__getattribute__")))
    (ggInvalidRules : PySem.W.findIn K (.ref cInvalidRules) "__getattr__" = some none)
    (nbInvalidRules : PySem.W.findIn K (.ref cInvalidRules) "value" = some none)
    (exInvalidRules : PySem.W.subIn K (.ref cInvalidRules) (.type "BaseException") = some true)
    (tyInvalidRules : PySem.W.typeIn K (.ref cInvalidRules) = some (.type "type"))
    (hdInvalidRules : PySem.W.hasDictIn K cInvalidRules = true)
    (kCInvalidRules : PySem.W.keepIn K (.ref cInvalidRules) = true)
    (sCInvalidRules : PySem.W.subIn K (.ref cInvalidRules) (.ref cInvalidRules) = some true)
    (caInvalidRules : PySem.W.findIn K (.ref cInvalidRules) "__class__" = some (some (.builtin "object.__class__")))
    (cnInvalidRules : PySem.W.specialIn K (.builtin "object.__class__") "__get__" = some (some (.builtin "getset_descriptor.__get__")))
    (ctInvalidRules : PySem.W.takesIn K (.builtin "object.__class__") = some true)
    (cmInvalidRules : PySem.W.mroIn K cInvalidRules (.type "object") = some true)
    {iInvalidRules : Addr} (iCInvalidRules : PySem.W.findIn K (.ref cInvalidRules) "__init__" = some (some (.ref iInvalidRules))) (tIInvalidRules : PySem.W.typeIn K (.ref iInvalidRules) = some (.type "function"))
    {iodInvalidRules ianInvalidRules : Option Addr} {islInvalidRules : Array (Option Value)} {iocInvalidRules ikVInvalidRules idcInvalidRules ipmInvalidRules icdInvalidRules ictInvalidRules : Value} (iLInvalidRules : K.lookup iInvalidRules = some ⟨iocInvalidRules, iodInvalidRules, .func (PySem.W.fnOf "__init__" "InvalidRules.__init__" (defArgs sInitInvalidRules) (defBody sInitInvalidRules) (defScope sInitInvalidRules) .none ikVInvalidRules idcInvalidRules ipmInvalidRules ianInvalidRules icdInvalidRules ictInvalidRules), islInvalidRules⟩) (iDInvalidRules : PySem.W.codeIn K icdInvalidRules "InvalidRules.__init__" = true) (iKInvalidRules : PySem.W.keepIn K (.ref iInvalidRules) = true)
    {nmInvalidName qInvalidName : Str} {NInvalidName : Addr} {bsInvalidName : List Value} {snInvalidName : List Str} {subInvalidName : List Value} {abInvalidName : Bool} {colInvalidName : Option Bool} {ddInvalidName : Option Addr} {u0InvalidName u1InvalidName u2InvalidName u3InvalidName u5InvalidName : Option Value}
    (xLInvalidName : K.lookup cInvalidName = some (excClassObj nmInvalidName qInvalidName cInvalidName NInvalidName bsInvalidName [.type "ValueError", .type "Exception", .type "BaseException", .type "object"] true snInvalidName subInvalidName abInvalidName colInvalidName ddInvalidName u0InvalidName u1InvalidName u2InvalidName u3InvalidName u5InvalidName "ValueError.__new__"))
    (saInvalidName : PySem.W.findIn K (.ref cInvalidName) "__setattr__" = some (some (.builtin "object.__setattr__")))
    (gaInvalidName : PySem.W.findIn K (.ref cInvalidName) "__getattribute__" = some (some (.builtin "BaseException.__getattribute__")))
    (ggInvalidName : PySem.W.findIn K (.ref cInvalidName) "__getattr__" = some none)
    (nbInvalidName : PySem.W.findIn K (.ref cInvalidName) "value" = some none)
    (exInvalidName : PySem.W.subIn K (.ref cInvalidName) (.type "BaseException") = some true)
    (tyInvalidName : PySem.W.typeIn K (.ref cInvalidName) = some (.type "type"))
    (hdInvalidName : PySem.W.hasDictIn K cInvalidName = true)
    (kCInvalidName : PySem.W.keepIn K (.ref cInvalidName) = true)
    (sCInvalidName : PySem.W.subIn K (.ref cInvalidName) (.ref cInvalidName) = some true)
    (caInvalidName : PySem.W.findIn K (.ref cInvalidName) "__class__" = some (some (.builtin "object.__class__")))
    (cnInvalidName : PySem.W.specialIn K (.builtin "object.__class__") "__get__" = some (some (.builtin "getset_descriptor.__get__")))
    (ctInvalidName : PySem.W.takesIn K (.builtin "object.__class__") = some true)
    (cmInvalidName : PySem.W.mroIn K cInvalidName (.type "object") = some true)
    {iInvalidName : Addr} (iCInvalidName : PySem.W.findIn K (.ref cInvalidName) "__init__" = some (some (.ref iInvalidName))) (tIInvalidName : PySem.W.typeIn K (.ref iInvalidName) = some (.type "function"))
    {iodInvalidName ianInvalidName : Option Addr} {islInvalidName : Array (Option Value)} {iocInvalidName ikVInvalidName idcInvalidName ipmInvalidName icdInvalidName ictInvalidName : Value} (iLInvalidName : K.lookup iInvalidName = some ⟨iocInvalidName, iodInvalidName, .func (PySem.W.fnOf "__init__" "InvalidName.__init__" (defArgs sInitInvalidName) (defBody sInitInvalidName) (defScope sInitInvalidName) .none ikVInvalidName idcInvalidName ipmInvalidName ianInvalidName icdInvalidName ictInvalidName), islInvalidName⟩) (iDInvalidName : PySem.W.codeIn K icdInvalidName "InvalidName.__init__" = true) (iKInvalidName : PySem.W.keepIn K (.ref iInvalidName) = true)
    {nmInvalidDeed qInvalidDeed : Str} {NInvalidDeed : Addr} {bsInvalidDeed : List Value} {snInvalidDeed : List Str} {subInvalidDeed : List Value} {abInvalidDeed : Bool} {colInvalidDeed : Option Bool} {ddInvalidDeed : Option Addr} {u0InvalidDeed u1InvalidDeed u2InvalidDeed u3InvalidDeed u5InvalidDeed : Option Value}
    (xLInvalidDeed : K.lookup cInvalidDeed = some (excClassObj nmInvalidDeed qInvalidDeed cInvalidDeed NInvalidDeed bsInvalidDeed [.type "ValueError", .type "Exception", .type "BaseException", .type "object"] true snInvalidDeed subInvalidDeed abInvalidDeed colInvalidDeed ddInvalidDeed u0InvalidDeed u1InvalidDeed u2InvalidDeed u3InvalidDeed u5InvalidDeed "ValueError.__new__"))
    (saInvalidDeed : PySem.W.findIn K (.ref cInvalidDeed) "__setattr__" = some (some (.builtin "object.__setattr__")))
    (gaInvalidDeed : PySem.W.findIn K (.ref cInvalidDeed) "__getattribute__" = some (some (.builtin "BaseException.__getattribute__")))
    (ggInvalidDeed : PySem.W.findIn K (.ref cInvalidDeed) "__getattr__" = some none)
    (nbInvalidDeed : PySem.W.findIn K (.ref cInvalidDeed) "index" = some none)
    (exInvalidDeed : PySem.W.subIn K (.ref cInvalidDeed) (.type "BaseException") = some true)
    (tyInvalidDeed : PySem.W.typeIn K (.ref cInvalidDeed) = some (.type "type"))
    (hdInvalidDeed : PySem.W.hasDictIn K cInvalidDeed = true)
    (kCInvalidDeed : PySem.W.keepIn K (.ref cInvalidDeed) = true)
    (sCInvalidDeed : PySem.W.subIn K (.ref cInvalidDeed) (.ref cInvalidDeed) = some true)
    (caInvalidDeed : PySem.W.findIn K (.ref cInvalidDeed) "__class__" = some (some (.builtin "object.__class__")))
    (cnInvalidDeed : PySem.W.specialIn K (.builtin "object.__class__") "__get__" = some (some (.builtin "getset_descriptor.__get__")))
    (ctInvalidDeed : PySem.W.takesIn K (.builtin "object.__class__") = some true)
    (cmInvalidDeed : PySem.W.mroIn K cInvalidDeed (.type "object") = some true)
    {iInvalidDeed : Addr} (iCInvalidDeed : PySem.W.findIn K (.ref cInvalidDeed) "__init__" = some (some (.ref iInvalidDeed))) (tIInvalidDeed : PySem.W.typeIn K (.ref iInvalidDeed) = some (.type "function"))
    {iodInvalidDeed ianInvalidDeed : Option Addr} {islInvalidDeed : Array (Option Value)} {iocInvalidDeed ikVInvalidDeed idcInvalidDeed ipmInvalidDeed icdInvalidDeed ictInvalidDeed : Value} (iLInvalidDeed : K.lookup iInvalidDeed = some ⟨iocInvalidDeed, iodInvalidDeed, .func (PySem.W.fnOf "__init__" "InvalidDeed.__init__" (defArgs sInitInvalidDeed) (defBody sInitInvalidDeed) (defScope sInitInvalidDeed) .none ikVInvalidDeed idcInvalidDeed ipmInvalidDeed ianInvalidDeed icdInvalidDeed ictInvalidDeed), islInvalidDeed⟩) (iDInvalidDeed : PySem.W.codeIn K icdInvalidDeed "InvalidDeed.__init__" = true) (iKInvalidDeed : PySem.W.keepIn K (.ref iInvalidDeed) = true)
    {nmInvalidCommand qInvalidCommand : Str} {NInvalidCommand : Addr} {bsInvalidCommand : List Value} {snInvalidCommand : List Str} {subInvalidCommand : List Value} {abInvalidCommand : Bool} {colInvalidCommand : Option Bool} {ddInvalidCommand : Option Addr} {u0InvalidCommand u1InvalidCommand u2InvalidCommand u3InvalidCommand u5InvalidCommand : Option Value}
    (xLInvalidCommand : K.lookup cInvalidCommand = some (excClassObj nmInvalidCommand qInvalidCommand cInvalidCommand NInvalidCommand bsInvalidCommand [.type "ValueError", .type "Exception", .type "BaseException", .type "object"] true snInvalidCommand subInvalidCommand abInvalidCommand colInvalidCommand ddInvalidCommand u0InvalidCommand u1InvalidCommand u2InvalidCommand u3InvalidCommand u5InvalidCommand "ValueError.__new__"))
    (saInvalidCommand : PySem.W.findIn K (.ref cInvalidCommand) "__setattr__" = some (some (.builtin "object.__setattr__")))
    (gaInvalidCommand : PySem.W.findIn K (.ref cInvalidCommand) "__getattribute__" = some (some (.builtin "BaseException.__getattribute__")))
    (ggInvalidCommand : PySem.W.findIn K (.ref cInvalidCommand) "__getattr__" = some none)
    (nbInvalidCommand : PySem.W.findIn K (.ref cInvalidCommand) "line" = some none)
    (exInvalidCommand : PySem.W.subIn K (.ref cInvalidCommand) (.type "BaseException") = some true)
    (tyInvalidCommand : PySem.W.typeIn K (.ref cInvalidCommand) = some (.type "type"))
    (hdInvalidCommand : PySem.W.hasDictIn K cInvalidCommand = true)
    (kCInvalidCommand : PySem.W.keepIn K (.ref cInvalidCommand) = true)
    (sCInvalidCommand : PySem.W.subIn K (.ref cInvalidCommand) (.ref cInvalidCommand) = some true)
    (caInvalidCommand : PySem.W.findIn K (.ref cInvalidCommand) "__class__" = some (some (.builtin "object.__class__")))
    (cnInvalidCommand : PySem.W.specialIn K (.builtin "object.__class__") "__get__" = some (some (.builtin "getset_descriptor.__get__")))
    (ctInvalidCommand : PySem.W.takesIn K (.builtin "object.__class__") = some true)
    (cmInvalidCommand : PySem.W.mroIn K cInvalidCommand (.type "object") = some true)
    {iInvalidCommand : Addr} (iCInvalidCommand : PySem.W.findIn K (.ref cInvalidCommand) "__init__" = some (some (.ref iInvalidCommand))) (tIInvalidCommand : PySem.W.typeIn K (.ref iInvalidCommand) = some (.type "function"))
    {iodInvalidCommand ianInvalidCommand : Option Addr} {islInvalidCommand : Array (Option Value)} {iocInvalidCommand ikVInvalidCommand idcInvalidCommand ipmInvalidCommand icdInvalidCommand ictInvalidCommand : Value} (iLInvalidCommand : K.lookup iInvalidCommand = some ⟨iocInvalidCommand, iodInvalidCommand, .func (PySem.W.fnOf "__init__" "InvalidCommand.__init__" (defArgs sInitInvalidCommand) (defBody sInitInvalidCommand) (defScope sInitInvalidCommand) .none ikVInvalidCommand idcInvalidCommand ipmInvalidCommand ianInvalidCommand icdInvalidCommand ictInvalidCommand), islInvalidCommand⟩) (iDInvalidCommand : PySem.W.codeIn K icdInvalidCommand "InvalidCommand.__init__" = true) (iKInvalidCommand : PySem.W.keepIn K (.ref iInvalidCommand) = true)
    {nmParseError qParseError : Str} {NParseError : Addr} {bsParseError : List Value} {snParseError : List Str} {subParseError : List Value} {abParseError : Bool} {colParseError : Option Bool} {ddParseError : Option Addr} {u0ParseError u1ParseError u2ParseError u3ParseError u5ParseError : Option Value}
    (xLParseError : K.lookup cParseError = some (excClassObj nmParseError qParseError cParseError NParseError bsParseError [.type "ValueError", .type "Exception", .type "BaseException", .type "object"] true snParseError subParseError abParseError colParseError ddParseError u0ParseError u1ParseError u2ParseError u3ParseError u5ParseError "ValueError.__new__"))
    (saParseError : PySem.W.findIn K (.ref cParseError) "__setattr__" = some (some (.builtin "object.__setattr__")))
    (gaParseError : PySem.W.findIn K (.ref cParseError) "__getattribute__" = some (some (.builtin "BaseException.__getattribute__")))
    (ggParseError : PySem.W.findIn K (.ref cParseError) "__getattr__" = some none)
    (nbParseError : PySem.W.findIn K (.ref cParseError) "offset" = some none)
    (exParseError : PySem.W.subIn K (.ref cParseError) (.type "BaseException") = some true)
    (tyParseError : PySem.W.typeIn K (.ref cParseError) = some (.type "type"))
    (hdParseError : PySem.W.hasDictIn K cParseError = true)
    (kCParseError : PySem.W.keepIn K (.ref cParseError) = true)
    (sCParseError : PySem.W.subIn K (.ref cParseError) (.ref cParseError) = some true)
    (caParseError : PySem.W.findIn K (.ref cParseError) "__class__" = some (some (.builtin "object.__class__")))
    (cnParseError : PySem.W.specialIn K (.builtin "object.__class__") "__get__" = some (some (.builtin "getset_descriptor.__get__")))
    (ctParseError : PySem.W.takesIn K (.builtin "object.__class__") = some true)
    (cmParseError : PySem.W.mroIn K cParseError (.type "object") = some true)
    {iParseError : Addr} (iCParseError : PySem.W.findIn K (.ref cParseError) "__init__" = some (some (.ref iParseError))) (tIParseError : PySem.W.typeIn K (.ref iParseError) = some (.type "function"))
    {iodParseError ianParseError : Option Addr} {islParseError : Array (Option Value)} {iocParseError ikVParseError idcParseError ipmParseError icdParseError ictParseError : Value} (iLParseError : K.lookup iParseError = some ⟨iocParseError, iodParseError, .func (PySem.W.fnOf "__init__" "ParseError.__init__" (defArgs sInitParseError) (defBody sInitParseError) (defScope sInitParseError) .none ikVParseError idcParseError ipmParseError ianParseError icdParseError ictParseError), islParseError⟩) (iDParseError : PySem.W.codeIn K icdParseError "ParseError.__init__" = true) (iKParseError : PySem.W.keepIn K (.ref iParseError) = true)
    {nmNotFree qNotFree : Str} {NNotFree : Addr} {bsNotFree : List Value} {snNotFree : List Str} {subNotFree : List Value} {abNotFree : Bool} {colNotFree : Option Bool} {ddNotFree : Option Addr} {u0NotFree u1NotFree u2NotFree u3NotFree u5NotFree : Option Value}
    (xLNotFree : K.lookup cNotFree = some (excClassObj nmNotFree qNotFree cNotFree NNotFree bsNotFree [.type "ValueError", .type "Exception", .type "BaseException", .type "object"] true snNotFree subNotFree abNotFree colNotFree ddNotFree u0NotFree u1NotFree u2NotFree u3NotFree u5NotFree "ValueError.__new__"))
    (saNotFree : PySem.W.findIn K (.ref cNotFree) "__setattr__" = some (some (.builtin "object.__setattr__")))
    (gaNotFree : PySem.W.findIn K (.ref cNotFree) "__getattribute__" = some (some (.builtin "BaseException.__getattribute__")))
    (ggNotFree : PySem.W.findIn K (.ref cNotFree) "__getattr__" = some none)
    (nbNotFree : PySem.W.findIn K (.ref cNotFree) "variables" = some none)
    (exNotFree : PySem.W.subIn K (.ref cNotFree) (.type "BaseException") = some true)
    (tyNotFree : PySem.W.typeIn K (.ref cNotFree) = some (.type "type"))
    (hdNotFree : PySem.W.hasDictIn K cNotFree = true)
    (kCNotFree : PySem.W.keepIn K (.ref cNotFree) = true)
    (sCNotFree : PySem.W.subIn K (.ref cNotFree) (.ref cNotFree) = some true)
    (caNotFree : PySem.W.findIn K (.ref cNotFree) "__class__" = some (some (.builtin "object.__class__")))
    (cnNotFree : PySem.W.specialIn K (.builtin "object.__class__") "__get__" = some (some (.builtin "getset_descriptor.__get__")))
    (ctNotFree : PySem.W.takesIn K (.builtin "object.__class__") = some true)
    (cmNotFree : PySem.W.mroIn K cNotFree (.type "object") = some true)
    {iNotFree : Addr} (iCNotFree : PySem.W.findIn K (.ref cNotFree) "__init__" = some (some (.ref iNotFree))) (tINotFree : PySem.W.typeIn K (.ref iNotFree) = some (.type "function"))
    {iodNotFree ianNotFree : Option Addr} {islNotFree : Array (Option Value)} {iocNotFree ikVNotFree idcNotFree ipmNotFree icdNotFree ictNotFree : Value} (iLNotFree : K.lookup iNotFree = some ⟨iocNotFree, iodNotFree, .func (PySem.W.fnOf "__init__" "NotFree.__init__" (defArgs sInitNotFree) (defBody sInitNotFree) (defScope sInitNotFree) .none ikVNotFree idcNotFree ipmNotFree ianNotFree icdNotFree ictNotFree), islNotFree⟩) (iDNotFree : PySem.W.codeIn K icdNotFree "NotFree.__init__" = true) (iKNotFree : PySem.W.keepIn K (.ref iNotFree) = true)
    {nmAvoidable qAvoidable : Str} {NAvoidable : Addr} {bsAvoidable : List Value} {snAvoidable : List Str} {subAvoidable : List Value} {abAvoidable : Bool} {colAvoidable : Option Bool} {ddAvoidable : Option Addr} {u0Avoidable u1Avoidable u2Avoidable u3Avoidable u5Avoidable : Option Value}
    (xLAvoidable : K.lookup cAvoidable = some (excClassObj nmAvoidable qAvoidable cAvoidable NAvoidable bsAvoidable [.type "ValueError", .type "Exception", .type "BaseException", .type "object"] true snAvoidable subAvoidable abAvoidable colAvoidable ddAvoidable u0Avoidable u1Avoidable u2Avoidable u3Avoidable u5Avoidable "ValueError.__new__"))
    (saAvoidable : PySem.W.findIn K (.ref cAvoidable) "__setattr__" = some (some (.builtin "object.__setattr__")))
    (gaAvoidable : PySem.W.findIn K (.ref cAvoidable) "__getattribute__" = some (some (.builtin "BaseException.__getattribute__")))
    (ggAvoidable : PySem.W.findIn K (.ref cAvoidable) "__getattr__" = some none)
    (nbAvoidable : PySem.W.findIn K (.ref cAvoidable) "pattern" = some none)
    (exAvoidable : PySem.W.subIn K (.ref cAvoidable) (.type "BaseException") = some true)
    (tyAvoidable : PySem.W.typeIn K (.ref cAvoidable) = some (.type "type"))
    (hdAvoidable : PySem.W.hasDictIn K cAvoidable = true)
    (kCAvoidable : PySem.W.keepIn K (.ref cAvoidable) = true)
    (sCAvoidable : PySem.W.subIn K (.ref cAvoidable) (.ref cAvoidable) = some true)
    (caAvoidable : PySem.W.findIn K (.ref cAvoidable) "__class__" = some (some (.builtin "object.__class__")))
    (cnAvoidable : PySem.W.specialIn K (.builtin "object.__class__") "__get__" = some (some (.builtin "getset_descriptor.__get__")))
    (ctAvoidable : PySem.W.takesIn K (.builtin "object.__class__") = some true)
    (cmAvoidable : PySem.W.mroIn K cAvoidable (.type "object") = some true)
    {iAvoidable : Addr} (iCAvoidable : PySem.W.findIn K (.ref cAvoidable) "__init__" = some (some (.ref iAvoidable))) (tIAvoidable : PySem.W.typeIn K (.ref iAvoidable) = some (.type "function"))
    {iodAvoidable ianAvoidable : Option Addr} {islAvoidable : Array (Option Value)} {iocAvoidable ikVAvoidable idcAvoidable ipmAvoidable icdAvoidable ictAvoidable : Value} (iLAvoidable : K.lookup iAvoidable = some ⟨iocAvoidable, iodAvoidable, .func (PySem.W.fnOf "__init__" "Avoidable.__init__" (defArgs sInitAvoidable) (defBody sInitAvoidable) (defScope sInitAvoidable) .none ikVAvoidable idcAvoidable ipmAvoidable ianAvoidable icdAvoidable ictAvoidable), islAvoidable⟩) (iDAvoidable : PySem.W.codeIn K icdAvoidable "Avoidable.__init__" = true) (iKAvoidable : PySem.W.keepIn K (.ref iAvoidable) = true)
    {nmRankTooSmall qRankTooSmall : Str} {NRankTooSmall : Addr} {bsRankTooSmall : List Value} {snRankTooSmall : List Str} {subRankTooSmall : List Value} {abRankTooSmall : Bool} {colRankTooSmall : Option Bool} {ddRankTooSmall : Option Addr} {u0RankTooSmall u1RankTooSmall u2RankTooSmall u3RankTooSmall u5RankTooSmall : Option Value}
    (xLRankTooSmall : K.lookup cRankTooSmall = some (excClassObj nmRankTooSmall qRankTooSmall cRankTooSmall NRankTooSmall bsRankTooSmall [.type "LookupError", .type "Exception", .type "BaseException", .type "object"] true snRankTooSmall subRankTooSmall abRankTooSmall colRankTooSmall ddRankTooSmall u0RankTooSmall u1RankTooSmall u2RankTooSmall u3RankTooSmall u5RankTooSmall "LookupError.__new__"))
    (saRankTooSmall : PySem.W.findIn K (.ref cRankTooSmall) "__setattr__" = some (some (.builtin "object.__setattr__")))
    (gaRankTooSmall : PySem.W.findIn K (.ref cRankTooSmall) "__getattribute__" = some (some (.builtin "BaseException.__getattribute__")))
    (ggRankTooSmall : PySem.W.findIn K (.ref cRankTooSmall) "__getattr__" = some none)
    (nbRankTooSmall : PySem.W.findIn K (.ref cRankTooSmall) "rank" = some none)
    (exRankTooSmall : PySem.W.subIn K (.ref cRankTooSmall) (.type "BaseException") = some true)
    (tyRankTooSmall : PySem.W.typeIn K (.ref cRankTooSmall) = some (.type "type"))
    (hdRankTooSmall : PySem.W.hasDictIn K cRankTooSmall = true)
    (kCRankTooSmall : PySem.W.keepIn K (.ref cRankTooSmall) = true)
    (sCRankTooSmall : PySem.W.subIn K (.ref cRankTooSmall) (.ref cRankTooSmall) = some true)
    (caRankTooSmall : PySem.W.findIn K (.ref cRankTooSmall) "__class__" = some (some (.builtin "object.__class__")))
    (cnRankTooSmall : PySem.W.specialIn K (.builtin "object.__class__") "__get__" = some (some (.builtin "getset_descriptor.__get__")))
    (ctRankTooSmall : PySem.W.takesIn K (.builtin "object.__class__") = some true)
    (cmRankTooSmall : PySem.W.mroIn K cRankTooSmall (.type "object") = some true)
    {iRankTooSmall : Addr} (iCRankTooSmall : PySem.W.findIn K (.ref cRankTooSmall) "__init__" = some (some (.ref iRankTooSmall))) (tIRankTooSmall : PySem.W.typeIn K (.ref iRankTooSmall) = some (.type "function"))
    {iodRankTooSmall ianRankTooSmall : Option Addr} {islRankTooSmall : Array (Option Value)} {iocRankTooSmall ikVRankTooSmall idcRankTooSmall ipmRankTooSmall icdRankTooSmall ictRankTooSmall : Value} (iLRankTooSmall : K.lookup iRankTooSmall = some ⟨iocRankTooSmall, iodRankTooSmall, .func (PySem.W.fnOf "__init__" "RankTooSmall.__init__" (defArgs sInitRankTooSmall) (defBody sInitRankTooSmall) (defScope sInitRankTooSmall) .none ikVRankTooSmall idcRankTooSmall ipmRankTooSmall ianRankTooSmall icdRankTooSmall ictRankTooSmall), islRankTooSmall⟩) (iDRankTooSmall : PySem.W.codeIn K icdRankTooSmall "RankTooSmall.__init__" = true) (iKRankTooSmall : PySem.W.keepIn K (.ref iRankTooSmall) = true)
    {nmNoBlock qNoBlock : Str} {NNoBlock : Addr} {bsNoBlock : List Value} {snNoBlock : List Str} {subNoBlock : List Value} {abNoBlock : Bool} {colNoBlock : Option Bool} {ddNoBlock : Option Addr} {u0NoBlock u1NoBlock u2NoBlock u3NoBlock u5NoBlock : Option Value}
    (xLNoBlock : K.lookup cNoBlock = some (excClassObj nmNoBlock qNoBlock cNoBlock NNoBlock bsNoBlock [.type "LookupError", .type "Exception", .type "BaseException", .type "object"] true snNoBlock subNoBlock abNoBlock colNoBlock ddNoBlock u0NoBlock u1NoBlock u2NoBlock u3NoBlock u5NoBlock "LookupError.__new__"))
    (saNoBlock : PySem.W.findIn K (.ref cNoBlock) "__setattr__" = some (some (.builtin "object.__setattr__")))
    (gaNoBlock : PySem.W.findIn K (.ref cNoBlock) "__getattribute__" = some (some (.builtin "BaseException.__getattribute__")))
    (ggNoBlock : PySem.W.findIn K (.ref cNoBlock) "__getattr__" = some none)
    (nbNoBlock : PySem.W.findIn K (.ref cNoBlock) "first" = some none)
    (exNoBlock : PySem.W.subIn K (.ref cNoBlock) (.type "BaseException") = some true)
    (tyNoBlock : PySem.W.typeIn K (.ref cNoBlock) = some (.type "type"))
    (hdNoBlock : PySem.W.hasDictIn K cNoBlock = true)
    (kCNoBlock : PySem.W.keepIn K (.ref cNoBlock) = true)
    (sCNoBlock : PySem.W.subIn K (.ref cNoBlock) (.ref cNoBlock) = some true)
    (caNoBlock : PySem.W.findIn K (.ref cNoBlock) "__class__" = some (some (.builtin "object.__class__")))
    (cnNoBlock : PySem.W.specialIn K (.builtin "object.__class__") "__get__" = some (some (.builtin "getset_descriptor.__get__")))
    (ctNoBlock : PySem.W.takesIn K (.builtin "object.__class__") = some true)
    (cmNoBlock : PySem.W.mroIn K cNoBlock (.type "object") = some true)
    {iNoBlock : Addr} (iCNoBlock : PySem.W.findIn K (.ref cNoBlock) "__init__" = some (some (.ref iNoBlock))) (tINoBlock : PySem.W.typeIn K (.ref iNoBlock) = some (.type "function"))
    {iodNoBlock ianNoBlock : Option Addr} {islNoBlock : Array (Option Value)} {iocNoBlock ikVNoBlock idcNoBlock ipmNoBlock icdNoBlock ictNoBlock : Value} (iLNoBlock : K.lookup iNoBlock = some ⟨iocNoBlock, iodNoBlock, .func (PySem.W.fnOf "__init__" "NoBlock.__init__" (defArgs sInitNoBlock) (defBody sInitNoBlock) (defScope sInitNoBlock) .none ikVNoBlock idcNoBlock ipmNoBlock ianNoBlock icdNoBlock ictNoBlock), islNoBlock⟩) (iDNoBlock : PySem.W.codeIn K icdNoBlock "NoBlock.__init__" = true) (iKNoBlock : PySem.W.keepIn K (.ref iNoBlock) = true)
    (nb2NoBlock : PySem.W.findIn K (.ref cNoBlock) "second" = some none)
    {nmUnknownName qUnknownName : Str} {NUnknownName : Addr} {bsUnknownName : List Value} {snUnknownName : List Str} {subUnknownName : List Value} {abUnknownName : Bool} {colUnknownName : Option Bool} {ddUnknownName : Option Addr} {u0UnknownName u1UnknownName u2UnknownName u3UnknownName u5UnknownName : Option Value}
    (xLUnknownName : K.lookup cUnknownName = some (excClassObj nmUnknownName qUnknownName cUnknownName NUnknownName bsUnknownName [.type "KeyError", .type "LookupError", .type "Exception", .type "BaseException", .type "object"] true snUnknownName subUnknownName abUnknownName colUnknownName ddUnknownName u0UnknownName u1UnknownName u2UnknownName u3UnknownName u5UnknownName "LookupError.__new__"))
    (saUnknownName : PySem.W.findIn K (.ref cUnknownName) "__setattr__" = some (some (.builtin "object.__setattr__")))
    (gaUnknownName : PySem.W.findIn K (.ref cUnknownName) "__getattribute__" = some (some (.builtin "BaseException.__getattribute__")))
    (ggUnknownName : PySem.W.findIn K (.ref cUnknownName) "__getattr__" = some none)
    (nbUnknownName : PySem.W.findIn K (.ref cUnknownName) "name" = some none)
    (exUnknownName : PySem.W.subIn K (.ref cUnknownName) (.type "BaseException") = some true)
    (tyUnknownName : PySem.W.typeIn K (.ref cUnknownName) = some (.type "type"))
    (hdUnknownName : PySem.W.hasDictIn K cUnknownName = true)
    (kCUnknownName : PySem.W.keepIn K (.ref cUnknownName) = true)
    (sCUnknownName : PySem.W.subIn K (.ref cUnknownName) (.ref cUnknownName) = some true)
    (caUnknownName : PySem.W.findIn K (.ref cUnknownName) "__class__" = some (some (.builtin "object.__class__")))
    (cnUnknownName : PySem.W.specialIn K (.builtin "object.__class__") "__get__" = some (some (.builtin "getset_descriptor.__get__")))
    (ctUnknownName : PySem.W.takesIn K (.builtin "object.__class__") = some true)
    (cmUnknownName : PySem.W.mroIn K cUnknownName (.type "object") = some true)
    {iUnknownName : Addr} (iCUnknownName : PySem.W.findIn K (.ref cUnknownName) "__init__" = some (some (.ref iUnknownName))) (tIUnknownName : PySem.W.typeIn K (.ref iUnknownName) = some (.type "function"))
    {iodUnknownName ianUnknownName : Option Addr} {islUnknownName : Array (Option Value)} {iocUnknownName ikVUnknownName idcUnknownName ipmUnknownName icdUnknownName ictUnknownName : Value} (iLUnknownName : K.lookup iUnknownName = some ⟨iocUnknownName, iodUnknownName, .func (PySem.W.fnOf "__init__" "UnknownName.__init__" (defArgs sInitUnknownName) (defBody sInitUnknownName) (defScope sInitUnknownName) .none ikVUnknownName idcUnknownName ipmUnknownName ianUnknownName icdUnknownName ictUnknownName), islUnknownName⟩) (iDUnknownName : PySem.W.codeIn K icdUnknownName "UnknownName.__init__" = true) (iKUnknownName : PySem.W.keepIn K (.ref iUnknownName) = true)
    {nmDuplicateName qDuplicateName : Str} {NDuplicateName : Addr} {bsDuplicateName : List Value} {snDuplicateName : List Str} {subDuplicateName : List Value} {abDuplicateName : Bool} {colDuplicateName : Option Bool} {ddDuplicateName : Option Addr} {u0DuplicateName u1DuplicateName u2DuplicateName u3DuplicateName u5DuplicateName : Option Value}
    (xLDuplicateName : K.lookup cDuplicateName = some (excClassObj nmDuplicateName qDuplicateName cDuplicateName NDuplicateName bsDuplicateName [.type "KeyError", .type "LookupError", .type "Exception", .type "BaseException", .type "object"] true snDuplicateName subDuplicateName abDuplicateName colDuplicateName ddDuplicateName u0DuplicateName u1DuplicateName u2DuplicateName u3DuplicateName u5DuplicateName "LookupError.__new__"))
    (saDuplicateName : PySem.W.findIn K (.ref cDuplicateName) "__setattr__" = some (some (.builtin "object.__setattr__")))
    (gaDuplicateName : PySem.W.findIn K (.ref cDuplicateName) "__getattribute__" = some (some (.builtin "BaseException.__getattribute__")))
    (ggDuplicateName : PySem.W.findIn K (.ref cDuplicateName) "__getattr__" = some none)
    (nbDuplicateName : PySem.W.findIn K (.ref cDuplicateName) "name" = some none)
    (exDuplicateName : PySem.W.subIn K (.ref cDuplicateName) (.type "BaseException") = some true)
    (tyDuplicateName : PySem.W.typeIn K (.ref cDuplicateName) = some (.type "type"))
    (hdDuplicateName : PySem.W.hasDictIn K cDuplicateName = true)
    (kCDuplicateName : PySem.W.keepIn K (.ref cDuplicateName) = true)
    (sCDuplicateName : PySem.W.subIn K (.ref cDuplicateName) (.ref cDuplicateName) = some true)
    (caDuplicateName : PySem.W.findIn K (.ref cDuplicateName) "__class__" = some (some (.builtin "object.__class__")))
    (cnDuplicateName : PySem.W.specialIn K (.builtin "object.__class__") "__get__" = some (some (.builtin "getset_descriptor.__get__")))
    (ctDuplicateName : PySem.W.takesIn K (.builtin "object.__class__") = some true)
    (cmDuplicateName : PySem.W.mroIn K cDuplicateName (.type "object") = some true)
    {iDuplicateName : Addr} (iCDuplicateName : PySem.W.findIn K (.ref cDuplicateName) "__init__" = some (some (.ref iDuplicateName))) (tIDuplicateName : PySem.W.typeIn K (.ref iDuplicateName) = some (.type "function"))
    {iodDuplicateName ianDuplicateName : Option Addr} {islDuplicateName : Array (Option Value)} {iocDuplicateName ikVDuplicateName idcDuplicateName ipmDuplicateName icdDuplicateName ictDuplicateName : Value} (iLDuplicateName : K.lookup iDuplicateName = some ⟨iocDuplicateName, iodDuplicateName, .func (PySem.W.fnOf "__init__" "DuplicateName.__init__" (defArgs sInitDuplicateName) (defBody sInitDuplicateName) (defScope sInitDuplicateName) .none ikVDuplicateName idcDuplicateName ipmDuplicateName ianDuplicateName icdDuplicateName ictDuplicateName), islDuplicateName⟩) (iDDuplicateName : PySem.W.codeIn K icdDuplicateName "DuplicateName.__init__" = true) (iKDuplicateName : PySem.W.keepIn K (.ref iDuplicateName) = true)
    {nmNoMoment qNoMoment : Str} {NNoMoment : Addr} {bsNoMoment : List Value} {snNoMoment : List Str} {subNoMoment : List Value} {abNoMoment : Bool} {colNoMoment : Option Bool} {ddNoMoment : Option Addr} {u0NoMoment u1NoMoment u2NoMoment u3NoMoment u5NoMoment : Option Value}
    (xLNoMoment : K.lookup cNoMoment = some (excClassObj nmNoMoment qNoMoment cNoMoment NNoMoment bsNoMoment [.type "IndexError", .type "LookupError", .type "Exception", .type "BaseException", .type "object"] true snNoMoment subNoMoment abNoMoment colNoMoment ddNoMoment u0NoMoment u1NoMoment u2NoMoment u3NoMoment u5NoMoment "IndexError.__new__"))
    (saNoMoment : PySem.W.findIn K (.ref cNoMoment) "__setattr__" = some (some (.builtin "object.__setattr__")))
    (gaNoMoment : PySem.W.findIn K (.ref cNoMoment) "__getattribute__" = some (some (.builtin "BaseException.__getattribute__")))
    (ggNoMoment : PySem.W.findIn K (.ref cNoMoment) "__getattr__" = some none)
    (nbNoMoment : PySem.W.findIn K (.ref cNoMoment) "asked" = some none)
    (exNoMoment : PySem.W.subIn K (.ref cNoMoment) (.type "BaseException") = some true)
    (tyNoMoment : PySem.W.typeIn K (.ref cNoMoment) = some (.type "type"))
    (hdNoMoment : PySem.W.hasDictIn K cNoMoment = true)
    (kCNoMoment : PySem.W.keepIn K (.ref cNoMoment) = true)
    (sCNoMoment : PySem.W.subIn K (.ref cNoMoment) (.ref cNoMoment) = some true)
    (caNoMoment : PySem.W.findIn K (.ref cNoMoment) "__class__" = some (some (.builtin "object.__class__")))
    (cnNoMoment : PySem.W.specialIn K (.builtin "object.__class__") "__get__" = some (some (.builtin "getset_descriptor.__get__")))
    (ctNoMoment : PySem.W.takesIn K (.builtin "object.__class__") = some true)
    (cmNoMoment : PySem.W.mroIn K cNoMoment (.type "object") = some true)
    {iNoMoment : Addr} (iCNoMoment : PySem.W.findIn K (.ref cNoMoment) "__init__" = some (some (.ref iNoMoment))) (tINoMoment : PySem.W.typeIn K (.ref iNoMoment) = some (.type "function"))
    {iodNoMoment ianNoMoment : Option Addr} {islNoMoment : Array (Option Value)} {iocNoMoment ikVNoMoment idcNoMoment ipmNoMoment icdNoMoment ictNoMoment : Value} (iLNoMoment : K.lookup iNoMoment = some ⟨iocNoMoment, iodNoMoment, .func (PySem.W.fnOf "__init__" "NoMoment.__init__" (defArgs sInitNoMoment) (defBody sInitNoMoment) (defScope sInitNoMoment) .none ikVNoMoment idcNoMoment ipmNoMoment ianNoMoment icdNoMoment ictNoMoment), islNoMoment⟩) (iDNoMoment : PySem.W.codeIn K icdNoMoment "NoMoment.__init__" = true) (iKNoMoment : PySem.W.keepIn K (.ref iNoMoment) = true)
    {nmTooLarge qTooLarge : Str} {NTooLarge : Addr} {bsTooLarge : List Value} {snTooLarge : List Str} {subTooLarge : List Value} {abTooLarge : Bool} {colTooLarge : Option Bool} {ddTooLarge : Option Addr} {u0TooLarge u1TooLarge u2TooLarge u3TooLarge u5TooLarge : Option Value}
    (xLTooLarge : K.lookup cTooLarge = some (excClassObj nmTooLarge qTooLarge cTooLarge NTooLarge bsTooLarge [.type "OverflowError", .type "ArithmeticError", .type "Exception", .type "BaseException", .type "object"] true snTooLarge subTooLarge abTooLarge colTooLarge ddTooLarge u0TooLarge u1TooLarge u2TooLarge u3TooLarge u5TooLarge "OverflowError.__new__"))
    (saTooLarge : PySem.W.findIn K (.ref cTooLarge) "__setattr__" = some (some (.builtin "object.__setattr__")))
    (gaTooLarge : PySem.W.findIn K (.ref cTooLarge) "__getattribute__" = some (some (.builtin "BaseException.__getattribute__")))
    (ggTooLarge : PySem.W.findIn K (.ref cTooLarge) "__getattr__" = some none)
    (nbTooLarge : PySem.W.findIn K (.ref cTooLarge) "limit" = some none)
    (exTooLarge : PySem.W.subIn K (.ref cTooLarge) (.type "BaseException") = some true)
    (tyTooLarge : PySem.W.typeIn K (.ref cTooLarge) = some (.type "type"))
    (hdTooLarge : PySem.W.hasDictIn K cTooLarge = true)
    (kCTooLarge : PySem.W.keepIn K (.ref cTooLarge) = true)
    (sCTooLarge : PySem.W.subIn K (.ref cTooLarge) (.ref cTooLarge) = some true)
    (caTooLarge : PySem.W.findIn K (.ref cTooLarge) "__class__" = some (some (.builtin "object.__class__")))
    (cnTooLarge : PySem.W.specialIn K (.builtin "object.__class__") "__get__" = some (some (.builtin "getset_descriptor.__get__")))
    (ctTooLarge : PySem.W.takesIn K (.builtin "object.__class__") = some true)
    (cmTooLarge : PySem.W.mroIn K cTooLarge (.type "object") = some true)
    {iTooLarge : Addr} (iCTooLarge : PySem.W.findIn K (.ref cTooLarge) "__init__" = some (some (.ref iTooLarge))) (tITooLarge : PySem.W.typeIn K (.ref iTooLarge) = some (.type "function"))
    {iodTooLarge ianTooLarge : Option Addr} {islTooLarge : Array (Option Value)} {iocTooLarge ikVTooLarge idcTooLarge ipmTooLarge icdTooLarge ictTooLarge : Value} (iLTooLarge : K.lookup iTooLarge = some ⟨iocTooLarge, iodTooLarge, .func (PySem.W.fnOf "__init__" "TooLarge.__init__" (defArgs sInitTooLarge) (defBody sInitTooLarge) (defScope sInitTooLarge) .none ikVTooLarge idcTooLarge ipmTooLarge ianTooLarge icdTooLarge ictTooLarge), islTooLarge⟩) (iDTooLarge : PySem.W.codeIn K icdTooLarge "TooLarge.__init__" = true) (iKTooLarge : PySem.W.keepIn K (.ref iTooLarge) = true)
    {nmNothingToUndo qNothingToUndo : Str} {NNothingToUndo : Addr} {bsNothingToUndo : List Value} {snNothingToUndo : List Str} {subNothingToUndo : List Value} {abNothingToUndo : Bool} {colNothingToUndo : Option Bool} {ddNothingToUndo : Option Addr} {u0NothingToUndo u1NothingToUndo u2NothingToUndo u3NothingToUndo u5NothingToUndo : Option Value}
    (xLNothingToUndo : K.lookup cNothingToUndo = some (excClassObj nmNothingToUndo qNothingToUndo cNothingToUndo NNothingToUndo bsNothingToUndo [.type "RuntimeError", .type "Exception", .type "BaseException", .type "object"] true snNothingToUndo subNothingToUndo abNothingToUndo colNothingToUndo ddNothingToUndo u0NothingToUndo u1NothingToUndo u2NothingToUndo u3NothingToUndo u5NothingToUndo "RuntimeError.__new__"))
    (saNothingToUndo : PySem.W.findIn K (.ref cNothingToUndo) "__setattr__" = some (some (.builtin "object.__setattr__")))
    (gaNothingToUndo : PySem.W.findIn K (.ref cNothingToUndo) "__getattribute__" = some (some (.builtin "BaseException.__getattribute__")))
    (ggNothingToUndo : PySem.W.findIn K (.ref cNothingToUndo) "__getattr__" = some none)
    (nbNothingToUndo : PySem.W.findIn K (.ref cNothingToUndo) "value" = some none)
    (exNothingToUndo : PySem.W.subIn K (.ref cNothingToUndo) (.type "BaseException") = some true)
    (tyNothingToUndo : PySem.W.typeIn K (.ref cNothingToUndo) = some (.type "type"))
    (hdNothingToUndo : PySem.W.hasDictIn K cNothingToUndo = true)
    (kCNothingToUndo : PySem.W.keepIn K (.ref cNothingToUndo) = true)
    (sCNothingToUndo : PySem.W.subIn K (.ref cNothingToUndo) (.ref cNothingToUndo) = some true)
    (caNothingToUndo : PySem.W.findIn K (.ref cNothingToUndo) "__class__" = some (some (.builtin "object.__class__")))
    (cnNothingToUndo : PySem.W.specialIn K (.builtin "object.__class__") "__get__" = some (some (.builtin "getset_descriptor.__get__")))
    (ctNothingToUndo : PySem.W.takesIn K (.builtin "object.__class__") = some true)
    (cmNothingToUndo : PySem.W.mroIn K cNothingToUndo (.type "object") = some true)
    {iNothingToUndo : Addr} (iCNothingToUndo : PySem.W.findIn K (.ref cNothingToUndo) "__init__" = some (some (.ref iNothingToUndo))) (tINothingToUndo : PySem.W.typeIn K (.ref iNothingToUndo) = some (.type "function"))
    {iodNothingToUndo ianNothingToUndo : Option Addr} {islNothingToUndo : Array (Option Value)} {iocNothingToUndo ikVNothingToUndo idcNothingToUndo ipmNothingToUndo icdNothingToUndo ictNothingToUndo : Value} (iLNothingToUndo : K.lookup iNothingToUndo = some ⟨iocNothingToUndo, iodNothingToUndo, .func (PySem.W.fnOf "__init__" "NothingToUndo.__init__" (defArgs sInitNothingToUndo) (defBody sInitNothingToUndo) (defScope sInitNothingToUndo) .none ikVNothingToUndo idcNothingToUndo ipmNothingToUndo ianNothingToUndo icdNothingToUndo ictNothingToUndo), islNothingToUndo⟩) (iDNothingToUndo : PySem.W.codeIn K icdNothingToUndo "NothingToUndo.__init__" = true) (iKNothingToUndo : PySem.W.keepIn K (.ref iNothingToUndo) = true)
    {nmNothingToRedo qNothingToRedo : Str} {NNothingToRedo : Addr} {bsNothingToRedo : List Value} {snNothingToRedo : List Str} {subNothingToRedo : List Value} {abNothingToRedo : Bool} {colNothingToRedo : Option Bool} {ddNothingToRedo : Option Addr} {u0NothingToRedo u1NothingToRedo u2NothingToRedo u3NothingToRedo u5NothingToRedo : Option Value}
    (xLNothingToRedo : K.lookup cNothingToRedo = some (excClassObj nmNothingToRedo qNothingToRedo cNothingToRedo NNothingToRedo bsNothingToRedo [.type "RuntimeError", .type "Exception", .type "BaseException", .type "object"] true snNothingToRedo subNothingToRedo abNothingToRedo colNothingToRedo ddNothingToRedo u0NothingToRedo u1NothingToRedo u2NothingToRedo u3NothingToRedo u5NothingToRedo "RuntimeError.__new__"))
    (saNothingToRedo : PySem.W.findIn K (.ref cNothingToRedo) "__setattr__" = some (some (.builtin "object.__setattr__")))
    (gaNothingToRedo : PySem.W.findIn K (.ref cNothingToRedo) "__getattribute__" = some (some (.builtin "BaseException.__getattribute__")))
    (ggNothingToRedo : PySem.W.findIn K (.ref cNothingToRedo) "__getattr__" = some none)
    (nbNothingToRedo : PySem.W.findIn K (.ref cNothingToRedo) "value" = some none)
    (exNothingToRedo : PySem.W.subIn K (.ref cNothingToRedo) (.type "BaseException") = some true)
    (tyNothingToRedo : PySem.W.typeIn K (.ref cNothingToRedo) = some (.type "type"))
    (hdNothingToRedo : PySem.W.hasDictIn K cNothingToRedo = true)
    (kCNothingToRedo : PySem.W.keepIn K (.ref cNothingToRedo) = true)
    (sCNothingToRedo : PySem.W.subIn K (.ref cNothingToRedo) (.ref cNothingToRedo) = some true)
    (caNothingToRedo : PySem.W.findIn K (.ref cNothingToRedo) "__class__" = some (some (.builtin "object.__class__")))
    (cnNothingToRedo : PySem.W.specialIn K (.builtin "object.__class__") "__get__" = some (some (.builtin "getset_descriptor.__get__")))
    (ctNothingToRedo : PySem.W.takesIn K (.builtin "object.__class__") = some true)
    (cmNothingToRedo : PySem.W.mroIn K cNothingToRedo (.type "object") = some true)
    {iNothingToRedo : Addr} (iCNothingToRedo : PySem.W.findIn K (.ref cNothingToRedo) "__init__" = some (some (.ref iNothingToRedo))) (tINothingToRedo : PySem.W.typeIn K (.ref iNothingToRedo) = some (.type "function"))
    {iodNothingToRedo ianNothingToRedo : Option Addr} {islNothingToRedo : Array (Option Value)} {iocNothingToRedo ikVNothingToRedo idcNothingToRedo ipmNothingToRedo icdNothingToRedo ictNothingToRedo : Value} (iLNothingToRedo : K.lookup iNothingToRedo = some ⟨iocNothingToRedo, iodNothingToRedo, .func (PySem.W.fnOf "__init__" "NothingToRedo.__init__" (defArgs sInitNothingToRedo) (defBody sInitNothingToRedo) (defScope sInitNothingToRedo) .none ikVNothingToRedo idcNothingToRedo ipmNothingToRedo ianNothingToRedo icdNothingToRedo ictNothingToRedo), islNothingToRedo⟩) (iDNothingToRedo : PySem.W.codeIn K icdNothingToRedo "NothingToRedo.__init__" = true) (iKNothingToRedo : PySem.W.keepIn K (.ref iNothingToRedo) = true)
    (kn : [cInvalidPattern, cInvalidText, cInvalidVariables, cInvalidValues, cInvalidCount, cInvalidChain, cInvalidPlace, cInvalidFormula, cInvalidRules, cInvalidName, cInvalidDeed, cInvalidCommand, cParseError, cNotFree, cAvoidable, cRankTooSmall, cNoBlock, cUnknownName, cDuplicateName, cNoMoment, cTooLarge, cNothingToUndo, cNothingToRedo].Nodup)
    (ku : kitsB K [cInvalidPattern, cInvalidText, cInvalidVariables, cInvalidValues, cInvalidCount, cInvalidChain, cInvalidPlace, cInvalidFormula, cInvalidRules, cInvalidName, cInvalidDeed, cInvalidCommand, cParseError, cNotFree, cAvoidable, cRankTooSmall, cNoBlock, cUnknownName, cDuplicateName, cNoMoment, cTooLarge, cNothingToUndo, cNothingToRedo] = true)
    (kp : pysB K ["ValueError", "LookupError", "KeyError", "IndexError", "OverflowError", "ArithmeticError", "RuntimeError", "TypeError"] [(cInvalidPattern, [.type "ValueError", .type "Exception", .type "BaseException", .type "object"]), (cInvalidText, [.type "ValueError", .type "Exception", .type "BaseException", .type "object"]), (cInvalidVariables, [.type "ValueError", .type "Exception", .type "BaseException", .type "object"]), (cInvalidValues, [.type "ValueError", .type "Exception", .type "BaseException", .type "object"]), (cInvalidCount, [.type "ValueError", .type "Exception", .type "BaseException", .type "object"]), (cInvalidChain, [.type "ValueError", .type "Exception", .type "BaseException", .type "object"]), (cInvalidPlace, [.type "ValueError", .type "Exception", .type "BaseException", .type "object"]), (cInvalidFormula, [.type "ValueError", .type "Exception", .type "BaseException", .type "object"]), (cInvalidRules, [.type "ValueError", .type "Exception", .type "BaseException", .type "object"]), (cInvalidName, [.type "ValueError", .type "Exception", .type "BaseException", .type "object"]), (cInvalidDeed, [.type "ValueError", .type "Exception", .type "BaseException", .type "object"]), (cInvalidCommand, [.type "ValueError", .type "Exception", .type "BaseException", .type "object"]), (cParseError, [.type "ValueError", .type "Exception", .type "BaseException", .type "object"]), (cNotFree, [.type "ValueError", .type "Exception", .type "BaseException", .type "object"]), (cAvoidable, [.type "ValueError", .type "Exception", .type "BaseException", .type "object"]), (cRankTooSmall, [.type "LookupError", .type "Exception", .type "BaseException", .type "object"]), (cNoBlock, [.type "LookupError", .type "Exception", .type "BaseException", .type "object"]), (cUnknownName, [.type "KeyError", .type "LookupError", .type "Exception", .type "BaseException", .type "object"]), (cDuplicateName, [.type "KeyError", .type "LookupError", .type "Exception", .type "BaseException", .type "object"]), (cNoMoment, [.type "IndexError", .type "LookupError", .type "Exception", .type "BaseException", .type "object"]), (cTooLarge, [.type "OverflowError", .type "ArithmeticError", .type "Exception", .type "BaseException", .type "object"]), (cNothingToUndo, [.type "RuntimeError", .type "Exception", .type "BaseException", .type "object"]), (cNothingToRedo, [.type "RuntimeError", .type "Exception", .type "BaseException", .type "object"])] = true)
    (vRt : PySem.W.findCls K (.type "RuntimeError") (.type "type") "__init__" = some (.val (.builtin "RuntimeError.__init__")))
    {od0 an0 : Option Addr} {sl0 : Array (Option Value)} {oc0 kV0 dc0 pm0 cd0 ct0 : Value} {f0 : Addr}
    (a0 : PySem.W.nsIn K mainGlobals "_law_values" = some (some (.ref f0))) (l0 : K.lookup f0 = some ⟨oc0, od0, .func (PySem.W.fnOf "_law_values" "_law_values" (defArgs sLValues) (defBody sLValues) (defScope sLValues) .none kV0 dc0 pm0 an0 cd0 ct0), sl0⟩) (c0 : PySem.W.codeIn K cd0 "_law_values" = true) (k0 : PySem.W.keepIn K (.ref f0) = true)
    {od1 an1 : Option Addr} {sl1 : Array (Option Value)} {oc1 kV1 dc1 pm1 cd1 ct1 : Value} {f1 : Addr}
    (a1 : PySem.W.nsIn K mainGlobals "_law_made" = some (some (.ref f1))) (l1 : K.lookup f1 = some ⟨oc1, od1, .func (PySem.W.fnOf "_law_made" "_law_made" (defArgs sLMade) (defBody sLMade) (defScope sLMade) .none kV1 dc1 pm1 an1 cd1 ct1), sl1⟩) (c1 : PySem.W.codeIn K cd1 "_law_made" = true) (k1 : PySem.W.keepIn K (.ref f1) = true)
    {od2 an2 : Option Addr} {sl2 : Array (Option Value)} {oc2 kV2 dc2 pm2 cd2 ct2 : Value} {f2 : Addr}
    (a2 : PySem.W.nsIn K mainGlobals "_law_named" = some (some (.ref f2))) (l2 : K.lookup f2 = some ⟨oc2, od2, .func (PySem.W.fnOf "_law_named" "_law_named" (defArgs sLNamed) (defBody sLNamed) (defScope sLNamed) .none kV2 dc2 pm2 an2 cd2 ct2), sl2⟩) (c2 : PySem.W.codeIn K cd2 "_law_named" = true) (k2 : PySem.W.keepIn K (.ref f2) = true)
    {od3 an3 : Option Addr} {sl3 : Array (Option Value)} {oc3 kV3 dc3 pm3 cd3 ct3 : Value} {f3 : Addr}
    (a3 : PySem.W.nsIn K mainGlobals "_law_fields" = some (some (.ref f3))) (l3 : K.lookup f3 = some ⟨oc3, od3, .func (PySem.W.fnOf "_law_fields" "_law_fields" (defArgs sLFields) (defBody sLFields) (defScope sLFields) .none kV3 dc3 pm3 an3 cd3 ct3), sl3⟩) (c3 : PySem.W.codeIn K cd3 "_law_fields" = true) (k3 : PySem.W.keepIn K (.ref f3) = true)
    {od4 an4 : Option Addr} {sl4 : Array (Option Value)} {oc4 kV4 dc4 pm4 cd4 ct4 : Value} {f4 : Addr}
    (a4 : PySem.W.nsIn K mainGlobals "_law_kinds" = some (some (.ref f4))) (l4 : K.lookup f4 = some ⟨oc4, od4, .func (PySem.W.fnOf "_law_kinds" "_law_kinds" (defArgs sLKinds) (defBody sLKinds) (defScope sLKinds) .none kV4 dc4 pm4 an4 cd4 ct4), sl4⟩) (c4 : PySem.W.codeIn K cd4 "_law_kinds" = true) (k4 : PySem.W.keepIn K (.ref f4) = true)
    {od5 an5 : Option Addr} {sl5 : Array (Option Value)} {oc5 kV5 dc5 pm5 cd5 ct5 : Value} {f5 : Addr}
    (a5 : PySem.W.nsIn K mainGlobals "_law_python" = some (some (.ref f5))) (l5 : K.lookup f5 = some ⟨oc5, od5, .func (PySem.W.fnOf "_law_python" "_law_python" (defArgs sLPython) (defBody sLPython) (defScope sLPython) .none kV5 dc5 pm5 an5 cd5 ct5), sl5⟩) (c5 : PySem.W.codeIn K cd5 "_law_python" = true) (k5 : PySem.W.keepIn K (.ref f5) = true)
    {od6 an6 : Option Addr} {sl6 : Array (Option Value)} {oc6 kV6 dc6 pm6 cd6 ct6 : Value} {f6 : Addr}
    (a6 : PySem.W.nsIn K mainGlobals "law" = some (some (.ref f6))) (l6 : K.lookup f6 = some ⟨oc6, od6, .func (PySem.W.fnOf "law" "law" (defArgs sLaw) (defBody sLaw) (defScope sLaw) .none kV6 dc6 pm6 an6 cd6 ct6), sl6⟩) (c6 : PySem.W.codeIn K cd6 "law" = true) (k6 : PySem.W.keepIn K (.ref f6) = true)
    (z_abs : PySem.W.nsIn K mainGlobals "abs" = some none)
    (z_sum : PySem.W.nsIn K mainGlobals "sum" = some none)
    (z_len : PySem.W.nsIn K mainGlobals "len" = some none)
    (z_isinstance : PySem.W.nsIn K mainGlobals "isinstance" = some none)
    (z_int : PySem.W.nsIn K mainGlobals "int" = some none)
    (z_TypeError : PySem.W.nsIn K mainGlobals "TypeError" = some none)
    (z_RuntimeError : PySem.W.nsIn K mainGlobals "RuntimeError" = some none)
    (z_ArithmeticError : PySem.W.nsIn K mainGlobals "ArithmeticError" = some none)
    (z_OverflowError : PySem.W.nsIn K mainGlobals "OverflowError" = some none)
    (z_IndexError : PySem.W.nsIn K mainGlobals "IndexError" = some none)
    (z_KeyError : PySem.W.nsIn K mainGlobals "KeyError" = some none)
    (z_LookupError : PySem.W.nsIn K mainGlobals "LookupError" = some none)
    (z_ValueError : PySem.W.nsIn K mainGlobals "ValueError" = some none)
    (z_range : PySem.W.nsIn K mainGlobals "range" = some none)
    (z_repr : PySem.W.nsIn K mainGlobals "repr" = some none) :
    ∃ T : Txt K mg, T.aLaw = fa ∧ ∀ (s : Shared) (v : Value), BindsTo s T.dLaw ⟨[v], []⟩ [("_law_script", v)] := by
  have e := hfa.symm.trans (PySem.W.mg_of X G a6)
  cases e
  have F0 := fun_mk (st := sLValues) l0 c0 k0
  have F1 := fun_mk (st := sLMade) l1 c1 k1
  have F2 := fun_mk (st := sLNamed) l2 c2 k2
  have F3 := fun_mk (st := sLFields) l3 c3 k3
  have F4 := fun_mk (st := sLKinds) l4 c4 k4
  have F5 := fun_mk (st := sLPython) l5 c5 k5
  have F6 := fun_mk (st := sLaw) l6 c6 k6
  have FIInvalidPattern := fun_mk (st := sInitInvalidPattern) iLInvalidPattern iDInvalidPattern iKInvalidPattern
  have FIInvalidText := fun_mk (st := sInitInvalidText) iLInvalidText iDInvalidText iKInvalidText
  have FIInvalidVariables := fun_mk (st := sInitInvalidVariables) iLInvalidVariables iDInvalidVariables iKInvalidVariables
  have FIInvalidValues := fun_mk (st := sInitInvalidValues) iLInvalidValues iDInvalidValues iKInvalidValues
  have FIInvalidCount := fun_mk (st := sInitInvalidCount) iLInvalidCount iDInvalidCount iKInvalidCount
  have FIInvalidChain := fun_mk (st := sInitInvalidChain) iLInvalidChain iDInvalidChain iKInvalidChain
  have FIInvalidPlace := fun_mk (st := sInitInvalidPlace) iLInvalidPlace iDInvalidPlace iKInvalidPlace
  have FIInvalidFormula := fun_mk (st := sInitInvalidFormula) iLInvalidFormula iDInvalidFormula iKInvalidFormula
  have FIInvalidRules := fun_mk (st := sInitInvalidRules) iLInvalidRules iDInvalidRules iKInvalidRules
  have FIInvalidName := fun_mk (st := sInitInvalidName) iLInvalidName iDInvalidName iKInvalidName
  have FIInvalidDeed := fun_mk (st := sInitInvalidDeed) iLInvalidDeed iDInvalidDeed iKInvalidDeed
  have FIInvalidCommand := fun_mk (st := sInitInvalidCommand) iLInvalidCommand iDInvalidCommand iKInvalidCommand
  have FIParseError := fun_mk (st := sInitParseError) iLParseError iDParseError iKParseError
  have FINotFree := fun_mk (st := sInitNotFree) iLNotFree iDNotFree iKNotFree
  have FIAvoidable := fun_mk (st := sInitAvoidable) iLAvoidable iDAvoidable iKAvoidable
  have FIRankTooSmall := fun_mk (st := sInitRankTooSmall) iLRankTooSmall iDRankTooSmall iKRankTooSmall
  have FINoBlock := fun_mk (st := sInitNoBlock) iLNoBlock iDNoBlock iKNoBlock
  have FIUnknownName := fun_mk (st := sInitUnknownName) iLUnknownName iDUnknownName iKUnknownName
  have FIDuplicateName := fun_mk (st := sInitDuplicateName) iLDuplicateName iDDuplicateName iKDuplicateName
  have FINoMoment := fun_mk (st := sInitNoMoment) iLNoMoment iDNoMoment iKNoMoment
  have FITooLarge := fun_mk (st := sInitTooLarge) iLTooLarge iDTooLarge iKTooLarge
  have FINothingToUndo := fun_mk (st := sInitNothingToUndo) iLNothingToUndo iDNothingToUndo iKNothingToUndo
  have FINothingToRedo := fun_mk (st := sInitNothingToRedo) iLNothingToRedo iDNothingToRedo iKNothingToRedo
  exact ⟨⟨_, PySem.W.mg_of X G eInvalidPattern, _, PySem.W.mg_of X G eInvalidText, _, PySem.W.mg_of X G eInvalidVariables, _, PySem.W.mg_of X G eInvalidValues, _, PySem.W.mg_of X G eInvalidCount, _, PySem.W.mg_of X G eInvalidChain, _, PySem.W.mg_of X G eInvalidPlace, _, PySem.W.mg_of X G eInvalidFormula, _, PySem.W.mg_of X G eInvalidRules, _, PySem.W.mg_of X G eInvalidName, _, PySem.W.mg_of X G eInvalidDeed, _, PySem.W.mg_of X G eInvalidCommand, _, PySem.W.mg_of X G eParseError, _, PySem.W.mg_of X G eNotFree, _, PySem.W.mg_of X G eAvoidable, _, PySem.W.mg_of X G eRankTooSmall, _, PySem.W.mg_of X G eNoBlock, _, PySem.W.mg_of X G eUnknownName, _, PySem.W.mg_of X G eDuplicateName, _, PySem.W.mg_of X G eNoMoment, _, PySem.W.mg_of X G eTooLarge, _, PySem.W.mg_of X G eNothingToUndo, _, PySem.W.mg_of X G eNothingToRedo, _, _, FIInvalidPattern, FIInvalidPattern.binds (ps := ["self", "value"]) fun _ _ _ _ _ _ us hl => match us, hl with | [_, _], _ => rfl, ⟨⟨⟨_, _, _, _, _, _, _, _, _, _, _, _, _, _, _, xLInvalidPattern, by decide +kernel⟩, PySem.F.excBase_ValueError, by decide +kernel, by decide +kernel, by decide +kernel, by decide +kernel, fun self => by kernel_rfl, saInvalidPattern, exInvalidPattern, tyInvalidPattern, kCInvalidPattern⟩, ⟨gaInvalidPattern, ggInvalidPattern, exInvalidPattern, hdInvalidPattern⟩, ⟨gaInvalidPattern, ggInvalidPattern, exInvalidPattern, hdInvalidPattern, caInvalidPattern, cnInvalidPattern, ctInvalidPattern, cmInvalidPattern⟩, iCInvalidPattern, tIInvalidPattern⟩, nbInvalidPattern, fun s u ws _ l => match ws, l with | [_], _ => .of_eq rfl, _, _, FIInvalidText, FIInvalidText.binds (ps := ["self", "value"]) fun _ _ _ _ _ _ us hl => match us, hl with | [_, _], _ => rfl, ⟨⟨⟨_, _, _, _, _, _, _, _, _, _, _, _, _, _, _, xLInvalidText, by decide +kernel⟩, PySem.F.excBase_ValueError, by decide +kernel, by decide +kernel, by decide +kernel, by decide +kernel, fun self => by kernel_rfl, saInvalidText, exInvalidText, tyInvalidText, kCInvalidText⟩, ⟨gaInvalidText, ggInvalidText, exInvalidText, hdInvalidText⟩, ⟨gaInvalidText, ggInvalidText, exInvalidText, hdInvalidText, caInvalidText, cnInvalidText, ctInvalidText, cmInvalidText⟩, iCInvalidText, tIInvalidText⟩, nbInvalidText, fun s u ws _ l => match ws, l with | [_], _ => .of_eq rfl, _, _, FIInvalidVariables, FIInvalidVariables.binds (ps := ["self", "value"]) fun _ _ _ _ _ _ us hl => match us, hl with | [_, _], _ => rfl, ⟨⟨⟨_, _, _, _, _, _, _, _, _, _, _, _, _, _, _, xLInvalidVariables, by decide +kernel⟩, PySem.F.excBase_ValueError, by decide +kernel, by decide +kernel, by decide +kernel, by decide +kernel, fun self => by kernel_rfl, saInvalidVariables, exInvalidVariables, tyInvalidVariables, kCInvalidVariables⟩, ⟨gaInvalidVariables, ggInvalidVariables, exInvalidVariables, hdInvalidVariables⟩, ⟨gaInvalidVariables, ggInvalidVariables, exInvalidVariables, hdInvalidVariables, caInvalidVariables, cnInvalidVariables, ctInvalidVariables, cmInvalidVariables⟩, iCInvalidVariables, tIInvalidVariables⟩, nbInvalidVariables, fun s u ws _ l => match ws, l with | [_], _ => .of_eq rfl, _, _, FIInvalidValues, FIInvalidValues.binds (ps := ["self", "value"]) fun _ _ _ _ _ _ us hl => match us, hl with | [_, _], _ => rfl, ⟨⟨⟨_, _, _, _, _, _, _, _, _, _, _, _, _, _, _, xLInvalidValues, by decide +kernel⟩, PySem.F.excBase_ValueError, by decide +kernel, by decide +kernel, by decide +kernel, by decide +kernel, fun self => by kernel_rfl, saInvalidValues, exInvalidValues, tyInvalidValues, kCInvalidValues⟩, ⟨gaInvalidValues, ggInvalidValues, exInvalidValues, hdInvalidValues⟩, ⟨gaInvalidValues, ggInvalidValues, exInvalidValues, hdInvalidValues, caInvalidValues, cnInvalidValues, ctInvalidValues, cmInvalidValues⟩, iCInvalidValues, tIInvalidValues⟩, nbInvalidValues, fun s u ws _ l => match ws, l with | [_], _ => .of_eq rfl, _, _, FIInvalidCount, FIInvalidCount.binds (ps := ["self", "value"]) fun _ _ _ _ _ _ us hl => match us, hl with | [_, _], _ => rfl, ⟨⟨⟨_, _, _, _, _, _, _, _, _, _, _, _, _, _, _, xLInvalidCount, by decide +kernel⟩, PySem.F.excBase_ValueError, by decide +kernel, by decide +kernel, by decide +kernel, by decide +kernel, fun self => by kernel_rfl, saInvalidCount, exInvalidCount, tyInvalidCount, kCInvalidCount⟩, ⟨gaInvalidCount, ggInvalidCount, exInvalidCount, hdInvalidCount⟩, ⟨gaInvalidCount, ggInvalidCount, exInvalidCount, hdInvalidCount, caInvalidCount, cnInvalidCount, ctInvalidCount, cmInvalidCount⟩, iCInvalidCount, tIInvalidCount⟩, nbInvalidCount, fun s u ws _ l => match ws, l with | [_], _ => .of_eq rfl, _, _, FIInvalidChain, FIInvalidChain.binds (ps := ["self", "value"]) fun _ _ _ _ _ _ us hl => match us, hl with | [_, _], _ => rfl, ⟨⟨⟨_, _, _, _, _, _, _, _, _, _, _, _, _, _, _, xLInvalidChain, by decide +kernel⟩, PySem.F.excBase_ValueError, by decide +kernel, by decide +kernel, by decide +kernel, by decide +kernel, fun self => by kernel_rfl, saInvalidChain, exInvalidChain, tyInvalidChain, kCInvalidChain⟩, ⟨gaInvalidChain, ggInvalidChain, exInvalidChain, hdInvalidChain⟩, ⟨gaInvalidChain, ggInvalidChain, exInvalidChain, hdInvalidChain, caInvalidChain, cnInvalidChain, ctInvalidChain, cmInvalidChain⟩, iCInvalidChain, tIInvalidChain⟩, nbInvalidChain, fun s u ws _ l => match ws, l with | [_], _ => .of_eq rfl, _, _, FIInvalidPlace, FIInvalidPlace.binds (ps := ["self", "value"]) fun _ _ _ _ _ _ us hl => match us, hl with | [_, _], _ => rfl, ⟨⟨⟨_, _, _, _, _, _, _, _, _, _, _, _, _, _, _, xLInvalidPlace, by decide +kernel⟩, PySem.F.excBase_ValueError, by decide +kernel, by decide +kernel, by decide +kernel, by decide +kernel, fun self => by kernel_rfl, saInvalidPlace, exInvalidPlace, tyInvalidPlace, kCInvalidPlace⟩, ⟨gaInvalidPlace, ggInvalidPlace, exInvalidPlace, hdInvalidPlace⟩, ⟨gaInvalidPlace, ggInvalidPlace, exInvalidPlace, hdInvalidPlace, caInvalidPlace, cnInvalidPlace, ctInvalidPlace, cmInvalidPlace⟩, iCInvalidPlace, tIInvalidPlace⟩, nbInvalidPlace, fun s u ws _ l => match ws, l with | [_], _ => .of_eq rfl, _, _, FIInvalidFormula, FIInvalidFormula.binds (ps := ["self", "value"]) fun _ _ _ _ _ _ us hl => match us, hl with | [_, _], _ => rfl, ⟨⟨⟨_, _, _, _, _, _, _, _, _, _, _, _, _, _, _, xLInvalidFormula, by decide +kernel⟩, PySem.F.excBase_ValueError, by decide +kernel, by decide +kernel, by decide +kernel, by decide +kernel, fun self => by kernel_rfl, saInvalidFormula, exInvalidFormula, tyInvalidFormula, kCInvalidFormula⟩, ⟨gaInvalidFormula, ggInvalidFormula, exInvalidFormula, hdInvalidFormula⟩, ⟨gaInvalidFormula, ggInvalidFormula, exInvalidFormula, hdInvalidFormula, caInvalidFormula, cnInvalidFormula, ctInvalidFormula, cmInvalidFormula⟩, iCInvalidFormula, tIInvalidFormula⟩, nbInvalidFormula, fun s u ws _ l => match ws, l with | [_], _ => .of_eq rfl, _, _, FIInvalidRules, FIInvalidRules.binds (ps := ["self", "value"]) fun _ _ _ _ _ _ us hl => match us, hl with | [_, _], _ => rfl, ⟨⟨⟨_, _, _, _, _, _, _, _, _, _, _, _, _, _, _, xLInvalidRules, by decide +kernel⟩, PySem.F.excBase_ValueError, by decide +kernel, by decide +kernel, by decide +kernel, by decide +kernel, fun self => by kernel_rfl, saInvalidRules, exInvalidRules, tyInvalidRules, kCInvalidRules⟩, ⟨gaInvalidRules, ggInvalidRules, exInvalidRules, hdInvalidRules⟩, ⟨gaInvalidRules, ggInvalidRules, exInvalidRules, hdInvalidRules, caInvalidRules, cnInvalidRules, ctInvalidRules, cmInvalidRules⟩, iCInvalidRules, tIInvalidRules⟩, nbInvalidRules, fun s u ws _ l => match ws, l with | [_], _ => .of_eq rfl, _, _, FIInvalidName, FIInvalidName.binds (ps := ["self", "value"]) fun _ _ _ _ _ _ us hl => match us, hl with | [_, _], _ => rfl, ⟨⟨⟨_, _, _, _, _, _, _, _, _, _, _, _, _, _, _, xLInvalidName, by decide +kernel⟩, PySem.F.excBase_ValueError, by decide +kernel, by decide +kernel, by decide +kernel, by decide +kernel, fun self => by kernel_rfl, saInvalidName, exInvalidName, tyInvalidName, kCInvalidName⟩, ⟨gaInvalidName, ggInvalidName, exInvalidName, hdInvalidName⟩, ⟨gaInvalidName, ggInvalidName, exInvalidName, hdInvalidName, caInvalidName, cnInvalidName, ctInvalidName, cmInvalidName⟩, iCInvalidName, tIInvalidName⟩, nbInvalidName, fun s u ws _ l => match ws, l with | [_], _ => .of_eq rfl, _, _, FIInvalidDeed, FIInvalidDeed.binds (ps := ["self", "index"]) fun _ _ _ _ _ _ us hl => match us, hl with | [_, _], _ => rfl, ⟨⟨⟨_, _, _, _, _, _, _, _, _, _, _, _, _, _, _, xLInvalidDeed, by decide +kernel⟩, PySem.F.excBase_ValueError, by decide +kernel, by decide +kernel, by decide +kernel, by decide +kernel, fun self => by kernel_rfl, saInvalidDeed, exInvalidDeed, tyInvalidDeed, kCInvalidDeed⟩, ⟨gaInvalidDeed, ggInvalidDeed, exInvalidDeed, hdInvalidDeed⟩, ⟨gaInvalidDeed, ggInvalidDeed, exInvalidDeed, hdInvalidDeed, caInvalidDeed, cnInvalidDeed, ctInvalidDeed, cmInvalidDeed⟩, iCInvalidDeed, tIInvalidDeed⟩, nbInvalidDeed, fun s u ws _ l => match ws, l with | [_], _ => .of_eq rfl, _, _, FIInvalidCommand, FIInvalidCommand.binds (ps := ["self", "line"]) fun _ _ _ _ _ _ us hl => match us, hl with | [_, _], _ => rfl, ⟨⟨⟨_, _, _, _, _, _, _, _, _, _, _, _, _, _, _, xLInvalidCommand, by decide +kernel⟩, PySem.F.excBase_ValueError, by decide +kernel, by decide +kernel, by decide +kernel, by decide +kernel, fun self => by kernel_rfl, saInvalidCommand, exInvalidCommand, tyInvalidCommand, kCInvalidCommand⟩, ⟨gaInvalidCommand, ggInvalidCommand, exInvalidCommand, hdInvalidCommand⟩, ⟨gaInvalidCommand, ggInvalidCommand, exInvalidCommand, hdInvalidCommand, caInvalidCommand, cnInvalidCommand, ctInvalidCommand, cmInvalidCommand⟩, iCInvalidCommand, tIInvalidCommand⟩, nbInvalidCommand, fun s u ws _ l => match ws, l with | [_], _ => .of_eq rfl, _, _, FIParseError, FIParseError.binds (ps := ["self", "offset"]) fun _ _ _ _ _ _ us hl => match us, hl with | [_, _], _ => rfl, ⟨⟨⟨_, _, _, _, _, _, _, _, _, _, _, _, _, _, _, xLParseError, by decide +kernel⟩, PySem.F.excBase_ValueError, by decide +kernel, by decide +kernel, by decide +kernel, by decide +kernel, fun self => by kernel_rfl, saParseError, exParseError, tyParseError, kCParseError⟩, ⟨gaParseError, ggParseError, exParseError, hdParseError⟩, ⟨gaParseError, ggParseError, exParseError, hdParseError, caParseError, cnParseError, ctParseError, cmParseError⟩, iCParseError, tIParseError⟩, nbParseError, fun s u ws _ l => match ws, l with | [_], _ => .of_eq rfl, _, _, FINotFree, FINotFree.binds (ps := ["self", "variables"]) fun _ _ _ _ _ _ us hl => match us, hl with | [_, _], _ => rfl, ⟨⟨⟨_, _, _, _, _, _, _, _, _, _, _, _, _, _, _, xLNotFree, by decide +kernel⟩, PySem.F.excBase_ValueError, by decide +kernel, by decide +kernel, by decide +kernel, by decide +kernel, fun self => by kernel_rfl, saNotFree, exNotFree, tyNotFree, kCNotFree⟩, ⟨gaNotFree, ggNotFree, exNotFree, hdNotFree⟩, ⟨gaNotFree, ggNotFree, exNotFree, hdNotFree, caNotFree, cnNotFree, ctNotFree, cmNotFree⟩, iCNotFree, tINotFree⟩, nbNotFree, fun s u ws _ l => match ws, l with | [_], _ => .of_eq rfl, _, _, FIAvoidable, FIAvoidable.binds (ps := ["self", "pattern"]) fun _ _ _ _ _ _ us hl => match us, hl with | [_, _], _ => rfl, ⟨⟨⟨_, _, _, _, _, _, _, _, _, _, _, _, _, _, _, xLAvoidable, by decide +kernel⟩, PySem.F.excBase_ValueError, by decide +kernel, by decide +kernel, by decide +kernel, by decide +kernel, fun self => by kernel_rfl, saAvoidable, exAvoidable, tyAvoidable, kCAvoidable⟩, ⟨gaAvoidable, ggAvoidable, exAvoidable, hdAvoidable⟩, ⟨gaAvoidable, ggAvoidable, exAvoidable, hdAvoidable, caAvoidable, cnAvoidable, ctAvoidable, cmAvoidable⟩, iCAvoidable, tIAvoidable⟩, nbAvoidable, fun s u ws _ l => match ws, l with | [_], _ => .of_eq rfl, _, _, FIRankTooSmall, FIRankTooSmall.binds (ps := ["self", "rank"]) fun _ _ _ _ _ _ us hl => match us, hl with | [_, _], _ => rfl, ⟨⟨⟨_, _, _, _, _, _, _, _, _, _, _, _, _, _, _, xLRankTooSmall, by decide +kernel⟩, PySem.F.excBase_LookupError, by decide +kernel, by decide +kernel, by decide +kernel, by decide +kernel, fun self => by kernel_rfl, saRankTooSmall, exRankTooSmall, tyRankTooSmall, kCRankTooSmall⟩, ⟨gaRankTooSmall, ggRankTooSmall, exRankTooSmall, hdRankTooSmall⟩, ⟨gaRankTooSmall, ggRankTooSmall, exRankTooSmall, hdRankTooSmall, caRankTooSmall, cnRankTooSmall, ctRankTooSmall, cmRankTooSmall⟩, iCRankTooSmall, tIRankTooSmall⟩, nbRankTooSmall, fun s u ws _ l => match ws, l with | [_], _ => .of_eq rfl, _, _, FINoBlock, FINoBlock.binds (ps := ["self", "first", "second"]) fun _ _ _ _ _ _ us hl => match us, hl with | [_, _, _], _ => rfl, ⟨⟨⟨_, _, _, _, _, _, _, _, _, _, _, _, _, _, _, xLNoBlock, by decide +kernel⟩, PySem.F.excBase_LookupError, by decide +kernel, by decide +kernel, by decide +kernel, by decide +kernel, fun self => by kernel_rfl, saNoBlock, exNoBlock, tyNoBlock, kCNoBlock⟩, ⟨gaNoBlock, ggNoBlock, exNoBlock, hdNoBlock⟩, ⟨gaNoBlock, ggNoBlock, exNoBlock, hdNoBlock, caNoBlock, cnNoBlock, ctNoBlock, cmNoBlock⟩, iCNoBlock, tINoBlock⟩, nbNoBlock, nb2NoBlock, fun s u ws _ l => match ws, l with | [_, _], _ => .of_eq rfl, _, _, FIUnknownName, FIUnknownName.binds (ps := ["self", "name"]) fun _ _ _ _ _ _ us hl => match us, hl with | [_, _], _ => rfl, ⟨⟨⟨_, _, _, _, _, _, _, _, _, _, _, _, _, _, _, xLUnknownName, by decide +kernel⟩, PySem.F.excBase_LookupError, by decide +kernel, by decide +kernel, by decide +kernel, by decide +kernel, fun self => by kernel_rfl, saUnknownName, exUnknownName, tyUnknownName, kCUnknownName⟩, ⟨gaUnknownName, ggUnknownName, exUnknownName, hdUnknownName⟩, ⟨gaUnknownName, ggUnknownName, exUnknownName, hdUnknownName, caUnknownName, cnUnknownName, ctUnknownName, cmUnknownName⟩, iCUnknownName, tIUnknownName⟩, nbUnknownName, fun s u ws _ l => match ws, l with | [_], _ => .of_eq rfl, _, _, FIDuplicateName, FIDuplicateName.binds (ps := ["self", "name"]) fun _ _ _ _ _ _ us hl => match us, hl with | [_, _], _ => rfl, ⟨⟨⟨_, _, _, _, _, _, _, _, _, _, _, _, _, _, _, xLDuplicateName, by decide +kernel⟩, PySem.F.excBase_LookupError, by decide +kernel, by decide +kernel, by decide +kernel, by decide +kernel, fun self => by kernel_rfl, saDuplicateName, exDuplicateName, tyDuplicateName, kCDuplicateName⟩, ⟨gaDuplicateName, ggDuplicateName, exDuplicateName, hdDuplicateName⟩, ⟨gaDuplicateName, ggDuplicateName, exDuplicateName, hdDuplicateName, caDuplicateName, cnDuplicateName, ctDuplicateName, cmDuplicateName⟩, iCDuplicateName, tIDuplicateName⟩, nbDuplicateName, fun s u ws _ l => match ws, l with | [_], _ => .of_eq rfl, _, _, FINoMoment, FINoMoment.binds (ps := ["self", "asked"]) fun _ _ _ _ _ _ us hl => match us, hl with | [_, _], _ => rfl, ⟨⟨⟨_, _, _, _, _, _, _, _, _, _, _, _, _, _, _, xLNoMoment, by decide +kernel⟩, PySem.F.excBase_IndexError, by decide +kernel, by decide +kernel, by decide +kernel, by decide +kernel, fun self => by kernel_rfl, saNoMoment, exNoMoment, tyNoMoment, kCNoMoment⟩, ⟨gaNoMoment, ggNoMoment, exNoMoment, hdNoMoment⟩, ⟨gaNoMoment, ggNoMoment, exNoMoment, hdNoMoment, caNoMoment, cnNoMoment, ctNoMoment, cmNoMoment⟩, iCNoMoment, tINoMoment⟩, nbNoMoment, fun s u ws _ l => match ws, l with | [_], _ => .of_eq rfl, _, _, FITooLarge, FITooLarge.binds (ps := ["self", "limit"]) fun _ _ _ _ _ _ us hl => match us, hl with | [_, _], _ => rfl, ⟨⟨⟨_, _, _, _, _, _, _, _, _, _, _, _, _, _, _, xLTooLarge, by decide +kernel⟩, PySem.F.excBase_OverflowError, by decide +kernel, by decide +kernel, by decide +kernel, by decide +kernel, fun self => by kernel_rfl, saTooLarge, exTooLarge, tyTooLarge, kCTooLarge⟩, ⟨gaTooLarge, ggTooLarge, exTooLarge, hdTooLarge⟩, ⟨gaTooLarge, ggTooLarge, exTooLarge, hdTooLarge, caTooLarge, cnTooLarge, ctTooLarge, cmTooLarge⟩, iCTooLarge, tITooLarge⟩, nbTooLarge, fun s u ws _ l => match ws, l with | [_], _ => .of_eq rfl, _, _, FINothingToUndo, FINothingToUndo.binds (ps := ["self"]) fun _ _ _ _ _ _ us hl => match us, hl with | [_], _ => rfl, ⟨⟨⟨_, _, _, _, _, _, _, _, _, _, _, _, _, _, _, xLNothingToUndo, by decide +kernel⟩, PySem.F.excBase_RuntimeError, by decide +kernel, by decide +kernel, by decide +kernel, by decide +kernel, fun self => by kernel_rfl, saNothingToUndo, exNothingToUndo, tyNothingToUndo, kCNothingToUndo⟩, ⟨gaNothingToUndo, ggNothingToUndo, exNothingToUndo, hdNothingToUndo⟩, ⟨gaNothingToUndo, ggNothingToUndo, exNothingToUndo, hdNothingToUndo, caNothingToUndo, cnNothingToUndo, ctNothingToUndo, cmNothingToUndo⟩, iCNothingToUndo, tINothingToUndo⟩, _, _, FINothingToRedo, FINothingToRedo.binds (ps := ["self"]) fun _ _ _ _ _ _ us hl => match us, hl with | [_], _ => rfl, ⟨⟨⟨_, _, _, _, _, _, _, _, _, _, _, _, _, _, _, xLNothingToRedo, by decide +kernel⟩, PySem.F.excBase_RuntimeError, by decide +kernel, by decide +kernel, by decide +kernel, by decide +kernel, fun self => by kernel_rfl, saNothingToRedo, exNothingToRedo, tyNothingToRedo, kCNothingToRedo⟩, ⟨gaNothingToRedo, ggNothingToRedo, exNothingToRedo, hdNothingToRedo⟩, ⟨gaNothingToRedo, ggNothingToRedo, exNothingToRedo, hdNothingToRedo, caNothingToRedo, cnNothingToRedo, ctNothingToRedo, cmNothingToRedo⟩, iCNothingToRedo, tINothingToRedo⟩, kn, ku, vRt, kp, _, _, F0, F0.binds (ps := ["_law_script"]) fun _ _ _ _ _ _ us hl => match us, hl with | [_], _ => rfl, PySem.W.mg_of X G a0, _, _, F1, F1.binds (ps := ["_law_aa", "_law_bb"]) fun _ _ _ _ _ _ us hl => match us, hl with | [_, _], _ => rfl, PySem.W.mg_of X G a1, _, _, F2, F2.binds (ps := ["_law_aa", "_law_bb"]) fun _ _ _ _ _ _ us hl => match us, hl with | [_, _], _ => rfl, PySem.W.mg_of X G a2, _, _, F3, F3.binds (ps := ["_law_some"]) fun _ _ _ _ _ _ us hl => match us, hl with | [_], _ => rfl, PySem.W.mg_of X G a3, _, _, F4, F4.binds (ps := ["_law_thing"]) fun _ _ _ _ _ _ us hl => match us, hl with | [_], _ => rfl, PySem.W.mg_of X G a4, _, _, F5, F5.binds (ps := ["_law_thing"]) fun _ _ _ _ _ _ us hl => match us, hl with | [_], _ => rfl, PySem.W.mg_of X G a5, _, _, F6, F6.binds (ps := ["_law_script"]) fun _ _ _ _ _ _ us hl => match us, hl with | [_], _ => rfl, PySem.W.mg_of X G a6, PySem.W.mg_none_of X G z_abs, PySem.W.mg_none_of X G z_sum, PySem.W.mg_none_of X G z_len, PySem.W.mg_none_of X G z_isinstance, PySem.W.mg_none_of X G z_int, PySem.W.mg_none_of X G z_TypeError, PySem.W.mg_none_of X G z_RuntimeError, PySem.W.mg_none_of X G z_ArithmeticError, PySem.W.mg_none_of X G z_OverflowError, PySem.W.mg_none_of X G z_IndexError, PySem.W.mg_none_of X G z_KeyError, PySem.W.mg_none_of X G z_LookupError, PySem.W.mg_none_of X G z_ValueError, PySem.W.mg_none_of X G z_range, PySem.W.mg_none_of X G z_repr⟩, rfl, fun s v => .of_eq rfl⟩
theorem all_mk {l : PySem.W.OpenLaw} {w : World} {K : PySem.W.Frag} {mg : Str → Option Value} {fa : Addr} (hT : ∃ T : Txt K mg, T.aLaw = fa ∧ ∀ (s : Shared) (v : Value), BindsTo s T.dLaw ⟨[v], []⟩ [("_law_script", v)]) :
    ∃ fd : FuncData, (∀ (s : Shared) (v : Value), BindsTo s fd ⟨[v], []⟩ [("_law_script", v)]) ∧ ∀ base : Heap, K.In base → base.Ns mainGlobals mg → (∃ mm, base.Ns sysModules mm) → FnG l.prog w K mg base CX0 6 fa fd ["_law_script"] (spLaw K) := by
  obtain ⟨T, rfl, hb⟩ := hT
  exact ⟨T.dLaw, hb, fun base _ _ hm => ok_law (k := 0) T hm⟩
end Mo
open PySem PySem.W PyProof.Rows
set_option maxHeartbeats 0 in
theorem PySem.Challenge.cw_mustoccur_k96_errors_and_their_fields_holds : PySem.Challenge.rw_mustoccur_k96_errors_and_their_fields.Holds := by
  w_on; o_law; k_head; (case hw => w_witness2)
  k_fill
  refine Mo.walkM (l := PySem.Challenge.rw_mustoccur_k96_errors_and_their_fields) (n := 63) (k := 6) (x := "_law_script") (CX := fun _ => L2.CX0) (sp := fun w => Mo.spLaw _) rfl (by decide) rfl ⟨rfl, by decide, by decide⟩ (fun w h Y => PySem.W.kIn_of Y) (by decide +kernel) ?F (fun _ _ a ns hl _ hS => ⟨a, ns, rfl, hS, hl, fun _ => rfl⟩) (fun _ _ _ _ _ h => h)
  case F =>
    intro w mg fa h KX G hmg
    refine Mo.all_mk ?_
    refine' Mo.txt_mk KX G hmg ?eInvalidPattern ?eInvalidText ?eInvalidVariables ?eInvalidValues ?eInvalidCount ?eInvalidChain ?eInvalidPlace ?eInvalidFormula ?eInvalidRules ?eInvalidName ?eInvalidDeed ?eInvalidCommand ?eParseError ?eNotFree ?eAvoidable ?eRankTooSmall ?eNoBlock ?eUnknownName ?eDuplicateName ?eNoMoment ?eTooLarge ?eNothingToUndo ?eNothingToRedo ?xLInvalidPattern ?saInvalidPattern ?gaInvalidPattern ?ggInvalidPattern ?nbInvalidPattern ?exInvalidPattern ?tyInvalidPattern ?hdInvalidPattern ?kCInvalidPattern ?sCInvalidPattern ?caInvalidPattern ?cnInvalidPattern ?ctInvalidPattern ?cmInvalidPattern ?iCInvalidPattern ?tIInvalidPattern ?iLInvalidPattern ?iDInvalidPattern ?iKInvalidPattern ?xLInvalidText ?saInvalidText ?gaInvalidText ?ggInvalidText ?nbInvalidText ?exInvalidText ?tyInvalidText ?hdInvalidText ?kCInvalidText ?sCInvalidText ?caInvalidText ?cnInvalidText ?ctInvalidText ?cmInvalidText ?iCInvalidText ?tIInvalidText ?iLInvalidText ?iDInvalidText ?iKInvalidText ?xLInvalidVariables ?saInvalidVariables ?gaInvalidVariables ?ggInvalidVariables ?nbInvalidVariables ?exInvalidVariables ?tyInvalidVariables ?hdInvalidVariables ?kCInvalidVariables ?sCInvalidVariables ?caInvalidVariables ?cnInvalidVariables ?ctInvalidVariables ?cmInvalidVariables ?iCInvalidVariables ?tIInvalidVariables ?iLInvalidVariables ?iDInvalidVariables ?iKInvalidVariables ?xLInvalidValues ?saInvalidValues ?gaInvalidValues ?ggInvalidValues ?nbInvalidValues ?exInvalidValues ?tyInvalidValues ?hdInvalidValues ?kCInvalidValues ?sCInvalidValues ?caInvalidValues ?cnInvalidValues ?ctInvalidValues ?cmInvalidValues ?iCInvalidValues ?tIInvalidValues ?iLInvalidValues ?iDInvalidValues ?iKInvalidValues ?xLInvalidCount ?saInvalidCount ?gaInvalidCount ?ggInvalidCount ?nbInvalidCount ?exInvalidCount ?tyInvalidCount ?hdInvalidCount ?kCInvalidCount ?sCInvalidCount ?caInvalidCount ?cnInvalidCount ?ctInvalidCount ?cmInvalidCount ?iCInvalidCount ?tIInvalidCount ?iLInvalidCount ?iDInvalidCount ?iKInvalidCount ?xLInvalidChain ?saInvalidChain ?gaInvalidChain ?ggInvalidChain ?nbInvalidChain ?exInvalidChain ?tyInvalidChain ?hdInvalidChain ?kCInvalidChain ?sCInvalidChain ?caInvalidChain ?cnInvalidChain ?ctInvalidChain ?cmInvalidChain ?iCInvalidChain ?tIInvalidChain ?iLInvalidChain ?iDInvalidChain ?iKInvalidChain ?xLInvalidPlace ?saInvalidPlace ?gaInvalidPlace ?ggInvalidPlace ?nbInvalidPlace ?exInvalidPlace ?tyInvalidPlace ?hdInvalidPlace ?kCInvalidPlace ?sCInvalidPlace ?caInvalidPlace ?cnInvalidPlace ?ctInvalidPlace ?cmInvalidPlace ?iCInvalidPlace ?tIInvalidPlace ?iLInvalidPlace ?iDInvalidPlace ?iKInvalidPlace ?xLInvalidFormula ?saInvalidFormula ?gaInvalidFormula ?ggInvalidFormula ?nbInvalidFormula ?exInvalidFormula ?tyInvalidFormula ?hdInvalidFormula ?kCInvalidFormula ?sCInvalidFormula ?caInvalidFormula ?cnInvalidFormula ?ctInvalidFormula ?cmInvalidFormula ?iCInvalidFormula ?tIInvalidFormula ?iLInvalidFormula ?iDInvalidFormula ?iKInvalidFormula ?xLInvalidRules ?saInvalidRules ?gaInvalidRules ?ggInvalidRules ?nbInvalidRules ?exInvalidRules ?tyInvalidRules ?hdInvalidRules ?kCInvalidRules ?sCInvalidRules ?caInvalidRules ?cnInvalidRules ?ctInvalidRules ?cmInvalidRules ?iCInvalidRules ?tIInvalidRules ?iLInvalidRules ?iDInvalidRules ?iKInvalidRules ?xLInvalidName ?saInvalidName ?gaInvalidName ?ggInvalidName ?nbInvalidName ?exInvalidName ?tyInvalidName ?hdInvalidName ?kCInvalidName ?sCInvalidName ?caInvalidName ?cnInvalidName ?ctInvalidName ?cmInvalidName ?iCInvalidName ?tIInvalidName ?iLInvalidName ?iDInvalidName ?iKInvalidName ?xLInvalidDeed ?saInvalidDeed ?gaInvalidDeed ?ggInvalidDeed ?nbInvalidDeed ?exInvalidDeed ?tyInvalidDeed ?hdInvalidDeed ?kCInvalidDeed ?sCInvalidDeed ?caInvalidDeed ?cnInvalidDeed ?ctInvalidDeed ?cmInvalidDeed ?iCInvalidDeed ?tIInvalidDeed ?iLInvalidDeed ?iDInvalidDeed ?iKInvalidDeed ?xLInvalidCommand ?saInvalidCommand ?gaInvalidCommand ?ggInvalidCommand ?nbInvalidCommand ?exInvalidCommand ?tyInvalidCommand ?hdInvalidCommand ?kCInvalidCommand ?sCInvalidCommand ?caInvalidCommand ?cnInvalidCommand ?ctInvalidCommand ?cmInvalidCommand ?iCInvalidCommand ?tIInvalidCommand ?iLInvalidCommand ?iDInvalidCommand ?iKInvalidCommand ?xLParseError ?saParseError ?gaParseError ?ggParseError ?nbParseError ?exParseError ?tyParseError ?hdParseError ?kCParseError ?sCParseError ?caParseError ?cnParseError ?ctParseError ?cmParseError ?iCParseError ?tIParseError ?iLParseError ?iDParseError ?iKParseError ?xLNotFree ?saNotFree ?gaNotFree ?ggNotFree ?nbNotFree ?exNotFree ?tyNotFree ?hdNotFree ?kCNotFree ?sCNotFree ?caNotFree ?cnNotFree ?ctNotFree ?cmNotFree ?iCNotFree ?tINotFree ?iLNotFree ?iDNotFree ?iKNotFree ?xLAvoidable ?saAvoidable ?gaAvoidable ?ggAvoidable ?nbAvoidable ?exAvoidable ?tyAvoidable ?hdAvoidable ?kCAvoidable ?sCAvoidable ?caAvoidable ?cnAvoidable ?ctAvoidable ?cmAvoidable ?iCAvoidable ?tIAvoidable ?iLAvoidable ?iDAvoidable ?iKAvoidable ?xLRankTooSmall ?saRankTooSmall ?gaRankTooSmall ?ggRankTooSmall ?nbRankTooSmall ?exRankTooSmall ?tyRankTooSmall ?hdRankTooSmall ?kCRankTooSmall ?sCRankTooSmall ?caRankTooSmall ?cnRankTooSmall ?ctRankTooSmall ?cmRankTooSmall ?iCRankTooSmall ?tIRankTooSmall ?iLRankTooSmall ?iDRankTooSmall ?iKRankTooSmall ?xLNoBlock ?saNoBlock ?gaNoBlock ?ggNoBlock ?nbNoBlock ?exNoBlock ?tyNoBlock ?hdNoBlock ?kCNoBlock ?sCNoBlock ?caNoBlock ?cnNoBlock ?ctNoBlock ?cmNoBlock ?iCNoBlock ?tINoBlock ?iLNoBlock ?iDNoBlock ?iKNoBlock ?nb2NoBlock ?xLUnknownName ?saUnknownName ?gaUnknownName ?ggUnknownName ?nbUnknownName ?exUnknownName ?tyUnknownName ?hdUnknownName ?kCUnknownName ?sCUnknownName ?caUnknownName ?cnUnknownName ?ctUnknownName ?cmUnknownName ?iCUnknownName ?tIUnknownName ?iLUnknownName ?iDUnknownName ?iKUnknownName ?xLDuplicateName ?saDuplicateName ?gaDuplicateName ?ggDuplicateName ?nbDuplicateName ?exDuplicateName ?tyDuplicateName ?hdDuplicateName ?kCDuplicateName ?sCDuplicateName ?caDuplicateName ?cnDuplicateName ?ctDuplicateName ?cmDuplicateName ?iCDuplicateName ?tIDuplicateName ?iLDuplicateName ?iDDuplicateName ?iKDuplicateName ?xLNoMoment ?saNoMoment ?gaNoMoment ?ggNoMoment ?nbNoMoment ?exNoMoment ?tyNoMoment ?hdNoMoment ?kCNoMoment ?sCNoMoment ?caNoMoment ?cnNoMoment ?ctNoMoment ?cmNoMoment ?iCNoMoment ?tINoMoment ?iLNoMoment ?iDNoMoment ?iKNoMoment ?xLTooLarge ?saTooLarge ?gaTooLarge ?ggTooLarge ?nbTooLarge ?exTooLarge ?tyTooLarge ?hdTooLarge ?kCTooLarge ?sCTooLarge ?caTooLarge ?cnTooLarge ?ctTooLarge ?cmTooLarge ?iCTooLarge ?tITooLarge ?iLTooLarge ?iDTooLarge ?iKTooLarge ?xLNothingToUndo ?saNothingToUndo ?gaNothingToUndo ?ggNothingToUndo ?nbNothingToUndo ?exNothingToUndo ?tyNothingToUndo ?hdNothingToUndo ?kCNothingToUndo ?sCNothingToUndo ?caNothingToUndo ?cnNothingToUndo ?ctNothingToUndo ?cmNothingToUndo ?iCNothingToUndo ?tINothingToUndo ?iLNothingToUndo ?iDNothingToUndo ?iKNothingToUndo ?xLNothingToRedo ?saNothingToRedo ?gaNothingToRedo ?ggNothingToRedo ?nbNothingToRedo ?exNothingToRedo ?tyNothingToRedo ?hdNothingToRedo ?kCNothingToRedo ?sCNothingToRedo ?caNothingToRedo ?cnNothingToRedo ?ctNothingToRedo ?cmNothingToRedo ?iCNothingToRedo ?tINothingToRedo ?iLNothingToRedo ?iDNothingToRedo ?iKNothingToRedo ?kn ?ku ?kp ?vRt ?a0 ?l0 ?c0 ?k0 ?a1 ?l1 ?c1 ?k1 ?a2 ?l2 ?c2 ?k2 ?a3 ?l3 ?c3 ?k3 ?a4 ?l4 ?c4 ?k4 ?a5 ?l5 ?c5 ?k5 ?a6 ?l6 ?c6 ?k6 ?z_abs ?z_sum ?z_len ?z_isinstance ?z_int ?z_TypeError ?z_RuntimeError ?z_ArithmeticError ?z_OverflowError ?z_IndexError ?z_KeyError ?z_LookupError ?z_ValueError ?z_range ?z_repr
    (case eInvalidPattern => k_is); (case eInvalidText => k_is); (case eInvalidVariables => k_is); (case eInvalidValues => k_is); (case eInvalidCount => k_is); (case eInvalidChain => k_is); (case eInvalidPlace => k_is); (case eInvalidFormula => k_is); (case eInvalidRules => k_is); (case eInvalidName => k_is); (case eInvalidDeed => k_is); (case eInvalidCommand => k_is); (case eParseError => k_is); (case eNotFree => k_is); (case eAvoidable => k_is); (case eRankTooSmall => k_is); (case eNoBlock => k_is); (case eUnknownName => k_is); (case eDuplicateName => k_is); (case eNoMoment => k_is); (case eTooLarge => k_is); (case eNothingToUndo => k_is); (case eNothingToRedo => k_is); (case xLInvalidPattern => k_is); (case saInvalidPattern => k_is); (case gaInvalidPattern => k_is); (case ggInvalidPattern => k_is); (case nbInvalidPattern => k_is); (case exInvalidPattern => k_is); (case tyInvalidPattern => k_is); (case hdInvalidPattern => k_is); (case kCInvalidPattern => k_is); (case sCInvalidPattern => k_is); (case caInvalidPattern => k_is); (case cnInvalidPattern => k_is); (case ctInvalidPattern => k_is); (case cmInvalidPattern => k_is); (case iCInvalidPattern => k_is); (case tIInvalidPattern => k_is); (case iLInvalidPattern => k_is); (case iDInvalidPattern => k_is); (case iKInvalidPattern => k_is); (case xLInvalidText => k_is); (case saInvalidText => k_is); (case gaInvalidText => k_is); (case ggInvalidText => k_is); (case nbInvalidText => k_is); (case exInvalidText => k_is); (case tyInvalidText => k_is); (case hdInvalidText => k_is); (case kCInvalidText => k_is); (case sCInvalidText => k_is); (case caInvalidText => k_is); (case cnInvalidText => k_is); (case ctInvalidText => k_is); (case cmInvalidText => k_is); (case iCInvalidText => k_is); (case tIInvalidText => k_is); (case iLInvalidText => k_is); (case iDInvalidText => k_is); (case iKInvalidText => k_is); (case xLInvalidVariables => k_is); (case saInvalidVariables => k_is); (case gaInvalidVariables => k_is); (case ggInvalidVariables => k_is); (case nbInvalidVariables => k_is); (case exInvalidVariables => k_is); (case tyInvalidVariables => k_is); (case hdInvalidVariables => k_is); (case kCInvalidVariables => k_is); (case sCInvalidVariables => k_is); (case caInvalidVariables => k_is); (case cnInvalidVariables => k_is); (case ctInvalidVariables => k_is); (case cmInvalidVariables => k_is); (case iCInvalidVariables => k_is); (case tIInvalidVariables => k_is); (case iLInvalidVariables => k_is); (case iDInvalidVariables => k_is); (case iKInvalidVariables => k_is); (case xLInvalidValues => k_is); (case saInvalidValues => k_is); (case gaInvalidValues => k_is); (case ggInvalidValues => k_is); (case nbInvalidValues => k_is); (case exInvalidValues => k_is); (case tyInvalidValues => k_is); (case hdInvalidValues => k_is); (case kCInvalidValues => k_is); (case sCInvalidValues => k_is); (case caInvalidValues => k_is); (case cnInvalidValues => k_is); (case ctInvalidValues => k_is); (case cmInvalidValues => k_is); (case iCInvalidValues => k_is); (case tIInvalidValues => k_is); (case iLInvalidValues => k_is); (case iDInvalidValues => k_is); (case iKInvalidValues => k_is); (case xLInvalidCount => k_is); (case saInvalidCount => k_is); (case gaInvalidCount => k_is); (case ggInvalidCount => k_is); (case nbInvalidCount => k_is); (case exInvalidCount => k_is); (case tyInvalidCount => k_is); (case hdInvalidCount => k_is); (case kCInvalidCount => k_is); (case sCInvalidCount => k_is); (case caInvalidCount => k_is); (case cnInvalidCount => k_is); (case ctInvalidCount => k_is); (case cmInvalidCount => k_is); (case iCInvalidCount => k_is); (case tIInvalidCount => k_is); (case iLInvalidCount => k_is); (case iDInvalidCount => k_is); (case iKInvalidCount => k_is); (case xLInvalidChain => k_is); (case saInvalidChain => k_is); (case gaInvalidChain => k_is); (case ggInvalidChain => k_is); (case nbInvalidChain => k_is); (case exInvalidChain => k_is); (case tyInvalidChain => k_is); (case hdInvalidChain => k_is); (case kCInvalidChain => k_is); (case sCInvalidChain => k_is); (case caInvalidChain => k_is); (case cnInvalidChain => k_is); (case ctInvalidChain => k_is); (case cmInvalidChain => k_is); (case iCInvalidChain => k_is); (case tIInvalidChain => k_is); (case iLInvalidChain => k_is); (case iDInvalidChain => k_is); (case iKInvalidChain => k_is); (case xLInvalidPlace => k_is); (case saInvalidPlace => k_is); (case gaInvalidPlace => k_is); (case ggInvalidPlace => k_is); (case nbInvalidPlace => k_is); (case exInvalidPlace => k_is); (case tyInvalidPlace => k_is); (case hdInvalidPlace => k_is); (case kCInvalidPlace => k_is); (case sCInvalidPlace => k_is); (case caInvalidPlace => k_is); (case cnInvalidPlace => k_is); (case ctInvalidPlace => k_is); (case cmInvalidPlace => k_is); (case iCInvalidPlace => k_is); (case tIInvalidPlace => k_is); (case iLInvalidPlace => k_is); (case iDInvalidPlace => k_is); (case iKInvalidPlace => k_is); (case xLInvalidFormula => k_is); (case saInvalidFormula => k_is); (case gaInvalidFormula => k_is); (case ggInvalidFormula => k_is); (case nbInvalidFormula => k_is); (case exInvalidFormula => k_is); (case tyInvalidFormula => k_is); (case hdInvalidFormula => k_is); (case kCInvalidFormula => k_is); (case sCInvalidFormula => k_is); (case caInvalidFormula => k_is); (case cnInvalidFormula => k_is); (case ctInvalidFormula => k_is); (case cmInvalidFormula => k_is); (case iCInvalidFormula => k_is); (case tIInvalidFormula => k_is); (case iLInvalidFormula => k_is); (case iDInvalidFormula => k_is); (case iKInvalidFormula => k_is); (case xLInvalidRules => k_is); (case saInvalidRules => k_is); (case gaInvalidRules => k_is); (case ggInvalidRules => k_is); (case nbInvalidRules => k_is); (case exInvalidRules => k_is); (case tyInvalidRules => k_is); (case hdInvalidRules => k_is); (case kCInvalidRules => k_is); (case sCInvalidRules => k_is); (case caInvalidRules => k_is); (case cnInvalidRules => k_is); (case ctInvalidRules => k_is); (case cmInvalidRules => k_is); (case iCInvalidRules => k_is); (case tIInvalidRules => k_is); (case iLInvalidRules => k_is); (case iDInvalidRules => k_is); (case iKInvalidRules => k_is); (case xLInvalidName => k_is); (case saInvalidName => k_is); (case gaInvalidName => k_is); (case ggInvalidName => k_is); (case nbInvalidName => k_is); (case exInvalidName => k_is); (case tyInvalidName => k_is); (case hdInvalidName => k_is); (case kCInvalidName => k_is); (case sCInvalidName => k_is); (case caInvalidName => k_is); (case cnInvalidName => k_is); (case ctInvalidName => k_is); (case cmInvalidName => k_is); (case iCInvalidName => k_is); (case tIInvalidName => k_is); (case iLInvalidName => k_is); (case iDInvalidName => k_is); (case iKInvalidName => k_is); (case xLInvalidDeed => k_is); (case saInvalidDeed => k_is); (case gaInvalidDeed => k_is); (case ggInvalidDeed => k_is); (case nbInvalidDeed => k_is); (case exInvalidDeed => k_is); (case tyInvalidDeed => k_is); (case hdInvalidDeed => k_is); (case kCInvalidDeed => k_is); (case sCInvalidDeed => k_is); (case caInvalidDeed => k_is); (case cnInvalidDeed => k_is); (case ctInvalidDeed => k_is); (case cmInvalidDeed => k_is); (case iCInvalidDeed => k_is); (case tIInvalidDeed => k_is); (case iLInvalidDeed => k_is); (case iDInvalidDeed => k_is); (case iKInvalidDeed => k_is); (case xLInvalidCommand => k_is); (case saInvalidCommand => k_is); (case gaInvalidCommand => k_is); (case ggInvalidCommand => k_is); (case nbInvalidCommand => k_is); (case exInvalidCommand => k_is); (case tyInvalidCommand => k_is); (case hdInvalidCommand => k_is); (case kCInvalidCommand => k_is); (case sCInvalidCommand => k_is); (case caInvalidCommand => k_is); (case cnInvalidCommand => k_is); (case ctInvalidCommand => k_is); (case cmInvalidCommand => k_is); (case iCInvalidCommand => k_is); (case tIInvalidCommand => k_is); (case iLInvalidCommand => k_is); (case iDInvalidCommand => k_is); (case iKInvalidCommand => k_is); (case xLParseError => k_is); (case saParseError => k_is); (case gaParseError => k_is); (case ggParseError => k_is); (case nbParseError => k_is); (case exParseError => k_is); (case tyParseError => k_is); (case hdParseError => k_is); (case kCParseError => k_is); (case sCParseError => k_is); (case caParseError => k_is); (case cnParseError => k_is); (case ctParseError => k_is); (case cmParseError => k_is); (case iCParseError => k_is); (case tIParseError => k_is); (case iLParseError => k_is); (case iDParseError => k_is); (case iKParseError => k_is); (case xLNotFree => k_is); (case saNotFree => k_is); (case gaNotFree => k_is); (case ggNotFree => k_is); (case nbNotFree => k_is); (case exNotFree => k_is); (case tyNotFree => k_is); (case hdNotFree => k_is); (case kCNotFree => k_is); (case sCNotFree => k_is); (case caNotFree => k_is); (case cnNotFree => k_is); (case ctNotFree => k_is); (case cmNotFree => k_is); (case iCNotFree => k_is); (case tINotFree => k_is); (case iLNotFree => k_is); (case iDNotFree => k_is); (case iKNotFree => k_is); (case xLAvoidable => k_is); (case saAvoidable => k_is); (case gaAvoidable => k_is); (case ggAvoidable => k_is); (case nbAvoidable => k_is); (case exAvoidable => k_is); (case tyAvoidable => k_is); (case hdAvoidable => k_is); (case kCAvoidable => k_is); (case sCAvoidable => k_is); (case caAvoidable => k_is); (case cnAvoidable => k_is); (case ctAvoidable => k_is); (case cmAvoidable => k_is); (case iCAvoidable => k_is); (case tIAvoidable => k_is); (case iLAvoidable => k_is); (case iDAvoidable => k_is); (case iKAvoidable => k_is); (case xLRankTooSmall => k_is); (case saRankTooSmall => k_is); (case gaRankTooSmall => k_is); (case ggRankTooSmall => k_is); (case nbRankTooSmall => k_is); (case exRankTooSmall => k_is); (case tyRankTooSmall => k_is); (case hdRankTooSmall => k_is); (case kCRankTooSmall => k_is); (case sCRankTooSmall => k_is); (case caRankTooSmall => k_is); (case cnRankTooSmall => k_is); (case ctRankTooSmall => k_is); (case cmRankTooSmall => k_is); (case iCRankTooSmall => k_is); (case tIRankTooSmall => k_is); (case iLRankTooSmall => k_is); (case iDRankTooSmall => k_is); (case iKRankTooSmall => k_is); (case xLNoBlock => k_is); (case saNoBlock => k_is); (case gaNoBlock => k_is); (case ggNoBlock => k_is); (case nbNoBlock => k_is); (case exNoBlock => k_is); (case tyNoBlock => k_is); (case hdNoBlock => k_is); (case kCNoBlock => k_is); (case sCNoBlock => k_is); (case caNoBlock => k_is); (case cnNoBlock => k_is); (case ctNoBlock => k_is); (case cmNoBlock => k_is); (case iCNoBlock => k_is); (case tINoBlock => k_is); (case iLNoBlock => k_is); (case iDNoBlock => k_is); (case iKNoBlock => k_is); (case nb2NoBlock => k_is); (case xLUnknownName => k_is); (case saUnknownName => k_is); (case gaUnknownName => k_is); (case ggUnknownName => k_is); (case nbUnknownName => k_is); (case exUnknownName => k_is); (case tyUnknownName => k_is); (case hdUnknownName => k_is); (case kCUnknownName => k_is); (case sCUnknownName => k_is); (case caUnknownName => k_is); (case cnUnknownName => k_is); (case ctUnknownName => k_is); (case cmUnknownName => k_is); (case iCUnknownName => k_is); (case tIUnknownName => k_is); (case iLUnknownName => k_is); (case iDUnknownName => k_is); (case iKUnknownName => k_is); (case xLDuplicateName => k_is); (case saDuplicateName => k_is); (case gaDuplicateName => k_is); (case ggDuplicateName => k_is); (case nbDuplicateName => k_is); (case exDuplicateName => k_is); (case tyDuplicateName => k_is); (case hdDuplicateName => k_is); (case kCDuplicateName => k_is); (case sCDuplicateName => k_is); (case caDuplicateName => k_is); (case cnDuplicateName => k_is); (case ctDuplicateName => k_is); (case cmDuplicateName => k_is); (case iCDuplicateName => k_is); (case tIDuplicateName => k_is); (case iLDuplicateName => k_is); (case iDDuplicateName => k_is); (case iKDuplicateName => k_is); (case xLNoMoment => k_is); (case saNoMoment => k_is); (case gaNoMoment => k_is); (case ggNoMoment => k_is); (case nbNoMoment => k_is); (case exNoMoment => k_is); (case tyNoMoment => k_is); (case hdNoMoment => k_is); (case kCNoMoment => k_is); (case sCNoMoment => k_is); (case caNoMoment => k_is); (case cnNoMoment => k_is); (case ctNoMoment => k_is); (case cmNoMoment => k_is); (case iCNoMoment => k_is); (case tINoMoment => k_is); (case iLNoMoment => k_is); (case iDNoMoment => k_is); (case iKNoMoment => k_is); (case xLTooLarge => k_is); (case saTooLarge => k_is); (case gaTooLarge => k_is); (case ggTooLarge => k_is); (case nbTooLarge => k_is); (case exTooLarge => k_is); (case tyTooLarge => k_is); (case hdTooLarge => k_is); (case kCTooLarge => k_is); (case sCTooLarge => k_is); (case caTooLarge => k_is); (case cnTooLarge => k_is); (case ctTooLarge => k_is); (case cmTooLarge => k_is); (case iCTooLarge => k_is); (case tITooLarge => k_is); (case iLTooLarge => k_is); (case iDTooLarge => k_is); (case iKTooLarge => k_is); (case xLNothingToUndo => k_is); (case saNothingToUndo => k_is); (case gaNothingToUndo => k_is); (case ggNothingToUndo => k_is); (case nbNothingToUndo => k_is); (case exNothingToUndo => k_is); (case tyNothingToUndo => k_is); (case hdNothingToUndo => k_is); (case kCNothingToUndo => k_is); (case sCNothingToUndo => k_is); (case caNothingToUndo => k_is); (case cnNothingToUndo => k_is); (case ctNothingToUndo => k_is); (case cmNothingToUndo => k_is); (case iCNothingToUndo => k_is); (case tINothingToUndo => k_is); (case iLNothingToUndo => k_is); (case iDNothingToUndo => k_is); (case iKNothingToUndo => k_is); (case xLNothingToRedo => k_is); (case saNothingToRedo => k_is); (case gaNothingToRedo => k_is); (case ggNothingToRedo => k_is); (case nbNothingToRedo => k_is); (case exNothingToRedo => k_is); (case tyNothingToRedo => k_is); (case hdNothingToRedo => k_is); (case kCNothingToRedo => k_is); (case sCNothingToRedo => k_is); (case caNothingToRedo => k_is); (case cnNothingToRedo => k_is); (case ctNothingToRedo => k_is); (case cmNothingToRedo => k_is); (case iCNothingToRedo => k_is); (case tINothingToRedo => k_is); (case iLNothingToRedo => k_is); (case iDNothingToRedo => k_is); (case iKNothingToRedo => k_is); (case kn => decide +kernel); (case ku => kernel_rfl); (case kp => kernel_rfl); (case vRt => k_is); (case a0 => k_is); (case l0 => k_is); (case c0 => k_is); (case k0 => k_is); (case a1 => k_is); (case l1 => k_is); (case c1 => k_is); (case k1 => k_is); (case a2 => k_is); (case l2 => k_is); (case c2 => k_is); (case k2 => k_is); (case a3 => k_is); (case l3 => k_is); (case c3 => k_is); (case k3 => k_is); (case a4 => k_is); (case l4 => k_is); (case c4 => k_is); (case k4 => k_is); (case a5 => k_is); (case l5 => k_is); (case c5 => k_is); (case k5 => k_is); (case a6 => k_is); (case l6 => k_is); (case c6 => k_is); (case k6 => k_is); (case z_abs => k_is); (case z_sum => k_is); (case z_len => k_is); (case z_isinstance => k_is); (case z_int => k_is); (case z_TypeError => k_is); (case z_RuntimeError => k_is); (case z_ArithmeticError => k_is); (case z_OverflowError => k_is); (case z_IndexError => k_is); (case z_KeyError => k_is); (case z_LookupError => k_is); (case z_ValueError => k_is); (case z_range => k_is); (case z_repr => k_is)
