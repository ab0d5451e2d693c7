import PyProof.Rows.All
import Wide.All
import OpenK.AllK
import Wide.FinOn
import HandS.ForMost
import HandS.SetKeys
import HandS.Walk
import HandS.Style
import HandS.SetFor
import HandS.IsInst
import HandS.Wide
import PyProof.Draws
import PyProof.EnumMake
import HandS.Replace
import HandS.Exc
import HandS.WordsExc
import HandS.ExcInit
import HandS.ExcField
import HandS.ExcIs
import HandS.TryOnly
import HandS.CallSlots
import HandS.ExcOwn
import PyProof.ReprRoads
import HandS.Ends
import HandS.EndOwn
import HandS.Comp
import HandS.RaiseMore
import HandS.TupAny
import HandS.TupMul
import PyProof.TupleOfStr
import PyProof.NeKinds
import PyProof.EqAt
import PyProof.ReprBulk
import PyProof.Rows.StrBin
import PyProof.Rows.ReprOcc
import PyProof.ReprLen
import KE.KIndexOf
import HandS.TryMany
import KE.KExcInit
import PyProof.ExcBaseAll.OverflowError
import HandS.Defaults
import HandS.DictEq
import HandS.DictComp
import PyProof.ListStr
import HandS.OwnEq
import PyProof.InstEq
import PyProof.InstNe
import HandS.Deep
import KE.DataFind
import HandS.Evl
import PyProof.WalksMore
import KE.GoesEnum
import HandS.Call
import KE.KEqSeq
import HandS.Steps
import PyProof.IsRules
import HandS.Codes
import PyProof.P3Eq
import PySem.Challenge.RW_mustoccur_k68_whole_avoiding_rules
set_option Elab.async false
set_option linter.all false
set_option maxRecDepth 100000
set_option maxHeartbeats 8000000
/-! Rules that the laws of this program want and the layer lacks: repr and reversal of a text, enumerate of a text, the set of a text's signs and its size. -/
namespace Mo
open PySem PySem.Spec PyProof.Rows L2
/-! ### signs met, in the order of first occurrence -/
def metStep (acc : List Nat) (c : Nat) : List Nat := if c ∈ acc then acc else acc ++ [c]
def met (cs : List Nat) : List Nat := cs.foldl metStep []
theorem met_snoc (cs : List Nat) (c : Nat) : met (cs ++ [c]) = metStep (met cs) c := by
  unfold met
  rw [List.foldl_append]
  rfl
theorem mem_metStep {acc : List Nat} {c d : Nat} : d ∈ metStep acc c ↔ d ∈ acc ∨ d = c := by
  unfold metStep
  by_cases h : c ∈ acc
  · rw [if_pos h]
    constructor
    · exact Or.inl
    · rintro (q | q)
      · exact q
      · rw [q]; exact h
  · rw [if_neg h, List.mem_append, List.mem_singleton]
theorem mem_fold : ∀ (cs acc : List Nat) (d : Nat), d ∈ cs.foldl metStep acc ↔ d ∈ acc ∨ d ∈ cs
  | [], acc, d => by simp
  | c :: cs, acc, d => by
    rw [List.foldl_cons, mem_fold cs (metStep acc c) d, mem_metStep, List.mem_cons, or_assoc]
theorem mem_met {cs : List Nat} {d : Nat} : d ∈ met cs ↔ d ∈ cs := by
  unfold met
  rw [mem_fold]
  simp
theorem metStep_length (acc : List Nat) (c : Nat) : (metStep acc c).length = if c ∈ acc then acc.length else acc.length + 1 := by
  unfold metStep
  split <;> simp
theorem metStep_nodup {acc : List Nat} (h : acc.Nodup) (c : Nat) : (metStep acc c).Nodup := by
  unfold metStep
  by_cases q : c ∈ acc
  · rw [if_pos q]; exact h
  · rw [if_neg q]
    exact List.nodup_append.mpr ⟨h, by simp, by rintro a ha b hb rfl; exact q (by rw [← List.mem_singleton.mp hb]; exact ha)⟩
theorem fold_nodup : ∀ (cs acc : List Nat), acc.Nodup → (cs.foldl metStep acc).Nodup
  | [], _, h => h
  | c :: cs, _, h => fold_nodup cs _ (metStep_nodup h c)
theorem met_nodup (cs : List Nat) : (met cs).Nodup := fold_nodup cs [] List.nodup_nil
theorem met_length_le : ∀ cs : List Nat, (met cs).length ≤ cs.length := fun cs => by
  have key : ∀ (cs acc : List Nat), (cs.foldl metStep acc).length ≤ acc.length + cs.length := by
    intro cs
    induction cs with
    | nil => intro acc; simp
    | cons c cs ih =>
      intro acc
      rw [List.foldl_cons]
      have h1 := ih (metStep acc c)
      have h2 := metStep_length acc c
      rw [List.length_cons]
      split at h2 <;> omega
  have h := key cs []
  simpa [met] using h
/-- the keys that are signs of cs -/
def inS (cs : List Nat) (k : Key) : Bool := cs.any fun c => decide (k = Sum.inr (⟨#[c]⟩ : Str))
theorem sign_inj {c d : Nat} (h : (⟨#[c]⟩ : Str) = ⟨#[d]⟩) : c = d := by
  injection h with h
  simpa using h
theorem inS_sign (cs : List Nat) (c : Nat) : inS cs (Sum.inr ⟨#[c]⟩) = decide (c ∈ cs) := by
  unfold inS
  by_cases h : c ∈ cs
  · rw [decide_eq_true h]
    exact List.any_eq_true.mpr ⟨c, h, decide_eq_true rfl⟩
  · rw [decide_eq_false h]
    cases q : cs.any fun d => decide ((Sum.inr ⟨#[c]⟩ : Key) = Sum.inr ⟨#[d]⟩) with
    | false => rfl
    | true =>
      obtain ⟨d, hd, e⟩ := List.any_eq_true.mp q
      exact absurd (by rw [sign_inj (Sum.inr.inj (of_decide_eq_true e))]; exact hd) h
section
variable {P : Program} {w : World} {A : Around} {E : Value → Shared → Prop} {s : Shared}
theorem signs_loop {I : Addr} {fp wr : List Addr} {G : Array GenState → Array GenState → Prop} {n : Nat} {Pv : Nat → Value → Prop} {St : Nat → Shared → Prop} {R : Result → Shared → Prop}
    (W : WalksS P w A.in1 I fp wr G n Pv St) (D : Addr) (hD : D ∉ fp) (cs : List Nat) (hn : n = cs.length) (hb : cs.length + 1 < scanBound)
    (hval : ∀ i v, Pv i v → ∃ c t, cs[i]? = some c ∧ v = .str ⟨#[c]⟩ t) :
    ∀ (k i : Nat) (s : Shared), n - i = k → i ≤ n → St i s → s.heap.SetOf (mixKind P w) D (inS (cs.take i)) (met (cs.take i)).length →
      (∀ s', Moved (D :: wr) G s s' → s'.heap.SetOf (mixKind P w) D (inS cs) (met cs).length → R (.ok (.ret .none)) s') →
      codeAny (model P w) A (.builtin "set.update.loop" ⟨[.ref D, .ref I], []⟩) R s := by
  have hDw : D ∉ wr := fun h => hD (W.sub _ h)
  have up : ∀ b ∈ wr, b ∈ D :: wr := fun b q => List.mem_cons_of_mem _ q
  intro k
  induction k with
  | zero =>
    intro i s hk hi hst hS hR
    obtain rfl : i = n := by omega
    refine codeAny_builtin PyProof.Rows.F.entry_set_update_loop (by
      rw [Around.under_plainId PyProof.Rows.F.plain_set_update_loop _]
      show wpAny _ A.in1 (pyNext (.ref I) >>= _) _ _ s
      refine wpAny_bind (W.done s _ _ hst fun s' hm => wpAny_pure (hR s' (hm.mono up) ?_))
      rw [List.take_of_length_le (by omega)] at hS
      obtain ⟨o, es, ep, t, ho, rest⟩ := hS
      exact ⟨o, es, ep, t, hm.heap D _ hDw ho, rest⟩)
  | succ k ih =>
    intro i s hk hi hst hS hR
    have hlt : i < n := by omega
    refine codeAny_builtin PyProof.Rows.F.entry_set_update_loop (by
      rw [Around.under_plainId PyProof.Rows.F.plain_set_update_loop _]
      show wpAny _ A.in1 (pyNext (.ref I) >>= _) _ _ s
      refine wpAny_bind (W.item i s _ _ hlt hst fun v s' hP hst' hm => ?_)
      obtain ⟨c, t, hc, rfl⟩ := hval i v hP
      have hS' : s'.heap.SetOf (mixKind P w) D (inS (cs.take i)) (met (cs.take i)).length := by
        obtain ⟨o, es, ep, tb, ho, rest⟩ := hS
        exact ⟨o, es, ep, tb, hm.heap D _ hDw ho, rest⟩
      show wpAny _ A.in1 (holding [Value.str ⟨#[c]⟩ t] (setAdd D (.str ⟨#[c]⟩ t)) >>= _) _ _ s'
      refine wpAny_bind (wpAny_holding (by
        unfold setAdd
        refine wpAny_holding (wpAny_bind ((mixKind P w).pyHash (k := Sum.inr ⟨#[c]⟩) (mixKind_str _ _ _ _) ?_))
        have room : (met (cs.take i)).length + 1 < scanBound := by
          have h1 := met_length_le (cs.take i)
          rw [List.length_take] at h1
          omega
        refine wpAny_setAddHashed_of (knd := mixKind P w) (s := { s' with toks := s'.toks + 1 }) (mixKind_str _ _ _ _) rfl hS' room fun h' hsb hS2 => ?_
        have e3 : cs.take (i + 1) = cs.take i ++ [c] := by
          rw [List.take_add_one, hc]
          rfl
        have hS3 : h'.SetOf (mixKind P w) D (inS (cs.take (i + 1))) (met (cs.take (i + 1))).length := by
          have f1 : (fun k' => inS (cs.take i) k' || decide (k' = Sum.inr (⟨#[c]⟩ : Str))) = inS (cs.take (i + 1)) := by
            funext k'
            rw [e3]
            unfold inS
            rw [List.any_append]
            simp
          have f2 : (if inS (cs.take i) (Sum.inr ⟨#[c]⟩) = true then (met (cs.take i)).length else (met (cs.take i)).length + 1) = (met (cs.take (i + 1))).length := by
            rw [e3, met_snoc, metStep_length, inS_sign]
            by_cases q : c ∈ cs.take i
            · rw [if_pos (decide_eq_true q), if_pos (mem_met.mpr q)]
            · rw [if_neg (by rw [decide_eq_false q]; exact Bool.false_ne_true), if_neg (fun z => q (mem_met.mp z))]
          rw [← f1, ← f2]
          exact hS2
        refine wpAny_pure ⟨plainId_quiet PyProof.Rows.F.plain_set_update_loop _, ih (i + 1) _ (by omega) hlt (W.frame _ s' _ _ hst' (Nat.le_succ _) fun b q o e => ?_) hS3 fun s2 hm2 hS4 => ?_⟩
        · rw [hsb.2 b (fun z : b = D => hD (by rw [← z]; exact q))]
          exact e
        · refine hR s2 (Moved.trans W.gtrans ((hm.mono up).then_heap (Nat.le_succ _) fun b o q e => ?_) hm2) hS4
          rw [hsb.2 b (fun z : b = D => q (by rw [z]; exact List.mem_cons_self))]
          exact e)))

set_option maxHeartbeats 8000000 in
/-- set(a text) -/
theorem call_set_signs {z : Str} {t : Tok} {Q : Value → Shared → Prop} (hh : A.handled = none) (hb : z.cps.size + 1 < scanBound)
    (h : ∀ (h' : Heap) (tk : Nat), h'.SetOf (mixKind P w) s.heap.objs.size (inS z.cps.toList) (met z.cps.toList).length → (∀ b o, s.heap.get? b = some o → h'.get? b = some o) → Q (.ref s.heap.objs.size) { s with heap := h', toks := tk }) :
    wpAny (model P w) A (call (.type "set") [.str z t]) Q E s := by
  obtain ⟨c, tl, hmro⟩ := PySem.F.called_set.mro
  have hmade := PySem.F.called_set.made; have hsub := PySem.F.called_set.sub
  refine wpAny_call (codeAny_of_tree (by
    show wpAny _ _ (callAny (.type "set") _) _ _ _
    refine wpAny_pure ⟨Code.quiet_builtin _ (by decide +kernel), codeAny_builtin PySem.F.entry_type_call ?_⟩
    rw [Around.under_plain (weight_type_call_type "set" [.str z t] []) rfl]
    have h1 := PySem.F.called_set.notType; have h2 := PySem.F.called_set.canCreate
    have hct := PySem.F.typeCall_set_1 (.str z t)
    repeat (any_goals (first | assumption | wp_step))
    refine codeAny_mono (code_set_new_1 (.str z t) (E := E) (Q₁ := fun obj s₁ => ∃ led : Bool, obj = .ref s.heap.objs.size ∧ s₁ = { s with heap := s.heap.push { cls := .type "set", dict := none, data := .set #[] 0 (.fresh 0 0 led) } }) fun led => ⟨led, rfl, rfl⟩) fun r s₁ hr => ?_
    cases r with
    | error e => exact hr
    | ok fl =>
      cases fl with
      | ret obj =>
        obtain ⟨led, rfl, rfl⟩ := hr
        generalize hNew : ({ cls := .type "set", dict := none, data := .set #[] 0 (.fresh 0 0 led) } : Obj) = nw
        have hfr : ∀ (h : Heap) (a : Addr), h.get? a = some nw → h.SetOf (mixKind P w) a (inS []) (met []).length := by
          intro h a e
          rw [← hNew] at e
          exact ⟨_, #[], 0, _, e, ⟨rfl, rfl, rfl⟩, rfl, (fun e he => by simp at he), (fun k => by simp [inS]), (by decide), (by rfl), rfl⟩
        have hcls : nw.cls = .type "set" := by rw [← hNew]
        have hnf : nw.isFreed = false := by rw [← hNew]; rfl
        have hS : (s.heap.push nw).get? s.heap.objs.size = some nw := Heap.get?_push_size _ hnf
        have hT : Shared.TypeIs { s with heap := s.heap.push nw } (.ref s.heap.objs.size) "set" := ⟨_, hS, hcls⟩
        have hli := PySem.F.called_set.init.lookup; have hbi := PySem.F.called_set.init.bind (.ref s.heap.objs.size)
        repeat (any_goals (first | assumption | wp_step))
        refine codeAny_mono (codeAny_call_builtin (R := wants (fun r s₂ => r = .none ∧ ∃ h' tk, s₂ = { s with heap := h', toks := tk } ∧ h'.SetOf (mixKind P w) s.heap.objs.size (inS z.cps.toList) (met z.cps.toList).length ∧
          (∀ b o, s.heap.get? b = some o → h'.get? b = some o)) E) PySem.F.called_set.init.plain PySem.F.entry_set_init (check_set_init_1 hT ?_)) fun r₂ s₂ hr₂ => ?_
        · subst hNew
          have n1 : isSubtype (.type "str") (.type "set") = pure false := by rw [isSubtype_type]; kernel_rfl
          have n2 : isSubtype (.type "str") (.type "frozenset") = pure false := by rw [isSubtype_type]; kernel_rfl
          have n3 : (Value.type "str" == Value.type "dict") = false := by decide
          unfold Builtin.«set.__init__» noKeywords Builtin.Frozenset.updateFrom
          generalize hPI : pyIter = PI
          wp_walk
          subst hPI
          have hh3 : A.in1.in1.in1.handled = none := by simp [hh]
          generalize hNew : ({ cls := .type "set", data := .set #[] 0 (.fresh 0 0 led) } : Obj) = nw at *
          have hz1 : (s.heap.push nw).objs.size = s.heap.objs.size + 1 := Heap.size_push ..
          have fin : ∀ (ty : String) (wk : Walks P w A.in1.in1.in1 (s.heap.push nw).objs.size [(s.heap.push nw).objs.size] [(s.heap.push nw).objs.size] z.cps.size (SignAt z) (fun i h => h.IsStrIter (s.heap.push nw).objs.size ty z t i))
              (Rk : Result → Shared → Prop), (∀ h' tk, h'.SetOf (mixKind P w) s.heap.objs.size (inS z.cps.toList) (met z.cps.toList).length → (∀ b o, s.heap.get? b = some o → h'.get? b = some o) → Rk (.ok (.ret .none)) { s with heap := h', toks := tk }) →
              codeAny (model P w) A.in1.in1 (.builtin "set.update.loop" ⟨[.ref s.heap.objs.size, .ref (s.heap.push nw).objs.size], []⟩) Rk
                { s with heap := (s.heap.push nw).push { cls := .type ty, data := .fields #[.str z t, .int 0 0] } } := by
            intro ty wk Rk hR
            refine signs_loop (wk.toS) s.heap.objs.size (by rw [hz1]; simp) z.cps.toList (by simp) (by simpa using hb) (fun i v hv => ?_) (z.cps.size - 0) 0 _ (by omega) (Nat.zero_le _) ⟨_, Heap.get?_push_size _ rfl, rfl, rfl⟩ ?_ ?_
            · obtain ⟨c, u, hc, rfl⟩ := hv
              exact ⟨c, u, by rw [Array.getElem?_toList]; exact hc, rfl⟩
            · exact hfr _ _ (Heap.get?_push_of_some _ hS)
            · intro s' hm hS'
              obtain ⟨h', g', d', tk', os'⟩ := s'
              obtain rfl : g' = s.gens := hm.gens
              obtain rfl : d' = s.drawn := hm.drawn
              obtain rfl : os' = s.os := hm.os
              refine hR h' tk' hS' fun b o e => ?_
              have hb0 : b < s.heap.objs.size := Heap.lt_size e
              have n1 : b ∉ s.heap.objs.size :: [(s.heap.push nw).objs.size] := by
                rw [hz1]
                intro q
                rcases List.mem_cons.mp q with q | q
                · exact Nat.ne_of_lt hb0 q
                · exact Nat.ne_of_lt (Nat.lt_succ_of_lt hb0) (List.mem_singleton.mp q)
              exact hm.heap b o n1 (Heap.get?_push_of_some _ (Heap.get?_push_of_some _ e))
          cases ha : z.cps.all (· < 128)
          · refine wpAny_pyIter_wide ha (wpAny_bind (wpAny_runValue (fin _ (Walks.strWide hh3 _ z t) _ fun h' tk hS2 hk2 => wpAny_pure ?_)))
            exact wpAny_pure ⟨rfl, h', tk, rfl, hS2, hk2⟩
          · refine wpAny_pyIter_ascii ha (wpAny_bind (wpAny_runValue (fin _ (Walks.strAscii hh3 _ z t) _ fun h' tk hS2 hk2 => wpAny_pure ?_)))
            exact wpAny_pure ⟨rfl, h', tk, rfl, hS2, hk2⟩
        · cases r₂ with
          | error e => exact hr₂
          | ok fl₂ =>
            cases fl₂ with
            | ret r =>
              obtain ⟨rfl, h', tk, rfl, hS', hk'⟩ := hr₂
              repeat (any_goals (first | assumption | wp_step))
              exact h _ _ hS' hk'
            | _ => exact hr₂.elim
      | _ => exact hr.elim))
end
end Mo

namespace Mo
open PySem PySem.Spec PyProof.Rows L2
/-! ### the rules over the layer -/
section
variable {X : Cx}
def rSetS (P : Program) (w : World) : List V → Hp → VK → Prop := fun xs H Q => ∃ z : Str, xs = [.str z] ∧ z.cps.size ≤ 4000 ∧ ∀ p, H p = none → Q (.ref p) (upd H p (SetK P w p (inS z.cps.toList) (met z.cps.toList).length))
/-- set(z), z a text -/
theorem cr_setS (hc : X.calm = true) : CallR X (.type "set") (rSetS X.prog X.w) := by
  intro pins s σ H xs us Q I r h
  obtain ⟨z, rfl, hz, q⟩ := h
  obtain ⟨u, rfl, t, rfl⟩ := vals1 r
  refine call_set_signs (I.ok.hd hc) (by unfold scanBound; omega) fun h' tk hS hk => ?_
  exact ⟨.ref _, _, I.laid (t' := tk) hk (Nat.le_refl _) (setK_new hS), rfl, q _ (I.hok.fresh (Nat.le_refl _))⟩
def rLenK (P : Program) (w : World) : List V → Hp → VK → Prop := fun xs H Q => ∃ a S n, xs = [V.ref a] ∧ H a = some (SetK P w a S n) ∧ (n : Int) < 2 ^ 62 ∧ Q (.int (n : Nat)) H
/-- len(a set) -/
theorem cr_lenK : CallR X (.builtin "len") (rLenK X.prog X.w) := by
  intro pins s σ H xs us Q I r h
  obtain ⟨a, S, n, rfl, ha, hn, q⟩ := h
  obtain ⟨u, rfl, ru⟩ := vals1 r
  cases ru
  obtain ⟨o, es, ep, t, ho, hex, hd, _, _, _, hf, hes⟩ := setK_get I ha
  refine call_len_set ho hex hd hf (by rw [hes]; omega) ⟨.int (n : Nat), H, I.tok _, ⟨_, by rw [hes]⟩, q⟩
/-- repr(z), z a text -/
theorem cr_reprS : CallR X (.builtin "repr") (fun xs H Q => ∃ z : Str, xs = [.str z] ∧ (reprText z).length ≤ sizeLine ∧ Q (.str (reprText z)) H) := by
  intro pins s σ H xs us Q I r h
  obtain ⟨z, rfl, hz, q⟩ := h
  obtain ⟨u, rfl, t, rfl⟩ := vals1 r
  exact PySem.P.repr_of_str ⟨.str _, H, I.tok _, ⟨_, rfl⟩, q⟩ hz
/-! rules within a comprehension's block: the written part named, so that the reading is the same in every block -/
def rLenSq (K : PySem.W.Frag) : List V → Hp → VK → Prop := fun xs H Q => ∃ p ys, xs = [.ref p] ∧ (SqL K H p ys ∨ SqT K H p ys) ∧ Q (.int ys.length) H
theorem call_len_seqK {K : PySem.W.Frag} (h : X.K = K) : CallR X (.builtin "len") (rLenSq K) := by
  subst h
  exact call_len_seq
theorem ix_listK {K : PySem.W.Frag} (h : X.K = K) : IxR X (rIxL K) := by
  subst h
  exact ix_list
theorem op_notIn_seqK {K : PySem.W.Frag} (h : X.K = K) : OpR X (compareOp .NotIn) (rIn K true) := by
  subst h
  exact op_notIn_seq
theorem op_in_seqK {K : PySem.W.Frag} (h : X.K = K) : OpR X (compareOp .In) (rIn K false) := by
  subst h
  exact op_in_seq
theorem pg_tupK {K : PySem.W.Frag} {es : List Expr} {t : TGs} {k n : Nat} {pos : Pos} (h : X.K = K) (hc : X.calm = true) (hs : PGs X es t)
    (hn : (assignEach es X.env).length = n := by rfl) (hst : (assignEach es X.env).findIdx? (·.1) = none := by rfl) : PG X (.Tuple es k pos) (gTup K n t) := by
  subst h
  exact pg_tup hc hs hn hst
/-- z[::-1], z a text -/
def revS (z : Str) : Str := ⟨z.cps.toList.reverse.toArray⟩
def tRevS (te : TE) : TE := fun σ H Q => te σ H fun x H1 => ∃ z, x = .str z ∧ z.length ≤ sizeLine ∧ Q (.str (revS z)) H1
theorem back_idx (n : Nat) : Builtin.Str.strSliceIndices none none (-1) n = (List.range n).reverse := by
  show sliceRange ((n : Int) - 1) (-1) (-1) = _
  rw [PySem.W.krv_sliceRange, PySem.W.krv_range]
theorem back_pick (z : Str) : ((Builtin.Str.strSliceIndices none none (-1) z.length).filterMap (z.cps[·]?)).toArray = z.cps.toList.reverse.toArray := by
  rw [back_idx, List.filterMap_reverse]
  show ((List.range z.cps.size).filterMap (z.cps[·]?)).reverse.toArray = _
  rw [PySem.W.krv_all]
theorem pe_revS {e : Expr} {te : TE} {k : Nat} {p1 p2 p3 pos : Pos} (he : PE X e te) : PE X (.Subscript e (.Slice none none (some (.UnaryOp .USub (.Constant (.int 1) k p1) p2)) p3) pos) (tRevS te) := by
  refine ⟨fun pins s σ H Q I h => ?_⟩
  refine Subscript_ (thn (he.run pins s σ H _ I h) fun v s1 ⟨x, H1, I1, r1, z, ez, hz, q⟩ => ?_)
  subst ez
  obtain ⟨t, rfl⟩ := r1
  have hst : PO X (some (.UnaryOp .USub (.Constant (.int 1) k p1) p2)) (tPart (tUn (rU fun i => .int (-i)) (tC (.int 1)))) := po_some (pe_un un_neg pe_int)
  refine wpAny_Slice (thn (po_none.run pins s1 σ H1 (fun o H2 => o = none ∧ H2 = H1) I1 ⟨rfl, rfl⟩) fun vl s2 ⟨l, H2, I2, pl, el, e2⟩ => ?_)
  subst el e2
  refine thn (po_none.run pins s2 σ H2 (fun o H3 => o = none ∧ H3 = H2) I2 ⟨rfl, rfl⟩) fun vu s3 ⟨u, H3, I3, pu, eu, e3⟩ => ?_
  subst eu e3
  refine thn (hst.run pins s3 σ H3 (fun o H4 => o = some (-1) ∧ H4 = H3) I3 ⟨1, rfl, -1, rfl, rfl, rfl⟩) fun vs s4 ⟨o, H4, I4, ps, eo, e4⟩ => ?_
  subst eo e4
  have I5 : Inv X pins σ H4 { s4 with heap := s4.heap.push { cls := .type "slice", data := .fields #[vl, vu, vs] } } := I4.kept (t' := s4.toks) fun b ob q => Heap.get?_push_of_some _ q
  obtain ⟨l, rfl, el⟩ := IsPart.raw pl
  obtain ⟨u, rfl, eu⟩ := IsPart.raw pu
  obtain ⟨sp, rfl, es⟩ := IsPart.raw ps
  show wpAny (model X.prog X.w) X.A (subscriptTail e (.Slice none none (some (.UnaryOp .USub (.Constant (.int 1) k p1) p2)) p3) (.str z t) (.ref s4.heap.objs.size)) (EP X pins σ Q) X.xe { s4 with heap := s4.heap.push { cls := .type "slice", data := .fields #[partValue l, partValue u, partValue sp] } }
  refine tail_any (ops := [.str z t, .ref s4.heap.objs.size]) (typeIs_str _ _ _) (F.slot_str_getitem.lookup) ?_ (by with_unfolding_all rfl)
  refine wpAny_getItem_str_slice (l := l) (u := u) (st := sp) ⟨_, Heap.get?_push_size _ rfl, rfl, rfl⟩ (by rw [es]; rfl) ?_
  unfold sliceMade slicePicked
  rw [el, eu, es]
  show Made.post (Made.str ⟨((Builtin.Str.strSliceIndices none none (-1) z.length).filterMap (z.cps[·]?)).toArray⟩) (EP X pins σ Q) _
  rw [back_pick]
  refine ⟨?_, .str (revS z), H4, I5.tok _, ⟨_, rfl⟩, q⟩
  show (z.cps.toList.reverse.toArray).size ≤ sizeLine
  rw [List.size_toArray, List.length_reverse, Array.length_toList]
  exact hz
/-! ### enumerate(z), z a text -/
def IteS (z : Str) : It := ⟨fun i _ => i < z.cps.size, fun i H v H' => ∃ T c, v = .ref T ∧ H T = none ∧ z.cps[i]? = some c ∧ H' = upd H T (.tup [.int (i : Nat), .str ⟨#[c]⟩]), fun i _ => z.cps.size ≤ i⟩
theorem strIter_kind (z : Str) : strIterType z = "str_ascii_iterator" ∨ strIterType z = "str_iterator" := by
  unfold strIterType
  split
  · exact .inl rfl
  · exact .inr rfl
theorem draws_str {P : Program} {w : World} {A : Around} (hh : A.handled = none) (it : Addr) (z : Str) (t : Tok) :
    Draws P w A it [it] z.cps.size (fun i v => ∃ c u, z.cps[i]? = some c ∧ v = .str ⟨#[c]⟩ u) (fun i h => h.IsStrIter it (strIterType z) z t i) := by
  rcases strIter_kind z with e | e
  · rw [e]; exact Draws.strAscii hh it z t
  · rw [e]; exact Draws.strWide hh it z t
theorem turn_enumS {P : Program} {w : World} {K : PySem.W.Frag} {elts : List Expr} {kk : Nat} {tpos : Pos} (z : Str) (t : Tok) (e it : Addr) :
    Turn P w K (.Tuple elts kk tpos) (IteS z) [e, it] e (fun i h => (∃ old, IsEnum h e it ((i : Nat) : Int) old) ∧ h.IsStrIter it (strIterType z) z t i ∧ e ≠ it ∧ i ≤ z.cps.size) where
  mem := by simp
  obj := fun i h st b hb => by
    obtain ⟨⟨old, he⟩, ⟨o, ho, hc, hd⟩, _⟩ := st
    rcases (by simpa using hb : b = e ∨ b = it) with q | q
    · rw [q]; exact ⟨_, he, fun v q => nomatch q⟩
    · rw [q]; exact ⟨o, ho, fun v q => by rw [hd] at q; cases q⟩
  keep := fun i h h' st k => let ⟨⟨old, he⟩, ⟨o, ho, r⟩, hne⟩ := st; ⟨⟨old, k e (by simp) _ he⟩, ⟨o, k it (by simp) o ho, r⟩, hne⟩
  item := by
    intro X hP hw hK hc i pins s σ H E I hf st hg
    subst hP hw hK
    obtain ⟨⟨old, he⟩, hit, hne, hle⟩ := st
    have hi : i < z.cps.size := hg
    have hel : e < s.heap.objs.size := Heap.lt_size he
    have hil : it < s.heap.objs.size := by obtain ⟨_, q, _⟩ := hit; exact Heap.lt_size q
    have hh : X.A.in1.handled = none := by simpa using I.ok.hd hc
    refine wpAny_pyNext_enum_itemD (draws_str hh it z t) he hit hi hne (by simpa using hne) fun x h' tk hP ho hit' hT hsz hk => ?_
    obtain ⟨c, u, hcx, rfl⟩ := hP
    refine ⟨_, rfl, wpAny_letOwnedTupleGo_enum (s := { s with heap := h', toks := tk + 1 }) ho fun h2 he' sb => ?_⟩
    have hT2 := (sb.2 _ (Nat.ne_of_gt hel)).trans hT
    have new : ObjOk X.prog X.w (upd H s.heap.objs.size (.tup [.int (i : Nat), .str ⟨#[c]⟩])) h2 s.heap.objs.size (.tup [.int (i : Nat), .str ⟨#[c]⟩]) :=
      ⟨by show 2 ≤ sizeLine; decide, [.int i tk, .str ⟨#[c]⟩ u], .cons ⟨_, rfl⟩ (.cons ⟨_, rfl⟩ .nil), ⟨_, hT2, rfl, _, rfl⟩⟩
    have I1 : Inv X pins σ (upd H s.heap.objs.size (.tup [.int (i : Nat), .str ⟨#[c]⟩])) { s with heap := h2, toks := tk + 1 } :=
      I.turnedNew (ch := [e, it]) (fun b ob hb q => (sb.2 b (fun z => hb (by simp [z]))).trans (hk b ob (fun z => hb (by simp [z])) (fun z => hb (by simp [z])) q)) hf (Nat.le_refl _) new
    obtain ⟨oi, hoi, r⟩ := hit'
    refine ⟨.ref s.heap.objs.size, _, I1, rfl, ⟨_, c, rfl, I.hok.fresh (Nat.le_refl _), hcx, rfl⟩, ⟨⟨.str ⟨#[c]⟩ u, ?_⟩, ⟨oi, (sb.2 it (Ne.symm hne)).trans hoi, r⟩, hne, hi⟩, fun b hb => ?_⟩
    · have e1 : ((i + 1 : Nat) : Int) = (i : Int) + 1 := by omega
      rw [e1]; exact he'
    · have hb' : b < s.heap.objs.size := by
        rcases (by simpa using hb : b = e ∨ b = it) with q | q
        · rw [q]; exact hel
        · rw [q]; exact hil
      rw [upd_ne (Nat.ne_of_lt hb')]
      exact (hf b hb).1
  done := by
    intro X hP hw hK hc i pins s σ H E I hf st hg
    subst hP hw hK
    obtain ⟨⟨old, he⟩, hit, hne, hle⟩ := st
    have hi : i = z.cps.size := Nat.le_antisymm hle hg
    subst hi
    obtain ⟨f0, f1, f2, f3, f4, f5⟩ := hf it (by simp)
    have hh : X.A.in1.handled = none := by simpa using I.ok.hd hc
    exact wpAny_pyNext_enum_endD (draws_str hh it z t) he hit fun h' eb => ⟨rfl, I.turned (t' := s.toks) (fun b o hb q => eb b o hb q) f0 f1 f3 f4 f5⟩
  self := fun A i s Q E st h => let ⟨⟨_, he⟩, _⟩ := st; wpAny_pyIter_enum he h
def iEnumS (ta : TA) : TI := fun σ H R => ta σ H fun vs H1 => ∃ z : Str, vs = [.str z] ∧ R (IteS z) H1
theorem pi_enumS {e : Expr} {ta : TA} {p pos tpos : Pos} {elts : List Expr} {kk : Nat} (hg : Gl X "enumerate") (hm : X.mg "enumerate" = none) (ha : PA X [e] ta) (hs : starEach [e] X.env = [(false, eval e X.env)] := by rfl) :
    PI X (.Tuple elts kk tpos) (.Call (.Name "enumerate" p) [e] [] pos) (iEnumS ta) := by
  refine ⟨fun pins s σ H R I h => ?_⟩
  refine Call_ (ld_blt I hg hm boot_enumerate (PyProof.Rows.callWith_type1 (thn (ha.run pos pins s σ H _ I h) fun us s1 ⟨vs, H1, I1, r1, q1⟩ => ?_) hs rfl))
  obtain ⟨z, rfl, q⟩ := q1
  obtain ⟨u, rfl, t, rfl⟩ := vals1 r1
  refine call_enumerate_str fun h' he hit hsz hk => wpAny_pyIter_enum he ?_
  have I2 : Inv X pins σ H1 { s1 with heap := h' } := I1.kept (t' := s1.toks) hk
  refine ⟨s1.heap.objs.size + 1, [s1.heap.objs.size + 1, s1.heap.objs.size], _, _, H1, rfl, I2, turn_enumS z t (s1.heap.objs.size + 1) s1.heap.objs.size, ⟨⟨.none, he⟩, hit, Nat.succ_ne_self _, Nat.zero_le _⟩, fun b hb => ?_, q⟩
  have hle : s1.heap.objs.size ≤ b := by
    rcases (by simpa using hb : b = s1.heap.objs.size + 1 ∨ b = s1.heap.objs.size) with q | q
    · rw [q]; exact Nat.le_add_right _ _
    · rw [q]; exact Nat.le_refl _
  exact I1.fpOk hle (I1.hok.fresh hle)
theorem walk_enumS {z : Str} : Walk (IteS z) z.cps.size (fun _ => True) (YPair (fun i => some (.int (i : Nat))) (fun i => z.cps[i]?.map fun c => .str ⟨#[c]⟩)) :=
  ⟨fun _ _ hi _ => hi, fun _ _ => Nat.le_refl _, fun i H v H' _ _ ⟨T, c, h1, h2, h3, h4⟩ => ⟨T, .int (i : Nat), .str ⟨#[c]⟩, h1, h2, h4, rfl, by show Option.map _ z.cps[i]? = _; rw [h3]; rfl⟩⟩
end
end Mo

namespace Mo
open PySem PySem.Spec PyProof.Rows L2
/-! ### texts as lists of codes -/
def tx (cs : List Nat) : Str := ⟨cs.toArray⟩
abbrev sg (c : Nat) : V := .str ⟨#[c]⟩
theorem tx_eta (z : Str) : tx z.cps.toList = z := rfl
theorem tx_list (cs : List Nat) : (tx cs).cps.toList = cs := rfl
theorem tx_len (cs : List Nat) : (tx cs).length = cs.length := by show cs.toArray.size = _; simp
theorem tx_size (cs : List Nat) : (tx cs).cps.size = cs.length := by show cs.toArray.size = _; simp
theorem tx_inj {a b : List Nat} (h : tx a = tx b) : a = b := by
  have q := congrArg (fun z : Str => z.cps.toList) h
  exact q
theorem tx_app (a b : List Nat) : tx a ++ tx b = tx (a ++ b) := by
  show (⟨a.toArray ++ b.toArray⟩ : Str) = ⟨(a ++ b).toArray⟩
  simp
theorem tx_app1 (a : List Nat) (c : Nat) : tx a ++ (⟨#[c]⟩ : Str) = tx (a ++ [c]) := tx_app a [c]
theorem tx_get {cs : List Nat} {i : Nat} : (tx cs).cps[i]? = cs[i]? := by
  show cs.toArray[i]? = cs[i]?
  simp
theorem fits5 {n : Nat} (h : n ≤ 100000) : n ≤ sizeLine := Nat.le_trans h (by decide)
theorem fitsLt {n : Nat} (h : n ≤ 100000) : n < sizeLine := Nat.lt_of_le_of_lt h (by decide)
/-- small letters alone -/
def Low (cs : List Nat) : Prop := ∀ c ∈ cs, 97 ≤ c ∧ c ≤ 122
theorem tx_nil : Str.ofString "" = tx [] := by decide +kernel
theorem join_signs : ∀ cs : List Nat, Txt.join (Str.ofString "") (cs.map fun c => (⟨#[c]⟩ : Str)) = tx cs := by
  have key : ∀ cs : List Nat, Str.join (tx []) (cs.map fun c => (⟨#[c]⟩ : Str)) = tx cs := by
    intro cs
    induction cs with
    | nil => rfl
    | cons c r ih =>
      cases r with
      | nil => rfl
      | cons e r =>
        show (⟨#[c]⟩ : Str) ++ tx [] ++ Str.join (tx []) ((e :: r).map fun c => (⟨#[c]⟩ : Str)) = tx (c :: e :: r)
        rw [ih]
        show tx [c] ++ tx [] ++ tx (e :: r) = _
        rw [tx_app, tx_app]
        rfl
  intro cs
  show Builtin.Str.glued _ _ = _
  rw [StrLaws.glued_eq_join, tx_nil]
  exact key cs
/-! ### the pen -/
def penD (c : Addr) (t r : Int) : List (Key × V) := [(.inr "cells", .ref c), (.inr "turn", .int t), (.inr "rest", .int r)]
theorem k_ct : ¬ ((Sum.inr "cells" : Key) = (Sum.inr "turn" : Key)) := by decide +kernel
theorem k_cr : ¬ ((Sum.inr "cells" : Key) = (Sum.inr "rest" : Key)) := by decide +kernel
theorem k_tr : ¬ ((Sum.inr "turn" : Key) = (Sum.inr "rest" : Key)) := by decide +kernel
theorem pen_cells (c : Addr) (t r : Int) : valV (penD c t r) (Sum.inr "cells") = some (.ref c) := valV_pos rfl
theorem pen_turn (c : Addr) (t r : Int) : valV (penD c t r) (Sum.inr "turn") = some (.int t) := by
  unfold penD
  rw [valV_neg k_ct, valV_pos rfl]
theorem pen_rest (c : Addr) (t r : Int) : valV (penD c t r) (Sum.inr "rest") = some (.int r) := by
  unfold penD
  rw [valV_neg k_cr, valV_neg k_tr, valV_pos rfl]
theorem put_turn (c : Addr) (t r u : Int) : putK (penD c t r) (Sum.inr "turn") (.int u) = penD c u r := by
  unfold putK penD
  have k1 := k_ct
  have k2 : ¬ ((Sum.inr "rest" : Key) = (Sum.inr "turn" : Key)) := fun e => k_tr e.symm
  simp only [List.any_cons, List.map_cons, List.map_nil, k1, k2, if_false, if_true, decide_true, decide_false, Bool.true_or, Bool.or_true, Bool.false_or]
theorem put_rest (c : Addr) (t r u : Int) : putK (penD c t r) (Sum.inr "rest") (.int u) = penD c t u := by
  unfold putK penD
  have k1 := k_cr
  have k2 := k_tr
  simp only [List.any_cons, List.map_cons, List.map_nil, k1, k2, if_false, if_true, decide_true, decide_false, Bool.true_or, Bool.or_true, Bool.false_or]
theorem pen_merge (c : Addr) (t r : Int) : mergeK [] (penD c t r) = penD c t r := by
  have k1 := k_ct
  have k2 := k_cr
  have k3 := k_tr
  simp only [mergeK, penD, putK, List.foldl_cons, List.foldl_nil, List.any_nil, List.any_cons, List.nil_append, List.cons_append, k1, k2, k3, decide_false, Bool.or_false, Bool.false_eq_true, if_false]
/-- the pen at d, its cells at c, t draws done -/
def Pen (H : Hp) (d c : Addr) (t : Nat) : Prop := ∃ (ns : List Int) (r : Int), H d = some (.dK (penD c t r)) ∧ H c = some (.lst (ns.map V.int)) ∧ ns.length ≤ 63 ∧ 0 ≤ r
theorem Pen.ne {H : Hp} {d c : Addr} {t : Nat} (h : Pen H d c t) : d ≠ c := by
  obtain ⟨ns, r, h1, h2, _⟩ := h
  exact ne_of h1 h2 (by intro z; cases z)
/-- all but d is as it was -/
def But (d : Addr) (H H' : Hp) : Prop := ∀ b o, b ≠ d → H b = some o → H' b = some o
theorem But.refl (d : Addr) (H : Hp) : But d H H := fun _ _ _ h => h
theorem But.trans {d : Addr} {H H1 H2 : Hp} (a : But d H H1) (b : But d H1 H2) : But d H H2 := fun c o n h => b c o n (a c o n h)
theorem But.same {d : Addr} {H H1 : Hp} (a : Same H H1) : But d H H1 := fun c o _ h => a c o h
theorem But.none {d : Addr} {H H1 : Hp} (a : But d H H1) {p : Addr} (h : H1 p = none) (n : p ≠ d) : H p = none := by
  cases q : H p with
  | none => rfl
  | some o =>
    rw [a p o n q] at h
    cases h
theorem Pen.new {H : Hp} {d c : Addr} {t : Nat} (h : Pen H d c t) {p : Addr} (hp : H p = none) : p ≠ d ∧ p ≠ c := by
  obtain ⟨ns, r, h1, h2, _⟩ := h
  exact ⟨(ne_of_none h1 hp).symm, (ne_of_none h2 hp).symm⟩
theorem Pen.upd {H : Hp} {d c : Addr} {t : Nat} (h : Pen H d c t) {p : Addr} {o : HO} (h1 : p ≠ d) (h2 : p ≠ c) : Pen (upd H p o) d c t := by
  obtain ⟨ns, r, e1, e2, e3⟩ := h
  exact ⟨ns, r, by rw [upd_ne h1.symm]; exact e1, by rw [upd_ne h2.symm]; exact e2, e3⟩
theorem Pen.same {H H' : Hp} {d c : Addr} {t : Nat} (h : Pen H d c t) (s : Same H H') : Pen H' d c t := by
  obtain ⟨ns, r, e1, e2, e3⟩ := h
  exact ⟨ns, r, s _ _ e1, s _ _ e2, e3⟩
theorem same_new {H : Hp} {p : Addr} {o : HO} (h : H p = none) : Same H (L2.upd H p o) := fun b x e => by
  rw [upd_ne (ne_of_none e h)]
  exact e
theorem But.set {d : Addr} {H : Hp} {o : HO} : But d H (L2.upd H d o) := fun b x n e => by
  rw [upd_ne n]
  exact e
theorem But.put {d : Addr} {H H' : Hp} {o : HO} (b : But d H H') {D : Addr} (n : H D = Option.none) : But d H (L2.upd H' D o) := fun x y nx e => by
  rw [upd_ne (ne_of_none e n)]
  exact b x y nx e
theorem Same.put {H H' : Hp} {o : HO} (b : Same H H') {D : Addr} (n : H D = Option.none) : Same H (L2.upd H' D o) := fun x y e => by
  rw [upd_ne (ne_of_none e n)]
  exact b x y e
theorem pen_set {H : Hp} {d c : Addr} {t : Nat} (h : Pen H d c t) {u : Nat} {r : Int} (hr : 0 ≤ r) : Pen (L2.upd H d (.dK (penD c u r))) d c u := by
  have n := h.ne
  obtain ⟨ns, r0, e1, e2, e3, _⟩ := h
  exact ⟨ns, r, upd_same, by rw [upd_ne n.symm]; exact e2, e3, hr⟩
def spDraw : Sp := fun vs H Q _ => ∃ (d c : Addr) (n : Int) (t : Nat), vs = [.ref d, .int n] ∧ Pen H d c t ∧ 0 < n ∧ n < 1073741824 ∧ t < 1073741824 ∧
  ∀ H' k t', But d H H' → Pen H' d c t' → t' ≤ t + 1 → 0 ≤ k → k < n → Q (.int k) H'
def spPick (K : PySem.W.Frag) : Sp := fun vs H Q _ => ∃ (d c l : Addr) (xs : List V) (t : Nat), vs = [.ref d, .ref l] ∧ Pen H d c t ∧ SqL K H l xs ∧ l ≠ d ∧ 0 < xs.length ∧ xs.length < 1073741824 ∧ t < 1073741824 ∧
  ∀ H' v t', But d H H' → Pen H' d c t' → t' ≤ t + 1 → v ∈ xs → Q v H'
end Mo

namespace Mo
open PySem PySem.Spec PyProof.Rows L2
/-! ### an error that is kept behind its except suite -/
/-- at a: an error of the class cls, its own dict d -/
def exV (a : Addr) (cls : Value) (d : Option Addr) : HO := .ext fun h => ∃ oe vs, h.get? a = some oe ∧ Zc cls d oe ∧ oe.data = .fields vs
section
variable {X : Cx} {pins : List (Addr × Obj)} {σ : L2.St} {H : Hp} {s : Shared}
/-- an object that was not there at the entry is tracked from now on -/
theorem track {a : Addr} {oe : Obj} {vs : Array Value} {o : HO} (I : Inv X pins σ H s) (ha : s.heap.get? a = some oe) (hd : oe.data = .fields vs) (na : H a = none) (nL : a ≠ X.env.locals)
    (n0 : ∀ u, X.s_0.heap.get? a = some u → a ∈ X.ex) (np : ∀ p ∈ X.pn ++ pins, p.1 ≠ a) (new : ObjOk X.prog X.w (upd H a o) s.heap a o) : Inv X pins σ (upd H a o) s := by
  have ne : ∀ b u, H b = some u → b ≠ a := fun b u e => ne_of_none e na
  refine ⟨I.ok, I.os, I.bare, ⟨I.base.keep, I.base.slot, fun b u q n hx => ?_, I.base.there, fun b xs e => ?_, fun b u w e => ?_, fun b ps e => ?_⟩, I.loc, I.cell, ?_, fun x c e => ?_, fun p hp => ?_, fun b u e => ?_, I.len⟩
  · rw [upd_ne (fun z : b = a => hx (by rw [z]; exact n0 u (by rw [← z]; exact q)))]
    exact I.base.free b u q n hx
  · have q := I.base.tups b xs e
    rw [upd_ne (ne _ _ q)]
    exact q
  · have q := I.base.frzs b u w e
    rw [upd_ne (ne _ _ q)]
    exact q
  · obtain ⟨more, q⟩ := I.base.tbls b ps e
    exact ⟨more, by rw [upd_ne (ne _ _ q)]; exact q⟩
  · rw [upd_ne nL.symm]
    exact I.free
  · obtain ⟨v, oc, hoc, hcc⟩ := I.cell x c e
    have nca : c ≠ a := fun z => by
      rw [z, ha] at hoc
      cases hoc
      rw [hd] at hcc
      cases hcc
    rw [upd_ne nca]
    exact I.freeC x c e
  · obtain ⟨h1, h2, h3⟩ := I.pin p hp
    exact ⟨h1, by rw [upd_ne (np p hp)]; exact h2, h3⟩
  · by_cases hb : b = a
    · subst hb
      rw [upd_same] at e
      cases e
      exact new
    · rw [upd_ne hb] at e
      refine (I.hok b u e).stay (fun c v _ q => q) (fun c q => ?_) fun c xs q => ?_
      · rw [upd_ne (ne _ _ q)]
        exact q
      · rw [upd_ne (ne _ _ q)]
        exact q
theorem exV_ok {P : Program} {w : World} {H : Hp} {h : Heap} {a : Addr} {cls : Value} {d : Option Addr} {oe : Obj} {vs : Array Value} (e : h.get? a = some oe) (z : Zc cls d oe) (hd : oe.data = .fields vs) : ObjOk P w H h a (exV a cls d) :=
  ⟨⟨oe, vs, e, z, hd⟩, ⟨oe, e⟩, fun h1 h2 ⟨o1, v1, e1, z1, d1⟩ k => ⟨o1, v1, k _ e1, z1, d1⟩⟩
theorem exV_at {a : Addr} {cls : Value} {d : Option Addr} (I : Inv X pins σ H s) (e : H a = some (exV a cls d)) : ∃ oe vs, s.heap.get? a = some oe ∧ Zc cls d oe ∧ oe.data = .fields vs := (I.hok a _ e).1
end
/-- what 'except x as n: kept = n' wishes of an error of the body: n in slot i, kept in slot j; behind it the error is tracked -/
def wKeep (K : PySem.W.Frag) (c : Value) (i j : Nat) (Wout : WX) (D : Ends) : WX := fun cls d σ H =>
  ∃ b, PySem.W.exmOne K cls c = some b ∧ (b = true → ∀ a, H a = none → D.nx (((σ.set i (some (.ref a))).set j (some (.ref a))).set i none) (upd H a (exV a cls d))) ∧ (b = false → Wout cls d σ H)
section
variable {X : Cx} {x n kx : Str} {c : Value} {i j : Nat} {body : List Stmt} {np np2 kp ap pos pos' : Pos} {tb : WX → TS} {Wout : WX}
theorem ps_try_keep (hs : X.stack = X.env :: X.outer) (hf : X.env.frame = some X.env.locals) (hN : X.N.Nodup) (hi : X.N[i]? = some n) (hj : X.N[j]? = some kx) (hln : X.env.kindOf n = some .local) (hlk : X.env.kindOf kx = some .local) (hc : Names X x c) (tk : Takes X Wout)
    (hb : ∀ (W : WX) (pn : List (Addr × Obj)) (xe : Value → Shared → Prop), Takes (X.tr pn xe) W → PassesOwn (model X.prog X.w) X.A X.env xe → PSs (X.tr pn xe) body (tb W))
    (hsu : ∀ (a : Addr) (oe : Obj) (pn : List (Addr × Obj)), PSs (X.suite a ((a, oe) :: pn)) [.Assign [.Name kx kp] (.Name n np2) ap] (tAsg (tVar i) (gName j))) :
    PS X (.Try body [.ExceptHandler (some (.Name x np)) (some n) [.Assign [.Name kx kp] (.Name n np2) ap] pos'] [] [] pos) (fun D σ H => tb (wKeep X.K c i j Wout D) D σ H) := by
  refine ⟨fun pins s σ H D I h => ?_⟩
  have ok := I.ok
  have hfr : X.A.frames = some (X.env :: X.outer) := ok.frames.trans (by rw [hs])
  refine wpAny_Try_except (wpAny_mono ((hb (wKeep X.K c i j Wout D) (X.pn ++ pins) (fun e s₁ => wpAny (model X.prog X.w) X.A (noteFrame e X.env) (fun _ s₂ => wpAny (model X.prog X.w) X.A (setFlight e none) (fun _ s₃ =>
    wpAny (model X.prog X.w) X.A (handleBy e X.env [.ExceptHandler (some (.Name x np)) (some n) [.Assign [.Name kx kp] (.Name n np2) ap] pos']) (SP X pins D) X.xe s₃) X.xe s₂) X.xe s₁) (fun u s' xx => ?_) PassesOwn.looking).run [] s σ H D (I.toTry _) h) (fun f s1 hsp => ?_) (fun e s1 he => he))
  · obtain ⟨a, B, sI, pins', σ', H', cls, d, rfl, J', nb, up, sky, na, os, ag, b, hb1, hyes, hno⟩ := xx
    have J : Inv X pins σ' H' sI := J'.ofTry ok
    have sky' : Sky B (X.env :: X.outer) a (Zc cls d) X.env.locals s'.heap := hs ▸ sky
    show wpAny (model X.prog X.w) X.A (noteFrame (.ref a) X.env) _ _ _
    refine Sky.land Zc.steady hfr hf sky' fun h3 fl3 up3 => ?_
    have J3 : Inv X pins σ' H' { s' with heap := h3 } := J.landed nb fl3.1 (up.trans up3) os ag
    obtain ⟨oe3, vs3, he3, hz3, hd3⟩ := fl3.there
    have nfr : a ∉ frs (X.env :: X.outer) := fun hm => by
      obtain ⟨_, o', e', hnf⟩ := fl3.2.2.1.mem hm
      rw [he3] at e'
      cases e'
      exact hnf _ hd3
    have nL : a ≠ X.env.locals := fun z => nfr (List.mem_filterMap.mpr ⟨X.env, List.mem_cons_self, hf.trans (congrArg some z.symm)⟩)
    have nF : a ∉ X.fs := fun hm => by
      obtain ⟨e, he, q⟩ := List.mem_filterMap.mp hm
      exact nfr (List.mem_filterMap.mpr ⟨e, List.mem_cons_of_mem _ he, q⟩)
    have nB : B.get? a = none := fl3.2.1
    have nI : sI.heap.get? a = none := by
      cases q : sI.heap.get? a with
      | none => rfl
      | some o =>
        have z := nb a o q (by show a ∉ frs X.stack; rw [hs]; exact nfr)
        rw [nB] at z
        cases z
    have n0 : ∀ u, X.s_0.heap.get? a = some u → a ∈ X.ex := fun u q => by
      by_cases hx : a ∈ X.ex
      · exact hx
      · obtain ⟨o', z⟩ := J.base.there a u q hx
        rw [nI] at z
        cases z
    have npp : ∀ p ∈ X.pn ++ pins, p.1 ≠ a := fun p hp z => by
      have q := (J.pin p hp).1
      rw [z, nI] at q
      cases q
    have S3 := J3.suite he3 hd3 na nL nF
    refine wpAny_handleBy_cons (codeAny_handlers_test ?_) (by intro q; cases q)
    have LT : PySem.W.Looks (model X.prog X.w) h3 (typeOf (.ref a)) cls := fun A Q E s k q => wpAny_typeOf_ref (k _ _ he3) (hz3.1 ▸ q)
    have LM := PySem.W.exm_one (M := model X.prog X.w) J3.kIn LT hb1
    have test : ∀ {Q : Value → Shared → Prop} {E : Value → Shared → Prop}, Q c { s' with heap := h3 } → wpAny (model X.prog X.w) (X.A.mark (some (.ref a))) (eval (.Name x np) X.env) Q E { s' with heap := h3 } := fun {Q E} q => by
      rcases hc with ⟨hg, hdbg, hm | ⟨hm, hv, hnn⟩⟩
      · exact ld_glob (X := X.suite a ((a, oe3) :: (X.pn ++ pins))) S3 hg hm q hdbg
      · exact ld_blt (X := X.suite a ((a, oe3) :: (X.pn ++ pins))) S3 hg hm hv q hnn hdbg
    refine test (LM.here ?_)
    cases b with
    | true =>
      refine codeAny_handlers_suite_as (HandSPX.lands_againZ fl3 fun h4 fl4 up4 => ?_)
      have J4 : Inv X pins σ' H' { s' with heap := h4 } := J.landed nb fl4.1 ((up.trans up3).trans up4) os ag
      obtain ⟨oe4, vs4, he4, hz4, hd4⟩ := fl4.there
      refine store_ok (X := X.suite a ((a, oe4) :: (X.pn ++ pins))) (v := .ref a) (J4.suite he4 hd4 na nL nF) hN hi (.inl hln) rfl (fun s5 S5 => ?_) (.inr hln)
      have lenσ : i < σ'.length := by
        rw [J.len]
        exact (List.getElem?_eq_some_iff.mp hi).1
      have want : tAsg (tVar i) (gName j) { nx := fun σ6 H6 => σ6 = (σ'.set i (some (.ref a))).set j (some (.ref a)) ∧ H6 = H', rt := fun _ _ => False, bk := fun _ _ => False, ct := fun _ _ => False } (σ'.set i (some (.ref a))) H' :=
        ⟨.ref a, by rw [List.getElem?_set_self lenσ], rfl, rfl⟩
      refine wpAny_mono ((hsu a oe4 (X.pn ++ pins)).run [] s5 _ H' _ S5 want) (fun f s6 hsp => ?_) (fun _ _ z => False.elim z)
      cases f with
      | next =>
        obtain ⟨σ6, H6, S6, rfl, rfl⟩ := hsp
        obtain ⟨he6, _⟩ := S6.pin (a, oe4) (List.mem_append_left _ List.mem_cons_self)
        have J6 : Inv X pins _ H6 s6 := S6.unsuite ok
        have J7 := track J6 he6 hd4 na nL n0 npp (exV_ok he6 hz4 hd4)
        exact gone_ok J7 hN hi hln fun s7 J8 => ⟨_, _, J8, hyes rfl a na⟩
      | brk => exact hsp.elim fun _ z => z.elim fun _ z => z.2.elim
      | cont => exact hsp.elim fun _ z => z.elim fun _ z => z.2.elim
      | ret u => exact hsp.elim fun _ z => z.elim fun _ z => z.elim fun _ z => z.2.2.elim
    | false =>
      show wpAny _ X.A (handleBy (.ref a) X.env []) _ _ _
      refine wpAny_handleBy_nil ?_
      obtain ⟨k1, k2, k3, oe, vs, T, oT, ts', he, hz, hd, h1, hr⟩ := id fl3
      unfold PySem.passOn
      refine wpAny_bind (wpAny_field he hd h1 ?_)
      rw [if_neg (show ¬ ((Value.ref T == Value.none) = true) from by simp)]
      have fin : wpAny (model X.prog X.w) X.A (setFlight (.ref a) X.env.frame) (fun _ s4 => wpAny (model X.prog X.w) X.A (throw (.ref a) : Sem Flow) (SP X pins D) X.xe s4) X.xe { s' with heap := h3 } := by
        rw [hf]
        refine HandSPX.setFlight_upZ fl3 fun h4 hh4 up4 => wpAny_throw (tk _ _ ⟨a, B, sI, pins, σ', H', cls, d, rfl, J, nb, (up.trans up3).trans up4, .inr (.inr (hs ▸ hh4)), na, os, ag, hno rfl⟩)
      first
        | exact wpAny_bind (wpAny_pure (wpAny_bind fin))
        | exact wpAny_bind fin
  · cases f with
    | next => exact hsp.elim fun σ1 z => z.elim fun H1 z => wpAny_execs_nil ⟨σ1, H1, z.1.ofTry ok, z.2⟩
    | brk => exact hsp.elim fun σ1 z => z.elim fun H1 z => ⟨σ1, H1, z.1.ofTry ok, z.2⟩
    | cont => exact hsp.elim fun σ1 z => z.elim fun H1 z => ⟨σ1, H1, z.1.ofTry ok, z.2⟩
    | ret u => exact hsp.elim fun v z => z.elim fun σ1 z => z.elim fun H1 z => ⟨v, σ1, H1, z.1.ofTry ok, z.2⟩
end
end Mo

/-! ### isinstance and the fields of an error that has its own dict -/
namespace Mo
open PySem PySem.W PySem.Spec PySem.Calls PyProof.Rows
section
variable {prog : Program} {w : World} {A : Around} {E : Value → Shared → Prop} {s : Shared} {K : Frag} {x D : Addr} {ox oy : Obj}
theorem err_class {Q : Option Value → Shared → Prop} (C : L2.ExcC K D) (X : K.In s.heap) (I : PySem.W.InstAt s.heap x ox D (some oy)) (h : Q (some (.ref D)) { s with toks := s.toks + 1 }) : wpAny (model prog w) A (getAttr? (.ref x) "__class__") Q E s := by
  have hf : findObj K D (some oy) "__class__" = some (.bind (.builtin "getset_descriptor.__get__") (.builtin "object.__class__")) := findObj_data (by obtain ⟨cd, hc, _⟩ := any_some C.hd; rw [hc]; rfl) C.ha C.hn C.ht
  obtain ⟨hp, g, d, t, os⟩ := s
  have a0 := I.type (M := model prog w)
  have a1 := looks_findIn (M := model prog w) X C.hg
  have a2 := looks_findIn (M := model prog w) X C.hk
  have a3 := looks_find (M := model prog w) X I hf
  have sub : Looks (model prog w) hp (isInstance (.ref x) (.type "BaseException")) true := a0.andThen (looks_subIn X C.hs)
  have y2 : (Value.builtin "BaseException.__getattribute__" == Value.builtin "object.__getattribute__") = false := by decide +kernel
  have y1 : (onTheHeap (Value.ref D) && Value.builtin "BaseException.__getattribute__" == Value.builtin "object.__getattribute__") = false := by rw [y2]; rfl
  have y0 : (false && onTheHeap (Value.builtin "BaseException.__getattribute__")) = false := rfl
  unfold getAttr? getAttrBy? getAttrBy
  refine wpAny_bind (wpAny_mkText (wpAny_bind (wpAny_attempt (wpAny_holding (wpAny_bind (a0.at (wpAny_bind (a1.at ?_))))))))
  show wpAny _ _ (if (onTheHeap (Value.ref D) && Value.builtin "BaseException.__getattribute__" == Value.builtin "object.__getattribute__") = true then _ else _) _ _ _
  rw [y1, if_neg Bool.false_ne_true]
  unfold getAttrByItsOwn hookBefore
  refine wpAny_bind (by
    rw [if_pos (show onTheHeap (Value.ref D) = true from rfl)]
    refine a2.at (wpAny_bind (wpAny_attempt (wpAny_holding ?_)))
    unfold callGetattribute
    rw [y0, if_neg Bool.false_ne_true]
    unfold boundAndCalled
    rw [PySem.F.excAttr_ValueError.ga.bind (.ref x)]
    refine wpAny_bind (wpAny_pure (by
      show wpAny _ _ (call (.builtin "BaseException.__getattribute__") [.ref x, .str "__class__" t]) _ _ _
      refine wpAny_call (codeAny_call_builtin PySem.F.excAttr_ValueError.ga.plain PySem.F.entry_bexc_ga (@check_slot (model prog w) _ _ ⟨hp, g, d, t + 1, os⟩ "BaseException.__getattribute__" "BaseException" "__getattribute__" (.ref x) [.str "__class__" t] [] _ (by decide +kernel) (by decide +kernel) sub (PySem.F.args_bexc_ga (.ref x) (.str "__class__" t)) ?_))
      unfold Builtin.«object.__getattribute__»
      refine wpAny_bind (wpAny_of_eq (a := ((Value.ref x : Value), [Value.str "__class__" t])) (by first | rfl | (simp only [slotArgs]; rfl)) (wpAny_bind (wpAny_pure (wpAny_bind (a0.at (wpAny_bind (a3.at ?_)))))))
      show wpAny _ _ (holding [Value.builtin "object.__class__"] (call (.builtin "getset_descriptor.__get__") [.builtin "object.__class__", .ref x, .ref D]) >>= ret) _ _ _
      refine wpAny_bind (wpAny_holding (wpAny_call (class_get (s := ⟨hp, g, d, t + 1, os⟩) (ox := ox) (od := some oy) X I C.hm (wpAny_pure ?_))))
      show wpAny _ _ (handedOut (.ref D)) _ _ _
      rw [handedOut_of (v := .ref D) rfl]
      first | exact wpAny_pure (wpAny_pure h) | exact wpAny_pure h | exact wpAny_pure (wpAny_bind (wpAny_pure (wpAny_pure h))))))
theorem err_kit (C : L2.ExcC K D) : KitX K (.ref x) (.ref D) (fun h => ∃ ox oy, PySem.W.InstAt h x ox D (some oy)) where
  ty := fun _ _ _ ⟨_, _, I⟩ => I.type
  it := fun M h X _ => by
    obtain ⟨cd, hc, _⟩ := any_some C.hd
    unfold clsIn at hc
    split at hc
    · rename_i c' d' cd' sl' ho
      intro A' Q' E' s' k q
      unfold isType loadHead
      exact wpAny_bind (wpAny_loadPart (k _ _ (X _ _ ho)) (wpAny_pure q))
    · cases hc
  ne := fun h tp dd its n sl X htp => by
    obtain ⟨cd, hc, _⟩ := any_some C.hd
    refine Bool.eq_false_iff.mpr fun q => ?_
    obtain rfl : D = tp := Value.ref.inj (beq_iff_eq.mp q)
    unfold clsIn at hc
    split at hc
    · rename_i c' d' cd' sl' ho
      cases (X _ _ ho).symm.trans htp
    · cases hc
  ca := fun X ⟨_, _, I⟩ k => err_class C X I k
end
end Mo
namespace Mo
open PySem PySem.Spec PyProof.Rows L2
section
variable {X : Cx} {pins : List (Addr × Obj)} {σ : L2.St} {H : Hp} {s : Shared}
/-- an error at a, its class at C, its dict at dd with the fields fs -/
def ErrAt (H : Hp) (a C dd : Addr) (fs : List (Str × V)) : Prop := H a = some (exV a (.ref C) (some dd)) ∧ H dd = some (.xd fs)
theorem ErrAt.inst {a C dd : Addr} {fs : List (Str × V)} (e : ErrAt H a C dd fs) (I : Inv X pins σ H s) : ∃ ox od mA, PySem.W.InstAt s.heap a ox C (some od) ∧ s.heap.Ns1 dd mA ∧ (∀ f, RelO (fs.lookup f) (mA f)) ∧ ∀ f, PySem.W.lookIn f od = some (mA f) := by
  obtain ⟨oe, vs, ha, hz, hd⟩ := exV_at I e.1
  obtain ⟨mA, hns, hr⟩ := (show ObjOk X.prog X.w H s.heap dd (.xd fs) from I.hok dd _ e.2)
  obtain ⟨od, ho, hl⟩ := lookIn_ns hns
  exact ⟨oe, od, mA, ⟨ha, hz.1, by unfold PySem.W.notCls; rw [hd] <;> rfl, by rw [hz.2]; exact ho⟩, hns, hr, hl⟩
/-- isinstance(err, c) -/
def rIsX (K : PySem.W.Frag) : List V → Hp → VK → Prop := fun xs H Q => ∃ (a C dd : Addr) (fs : List (Str × V)) (c : V) (u : Value) (b : Bool), xs = [.ref a, c] ∧ ErrAt H a C dd fs ∧ ExcC K C ∧ ClsV c u ∧ PySem.W.kitOne K (.ref C) u = some b ∧ Q (.bl b) H
theorem cr_isX : CallR X (.builtin "isinstance") (rIsX X.K) := by
  intro pins s σ H xs us Q I r h
  obtain ⟨a, C, dd, fs, c, u, b, rfl, ea, T, k, e, q⟩ := h
  obtain ⟨u1, u2, rfl, r1, r2⟩ := vals2 r
  cases r1
  obtain rfl := k.eq r2
  obtain ⟨ox, od, mA, J, _⟩ := ea.inst I
  exact PySem.W.kia_one (err_kit T) I.kIn ⟨ox, od, J⟩ e (fun z => nomatch z) fun tk => ⟨.bl b, H, I.tok tk, rfl, q⟩
/-- isinstance(err, (c1, c2, ..)) -/
def rIsXT (K : PySem.W.Frag) : List V → Hp → VK → Prop := fun xs H Q => ∃ (a C dd tp : Addr) (fs : List (Str × V)) (cs : List V) (us : List Value) (b : Bool), xs = [.ref a, .ref tp] ∧ ErrAt H a C dd fs ∧ ExcC K C ∧ H tp = some (.tup cs) ∧ Paired ClsV cs us ∧ PySem.W.kitAny K (.ref C) us = some b ∧ Q (.bl b) H
theorem cr_isXT : CallR X (.builtin "isinstance") (rIsXT X.K) := by
  intro pins s σ H xs us Q I r h
  obtain ⟨a, C, dd, tp, fs, cs, ws, b, rfl, ea, T, hT, k, e, q⟩ := h
  obtain ⟨u1, u2, rfl, r1, r2⟩ := vals2 r
  cases r1
  cases (show u2 = Value.ref tp from r2)
  obtain ⟨ox, od, mA, J, _⟩ := ea.inst I
  obtain ⟨_, its, rv, ⟨oc, od', dt, sl⟩, h1, h2, n, h3⟩ := (show ObjOk X.prog X.w H s.heap tp (.tup cs) from I.hok tp _ hT)
  obtain rfl := ClsV.all k rv
  simp only at h2 h3
  subst h2 h3
  exact PySem.W.kia_tup (err_kit T) I.kIn ⟨ox, od, J⟩ h1 e (fun z => nomatch z) fun tk => ⟨.bl b, H, I.tok tk, rfl, q⟩
/-- err.f -/
def tXv (K : PySem.W.Frag) (f : Str) (te : TE) : TE := fun σ H Q => te σ H fun x H1 => ∃ (a C dd : Addr) (fs : List (Str × V)) (v : V), x = .ref a ∧ ErrAt H1 a C dd fs ∧ XfC K C ∧ PySem.W.findIn K (.ref C) f = some none ∧ fs.lookup f = some v ∧ Q v H1
theorem pe_xv {e : Expr} {te : TE} {pos : Pos} {f : Str} (he : PE X e te) (hb : attributeBase e f X.env (eval e X.env) = eval e X.env := by rfl) : PE X (.Attribute e f pos) (tXv X.K f te) := by
  refine ⟨fun pins s σ H Q I h => ?_⟩
  refine attr_of hb (thn (he.run pins s σ H _ I h) fun u s1 hh => ?_)
  obtain ⟨x, H1, I1, rx, a, C, dd, fs, v, rfl, ea, T, hno, l, q⟩ := hh
  obtain rfl : u = Value.ref a := rx
  obtain ⟨ox, od, mA, J, hns, hr, hl⟩ := ea.inst I1
  obtain ⟨u, hu, ru⟩ := RelO.some_of (v := v) (o := mA f) (by rw [← l]; exact hr f)
  exact HandSPX.exc_get I1.kIn J T.ga T.gg T.exC (PySem.W.findObj_own T.hdC hno rfl (by rw [hl, hu])) (handed_of ru) ⟨v, H1, I1.tok _, ru, q⟩
end
end Mo

/-! ### defs called where no repr is under way: then repr of lists, tuples and dicts is known to the letter -/
namespace Mo
open PySem PySem.Spec PyProof.Rows L2
/-- as FnOk, for callers under no guard -/
structure FnG (P : Program) (w : World) (K : PySem.W.Frag) (mg : Str → Option Value) (base : Heap) (CX : CXT) (k : Nat) (f : Addr) (fd : FuncData) (ps : List Str) (sp : Sp) : Prop where
  len : ∀ vs H Q E, sp vs H Q E → vs.length = ps.length
  run : ∀ (A : Around) (outer : List Env) (s : Shared) (H : Hp) (args : Args) (us : List Value) (vs : List V) (Q : VK) (E : XK), Room k A → A.guards = some [] → Env0 P w K mg base A outer s H → BindsTo s fd args (ps.zip us) → Vals vs us → sp vs H Q E →
    codeAny (model P w) A (.call (.ref f) args) (CR CX outer P w H s Q E) s
section
variable {P : Program} {w : World} {K : PySem.W.Frag} {mg : Str → Option Value} {base : Heap} {CX : CXT} {k : Nat} {f : Addr} {fd : FuncData} {ps : List Str} {sp : Sp}
theorem FnG.of (F : FnOk P w K mg base CX k f fd ps sp) : FnG P w K mg base CX k f fd ps sp := ⟨F.len, fun A o s H a us vs Q E hr _ => F.run A o s H a us vs Q E hr⟩
/-- a def by its body, its guards told -/
theorem okG_of {x qual : Str} {st : Stmt} {N : List Str} (F : Fun K x qual st f fd) (S : FnScope N ps (defScope st)) (len : ∀ vs H Q E, sp vs H Q E → vs.length = ps.length)
    (hbody : ∀ (cdv : Value) (A : Around) (outer : List Env) (s : Shared) (H : Hp) (vs : List V) (Q : VK) (E : XK), Room k (A.deeper (envOfC qual (defScope st) s.heap.objs.size f cdv)) → A.guards = some [] → sp vs H Q E →
      ∃ t, PSs (cxOf CX P w K mg base N qual (defScope st) f cdv A outer s H E) (defBody st) t ∧ t { nx := fun _ H' => Q .non H', rt := Q } (start N vs) H) : FnG P w K mg base CX (k + 1) f fd ps sp := by
  obtain ⟨oc, od, kV, doc, pm, an, cdv, ct, osl, rfl, lk, hcd⟩ := F.ex
  refine ⟨len, fun A outer s H args us vs Q E hr hg e0 hb r hsp => ?_⟩
  have kept : ∀ b o, base.get? b = some o → s.heap.get? b = some o := fun b o e => (e0.bs b o e).1
  have KX : K.In s.heap := e0.mod.kin.keeps kept
  have kinds : ∀ y ∈ ps.zip us, (defScope st).names.lookup y.1 = some .local ∨ ((defScope st).names.lookup y.1 = some .cell ∧ ((cellsFrom (s.heap.objs.size + 1) (defScope st).names []).lookup y.1).isSome = true) := fun y hy =>
    (S.par y.1 (List.of_mem_zip (a := y.1) (b := y.2) hy).1).elim .inl fun q => .inr ⟨q, PySem.W.cellsFrom_some _ _ _ (.inl q)⟩
  refine codeAny_call_function hr.depth (KX _ _ lk) rfl S.co S.gen rfl (PySem.W.codeRec_of KX hcd) (hb _ _ _ _ (wpAny_newFunctionEnv_cells S.kind kinds fun env he s1 x => ?_))
  subst he
  refine ⟨(e0.mod.nolimit.keeps kept).keeps x.toInCall.keep, codeAny_func ?_⟩
  obtain ⟨t, ht, hq⟩ := hbody cdv A outer s H vs Q E (hr.deeper _) hg hsp
  have I : Inv (cxOf CX P w K mg base N qual (defScope st) f cdv A outer s H E) [] (start N vs) H s1 := inv_start S hr.hd e0 (len _ _ _ _ hsp) r x
  refine wpAny_mono (ht.run [] s1 (start N vs) H _ I hq) (fun fl s' hs => ?_) fun e s' hs => hs
  cases fl with
  | ret u => exact hs.elim fun v z => z.elim fun σ' z => z.elim fun H' z => ⟨v, H', z.1.os, z.1.bare, z.1.base, z.1.hok, z.2.1, z.2.2⟩
  | next => exact hs.elim fun σ' z => z.elim fun H' z => ⟨V.non, H', z.1.os, z.1.bare, z.1.base, z.1.hok, rfl, z.2⟩
  | brk => exact hs.elim fun _ z => z.elim fun _ z => z.2.elim
  | cont => exact hs.elim fun _ z => z.elim fun _ z => z.2.elim
/-- a def that raises nothing -/
theorem okG {x qual : Str} {st : Stmt} {N : List Str} (F : Fun K x qual st f fd) (S : FnScope N ps (defScope st)) (len : ∀ vs H Q E, sp vs H Q E → vs.length = ps.length)
    (hbody : ∀ (cdv : Value) (A : Around) (outer : List Env) (s : Shared) (H : Hp) (vs : List V) (Q : VK) (E : XK), Room k (A.deeper (envOfC qual (defScope st) s.heap.objs.size f cdv)) → A.guards = some [] → sp vs H Q E →
      ∃ t, PSs (cxOf CX0 P w K mg base N qual (defScope st) f cdv A outer s H E).nox (defBody st) t ∧ t { nx := fun _ H' => Q .non H', rt := Q } (start N vs) H) : FnG P w K mg base CX0 (k + 1) f fd ps sp :=
  okG_of F S len fun cdv A outer s H vs Q E hr hg hsp => (hbody cdv A outer s H vs Q E hr hg hsp).elim fun t z => ⟨t, z.1.nox, z.2⟩
end
section
variable {X : Cx} {CX : CXT} {x : Str} {f : Addr} {k : Nat} {fd : FuncData} {ps : List Str} {sp : Sp} {ds : List Value} {dvs : List V} {E : XK} {e : Expr} {es : List Expr} {t : TA} {p pos : Pos}
theorem run_G {pins : List (Addr × Obj)} {σ : L2.St} {H : Hp} {s : Shared} {Q : VK} {us : List Value} {vs : List V} (F : FnG X.prog X.w X.K X.mg X.base CX k f fd ps sp) (hr : Room k X.A) (hu : X.A.guards = some []) (hb : Binds X.K fd ps ds) (hd : Vals dvs ds) (hx : Passes CX X E)
    (I : Inv X pins σ H s) (r : Vals vs us) (h : sp (vs ++ dvs) H Q E) : wpAny (model X.prog X.w) X.A (call (.ref f) us) (EP X pins σ Q) X.xe s := by
  have rr : Vals (vs ++ dvs) (us ++ ds) := r.append hd
  refine wpAny_call (codeAny_mono (F.run X.A X.stack s H ⟨us, []⟩ (us ++ ds) (vs ++ dvs) Q E hr hu I.env0 (hb s us I.kIn (rr.length.symm.trans (F.len _ _ _ _ h))) rr h) fun r s' hq => ?_)
  cases r with
  | error e => exact hx pins σ H s e s' I hq
  | ok fl =>
    cases fl with
    | ret u => exact I.after hq
    | next => exact hq.elim
    | brk => exact hq.elim
    | cont => exact hq.elim
/-- f(e, ..), f by FnG -/
theorem pe_callG (F : FnG X.prog X.w X.K X.mg X.base CX k f fd ps sp) (hr : Room k X.A) (hu : X.A.guards = some []) (hg : Gl X x) (hm : X.mg x = some (.ref f)) (hk : PySem.W.keepIn X.K (.ref f) = true) (hb : Binds X.K fd ps ds) (hd : Vals dvs ds) (hx : Passes CX X E)
    (ha : PA X (e :: es) t) (hdb : (x == ("__debug__" : Str)) = false := by decide) (he : starEach (e :: es) X.env = (false, eval e X.env) :: starEach es X.env := by rfl) (hpl : (backTo pos (starEach es X.env)).any (·.1) = false := by rfl) :
    PE X (.Call (.Name x p) (e :: es) [] pos) (tCall sp dvs E t) :=
  ⟨fun pins s σ H Q I h => wpAny_Call_Name_kw (ld_glob I hg hm (PySem.W.callWith_K (h₀ := X.base) I.ok.mod.kin hk (thn (ha.run pos pins s σ H _ I h) fun us s1 ⟨vs, H1, I1, r, q⟩ => ⟨I1.kIn, run_G F hr hu hb hd hx I1 r q⟩) he hpl) hdb)⟩
end
/-! ### repr of data -/
/-- data with the empty dict -/
def Dat (K : PySem.W.Frag) (H : Hp) (x : V) (d : PyData) : Prop := Dp K H x d ∨ ∃ a, x = .ref a ∧ H a = some (.dK []) ∧ d = .dict []
section
variable {X : Cx} {pins : List (Addr × Obj)} {σ : L2.St} {H : Hp} {s : Shared}
theorem Dat.reads {x : V} {u : Value} {d : PyData} (I : Inv X pins σ H s) (h : Dat X.K H x d) (r : RelV x u) : ∃ as, Reads s.heap u d as ∧ (d.hasDict = true → sysModules ∉ as) := by
  rcases h with h | ⟨a, rfl, ha, rfl⟩
  · obtain ⟨as, q⟩ := Dp.reads I d x u h r
    have key : ∀ {x : V} {d : PyData}, Dp X.K H x d → d.hasDict = false := by
      intro x d h
      refine Dp.rec (motive_1 := fun _ d _ => d.hasDict = false) (motive_2 := fun _ ds _ => PyData.hasDictAll ds = false) ?_ ?_ ?_ ?_ ?_ ?_ ?_ ?_ h
      · rfl
      · intro b; rfl
      · intro i; rfl
      · intro z; rfl
      · intro a xs ds _ _ ih; exact ih
      · intro a xs ds _ _ ih; exact ih
      · rfl
      · intro v vs d ds _ _ i1 i2
        show (PyData.hasDict d || PyData.hasDictAll ds) = false
        rw [i1, i2]
        rfl
    exact ⟨as, q, fun z => by rw [key h] at z; cases z⟩
  · obtain rfl : u = Value.ref a := r
    obtain ⟨_, hs, vs, kv, o, es, ep, ho, hc, hdt, hes⟩ := (show ObjOk X.prog X.w H s.heap a (.dK []) from I.hok a _ ha)
    cases kv
    have e0 : es.toList = [] := by
      obtain ⟨_, hp, _⟩ := hes
      cases q : es.toList with
      | nil => rfl
      | cons x r => rw [q] at hp; cases hp
    refine ⟨_, .dict (as := []) (bs := []) ho hc.1 hdt (by rw [e0]; exact .nil) (by rw [e0]; exact .nil), fun _ z => ?_⟩
    rw [List.append_nil, List.mem_singleton] at z
    rw [← z] at hs
    simp at hs
/-- repr(data) -/
def rReprD (K : PySem.W.Frag) : List V → Hp → VK → Prop := fun xs H Q => ∃ (x : V) (d : PyData), xs = [x] ∧ Dat K H x d ∧ d.showable = true ∧ d.depth ≤ 40 ∧ d.shown.length ≤ sizeLine ∧ Q (.str d.shown) H
theorem cr_reprD (hg : X.A.guards = some []) (hu : X.A.units + 64 < cLine) : CallR X (.builtin "repr") (rReprD X.K) := by
  intro pins s σ H xs us Q I r h
  obtain ⟨x, d, rfl, hd, hs, hdp, hz, q⟩ := h
  obtain ⟨u, rfl, ru⟩ := vals1 r
  obtain ⟨as, rd, hsm⟩ := hd.reads I ru
  cases rd with
  | none => exact PySem.P.repr_of_none ⟨.str _, H, I.tok _, ⟨_, rfl⟩, q⟩
  | bool b => exact PySem.P.repr_of_bool ⟨.str _, H, I.tok _, ⟨_, rfl⟩, q⟩
  | int i t => exact PySem.P.repr_of_int (of_decide_eq_true hs) ⟨.str _, H, I.tok _, ⟨_, rfl⟩, q⟩
  | str z t => exact PySem.P.repr_of_str ⟨.str _, H, I.tok _, ⟨_, rfl⟩, q⟩ hz
  | list a1 a2 a3 a4 => exact repr_of_reads' (.list a1 a2 a3 a4) hs hsm hg (by omega) (fun _ _ e => e) (fun h' u' tk hk => ⟨.str _, H, I.kept (t' := tk) hk, ⟨_, rfl⟩, q⟩) hz
  | tuple a1 a2 a3 a4 => exact repr_of_reads' (.tuple a1 a2 a3 a4) hs hsm hg (by omega) (fun _ _ e => e) (fun h' u' tk hk => ⟨.str _, H, I.kept (t' := tk) hk, ⟨_, rfl⟩, q⟩) hz
  | dict a1 a2 a3 a4 a5 => exact repr_of_reads' (.dict a1 a2 a3 a4 a5) hs hsm hg (by omega) (fun _ _ e => e) (fun h' u' tk hk => ⟨.str _, H, I.kept (t' := tk) hk, ⟨_, rfl⟩, q⟩) hz
end
end Mo
namespace Mo
open PySem PySem.Spec PyProof.Rows L2
/-- an own error class over ValueError with one field f, its __init__ at fI -/
structure ErrC (K : PySem.W.Frag) (C fI : Addr) (f : Str) : Prop where
  oex : OexC K C
  xf : XfC K C
  exc : ExcC K C
  no : PySem.W.findIn K (.ref C) f = some none
  te : PySem.W.exmOne K (.ref C) (.ref C) = some true
  iC : PySem.W.findIn K (.ref C) "__init__" = some (some (.ref fI))
  tI : PySem.W.typeIn K (.ref fI) = some (.type "function")
/-- its __init__: self.f = y -/
def spInit (C : Addr) (f : Str) : Sp := fun vs H Q _ => ∃ (a : Addr) (y : V), vs = [.ref a, y] ∧ H a = some (exo a C none) ∧ ∀ dx, H dx = none → dx ≠ a → Q .non (upd (upd H dx (exd dx [(f, y)])) a (exo a C (some dx)))
/-- raising it: what is left to be shown -/
theorem err_read {C : Addr} {f : Str} {H : Hp} {v : V} {Q : XK} (h : ∀ d H', H d = none → Same H H' → H' d = some (.xd [(f, v)]) → Q (.ref C) (some d) H') :
    [v].length ≤ 1000 ∧ ∀ a, H a = none → spInit C f (.ref a :: ([v] ++ [])) (upd H a (exo a C none)) (fun x H2 => x = .non ∧ ∃ (d : Addr) (fs : List (Str × V)), H2 a = some (exo a C (some d)) ∧ H2 d = some (exd d fs) ∧ H d = none ∧ Q (.ref C) (some d) (upd (del H2 a) d (.xd fs))) (fun _ _ _ => False) := by
  refine ⟨by show 1 ≤ 1000; decide, fun a na => ⟨a, v, rfl, upd_same, fun dx nd ne => ⟨rfl, dx, [(f, v)], upd_same, by rw [upd_ne ne, upd_same], ?_, ?_⟩⟩⟩
  · rw [upd_ne ne] at nd
    exact nd
  · have nd' : H dx = none := by rw [upd_ne ne] at nd; exact nd
    refine h dx _ nd' (fun b o e => ?_) upd_same
    have nb : b ≠ dx := ne_of_none e nd'
    have nba : b ≠ a := ne_of_none e na
    rw [upd_ne nb, del_ne nba, upd_ne nba, upd_ne nb, upd_ne nba]
    exact e
theorem kit1_type {K : PySem.W.Frag} {C : Addr} {T : String} {b : Bool} (h : PySem.W.subIn K (.ref C) (.type T) = some b) (hm : PySem.W.kitMeta T = true) : PySem.W.kitOne K (.ref C) (.type T) = some b := by
  show (if (Value.ref C == Value.type T) = true then some true else (if PySem.W.kitMeta T = true then PySem.W.subIn K (.ref C) (.type T) else none)) = some b
  rw [if_neg (by intro z; cases beq_iff_eq.mp z), if_pos hm]
  exact h
theorem kit1_ref {K : PySem.W.Frag} {C D : Addr} (h : PySem.W.subIn K (.ref C) (.ref D) = some false) (hs : PySem.W.subIn K (.ref C) (.ref C) = some true) (hc : PySem.W.isClsIn K D = true) (ht : PySem.W.typeIn K (.ref D) = some (.type "type")) : PySem.W.kitOne K (.ref C) (.ref D) = some false := by
  have hc2 : (PySem.W.clsIn K D).isSome = true := hc
  show (if (Value.ref C == Value.ref D) = true then some true else (if ((PySem.W.clsIn K D).isSome && PySem.W.typeIn K (.ref D) == some (.type "type")) = true then PySem.W.subIn K (.ref C) (.ref D) else none)) = some false
  rw [if_neg (by intro z; rw [← beq_iff_eq.mp z, hs] at h; cases h), if_pos (by rw [hc2, ht]; rfl)]
  exact h
end Mo

/-! ### the end of a law whose promise is an FnG -/
namespace Mo
open PySem PySem.Spec PyProof.Rows L2
theorem callG {P : Program} {w : World} {K : PySem.W.Frag} {mg mb : Str → Option Value} {CX : CXT} {k : Nat} {fa a : Addr} {fd : FuncData} {x : Str} {sp : Sp} {s₁ : Shared} {vs : List Value} {ns : List Int}
    (KX : K.In s₁.heap) (hns : s₁.heap.Ns mainGlobals mg) (hb : s₁.heap.Ns builtinsNs mb) (hbb : ∀ x : Str, x ≠ "__name__" → mb x = bootBuiltins x) (hlim : s₁.heap.NoLimit) (hg : s₁.gens = #[])
    (ha : s₁.heap.get? a = some { cls := .type "list", data := .seq vs.toArray }) (hi : IntsAre vs ns) (hl : ns.length ≤ sizeLine) (hr : Room k callerA)
    (F : ∀ base : Heap, K.In base → base.Ns mainGlobals mg → (∀ b m, s₁.heap.Ns b m → base.Ns b m) → FnG P w K mg base CX k fa fd [x] sp) (hbind : ∀ (s : Shared) (u : Value), BindsTo s fd ⟨[u], []⟩ [(x, u)])
    (hsp : ∀ H : Hp, Only H → SqL K H a (ns.map V.int) → sp [.ref a] H (fun v _ => v = .bl true) fun _ _ _ => False)
    (hCX : ∀ H e s', CX [] H s₁ (fun _ _ _ => False) e s' → False) :
    codeAny (model P w) callerA (.call (.ref fa) ⟨[.ref a], []⟩) (fun r s' => r = .ok (.ret (.bool true)) ∧ OldK s₁.heap s'.heap ∧ s'.os = s₁.os ∧ AllBare s'.gens) s₁ := by
  have rv := vals_ints hi
  have lenV := hi.length
  have core : ∀ H : Hp, Only H → SqL K H a (ns.map V.int) → HOk P w H s₁.heap → (∀ b, H b ≠ none → b = a) → (H a ≠ none → K.lookup a = none) →
      codeAny (model P w) callerA (.call (.ref fa) ⟨[.ref a], []⟩) (fun r s' => r = .ok (.ret (.bool true)) ∧ OldK s₁.heap s'.heap ∧ s'.os = s₁.os ∧ AllBare s'.gens) s₁ := by
    intro H hO hS hok hA hK
    have atA : ∀ {b : Addr} {u : HO}, H b = some u → b = a := fun {b u} q => hA b (by rw [q]; exact Option.some_ne_none _)
    have grnd : ∀ {b : Addr} {o : Obj}, s₁.heap.get? b = some o → H b = none → (hidT s₁.heap H).get? b = some o := fun e n => hidT_get e n
    have noA : ∀ {b : Addr} {o : Obj} {es : Array DictEntry} {ep : Nat}, s₁.heap.get? b = some o → o.data = .dict es ep → H b = none := fun {b o es ep} e d => by
      cases q : H b with
      | none => rfl
      | some u =>
        rw [atA q, ha] at e
        cases e
        cases (show Data.seq vs.toArray _ = Data.dict es ep from d)
    have nsK : ∀ {b : Addr} {m : Str → Option Value}, s₁.heap.Ns b m → (hidT s₁.heap H).Ns b m := fun {b m} ⟨o, es, ep, e, d, r⟩ => ⟨o, es, ep, grnd e (noA e d), d, r⟩
    have hKb : K.In (hidT s₁.heap H) := fun b o e => grnd (KX b o e) (by
      cases q : H b with
      | none => rfl
      | some u =>
        obtain rfl := atA q
        rw [hK (by rw [q]; exact Option.some_ne_none _)] at e
        cases e)
    have hM : Mod K mg (hidT s₁.heap H) := ⟨hKb, nsK hns, ⟨mb, nsK hb, hbb⟩, hlim.elim fun mc z => ⟨mc, nsK z.1, z.2⟩⟩
    have e0 : Env0 P w K mg (hidT s₁.heap H) callerA [] s₁ H := ⟨rfl, hM, fun b o e => of_hidT e, Nat.le_of_eq (hidT_size _ _), trivial, fun b hb => absurd (show b ∈ ([] : List Addr) from hb) (by simp), hok, .of_eq hg⟩
    refine codeAny_mono ((F _ hKb (nsK hns) fun b m z => nsK z).run callerA [] s₁ H ⟨[.ref a], []⟩ [.ref a] [.ref a] _ _ hr rfl e0 (hbind s₁ (.ref a)) (.cons rfl .nil) (hsp H hO hS)) fun r s' h => ?_
    cases r with
    | error e => exact (hCX H e s' h).elim
    | ok fl =>
      cases fl with
      | next => exact h.elim
      | brk => exact h.elim
      | cont => exact h.elim
      | ret u =>
        obtain ⟨v, H', os, bare, un, hok', r', q⟩ := h
        obtain rfl : v = .bl true := q
        obtain rfl : u = Value.bool true := r'
        refine ⟨rfl, OldK.of_keep fun b o e => ?_, os, bare⟩
        cases q : H b with
        | none => exact un.keep b o e q (by intro z; exact absurd (show b ∈ ([] : List Addr) from z) (by simp)) (by simp)
        | some u =>
          rcases hO b with z | ⟨ob, xs, z⟩
          · rw [q] at z
            cases z
          · have z2 := un.frzs b ob _ z
            have e1 := (hok b _ z).1
            rw [e] at e1
            cases e1
            exact (hok' b _ z2).1
  cases hk : K.lookup a with
  | some o =>
    have e := KX a o hk
    rw [ha] at e
    cases e
    exact core (fun _ => none) (fun _ => .inl rfl) (.inr ⟨_, vs.toArray, _, hk, rfl, rfl, rfl, by rw [List.size_toArray, lenV]; exact hl, by simpa using rv⟩) (fun b u z => nomatch z) (fun b z => absurd rfl z) fun z => absurd rfl z
  | none =>
    have at2 : ∀ {b : Addr} {u : HO}, (if b = a then some (HO.frz { cls := .type "list", data := .seq vs.toArray } (.lst (ns.map V.int))) else none) = some u → b = a ∧ u = .frz { cls := .type "list", data := .seq vs.toArray } (.lst (ns.map V.int)) := fun {b u} z => by
      by_cases hb : b = a
      · rw [if_pos hb] at z
        exact ⟨hb, (Option.some.inj z).symm⟩
      · rw [if_neg hb] at z
        cases z
    refine core (fun b => if b = a then some (.frz { cls := .type "list", data := .seq vs.toArray } (.lst (ns.map V.int))) else none) (fun b => ?_) (.inl (.inr ⟨{ cls := .type "list", data := .seq vs.toArray }, if_pos rfl⟩)) (fun b u z => ?_) (fun b z => ?_) fun _ => hk
    · by_cases hb : b = a
      · exact .inr ⟨_, _, if_pos hb⟩
      · exact .inl (if_neg hb)
    · obtain ⟨rfl, rfl⟩ := at2 z
      exact ⟨ha, by rw [List.length_map]; exact hl, vs, _, rv, ha⟩
    · by_cases hb : b = a
      · exact hb
      · exact absurd (if_neg hb) z
theorem walkG {l : PySem.W.OpenLaw} {n k : Nat} {q : Program} {loose : List Str} {XP : (Str → Option Value) → Heap → Prop} {YP : World → Heap → Prop} {d : DefRec} {K : Params → PySem.W.Frag} {CX : World → CXT} {sp : World → Sp} {x : Str}
    (hn : l.most = some n) (hn2 : n ≤ sizeLine) (hdf : d.params.defaults = []) (hr : Room k callerA) (hY : ∀ (w : World) (h : Heap), YP w h → (K w.params).In h)
    (F : ∀ (w : World) (mg : Str → Option Value) (fa : Addr) (h : Heap), (K w.params).In h → h.Ns mainGlobals mg → mg d.name = some (.ref fa) →
      ∃ fd : FuncData, (∀ (s : Shared) (u : Value), BindsTo s fd ⟨[u], []⟩ [(x, u)]) ∧ ∀ base : Heap, (K w.params).In base → base.Ns mainGlobals mg → FnG l.prog w (K w.params) mg base (CX w) k fa fd [x] (sp w))
    (hsp : ∀ (w : World) (H : Hp) (a : Addr) (ns : List Int), ns.length ≤ n → Only H → SqL (K w.params) H a (ns.map V.int) → sp w [.ref a] H (fun v _ => v = .bl true) fun _ _ _ => False)
    (hCX : ∀ (w : World) (H : Hp) (s : Shared) (e : Value) (s' : Shared), CX w [] H s (fun _ _ _ => False) e s' → False) :
    PySem.W.WalkO q loose XP YP l.row.toRowW d [] (fun f vs => PySem.call f vs) := by
  refine Att.attach_call hn hdf fun w s₀ s₁ mg mb fa o pm cd doc a vs ns G Y ho hd hcd hmg hobj hints hlen hg => ?_
  obtain ⟨fd, hb, hF⟩ := F w mg fa _ (hY w _ Y) G.T.g hmg
  exact callG (hY w _ Y) G.T.g G.T.b G.T.builtins G.T.nolimit hg hobj hints (Nat.le_trans hlen hn2) hr (fun base a b _ => hF base a b) hb (fun H hO hS => hsp w H a ns hlen hO hS) fun H e s' => hCX w H s₁ e s'
/-- where repr meets dicts: sys.modules is there, and is none of ours -/
theorem walkM {l : PySem.W.OpenLaw} {n k : Nat} {q : Program} {loose : List Str} {XP : (Str → Option Value) → Heap → Prop} {YP : World → Heap → Prop} {d : DefRec} {K : Params → PySem.W.Frag} {CX : World → CXT} {sp : World → Sp} {x : Str}
    (hn : l.most = some n) (hn2 : n ≤ sizeLine) (hdf : d.params.defaults = []) (hr : Room k callerA) (hY : ∀ (w : World) (h : Heap), YP w h → (K w.params).In h) (hi : importsNone q = true)
    (F : ∀ (w : World) (mg : Str → Option Value) (fa : Addr) (h : Heap), (K w.params).In h → h.Ns mainGlobals mg → mg d.name = some (.ref fa) →
      ∃ fd : FuncData, (∀ (s : Shared) (u : Value), BindsTo s fd ⟨[u], []⟩ [(x, u)]) ∧ ∀ base : Heap, (K w.params).In base → base.Ns mainGlobals mg → (∃ mm, base.Ns sysModules mm) → FnG l.prog w (K w.params) mg base (CX w) k fa fd [x] (sp w))
    (hsp : ∀ (w : World) (H : Hp) (a : Addr) (ns : List Int), ns.length ≤ n → Only H → SqL (K w.params) H a (ns.map V.int) → sp w [.ref a] H (fun v _ => v = .bl true) fun _ _ _ => False)
    (hCX : ∀ (w : World) (H : Hp) (s : Shared) (e : Value) (s' : Shared), CX w [] H s (fun _ _ _ => False) e s' → False) :
    PySem.W.WalkO q loose XP YP l.row.toRowW d [] (fun f vs => PySem.call f vs) := by
  refine Att.attach_call hn hdf fun w s₀ s₁ mg mb fa o pm cd doc a vs ns G Y ho hd hcd hmg hobj hints hlen hg => ?_
  obtain ⟨fd, hb, hF⟩ := F w mg fa _ (hY w _ Y) G.T.g hmg
  obtain ⟨mm, hm, _⟩ := (G.T.seer hi).mods
  exact callG (hY w _ Y) G.T.g G.T.b G.T.builtins G.T.nolimit hg hobj hints (Nat.le_trans hlen hn2) hr (fun base a b c => hF base a b ⟨mm, c _ _ hm⟩) hb (fun H hO hS => hsp w H a ns hlen hO hS) fun H e s' => hCX w H s₁ e s'
end Mo

/-! ### lambdas without parameters, handed to a def that calls them within a try -/
namespace Mo
open PySem PySem.Spec PyProof.Rows L2
section
variable {P : Program} {w : World} {K : PySem.W.Frag} {mg : Str → Option Value} {base : Heap} {k : Nat} {f c : Addr} {fd : FuncData} {ps : List Str} {sp : Sp}
/-- a def that raises nothing, the place of its code object told -/
theorem okT {x qual : Str} {st : Stmt} {N : List Str} (F : Fun K x qual st f fd) (hc : fd.code = .ref c) (S : FnScope N ps (defScope st)) (len : ∀ vs H Q E, sp vs H Q E → vs.length = ps.length)
    (hbody : ∀ (A : Around) (outer : List Env) (s : Shared) (H : Hp) (vs : List V) (Q : VK) (E : XK), Room k (A.deeper (envOfC qual (defScope st) s.heap.objs.size f (.ref c))) → A.guards = some [] → sp vs H Q E →
      ∃ t, PSs (cxOf CX0 P w K mg base N qual (defScope st) f (.ref c) A outer s H E).nox (defBody st) t ∧ t { nx := fun _ H' => Q .non H', rt := Q } (start N vs) H) : FnG P w K mg base CX0 (k + 1) f fd ps sp := by
  obtain ⟨oc, od, kV, doc, pm, an, cdv, ct, osl, rfl, lk, hcd⟩ := F.ex
  obtain rfl : cdv = .ref c := hc
  refine ⟨len, fun A outer s H args us vs Q E hr hg e0 hb r hsp => ?_⟩
  have stays : ∀ b o, base.get? b = some o → s.heap.get? b = some o := fun b o e => (e0.bs b o e).1
  have KX : K.In s.heap := e0.mod.kin.keeps stays
  have kinds : ∀ y ∈ ps.zip us, (defScope st).names.lookup y.1 = some .local ∨ ((defScope st).names.lookup y.1 = some .cell ∧ ((cellsFrom (s.heap.objs.size + 1) (defScope st).names []).lookup y.1).isSome = true) := fun y hy =>
    (S.par y.1 (List.of_mem_zip (a := y.1) (b := y.2) hy).1).elim .inl fun q => .inr ⟨q, PySem.W.cellsFrom_some _ _ _ (.inl q)⟩
  refine codeAny_call_function hr.depth (KX _ _ lk) rfl S.co S.gen rfl (PySem.W.codeRec_of KX hcd) (hb _ _ _ _ (wpAny_newFunctionEnv_cells S.kind kinds fun env he s1 x => ?_))
  subst he
  refine ⟨(e0.mod.nolimit.keeps stays).keeps x.toInCall.keep, codeAny_func ?_⟩
  obtain ⟨t, ht, hq⟩ := hbody A outer s H vs Q E (hr.deeper _) hg hsp
  have I : Inv (cxOf CX0 P w K mg base N qual (defScope st) f (.ref c) A outer s H E) [] (start N vs) H s1 := inv_start S hr.hd e0 (len _ _ _ _ hsp) r x
  refine wpAny_mono (ht.nox.run [] s1 (start N vs) H _ I hq) (fun fl s' hs => ?_) fun e s' hs => hs
  cases fl with
  | ret u => exact hs.elim fun v z => z.elim fun σ' z => z.elim fun H' z => ⟨v, H', z.1.os, z.1.bare, z.1.base, z.1.hok, z.2.1, z.2.2⟩
  | next => exact hs.elim fun σ' z => z.elim fun H' z => ⟨V.non, H', z.1.os, z.1.bare, z.1.base, z.1.hok, rfl, z.2⟩
  | brk => exact hs.elim fun _ z => z.elim fun _ z => z.2.elim
  | cont => exact hs.elim fun _ z => z.elim fun _ z => z.2.elim
end
/-- the call of what was got: it stands in slot i; what it lets out is wished by W there -/
def tAct (i : Nat) (fn cc : Addr) (q : Str) (tl : XK → Hp → VK → Prop) (W : WX) : TE := fun σ H Q =>
  σ[i]? = some (some (.ref fn)) ∧ H cc = some (LamX.CodeO cc q) ∧ ∃ E : XK, (∀ cls d H', E cls d H' → W cls d σ H') ∧ tl E H Q
section
variable {X : Cx} {pins : List (Addr × Obj)} {σ : L2.St} {H : Hp} {s : Shared}
theorem pe_actS {CXg : CXT} {Eg : XK} {Ng : List Str} {qg : Str} {sg : Scope} {g fn cc : Addr} {cdg pm ctv : Value} {params : Arguments} {body : Expr} {scope : Scope} {k i : Nat} {a : Str} {pn : List (Addr × Obj)} {xe : Value → Shared → Prop} {W : WX} {tb : XK → TE} {p1 p2 : Pos}
    (I : Inv X pins σ H s) (L : LamX.LamS X.env.scope scope) (hf : s.heap.get? fn = some (PySem.W.kla_obj "<lambda>" (X.env.qual ++ "<lambda>") params body scope (cloFrom X.env.cells scope.names []) pm cc ctv)) (nfn : H fn = none) (frn : fn ∉ frs X.stack)
    (hbind : bindArgs (PySem.W.kla_fn "<lambda>" (X.env.qual ++ "<lambda>") params body scope (cloFrom X.env.cells scope.names []) pm (.ref cc) ctv) ⟨[], []⟩ = pure [])
    (tk : Takes ((cxOf CXg X.prog X.w X.K X.mg X.base Ng qg sg g cdg X.A X.stack s H Eg).tr pn xe) W) (hr : Room (k + 1) (X.A.deeper (envOfC qg sg s.heap.objs.size g cdg)))
    (hbody : ∀ (A : Around) (outer : List Env) (s' : Shared) (H' : Hp) (E : XK), Room k (A.deeper (LamX.lamEnv X scope s'.heap.objs.size fn cc)) → A.guards = X.A.guards → PE (LamX.lamCx X A outer s' H' E scope fn cc) body (tb E))
    (hN : Ng[i]? = some a) (hv : Vis sg a) (hd : (a == ("__debug__" : Str)) = false := by decide) (hcd : (a == ("__classdict__" : Str)) = false := by decide) :
    PE ((cxOf CXg X.prog X.w X.K X.mg X.base Ng qg sg g cdg X.A X.stack s H Eg).tr pn xe) (.Call (.Name a p1) [] [] p2) (tAct i fn cc (X.env.qual ++ "<lambda>") (fun E H' Q' => tb E σ H' Q') W) := by
  refine ⟨fun pinsZ sZ σZ HZ Q IZ want => ?_⟩
  obtain ⟨at_i, at_c, E, toW, told⟩ := want
  refine wpAny_Call_Name_kw (thn ((pe_var (pos := p1) (i := i) hN hv hd hcd).run pinsZ sZ σZ HZ (fun v H1 => v = .ref fn ∧ H1 = HZ) IZ ⟨.ref fn, at_i, rfl, rfl⟩) fun u s1 got => ?_)
  obtain ⟨v, H1, J1, rv, ev, eH⟩ := got
  subst ev
  subst eH
  obtain rfl : u = Value.ref fn := rv
  have stands := J1.base.keep fn _ hf nfn frn (fun z => nomatch (show fn ∈ ([] : List Addr) from z))
  refine PySem.W.callWith_F0 ⟨_, _, _, _, stands⟩ ?_
  have kept : Un (frs X.stack) [] H H1 s.heap s1.heap := J1.base
  obtain ⟨⟨ob, us, tk1, g1, g2, g3⟩, _, _⟩ := J1.hok cc _ at_c
  have runs : codeAny (model X.prog X.w) (X.A.deeper (envOfC qg sg s.heap.objs.size g cdg)) (.call (.ref fn) ⟨[], []⟩) (CR (L2.CX X.prog X.w) (envOfC qg sg s.heap.objs.size g cdg :: X.stack) X.prog X.w H1 s1 Q E) s1 := by
    refine PySem.W.kla_callFunE hr.depth stands rfl L.co L.gen rfl ⟨cc, ob, us, tk1, rfl, g1, g2, g3⟩ ?_
    rw [hbind]
    refine wpAny_pure (wpAny_newFunctionEnv (fun y hy => (L.own y hy).2) (fun y hy => absurd hy (by simp)) (fun h₂ names sub => ⟨J1.nolimit.fresh _ sub, ?_⟩) L.kind)
    show codeAny _ _ (.expr body (LamX.lamEnv X scope s1.heap.objs.size fn cc)) _ _
    have old : ∀ b o, s1.heap.get? b = some o → h₂.get? b = some o := fun b o e => sub.extBut b o (Nat.ne_of_lt (Heap.lt_size e)) (Heap.get?_push_of_some _ e)
    have J : Inv (LamX.lamCx X (X.A.deeper (envOfC qg sg s.heap.objs.size g cdg)) (envOfC qg sg s.heap.objs.size g cdg :: X.stack) s1 H1 E scope fn cc) [] σ H1 { s1 with heap := h₂, toks := s1.toks + ([] : List (Str × Value)).length } := LamX.lam_start2 I L J1.env0 hr.hd kept names old
    refine PySem.W.kla_codeExpr (wpAny_mono ((hbody _ _ s1 H1 E (hr.deeper _) rfl).run [] _ _ H1 Q J told) (fun v s' hq => hq.elim fun w' z => z.elim fun H' z => ⟨w', H', z.1.os, z.1.bare, z.1.base, z.1.hok, z.2.1, z.2.2⟩) fun e s' hq => hq)
  refine wpAny_call (codeAny_mono runs fun r s' hq => ?_)
  cases r with
  | error e => exact tk e s' (XE.of_call J1 (fun cls d H' h => toW cls d H' h) hq)
  | ok fl =>
    cases fl with
    | ret u => exact J1.after hq
    | next => exact hq.elim
    | brk => exact hq.elim
    | cont => exact hq.elim
/-- the def that calls what it got, by its body; TT: what it makes of the lambda's reading -/
def Gives (X : Cx) (Ng : List Str) (x : Str) (sg : Scope) (g : Addr) (cdg : Value) (bg : List Stmt) (a : Str) (q : Str) (k : Nat) (TT : (XK → Hp → VK → Prop) → Hp → VK → Prop) : Prop :=
  ∀ (fn cc : Addr) (s : Shared) (H : Hp) (Q : VK) (tl : XK → Hp → VK → Prop), Room (k + 1) (X.A.deeper (envOfC x sg s.heap.objs.size g cdg)) →
    (∀ (W : WX) (pn : List (Addr × Obj)) (xe : Value → Shared → Prop) (p1 p2 : Pos), Takes ((cxOf CX0 X.prog X.w X.K X.mg X.base Ng x sg g cdg X.A X.stack s H C8.E0).nox.tr pn xe) W →
      PE ((cxOf CX0 X.prog X.w X.K X.mg X.base Ng x sg g cdg X.A X.stack s H C8.E0).nox.tr pn xe) (.Call (.Name a p1) [] [] p2) (tAct 0 fn cc q tl W)) →
    H cc = some (LamX.CodeO cc q) → TT tl H Q →
    ∃ t, PSs (cxOf CX0 X.prog X.w X.K X.mg X.base Ng x sg g cdg X.A X.stack s H C8.E0).nox bg t ∧ t { nx := fun _ H' => Q .non H', rt := Q } (L2.start Ng [.ref fn]) H
end
section
variable {X : Cx}
/-- x(lambda: body) -/
theorem pe_lam {T : List (Addr × Str)} {TT : (XK → Hp → VK → Prop) → Hp → VK → Prop} {x a : Str} {g c P : Addr} {k : Nat} {st : Stmt} {fd : FuncData} {Ng : List Str} {params : Arguments} {body : Expr} {scope : Scope} {t : XK → TE} {p lpos pos : Pos}
    (F : Fun X.K x x st g fd) (hb : L2.Binds X.K fd [a] []) (Sg : FnScope Ng [a] (defScope st)) (hg : Gl X x) (hm : X.mg x = some (.ref g)) (hNg : Ng[0]? = some a) (hva : Vis (defScope st) a)
    (hG : ∀ cdv : Value, Gives X Ng x (defScope st) g cdv (defBody st) a (X.env.qual ++ "<lambda>") k TT)
    (TB : LamX.TabB X.base X.mg c P) (hcode : X.env.code = .ref c) (hmT : (P, X.env.qual ++ "<lambda>") ∈ T) (hu : ∀ p ∈ T, p.1 = P → p.2 = X.env.qual ++ "<lambda>") (hr : Room (k + 2) X.A) (L : LamX.LamS X.env.scope scope) (hdef : defaultsOf params X.env = ([], []))
    (hbind : ∀ (q : Str) (cl : List (Str × Addr)) (pm cv ctv : Value), bindArgs (PySem.W.kla_fn "<lambda>" q params body scope cl pm cv ctv) ⟨[], []⟩ = pure [])
    (hbody : ∀ (A : Around) (outer : List Env) (s' : Shared) (H' : Hp) (E : XK) (fn cc : Addr), Room k (A.deeper (LamX.lamEnv X scope s'.heap.objs.size fn cc)) → A.guards = X.A.guards → PE (LamX.lamCx X A outer s' H' E scope fn cc) body (t E))
    (hdb : (x == ("__debug__" : Str)) = false := by decide) (hd : (a == ("__debug__" : Str)) = false := by decide) (hcd : (a == ("__classdict__" : Str)) = false := by decide) :
    PE X (.Call (.Name x p) [.Lambda params body scope lpos] [] pos) (LamX.tLam T TT t) := by
  refine ⟨fun pins s σ H Q I want => ?_⟩
  obtain ⟨oc, od, kV, doc, pm, an, cdv, ct, osl, rfl, lk, hcg⟩ := F.ex
  obtain ⟨tabs, told⟩ := want
  refine wpAny_Call_Name_kw (ld_glob I hg hm (PySem.W.callWith_K (h₀ := X.base) I.ok.mod.kin F.kp ?_ (by rfl) (by rfl)) hdb)
  show wpAny _ _ (spliced ((false, eval (.Lambda params body scope lpos) X.env) :: backTo pos (starEach [] X.env))) _ _ s
  refine Calls.spliced_cons (LamX.lam_make2 I TB hcode hmT hu tabs hdef (L.has I.ok) fun fn cc pm' ctv H1 s1 J ext tabs1 stands nfn frn hco => Calls.spliced_nil ⟨J.kIn, ?_⟩)
  have runs : codeAny (model X.prog X.w) X.A (.call (.ref g) ⟨[.ref fn], []⟩) (CR CX0 X.stack X.prog X.w H1 s1 Q C8.E0) s1 := by
    refine LamX.run_ofS (N := Ng) (ps := [a]) (us := [.ref fn]) (vs := [.ref fn]) lk hcg Sg hr J.env0 (hb s1 [.ref fn] J.kIn rfl) (.cons rfl .nil) rfl fun hr1 => ?_
    obtain ⟨t1, ht1, hq1⟩ := hG cdv fn cc s1 H1 Q (fun E H' Q' => t E σ H' Q') hr1 (fun W pn xe p1 p2 tk => pe_actS (CXg := CX0) (Eg := C8.E0) (i := 0) J L stands nfn frn (hbind _ _ _ _ _) tk hr1 (fun A outer s' H' E hr2 hgu => hbody A outer s' H' E fn cc hr2 hgu) hNg hva hd hcd) hco (told H1 ext tabs1)
    exact ⟨t1, ht1.nox, hq1⟩
  refine wpAny_call (codeAny_mono runs fun r s2 hq => ?_)
  cases r with
  | error e => exact (show False from hq).elim
  | ok fl =>
    cases fl with
    | ret u => exact J.after hq
    | next => exact hq.elim
    | brk => exact hq.elim
    | cont => exact hq.elim
end
end Mo

/-! ### the end of a law that makes lambdas: the tables of code objects are empty at the start -/
namespace Mo
open PySem PySem.Spec PyProof.Rows L2
def tab0 : Obj := { cls := .none, data := .fields #[] }
/-- what the abstract heap knows at the start: the script, and the tables ts -/
def Start (ts : List Addr) (a : Addr) (H : Hp) : Prop := (∀ b ∈ ts, H b = some (.tbl #[])) ∧ ∀ b, b ∉ ts → H b = none ∨ (b = a ∧ ∃ o xs, H b = some (.frz o (.lst xs)))
theorem callT {P : Program} {w : World} {K : PySem.W.Frag} {mg mb : Str → Option Value} {CX : CXT} {k : Nat} {fa a : Addr} {cs : List (Addr × Addr)} {fd : FuncData} {x : Str} {sp : Sp} {s₁ : Shared} {vs : List Value} {ns : List Int}
    (KX : K.In s₁.heap) (hns : s₁.heap.Ns mainGlobals mg) (hb : s₁.heap.Ns builtinsNs mb) (hbb : ∀ x : Str, x ≠ "__name__" → mb x = bootBuiltins x) (hlim : s₁.heap.NoLimit) (hg : s₁.gens = #[])
    (hT : ∀ p ∈ cs, s₁.heap.get? p.2 = some tab0) (nT : ∀ p ∈ cs, K.lookup p.2 = none) (C : ∀ p ∈ cs, PySem.W.CodeHd s₁.heap p.1 p.2)
    (bmain : ∃ (bm : Addr) (ob : Obj), mg "__builtins__" = some (.ref bm) ∧ bm ≠ builtinsNs ∧ s₁.heap.get? bm = some ob ∧ ob.cls = .type "module" ∧ ob.dict = some builtinsNs ∧ ob.data = .plain)
    (ha : s₁.heap.get? a = some { cls := .type "list", data := .seq vs.toArray }) (hi : IntsAre vs ns) (hl : ns.length ≤ sizeLine) (hr : Room k callerA)
    (F : ∀ base : Heap, K.In base → base.Ns mainGlobals mg → (∀ p ∈ cs, LamX.TabB base mg p.1 p.2) → (∀ b m, s₁.heap.Ns b m → base.Ns b m) → FnG P w K mg base CX k fa fd [x] sp) (hbind : ∀ (s : Shared) (u : Value), BindsTo s fd ⟨[u], []⟩ [(x, u)])
    (hsp : ∀ H : Hp, (∀ p ∈ cs, H p.2 = some (.tbl #[])) → SqL K H a (ns.map V.int) → sp [.ref a] H (fun v _ => v = .bl true) fun _ _ _ => False)
    (hCX : ∀ H e s', CX [] H s₁ (fun _ _ _ => False) e s' → False) :
    codeAny (model P w) callerA (.call (.ref fa) ⟨[.ref a], []⟩) (fun r s' => r = .ok (.ret (.bool true)) ∧ OldK s₁.heap s'.heap ∧ s'.os = s₁.os ∧ AllBare s'.gens) s₁ := by
  have rv := vals_ints hi
  have lenV := hi.length
  obtain ⟨ts, hts⟩ : ∃ ts : List Addr, ts = cs.map fun p => p.2 := ⟨_, rfl⟩
  have inT : ∀ p ∈ cs, p.2 ∈ ts := fun p hp => hts ▸ List.mem_map.mpr ⟨p, hp, rfl⟩
  have ofT : ∀ b ∈ ts, ∃ p ∈ cs, p.2 = b := fun b hm => List.mem_map.mp (hts ▸ hm)
  have tabAt : ∀ b ∈ ts, s₁.heap.get? b = some tab0 := fun b hm => by
    obtain ⟨p, hp, rfl⟩ := ofT b hm
    exact hT p hp
  have naT : a ∉ ts := fun z => by
    have q := (tabAt a z).symm.trans ha
    cases q
  have core : ∀ H : Hp, Start ts a H → SqL K H a (ns.map V.int) → HOk P w H s₁.heap → (H a ≠ none → K.lookup a = none) →
      codeAny (model P w) callerA (.call (.ref fa) ⟨[.ref a], []⟩) (fun r s' => r = .ok (.ret (.bool true)) ∧ OldK s₁.heap s'.heap ∧ s'.os = s₁.os ∧ AllBare s'.gens) s₁ := by
    intro H hS0 hS hok hK
    have free : ∀ {b : Addr} {o : Obj}, s₁.heap.get? b = some o → (∀ us n, o.data ≠ .seq us n) → o.data ≠ .fields #[] → H b = none := fun {b o} e no1 no2 => by
      by_cases hm : b ∈ ts
      · have q := (tabAt b hm).symm.trans e
        cases q
        exact absurd rfl no2
      · rcases hS0.2 b hm with z | ⟨rfl, _⟩
        · exact z
        · rw [ha] at e
          cases e
          exact absurd rfl (no1 _ _)
    have grnd : ∀ {b : Addr} {o : Obj}, s₁.heap.get? b = some o → H b = none → (hidT s₁.heap H).get? b = some o := fun e n => hidT_get e n
    have nsK : ∀ {b : Addr} {m : Str → Option Value}, s₁.heap.Ns b m → (hidT s₁.heap H).Ns b m := fun {b m} ⟨o, es, ep, e, d, r⟩ => ⟨o, es, ep, grnd e (free e (fun us n z => nomatch d.symm.trans z) fun z => nomatch d.symm.trans z), d, r⟩
    have hKb : K.In (hidT s₁.heap H) := fun b o e => grnd (KX b o e) (by
      by_cases hm : b ∈ ts
      · obtain ⟨p, hp, rfl⟩ := ofT b hm
        rw [nT p hp] at e
        cases e
      · rcases hS0.2 b hm with z | ⟨rfl, o1, xs, z⟩
        · exact z
        · rw [hK (by rw [z]; exact Option.some_ne_none _)] at e
          cases e)
    have hM : Mod K mg (hidT s₁.heap H) := ⟨hKb, nsK hns, ⟨mb, nsK hb, hbb⟩, hlim.elim fun mc z => ⟨mc, nsK z.1, z.2⟩⟩
    have TB : ∀ p ∈ cs, LamX.TabB (hidT s₁.heap H) mg p.1 p.2 := fun p hp => by
      have at_p := hT p hp
      refine ⟨?_, ?_, fun z => ?_⟩
      · obtain ⟨o, us, file, tf, flags, tg, inF, text, tt, e1, r1, r2, r3, rest⟩ := C p hp
        refine ⟨o, us, file, tf, flags, tg, inF, text, tt, grnd e1 (free e1 (fun vs n z => nomatch r2.symm.trans z) fun z => ?_), r1, r2, r3, rest⟩
        have q := r2.symm.trans z
        cases q
        exact absurd r3 (by simp)
      · obtain ⟨bm, ob, b1, b2, b3, b4, b5, b6⟩ := bmain
        refine ⟨bm, ob, b1, b2, fun q => ?_, fun q => ?_, grnd b3 (free b3 (fun vs n z => nomatch b6.symm.trans z) fun z => nomatch b6.symm.trans z), b4, b5, b6⟩
        · obtain ⟨o, es, ep, e, hd, _⟩ := hns
          rw [q, e] at b3
          cases b3
          cases hd.symm.trans b6
        · rw [q, at_p] at b3
          cases b3
          cases b6
      · obtain ⟨o, es, ep, e, hd, _⟩ := hns
        rw [z, at_p] at e
        cases e
        cases hd
    have e0 : Env0 P w K mg (hidT s₁.heap H) callerA [] s₁ H := ⟨rfl, hM, fun b o e => of_hidT e, Nat.le_of_eq (hidT_size _ _), trivial, fun b hb => absurd (show b ∈ ([] : List Addr) from hb) (by simp), hok, .of_eq hg⟩
    refine codeAny_mono ((F _ hKb (nsK hns) TB fun b m z => nsK z).run callerA [] s₁ H ⟨[.ref a], []⟩ [.ref a] [.ref a] _ _ hr rfl e0 (hbind s₁ (.ref a)) (.cons rfl .nil) (hsp H (fun p hp => hS0.1 _ (inT p hp)) hS)) fun r s' h => ?_
    cases r with
    | error e => exact (hCX H e s' h).elim
    | ok fl =>
      cases fl with
      | next => exact h.elim
      | brk => exact h.elim
      | cont => exact h.elim
      | ret u =>
        obtain ⟨v, H', os, bare, un, hok', r', q⟩ := h
        obtain rfl : v = .bl true := q
        obtain rfl : u = Value.bool true := r'
        have same : ∀ b o, b ∉ ts → s₁.heap.get? b = some o → s'.heap.get? b = some o := fun b o hm e => by
          rcases hS0.2 b hm with z | ⟨_, ob, xs, z⟩
          · exact un.keep b o e z (by intro z; exact absurd (show b ∈ ([] : List Addr) from z) (by simp)) (by simp)
          · have e1 := (hok b _ z).1
            rw [e] at e1
            cases e1
            exact (hok' b _ (un.frzs b _ _ z)).1
        have more : ∀ b ∈ ts, ∃ us : Array Value, s'.heap.get? b = some { cls := .none, data := .fields us } := fun b hm => by
          obtain ⟨us, z⟩ := un.tbls b #[] (hS0.1 b hm)
          exact ⟨_, hok' b _ z⟩
        refine ⟨rfl, ⟨fun b o e => ?_, fun b o e => ?_⟩, os, bare⟩
        · by_cases hm : b ∈ ts
          · obtain ⟨us, z⟩ := more b hm
            obtain ⟨p, hp, rfl⟩ := ofT b hm
            have q := (hT p hp).symm.trans e
            cases q
            exact .inr (.inl ⟨((C p hp).tab (hT p hp)).isCodeTable, rfl, #[], us, rfl, by rw [Array.empty_append]; exact z⟩)
          · exact .inl (same b o hm e)
        · by_cases hm : b ∈ ts
          · exact (more b hm).elim fun us z => ⟨_, z⟩
          · exact ⟨o, same b o hm e⟩
  cases hk : K.lookup a with
  | some o =>
    have e := (KX a o hk).symm.trans ha
    cases e
    have no : ∀ b, b ∉ ts → (if b ∈ ts then some (HO.tbl #[]) else none) = none := fun b hm => if_neg hm
    refine core (fun b => if b ∈ ts then some (.tbl #[]) else none) ⟨fun b hm => if_pos hm, fun b hm => .inl (no b hm)⟩ (.inr ⟨_, vs.toArray, _, hk, rfl, rfl, rfl, by rw [List.size_toArray, lenV]; exact hl, by simpa using rv⟩) (fun b u z => ?_) fun z => absurd (no a naT) z
    by_cases hm : b ∈ ts
    · have q := (if_pos hm).symm.trans z
      cases q
      exact tabAt b hm
    · cases (no b hm).symm.trans z
  | none =>
    have at_a : ∀ {u : HO}, (if a = a then some u else if a ∈ ts then some (HO.tbl #[]) else none) = some u := fun {u} => if_pos rfl
    have nb : ∀ b ∈ ts, b ≠ a := fun b hm z => naT (z ▸ hm)
    refine core (fun b => if b = a then some (.frz { cls := .type "list", data := .seq vs.toArray } (.lst (ns.map V.int))) else if b ∈ ts then some (.tbl #[]) else none)
      ⟨fun b hm => (if_neg (nb b hm)).trans (if_pos hm), fun b hm => ?_⟩ (.inl (.inr ⟨{ cls := .type "list", data := .seq vs.toArray }, at_a⟩)) (fun b u z => ?_) fun _ => hk
    · by_cases e : b = a
      · exact .inr ⟨e, _, _, if_pos e⟩
      · exact .inl ((if_neg e).trans (if_neg hm))
    · by_cases e : b = a
      · have q := (if_pos e).symm.trans z
        cases q
        rw [e]
        exact ⟨ha, by rw [List.length_map]; exact hl, vs, _, rv, ha⟩
      · have q := (if_neg e).symm.trans z
        by_cases hm : b ∈ ts
        · have q1 := (if_pos hm).symm.trans q
          cases q1
          exact tabAt b hm
        · cases (if_neg hm).symm.trans q
/-- the tables of the defs of the text are empty when the law is called -/
def Empties (q : Program) (K : PySem.W.Frag) (mg : Str → Option Value) (h : Heap) : Prop := ∀ (n : Str) (a c P : Addr) (o : Obj) (fd : FuncData), ((recsOf q).any fun e => e.name == n) = true → mg n = some (.ref a) → K.lookup a = some o → o.data = .func fd → fd.code = .ref c → PySem.W.codeHdIn K c P = true → h.get? P = some tab0
/-- what is known of the law's promise at the head's heap -/
def LawT (l : PySem.W.OpenLaw) (w : World) (K : PySem.W.Frag) (CX : CXT) (k n : Nat) (x : Str) (mg : Str → Option Value) (fa : Addr) (h : Heap) : Prop :=
  ∃ (fd : FuncData) (cs : List (Addr × Addr)) (sp : Sp), (∀ p ∈ cs, h.get? p.2 = some tab0) ∧ (∀ p ∈ cs, K.lookup p.2 = none) ∧ (∀ p ∈ cs, PySem.W.codeHdIn K p.1 p.2 = true) ∧ (∀ (s : Shared) (u : Value), BindsTo s fd ⟨[u], []⟩ [(x, u)]) ∧
    (∀ (H : Hp) (a : Addr) (ns : List Int), ns.length ≤ n → (∀ p ∈ cs, H p.2 = some (.tbl #[])) → SqL K H a (ns.map V.int) → sp [.ref a] H (fun v _ => v = .bl true) fun _ _ _ => False) ∧
    ∀ base : Heap, K.In base → base.Ns mainGlobals mg → (∀ p ∈ cs, LamX.TabB base mg p.1 p.2) → (∃ mm, base.Ns sysModules mm) → FnG l.prog w K mg base CX k fa fd [x] sp
theorem walkT {l : PySem.W.OpenLaw} {n k : Nat} {q : Program} {loose : List Str} {XP : (Str → Option Value) → Heap → Prop} {YP : World → Heap → Prop} {d : DefRec} {K : Params → PySem.W.Frag} {CX : World → CXT} {x : Str}
    (hn : l.most = some n) (hn2 : n ≤ sizeLine) (hdf : d.params.defaults = []) (hr : Room k callerA) (hY : ∀ (w : World) (h : Heap), YP w h → (K w.params).In h) (hi : importsNone q = true)
    (F : ∀ (w : World) (mg : Str → Option Value) (fa : Addr) (h : Heap), (K w.params).In h → h.Ns mainGlobals mg → mg d.name = some (.ref fa) → Empties q (K w.params) mg h → LawT l w (K w.params) (CX w) k n x mg fa h)
    (hCX : ∀ (w : World) (H : Hp) (s : Shared) (e : Value) (s' : Shared), CX w [] H s (fun _ _ _ => False) e s' → False) :
    PySem.W.WalkO q loose XP YP l.row.toRowW d [] (fun f vs => PySem.call f vs) := by
  refine Att.attach_call hn hdf fun w s₀ s₁ mg mb fa o pm cd doc a vs ns G Y ho hd hcd hmg hobj hints hlen hg => ?_
  have KX := hY w _ Y
  have em : Empties q (K w.params) mg s₁.heap := fun n1 a1 c1 P1 o1 fd1 hrec g1 g2 g3 g4 g5 => by
    obtain ⟨dL, hm, en⟩ := List.any_eq_true.mp hrec
    have en2 : dL.name = n1 := beq_iff_eq.mp en
    obtain ⟨a2, o2, fd2, c2, P2, t1, t2, t3, t4, _, ⟨oc, vc, u1, _, u3, u4⟩, hP⟩ := G.T.tab dL hm
    cases (by rw [en2, g1] at t1; exact t1 : some (Value.ref a1) = some (Value.ref a2))
    have x1 := (KX _ _ g2).symm.trans t2
    cases x1
    cases g3.symm.trans t3
    cases g4.symm.trans t4
    obtain ⟨ob, us, _, _, _, _, _, _, _, y1, _, y2, y3, _⟩ := PySem.W.codeHd_of_K KX g5
    cases y1.symm.trans u1
    cases y2.symm.trans u3
    cases y3.symm.trans u4
    exact hP
  obtain ⟨fd, cs, sp, hT, nT, C, hb, hsp, hF⟩ := F w mg fa _ KX G.T.g hmg em
  obtain ⟨mm, hmm, _⟩ := (G.T.seer hi).mods
  exact callT KX G.T.g G.T.b G.T.builtins G.T.nolimit hg hT nT (fun p hp => PySem.W.codeHd_of_K KX (C p hp)) G.T.bmain hobj hints (Nat.le_trans hlen hn2) hr (fun base a b c d => hF base a b c ⟨mm, d _ _ hmm⟩) hb (fun H hH hS => hsp H a ns hlen hH hS) fun H e s' => hCX w H s₁ e s'
end Mo

/-! ### comprehensions whose tests and items lean on the state of the def around them -/
namespace Mo
open PySem PySem.Spec PyProof.Rows L2
/-- while Y runs, X's own names stand as σ tells -/
def Back (X Y : Cx) (pins : List (Addr × Obj)) (σ : L2.St) : Prop := ∀ (pl : List (Addr × Obj)) (τ : L2.St) (G : Hp) (r : Shared), Inv Y pl τ G r → Inv X pins σ G r
section
variable {X : Cx}
/-- a list comprehension; what its block asks is told over the slots at its start -/
theorem pe_lcW {elt tg iter : Expr} {ifs : List Expr} {scope : Scope} {own : List (Str × Nat)} {pos : Pos} {wi : TI} {g : TG} {tt : L2.St → TT} {te : L2.St → TE} (hc : X.calm = true) (hN : X.N.Nodup) (hi : PI X tg iter wi) (ok : BlkOk X.N X.env.scope scope own)
    (hg : ∀ (r : Shared) (G : Hp) (C : Addr) (cl : List (Str × Addr)) (fp : List Addr), PG (X.blk r G scope (compEnvC scope cl C X.env) fp) tg g)
    (ht : ∀ (r : Shared) (G : Hp) (C : Addr) (cl : List (Str × Addr)) (fp : List Addr) (pins : List (Addr × Obj)) (σ : L2.St), Back X (X.blk r G scope (compEnvC scope cl C X.env) fp) pins σ → PTs (X.blk r G scope (compEnvC scope cl C X.env) fp) ifs (tt σ))
    (he : ∀ (r : Shared) (G : Hp) (C : Addr) (cl : List (Str × Addr)) (fp : List Addr) (pins : List (Addr × Obj)) (σ : L2.St), Back X (X.blk r G scope (compEnvC scope cl C X.env) fp) pins σ → PE (X.blk r G scope (compEnvC scope cl C X.env) fp) elt (te σ))
    (hs : ∀ x, foldedSetIterable iter X.env x = pure x := by intro _; rfl) :
    PE X (.ListComp elt [⟨tg, iter, ifs, 0⟩] scope pos) (fun σ => tLc wi g (tt σ) (te σ) (own.map (·.2)) σ) := by
  constructor
  intro pins s σ H Q I want
  rw [eval_ListComp]
  have caught : ∀ y ∈ scope.names, y.2 = .free → ∃ c, X.env.cells.lookup y.1 = some c := fun y hy e => (ok.free y hy e).elim (fun z => I.ok.has _ (.inl z)) (fun z => I.ok.has _ (.inr z))
  refine wpAny_comprehension_free (use := none) rfl hs (closure_ok caught) ok.kind (fun y hy e => (ok.uniq y hy).trans (congrArg some e)) (thn (hi.run pins s σ H _ I want) fun _ _ h1 => thn h1 fun _ sI came => ?_)
  obtain ⟨it, fp, tn, J, HI, iteq, II, T, tn0, apart, goes⟩ := came
  subst iteq
  refine wpAny_newObj_type (newEnv_comp ?_) (by show 0 ≤ sizeLine; decide)
  generalize hD : sI.heap.objs.size = D
  have nD : HI D = none := II.hok.fresh (Nat.le_of_eq hD)
  obtain ⟨W, ⟨mW, wW⟩, turn⟩ := goes D nD
  -- behind the new list
  generalize hsL : ({ sI with heap := sI.heap.push { cls := .type "list", data := .seq ([] : List Value).toArray } } : Shared) = sL
  have hpL : sL.heap = sI.heap.push { cls := .type "list", data := .seq ([] : List Value).toArray } := by rw [← hsL]
  generalize hG0 : upd HI D (.lst []) = G0 at wW
  have off : ∀ b, b < sI.heap.objs.size → G0 b = HI b := fun b lt => by
    rw [← hG0, upd_ne (fun z => by rw [z, hD] at lt; exact Nat.lt_irrefl _ lt)]
  have IL : Inv X pins σ G0 sL := by
    rw [← hsL, ← hG0]
    refine II.laid (t' := sI.toks) (fun b o e => Heap.get?_push_of_some _ e) (Nat.le_of_eq hD) ⟨Nat.zero_le _, [], 0, .nil, ?_⟩
    rw [← hD]
    exact Heap.get?_push_size _ rfl
  have apartL : ∀ b ∈ fp, FpOk X pins G0 b ∧ b < sL.heap.objs.size := fun b hb => by
    have lt : b < sI.heap.objs.size := (T.obj _ _ tn0 b hb).elim fun o z => Heap.lt_size z.1
    exact ⟨⟨(off b lt).trans (apart b hb).1, (apart b hb).2⟩, by rw [hpL, Heap.size_push]; exact Nat.lt_succ_of_lt lt⟩
  have IB := block_start IL ok hN apartL
  show codeAny _ _ (.compStart (.ListComp elt [⟨tg, iter, ifs, 0⟩] scope pos) 0 (.ref it) (.ref D) (compEnvC scope (cellsFrom (sL.heap.objs.size + 1) scope.names (cloFrom X.env.cells scope.names [])) sL.heap.objs.size X.env)) (compPost (model X.prog X.w) X.A X.xe none _ (.ref D) sL.heap.objs.size) { sL with heap := pushCells (sL.heap.push { cls := .type "dict", data := .dict #[] }) scope.names }
  generalize hcl : cellsFrom (sL.heap.objs.size + 1) scope.names (cloFrom X.env.cells scope.names []) = cl at IB ⊢
  have back : Back X (X.blk sL G0 scope (compEnvC scope cl sL.heap.objs.size X.env) fp) pins σ := fun pl τ G r B => IL.call' (ch := fp) B.os B.base B.hok B.bare fun b hb => by
    obtain ⟨⟨_, z1, _, z2, z3, z4⟩, _⟩ := apartL b hb
    exact ⟨z2, z1, z3, z4⟩
  have pg := hg sL G0 sL.heap.objs.size cl fp
  have pt := ht sL G0 sL.heap.objs.size cl fp pins σ back
  have pe := he sL G0 sL.heap.objs.size cl fp pins σ back
  generalize hsB : ({ sL with heap := pushCells (sL.heap.push { cls := .type "dict", data := .dict #[] }) scope.names } : Shared) = sB at IB ⊢
  have tnB : tn 0 sB.heap := T.keep _ _ _ tn0 fun b _ o e => by
    rw [← hsB]
    show (pushCells (sL.heap.push { cls := .type "dict", data := .dict #[] }) scope.names).get? b = some o
    rw [hpL]
    exact pushCells_keeps _ _ _ _ (Heap.get?_push_of_some _ (Heap.get?_push_of_some _ e))
  have stays : ∀ {τ : L2.St} {G : Hp} {r : Shared}, Inv (X.blk sL G0 scope (compEnvC scope cl sL.heap.objs.size X.env) fp) [] τ G r → (∀ b ∈ fp, G b = none) → ∀ b ∈ fp, FpOk (X.blk sL G0 scope (compEnvC scope cl sL.heap.objs.size X.env) fp) [] G b := fun B hn b hb =>
    ⟨hn b hb, (B.ok.exf b hb).1, B.ok.exfs b hb, .inl hb, fun x c e => (B.ok.exf b hb).2 x c e, fun p hp => nomatch (show p ∈ ([] : List (Addr × Obj)) from hp)⟩
  have run : codeAny (model X.prog X.w) X.A (.compLoop (.ListComp elt [⟨tg, iter, ifs, 0⟩] scope pos) 0 (.ref it) (.ref D) (compEnvC scope cl sL.heap.objs.size X.env)) (compPost (model X.prog X.w) X.A X.xe none (EP X pins σ Q) (.ref D) sL.heap.objs.size) sB := by
    refine compLoop_any (fun m r => ∃ i G, Inv (X.blk sL G0 scope (compEnvC scope cl sL.heap.objs.size X.env) fp) [] (wipe σ (own.map (·.2))) G r ∧ tn i r.heap ∧ (∀ b ∈ fp, G b = none) ∧ W i m G) (fun m r at_ => ?_) mW ⟨0, G0, IB, tnB, fun b hb => (apartL b hb).1.1, wW⟩
    obtain ⟨i, G, B, ti, nG, wi'⟩ := at_
    rcases turn i m G wi' with ⟨stop, ends⟩ | ⟨go, Nx, nxt, step⟩
    · -- no item is left
      refine thnF (T.done (X.blk sL G0 scope (compEnvC scope cl sL.heap.objs.size X.env) fp) rfl rfl rfl hc i [] r _ G (fun _ _ => False) B (stays B nG) ti stop) fun x r1 out => ?_
      obtain ⟨rfl, B1⟩ := out
      have IX := back _ _ _ _ B1
      obtain ⟨mp, ns, _⟩ := B1.loc
      refine ⟨mp, ns, fun h2 sb => ?_⟩
      obtain ⟨f0, f1, f2, f3, f4, f5⟩ := IL.fpOk (H' := G) (Nat.le_refl _) B1.free
      exact ⟨.ref D, G, IX.turned (t' := r1.toks) (fun b o hb e => (sb.2 b hb).trans e) f0 f1 f3 f4 f5, rfl, ends⟩
    · -- one more
      refine thnF (T.item (X.blk sL G0 scope (compEnvC scope cl sL.heap.objs.size X.env) fp) rfl rfl rfl hc i [] r _ G (fun _ _ => False) B (stays B nG) ti go) fun x r1 out => ?_
      obtain ⟨u, rfl, out⟩ := out
      refine thnF out fun _ r2 out2 => ?_
      obtain ⟨v, G2, B2, rv, yl, ti2, nG2⟩ := out2
      have P2 := B2.pinned (stays B2 nG2) (T.obj _ _ ti2)
      refine thnF (pg.run _ r2 _ G2 v u _ P2 rv (step v G2 yl)) fun _ r3 ⟨τ3, G3, B3, w3, q3⟩ => thnF (pt.run _ r3 τ3 G3 _ B3 q3) fun b r4 ⟨G4, B4, q4⟩ => ?_
      have closes : ∀ {r5 : Shared} {G5 : Hp}, Inv (X.blk sL G0 scope (compEnvC scope cl sL.heap.objs.size X.env) fp) ([] ++ pinsAt fp r2.heap) τ3 G5 r5 → Nx G5 → ∃ m', m' < m ∧ ∃ i G, Inv (X.blk sL G0 scope (compEnvC scope cl sL.heap.objs.size X.env) fp) [] (wipe σ (own.map (·.2))) G r5 ∧ tn i r5.heap ∧ (∀ b ∈ fp, G b = none) ∧ W i m' G := fun {r5 G5} B5 nx => by
        obtain ⟨m', less, w5⟩ := nxt G5 nx
        have held : ∀ b ∈ fp, ∀ o, r2.heap.get? b = some o → r5.heap.get? b = some o ∧ G5 b = none := fun b hb o e => by
          obtain ⟨z1, z2, _⟩ := B5.pin (b, o) (List.mem_append_right _ (List.mem_append_right _ (mem_pinsAt hb e)))
          exact ⟨z1, z2⟩
        refine ⟨m', less, i + 1, G5, (B5.unpinned (pins := [])).weak (by rw [← w3, wipe_length]) (fun j y e => ?_), T.keep _ _ _ ti2 fun b hb o e => (held b hb o e).1, fun b hb => ?_, w5⟩
        · rw [← w3] at e
          exact (wipe_some e).1
        · obtain ⟨o, e, _⟩ := T.obj _ _ ti2 b hb
          exact (held b hb o e).2
      have q4 : if b = true then te σ τ3 G4 fun y H4 => ∃ acc, H4 D = some (.lst acc) ∧ acc.length < sizeLine ∧ Nx (upd H4 D (.lst (acc ++ [y]))) else Nx G4 := q4
      by_cases hb : b = true
      · rw [if_pos hb] at q4 ⊢
        exact thnF (pe.run _ r4 τ3 G4 _ B4 q4) fun z r5 ⟨y, G5, B5, ry, acc, hacc, few, nx⟩ => app_ok (X := X.blk sL G0 scope (compEnvC scope cl sL.heap.objs.size X.env) fp) B5 hacc few ry fun r6 B6 => closes B6 nx
      · rw [if_neg hb] at q4 ⊢
        exact closes B4 q4
  exact codeAny_compStart_list run (T.self X.A 0 _ _ _ tnB run)
end
end Mo

/-! ### lambdas without parameters that are kept (in a list, a tuple, a name) and called later -/
namespace Mo
open PySem PySem.Spec PyProof.Rows L2
/-- at f stands this very object -/
def FnO (f : Addr) (ob : Obj) : HO := .ext fun h => h.get? f = some ob
theorem fnO_ok {P : Program} {w : World} {H : Hp} {h : Heap} {f : Addr} {ob : Obj} (e : h.get? f = some ob) : ObjOk P w H h f (FnO f ob) := ⟨e, ⟨ob, e⟩, fun _ _ at1 k => k _ at1⟩
theorem fnO_at {X : Cx} {pins : List (Addr × Obj)} {σ : L2.St} {H : Hp} {s : Shared} {f : Addr} {ob : Obj} (I : Inv X pins σ H s) (e : H f = some (FnO f ob)) : s.heap.get? f = some ob := (I.hok f _ e).1
/-- all tracked things of one's own kind stay -/
def ExtK (H H' : Hp) : Prop := ∀ (b : Addr) (φ : Heap → Prop), H b = some (.ext φ) → H' b = some (.ext φ)
theorem ExtK.of {H H' : Hp} (e : LamX.ExtN H H') : ExtK H H' := fun b φ h => e b _ h (fun ps z => by cases z)
theorem ExtK.same {H H' : Hp} (e : Same H H') : ExtK H H' := fun b φ h => e b _ h
theorem ExtK.but {d : Addr} {H H' : Hp} {kv : List (Key × V)} (e : But d H H') (hd : H d = some (.dK kv)) : ExtK H H' := fun b φ h => e b _ (ne_of h hd (fun z => by cases z)) h
theorem ExtK.trans {H H1 H2 : Hp} (a : ExtK H H1) (b : ExtK H1 H2) : ExtK H H2 := fun c φ h => b c φ (a c φ h)
/-- the table of a def's code objects has got one more -/
theorem tabs_more {T : List (Addr × Str)} {H : Hp} {P c : Addr} {q : Str} {ps : Array Value} {pos : Pos} (hT : LamX.Tabs T H) (hP : H P = some (.tbl ps)) (nc : H c = none) (hu : ∀ p ∈ T, p.1 = P → p.2 = q) :
    LamX.Tabs T (upd (upd H P (.tbl (ps ++ #[rawInt pos.line, rawInt pos.col, .ref c]))) c (LamX.CodeO c q)) := by
  have ncP : P ≠ c := ne_of_none hP nc
  have code_stays : ∀ {d : Addr} {q' : Str}, H d = some (LamX.CodeO d q') → upd (upd H P (.tbl (ps ++ #[rawInt pos.line, rawInt pos.col, .ref c]))) c (LamX.CodeO c q) d = some (LamX.CodeO d q') := fun {d q'} hd => by
    rw [upd_ne (ne_of_none hd nc), upd_ne (ne_of hd hP (LamX.codeO_ne _)), hd]
  intro p hp
  obtain ⟨ps1, b1, b2, b3⟩ := hT p hp
  by_cases here : p.1 = P
  · rw [here, hP] at b1
    cases b1
    rw [here]
    rw [hu p hp here] at b3 ⊢
    have lists : (ps ++ #[rawInt pos.line, rawInt pos.col, .ref c]).toList = ps.toList ++ [rawInt pos.line, rawInt pos.col, .ref c] := by simp
    refine ⟨_, (upd_ne ncP).trans upd_same, by rw [lists]; exact PySem.TriplesOk_snoc _ _ _ _ b2, fun at_ cv found => ?_⟩
    rw [lists] at found
    rcases LamX.among_app _ b2 found with old | rfl
    · exact (b3 at_ cv old).elim fun d z => ⟨d, z.1, code_stays z.2⟩
    · exact ⟨c, rfl, upd_same⟩
  · exact ⟨ps1, by rw [upd_ne (ne_of_none b1 nc), upd_ne here, b1], b2, fun at_ cv found => (b3 at_ cv found).elim fun d z => ⟨d, z.1, code_stays z.2⟩⟩
section
variable {X : Cx} {pins : List (Addr × Obj)} {σ : L2.St} {H : Hp} {s : Shared}
/-- a lambda is made, its object tracked -/
theorem lam_keep {T : List (Addr × Str)} {c P : Addr} {params : Arguments} {body : Expr} {scope : Scope} {pos : Pos} {E : Value → Shared → Prop} {Q : Value → Shared → Prop} (TB : LamX.TabB X.base X.mg c P) (hcode : X.env.code = .ref c)
    (hm : (P, X.env.qual ++ "<lambda>") ∈ T) (hu : ∀ p ∈ T, p.1 = P → p.2 = X.env.qual ++ "<lambda>") (hdef : defaultsOf params X.env = ([], [])) (hfree : ∀ y ∈ scope.names, y.2 = .free → ∃ c, X.env.cells.lookup y.1 = some c) (I : Inv X pins σ H s) (hT : LamX.Tabs T H)
    (h : ∀ (f cc : Addr) (pm ctv : Value) (G : Hp) (r : Shared), H f = none → G f = none → LamX.ExtN H G → LamX.Tabs T G → G cc = some (LamX.CodeO cc (X.env.qual ++ "<lambda>")) →
      Inv X pins σ (upd G f (FnO f (PySem.W.kla_obj "<lambda>" (X.env.qual ++ "<lambda>") params body scope (cloFrom X.env.cells scope.names []) pm cc ctv))) r → Q (.ref f) r) :
    wpAny (model X.prog X.w) X.A (eval (.Lambda params body scope pos) X.env) Q E s := by
  obtain ⟨ps, hP, triples, known⟩ := hT _ hm
  have atP : s.heap.get? P = some { cls := .none, data := .fields ps } := I.hok P _ hP
  refine PySem.W.kla_eval hdef ?_
  cases look : codeAmong pos ps.toList with
  | some cv =>
    obtain ⟨cc, rfl, hcc⟩ := known pos cv look
    refine PySem.W.kla_makeFunctionHit (mg := X.mg) (c := c) (P := P) (ps := ps) (closure_ok hfree) I.ok.glob (I.mod.glob.keeps I.bk) hcode (TB.code.keeps I.bk) atP triples look (TB.bm.keeps I.bk) fun ctv h' tk kept le => ?_
    have fresh : H h'.objs.size = none := I.hok.fresh le
    exact h _ cc _ ctv H _ fresh fresh (LamX.ExtN.refl H) hT hcc ((I.kept (t' := tk) (h' := h') kept).laid (t' := tk) (fun b o e => Heap.get?_push_of_some _ e) (Nat.le_refl _) (fnO_ok (Heap.get?_push_size _ rfl)))
  | none =>
    refine PySem.W.kla_makeFunction (mg := X.mg) (c := c) (P := P) (ps := ps) (closure_ok hfree) I.ok.glob (I.mod.glob.keeps I.bk) hcode (TB.code.keeps I.bk) atP triples look TB.gP (TB.bm.keeps I.bk) fun cc ctv h' tk kept ge lt isCode table => ?_
    obtain ⟨c2, oc, fv, tq, ceq, oce, ocd, ocq⟩ := isCode
    cases ceq
    have ncc : H cc = none := I.hok.fresh ge
    have le : s.heap.objs.size ≤ h'.objs.size := Nat.le_trans ge (Nat.le_of_lt lt)
    have J := LamX.inv_table (t' := tk) (more := #[rawInt pos.line, rawInt pos.col, .ref cc]) (q := X.env.qual ++ "<lambda>") (h' := h') I hP kept table ge ⟨oc, fv, tq, oce, ocd, ocq⟩
    refine h h'.objs.size cc _ ctv _ _ (I.hok.fresh le) (J.hok.fresh (Nat.le_refl _)) (fun b o e n => ?_) (tabs_more hT hP ncc hu) upd_same (J.laid (t' := tk) (fun b o e => Heap.get?_push_of_some _ e) (Nat.le_refl _) (fnO_ok (Heap.get?_push_size _ rfl)))
    rw [upd_ne (ne_of_none e ncc), upd_ne (fun z => n ps (by rw [z, hP] at e; exact (Option.some.inj e).symm)), e]
end
/-- the lambda at fn was made in X; t tells what its body does over X's slots -/
def LamAt (X : Cx) (k : Nat) (H : Hp) (fn : Addr) (t : XK → TE) : Prop := ∃ (params : Arguments) (body : Expr) (scope : Scope) (pm ctv : Value) (cc : Addr),
  H fn = some (FnO fn (PySem.W.kla_obj "<lambda>" (X.env.qual ++ "<lambda>") params body scope (cloFrom X.env.cells scope.names []) pm cc ctv)) ∧ H cc = some (LamX.CodeO cc (X.env.qual ++ "<lambda>")) ∧ LamX.LamS X.env.scope scope ∧
  (∀ (q : Str) (cl : List (Str × Addr)) (pm cv ctv : Value), bindArgs (PySem.W.kla_fn "<lambda>" q params body scope cl pm cv ctv) ⟨[], []⟩ = pure []) ∧
  ∀ (A : Around) (outer : List Env) (r : Shared) (G : Hp) (E : XK) (fn cc : Addr), Room k (A.deeper (LamX.lamEnv X scope r.heap.objs.size fn cc)) → A.guards = X.A.guards → PE (LamX.lamCx X A outer r G E scope fn cc) body (t E)
theorem LamAt.keep {X : Cx} {k : Nat} {H H' : Hp} {fn : Addr} {t : XK → TE} (h : LamAt X k H fn t) (e : ExtK H H') : LamAt X k H' fn t := by
  obtain ⟨p, b, sc, pm, ctv, cc, h1, h2, r⟩ := h
  exact ⟨p, b, sc, pm, ctv, cc, e _ _ h1, e _ _ h2, r⟩
theorem LamAt.some {X : Cx} {k : Nat} {H : Hp} {fn : Addr} {t : XK → TE} (h : LamAt X k H fn t) : ∃ φ, H fn = some (.ext φ) := by
  obtain ⟨p, b, sc, pm, ctv, cc, h1, h2, r⟩ := h
  exact ⟨_, h1⟩
/-- lambda: body, as a value -/
def tLamV (X : Cx) (k : Nat) (T : List (Addr × Str)) (t : XK → TE) : TE := fun _ H Q => LamX.Tabs T H ∧ ∀ (fn : Addr) (H1 : Hp), H fn = none → LamX.ExtN H H1 → LamX.Tabs T H1 → LamAt X k H1 fn t → Q (.ref fn) H1
theorem pe_lamV {X : Cx} {T : List (Addr × Str)} {c P : Addr} {k : Nat} {params : Arguments} {body : Expr} {scope : Scope} {t : XK → TE} {lpos : Pos}
    (TB : LamX.TabB X.base X.mg c P) (hcode : X.env.code = .ref c) (hmT : (P, X.env.qual ++ "<lambda>") ∈ T) (hu : ∀ p ∈ T, p.1 = P → p.2 = X.env.qual ++ "<lambda>") (L : LamX.LamS X.env.scope scope) (hdef : defaultsOf params X.env = ([], []))
    (hbind : ∀ (q : Str) (cl : List (Str × Addr)) (pm cv ctv : Value), bindArgs (PySem.W.kla_fn "<lambda>" q params body scope cl pm cv ctv) ⟨[], []⟩ = pure [])
    (hbody : ∀ (A : Around) (outer : List Env) (r : Shared) (G : Hp) (E : XK) (fn cc : Addr), Room k (A.deeper (LamX.lamEnv X scope r.heap.objs.size fn cc)) → A.guards = X.A.guards → PE (LamX.lamCx X A outer r G E scope fn cc) body (t E)) :
    PE X (.Lambda params body scope lpos) (tLamV X k T t) := by
  refine ⟨fun pins s σ H Q I ⟨hT, told⟩ => lam_keep TB hcode hmT hu hdef (L.has I.ok) I hT fun f cc pm ctv G r nf ng ext tb code J => ?_⟩
  have s1 := same_new (o := FnO f (PySem.W.kla_obj "<lambda>" (X.env.qual ++ "<lambda>") params body scope (cloFrom X.env.cells scope.names []) pm cc ctv)) ng
  exact ⟨.ref f, _, J, rfl, told f _ nf (fun b o e n => s1 _ _ (ext b o e n)) (LamX.Tabs.ext tb fun b o e => s1 _ _ e) ⟨params, body, scope, pm, ctv, cc, upd_same, s1 _ _ code, L, hbind, hbody⟩⟩
/-- the call of what was got, the thing F: it stands in slot i; what it lets out is wished by W there -/
def tActF (i : Nat) (fn cc : Addr) (q : Str) (F : HO) (tl : XK → Hp → VK → Prop) (W : WX) : TE := fun σ H Q =>
  σ[i]? = some (some (.ref fn)) ∧ H cc = some (LamX.CodeO cc q) ∧ H fn = some F ∧ ∃ E : XK, (∀ cls d H', E cls d H' → W cls d σ H') ∧ tl E H Q
section
variable {X : Cx} {pins : List (Addr × Obj)} {σ : L2.St} {H : Hp} {s : Shared}
theorem pe_actF {CXg : CXT} {Eg : XK} {Ng : List Str} {qg : Str} {sg : Scope} {g fn cc : Addr} {cdg pm ctv : Value} {params : Arguments} {body : Expr} {scope : Scope} {k i : Nat} {a : Str} {pn : List (Addr × Obj)} {xe : Value → Shared → Prop} {W : WX} {tb : XK → TE} {p1 p2 : Pos}
    (I : Inv X pins σ H s) (L : LamX.LamS X.env.scope scope)
    (hbind : ∀ (q : Str) (cl : List (Str × Addr)) (pm cv ctv : Value), bindArgs (PySem.W.kla_fn "<lambda>" q params body scope cl pm cv ctv) ⟨[], []⟩ = pure [])
    (tk : Takes ((cxOf CXg X.prog X.w X.K X.mg X.base Ng qg sg g cdg X.A X.stack s H Eg).tr pn xe) W) (hr : Room (k + 1) (X.A.deeper (envOfC qg sg s.heap.objs.size g cdg)))
    (hbody : ∀ (A : Around) (outer : List Env) (r : Shared) (G : Hp) (E : XK) (fn cc : Addr), Room k (A.deeper (LamX.lamEnv X scope r.heap.objs.size fn cc)) → A.guards = X.A.guards → PE (LamX.lamCx X A outer r G E scope fn cc) body (tb E))
    (hN : Ng[i]? = some a) (hv : Vis sg a) (hd : (a == ("__debug__" : Str)) = false := by decide) (hcd : (a == ("__classdict__" : Str)) = false := by decide) :
    PE ((cxOf CXg X.prog X.w X.K X.mg X.base Ng qg sg g cdg X.A X.stack s H Eg).tr pn xe) (.Call (.Name a p1) [] [] p2) (tActF i fn cc (X.env.qual ++ "<lambda>") (FnO fn (PySem.W.kla_obj "<lambda>" (X.env.qual ++ "<lambda>") params body scope (cloFrom X.env.cells scope.names []) pm cc ctv)) (fun E H' Q' => tb E σ H' Q') W) := by
  constructor
  intro pinsZ sZ τ HZ Q IZ ⟨at_i, at_c, at_f, E, toW, told⟩
  refine wpAny_Call_Name_kw (thn ((pe_var (pos := p1) (i := i) hN hv hd hcd).run pinsZ sZ τ HZ (fun v H1 => v = .ref fn ∧ H1 = HZ) IZ ⟨.ref fn, at_i, rfl, rfl⟩) fun u r got => ?_)
  obtain ⟨v, H1, J, rel, ev, eH⟩ := got
  subst ev
  rw [eH] at J
  cases (show u = Value.ref fn from rel)
  have here := fnO_at J at_f
  refine PySem.W.callWith_F0 ⟨_, _, _, _, here⟩ ?_
  have since : Un (frs X.stack) [] H HZ s.heap r.heap := J.base
  obtain ⟨⟨ob, us, tq, c1, c2, c3⟩, _, _⟩ := J.hok cc _ at_c
  have inner : codeAny (model X.prog X.w) (X.A.deeper (envOfC qg sg s.heap.objs.size g cdg)) (.call (.ref fn) ⟨[], []⟩) (CR (L2.CX X.prog X.w) (envOfC qg sg s.heap.objs.size g cdg :: X.stack) X.prog X.w HZ r Q E) r := by
    refine PySem.W.kla_callFunE hr.depth here rfl L.co L.gen rfl ⟨cc, ob, us, tq, rfl, c1, c2, c3⟩ ?_
    rw [hbind]
    refine wpAny_pure (wpAny_newFunctionEnv (fun y hy => (L.own y hy).2) (fun y hy => absurd hy (by simp)) (fun h2 names sub => ⟨J.nolimit.fresh _ sub, ?_⟩) L.kind)
    show codeAny _ _ (.expr body (LamX.lamEnv X scope r.heap.objs.size fn cc)) _ _
    have B := LamX.lam_start2 (HZ := HZ) (E := E) (c' := cc) (f := fn) (tk := r.toks + ([] : List (Str × Value)).length) I L J.env0 hr.hd since names fun b o e => sub.extBut b o (Nat.ne_of_lt (Heap.lt_size e)) (Heap.get?_push_of_some _ e)
    refine PySem.W.kla_codeExpr (wpAny_mono ((hbody _ _ r HZ E fn cc (hr.deeper _) rfl).run [] _ _ HZ Q B told) (fun v r3 z => ?_) fun e r3 z => z)
    obtain ⟨y, H3, J3, ry, q⟩ := z
    exact ⟨y, H3, J3.os, J3.bare, J3.base, J3.hok, ry, q⟩
  refine wpAny_call (codeAny_mono inner fun out r2 ends => ?_)
  · match out, ends with
    | .error e, ends => exact tk e r2 (XE.of_call J (fun cls d H' z => toW cls d H' z) ends)
    | .ok (.ret u), ends => exact J.after ends
    | .ok .next, ends => exact ends.elim
    | .ok .brk, ends => exact ends.elim
    | .ok .cont, ends => exact ends.elim
/-- the def that calls what it got, by its body -/
def GivesF (X : Cx) (Ng : List Str) (x : Str) (sg : Scope) (g : Addr) (cdg : Value) (bg : List Stmt) (a : Str) (q : Str) (k : Nat) (TT : (XK → Hp → VK → Prop) → Hp → VK → Prop) : Prop :=
  ∀ (fn cc : Addr) (F : HO) (s : Shared) (H : Hp) (Q : VK) (tl : XK → Hp → VK → Prop), (∃ φ, F = .ext φ) → Room (k + 1) (X.A.deeper (envOfC x sg s.heap.objs.size g cdg)) →
    (∀ (W : WX) (pn : List (Addr × Obj)) (xe : Value → Shared → Prop) (p1 p2 : Pos), Takes ((cxOf CX0 X.prog X.w X.K X.mg X.base Ng x sg g cdg X.A X.stack s H C8.E0).nox.tr pn xe) W →
      PE ((cxOf CX0 X.prog X.w X.K X.mg X.base Ng x sg g cdg X.A X.stack s H C8.E0).nox.tr pn xe) (.Call (.Name a p1) [] [] p2) (tActF 0 fn cc q F tl W)) →
    H cc = some (LamX.CodeO cc q) → H fn = some F → TT tl H Q →
    ∃ t, PSs (cxOf CX0 X.prog X.w X.K X.mg X.base Ng x sg g cdg X.A X.stack s H C8.E0).nox bg t ∧ t { nx := fun _ H' => Q .non H', rt := Q } (L2.start Ng [.ref fn]) H
/-- the call of such a def, where X's names stand -/
theorem run_kept {TT : (XK → Hp → VK → Prop) → Hp → VK → Prop} {x a : Str} {g fn : Addr} {k : Nat} {st : Stmt} {fd : FuncData} {Ng : List Str} {t : XK → TE} {Q : VK}
    (F : Fun X.K x x st g fd) (hb : L2.Binds X.K fd [a] []) (Sg : FnScope Ng [a] (defScope st)) (hNg : Ng[0]? = some a) (hva : Vis (defScope st) a)
    (hG : ∀ cdv : Value, GivesF X Ng x (defScope st) g cdv (defBody st) a (X.env.qual ++ "<lambda>") k TT) (hr : Room (k + 2) X.A)
    (I : Inv X pins σ H s) (LA : LamAt X k H fn t) (told : TT (fun E H' Q' => t E σ H' Q') H Q)
    (hd : (a == ("__debug__" : Str)) = false := by decide) (hcd : (a == ("__classdict__" : Str)) = false := by decide) :
    codeAny (model X.prog X.w) X.A (.call (.ref g) ⟨[.ref fn], []⟩) (CR CX0 X.stack X.prog X.w H s Q C8.E0) s := by
  obtain ⟨oc, od, kV, doc, pm, an, cdv, ct, osl, rfl, lk, hcg⟩ := F.ex
  obtain ⟨params, body, scope, pm', ctv, cc, at_f, at_c, L, hbind, hbody⟩ := LA
  refine LamX.run_ofS (N := Ng) (ps := [a]) (us := [.ref fn]) (vs := [.ref fn]) lk hcg Sg hr I.env0 (hb s [.ref fn] I.kIn rfl) (.cons rfl .nil) rfl fun hr1 => ?_
  obtain ⟨t1, ht1, hq1⟩ := hG cdv fn cc _ s H Q (fun E H' Q' => t E σ H' Q') ⟨_, rfl⟩ hr1 (fun W pn xe p1 p2 tk => pe_actF (CXg := CX0) (Eg := C8.E0) (i := 0) (tb := t) I L hbind tk hr1 hbody hNg hva hd hcd) at_c at_f told
  exact ⟨t1, ht1.nox, hq1⟩
end
/-- x(e), e a lambda that X made, called in X -/
def tCallL (X : Cx) (k : Nat) (TT : (XK → Hp → VK → Prop) → Hp → VK → Prop) (te : TE) : TE := fun σ H Q => te σ H fun v H1 => ∃ (fn : Addr) (t : XK → TE), v = .ref fn ∧ LamAt X k H1 fn t ∧ TT (fun E H' Q' => t E σ H' Q') H1 Q
theorem pe_callL {X : Cx} {TT : (XK → Hp → VK → Prop) → Hp → VK → Prop} {x a : Str} {g : Addr} {k : Nat} {st : Stmt} {fd : FuncData} {Ng : List Str} {e : Expr} {te : TE} {p pos : Pos}
    (F : Fun X.K x x st g fd) (hb : L2.Binds X.K fd [a] []) (Sg : FnScope Ng [a] (defScope st)) (hg : Gl X x) (hm : X.mg x = some (.ref g)) (hNg : Ng[0]? = some a) (hva : Vis (defScope st) a)
    (hG : ∀ cdv : Value, GivesF X Ng x (defScope st) g cdv (defBody st) a (X.env.qual ++ "<lambda>") k TT) (hr : Room (k + 2) X.A) (he : PE X e te)
    (hs : starEach [e] X.env = (false, eval e X.env) :: starEach [] X.env := by rfl) (hdb : (x == ("__debug__" : Str)) = false := by decide) (hd : (a == ("__debug__" : Str)) = false := by decide) (hcd : (a == ("__classdict__" : Str)) = false := by decide) :
    PE X (.Call (.Name x p) [e] [] pos) (tCallL X k TT te) := by
  constructor
  intro pins s σ H Q I want
  refine wpAny_Call_Name_kw (ld_glob I hg hm (PySem.W.callWith_K (h₀ := X.base) I.ok.mod.kin F.kp ?_ hs (by rfl)) hdb)
  rw [hs]
  show wpAny _ _ (spliced ((false, eval e X.env) :: backTo pos (starEach [] X.env))) _ _ s
  refine Calls.spliced_cons (thn (he.run pins s σ H _ I want) fun u r ⟨v, H1, J, rel, fn, t, ev, LA, told⟩ => Calls.spliced_nil ⟨J.kIn, ?_⟩)
  subst ev
  cases (show u = Value.ref fn from rel)
  refine wpAny_call (codeAny_mono (run_kept F hb Sg hNg hva hG hr J LA told hd hcd) fun out r2 ends => ?_)
  match out, ends with
  | .error e, ends => exact (show False from ends).elim
  | .ok (.ret u), ends => exact J.after ends
  | .ok .next, ends => exact ends.elim
  | .ok .brk, ends => exact ends.elim
  | .ok .cont, ends => exact ends.elim
/-- .. called in the block of one of X's comprehensions -/
def tCallW (X : Cx) (k : Nat) (σ : L2.St) (TT : (XK → Hp → VK → Prop) → Hp → VK → Prop) (te : TE) : TE := fun τ H Q => te τ H fun v H1 => ∃ (fn : Addr) (t : XK → TE), v = .ref fn ∧ LamAt X k H1 fn t ∧ TT (fun E H' Q' => t E σ H' Q') H1 Q
theorem pe_callW {X : Cx} {s0 : Shared} {G0 : Hp} {bsc : Scope} {ce : Env} {fp : List Addr} {pl : List (Addr × Obj)} {σ : L2.St} {TT : (XK → Hp → VK → Prop) → Hp → VK → Prop} {x a : Str} {g : Addr} {k : Nat} {st : Stmt} {fd : FuncData} {Ng : List Str} {e : Expr} {te : TE} {p pos : Pos}
    (B : Back X (X.blk s0 G0 bsc ce fp) pl σ)
    (F : Fun X.K x x st g fd) (hb : L2.Binds X.K fd [a] []) (Sg : FnScope Ng [a] (defScope st)) (hg : Gl (X.blk s0 G0 bsc ce fp) x) (hm : X.mg x = some (.ref g)) (hNg : Ng[0]? = some a) (hva : Vis (defScope st) a)
    (hG : ∀ cdv : Value, GivesF X Ng x (defScope st) g cdv (defBody st) a (X.env.qual ++ "<lambda>") k TT) (hr : Room (k + 2) X.A) (he : PE (X.blk s0 G0 bsc ce fp) e te)
    (hs : starEach [e] ce = (false, eval e ce) :: starEach [] ce := by rfl) (hdb : (x == ("__debug__" : Str)) = false := by decide) (hd : (a == ("__debug__" : Str)) = false := by decide) (hcd : (a == ("__classdict__" : Str)) = false := by decide) :
    PE (X.blk s0 G0 bsc ce fp) (.Call (.Name x p) [e] [] pos) (tCallW X k σ TT te) := by
  constructor
  intro pins s τ H Q I want
  refine wpAny_Call_Name_kw (ld_glob I hg hm (PySem.W.callWith_K (h₀ := X.base) I.ok.mod.kin F.kp ?_ hs (by rfl)) hdb)
  show wpAny _ _ (spliced (backTo pos (starEach [e] ce))) _ _ s
  rw [hs]
  show wpAny _ _ (spliced ((false, eval e ce) :: backTo pos (starEach [] ce))) _ _ s
  refine Calls.spliced_cons (thn (he.run pins s τ H _ I want) fun u r ⟨v, H1, J, rel, fn, t, ev, LA, told⟩ => Calls.spliced_nil ⟨J.kIn, ?_⟩)
  subst ev
  cases (show u = Value.ref fn from rel)
  refine wpAny_call (codeAny_mono (run_kept (X := X) F hb Sg hNg hva hG hr (B _ _ _ _ J) LA told hd hcd) fun out r2 ends => ?_)
  match out, ends with
  | .error e, ends => exact (show False from ends).elim
  | .ok (.ret u), ends => exact J.after ends
  | .ok .next, ends => exact ends.elim
  | .ok .brk, ends => exact ends.elim
  | .ok .cont, ends => exact ends.elim
end Mo

namespace Mo
open PySem PySem.Spec PyProof.Rows L2
/-! ### the pen -/
def nxtD (c : Addr) (t r : Int) : List (Key × V) := [(.inr "cells", .ref c), (.inr "next", .int t), (.inr "rest", .int r)]
theorem n_ct : ¬ ((Sum.inr "cells" : Key) = (Sum.inr "next" : Key)) := by decide +kernel
theorem n_cr : ¬ ((Sum.inr "cells" : Key) = (Sum.inr "rest" : Key)) := by decide +kernel
theorem n_tr : ¬ ((Sum.inr "next" : Key) = (Sum.inr "rest" : Key)) := by decide +kernel
theorem nxt_cells (c : Addr) (t r : Int) : valV (nxtD c t r) (Sum.inr "cells") = some (.ref c) := valV_pos rfl
theorem nxt_next (c : Addr) (t r : Int) : valV (nxtD c t r) (Sum.inr "next") = some (.int t) := by
  unfold nxtD
  rw [valV_neg n_ct, valV_pos rfl]
theorem nxt_rest (c : Addr) (t r : Int) : valV (nxtD c t r) (Sum.inr "rest") = some (.int r) := by
  unfold nxtD
  rw [valV_neg n_cr, valV_neg n_tr, valV_pos rfl]
theorem nput_next (c : Addr) (t r u : Int) : putK (nxtD c t r) (Sum.inr "next") (.int u) = nxtD c u r := by
  unfold putK nxtD
  have k1 := n_ct
  have k2 : ¬ ((Sum.inr "rest" : Key) = (Sum.inr "next" : Key)) := fun e => n_tr e.symm
  simp only [List.any_cons, List.map_cons, List.map_nil, k1, k2, if_false, if_true, decide_true, decide_false, Bool.true_or, Bool.or_true, Bool.false_or]
theorem nput_rest (c : Addr) (t r u : Int) : putK (nxtD c t r) (Sum.inr "rest") (.int u) = nxtD c t u := by
  unfold putK nxtD
  have k1 := n_cr
  have k2 := n_tr
  simp only [List.any_cons, List.map_cons, List.map_nil, k1, k2, if_false, if_true, decide_true, decide_false, Bool.true_or, Bool.or_true, Bool.false_or]
theorem nxt_merge (c : Addr) (t r : Int) : mergeK [] (nxtD c t r) = nxtD c t r := by
  have k1 := n_ct
  have k2 := n_cr
  have k3 := n_tr
  simp only [mergeK, nxtD, putK, List.foldl_cons, List.foldl_nil, List.any_nil, List.any_cons, List.nil_append, List.cons_append, k1, k2, k3, decide_false, Bool.or_false, Bool.false_eq_true, if_false]
/-- the pen at d, its cells at c, t draws done -/
def Nxt (H : Hp) (d c : Addr) (t : Nat) : Prop := ∃ (ns : List Int) (r : Int), H d = some (.dK (nxtD c t r)) ∧ H c = some (.lst (ns.map V.int)) ∧ ns.length ≤ 63 ∧ 0 ≤ r
theorem Nxt.ne {H : Hp} {d c : Addr} {t : Nat} (h : Nxt H d c t) : d ≠ c := by
  obtain ⟨ns, r, h1, h2, _⟩ := h
  exact ne_of h1 h2 (by intro z; cases z)
theorem Nxt.new {H : Hp} {d c : Addr} {t : Nat} (h : Nxt H d c t) {p : Addr} (hp : H p = none) : p ≠ d ∧ p ≠ c := by
  obtain ⟨ns, r, h1, h2, _⟩ := h
  exact ⟨(ne_of_none h1 hp).symm, (ne_of_none h2 hp).symm⟩
theorem Nxt.upd {H : Hp} {d c : Addr} {t : Nat} (h : Nxt H d c t) {p : Addr} {o : HO} (h1 : p ≠ d) (h2 : p ≠ c) : Nxt (upd H p o) d c t := by
  obtain ⟨ns, r, e1, e2, e3⟩ := h
  exact ⟨ns, r, by rw [upd_ne h1.symm]; exact e1, by rw [upd_ne h2.symm]; exact e2, e3⟩
theorem Nxt.same {H H' : Hp} {d c : Addr} {t : Nat} (h : Nxt H d c t) (s : Same H H') : Nxt H' d c t := by
  obtain ⟨ns, r, e1, e2, e3⟩ := h
  exact ⟨ns, r, s _ _ e1, s _ _ e2, e3⟩
theorem nxt_set {H : Hp} {d c : Addr} {t : Nat} (h : Nxt H d c t) {u : Nat} {r : Int} (hr : 0 ≤ r) : Nxt (L2.upd H d (.dK (nxtD c u r))) d c u := by
  have n := h.ne
  obtain ⟨ns, r0, e1, e2, e3, _⟩ := h
  exact ⟨ns, r, upd_same, by rw [upd_ne n.symm]; exact e2, e3, hr⟩
def spNDraw : Sp := fun vs H Q _ => ∃ (d c : Addr) (n : Int) (t : Nat), vs = [.ref d, .int n] ∧ Nxt H d c t ∧ 0 < n ∧ n < 1073741824 ∧ t < 1073741824 ∧
  ∀ H' k t', But d H H' → Nxt H' d c t' → t' ≤ t + 1 → 0 ≤ k → k < n → Q (.int k) H'
def spNPick (K : PySem.W.Frag) : Sp := fun vs H Q _ => ∃ (d c l : Addr) (xs : List V) (t : Nat), vs = [.ref d, .ref l] ∧ Nxt H d c t ∧ SqL K H l xs ∧ l ≠ d ∧ 0 < xs.length ∧ xs.length < 1073741824 ∧ t < 1073741824 ∧
  ∀ H' v t', But d H H' → Nxt H' d c t' → t' ≤ t + 1 → v ∈ xs → Q v H'
end Mo

namespace Mo
open PySem PySem.Spec PyProof.Rows L2
section
variable {X : Cx}
/-- x //= y of ints, a divisor that is small -/
theorem ip_fdiv : PIp X .FloorDiv (fun x y H Q => ∃ i j, x = .int i ∧ y = .int j ∧ (j ≠ 0 ∧ j.natAbs < 1073741824) ∧ Q (.int (i.fdiv j)) H) := by
  intro pins s σ H x y v u Q I r1 r2 h
  obtain ⟨i, j, e1, e2, hc, q⟩ := h
  subst e1; subst e2
  obtain ⟨t, rfl⟩ := r1
  obtain ⟨t', rfl⟩ := r2
  exact ifloordiv_int hc.1 ⟨.int _, H, I.tok _, ⟨_, rfl⟩, q⟩ (.inl (PyProof.noPylong_small hc.2))
/-- x += y of texts -/
theorem ip_addS : PIp X .Add (fun x y H Q => ∃ i j, x = .str i ∧ y = .str j ∧ i.length + j.length ≤ sizeLine ∧ Q (.str (i ++ j)) H) :=
  fun pins s σ H x y u v Q I rx ry h => iop_add_str pins s σ H x y u v Q I rx ry h
end
end Mo

/-! ### data of any kind: None, bools, ints, texts, lists, tuples, dicts (keys ints and texts), at any depth -/
namespace Mo
open PySem PySem.Spec PyProof.Rows L2
def keyD : Key → PyData
  | .inl i => .int i
  | .inr x => .str x
mutual
inductive Dx (N : Addr → Prop) (H : Hp) : V → PyData → Prop
  | non : Dx N H .non .none
  | bl (b : Bool) : Dx N H (.bl b) (.bool b)
  | int (i : Int) : Dx N H (.int i) (.int i)
  | str (x : Str) : Dx N H (.str x) (.str x)
  | lst {a : Addr} {xs : List V} {ds : List PyData} : H a = some (.lst xs) → ¬ N a → DxAll N H xs ds → Dx N H (.ref a) (.list ds)
  | tup {a : Addr} {xs : List V} {ds : List PyData} : H a = some (.tup xs) → ¬ N a → DxAll N H xs ds → Dx N H (.ref a) (.tuple ds)
  | dct {a : Addr} {kvs : List (Key × V)} {ds : List PyData} : H a = some (.dK kvs) → ¬ N a → DxAll N H (kvs.map (·.2)) ds → Dx N H (.ref a) (.dict ((kvs.map fun kv => keyD kv.1).zip ds))
inductive DxAll (N : Addr → Prop) (H : Hp) : List V → List PyData → Prop
  | nil : DxAll N H [] []
  | cons {v : V} {vs : List V} {d : PyData} {ds : List PyData} : Dx N H v d → DxAll N H vs ds → DxAll N H (v :: vs) (d :: ds)
end
theorem DxAll.length {N : Addr → Prop} {H : Hp} : ∀ {vs : List V} {ds : List PyData}, DxAll N H vs ds → vs.length = ds.length
  | _, _, .nil => rfl
  | _, _, .cons _ t => by rw [List.length_cons, List.length_cons, DxAll.length t]
mutual
theorem Dx.same {N : Addr → Prop} {H H' : Hp} (s : Same H H') : ∀ {v : V} {d : PyData}, Dx N H v d → Dx N H' v d
  | _, _, .non => .non
  | _, _, .bl b => .bl b
  | _, _, .int i => .int i
  | _, _, .str x => .str x
  | _, _, .lst h n t => .lst (s _ _ h) n (DxAll.same s t)
  | _, _, .tup h n t => .tup (s _ _ h) n (DxAll.same s t)
  | _, _, .dct h n t => .dct (s _ _ h) n (DxAll.same s t)
theorem DxAll.same {N : Addr → Prop} {H H' : Hp} (s : Same H H') : ∀ {v : List V} {d : List PyData}, DxAll N H v d → DxAll N H' v d
  | _, _, .nil => .nil
  | _, _, .cons h t => .cons (Dx.same s h) (DxAll.same s t)
end
mutual
/-- all but what N names, which the data does not hold -/
theorem Dx.but {N : Addr → Prop} {H H' : Hp} (s : ∀ b o, ¬ N b → H b = some o → H' b = some o) : ∀ {v : V} {d : PyData}, Dx N H v d → Dx N H' v d
  | _, _, .non => .non
  | _, _, .bl b => .bl b
  | _, _, .int i => .int i
  | _, _, .str x => .str x
  | _, _, .lst h n t => .lst (s _ _ n h) n (DxAll.but s t)
  | _, _, .tup h n t => .tup (s _ _ n h) n (DxAll.but s t)
  | _, _, .dct h n t => .dct (s _ _ n h) n (DxAll.but s t)
theorem DxAll.but {N : Addr → Prop} {H H' : Hp} (s : ∀ b o, ¬ N b → H b = some o → H' b = some o) : ∀ {v : List V} {d : List PyData}, DxAll N H v d → DxAll N H' v d
  | _, _, .nil => .nil
  | _, _, .cons h t => .cons (Dx.but s h) (DxAll.but s t)
end
mutual
/-- another N that names no more of what is there -/
theorem Dx.more {N N' : Addr → Prop} {H : Hp} (s : ∀ b, H b ≠ none → N' b → N b) : ∀ {v : V} {d : PyData}, Dx N H v d → Dx N' H v d
  | _, _, .non => .non
  | _, _, .bl b => .bl b
  | _, _, .int i => .int i
  | _, _, .str x => .str x
  | _, _, .lst h n t => .lst h (fun z => n (s _ (by rw [h]; exact Option.some_ne_none _) z)) (DxAll.more s t)
  | _, _, .tup h n t => .tup h (fun z => n (s _ (by rw [h]; exact Option.some_ne_none _) z)) (DxAll.more s t)
  | _, _, .dct h n t => .dct h (fun z => n (s _ (by rw [h]; exact Option.some_ne_none _) z)) (DxAll.more s t)
theorem DxAll.more {N N' : Addr → Prop} {H : Hp} (s : ∀ b, H b ≠ none → N' b → N b) : ∀ {v : List V} {d : List PyData}, DxAll N H v d → DxAll N' H v d
  | _, _, .nil => .nil
  | _, _, .cons h t => .cons (Dx.more s h) (DxAll.more s t)
end
theorem DxAll.append {N : Addr → Prop} {H : Hp} : ∀ {vs ws : List V} {ds es : List PyData}, DxAll N H vs ds → DxAll N H ws es → DxAll N H (vs ++ ws) (ds ++ es)
  | _, _, _, _, .nil, h => h
  | _, _, _, _, .cons a t, h => .cons a (DxAll.append t h)
theorem DxAll.get {N : Addr → Prop} {H : Hp} : ∀ {vs : List V} {ds : List PyData} {i : Nat} {v : V}, DxAll N H vs ds → vs[i]? = some v → ∃ d, ds[i]? = some d ∧ Dx N H v d
  | _, _, _, _, .nil, h => by simp at h
  | _, _, 0, _, .cons a t, h => by
    obtain rfl := Option.some.inj h
    exact ⟨_, rfl, a⟩
  | _, _, i + 1, _, .cons a t, h => by
    obtain ⟨d, e, q⟩ := DxAll.get (i := i) t h
    exact ⟨d, e, q⟩
theorem DxAll.mem {N : Addr → Prop} {H : Hp} {vs : List V} {ds : List PyData} {v : V} (h : DxAll N H vs ds) (hv : v ∈ vs) : ∃ d ∈ ds, Dx N H v d := by
  obtain ⟨i, hi⟩ := List.mem_iff_getElem?.mp hv
  obtain ⟨d, e, q⟩ := h.get hi
  exact ⟨d, List.mem_of_getElem? e, q⟩
section
variable {X : Cx} {N : Addr → Prop} {pins : List (Addr × Obj)} {σ : L2.St} {H : Hp} {s : Shared}
theorem key_reads {h : Heap} {k : Key} {u : Value} (e : keyIs k u = true) : Reads h u (keyD k) [] := by
  rcases keyIs_shape e with ⟨i, t, rfl, rfl⟩ | ⟨z, t, rfl, rfl⟩
  · exact .int i t
  · exact .str z t
theorem keys_read {P : Program} {w : World} {h : Heap} : ∀ {es : List DictEntry} {vs : List (Key × Value)}, Pairs (mixKind P w) es vs → ReadsAll h (es.map (·.key)) (vs.map fun kv => keyD kv.1) []
  | _, _, .nil => .nil
  | _, _, .cons e _ t => by
    have q := ReadsAll.cons (key_reads (h := h) e) (keys_read t)
    exact q
theorem vals_eq {P : Program} {w : World} : ∀ {es : List DictEntry} {vs : List (Key × Value)}, Pairs (mixKind P w) es vs → es.map (·.val) = vs.map (·.2)
  | _, _, .nil => rfl
  | _, _, .cons _ e t => by
    rw [List.map_cons, List.map_cons, e, vals_eq t]
theorem kv_keys : ∀ {kvs : List (Key × V)} {vs : List (Key × Value)}, KV kvs vs → kvs.map (fun kv => keyD kv.1) = vs.map (fun kv => keyD kv.1)
  | _, _, .nil => rfl
  | _, _, .cons h t => by
    rw [List.map_cons, List.map_cons, h.1, kv_keys t]
theorem kv_vals : ∀ {kvs : List (Key × V)} {vs : List (Key × Value)}, KV kvs vs → Vals (kvs.map (·.2)) (vs.map (·.2))
  | _, _, .nil => .nil
  | _, _, .cons h t => .cons h.2 (kv_vals t)
mutual
theorem Dx.reads (I : Inv X pins σ H s) (hs : H sysModules = none) : ∀ {x : V} {d : PyData}, Dx N H x d → ∀ {u : Value}, RelV x u → ∃ as, Reads s.heap u d as ∧ sysModules ∉ as
  | _, _, .non, u, r => by
    obtain rfl : u = Value.none := r
    exact ⟨[], .none, by simp⟩
  | _, _, .bl b, u, r => by
    obtain rfl : u = Value.bool b := r
    exact ⟨[], .bool b, by simp⟩
  | _, _, .int i, u, r => by
    obtain ⟨t, rfl⟩ : ∃ t, u = Value.int i t := r
    exact ⟨[], .int i t, by simp⟩
  | _, _, .str x, u, r => by
    obtain ⟨t, rfl⟩ : ∃ t, u = Value.str x t := r
    exact ⟨[], .str x t, by simp⟩
  | _, _, .lst (a := a) (xs := xs) ha hN t, u, r => by
    obtain rfl : u = Value.ref a := r
    obtain ⟨_, its, n, rv, e⟩ := (show ObjOk X.prog X.w H s.heap a (.lst xs) from I.hok a _ ha)
    obtain ⟨as, q, ns⟩ := DxAll.reads I hs t rv
    refine ⟨a :: as, .list e rfl rfl (by simpa using q), fun z => ?_⟩
    rcases List.mem_cons.mp z with z | z
    · rw [z, ha] at hs
      cases hs
    · exact ns z
  | _, _, .tup (a := a) (xs := xs) ha hN t, u, r => by
    obtain rfl : u = Value.ref a := r
    obtain ⟨_, its, rv, o, e, hc, n, hd⟩ := (show ObjOk X.prog X.w H s.heap a (.tup xs) from I.hok a _ ha)
    obtain ⟨as, q, ns⟩ := DxAll.reads I hs t rv
    exact ⟨as, .tuple e hc hd (by simpa using q), ns⟩
  | _, _, .dct (a := a) (kvs := kvs) (ds := ds) ha hN t, u, r => by
    obtain rfl : u = Value.ref a := r
    obtain ⟨_, _, vs, kv, o, es, ep, ho, hc, hdt, _, hp, _⟩ := (show ObjOk X.prog X.w H s.heap a (.dK kvs) from I.hok a _ ha)
    obtain ⟨as, q, ns⟩ := DxAll.reads I hs t (kv_vals kv)
    have hl := DxAll.length t
    have hl2 : (kvs.map fun kv => keyD kv.1).length = ds.length := by rw [List.length_map, ← hl, List.length_map]
    have k1 := keys_read (h := s.heap) hp
    rw [← kv_keys kv] at k1
    refine ⟨_, .dict (as := []) (bs := as) ho hc.1 hdt ?_ ?_, fun z => ?_⟩
    · rw [List.map_fst_zip (Nat.le_of_eq hl2)]
      exact k1
    · rw [List.map_snd_zip (Nat.le_of_eq hl2.symm), vals_eq hp]
      exact q
    · rcases List.mem_append.mp z with z | z
      · rw [List.mem_singleton.mp z, ha] at hs
        cases hs
      · exact ns z
theorem DxAll.reads (I : Inv X pins σ H s) (hs : H sysModules = none) : ∀ {xs : List V} {ds : List PyData}, DxAll N H xs ds → ∀ {us : List Value}, Vals xs us → ∃ as, ReadsAll s.heap us ds as ∧ sysModules ∉ as
  | _, _, .nil, _, .nil => ⟨[], .nil, by simp⟩
  | _, _, .cons h t, _, .cons r rs => by
    obtain ⟨as, q, n⟩ := Dx.reads I hs h r
    obtain ⟨bs, q2, n2⟩ := DxAll.reads I hs t rs
    exact ⟨as ++ bs, .cons q q2, fun z => (List.mem_append.mp z).elim n n2⟩
end
/-- repr(data) -/
def rReprX : List V → Hp → VK → Prop := fun xs H Q => ∃ (N : Addr → Prop) (x : V) (d : PyData), xs = [x] ∧ Dx N H x d ∧ d.showable = true ∧ d.depth ≤ 40 ∧ d.shown.length ≤ sizeLine ∧ Q (.str d.shown) H
theorem cr_reprX (hb : ∃ mm, X.base.Ns sysModules mm) (hg : X.A.guards = some []) (hu : X.A.units + 64 < cLine) : CallR X (.builtin "repr") rReprX := by
  intro pins s σ H xs us Q I r h
  obtain ⟨N, x, d, rfl, hd, hs, hdp, hz, q⟩ := h
  obtain ⟨u, rfl, ru⟩ := vals1 r
  have h1 : H sysModules = none := by
    obtain ⟨mm, o, es, ep, e, _⟩ := hb
    exact (I.bs _ _ e).2
  obtain ⟨as, rd, hsm⟩ := Dx.reads I h1 hd ru
  cases rd with
  | none => exact PySem.P.repr_of_none ⟨.str _, H, I.tok _, ⟨_, rfl⟩, q⟩
  | bool b => exact PySem.P.repr_of_bool ⟨.str _, H, I.tok _, ⟨_, rfl⟩, q⟩
  | int i t => exact PySem.P.repr_of_int (of_decide_eq_true hs) ⟨.str _, H, I.tok _, ⟨_, rfl⟩, q⟩
  | str z t => exact PySem.P.repr_of_str ⟨.str _, H, I.tok _, ⟨_, rfl⟩, q⟩ hz
  | list a1 a2 a3 a4 => exact repr_of_reads' (.list a1 a2 a3 a4) hs (fun _ => hsm) hg (by omega) (fun _ _ e => e) (fun h' u' tk hk => ⟨.str _, H, I.kept (t' := tk) hk, ⟨_, rfl⟩, q⟩) hz
  | tuple a1 a2 a3 a4 => exact repr_of_reads' (.tuple a1 a2 a3 a4) hs (fun _ => hsm) hg (by omega) (fun _ _ e => e) (fun h' u' tk hk => ⟨.str _, H, I.kept (t' := tk) hk, ⟨_, rfl⟩, q⟩) hz
  | dict a1 a2 a3 a4 a5 => exact repr_of_reads' (.dict a1 a2 a3 a4 a5) hs (fun _ => hsm) hg (by omega) (fun _ _ e => e) (fun h' u' tk hk => ⟨.str _, H, I.kept (t' := tk) hk, ⟨_, rfl⟩, q⟩) hz
end
end Mo

/-! ### rules for data of any kind -/
namespace Mo
open PySem PySem.Spec PyProof.Rows L2
section
variable {X : Cx}
/-- a list of anything == [] -/
def rEqNil (K : PySem.W.Frag) : R2 := fun x y H Q => ∃ a b xs, x = .ref a ∧ y = .ref b ∧ SqL K H a xs ∧ SqL K H b [] ∧ Q (.bl xs.isEmpty) H
theorem op_eqNil (hu : X.A.units + 64 < cLine) : OpR X (compareOp .Eq) (rEqNil X.K) := by
  intro pins s σ H x y v u Q I rx ry h
  obtain ⟨a, b, xs, rfl, rfl, ha, hb, q⟩ := h
  cases rx
  cases ry
  obtain ⟨is, r1, p1, _⟩ := I.list ha
  obtain ⟨js, r2, p2, _⟩ := I.list hb
  cases r2
  cases r1 with
  | nil => exact SeqAt.eq_listAt (e := fun _ => true) p1.isList p2.isList rfl (by omega) (fun j h1 => absurd h1 (by simp)) ⟨.bl true, H, I, rfl, q⟩
  | cons r rs => exact SeqAt.eq_list_lengthsAt p1.isList p2.isList (by simp) (by omega) ⟨.bl false, H, I, rfl, q⟩
/-- a list of anything != [] -/
def rNeNil (K : PySem.W.Frag) : R2 := fun x y H Q => ∃ a b xs, x = .ref a ∧ y = .ref b ∧ SqL K H a xs ∧ SqL K H b [] ∧ Q (.bl (!xs.isEmpty)) H
theorem op_neNil (hu : X.A.units + 64 < cLine) : OpR X (compareOp .NotEq) (rNeNil X.K) := by
  intro pins s σ H x y v u Q I rx ry h
  obtain ⟨a, b, xs, rfl, rfl, ha, hb, q⟩ := h
  cases rx
  cases ry
  obtain ⟨is, r1, p1, _⟩ := I.list ha
  obtain ⟨js, r2, p2, _⟩ := I.list hb
  cases r2
  cases r1 with
  | nil => exact SeqAt.RcNeAt.lists (e := fun _ => true) p1.isList p2.isList rfl (by omega) (fun j h1 => absurd h1 (by simp)) X.prog X.w X.xe _ ⟨.bl false, H, I, rfl, q⟩
  | cons r rs => exact SeqAt.RcNeAt.lists_lengths p1.isList p2.isList (by simp) (by omega) X.prog X.w X.xe _ ⟨.bl true, H, I, rfl, q⟩
/-- a tuple of anything != () -/
def rNeNilT (K : PySem.W.Frag) : R2 := fun x y H Q => ∃ a b xs, x = .ref a ∧ y = .ref b ∧ SqT K H a xs ∧ SqT K H b [] ∧ Q (.bl (!xs.isEmpty)) H
theorem op_neNilT (hu : X.A.units + 64 < cLine) : OpR X (compareOp .NotEq) (rNeNilT X.K) := by
  intro pins s σ H x y v u Q I rx ry h
  obtain ⟨a, b, xs, rfl, rfl, ha, hb, q⟩ := h
  cases rx
  cases ry
  obtain ⟨is, r1, p1, _⟩ := I.tuple ha
  obtain ⟨js, r2, p2, _⟩ := I.tuple hb
  cases r2
  have k1 : s.heap.IsTuple a is.toArray := p1
  have k2 : s.heap.IsTuple b (List.nil (α := Value)).toArray := p2
  refine SeqAt.RcNeAt.tuples (e := fun _ => true) k1 k2 (by omega) (fun j _ h2 => absurd h2 (by simp)) X.prog X.w X.xe _ ?_
  cases r1 with
  | nil => exact ⟨.bl false, H, I, rfl, q⟩
  | cons r rs => exact ⟨.bl true, H, I, by simp only [List.size_toArray, List.length_cons, List.length_nil, Nat.min_zero, List.range_zero, List.all_nil, Bool.true_and]; rfl, q⟩
theorem vals_signs : ∀ (cs : List Nat) (l : List Value), l.length = cs.length → (∀ (j : Nat) (v : Value), l[j]? = some v → ∃ c u, cs[j]? = some c ∧ v = .str ⟨#[c]⟩ u) → Vals (cs.map sg) l
  | [], [], _, _ => .nil
  | [], _ :: _, h, _ => by simp at h
  | _ :: _, [], h, _ => by simp at h
  | c :: cs, v :: l, h, q => by
    obtain ⟨c', u, e1, rfl⟩ := q 0 v rfl
    obtain rfl := Option.some.inj e1
    exact .cons ⟨u, rfl⟩ (vals_signs cs l (by simpa using h) fun j v e => q (j + 1) v e)
/-- tuple(a text) -/
theorem cr_tupS (hc : X.calm = true) : CallR X (.type "tuple") (fun xs H Q => ∃ cs : List Nat, xs = [.str (tx cs)] ∧ cs.length ≤ 100000 ∧ ∀ p, H p = none → Q (.ref p) (upd H p (.tup (cs.map sg)))) := by
  intro pins s σ H xs us Q I r h
  obtain ⟨cs, rfl, hz, q⟩ := h
  obtain ⟨u, rfl, t, rfl⟩ := vals1 r
  refine call_tuple_str (I.ok.hd hc) (tx cs) t (fun h' tk acc hk hacc => ?_) (by rw [tx_size]; exact fits5 hz)
  have I1 : Inv X pins σ H { s with heap := h', toks := tk } := I.kept (t' := tk) hk
  have I2 := I1.laid (t' := tk) (o := .tup (cs.map sg)) (h' := h'.push { cls := .type "tuple", data := .seq acc }) (fun b o e => Heap.get?_push_of_some _ e) (Nat.le_refl _) ⟨by rw [List.length_map]; exact fits5 hz, acc.toList, vals_signs cs acc.toList (by have := hacc.1; rw [tx_size] at this; simpa using this) (fun j v e => by
    obtain ⟨c, u, e1, e2⟩ := hacc.2 j v (by simpa using e)
    exact ⟨c, u, tx_get.symm.trans e1, e2⟩), IsTup.new _ _⟩
  exact ⟨.ref h'.objs.size, _, I2, rfl, q _ (I1.hok.fresh (Nat.le_refl _))⟩
/-- z * n, n a small number -/
def mulS (cs : List Nat) (n : Nat) : List Nat := (List.replicate n cs).flatten
theorem foldl_cat (a : List Nat) : ∀ (n : Nat) (acc : List Nat), ((List.replicate n a.toArray).foldl (fun x y => x ++ y) acc.toArray) = (acc ++ (List.replicate n a).flatten).toArray
  | 0, acc => by simp
  | n + 1, acc => by
    rw [List.replicate_succ, List.foldl_cons, List.replicate_succ, List.flatten_cons, ← List.append_assoc, ← foldl_cat a n (acc ++ a)]
    simp
theorem mulS_eq (cs : List Nat) (n : Nat) : Txt.mul (tx cs) (n : Int) = tx (mulS cs n) := by
  unfold Txt.mul mulS
  by_cases h0 : n = 0
  · subst h0
    rfl
  · rw [if_neg (by omega)]
    by_cases h1 : ((n : Int) == 1 || (tx cs).length == 0) = true
    · rw [if_pos h1]
      rcases Bool.or_eq_true_iff.mp h1 with h | h
      · have : n = 1 := by have := beq_iff_eq.mp h; omega
        subst this
        simp
      · have : cs = [] := by
          have := beq_iff_eq.mp h
          rw [tx_len] at this
          exact List.eq_nil_of_length_eq_zero this
        subst this
        simp
    · rw [if_neg h1, show (n : Int).toNat = n from rfl]
      have q := foldl_cat cs n []
      rw [List.nil_append] at q
      exact congrArg Str.mk q
theorem op_mulS : OpR X (binaryOp .Mult) (fun x y H Q => ∃ (cs : List Nat) (n : Nat), x = .str (tx cs) ∧ y = .int n ∧ cs.length ≤ 100000 ∧ n ≤ 100 ∧ Q (.str (tx (mulS cs n))) H) := by
  intro pins s σ H x y v u Q I rx ry h
  obtain ⟨cs, n, rfl, rfl, hz, hn, q⟩ := h
  obtain ⟨t, rfl⟩ := rx
  obtain ⟨t2, rfl⟩ := ry
  have hl : cs.length * n ≤ 100000 * 100 := Nat.mul_le_mul hz hn
  refine SB.mul ⟨?_, fun h1 h2 => ?_, fun h1 h2 => ?_⟩ fun t' k => ?_
  · rw [decide_eq_false (by omega), decide_eq_false (by omega)]
    rfl
  · rw [tx_len]
    have h3 : ((cs.length : Nat) : Int) * (n : Int) ≤ 2 ^ 63 - 1 := by
      rw [← Int.natCast_mul]
      omega
    have h4 : ((cs.length : Nat) : Int) ≤ (2 ^ 63 - 1) / (n : Int) := Int.le_ediv_of_mul_le (by omega) h3
    omega
  · rw [tx_len]
    show decide (cs.length * (n : Int).toNat > sizeLine) = false
    rw [sizeLine_eq]
    exact decide_eq_false (by show ¬ cs.length * n > _; omega)
  · rw [mulS_eq]
    exact ⟨.str _, H, I.tok _, ⟨_, rfl⟩, q⟩
/-- t * n -/
def rRepG (K : PySem.W.Frag) : R2 := fun x y H Q => ∃ (l : Addr) (n : Nat) (xs : List V), x = .ref l ∧ y = .int n ∧ SqT K H l xs ∧ xs ≠ [] ∧ 2 ≤ n ∧ n ≤ 100000 ∧ xs.length * n ≤ 1000000 ∧ ∀ p, H p = none → Q (.ref p) (upd H p (.tup (List.replicate n xs).flatten))
theorem op_repG : OpR X (binaryOp .Mult) (rRepG X.K) := by
  intro pins s σ H x y v u Q I rx ry h
  obtain ⟨l, n, xs, rfl, rfl, hT, hne, h1, h2, hz, q⟩ := h
  cases rx
  obtain ⟨t, rfl⟩ := ry
  obtain ⟨its, r, ⟨ob, ho, hc, m, hd⟩, hs⟩ := I.tuple hT
  obtain ⟨cls, dd, data, sl⟩ := ob
  obtain rfl : cls = .type "tuple" := hc
  obtain rfl : data = .seq its.toArray m := hd
  have hle := r.length
  have hi : its.toArray.isEmpty = false := by
    cases r with
    | nil => exact absurd rfl hne
    | cons _ _ => rfl
  have hm : xs.length * n ≤ 10 * 100000 := hz
  have hm2 : ((its.toArray.size : Nat) : Int) * (n : Int) = ((xs.length * n : Nat) : Int) := by
    rw [List.size_toArray, ← hle]
    exact (Int.natCast_mul _ _).symm
  have fl : (List.replicate n xs).flatten.length ≤ sizeLine := by
    rw [lm_len_rep_flat, Nat.mul_comm, sizeLine_eq]
    omega
  have fl2 : (List.foldl (fun x1 x2 => x1 ++ x2) #[] (List.replicate (n : Int).toNat its.toArray)).size ≤ sizeLine := by
    rw [size_rep, List.size_toArray, lm_len_rep_flat, ← hle, Nat.mul_comm, sizeLine_eq]
    show xs.length * n ≤ _
    omega
  refine wpAny_binaryOp_repeat_ref (T := "tuple") (U := "int") (by decide) ⟨_, ho, rfl⟩ (fun s' => typeIs_int s' n t) noFill_tuple_mul F.fills_int_mul F.slot_int_rmul repeat_tuple F.slot_int_index.lookup ?_
  refine call_meets F.slot_int_rmul (typeIs_int s n t) F.entry_int_rmul (F.args_int_rmul_2 _ _) (int_rmul_tuple n t l its.toArray m dd sl) ⟨ho, rfl, ⟨_, ho, rfl⟩, ?_⟩
  refine call_meets F.slot_tuple_mul ⟨_, ho, rfl⟩ F.entry_tuple_mul (F.args_tuple_mul_2 _ _) (tuple_mulW l its.toArray m dd sl n t ?_ ?_ ?_ ?_ ?_ fl2) ⟨ho, ?_⟩
  · rw [decide_eq_false (by omega), decide_eq_false (by omega)]
    rfl
  · rw [hi, Bool.false_or]
    exact beq_eq_false_iff_ne.mpr (by omega)
  · rw [hi, Bool.or_false]
    exact decide_eq_false (by omega)
  · rw [hm2]
    omega
  · unfold Builtin.Tuple.tupleTooMany
    rw [hm2, sizeLine_eq]
    exact decide_eq_false (by omega)
  · rw [size_rep]
    exact ⟨.ref s.heap.objs.size, _, I.laid (t' := s.toks) (o := .tup (List.replicate n xs).flatten) (fun b ob q => Heap.get?_push_of_some _ q) (Nat.le_refl _) ⟨fl, _, r.rep n, IsTup.new _ _⟩, rfl, q _ (I.hok.fresh (Nat.le_refl _))⟩
/-- t * n, t of few items -/
def rRepN (K : PySem.W.Frag) : R2 := fun x y H Q => ∃ (l : Addr) (n : Nat) (xs : List V), x = .ref l ∧ y = .int n ∧ SqT K H l xs ∧ xs ≠ [] ∧ 2 ≤ n ∧ n ≤ 100000 ∧ xs.length ≤ 10 ∧ ∀ p, H p = none → Q (.ref p) (upd H p (.tup (List.replicate n xs).flatten))
theorem op_repN : OpR X (binaryOp .Mult) (rRepN X.K) := by
  intro pins s σ H x y v u Q I rx ry h
  obtain ⟨l, n, xs, h1, h2, h3, h4, h5, h6, h7, q⟩ := h
  exact op_repG pins s σ H x y v u Q I rx ry ⟨l, n, xs, h1, h2, h3, h4, h5, h6, Nat.le_trans (Nat.mul_le_mul h7 h6) (by decide), q⟩
/-! what is made anew or is the old one, read alike -/
theorem catA_any {K : PySem.W.Frag} {a b : Addr} {xs ys : List V} {H : Hp} {Q : VK} (ha : H a = some (.tup xs)) (hb : H b = some (.tup ys)) (hl : xs.length + ys.length ≤ sizeLine)
    (q : ∀ p H', Same H H' → H' p = some (.tup (xs ++ ys)) → p = a ∨ p = b ∨ H p = none → Q (.ref p) H') : rCatA K (.ref a) (.ref b) H Q := by
  refine ⟨a, b, xs, ys, rfl, rfl, SqT.of ha, SqT.of hb, hl, fun e => ?_, fun _ e => ?_, fun _ _ p np => ?_⟩
  · subst e
    exact q b H (Same.refl H) hb (.inr (.inl rfl))
  · subst e
    exact q a H (Same.refl H) (by rw [List.append_nil]; exact ha) (.inl rfl)
  · exact q p _ (same_new np) upd_same (.inr (.inr np))
theorem slA_any {K : PySem.W.Frag} {a : Addr} {xs : List V} {lo hi : Option Int} {H : Hp} {Q : VK} (ha : H a = some (.tup xs)) (q : ∀ p H', Same H H' → H' p = some (.tup (cutV xs lo hi)) → p = a ∨ H p = none → Q (.ref p) H') : rSlA K (.ref a) lo hi H Q := by
  refine ⟨a, xs, rfl, SqT.of ha, fun e => ?_, fun _ p np => q p _ (same_new np) upd_same (.inr np)⟩
  have ec : cutV xs lo hi = xs := by
    unfold cutV
    rw [e.1, e.2, List.drop_zero, Nat.sub_zero, List.take_length]
  exact q a H (Same.refl H) (by rw [ec]; exact ha) (.inl rfl)
theorem cut_to (xs : List V) (n : Nat) : cutV xs none (some (n : Int)) = xs.take n := by
  unfold cutV
  rw [HT.sIx_none, HT.sIx_nat, List.drop_zero, Nat.sub_zero, List.take_eq_take_iff]
  omega
theorem cut_from (xs : List V) (n : Nat) : cutV xs (some (n : Int)) none = xs.drop n := by
  unfold cutV
  rw [HT.sIx_none, HT.sIx_nat]
  have e : xs.drop (min n xs.length) = xs.drop n := by
    by_cases h : n ≤ xs.length
    · rw [Nat.min_eq_left h]
    · rw [List.drop_of_length_le (by omega), List.drop_of_length_le (by omega)]
  rw [e]
  exact List.take_of_length_le (by rw [List.length_drop]; omega)
end
end Mo

set_option exponentiation.threshold 3000
/-! ### how great data is: its ints below 10 ^ B, its signs, its bulk, its depth -/
namespace Mo
open PySem PySem.Spec PyProof.Rows L2
mutual
def okD (B : Nat) : PyData → Prop
  | .none | .bool _ => True
  | .int i => i.natAbs < 10 ^ B
  | .str z => ∀ c ∈ z.cps.toList, c < 128
  | .list ds | .tuple ds => okAll B ds
  | .dict kvs => okKv B kvs
def okAll (B : Nat) : List PyData → Prop
  | [] => True
  | d :: ds => okD B d ∧ okAll B ds
def okKv (B : Nat) : List (PyData × PyData) → Prop
  | [] => True
  | (k, v) :: r => (okD B k ∧ okD B v) ∧ okKv B r
end
theorem okAll_iff {B : Nat} : ∀ {ds : List PyData}, okAll B ds ↔ ∀ d ∈ ds, okD B d
  | [] => by simp [okAll]
  | d :: ds => by
    rw [List.forall_mem_cons, ← okAll_iff (ds := ds)]
    simp only [okAll]
mutual
theorem okD.mono {B C : Nat} (h : B ≤ C) : ∀ {d : PyData}, okD B d → okD C d
  | .none, _ => by simp only [okD]
  | .bool _, _ => by simp only [okD]
  | .int i, q => by
    simp only [okD] at q ⊢
    exact Nat.lt_of_lt_of_le q (Nat.pow_le_pow_right (by decide) h)
  | .str z, q => by
    simp only [okD] at q ⊢
    exact q
  | .list ds, q => by
    simp only [okD] at q ⊢
    exact okAll.mono h q
  | .tuple ds, q => by
    simp only [okD] at q ⊢
    exact okAll.mono h q
  | .dict kvs, q => by
    simp only [okD] at q ⊢
    exact okKv.mono h q
theorem okAll.mono {B C : Nat} (h : B ≤ C) : ∀ {ds : List PyData}, okAll B ds → okAll C ds
  | [], _ => by simp only [okAll]
  | d :: ds, q => by
    simp only [okAll] at q ⊢
    exact ⟨okD.mono h q.1, okAll.mono h q.2⟩
theorem okKv.mono {B C : Nat} (h : B ≤ C) : ∀ {kvs : List (PyData × PyData)}, okKv B kvs → okKv C kvs
  | [], _ => by simp only [okKv]
  | (k, v) :: r, q => by
    simp only [okKv] at q ⊢
    exact ⟨⟨okD.mono h q.1.1, okD.mono h q.1.2⟩, okKv.mono h q.2⟩
end
theorem int_short {B : Nat} {i : Int} (hB : 1 ≤ B) (h : i.natAbs < 10 ^ B) : (PyData.shown (.int i)).length ≤ B + 1 := by
  rw [PyData.shown_int, PySem.ofString_length]
  exact int_text_length_le10 hB h
/-- str(i) -/
theorem int_signs (i : Int) : ∀ c ∈ (Str.ofString (toString i)).cps.toList, c < 128 := fun c hc => by
  by_cases h : c ≠ 45 ∧ (c < 48 ∨ 57 < c)
  · exact absurd hc (int_text_free' c h i)
  · omega
theorem int_text_size {B : Nat} {i : Int} (hB : 1 ≤ B) (h : i.natAbs < 10 ^ B) : (Str.ofString (toString i)).cps.size ≤ B + 1 := by
  have q := int_short hB h
  rw [PyData.shown_int] at q
  exact q
theorem log_small {B n : Nat} (hB : B ≤ 100) (h : n < 10 ^ B) : n.log2 < 1920 := by
  by_cases h0 : n = 0
  · subst h0
    decide
  · have h1 : n < 2 ^ 1920 := Nat.lt_of_lt_of_le h (Nat.le_trans (Nat.pow_le_pow_right (by decide) hB) (by decide))
    exact (Nat.log2_lt h0).mpr h1
mutual
theorem okD.short {B : Nat} (hB : 1 ≤ B) : ∀ {d : PyData}, okD B d → d.leavesShort (B + 8) = true
  | .none, _ => by simp only [PyData.leavesShort]
  | .bool _, _ => by simp only [PyData.leavesShort]
  | .int i, q => by
    simp only [okD] at q
    have := int_short hB q
    simp only [PyData.leavesShort]
    exact decide_eq_true (by omega)
  | .str z, q => by
    simp only [okD] at q
    simp only [PyData.leavesShort, List.all_eq_true]
    exact fun c hc => decide_eq_true (Nat.lt_trans (q c hc) (by decide))
  | .list ds, q => by
    simp only [okD, PyData.leavesShort] at q ⊢
    exact okAll.short hB q
  | .tuple ds, q => by
    simp only [okD, PyData.leavesShort] at q ⊢
    exact okAll.short hB q
  | .dict kvs, q => by
    simp only [okD, PyData.leavesShort] at q ⊢
    exact okKv.short hB q
theorem okAll.short {B : Nat} (hB : 1 ≤ B) : ∀ {ds : List PyData}, okAll B ds → PyData.leavesShortAll (B + 8) ds = true
  | [], _ => by simp only [PyData.leavesShortAll]
  | d :: ds, q => by
    simp only [okAll, PyData.leavesShortAll, Bool.and_eq_true] at q ⊢
    exact ⟨okD.short hB q.1, okAll.short hB q.2⟩
theorem okKv.short {B : Nat} (hB : 1 ≤ B) : ∀ {kvs : List (PyData × PyData)}, okKv B kvs → PyData.leavesShortKv (B + 8) kvs = true
  | [], _ => by simp only [PyData.leavesShortKv]
  | (k, v) :: r, q => by
    simp only [okKv, PyData.leavesShortKv, Bool.and_eq_true] at q ⊢
    exact ⟨⟨okD.short hB q.1.1, okD.short hB q.1.2⟩, okKv.short hB q.2⟩
end
mutual
theorem okD.show {B : Nat} (hB : B ≤ 100) : ∀ {d : PyData}, okD B d → d.showable = true
  | .none, _ => by simp only [PyData.showable]
  | .bool _, _ => by simp only [PyData.showable]
  | .int i, q => by
    simp only [okD, PyData.showable] at q ⊢
    exact decide_eq_true (log_small hB q)
  | .str z, q => by simp only [PyData.showable]
  | .list ds, q => by
    simp only [okD, PyData.showable] at q ⊢
    exact okAll.show hB q
  | .tuple ds, q => by
    simp only [okD, PyData.showable] at q ⊢
    exact okAll.show hB q
  | .dict kvs, q => by
    simp only [okD, PyData.showable] at q ⊢
    exact okKv.show hB q
theorem okAll.show {B : Nat} (hB : B ≤ 100) : ∀ {ds : List PyData}, okAll B ds → PyData.showableAll ds = true
  | [], _ => by simp only [PyData.showableAll]
  | d :: ds, q => by
    simp only [okAll, PyData.showableAll, Bool.and_eq_true] at q ⊢
    exact ⟨okD.show hB q.1, okAll.show hB q.2⟩
theorem okKv.show {B : Nat} (hB : B ≤ 100) : ∀ {kvs : List (PyData × PyData)}, okKv B kvs → PyData.showableKv kvs = true
  | [], _ => by simp only [PyData.showableKv]
  | (k, v) :: r, q => by
    simp only [okKv, PyData.showableKv, Bool.and_eq_true] at q ⊢
    exact ⟨⟨okD.show hB q.1.1, okD.show hB q.1.2⟩, okKv.show hB q.2⟩
end
theorem bulkAll_app : ∀ (a b : List PyData), PyData.bulkAll (a ++ b) = PyData.bulkAll a + PyData.bulkAll b
  | [], b => by simp [PyData.bulkAll]
  | x :: a, b => by
    rw [List.cons_append]
    simp only [PyData.bulkAll]
    rw [bulkAll_app a b]
    omega
theorem depthAll_le {n : Nat} : ∀ {ds : List PyData}, PyData.depthAll ds ≤ n ↔ ∀ d ∈ ds, d.depth ≤ n
  | [] => by simp [PyData.depthAll]
  | d :: ds => by
    rw [List.forall_mem_cons, ← depthAll_le (ds := ds)]
    simp only [PyData.depthAll]
    exact Nat.max_le
/-- data of these bounds -/
structure Fit (B W D : Nat) (d : PyData) : Prop where
  ok : okD B d
  bulk : d.bulk ≤ W
  deep : d.depth ≤ D
/-- lists of such data, of this bulk together -/
structure FitAll (B W D : Nat) (ds : List PyData) : Prop where
  ok : okAll B ds
  bulk : PyData.bulkAll ds ≤ W
  deep : PyData.depthAll ds ≤ D
theorem Fit.mono {B W D B' W' D' : Nat} {d : PyData} (h : Fit B W D d) (h1 : B ≤ B') (h2 : W ≤ W') (h3 : D ≤ D') : Fit B' W' D' d := ⟨h.ok.mono h1, Nat.le_trans h.bulk h2, Nat.le_trans h.deep h3⟩
theorem FitAll.app {B W D W' : Nat} {a b : List PyData} (h : FitAll B W D a) (g : FitAll B W' D b) : FitAll B (W + W') D (a ++ b) :=
  ⟨okAll_iff.mpr fun d hd => (List.mem_append.mp hd).elim (okAll_iff.mp h.ok d) (okAll_iff.mp g.ok d), by rw [bulkAll_app]; exact Nat.add_le_add h.bulk g.bulk, depthAll_le.mpr fun d hd => (List.mem_append.mp hd).elim (depthAll_le.mp h.deep d) (depthAll_le.mp g.deep d)⟩
theorem FitAll.tup {B W D : Nat} {a : List PyData} (h : FitAll B W D a) : Fit B W (D + 1) (.tuple a) := ⟨by simp only [okD]; exact h.ok, by simp only [PyData.bulk]; exact h.bulk, by simp only [PyData.depth]; exact Nat.succ_le_succ h.deep⟩
theorem FitAll.lst {B W D : Nat} {a : List PyData} (h : FitAll B W D a) : Fit B W (D + 1) (.list a) := ⟨by simp only [okD]; exact h.ok, by simp only [PyData.bulk]; exact h.bulk, by simp only [PyData.depth]; exact Nat.succ_le_succ h.deep⟩
theorem Fit.of_tup {B W D : Nat} {a : List PyData} (h : Fit B W (D + 1) (.tuple a)) : FitAll B W D a := ⟨by have := h.ok; simp only [okD] at this; exact this, by have := h.bulk; simp only [PyData.bulk] at this; exact this, by have := h.deep; simp only [PyData.depth] at this; omega⟩
theorem Fit.one {B W D : Nat} {d : PyData} (h : Fit B W D d) : FitAll B (W + 1) D [d] := ⟨by simp only [okAll]; exact ⟨h.ok, trivial⟩, by simp only [PyData.bulkAll]; have := h.bulk; omega, by simp only [PyData.depthAll]; have := h.deep; omega⟩
theorem FitAll.sub {B W D : Nat} {a b : List PyData} (h : FitAll B W D b) (hs : a.Sublist b) : FitAll B (PyData.bulkAll a) D a := ⟨okAll_iff.mpr fun d hd => okAll_iff.mp h.ok d (hs.subset hd), Nat.le_refl _, depthAll_le.mpr fun d hd => depthAll_le.mp h.deep d (hs.subset hd)⟩
theorem FitAll.mono {B W D B' W' D' : Nat} {d : List PyData} (h : FitAll B W D d) (h1 : B ≤ B') (h2 : W ≤ W') (h3 : D ≤ D') : FitAll B' W' D' d := ⟨h.ok.mono h1, Nat.le_trans h.bulk h2, Nat.le_trans h.deep h3⟩
theorem FitAll.len {B W D : Nat} {a : List PyData} (h : FitAll B W D a) : a.length ≤ W := by
  have key : ∀ a : List PyData, a.length ≤ PyData.bulkAll a := by
    intro a
    induction a with
    | nil => exact Nat.zero_le _
    | cons x a ih =>
      simp only [PyData.bulkAll, List.length_cons]
      omega
  exact Nat.le_trans (key a) h.bulk
/-- what repr asks -/
theorem Fit.repr {B W D : Nat} {d : PyData} (h : Fit B W D d) (h1 : 1 ≤ B) (h2 : B ≤ 40) (h3 : W ≤ 300000) (h4 : D ≤ 40) : d.showable = true ∧ d.depth ≤ 40 ∧ d.shown.length ≤ sizeLine := by
  refine ⟨h.ok.show (by omega), Nat.le_trans h.deep h4, ?_⟩
  have q := PyData.shown_le_bulk (B + 8) (by omega) d (h.ok.short h1)
  have hb := h.bulk
  have m : (B + 8 + 2) * d.bulk ≤ 50 * 300000 := Nat.mul_le_mul (by omega) (by omega)
  rw [sizeLine_eq]
  omega
/-! ### kinds -/
def tyD : PyData → String
  | .none => "NoneType"
  | .bool _ => "bool"
  | .int _ => "int"
  | .str _ => "str"
  | .list _ => "list"
  | .tuple _ => "tuple"
  | .dict _ => "dict"
theorem Dx.ty {N : Addr → Prop} {K : PySem.W.Frag} {H : Hp} {x : V} {d : PyData} (h : Dx N H x d) : TyX K H x (.type (tyD d)) := by
  cases h with
  | non => exact .base .non
  | bl b => exact .base (.bl b)
  | int i => exact .base (.int i)
  | str z => exact .base (.str z)
  | lst h _ _ => exact .base (.lst h)
  | tup h _ _ => exact .base (.tup h)
  | dct h _ _ => exact .base (.dK h)
def letterD : PyData → Bool
  | .int i => decide (0 ≤ i) && decide (i ≤ 999999)
  | _ => false
def textD : PyData → Bool
  | .tuple ds => decide (ds.length ≤ 4096) && ds.all letterD
  | _ => false
end Mo

/-! ### data written out: new, and holding nothing that was there -/
namespace Mo
open PySem PySem.Spec PyProof.Rows L2
def Was (H0 : Hp) : Addr → Prop := fun a => H0 a ≠ none
theorem Was.mono {H H' : Hp} (s : Same H H') {b : Addr} (h : Was H b) : Was H' b := by
  cases e : H b with
  | none => exact absurd e h
  | some o =>
    unfold Was
    rw [s _ _ e]
    exact Option.some_ne_none _
def LitE (te : TE) (d : PyData) : Prop := ∀ σ H Q, (∀ H' v, Same H H' → Dx (Was H) H' v d → Q v H') → te σ H Q
def LitA (ta : TA) (ds : List PyData) : Prop := ∀ σ H Q, (∀ H' vs, Same H H' → DxAll (Was H) H' vs ds → Q vs H') → ta σ H Q
theorem LitE.use {te : TE} {d : PyData} (h : LitE te d) {σ : L2.St} {H : Hp} {Q : VK} (q : ∀ H' v, Same H H' → Dx (Was H) H' v d → Q v H') : te σ H Q := h σ H Q q
theorem lit_non : LitE (tC .non) .none := fun _ _ _ q => q _ _ (Same.refl _) .non
theorem lit_bl {b : Bool} : LitE (tC (.bl b)) (.bool b) := fun _ _ _ q => q _ _ (Same.refl _) (.bl b)
theorem lit_int {i : Int} : LitE (tC (.int i)) (.int i) := fun _ _ _ q => q _ _ (Same.refl _) (.int i)
theorem lit_str {x : Str} : LitE (tC (.str x)) (.str x) := fun _ _ _ q => q _ _ (Same.refl _) (.str x)
theorem lit_neg {i : Int} : LitE (tUn (rU fun i => .int (-i)) (tC (.int i))) (.int (-i)) := fun _ _ _ q => ⟨i, rfl, q _ _ (Same.refl _) (.int _)⟩
theorem lit_pow {i j : Int} (h : CPow i j) : LitE (tOp (rI CPow fun i j => .int (i ^ j.toNat)) (tC (.int i)) (tC (.int j))) (.int (i ^ j.toNat)) := fun _ _ _ q => ⟨i, j, rfl, rfl, h, q _ _ (Same.refl _) (.int _)⟩
theorem lit_nil : LitA tNil [] := fun _ _ _ q => q _ _ (Same.refl _) .nil
theorem lit_cons {te : TE} {ta : TA} {d : PyData} {ds : List PyData} (h : LitE te d) (g : LitA ta ds) : LitA (tCons te ta) (d :: ds) := fun σ H Q q =>
  h σ H _ fun H1 v s1 hv => g σ H1 _ fun H2 vs s2 hvs => q H2 (v :: vs) (s1.trans s2) (.cons (hv.same s2) (hvs.more fun b _ z => Was.mono s1 z))
theorem lit_tup {t : TA} {ds : List PyData} (h : LitA t ds) (hl : ds.length ≤ 1000 := by decide) : LitE (tTup t) (.tuple ds) := fun σ H Q q =>
  h σ H _ fun H1 vs s1 hx => ⟨Nat.le_of_lt (small1000 (by rw [hx.length]; exact hl)), fun p np => q _ _ (s1.trans (same_new np)) (.tup upd_same (fun z => z (s1.free np)) (hx.same (same_new np)))⟩
theorem lit_lst {t : TA} {ds : List PyData} (h : LitA t ds) (hl : ds.length ≤ 1000 := by decide) : LitE (tLst t) (.list ds) := fun σ H Q q =>
  h σ H _ fun H1 vs s1 hx => ⟨Nat.le_of_lt (small1000 (by rw [hx.length]; exact hl)), fun p np => q _ _ (s1.trans (same_new np)) (.lst upd_same (fun z => z (s1.free np)) (hx.same (same_new np)))⟩
theorem lit_dnew : LitE tDNewK (.dict []) := fun σ H Q q p np => q _ _ (same_new np) (.dct (kvs := []) (ds := []) upd_same (fun z => z np) .nil)
theorem lit_disp1 {k : Key} {tv : TE} {d : PyData} (h : LitE tv d) : LitE (tDisp [(tC (kV k), tv)]) (.dict [(keyD k, d)]) := fun σ H Q q p np =>
  h σ _ _ fun H1 v s1 hv => ⟨s1 _ _ upd_same, [(k, v)], rfl, by show 1 ≤ 15; decide, by
    have n1 : H p = none := np
    have e : mergeK [] [(k, v)] = [(k, v)] := rfl
    rw [e]
    refine q _ _ (Same.put ((same_new np).trans s1) np) (.dct (kvs := [(k, v)]) (ds := [d]) upd_same (fun z => z np) (.cons ?_ .nil))
    refine (hv.more (N' := fun b => Was H b ∨ b = p) fun b _ z => z.elim (fun z => Was.mono (same_new np) z) (fun z => ?_)).but ?_ |>.more fun b _ z => .inl z
    · subst z
      unfold Was
      rw [upd_same]
      exact Option.some_ne_none _
    · intro b o nb e
      rw [upd_ne fun z => nb (.inr z)]
      exact e⟩
theorem lit_dispS {x : Str} {tv : TE} {d : PyData} (h : LitE tv d) : LitE (tDisp [(tC (.str x), tv)]) (.dict [(.str x, d)]) := lit_disp1 (k := .inr x) h
theorem lit_dispI {i : Int} {tv : TE} {d : PyData} (h : LitE tv d) : LitE (tDisp [(tC (.int i), tv)]) (.dict [(.int i, d)]) := lit_disp1 (k := .inl i) h
/-! what stands behind -/
theorem lst_dx {N : Addr → Prop} {H : Hp} {x : V} {ds : List PyData} (h : Dx N H x (.list ds)) : ∃ a xs, x = .ref a ∧ H a = some (.lst xs) ∧ ¬ N a ∧ DxAll N H xs ds := by
  generalize e : PyData.list ds = d at h
  cases h with
  | lst h n t => obtain rfl := PyData.list.inj e; exact ⟨_, _, rfl, h, n, t⟩
  | _ => cases e
theorem tpl_dx {N : Addr → Prop} {H : Hp} {x : V} {ds : List PyData} (h : Dx N H x (.tuple ds)) : ∃ a xs, x = .ref a ∧ H a = some (.tup xs) ∧ ¬ N a ∧ DxAll N H xs ds := by
  generalize e : PyData.tuple ds = d at h
  cases h with
  | tup h n t => obtain rfl := PyData.tuple.inj e; exact ⟨_, _, rfl, h, n, t⟩
  | _ => cases e
theorem keyD_inj : ∀ {a b : Key}, keyD a = keyD b → a = b
  | .inl _, .inl _, h => congrArg Sum.inl (PyData.int.inj h)
  | .inr _, .inr _, h => congrArg Sum.inr (PyData.str.inj h)
  | .inl _, .inr _, h => by cases h
  | .inr _, .inl _, h => by cases h
theorem dct1_dx {N : Addr → Prop} {H : Hp} {x : V} {k : Key} {e : PyData} (h : Dx N H x (.dict [(keyD k, e)])) : ∃ a u, x = .ref a ∧ H a = some (.dK [(k, u)]) ∧ ¬ N a ∧ Dx N H u e := by
  generalize q : PyData.dict [(keyD k, e)] = d at h
  cases h with
  | @dct a kvs ds h n t =>
    have q1 := PyData.dict.inj q
    cases kvs with
    | nil => cases t; cases q1
    | cons kv r =>
      cases t with
      | @cons _ _ d ds h1 t =>
        rw [List.map_cons, List.zip_cons_cons] at q1
        have q2 := List.cons.inj q1
        have q3 := Prod.mk.inj q2.1
        cases r with
        | nil =>
          cases t
          obtain ⟨k', u⟩ := kv
          have : k = k' := keyD_inj q3.1
          subst this
          refine ⟨a, u, rfl, h, n, ?_⟩
          rw [q3.2]
          exact h1
        | cons kv2 r =>
          cases t with
          | cons h2 t => cases q2.2
  | _ => cases q
end Mo

/-! ### kinds of data, counts among data of any kind, tables of code objects kept -/
namespace Mo
open PySem PySem.Spec PyProof.Rows L2
def isIntD : PyData → Bool
  | .int _ | .bool _ => true
  | _ => false
def isBoolD : PyData → Bool
  | .bool _ => true
  | _ => false
def isStrD : PyData → Bool
  | .str _ => true
  | _ => false
def isTupD : PyData → Bool
  | .tuple _ => true
  | _ => false
theorem kit_int : ∀ d : PyData, kitB (tyD d) "int" = some (isIntD d)
  | .none => by show kitB "NoneType" "int" = some false; decide +kernel
  | .bool _ => by show kitB "bool" "int" = some true; decide +kernel
  | .int _ => by show kitB "int" "int" = some true; decide +kernel
  | .str _ => by show kitB "str" "int" = some false; decide +kernel
  | .list _ => by show kitB "list" "int" = some false; decide +kernel
  | .tuple _ => by show kitB "tuple" "int" = some false; decide +kernel
  | .dict _ => by show kitB "dict" "int" = some false; decide +kernel
theorem kit_bool : ∀ d : PyData, kitB (tyD d) "bool" = some (isBoolD d)
  | .none => by show kitB "NoneType" "bool" = some false; decide +kernel
  | .bool _ => by show kitB "bool" "bool" = some true; decide +kernel
  | .int _ => by show kitB "int" "bool" = some false; decide +kernel
  | .str _ => by show kitB "str" "bool" = some false; decide +kernel
  | .list _ => by show kitB "list" "bool" = some false; decide +kernel
  | .tuple _ => by show kitB "tuple" "bool" = some false; decide +kernel
  | .dict _ => by show kitB "dict" "bool" = some false; decide +kernel
theorem kit_str : ∀ d : PyData, kitB (tyD d) "str" = some (isStrD d)
  | .none => by show kitB "NoneType" "str" = some false; decide +kernel
  | .bool _ => by show kitB "bool" "str" = some false; decide +kernel
  | .int _ => by show kitB "int" "str" = some false; decide +kernel
  | .str _ => by show kitB "str" "str" = some true; decide +kernel
  | .list _ => by show kitB "list" "str" = some false; decide +kernel
  | .tuple _ => by show kitB "tuple" "str" = some false; decide +kernel
  | .dict _ => by show kitB "dict" "str" = some false; decide +kernel
theorem kit_tup : ∀ d : PyData, kitB (tyD d) "tuple" = some (isTupD d)
  | .none => by show kitB "NoneType" "tuple" = some false; decide +kernel
  | .bool _ => by show kitB "bool" "tuple" = some false; decide +kernel
  | .int _ => by show kitB "int" "tuple" = some false; decide +kernel
  | .str _ => by show kitB "str" "tuple" = some false; decide +kernel
  | .list _ => by show kitB "list" "tuple" = some false; decide +kernel
  | .tuple _ => by show kitB "tuple" "tuple" = some true; decide +kernel
  | .dict _ => by show kitB "dict" "tuple" = some false; decide +kernel
def plainD (d : PyData) : Bool := isIntD d && !isBoolD d
/-- a question about data -/
def spAsk (f : PyData → Bool) : Sp := fun vs H Q _ => ∃ (N : Addr → Prop) (x : V) (d : PyData), vs = [x] ∧ Dx N H x d ∧ d.bulk ≤ 1000000 ∧ ∀ H', Same H H' → Q (.bl (f d)) H'
theorem plain_int : ∀ {N : Addr → Prop} {H : Hp} {x : V} {d : PyData}, Dx N H x d → plainD d = true → ∃ i : Int, x = .int i ∧ d = .int i := by
  intro N H x d h e
  cases h with
  | int i => exact ⟨i, rfl, rfl⟩
  | _ => exact absurd (show false = true from e) (by decide)
def isListD : PyData → Bool
  | .list _ => true
  | _ => false
def isDictD : PyData → Bool
  | .dict _ => true
  | _ => false
theorem kit_list : ∀ d : PyData, kitB (tyD d) "list" = some (isListD d)
  | .none => by show kitB "NoneType" "list" = some false; decide +kernel
  | .bool _ => by show kitB "bool" "list" = some false; decide +kernel
  | .int _ => by show kitB "int" "list" = some false; decide +kernel
  | .str _ => by show kitB "str" "list" = some false; decide +kernel
  | .list _ => by show kitB "list" "list" = some true; decide +kernel
  | .tuple _ => by show kitB "tuple" "list" = some false; decide +kernel
  | .dict _ => by show kitB "dict" "list" = some false; decide +kernel
/-- an integer from a to b -/
def cntB (a b : Int) : PyData → Bool
  | .int i => decide (a ≤ i) && decide (i ≤ b)
  | _ => false
/-- check_count: nothing, or InvalidCount with the very value -/
def spCnt (C : Addr) : Sp := fun vs H Q E => ∃ (N : Addr → Prop) (x : V) (d : PyData) (a b : Int), vs = [x, .int a, .int b] ∧ Dx N H x d ∧ d.bulk ≤ 1000000 ∧ (cntB a b d = true → ∀ H', Same H H' → Q .non H') ∧
  (cntB a b d = false → ∀ dd H', H dd = none → Same H H' → H' dd = some (.xd [("value", x)]) → E (.ref C) (some dd) H')
theorem cnt_no {a b : Int} {d : PyData} (h : plainD d = false) : cntB a b d = false := by
  cases d <;> first | rfl | exact absurd (show true = false from h) (by decide)
/-! more written data -/
theorem lit_negE {te : TE} {i : Int} (h : LitE te (.int i)) : LitE (tUn (rU fun i => .int (-i)) te) (.int (-i)) := fun σ H Q q => h σ H _ fun H' v s hv => by
  cases hv
  exact ⟨i, rfl, q _ _ s (.int _)⟩
/-! nothing is changed but tables -/
mutual
theorem Dx.tabs {N : Addr → Prop} {H H' : Hp} (s : LamX.ExtN H H') : ∀ {v : V} {d : PyData}, Dx N H v d → Dx N H' v d
  | _, _, .non => .non
  | _, _, .bl b => .bl b
  | _, _, .int i => .int i
  | _, _, .str x => .str x
  | _, _, .lst h n a => .lst (s _ _ h (fun _ z => nomatch z)) n (DxAll.tabs s a)
  | _, _, .tup h n a => .tup (s _ _ h (fun _ z => nomatch z)) n (DxAll.tabs s a)
  | _, _, .dct h n a => .dct (s _ _ h (fun _ z => nomatch z)) n (DxAll.tabs s a)
theorem DxAll.tabs {N : Addr → Prop} {H H' : Hp} (s : LamX.ExtN H H') : ∀ {v : List V} {d : List PyData}, DxAll N H v d → DxAll N H' v d
  | _, _, .nil => .nil
  | _, _, .cons a b => .cons (Dx.tabs s a) (DxAll.tabs s b)
end
theorem Tabs.same {T : List (Addr × Str)} {H H' : Hp} (t : LamX.Tabs T H) (s : Same H H') : LamX.Tabs T H' := t.ext s
theorem Tabs.but {T : List (Addr × Str)} {H H' : Hp} {d : Addr} {kvs : List (Key × V)} (t : LamX.Tabs T H) (hd : H d = some (.dK kvs)) (s : But d H H') : LamX.Tabs T H' := fun p hp => by
  obtain ⟨ps, h1, h2, h3⟩ := t p hp
  refine ⟨ps, s _ _ (fun z => ?_) h1, h2, fun pos cv hc => ?_⟩
  · rw [z, hd] at h1
    cases h1
  · obtain ⟨c, e1, e2⟩ := h3 pos cv hc
    refine ⟨c, e1, s _ _ (fun z => ?_) e2⟩
    rw [z, hd] at e2
    cases e2
theorem tabs_nil {H : Hp} {P : Addr} {q : Str} (h : H P = some (.tbl #[])) : LamX.Tabs [(P, q)] H := fun p hp => by
  rw [List.mem_singleton.mp hp]
  exact LamX.TabS.nil h
end Mo
namespace Mo
open PySem PySem.Spec PyProof.Rows L2
/-- while, by a word and a measure; the test's own reading told as it stands -/
theorem while_raw {c : TT} {tb : TS} {D : Ends} {σ : L2.St} {H : Hp} (Pv : L2.St → Hp → Prop) (μ : L2.St → Hp → Nat) (h0 : Pv σ H)
    (hs : ∀ σ H, Pv σ H → c σ H fun b H1 => if b = true then ∃ N : L2.St → Hp → Prop, (∀ σ' H', N σ' H' → ∃ m', m' < μ σ H ∧ m' = μ σ' H' ∧ Pv σ' H') ∧ tb { D with nx := N, ct := N, bk := D.nx } σ H1 else D.nx σ H1) : tWhile c tb D σ H :=
  ⟨fun m σ H => m = μ σ H ∧ Pv σ H, ⟨_, rfl, h0⟩, fun m σ H p => by
    obtain ⟨rfl, p⟩ := p
    exact hs σ H p⟩
/-- an odd value: small, and no integer from 0 on -/
structure OddD (e : PyData) : Prop where
  fit : Fit 30 100 3 e
  no : ∀ a b : Int, 0 ≤ a → cntB a b e = false
theorem fitI {B W D : Nat} {i : Int} (h : i.natAbs < 10 ^ B) (hW : 1 ≤ W) : Fit B W D (.int i) := ⟨by simp only [okD]; exact h, by simp only [PyData.bulk]; exact Nat.zero_le _, by simp only [PyData.depth]; exact Nat.zero_le _⟩
theorem odd_neg {i : Int} (h : i.natAbs < 10 ^ 30) (hn : i < 0) : OddD (.int i) := ⟨fitI h (by decide), fun a b ha => by
  show (decide (a ≤ i) && decide (i ≤ b)) = false
  rw [decide_eq_false (show ¬ a ≤ i by omega)]
  rfl⟩
theorem odd_bl (b : Bool) : OddD (.bool b) := ⟨⟨by simp [okD], by simp [PyData.bulk], by simp [PyData.depth]⟩, fun _ _ _ => rfl⟩
theorem odd_non : OddD .none := ⟨⟨by simp [okD], by simp [PyData.bulk], by simp [PyData.depth]⟩, fun _ _ _ => rfl⟩
theorem odd_str {x : Str} (h : ∀ c ∈ x.cps.toList, c < 128) (hl : x.cps.size ≤ 50) : OddD (.str x) := ⟨⟨by simp only [okD]; exact h, by simp only [PyData.bulk]; omega, by simp [PyData.depth]⟩, fun _ _ _ => rfl⟩
theorem odd_tup1 {i : Int} (h : i.natAbs < 10 ^ 30) : OddD (.tuple [.int i]) := ⟨(FitAll.tup (fitI (W := 1) (D := 0) h (by decide)).one).mono (by decide) (by decide) (by decide), fun _ _ _ => rfl⟩
theorem odd_lst1 {i : Int} (h : i.natAbs < 10 ^ 30) : OddD (.list [.int i]) := ⟨(FitAll.lst (fitI (W := 1) (D := 0) h (by decide)).one).mono (by decide) (by decide) (by decide), fun _ _ _ => rfl⟩
theorem odd_dct : OddD (.dict []) := ⟨⟨by simp [okD, okKv], by simp [PyData.bulk, PyData.bulkKv], by simp [PyData.depth, PyData.depthKv]⟩, fun _ _ _ => rfl⟩
/-- what was new when the old heap was H0, d being old: nothing of it is at d -/
theorem Dx.keep {H0 H H' : Hp} {d : Addr} {v : V} {e : PyData} (h : Dx (Was H0) H v e) (hd : H0 d ≠ none) (b : But d H H') : Dx (fun x => x = d) H' v e :=
  (h.but fun x o nx hx => b x o (fun z => nx (by rw [z]; exact hd)) hx).more fun x _ z => by rw [z]; exact hd
theorem Dx.pen {H H' : Hp} {d : Addr} {v : V} {e : PyData} (h : Dx (fun x => x = d) H v e) (b : But d H H') : Dx (fun x => x = d) H' v e := h.but fun x o nx hx => b x o nx hx
end Mo

/-! ### lists and tuples of flat values compared -/
namespace Mo
open PySem PySem.Spec PyProof.Rows L2
def eqLs : List V → List V → Bool
  | [], [] => true
  | x :: xs, y :: ys => eqV x y && eqLs xs ys
  | _, _ => false
theorem eqLs_range : ∀ (xs ys : List V), xs.length = ys.length → (List.range xs.length).all (fun j => eqV (xs.getD j .non) (ys.getD j .non)) = eqLs xs ys
  | [], [], _ => rfl
  | x :: xs, y :: ys, h => by
    rw [List.length_cons, List.range_succ_eq_map, List.all_cons, List.all_map]
    show (eqV x y && (List.range xs.length).all (fun j => eqV (xs.getD j .non) (ys.getD j .non))) = _
    rw [eqLs_range xs ys (by simpa using h)]
    rfl
  | [], _ :: _, h => by simp at h
  | _ :: _, [], h => by simp at h
theorem eqLs_len : ∀ {xs ys : List V}, eqLs xs ys = true → xs.length = ys.length
  | [], [], _ => rfl
  | x :: xs, y :: ys, h => by
    rw [List.length_cons, List.length_cons, eqLs_len (Bool.and_eq_true_iff.mp h).2]
  | [], _ :: _, h => by cases h
  | _ :: _, [], h => by cases h
theorem eqV_self : ∀ {x : V}, flatV x = true → eqV x x = true := by
  intro x h
  cases x <;> first | (exact absurd (show false = true from h) Bool.false_ne_true) | rfl | (simp [eqV])
theorem eqLs_self : ∀ {xs : List V}, xs.all flatV = true → eqLs xs xs = true
  | [], _ => rfl
  | x :: xs, h => by
    rw [List.all_cons, Bool.and_eq_true] at h
    show (eqV x x && eqLs xs xs) = true
    rw [eqV_self h.1, eqLs_self h.2]
    rfl
theorem flat_ints (ns : List Int) : (ns.map V.int).all flatV = true := by
  rw [List.all_map, List.all_eq_true]
  exact fun _ _ => rfl
theorem flat_strs' (zs : List Str) : (zs.map V.str).all flatV = true := by
  rw [List.all_map, List.all_eq_true]
  exact fun _ _ => rfl
theorem eqLs_ints : ∀ (a b : List Int), eqLs (a.map V.int) (b.map V.int) = decide (a = b)
  | [], [] => by simp [eqLs]
  | x :: a, y :: b => by
    show (x == y && eqLs (a.map V.int) (b.map V.int)) = _
    rw [eqLs_ints a b, Bool.eq_iff_iff]
    simp
  | [], _ :: _ => by simp [eqLs]
  | _ :: _, [] => by simp [eqLs]
theorem eqLs_strs : ∀ (a b : List Str), eqLs (a.map V.str) (b.map V.str) = decide (a = b)
  | [], [] => by simp [eqLs]
  | x :: a, y :: b => by
    show (x == y && eqLs (a.map V.str) (b.map V.str)) = _
    rw [eqLs_strs a b, Bool.eq_iff_iff]
    simp
  | [], _ :: _ => by simp [eqLs]
  | _ :: _, [] => by simp [eqLs]
section
variable {X : Cx}
theorem eqAts {A : Around} {s : Shared} {xs ys : List V} {us ws : List Value} (r1 : Vals xs us) (r2 : Vals ys ws) (f1 : xs.all flatV = true) (f2 : ys.all flatV = true) :
    ∀ j (h1 : j < us.toArray.size) (h2 : j < ws.toArray.size), SeqAt.EqAt A s us.toArray[j] ws.toArray[j] (eqV (xs.getD j .non) (ys.getD j .non)) := by
  intro j h1 h2
  have l1 := r1.length
  have l2 := r2.length
  rw [List.size_toArray] at h1 h2
  have e1 : xs[j]? = some (xs.getD j .non) := by
    rw [List.getD_eq_getElem?_getD, List.getElem?_eq_getElem (by omega)]
    rfl
  have e2 : ys[j]? = some (ys.getD j .non) := by
    rw [List.getD_eq_getElem?_getD, List.getElem?_eq_getElem (by omega)]
    rfl
  obtain ⟨u, hu, ru⟩ := r1.get e1
  obtain ⟨v, hv, rv⟩ := r2.get e2
  have q1 : us.toArray[j] = u := by
    rw [List.getElem?_eq_getElem h1] at hu
    exact Option.some.inj hu
  have q2 : ws.toArray[j] = v := by
    rw [List.getElem?_eq_getElem h2] at hv
    exact Option.some.inj hv
  rw [q1, q2]
  exact eqAt_V ru rv (List.all_eq_true.mp f1 _ (List.mem_of_getElem? e1)) (List.all_eq_true.mp f2 _ (List.mem_of_getElem? e2))
def FlatAt (K : PySem.W.Frag) (H : Hp) (x y : V) (xs ys : List V) : Prop := ∃ a b, x = .ref a ∧ y = .ref b ∧ xs.all flatV = true ∧ ys.all flatV = true ∧ ((SqL K H a xs ∧ SqL K H b ys) ∨ (SqT K H a xs ∧ SqT K H b ys))
def rEqFl (K : PySem.W.Frag) : R2 := fun x y H Q => ∃ xs ys, FlatAt K H x y xs ys ∧ Q (.bl (eqLs xs ys)) H
def rNeFl (K : PySem.W.Frag) : R2 := fun x y H Q => ∃ xs ys, FlatAt K H x y xs ys ∧ Q (.bl (!eqLs xs ys)) H
theorem tups_eq {xs ys : List V} : ((List.range (min xs.length ys.length)).all (fun j => eqV (xs.getD j .non) (ys.getD j .non)) && xs.length == ys.length) = eqLs xs ys := by
  by_cases h : xs.length = ys.length
  · rw [← h, Nat.min_self, eqLs_range xs ys h]
    simp
  · have : eqLs xs ys = false := by
      cases e : eqLs xs ys with
      | false => rfl
      | true => exact absurd (eqLs_len e) h
    rw [this, beq_eq_false_iff_ne.mpr h, Bool.and_false]
theorem op_eqFl (hu : X.A.units + 64 < cLine) : OpR X (compareOp .Eq) (rEqFl X.K) := by
  intro pins s σ H x y v u Q I rx ry h
  obtain ⟨xs, ys, ⟨a, b, rfl, rfl, f1, f2, h⟩, q⟩ := h
  cases rx
  cases ry
  rcases h with ⟨ha, hb⟩ | ⟨ha, hb⟩
  · obtain ⟨is, r1, p1, _⟩ := I.list ha
    obtain ⟨js, r2, p2, _⟩ := I.list hb
    have l1 := r1.length
    have l2 := r2.length
    by_cases hl : xs.length = ys.length
    · refine SeqAt.eq_listAt (e := fun j => eqV (xs.getD j .non) (ys.getD j .non)) p1.isList p2.isList (by simp only [List.size_toArray]; omega) (by omega) (eqAts r1 r2 f1 f2) ?_
      rw [List.size_toArray, ← l1, eqLs_range xs ys hl]
      exact ⟨.bl _, H, I, rfl, q⟩
    · have e : eqLs xs ys = false := by
        cases e : eqLs xs ys with
        | false => rfl
        | true => exact absurd (eqLs_len e) hl
      rw [e] at q
      exact SeqAt.eq_list_lengthsAt p1.isList p2.isList (by simp only [List.size_toArray]; rw [bne_iff_ne]; omega) (by omega) ⟨.bl _, H, I, rfl, q⟩
  · obtain ⟨is, r1, p1, _⟩ := I.tuple ha
    obtain ⟨js, r2, p2, _⟩ := I.tuple hb
    have l1 := r1.length
    have l2 := r2.length
    have k1 : s.heap.IsTuple a is.toArray := p1
    have k2 : s.heap.IsTuple b js.toArray := p2
    refine SeqAt.eq_tupleAt (e := fun j => eqV (xs.getD j .non) (ys.getD j .non)) k1 k2 (by omega) (eqAts r1 r2 f1 f2) ?_
    rw [List.size_toArray, List.size_toArray, ← l1, ← l2, tups_eq]
    exact ⟨.bl _, H, I, rfl, q⟩
theorem op_neFl (hu : X.A.units + 64 < cLine) : OpR X (compareOp .NotEq) (rNeFl X.K) := by
  intro pins s σ H x y v u Q I rx ry h
  obtain ⟨xs, ys, ⟨a, b, rfl, rfl, f1, f2, h⟩, q⟩ := h
  cases rx
  cases ry
  rcases h with ⟨ha, hb⟩ | ⟨ha, hb⟩
  · obtain ⟨is, r1, p1, _⟩ := I.list ha
    obtain ⟨js, r2, p2, _⟩ := I.list hb
    have l1 := r1.length
    have l2 := r2.length
    by_cases hl : xs.length = ys.length
    · refine SeqAt.RcNeAt.lists (e := fun j => eqV (xs.getD j .non) (ys.getD j .non)) p1.isList p2.isList (by simp only [List.size_toArray]; omega) (by omega) (eqAts r1 r2 f1 f2) X.prog X.w X.xe _ ?_
      rw [List.size_toArray, ← l1, eqLs_range xs ys hl]
      exact ⟨.bl _, H, I, rfl, q⟩
    · have e : eqLs xs ys = false := by
        cases e : eqLs xs ys with
        | false => rfl
        | true => exact absurd (eqLs_len e) hl
      rw [e] at q
      exact SeqAt.RcNeAt.lists_lengths p1.isList p2.isList (by simp only [List.size_toArray]; rw [bne_iff_ne]; omega) (by omega) X.prog X.w X.xe _ ⟨.bl _, H, I, rfl, q⟩
  · obtain ⟨is, r1, p1, _⟩ := I.tuple ha
    obtain ⟨js, r2, p2, _⟩ := I.tuple hb
    have l1 := r1.length
    have l2 := r2.length
    have k1 : s.heap.IsTuple a is.toArray := p1
    have k2 : s.heap.IsTuple b js.toArray := p2
    refine SeqAt.RcNeAt.tuples (e := fun j => eqV (xs.getD j .non) (ys.getD j .non)) k1 k2 (by omega) (eqAts r1 r2 f1 f2) X.prog X.w X.xe _ ?_
    rw [List.size_toArray, List.size_toArray, ← l1, ← l2, tups_eq]
    exact ⟨.bl _, H, I, rfl, q⟩
end
end Mo

namespace Mo
open PySem PySem.Spec PyProof.Rows L2
/-! ### the pen -/
def srcD (c : Addr) (t r : Int) : List (Key × V) := [(.inr "cells", .ref c), (.inr "index", .int t), (.inr "rest", .int r)]
theorem s_ct : ¬ ((Sum.inr "cells" : Key) = (Sum.inr "index" : Key)) := by decide +kernel
theorem s_cr : ¬ ((Sum.inr "cells" : Key) = (Sum.inr "rest" : Key)) := by decide +kernel
theorem s_tr : ¬ ((Sum.inr "index" : Key) = (Sum.inr "rest" : Key)) := by decide +kernel
theorem src_cells (c : Addr) (t r : Int) : valV (srcD c t r) (Sum.inr "cells") = some (.ref c) := valV_pos rfl
theorem src_index (c : Addr) (t r : Int) : valV (srcD c t r) (Sum.inr "index") = some (.int t) := by
  unfold srcD
  rw [valV_neg s_ct, valV_pos rfl]
theorem src_rest (c : Addr) (t r : Int) : valV (srcD c t r) (Sum.inr "rest") = some (.int r) := by
  unfold srcD
  rw [valV_neg s_cr, valV_neg s_tr, valV_pos rfl]
theorem sput_index (c : Addr) (t r u : Int) : putK (srcD c t r) (Sum.inr "index") (.int u) = srcD c u r := by
  unfold putK srcD
  have k1 := s_ct
  have k2 : ¬ ((Sum.inr "rest" : Key) = (Sum.inr "index" : Key)) := fun e => s_tr e.symm
  simp only [List.any_cons, List.map_cons, List.map_nil, k1, k2, if_false, if_true, decide_true, decide_false, Bool.true_or, Bool.or_true, Bool.false_or]
theorem sput_rest (c : Addr) (t r u : Int) : putK (srcD c t r) (Sum.inr "rest") (.int u) = srcD c t u := by
  unfold putK srcD
  have k1 := s_cr
  have k2 := s_tr
  simp only [List.any_cons, List.map_cons, List.map_nil, k1, k2, if_false, if_true, decide_true, decide_false, Bool.true_or, Bool.or_true, Bool.false_or]
theorem src_merge (c : Addr) (t r : Int) : mergeK [] (srcD c t r) = srcD c t r := by
  have k1 := s_ct
  have k2 := s_cr
  have k3 := s_tr
  simp only [mergeK, srcD, putK, List.foldl_cons, List.foldl_nil, List.any_nil, List.any_cons, List.nil_append, List.cons_append, k1, k2, k3, decide_false, Bool.or_false, Bool.false_eq_true, if_false]
/-- the pen at d, its cells at c, t draws done -/
def Src (H : Hp) (d c : Addr) (t : Nat) : Prop := ∃ (ns : List Int) (r : Int), H d = some (.dK (srcD c t r)) ∧ H c = some (.lst (ns.map V.int)) ∧ ns.length ≤ 63 ∧ 0 ≤ r
theorem Src.ne {H : Hp} {d c : Addr} {t : Nat} (h : Src H d c t) : d ≠ c := by
  obtain ⟨ns, r, h1, h2, _⟩ := h
  exact ne_of h1 h2 (by intro z; cases z)
theorem Src.new {H : Hp} {d c : Addr} {t : Nat} (h : Src H d c t) {p : Addr} (hp : H p = none) : p ≠ d ∧ p ≠ c := by
  obtain ⟨ns, r, h1, h2, _⟩ := h
  exact ⟨(ne_of_none h1 hp).symm, (ne_of_none h2 hp).symm⟩
theorem Src.upd {H : Hp} {d c : Addr} {t : Nat} (h : Src H d c t) {p : Addr} {o : HO} (h1 : p ≠ d) (h2 : p ≠ c) : Src (upd H p o) d c t := by
  obtain ⟨ns, r, e1, e2, e3⟩ := h
  exact ⟨ns, r, by rw [upd_ne h1.symm]; exact e1, by rw [upd_ne h2.symm]; exact e2, e3⟩
theorem Src.same {H H' : Hp} {d c : Addr} {t : Nat} (h : Src H d c t) (s : Same H H') : Src H' d c t := by
  obtain ⟨ns, r, e1, e2, e3⟩ := h
  exact ⟨ns, r, s _ _ e1, s _ _ e2, e3⟩
theorem src_set {H : Hp} {d c : Addr} {t : Nat} (h : Src H d c t) {u : Nat} {r : Int} (hr : 0 ≤ r) : Src (L2.upd H d (.dK (srcD c u r))) d c u := by
  have n := h.ne
  obtain ⟨ns, r0, e1, e2, e3, _⟩ := h
  exact ⟨ns, r, upd_same, by rw [upd_ne n.symm]; exact e2, e3, hr⟩
def spSDraw : Sp := fun vs H Q _ => ∃ (d c : Addr) (n : Int) (t : Nat), vs = [.ref d, .int n] ∧ Src H d c t ∧ 0 < n ∧ n < 1073741824 ∧ t < 1073741824 ∧
  ∀ H' k t', But d H H' → Src H' d c t' → t' ≤ t + 1 → 0 ≤ k → k < n → Q (.int k) H'
def spSPick (K : PySem.W.Frag) : Sp := fun vs H Q _ => ∃ (d c l : Addr) (xs : List V) (t : Nat), vs = [.ref d, .ref l] ∧ Src H d c t ∧ SqL K H l xs ∧ l ≠ d ∧ 0 < xs.length ∧ xs.length < 1073741824 ∧ t < 1073741824 ∧
  ∀ H' v t', But d H H' → Src H' d c t' → t' ≤ t + 1 → v ∈ xs → Q v H'
end Mo

namespace Mo
open PySem PySem.Spec PyProof.Rows L2
section
variable {K : PySem.W.Frag}
theorem intsDp {H : Hp} : ∀ ns : List Int, DpAll K H (ns.map V.int) (ns.map PyData.int)
  | [] => .nil
  | n :: ns => .cons (.int n) (intsDp ns)
theorem tupI_dat {H : Hp} {p : Addr} {ns : List Int} (h : H p = some (.tup (ns.map V.int))) : Dat K H (.ref p) (.tuple (ns.map PyData.int)) := .inl (.tup (SqT.of h) (intsDp ns))
theorem lstI_dat {H : Hp} {p : Addr} {ns : List Int} (h : H p = some (.lst (ns.map V.int))) : Dat K H (.ref p) (.list (ns.map PyData.int)) := .inl (.lst (SqL.of h) (intsDp ns))
theorem ints_fitAll {B : Nat} : ∀ {ns : List Int}, (∀ n ∈ ns, n.natAbs < 10 ^ B) → FitAll B (2 * ns.length) 0 (ns.map PyData.int)
  | [], _ => ⟨trivial, Nat.le_refl _, Nat.le_refl _⟩
  | n :: ns, h => by
    have ih := ints_fitAll (B := B) (ns := ns) fun x hx => h x (List.mem_cons_of_mem _ hx)
    refine ⟨?_, ?_, ?_⟩
    · simp only [List.map_cons, okAll]
      exact ⟨by simp only [okD]; exact h n (List.mem_cons_self ..), ih.ok⟩
    · have := ih.bulk
      simp only [List.map_cons, PyData.bulkAll, PyData.bulk, List.length_cons]
      omega
    · have := ih.deep
      simp only [List.map_cons, PyData.depthAll, PyData.depth]
      omega
theorem tupI_repr {ns : List Int} (h : ∀ n ∈ ns, n.natAbs < 10 ^ 20) (hl : ns.length ≤ 100000) : (PyData.tuple (ns.map PyData.int)).showable = true ∧ (PyData.tuple (ns.map PyData.int)).depth ≤ 40 ∧ (PyData.tuple (ns.map PyData.int)).shown.length ≤ sizeLine :=
  ((ints_fitAll h).tup).repr (by decide) (by decide) (by omega) (by decide)
theorem lstI_repr {ns : List Int} (h : ∀ n ∈ ns, n.natAbs < 10 ^ 20) (hl : ns.length ≤ 100000) : (PyData.list (ns.map PyData.int)).showable = true ∧ (PyData.list (ns.map PyData.int)).depth ≤ 40 ∧ (PyData.list (ns.map PyData.int)).shown.length ≤ sizeLine :=
  ((ints_fitAll h).lst).repr (by decide) (by decide) (by omega) (by decide)
end
end Mo

namespace Mo
open PySem PySem.Spec PyProof.Rows L2
section
variable {X : Cx}
theorem intsAre_of : ∀ {ns : List Int} {vs : List Value}, Vals (ns.map V.int) vs → IntsAre vs ns
  | [], _, .nil => .nil
  | n :: ns, _, .cons ⟨t, e⟩ h => by
    subst e
    exact .cons n t (intsAre_of h)
/-- t.index(k), a tuple of ints that has it -/
theorem mt_tindexI {K : PySem.W.Frag} (hK : X.K = K) : MtR X "tuple.index" (fun x xs H Q => ∃ p, ∃ ns : List Int, ∃ k : Int, x = .ref p ∧ xs = [.int k] ∧ SqT K H p (ns.map V.int) ∧ k ∈ ns ∧ Q (.int (ns.idxOf k : Nat)) H) := by
  subst hK
  intro pins s σ H x xs v us Q I rx rs h
  obtain ⟨p, ns, k, rfl, rfl, hq, hk, q⟩ := h
  cases rx
  obtain ⟨u, rfl, t, rfl⟩ := vals1 rs
  obtain ⟨its, r, pl, hz⟩ := I.tuple hq
  have k1 : s.heap.IsTuple p its.toArray := pl
  exact PySem.SeqAt.tuple_index_ints k1 (intsAre_of r) hk ⟨.int _, H, I.tok _, ⟨_, rfl⟩, q⟩
/-- a tuple whose object has no dict -/
def Tpl (H : Hp) (p : Addr) (xs : List V) : Prop := ∃ o : Obj, o.dict = none ∧ H p = some (.frz o (.tup xs))
theorem Tpl.sq {K : PySem.W.Frag} {H : Hp} {p : Addr} {xs : List V} (h : Tpl H p xs) : SqT K H p xs := by
  obtain ⟨o, _, e⟩ := h
  exact .inl (.inr ⟨o, e⟩)
theorem Tpl.same {H H' : Hp} {p : Addr} {xs : List V} (h : Tpl H p xs) (s : Same H H') : Tpl H' p xs := by
  obtain ⟨o, d, e⟩ := h
  exact ⟨o, d, s _ _ e⟩
theorem Tpl.ne {H : Hp} {p q : Addr} {xs : List V} {o : HO} (h : Tpl H p xs) (hq : H q = some o) (n : ∀ a b, o ≠ .frz a b) : p ≠ q := by
  obtain ⟨o', d, e⟩ := h
  exact ne_of e hq (fun z => n _ _ z.symm)
/-- tuple(list), the object kept -/
theorem cr_tupF : CallR X (.type "tuple") (fun xs H Q => ∃ p ys, xs = [.ref p] ∧ SqL X.K H p ys ∧ ∀ l H', H l = none → Same H H' → Tpl H' l ys → Q (.ref l) H') := by
  intro pins s σ H xs us Q I r h
  obtain ⟨p, ys, rfl, hq, q⟩ := h
  obtain ⟨u, rfl, rx⟩ := vals1 r
  cases rx
  obtain ⟨its, r', pl, hz⟩ := I.list hq
  have hlen := r'.length
  refine call_tuple_list pl.isList (fun h' kp => ?_) (by simp only [List.size_toArray] <;> omega)
  have I1 : Inv X pins σ H { s with heap := h' } := I.kept (t' := s.toks) kp
  have I2 : Inv X pins σ (upd H h'.objs.size (.frz { cls := .type "tuple", data := .seq its.toArray } (.tup ys))) { s with heap := h'.push { cls := .type "tuple", data := .seq its.toArray } } :=
    I1.laid (t' := s.toks) (fun b o e => Heap.get?_push_of_some _ e) (Nat.le_refl _) (show ObjOk X.prog X.w _ _ _ (.frz _ (.tup ys)) from ⟨Heap.get?_push_size _ rfl, hz, its, r', IsTup.new _ _⟩)
  have nw := I1.hok.fresh (Nat.le_refl _)
  exact ⟨.ref h'.objs.size, _, I2, rfl, q _ _ nw (same_new nw) ⟨_, rfl, upd_same⟩⟩
/-- a tuple's method -/
def tTM (r : V → List V → Hp → VK → Prop) (to : TE) (t : TA) : TE := fun σ H Q => to σ H fun x H1 => (∃ p ys, x = .ref p ∧ Tpl H1 p ys) ∧ t σ H1 fun xs H2 => r x xs H2 Q
theorem pe_tm {id : String} {name : Str} {r : V → List V → Hp → VK → Prop} {o e : Expr} {es : List Expr} {to : TE} {t : TA} {apos cpos : Pos} (slot : Slot "tuple" name id) (hty : typeOf (.builtin id) = pure (.type "method_descriptor")) (hm : MtR X id r) (ho : PE X o to) (ha : PA X (e :: es) t)
    (hbase : attributeBase o name X.env (eval o X.env) = eval o X.env := by rfl)
    (hfew : ((backTo cpos (starEach (e :: es) X.env)).all (fun x => !x.1) && (backToKw cpos (keywordEach [] X.env)).all (fun x => x.1.isSome)
      && decide ((e :: es).length + ([] : List Keyword).length + (if ([] : List Keyword).isEmpty then 0 else 1) < 30)) = true := by rfl)
    (hline : (apos.endLine == cpos.line) = true := by rfl) (hs : starEach (e :: es) X.env = (false, eval e X.env) :: starEach es X.env := by rfl) (hplain : (backTo cpos (starEach es X.env)).any (·.1) = false := by rfl) :
    PE X (.Call (.Attribute o name apos) (e :: es) [] cpos) (tTM r to t) := by
  refine ⟨fun pins s σ H Q I h => ?_⟩
  refine wpAny_Call_method_late hbase hfew hline rfl (thn (ho.run pins s σ H _ I h) fun v s1 ⟨x, H1, I1, r1, ty, q1⟩ => ?_)
  obtain ⟨p, ys, rfl, ob, hob, hp⟩ := ty
  cases r1
  obtain ⟨hg, hz, its, _, o', ho', hc', _⟩ := I1.hok p _ hp
  have eo : ob = o' := Option.some.inj (hg.symm.trans ho')
  subst eo
  refine ⟨"tuple", id, PySem.F.plainAttrs_tuple, slot, hty, ⟨ob, hg, hc'⟩, fun a e => by cases e; exact ⟨ob, hg, hob⟩, ?_⟩
  have hA := ha.run cpos pins s1 σ H1 _ I1 q1
  rw [hs] at hA ⊢
  refine Calls.callWith_builtin (by show (false || (backTo cpos (starEach es X.env)).any (·.1)) = false; rw [hplain] <;> rfl) (Calls.evalArgs_plain ?_)
  exact thn hA fun us s2 ⟨vs, H2, I2, r2, q2⟩ => hm pins s2 σ H2 (.ref p) vs (.ref p) us Q I2 rfl r2 q2
theorem ix_tupK {K : PySem.W.Frag} (h : X.K = K) : IxR X (rIxT K) := by
  subst h
  exact ix_tup
end
end Mo

/-! ### several 'except x as n: ..', each with its own suite -/
namespace Mo
open PySem PySem.Spec PyProof.Rows L2
/-- a clause: the class, the slot of its name, what its suite does -/
abbrev Cls3 := Value × Nat × (Addr → Value → Option Addr → TS)
/-- what the clauses wish of an error of the body, one after the other -/
def wEach (K : PySem.W.Frag) (Wout : WX) (D : Ends) : List Cls3 → WX
  | [] => Wout
  | (c, i, ts) :: r => fun cls d σ H => ∃ b, PySem.W.exmOne K cls c = some b ∧
      (b = true → ∀ a, H a = none → ts a cls d { nx := fun σ' H' => D.nx (σ'.set i none) H', rt := D.rt, bk := fun σ' H' => D.bk (σ'.set i none) H', ct := fun σ' H' => D.ct (σ'.set i none) H' } (σ.set i (some (.ref a))) H) ∧ (b = false → wEach K Wout D r cls d σ H)
inductive HdsAs (X : Cx) : List ExceptHandler → List Cls3 → Prop
  | nil : HdsAs X [] []
  | cons {x n : Str} {c : Value} {i : Nat} {ts : Addr → Value → Option Addr → TS} {b₀ : Stmt} {rest : List Stmt} {np ep : Pos} {hds : List ExceptHandler} {l : List Cls3} (hc : Names X x c) (hi : X.N[i]? = some n) (hln : X.env.kindOf n = some .local)
      (hsu : ∀ (a : Addr) (oe : Obj) (cls : Value) (d : Option Addr) (pn : List (Addr × Obj)), Zc cls d oe → (∃ vs, oe.data = .fields vs) → PSs (X.suite a ((a, oe) :: pn)) (b₀ :: rest) (ts a cls d)) (r : HdsAs X hds l) : HdsAs X (.ExceptHandler (some (.Name x np)) (some n) (b₀ :: rest) ep :: hds) ((c, i, ts) :: l)
section
variable {X : Cx} {body : List Stmt} {h₀ : ExceptHandler} {hds : List ExceptHandler} {l : List Cls3} {pos : Pos} {tb : WX → TS} {Wout : WX}
theorem ps_try_each (hs : X.stack = X.env :: X.outer) (hf : X.env.frame = some X.env.locals) (hN : X.N.Nodup) (tk : Takes X Wout)
    (hb : ∀ (W : WX) (pn : List (Addr × Obj)) (xe : Value → Shared → Prop), Takes (X.tr pn xe) W → PassesOwn (model X.prog X.w) X.A X.env xe → PSs (X.tr pn xe) body (tb W)) (hh : HdsAs X (h₀ :: hds) l) :
    PS X (.Try body (h₀ :: hds) [] [] pos) (fun D σ H => tb (wEach X.K Wout D l) D σ H) := by
  refine ⟨fun pins s σ H D I h => ?_⟩
  have ok := I.ok
  have hfr : X.A.frames = some (X.env :: X.outer) := ok.frames.trans (by rw [hs])
  refine wpAny_Try_except (wpAny_mono ((hb (wEach X.K Wout D l) (X.pn ++ pins) (fun e s₁ => wpAny (model X.prog X.w) X.A (noteFrame e X.env) (fun _ s₂ => wpAny (model X.prog X.w) X.A (setFlight e none) (fun _ s₃ => wpAny (model X.prog X.w) X.A (handleBy e X.env (h₀ :: hds)) (SP X pins D) X.xe s₃) X.xe s₂) X.xe s₁)
    (fun u s' xx => ?_) PassesOwn.looking).run [] s σ H D (I.toTry _) h) (fun f s1 hsp => ?_) (fun e s1 he => he))
  · obtain ⟨a, B, sI, pins', σ', H', cls, d, rfl, J', nb, up, sky, na, os, ag, w⟩ := xx
    have J : Inv X pins σ' H' sI := J'.ofTry ok
    show wpAny (model X.prog X.w) X.A (noteFrame (.ref a) X.env) _ _ _
    refine Sky.land Zc.steady hfr hf (hs ▸ sky) fun h3 fl3 up3 => ?_
    have J3 : Inv X pins σ' H' { s' with heap := h3 } := J.landed nb fl3.1 (up.trans up3) os ag
    obtain ⟨oe3, vs3, he3, hz3, hd3⟩ := fl3.there
    have nfr : a ∉ frs (X.env :: X.outer) := fun hm => by
      obtain ⟨_, o2, e2, hnf⟩ := fl3.2.2.1.mem hm
      rw [he3] at e2
      cases e2
      exact hnf _ hd3
    have nL : a ≠ X.env.locals := fun z => nfr (List.mem_filterMap.mpr ⟨X.env, List.mem_cons_self, hf.trans (congrArg some z.symm)⟩)
    have nF : a ∉ X.fs := fun hm => (List.mem_filterMap.mp hm).elim fun e z => nfr (List.mem_filterMap.mpr ⟨e, List.mem_cons_of_mem _ z.1, z.2⟩)
    have S3 := J3.suite he3 hd3 na nL nF
    have LT : PySem.W.Looks (model X.prog X.w) h3 (typeOf (.ref a)) cls := fun A Q E s k q => wpAny_typeOf_ref (k _ _ he3) (hz3.1 ▸ q)
    have go : ∀ {hs2 : List ExceptHandler} {l2 : List Cls3}, HdsAs X hs2 l2 → wEach X.K Wout D l2 cls d σ' H' → wpAny (model X.prog X.w) X.A (handleBy (.ref a) X.env hs2) (SP X pins D) X.xe { s' with heap := h3 } := by
      intro hs2 l2 hk
      induction hk with
      | nil =>
        intro w
        refine wpAny_handleBy_nil ?_
        obtain ⟨k1, k2, k3, oe, vs, T, oT, t2, he, hz, hd, h1, hr⟩ := id fl3
        unfold PySem.passOn
        refine wpAny_bind (wpAny_field he hd h1 ?_)
        rw [if_neg (show ¬ ((Value.ref T == Value.none) = true) from by simp)]
        have fin : wpAny (model X.prog X.w) X.A (setFlight (.ref a) X.env.frame) (fun _ s4 => wpAny (model X.prog X.w) X.A (throw (.ref a) : Sem Flow) (SP X pins D) X.xe s4) X.xe { s' with heap := h3 } := by
          rw [hf]
          refine HandSPX.setFlight_upZ fl3 fun h4 hh4 up4 => wpAny_throw (tk _ _ ⟨a, B, sI, pins, σ', H', cls, d, rfl, J, nb, (up.trans up3).trans up4, .inr (.inr (hs ▸ hh4)), na, os, ag, w⟩)
        first
          | exact wpAny_bind (wpAny_pure (wpAny_bind fin))
          | exact wpAny_bind fin
      | @cons x n c i ts b₀ rest np ep hds' l' hc hi hln hsu r ih =>
        rintro ⟨b, hb1, hyes, hno⟩
        refine wpAny_handleBy_cons (codeAny_handlers_test ?_) (by intro q; cases q)
        have test : ∀ {Q : Value → Shared → Prop} {E : Value → Shared → Prop}, Q c { s' with heap := h3 } → wpAny (model X.prog X.w) (X.A.mark (some (.ref a))) (eval (.Name x np) X.env) Q E { s' with heap := h3 } := fun {Q E} q => by
          rcases hc with ⟨hg, hdbg, hm | ⟨hm, hv, hnn⟩⟩
          · exact ld_glob (X := X.suite a ((a, oe3) :: (X.pn ++ pins))) S3 hg hm q hdbg
          · exact ld_blt (X := X.suite a ((a, oe3) :: (X.pn ++ pins))) S3 hg hm hv q hnn hdbg
        refine test ((PySem.W.exm_one (M := model X.prog X.w) J3.kIn LT hb1).here ?_)
        cases b with
        | false => exact ih (hno rfl)
        | true =>
          refine codeAny_handlers_suite_as (HandSPX.lands_againZ fl3 fun h4 fl4 up4 => ?_)
          have J4 : Inv X pins σ' H' { s' with heap := h4 } := J.landed nb fl4.1 ((up.trans up3).trans up4) os ag
          obtain ⟨oe4, vs4, he4, hz4, hd4⟩ := fl4.there
          refine store_ok (X := X.suite a ((a, oe4) :: (X.pn ++ pins))) (v := .ref a) (J4.suite he4 hd4 na nL nF) hN hi (.inl hln) rfl (fun s5 S5 => ?_) (.inr hln)
          refine wpAny_mono ((hsu a oe4 cls d (X.pn ++ pins) hz4 ⟨_, hd4⟩).run [] s5 _ H' _ S5 (hyes rfl a na)) (fun f s6 hsp => ?_) (fun _ _ z => False.elim z)
          cases f with
          | next => exact hsp.elim fun σ6 z => z.elim fun H6 z => gone_ok (z.1.unsuite ok) hN hi hln fun s7 J7 => ⟨_, _, J7, z.2⟩
          | brk => exact hsp.elim fun σ6 z => z.elim fun H6 z => gone_ok (z.1.unsuite ok) hN hi hln fun s7 J7 => ⟨_, _, J7, z.2⟩
          | cont => exact hsp.elim fun σ6 z => z.elim fun H6 z => gone_ok (z.1.unsuite ok) hN hi hln fun s7 J7 => ⟨_, _, J7, z.2⟩
          | ret u => exact hsp.elim fun v z => z.elim fun σ6 z => z.elim fun H6 z => gone_ok (z.1.unsuite ok) hN hi hln fun s7 J7 => ⟨v, _, _, J7, z.2.1, z.2.2⟩
    exact go hh w
  · cases f with
    | next => exact hsp.elim fun σ1 z => z.elim fun H1 z => wpAny_execs_nil ⟨σ1, H1, z.1.ofTry ok, z.2⟩
    | brk => exact hsp.elim fun σ1 z => z.elim fun H1 z => ⟨σ1, H1, z.1.ofTry ok, z.2⟩
    | cont => exact hsp.elim fun σ1 z => z.elim fun H1 z => ⟨σ1, H1, z.1.ofTry ok, z.2⟩
    | ret u => exact hsp.elim fun v z => z.elim fun σ1 z => z.elim fun H1 z => ⟨v, σ1, H1, z.1.ofTry ok, z.2⟩
end
/-! isinstance(e, c) in the suite, e an error with its own dict -/
/-- the error at a, its class at C, its dict at dd -/
def rIsS (K : PySem.W.Frag) (a : Addr) (cls : Value) (d : Option Addr) : List V → Hp → VK → Prop := fun xs H Q => ∃ (C dd : Addr) (fs : List (Str × V)) (c : V) (u : Value) (b : Bool), xs = [.ref a, c] ∧ cls = .ref C ∧ d = some dd ∧ H dd = some (.xd fs) ∧ ExcC K C ∧ ClsV c u ∧ PySem.W.kitOne K (.ref C) u = some b ∧ Q (.bl b) H
theorem cr_isS {X : Cx} {a : Addr} {oe : Obj} {cls : Value} {d : Option Addr} {pn : List (Addr × Obj)} (hz : Zc cls d oe) (hf : ∃ vs, oe.data = .fields vs) : CallR (X.suite a ((a, oe) :: pn)) (.builtin "isinstance") (rIsS X.K a cls d) := by
  intro pins s σ H xs us Q I r h
  obtain ⟨C, dd, fs, c, u, b, rfl, rfl, rfl, hd, T, k, e, q⟩ := h
  obtain ⟨u1, u2, rfl, r1, r2⟩ := vals2 r
  cases r1
  obtain rfl := k.eq r2
  obtain ⟨ha, _⟩ := I.pin (a, oe) (List.mem_append_left _ List.mem_cons_self)
  obtain ⟨vs, hv⟩ := hf
  obtain ⟨mA, hns, hr⟩ := (show ObjOk X.prog X.w H s.heap dd (.xd fs) from I.hok dd _ hd)
  obtain ⟨od, ho, hl⟩ := lookIn_ns hns
  exact PySem.W.kia_one (err_kit T) I.kIn ⟨oe, od, ha, hz.1, by unfold PySem.W.notCls; rw [hv] <;> rfl, by rw [hz.2]; exact ho⟩ e (fun z => nomatch z) fun tk => ⟨.bl b, H, I.tok tk, rfl, q⟩
/-- e.f in the suite -/
def tXs (K : PySem.W.Frag) (a : Addr) (cls : Value) (d : Option Addr) (f : Str) (te : TE) : TE := fun σ H Q => te σ H fun x H1 => ∃ (C dd : Addr) (fs : List (Str × V)) (v : V), x = .ref a ∧ cls = .ref C ∧ d = some dd ∧ H1 dd = some (.xd fs) ∧ XfC K C ∧ PySem.W.findIn K (.ref C) f = some none ∧ fs.lookup f = some v ∧ Q v H1
theorem pe_xs {X : Cx} {a : Addr} {oe : Obj} {cls : Value} {d : Option Addr} {pn : List (Addr × Obj)} {e : Expr} {te : TE} {pos : Pos} {f : Str} (hz : Zc cls d oe) (hf : ∃ vs, oe.data = .fields vs) (he : PE (X.suite a ((a, oe) :: pn)) e te)
    (hb : attributeBase e f X.env (eval e X.env) = eval e X.env := by rfl) : PE (X.suite a ((a, oe) :: pn)) (.Attribute e f pos) (tXs X.K a cls d f te) := by
  refine ⟨fun pins s σ H Q I h => attr_of hb (thn (he.run pins s σ H _ I h) fun u s1 hh => ?_)⟩
  obtain ⟨x, H1, I1, rx, C, dd, fs, v, rfl, rfl, rfl, ea, T, hno, l, q⟩ := hh
  obtain rfl : u = Value.ref a := rx
  obtain ⟨ha, _⟩ := I1.pin (a, oe) (List.mem_append_left _ List.mem_cons_self)
  obtain ⟨vs, hv⟩ := hf
  obtain ⟨mA, hns, hr⟩ := (show ObjOk X.prog X.w H1 s1.heap dd (.xd fs) from I1.hok dd _ ea)
  obtain ⟨od, ho, hl⟩ := lookIn_ns hns
  obtain ⟨u, hu, ru⟩ := RelO.some_of (v := v) (o := mA f) (l ▸ hr f)
  exact HandSPX.exc_get I1.kIn ⟨ha, hz.1, by unfold PySem.W.notCls; rw [hv] <;> rfl, by rw [hz.2]; exact ho⟩ T.ga T.gg T.exC (PySem.W.findObj_own T.hdC hno rfl (by rw [hl, hu])) (handed_of ru) ⟨v, H1, I1.tok _, ru, q⟩
end Mo

/-! ### own error classes over any of Python's errors -/
namespace Mo
open PySem PySem.Spec PyProof.Rows L2
open Builtin Builtin.ObjectAttr in
section
variable {prog : Program} {w : World} {A : Around} {E : Value → Shared → Prop} {R : Result → Shared → Prop} {hp : Heap} {g : Array GenState} {d : Drawn} {t : Nat} {os : OsState}
/-- the first field of such an error -/
theorem osaG {K : PySem.W.Frag} {nm : Str} {tk : Tok} {v : Value} {x C : Addr} {fv : Array Value} {cd : ClassData} {bmB : List Value} (X : K.In hp) (hx : hp.get? x = some { cls := .ref C, data := .fields fv }) (hcd : PySem.W.clsIn K C = some cd)
    (hm : PySem.W.excTail bmB cd.mro = true) (hne : bmB ≠ []) (hob : bmB.contains (.type "object") = true) (hps : ∀ self, refuseLoop self "__setattr__" bmB = pure ()) (hh : cd.hasDict = true) (ha : PySem.W.findIn K (.ref C) nm = some none)
    (hq : ∀ h' tk' dx, (∀ b o, b ≠ x → hp.get? b = some o → h'.get? b = some o) → hp.objs.size ≤ dx → dx ≠ x → h'.get? x = some { cls := .ref C, dict := some dx, data := .fields fv } → h'.Ns1 dx (fun y => if y = nm then some v else none) → R (.ok (.ret .none)) ⟨h', g, d, tk', os⟩) :
    codeAny (model prog w) A (.call (.builtin "object.__setattr__") ⟨[.ref x, .str nm tk, v], []⟩) R ⟨hp, g, d, t, os⟩ := by
  have J : PySem.W.InstAt hp x { cls := .ref C, data := .fields fv } C none := ⟨hx, rfl, rfl, trivial⟩
  have SO := PySem.F.store_object
  have e1 : cd.mro.isEmpty = false := by
    cases q : cd.mro with
    | nil =>
      rw [q] at hm
      exact absurd (beq_iff_eq.mp hm).symm hne
    | cons _ _ => rfl
  have e2 : cd.mro.contains (.type "object") = true := (PySem.W.excTail_contains "object" _ hm).trans hob
  have n1 : x ≠ hp.objs.size := Nat.ne_of_lt (Heap.lt_size hx)
  have su : PySem.W.Looks (model prog w) hp (isInstance (.ref x) (.type "object")) true := J.type.andThen (PySem.W.looks_mroIn X (by unfold PySem.W.mroIn; rw [hcd, Option.bind_some, if_neg (by rw [e1]; decide), e2]))
  refine codeAny_call_builtin SO.slot.plain SO.entry (@PySem.W.check_slot (model prog w) _ _ ⟨hp, g, d, t, os⟩ "object.__setattr__" "object" "__setattr__" (.ref x) [.str nm tk, v] [] _ SO.kind SO.split su (SO.args (.ref x) (.str nm tk) v) ?_)
  have l1 : PySem.W.Looks (model prog w) hp (mroOf (.ref C)) cd.mro := (PySem.W.looks_clsIn X hcd).andThen .now
  have l2 : PySem.W.Looks (model prog w) hp (storeTaker? none) none := .now
  have l3 : PySem.W.Looks (model prog w) hp (classData C) cd := PySem.W.looks_clsIn X hcd
  rw [PySem.W.osa_eq, refuse_eq]
  refine wpAny_bind (wpAny_bind (J.type.at (wpAny_bind (l1.at ?_))))
  rw [PySem.W.excTail_pass _ (hps _) _ hm]
  refine wpAny_pure (wpAny_bind (J.type.at (wpAny_bind ((PySem.W.looks_findIn X ha).at (wpAny_bind (l2.at ?_))))))
  show wpAny _ _ (storeInOwnDict (.ref x) (.ref C) (.str nm tk) nm v false) _ _ _
  obtain ⟨_, _, mro, _, _, hd, _, _, _, _, _⟩ := cd
  obtain rfl : hd = true := hh
  unfold storeInOwnDict ownDictForStores
  repeat (first | with_reducible refine PySem.HandSPX.store_in_new ?_ ?_ | with_reducible refine wpAny_loadPart_at hx ?_ | with_reducible refine l3.at ?_ | wp_step)
  · exact ⟨_, #[], _, (Heap.get?_update_ne _ _ _ _ n1.symm).trans (Heap.get?_push_at rfl rfl), rfl, fun e he => absurd he (by simp), fun _ => rfl⟩
  · intro h2 tk2 hn2 hs2
    have hx1 : (hp.push { cls := .type "dict", data := .dict #[] }).get? x = some { cls := .ref C, data := .fields fv } := Heap.get?_push_of_some _ hx
    exact hq h2 tk2 hp.objs.size (fun b o hb ho => (hs2.2 b (Nat.ne_of_lt (Heap.lt_size ho))).trans ((Heap.get?_update_ne _ _ _ _ hb).trans (Heap.get?_push_of_some _ ho))) (Nat.le_refl _) n1.symm ((hs2.2 x n1).trans (Heap.get?_update_self _ hx1 rfl)) hn2
end
/-- what the written part says of an own error class at C over Python's B -/
structure OvC (K : PySem.W.Frag) (C : Addr) (B newId initId : String) (bmB : List Value) : Prop where
  cls : ∃ nm q N bs bm sn sub ab col dd k0 k1 k2 k3 k5, K.lookup C = some (excClassObj nm q C N bs bm true sn sub ab col dd k0 k1 k2 k3 k5 newId) ∧ PySem.W.excTail bmB bm = true
  bas : ExcBaseFacts B newId initId bmB
  obj : bmB.contains (.type "object") = true
  pas : ∀ self, refuseLoop self "__setattr__" bmB = pure ()
  sa : PySem.W.findIn K (.ref C) "__setattr__" = some (some (.builtin "object.__setattr__"))
  exC : PySem.W.subIn K (.ref C) (.type "BaseException") = some true
  tyC : PySem.W.typeIn K (.ref C) = some (.type "type")
  kC : PySem.W.keepIn K (.ref C) = true
section
variable {X : Cx} {pins : List (Addr × Obj)} {σ : L2.St} {H : Hp} {s : Shared} {a C : Addr} {f : Str} {y : V} {u : Value} {Q : Unit → Shared → Prop} {E : Value → Shared → Prop} {A : Around} {B newId initId : String} {bmB : List Value}
theorem fieldG (T : OvC X.K C B newId initId bmB) (I : Inv X pins σ H s) (e : H a = some (exo a C none)) (hno : PySem.W.findIn X.K (.ref C) f = some none) (ry : RelV y u)
    (h : ∀ dx s', H dx = none → dx ≠ a → Inv X pins σ (upd (upd H dx (exd dx [(f, y)])) a (exo a C (some dx))) s' → Q () s') : wpAny (model X.prog X.w) A (setAttr (.ref a) f u) Q E s := by
  obtain ⟨nm, q, N, bs, bm, sn, sub, ab, col, dd, k0, k1, k2, k3, k5, hC, hbm⟩ := T.cls
  have hcl : ∃ cd, PySem.W.clsIn X.K C = some cd ∧ cd.mro = .ref C :: bm ∧ cd.hasDict = true := by
    refine ⟨⟨nm, bs, .ref C :: bm, N, q, true, sn, sub, ab, col, false⟩, ?_, rfl, rfl⟩
    unfold PySem.W.clsIn
    rw [hC]
  obtain ⟨cd, c1, c2, c3⟩ := hcl
  obtain ⟨t1, ho⟩ := exo_at I.hok e
  obtain ⟨hp, g, dr, tk, os⟩ := s
  refine PySem.W.set_plain I.kIn (ox := { cls := .ref C, dict := none, data := .fields #[.ref t1, .none, .none, .none, .bool false, .none] }) (od := none) ⟨ho, rfl, rfl, trivial⟩ T.sa ?_
  refine osaG I.kIn ho c1 (by rw [c2]; exact hbm) (fun z => ?_) T.obj T.pas c3 hno (fun h2 tk2 dx kp dn ne hx hn => ?_)
  · have z2 := T.obj
    rw [z] at z2
    cases z2
  have free : H dx = none := I.hok.fresh dn
  have old : ∀ {b : Addr} {o : Obj}, hp.get? b = some o → b ≠ dx := fun {b o} q => Nat.ne_of_lt (Nat.lt_of_lt_of_le (Heap.lt_size q) dn)
  have off : ∀ {b : Addr}, H b = none → b ≠ a := fun {b} n z => by
    subst z
    rw [e] at n
    cases n
  have un : Un X.fs [] H (upd (upd H dx (exd dx [(f, y)])) a (exo a C (some dx))) hp h2 := by
    constructor
    · exact fun b o q n _ _ => kp b o (off n) q
    · exact fun b o q n _ _ => ⟨o.slots, kp b o (off n) q⟩
    · exact fun b o q n _ => by
        rw [upd_ne (off n), upd_ne (old q)]
        exact n
    · intro b o q _
      by_cases hb : b = a
      · subst hb
        exact ⟨_, hx⟩
      · exact ⟨o, kp b o hb q⟩
    · exact fun b xs q => by
        rw [upd_ne (at_ne e q exo_tup), upd_ne (ne_of_none q free)]
        exact q
    · exact fun b o v q => by
        rw [upd_ne (at_ne e q exo_frz), upd_ne (ne_of_none q free)]
        exact q
    · exact fun b ps q => ⟨#[], by
        rw [upd_ne (at_ne e q exo_tbl), upd_ne (ne_of_none q free), q]
        simp⟩
  refine h dx _ free ne (I.un (t' := tk2) un fun b o q => ?_)
  by_cases hb : b = a
  · subst hb
    rw [upd_same] at q
    obtain rfl := Option.some.inj q
    exact exo_ok hx
  rw [upd_ne hb] at q
  by_cases hd : b = dx
  · subst hd
    rw [upd_same] at q
    obtain rfl := Option.some.inj q
    exact exd_ok hn (relO_put (fs := []) ry fun _ => True.intro)
  rw [upd_ne hd] at q
  refine (I.hok b o q).stay (fun c v hc z => kp c v ?_ z) (fun c hc => ?_) (fun c xs hc => ?_)
  · rcases hc with rfl | hc
    · exact hb
    · exact at_ne e hc exo_own
  · rw [upd_ne (at_ne e hc exo_own), upd_ne (ne_of_none hc free)]
    exact hc
  · rw [upd_ne (at_ne e hc exo_tup), upd_ne (ne_of_none hc free)]
    exact hc
end
/-- self.f = e, the one field of such an error -/
def tFieldG (K : PySem.W.Frag) (f : Str) (to te : TE) : TS := fun D σ H => te σ H fun y H1 => to σ H1 fun x H2 => ∃ (a C : Addr) (B newId initId : String) (bmB : List Value), x = .ref a ∧ OvC K C B newId initId bmB ∧ PySem.W.findIn K (.ref C) f = some none ∧
  H2 a = some (exo a C none) ∧ ∀ dx, H2 dx = none → dx ≠ a → D.nx σ (upd (upd H2 dx (exd dx [(f, y)])) a (exo a C (some dx)))
section
variable {X : Cx} {o e : Expr} {es : List Expr} {to te : TE} {ta : TA} {f : Str} {p q1 pos : Pos} {B newId initId : String} {bmB : List Value}
theorem ps_fieldG (ho : PE X o to) (he : PE X e te) (hs : swapsWith e (some (.Attribute o f q1)) pos.line X.env = pure false := by rfl) : PS X (.Assign [.Attribute o f q1] e pos) (tFieldG X.K f to te) := by
  refine ⟨fun pins s σ H D I h => ?_⟩
  refine plainObj_wpAny_Assign_Attribute (thn (he.run pins s σ H _ I h) fun v s1 ⟨y, H1, I1, r1, z1⟩ => thn (ho.run pins s1 σ H1 _ I1 z1) fun u s2 ⟨x, H2, I2, r2, a, C, B, newId, initId, bmB, ex, T, hno, ea, z⟩ => ?_) hs
  subst ex
  obtain rfl : u = Value.ref a := r2
  exact fieldG T I2 ea hno r1 fun dx s' n ne J => ⟨σ, _, J, z dx n ne⟩
/-- C(e, ..) where it is raised -/
theorem pmkG {CX : CXT} {x : Str} {C fI : Addr} {k : Nat} {fd : FuncData} {ps : List Str} {sp : Sp} (T : OvC X.K C B newId initId bmB) (iC : PySem.W.findIn X.K (.ref C) "__init__" = some (some (.ref fI))) (tI : PySem.W.typeIn X.K (.ref fI) = some (.type "function"))
    (F1 : FnOk X.prog X.w X.K X.mg X.base CX k fI fd ps sp) (hr : Room (k + 1) X.A) (hb : Binds X.K fd ps []) (hx : Passes CX X (fun _ _ _ => False)) (hg : Gl X x) (hm : X.mg x = some (.ref C)) (ha : PA X (e :: es) ta)
    (hdb : (x == ("__debug__" : Str)) = false := by decide) (he : starEach (e :: es) X.env = (false, eval e X.env) :: starEach es X.env := by rfl) (hpl : (backTo pos (starEach es X.env)).any (·.1) = false := by rfl) :
    PMk X (.Call (.Name x p) (e :: es) [] pos) (tMkO C sp [] ta) := by
  intro pins s σ H Q I h
  obtain ⟨nm, q, N, bs, bm, sn, sub, ab, col, dd, k0, k1, k2, k3, k5, hC, hbm⟩ := T.cls
  refine wpAny_Call_Name_kw (ld_glob I hg hm (PySem.W.callWith_K (h₀ := X.base) I.ok.mod.kin T.kC (thn (ha.run pos pins s σ H _ I h) fun us s1 ⟨vs, H1, I1, r1, hz, z1⟩ => ⟨I1.kIn, ?_⟩) he hpl) hdb)
  show wpAny _ _ (call (.ref C) us) _ _ _
  obtain ⟨hp, g, dr, tk, os⟩ := s1
  have le1 : hp.objs.size ≤ hp.objs.size + 1 := Nat.le_succ _
  have z2 := z1 (hp.objs.size + 1) (I1.hok.fresh le1)
  have keep : ∀ b o, hp.get? b = some o → ((hp.push (PySem.W.kdv_tup us)).push (PySem.HandSPX.excO C hp.objs.size)).get? b = some o := fun b o e => Heap.get?_push_of_some _ (Heap.get?_push_of_some _ e)
  have hget : ((hp.push (PySem.W.kdv_tup us)).push (PySem.HandSPX.excO C hp.objs.size)).get? (hp.objs.size + 1) = some (PySem.HandSPX.excO C hp.objs.size) := by heap_get
  have I2 := I1.laid (t' := tk) (a := hp.objs.size + 1) (o := exo (hp.objs.size + 1) C none) (h' := (hp.push (PySem.W.kdv_tup us)).push (PySem.HandSPX.excO C hp.objs.size)) keep le1 (exo_ok hget)
  rw [List.append_nil] at z2
  have r2 : Vals (V.ref (hp.objs.size + 1) :: vs) (Value.ref (hp.objs.size + 1) :: us) := .cons rfl r1
  have bi := hb ⟨(hp.push (PySem.W.kdv_tup us)).push (PySem.HandSPX.excO C hp.objs.size), g, dr, tk, os⟩ (Value.ref (hp.objs.size + 1) :: us) I2.kIn (by rw [List.append_nil]; exact r2.length.symm.trans (F1.len _ _ _ _ z2))
  rw [List.append_nil] at bi
  have hus : us.length ≤ sizeLine := by
    have := r1.length
    rw [sizeLine_eq]
    omega
  refine wpAny_call (PySem.HandSPX.call_own T.bas (fun Y => PySem.W.excTail_contains Y bm hbm) (I1.kIn _ _ hC) (PySem.W.looks_findIn I1.kIn iC) (fun self => PySem.W.bind_fn I1.kIn self tI) hus (codeAny_mono
    (F1.run _ X.stack _ _ ⟨Value.ref (hp.objs.size + 1) :: us, []⟩ (Value.ref (hp.objs.size + 1) :: us) _ _ (fun _ _ _ => False) (hr.make C us []) (I2.env0.make C us []) bi r2 z2) fun r s2 z3 => ?_))
  match r, z3 with
  | .error er, z3 => exact hx pins σ _ _ er s2 I2 z3
  | .ok (.ret u), z3 =>
    obtain ⟨v, H2, os2, bare2, un2, hok2, rv, ev, dx, fs, ea, ed, hd1, z4⟩ := z3
    subst ev
    obtain ⟨h2, g2, d2, t2, os'⟩ := s2
    exact ⟨rv, mk_end (raises_own T.exC T.tyC) I1 le1 keep un2 hok2 os2 bare2 ea ed hd1 z4⟩
end
/-- such a class with one field f, its __init__ at fI -/
structure ErrG (K : PySem.W.Frag) (C fI : Addr) (f : Str) (B newId initId : String) (bmB : List Value) : Prop where
  ov : OvC K C B newId initId bmB
  xf : XfC K C
  exc : ExcC K C
  no : PySem.W.findIn K (.ref C) f = some none
  te : PySem.W.exmOne K (.ref C) (.ref C) = some true
  iC : PySem.W.findIn K (.ref C) "__init__" = some (some (.ref fI))
  tI : PySem.W.typeIn K (.ref fI) = some (.type "function")
end Mo

/-! ### own errors with two fields; isinstance with several classes in a suite -/
namespace Mo
open PySem PySem.Spec PyProof.Rows L2
open Builtin Builtin.ObjectAttr in
section
variable {prog : Program} {w : World} {A : Around} {E : Value → Shared → Prop} {R : Result → Shared → Prop} {hp : Heap} {g : Array GenState} {d : Drawn} {t : Nat} {os : OsState}
/-- a further field of such an error -/
theorem osaG2 {K : PySem.W.Frag} {nm : Str} {tk : Tok} {v : Value} {x C dx : Addr} {fv : Array Value} {cd : ClassData} {bmB : List Value} {m0 : Str → Option Value} {nl : List Str} (X : K.In hp) (hx : hp.get? x = some { cls := .ref C, dict := some dx, data := .fields fv })
    (hns : hp.Ns1 dx m0) (hw : Within m0 nl) (hz : nl.length ≤ 1000) (hcd : PySem.W.clsIn K C = some cd)
    (hm : PySem.W.excTail bmB cd.mro = true) (hne : bmB ≠ []) (hob : bmB.contains (.type "object") = true) (hps : ∀ self, refuseLoop self "__setattr__" bmB = pure ()) (hh : cd.hasDict = true) (ha : PySem.W.findIn K (.ref C) nm = some none)
    (hq : ∀ h' tk', (∀ b o, b ≠ dx → hp.get? b = some o → h'.get? b = some o) → h'.Ns1 dx (fun y => if y = nm then some v else m0 y) → R (.ok (.ret .none)) ⟨h', g, d, tk', os⟩) :
    codeAny (model prog w) A (.call (.builtin "object.__setattr__") ⟨[.ref x, .str nm tk, v], []⟩) R ⟨hp, g, d, t, os⟩ := by
  obtain ⟨oD, _, _, hoD, _, _⟩ := hns.count hw
  have J : PySem.W.InstAt hp x { cls := .ref C, dict := some dx, data := .fields fv } C (some oD) := ⟨hx, rfl, rfl, hoD⟩
  have SO := PySem.F.store_object
  have e1 : cd.mro.isEmpty = false := by
    cases q : cd.mro with
    | nil =>
      rw [q] at hm
      exact absurd (beq_iff_eq.mp hm).symm hne
    | cons _ _ => rfl
  have e2 : cd.mro.contains (.type "object") = true := (PySem.W.excTail_contains "object" _ hm).trans hob
  have su : PySem.W.Looks (model prog w) hp (isInstance (.ref x) (.type "object")) true := J.type.andThen (PySem.W.looks_mroIn X (by unfold PySem.W.mroIn; rw [hcd, Option.bind_some, if_neg (by rw [e1]; decide), e2]))
  refine codeAny_call_builtin SO.slot.plain SO.entry (@PySem.W.check_slot (model prog w) _ _ ⟨hp, g, d, t, os⟩ "object.__setattr__" "object" "__setattr__" (.ref x) [.str nm tk, v] [] _ SO.kind SO.split su (SO.args (.ref x) (.str nm tk) v) ?_)
  have l1 : PySem.W.Looks (model prog w) hp (mroOf (.ref C)) cd.mro := (PySem.W.looks_clsIn X hcd).andThen .now
  have l2 : PySem.W.Looks (model prog w) hp (storeTaker? none) none := .now
  have l3 : PySem.W.Looks (model prog w) hp (classData C) cd := PySem.W.looks_clsIn X hcd
  rw [PySem.W.osa_eq, refuse_eq]
  refine wpAny_bind (wpAny_bind (J.type.at (wpAny_bind (l1.at ?_))))
  rw [PySem.W.excTail_pass _ (hps _) _ hm]
  refine wpAny_pure (wpAny_bind (J.type.at (wpAny_bind ((PySem.W.looks_findIn X ha).at (wpAny_bind (l2.at ?_))))))
  show wpAny _ _ (storeInOwnDict (.ref x) (.ref C) (.str nm tk) nm v false) _ _ _
  obtain ⟨_, _, mro, _, _, hd, _, _, _, _, _⟩ := cd
  obtain rfl : hd = true := hh
  unfold storeInOwnDict ownDictForStores
  repeat (first | with_reducible refine PySem.OEX.store_in_old hns hw hz ?_ | with_reducible refine wpAny_loadPart_at hx ?_ | with_reducible refine l3.at ?_ | wp_step)
  intro h2 tk2 hn2 hs2
  exact hq h2 tk2 (fun b o hb ho => (hs2.2 b hb).trans ho) hn2
end
section
variable {X : Cx} {pins : List (Addr × Obj)} {σ : L2.St} {H : Hp} {s : Shared} {a C dx : Addr} {f : Str} {y : V} {u : Value} {fs : List (Str × V)} {Q : Unit → Shared → Prop} {E : Value → Shared → Prop} {A : Around} {B newId initId : String} {bmB : List Value}
theorem fieldG2 (T : OvC X.K C B newId initId bmB) (I : Inv X pins σ H s) (e : H a = some (exo a C (some dx))) (ed : H dx = some (exd dx fs)) (hl : fs.length ≤ 900) (hno : PySem.W.findIn X.K (.ref C) f = some none) (ry : RelV y u)
    (h : ∀ s', Inv X pins σ (upd H dx (exd dx ((f, y) :: fs))) s' → Q () s') : wpAny (model X.prog X.w) A (setAttr (.ref a) f u) Q E s := by
  obtain ⟨nm, q, N, bs, bm, sn, sub, ab, col, dd, k0, k1, k2, k3, k5, hC, hbm⟩ := T.cls
  have hcl : ∃ cd, PySem.W.clsIn X.K C = some cd ∧ cd.mro = .ref C :: bm ∧ cd.hasDict = true := by
    refine ⟨⟨nm, bs, .ref C :: bm, N, q, true, sn, sub, ab, col, false⟩, ?_, rfl, rfl⟩
    unfold PySem.W.clsIn
    rw [hC]
  obtain ⟨cd, c1, c2, c3⟩ := hcl
  obtain ⟨t1, ho⟩ := exo_at I.hok e
  obtain ⟨mA, hns, rel⟩ := exd_at I.hok ed
  have hw := within_of rel
  obtain ⟨hp, g, dr, tk, os⟩ := s
  obtain ⟨oD, _, _, hoD, _, _⟩ := hns.count hw
  refine PySem.W.set_plain I.kIn (ox := { cls := .ref C, dict := some dx, data := .fields #[.ref t1, .none, .none, .none, .bool false, .none] }) (od := some oD) ⟨ho, rfl, rfl, hoD⟩ T.sa ?_
  refine osaG2 I.kIn ho hns hw (by rw [List.length_map]; omega) c1 (by rw [c2]; exact hbm) (fun z => ?_) T.obj T.pas c3 hno (fun h2 tk2 kp hn => ?_)
  · have z2 := T.obj
    rw [z] at z2
    cases z2
  have there : ∃ o, h2.get? dx = some o := hn.elim fun o z => z.elim fun _ z => z.elim fun _ z => ⟨o, z.1⟩
  exact h _ (I.write (t' := tk2) (x := dx) (e := dx) (o := exd dx ((f, y) :: fs)) (by rw [ed]; exact True.intro) (.inl rfl) kp there (exd_ok hn (relO_put ry rel)))
end
/-- self.f = e, a further field of such an error -/
def tFieldG2 (K : PySem.W.Frag) (f : Str) (to te : TE) : TS := fun D σ H => te σ H fun y H1 => to σ H1 fun x H2 => ∃ (a C dx : Addr) (fs : List (Str × V)) (B newId initId : String) (bmB : List Value), x = .ref a ∧ OvC K C B newId initId bmB ∧ PySem.W.findIn K (.ref C) f = some none ∧
  H2 a = some (exo a C (some dx)) ∧ H2 dx = some (exd dx fs) ∧ fs.length ≤ 900 ∧ D.nx σ (upd H2 dx (exd dx ((f, y) :: fs)))
section
variable {X : Cx} {o e : Expr} {to te : TE} {f : Str} {q1 pos : Pos}
theorem ps_fieldG2 (ho : PE X o to) (he : PE X e te) (hs : swapsWith e (some (.Attribute o f q1)) pos.line X.env = pure false := by rfl) : PS X (.Assign [.Attribute o f q1] e pos) (tFieldG2 X.K f to te) := by
  refine ⟨fun pins s σ H D I h => ?_⟩
  refine plainObj_wpAny_Assign_Attribute (thn (he.run pins s σ H _ I h) fun v s1 ⟨y, H1, I1, r1, z1⟩ => thn (ho.run pins s1 σ H1 _ I1 z1) fun u s2 ⟨x, H2, I2, r2, a, C, dx, fs, B, newId, initId, bmB, ex, T, hno, ea, ed, hl, z⟩ => ?_) hs
  subst ex
  obtain rfl : u = Value.ref a := r2
  exact fieldG2 T I2 ea ed hl hno r1 fun s' J => ⟨σ, _, J, z⟩
end
/-- __init__ of such an error: self.f = y; self.g = z -/
def spInit2 (C : Addr) (f g : Str) : Sp := fun vs H Q _ => ∃ (a : Addr) (y z : V), vs = [.ref a, y, z] ∧ H a = some (exo a C none) ∧ ∀ dx, H dx = none → dx ≠ a → Q .non (upd (upd (upd H dx (exd dx [(f, y)])) a (exo a C (some dx))) dx (exd dx [(g, z), (f, y)]))
/-- raising it: what is left to be shown -/
theorem err_read2 {C : Addr} {f g : Str} {H : Hp} {v u : V} {Q : XK} (h : ∀ d H', H d = none → Same H H' → H' d = some (.xd [(g, u), (f, v)]) → Q (.ref C) (some d) H') :
    [v, u].length ≤ 1000 ∧ ∀ a, H a = none → spInit2 C f g (.ref a :: ([v, u] ++ [])) (upd H a (exo a C none)) (fun x H2 => x = .non ∧ ∃ (d : Addr) (fs : List (Str × V)), H2 a = some (exo a C (some d)) ∧ H2 d = some (exd d fs) ∧ H d = none ∧ Q (.ref C) (some d) (upd (del H2 a) d (.xd fs))) (fun _ _ _ => False) := by
  refine ⟨by show 2 ≤ 1000; decide, fun a na => ⟨a, v, u, rfl, upd_same, fun dx nd ne => ⟨rfl, dx, [(g, u), (f, v)], by rw [upd_ne (Ne.symm ne), upd_same], upd_same, ?_, ?_⟩⟩⟩
  · rw [upd_ne ne] at nd
    exact nd
  · have nd' : H dx = none := by rw [upd_ne ne] at nd; exact nd
    refine h dx _ nd' (fun b o e => ?_) upd_same
    have nb : b ≠ dx := ne_of_none e nd'
    have nba : b ≠ a := ne_of_none e na
    rw [upd_ne nb, del_ne nba, upd_ne nb, upd_ne nba, upd_ne nb, upd_ne nba]
    exact e
/-- isinstance(e, (c1, c2, ..)) in the suite -/
def rIsST (K : PySem.W.Frag) (a : Addr) (cls : Value) (d : Option Addr) : List V → Hp → VK → Prop := fun xs H Q => ∃ (C dd tp : Addr) (fs : List (Str × V)) (cs : List V) (us : List Value) (b : Bool), xs = [.ref a, .ref tp] ∧ cls = .ref C ∧ d = some dd ∧ H dd = some (.xd fs) ∧ ExcC K C ∧ H tp = some (.tup cs) ∧ Paired ClsV cs us ∧
  PySem.W.kitAny K (.ref C) us = some b ∧ Q (.bl b) H
theorem cr_isST {X : Cx} {a : Addr} {oe : Obj} {cls : Value} {d : Option Addr} {pn : List (Addr × Obj)} (hz : Zc cls d oe) (hf : ∃ vs, oe.data = .fields vs) : CallR (X.suite a ((a, oe) :: pn)) (.builtin "isinstance") (rIsST X.K a cls d) := by
  intro pins s σ H xs ws Q I r h
  obtain ⟨C, dd, tp, fs, cs, us, b, rfl, rfl, rfl, hd, T, hT, k, e, q⟩ := h
  obtain ⟨u1, u2, rfl, r1, r2⟩ := vals2 r
  cases r1
  cases (show u2 = Value.ref tp from r2)
  obtain ⟨ha, _⟩ := I.pin (a, oe) (List.mem_append_left _ List.mem_cons_self)
  obtain ⟨vs, hv⟩ := hf
  obtain ⟨mA, hns, hr⟩ := (show ObjOk X.prog X.w H s.heap dd (.xd fs) from I.hok dd _ hd)
  obtain ⟨od, ho, hl⟩ := lookIn_ns hns
  obtain ⟨_, its, rv, ⟨oc, od', dt, sl⟩, h1, h2, n, h3⟩ := (show ObjOk X.prog X.w H s.heap tp (.tup cs) from I.hok tp _ hT)
  obtain rfl := ClsV.all k rv
  simp only at h2 h3
  subst h2 h3
  exact PySem.W.kia_tup (err_kit T) I.kIn ⟨oe, od, ha, hz.1, by unfold PySem.W.notCls; rw [hv] <;> rfl, by rw [hz.2]; exact ho⟩ h1 e (fun z => nomatch z) fun tk => ⟨.bl b, H, I.tok tk, rfl, q⟩
end Mo

namespace Mo
open PySem PySem.Spec PyProof.Rows L2
theorem ints_dx {N : Addr → Prop} {H : Hp} : ∀ ns : List Int, DxAll N H (ns.map V.int) (ns.map PyData.int)
  | [] => .nil
  | n :: r => .cons (.int n) (ints_dx r)
theorem tupI_dx {H : Hp} {p : Addr} {ns : List Int} (h : H p = some (.tup (ns.map V.int))) : Dx (fun _ => False) H (.ref p) (.tuple (ns.map PyData.int)) := .tup h (fun z => z) (ints_dx ns)
theorem same_ne (x : V) : V.bl (!decide (x = x)) = V.bl false := by simp
theorem same_eq (x : V) : V.bl (decide (x = x)) = V.bl true := by simp
/-- two equal tuples of flat values are not unlike -/
theorem neFl_self {K : PySem.W.Frag} {H : Hp} {p r : Addr} {xs : List V} {Q : VK} (hp : H p = some (.tup xs)) (hr : H r = some (.tup xs)) (hf : xs.all flatV = true) (q : Q (.bl false) H) : rNeFl K (.ref p) (.ref r) H Q :=
  ⟨xs, xs, ⟨p, r, rfl, rfl, hf, hf, .inr ⟨SqT.of hp, SqT.of hr⟩⟩, by rw [eqLs_self hf]; exact q⟩
theorem eqFl_self {K : PySem.W.Frag} {H : Hp} {p r : Addr} {xs : List V} {Q : VK} (hp : H p = some (.tup xs)) (hr : H r = some (.tup xs)) (hf : xs.all flatV = true) (q : Q (.bl true) H) : rEqFl K (.ref p) (.ref r) H Q :=
  ⟨xs, xs, ⟨p, r, rfl, rfl, hf, hf, .inr ⟨SqT.of hp, SqT.of hr⟩⟩, by rw [eqLs_self hf]; exact q⟩
theorem cnt_abs {a b : Int} {N : Addr → Prop} {H : Hp} {i : Int} {e : PyData} (h : Dx N H (.int i) e) (hn : cntB a b e = false) (h1 : a ≤ i) (h2 : i ≤ b) : False := by
  cases h
  have z : (decide (a ≤ i) && decide (i ≤ b)) = false := hn
  rw [decide_eq_true h1, decide_eq_true h2] at z
  cases z
theorem cnt_out {a b i : Int} (h : i < a ∨ b < i) : cntB a b (.int i) = false := by
  show (decide (a ≤ i) && decide (i ≤ b)) = false
  rcases h with h | h
  · rw [decide_eq_false (show ¬ a ≤ i by omega)]
    rfl
  · rw [decide_eq_false (show ¬ i ≤ b by omega), Bool.and_false]
/-- where a dict d is and the tables, what the lambda leaves -/
theorem ext_at {H H' : Hp} (s : LamX.ExtN H H') {b : Addr} {o : HO} (h : H b = some o) (n : ∀ ps, o ≠ .tbl ps) : H' b = some o := s b o h n
end Mo

/-! ### texts among data of any kind -/
namespace Mo
open PySem PySem.Spec PyProof.Rows L2
theorem bulk_mem : ∀ {ds : List PyData} {d : PyData}, d ∈ ds → d.bulk ≤ PyData.bulkAll ds
  | x :: ds, d, h => by
    simp only [PyData.bulkAll]
    rcases List.mem_cons.mp h with rfl | h
    · omega
    · have := bulk_mem h
      omega
theorem bulk_len (a : List PyData) : a.length ≤ PyData.bulkAll a := by
  induction a with
  | nil => exact Nat.zero_le _
  | cons x a ih =>
    simp only [PyData.bulkAll, List.length_cons]
    omega
theorem tup_dx : ∀ {N : Addr → Prop} {H : Hp} {x : V} {d : PyData}, Dx N H x d → isTupD d = true → ∃ a xs ds, x = .ref a ∧ d = .tuple ds ∧ H a = some (.tup xs) ∧ ¬ N a ∧ DxAll N H xs ds := by
  intro N H x d h e
  cases h with
  | tup h n t => exact ⟨_, _, _, rfl, rfl, h, n, t⟩
  | _ => exact absurd (show false = true from e) (by decide)
theorem str_dx : ∀ {N : Addr → Prop} {H : Hp} {x : V} {d : PyData}, Dx N H x d → isStrD d = true → ∃ cs : List Nat, x = .str (tx cs) ∧ d = .str (tx cs) := by
  intro N H x d h e
  cases h with
  | str z => exact ⟨z.cps.toList, rfl, rfl⟩
  | _ => exact absurd (show false = true from e) (by decide)
theorem notTup {d : PyData} (h : isTupD d = false) : textD d = false := by
  cases d <;> first | rfl | exact absurd (show true = false from h) (by decide)
/-- check_text: nothing, or InvalidText with the very value -/
def spChkT (C : Addr) : Sp := fun vs H Q E => ∃ (N : Addr → Prop) (x : V) (d : PyData), vs = [x] ∧ Dx N H x d ∧ d.bulk ≤ 1000000 ∧ (textD d = true → ∀ H', Same H H' → Q .non H') ∧
  (textD d = false → ∀ dd H', H dd = none → Same H H' → H' dd = some (.xd [("value", x)]) → E (.ref C) (some dd) H')
theorem text_ints {ns : List Int} (h : ∀ n ∈ ns, 0 ≤ n ∧ n ≤ 999999) (hl : ns.length ≤ 4096) : textD (.tuple (ns.map PyData.int)) = true := by
  show (decide ((ns.map PyData.int).length ≤ 4096) && (ns.map PyData.int).all letterD) = true
  rw [decide_eq_true (by rw [List.length_map]; exact hl), Bool.true_and, List.all_eq_true]
  intro d hd
  obtain ⟨n, hn, rfl⟩ := List.mem_map.mp hd
  show (decide (0 ≤ n) && decide (n ≤ 999999)) = true
  rw [decide_eq_true (h n hn).1, decide_eq_true (h n hn).2]
  rfl
theorem bulk_ints (ns : List Int) : PyData.bulkAll (ns.map PyData.int) = ns.length := by
  induction ns with
  | nil => rfl
  | cons n r ih =>
    rw [List.map_cons]
    simp only [PyData.bulkAll, PyData.bulk, List.length_cons]
    omega
end Mo
namespace Mo
open PySem PySem.Spec PyProof.Rows L2
/-- an error of the class C with the field f, value x, is let out -/
def Errs (C : Addr) (f : Str) (x : V) (H : Hp) (E : XK) : Prop := ∀ dd H', H dd = none → Same H H' → H' dd = some (.xd [(f, x)]) → E (.ref C) (some dd) H'
theorem Errs.same {C : Addr} {f : Str} {x : V} {H H1 : Hp} {E : XK} (h : Errs C f x H E) (s : Same H H1) : Errs C f x H1 E := fun dd H' nd s2 hd => h dd H' (s.free nd) (s.trans s2) hd
end Mo
namespace Mo
open PySem PySem.Spec PyProof.Rows L2
/-- a method of a list within a try: the reading names K itself -/
theorem pe_appK {X : Cx} {K : PySem.W.Frag} {o e : Expr} {to : TE} {t : TA} {apos cpos : Pos} (hK : X.K = K) (ho : PE X o to) (ha : PA X [e] t)
    (hbase : attributeBase o "append" X.env (eval o X.env) = eval o X.env := by rfl) (hfew : ((backTo cpos (starEach [e] X.env)).all (fun x => !x.1) && (backToKw cpos (keywordEach [] X.env)).all (fun x => x.1.isSome) && decide (([e] : List Expr).length + ([] : List Keyword).length + (if ([] : List Keyword).isEmpty then 0 else 1) < 30)) = true := by rfl)
    (hline : (apos.endLine == cpos.line) = true := by rfl) (hs : starEach [e] X.env = (false, eval e X.env) :: starEach [] X.env := by rfl) (hplain : (backTo cpos (starEach [] X.env)).any (·.1) = false := by rfl) :
    PE X (.Call (.Attribute o "append" apos) [e] [] cpos) (tBM K "list" rAppend to t) := by
  subst hK
  exact pe_bm PySem.F.plainAttrs_list PySem.F.slot_list_append PySem.F.type_list_append mt_append ho ha hbase hfew hline hs hplain
end Mo

namespace Mo
open PySem PySem.Spec PyProof.Rows L2
theorem vals_app : ∀ {vs : List V} {us : List Value} {zs : List V} {ws : List Value}, Vals vs us → Vals zs ws → Vals (vs ++ zs) (us ++ ws)
  | _, _, _, _, .nil, h => h
  | _, _, _, _, .cons a r, h => .cons a (vals_app r h)
end Mo

/-! ### dicts of anything -/
namespace Mo
open PySem PySem.Spec PyProof.Rows L2
section
variable {X : Cx}
/-- a dict of anything == {} -/
def rEqNilD : R2 := fun x y H Q => ∃ a b ks, x = .ref a ∧ y = .ref b ∧ H a = some (.dK ks) ∧ H b = some (.dK []) ∧ Q (.bl ks.isEmpty) H
theorem op_eqNilD (hu : X.A.units + 64 < cLine) : OpR X (compareOp .Eq) rEqNilD := by
  intro pins s σ H x y v u Q I rx ry h
  obtain ⟨a, b, ks, rfl, rfl, ea, eb, q⟩ := h
  obtain rfl : v = Value.ref a := rx
  obtain rfl : u = Value.ref b := ry
  obtain ⟨_, ya, va, ra, da⟩ := (show ObjOk X.prog X.w H s.heap a (.dK ks) from I.hok a _ ea)
  obtain ⟨_, yb, vb, rb, db⟩ := (show ObjOk X.prog X.w H s.heap b (.dK []) from I.hok b _ eb)
  cases rb
  have ml := ra.length
  refine PySem.W.keq_eq (knd := mixKind X.prog X.w) (r := true) ya yb da db (by omega) (fun hl => ?_) (fin_bl I q ?_)
  · have e : va = [] := List.eq_nil_of_length_eq_zero hl
    subst e
    exact .nil
  · cases ks with
    | nil => simp at ml; simp [← ml]
    | cons k r => simp at ml; simp [← ml]
theorem op_neNilTK {K : PySem.W.Frag} (h : X.K = K) (hu : X.A.units + 64 < cLine) : OpR X (compareOp .NotEq) (rNeNilT K) := by
  subst h
  exact op_neNilT hu
/-- list(a text) -/
theorem cr_lstS (hc : X.calm = true) : CallR X (.type "list") (fun xs H Q => ∃ cs : List Nat, xs = [.str (tx cs)] ∧ cs.length ≤ 100000 ∧ ∀ p, H p = none → Q (.ref p) (upd H p (.lst (cs.map sg)))) := by
  intro pins s σ H xs us Q I r h
  obtain ⟨cs, rfl, hz, q⟩ := h
  obtain ⟨u, rfl, t, rfl⟩ := vals1 r
  refine call_list_str (I.ok.hd hc) (tx cs) t (fun h' tk acc c' hk hS hacc => ?_) (by rw [tx_size]; exact fits5 hz)
  have I2 := I.laid (t' := tk) (o := .lst (cs.map sg)) (h' := h') (a := s.heap.objs.size) hk (Nat.le_refl _) ⟨by rw [List.length_map]; exact fits5 hz, acc.toList, c', vals_signs cs acc.toList (by have := hacc.1; rw [tx_size] at this; simpa using this) (fun j v e => by
    obtain ⟨c, u, e1, e2⟩ := hacc.2 j v (by simpa using e)
    exact ⟨c, u, tx_get.symm.trans e1, e2⟩), by simpa using hS⟩
  exact ⟨.ref s.heap.objs.size, _, I2, rfl, q _ (I.hok.fresh (Nat.le_refl _))⟩
theorem pi_tupK {K : PySem.W.Frag} {tg l : Expr} {tl : TE} (h : X.K = K) (hl : PE X l tl) : PI X tg l (iTup K tl) := by
  subst h
  exact pi_tup hl
/-- the turns of a walk, whatever is done in one -/
theorem turns_it {J : It} {n : Nat} {G : Hp → Prop} {Y : Nat → Hp → V → Hp → Prop} (w : Walk J n G Y) {S : V → Hp → (Hp → Prop) → Prop} {H0 : Hp} {Qd : Hp → Prop} (Pv : Nat → Hp → Prop) (h0 : Pv 0 H0) (hG : ∀ i H, i ≤ n → Pv i H → G H)
    (hs : ∀ i x H H', i < n → Pv i H → Y i H x H' → S x H' (Pv (i + 1))) (hd : ∀ H, Pv n H → Qd H) :
    ∃ W : Nat → Nat → Hp → Prop, (∃ m, W 0 m H0) ∧ ∀ i m H, W i m H → (J.stop i H ∧ Qd H) ∨ (J.go i H ∧ ∃ Nx : Hp → Prop, (∀ H', Nx H' → ∃ m', m' < m ∧ W (i + 1) m' H') ∧ ∀ x H', J.yld i H x H' → S x H' Nx) := by
  refine ⟨fun i m H => m = n - i ∧ i ≤ n ∧ Pv i H, ⟨n, by simp, Nat.zero_le _, h0⟩, fun i m H z => ?_⟩
  obtain ⟨rfl, hi, p⟩ := z
  have g := hG i H hi p
  rcases Nat.lt_or_ge i n with lt | ge
  · exact .inr ⟨w.goes i H lt g, Pv (i + 1), fun H' p' => ⟨n - (i + 1), by omega, rfl, lt, p'⟩, fun x H' y => hs i x H H' lt p (w.yields i H x H' lt g y)⟩
  · obtain rfl : i = n := Nat.le_antisymm hi ge
    exact .inl ⟨w.stops H g, hd H p⟩
end
end Mo

namespace Mo
open PySem PySem.Spec PyProof.Rows L2
section
variable {X : Cx}
theorem sl_tupAK {K : PySem.W.Frag} (h : X.K = K) : SlR X (rSlA K) := by
  subst h
  exact sl_tupA
theorem op_eqFlK {K : PySem.W.Frag} (h : X.K = K) (hu : X.A.units + 64 < cLine) : OpR X (compareOp .Eq) (rEqFl K) := by
  subst h
  exact op_eqFl hu
theorem op_neFlK {K : PySem.W.Frag} (h : X.K = K) (hu : X.A.units + 64 < cLine) : OpR X (compareOp .NotEq) (rNeFl K) := by
  subst h
  exact op_neFl hu
end
theorem Same.sqT {K : PySem.W.Frag} {H H' : Hp} {p : Addr} {xs : List V} (s : Same H H') (h : SqT K H p xs) : SqT K H' p xs := by
  rcases h with (e | ⟨o, e⟩) | e
  · exact .inl (.inl (s _ _ e))
  · exact .inl (.inr ⟨o, s _ _ e⟩)
  · exact .inr e
theorem But.sqT {K : PySem.W.Frag} {d : Addr} {H H' : Hp} {p : Addr} {xs : List V} (s : But d H H') (n : p ≠ d) (h : SqT K H p xs) : SqT K H' p xs := by
  rcases h with (e | ⟨o, e⟩) | e
  · exact .inl (.inl (s _ _ n e))
  · exact .inl (.inr ⟨o, s _ _ n e⟩)
  · exact .inr e
end Mo

/-! ### == and != of an instance with an own __eq__, against anything -/
namespace Mo
open PySem PySem.Spec PyProof.Rows L2
/-- the type of what stands on the right -/
inductive TyO (H : Hp) : V → Value → Prop where
  | non : TyO H .non (.type "NoneType")
  | bl (b : Bool) : TyO H (.bl b) (.type "bool")
  | int (i : Int) : TyO H (.int i) (.type "int")
  | str (x : Str) : TyO H (.str x) (.type "str")
  | lst {a : Addr} {xs : List V} (e : H a = some (.lst xs)) : TyO H (.ref a) (.type "list")
  | tup {a : Addr} {xs : List V} (e : H a = some (.tup xs)) : TyO H (.ref a) (.type "tuple")
  | dK {a : Addr} {kvs : List (Key × V)} (e : H a = some (.dK kvs)) : TyO H (.ref a) (.type "dict")
  | ins {a C dx : Addr} {fs : List (Str × V)} (e : H a = some (.ins C dx fs)) : TyO H (.ref a) (.ref C)
theorem looks_at {M : Model} {h : Heap} {a : Addr} {o : Obj} (e : h.get? a = some o) : PySem.W.Looks M h (typeOf (.ref a)) o.cls := fun A Q E s k q => by
  simp only [typeOf]
  exact wpAny_bind (wpAny_load (k _ _ e) (wpAny_pure q))
section
variable {X : Cx} {pins : List (Addr × Obj)} {σ : L2.St} {H : Hp} {s : Shared}
theorem looks_tyO {M : Model} {y : V} {v tb : Value} (I : Inv X pins σ H s) (r : RelV y v) (ty : TyO H y tb) : PySem.W.Looks M s.heap (typeOf v) tb := by
  cases ty with
  | non => cases (show v = Value.none from r); exact .of_pure rfl
  | bl b => cases (show v = Value.bool b from r); exact .of_pure rfl
  | int i => obtain ⟨t, q⟩ := (show ∃ t, v = Value.int i t from r); cases q; exact .of_pure rfl
  | str x => obtain ⟨t, q⟩ := (show ∃ t, v = Value.str x t from r); cases q; exact .of_pure rfl
  | @lst a xs e =>
    cases (show v = Value.ref a from r)
    obtain ⟨z, its, n, r', hl, e'⟩ := I.lstM e
    exact looks_at e'
  | @tup a xs e =>
    cases (show v = Value.ref a from r)
    obtain ⟨its, r', ⟨o, e1, e2, _⟩, _⟩ := I.tuple (SqT.of e)
    exact e2 ▸ looks_at e1
  | @dK a kvs e =>
    cases (show v = Value.ref a from r)
    obtain ⟨_, _, vs, _, o, es, ep, e1, e2, _⟩ := (show ObjOk X.prog X.w H s.heap a (.dK kvs) from I.hok a _ e)
    exact e2.1 ▸ looks_at e1
  | @ins a C dx fs e =>
    cases (show v = Value.ref a from r)
    obtain ⟨mA, J, _⟩ := ins_get I.hok e
    obtain ⟨od, J, _⟩ := J.look
    exact J.type
/-- the call of a def with two values -/
theorem call_two {n : Nat} {f : Addr} {fd : FuncData} {ps : List Str} {sp : Sp} {A : Around} {x y : V} {u v : Value} {Q : VK} (F : FnOk X.prog X.w X.K X.mg X.base CX0 n f fd ps sp) (hb : Binds X.K fd ps []) (sb : Sub X n A) (I : Inv X pins σ H s) (rx : RelV x u) (ry : RelV y v)
    (h : sp [x, y] H Q fun _ _ _ => False) : wpAny (model X.prog X.w) A (call (.ref f) [u, v]) (EP X pins σ Q) X.xe s := by
  have env : Env0 X.prog X.w X.K X.mg X.base A X.stack s H := by
    have e := I.env0
    exact ⟨by rw [sb.fr]; exact e.frames, e.mod, e.bs, e.bsz, e.funs, e.frf, e.hok, e.bare⟩
  have vals : Vals [x, y] [u, v] := .cons rx (.cons ry .nil)
  have hl := F.len _ _ _ _ h
  have bind := hb s [u, v] I.kIn (by simpa using hl)
  refine wpAny_call (codeAny_mono (F.run A X.stack s H ⟨[u, v], []⟩ [u, v] [x, y] Q (fun _ _ _ => False) sb.room env (by simpa using bind) vals h) fun r s' hq => ?_)
  cases r with
  | error e => exact pass0 pins σ H s e s' I hq
  | ok fl => cases fl <;> first | exact I.after hq | exact hq.elim
/-- x == y where x's class has a def for it: what the def says -/
def rEqO (K : PySem.W.Frag) (C : Addr) (sp : Sp) : R2 := fun x y H Q => ∃ (a dx : Addr) (fs : List (Str × V)) (tb : Value), x = .ref a ∧ H a = some (.ins C dx fs) ∧ TyO H y tb ∧ PySem.W.notFirst K C tb = true ∧ sp [x, y] H (fun v H' => ∃ b, v = .bl b ∧ Q (.bl b) H') fun _ _ _ => False
theorem op_eqO {n : Nat} {f C : Addr} {fd : FuncData} {ps : List Str} {sp : Sp} (F : FnOk X.prog X.w X.K X.mg X.base CX0 n f fd ps sp) (hs : PySem.W.findIn X.K (.ref C) "__eq__" = some (some (.ref f))) (hf : PySem.W.isFn X.K (.ref f) = true) (hb : Binds X.K fd ps []) (hr : Room n X.A) :
    OpR X (compareOp .Eq) (rEqO X.K C sp) := by
  intro pins s σ H x y u v Q I rx ry h
  obtain ⟨a, dx, fs, tb, rfl, ha, ty, hn, h⟩ := h
  cases (show u = Value.ref a from rx)
  obtain ⟨mA, J, _⟩ := ins_get I.hok ha
  obtain ⟨od, J, _⟩ := J.look
  obtain ⟨m, hF⟩ := I.fr
  refine PySem.W.cmp_K (op := .Eq) (tb := tb) hr.units0 hF I.ok.mod.kin J (looks_tyO I ry ty) hn hs hf ?_
  refine wpAny_mono (call_two F hb ⟨hr, rfl⟩ I (show RelV (.ref a) (.ref a) from rfl) ry h) (fun r s' q => ?_) fun _ _ e => e
  obtain ⟨z, H', I', rz, b, rfl, q⟩ := q
  cases (show r = Value.bool b from rz)
  exact ⟨.bl b, H', I', rfl, q⟩
theorem bind_ne (z : Value) : bindSpecial (.builtin "object.__ne__") z = pure (.builtin "object.__ne__", [z]) := PySem.F.slot_enumerate_ne.bind z
/-- the special method of an instance that is a builtin -/
theorem special_b {K : PySem.W.Frag} {M : Model} {A : Around} {E : Value → Shared → Prop} {t : Shared} {a C : Addr} {ox : Obj} {od : Option Obj} {name : Str} {id : String} {rest : List Value} {R : Option Value → Shared → Prop}
    (kin : K.In t.heap) (J : PySem.W.InstAt t.heap a ox C od) (look : PySem.W.findIn K (.ref C) name = some (some (.builtin id))) (bnd : ∀ z, bindSpecial (.builtin id) z = pure (.builtin id, [z]))
    (go : wpAny M A (call (.builtin id) (.ref a :: rest)) (fun r => R (some r)) E t) : wpAny M A (callSpecialIfBound? (.ref a) name rest) R E t := by
  have last : wpAny M A (do let r ← call (.builtin id) ([.ref a] ++ rest); pure (some r)) R E t := wpAny_bind (wpAny_mono go (fun _ _ y => wpAny_pure y) fun _ _ y => y)
  unfold callSpecialIfBound? bindSpecialIfBound?
  apply wpAny_holding
  apply wpAny_bind
  apply wpAny_bind
  apply wpAny_bind
  apply J.type.here
  apply (PySem.W.looks_findIn kin look).here
  simp only [bnd]
  apply wpAny_bind
  apply wpAny_askSetting
  apply wpAny_ite
  split
  · exact wpAny_bind (wpAny_pure (wpAny_pure last))
  · exact wpAny_tryCatch (wpAny_bind (wpAny_pure (wpAny_pure last)))
def rNeO (K : PySem.W.Frag) (C : Addr) (sp : Sp) : R2 := fun x y H Q => ∃ (a dx : Addr) (fs : List (Str × V)) (tb : Value), x = .ref a ∧ H a = some (.ins C dx fs) ∧ TyO H y tb ∧ PySem.W.notFirst K C tb = true ∧ sp [x, y] H (fun v H' => ∃ b, v = .bl b ∧ Q (.bl (!b)) H') fun _ _ _ => False
theorem op_neO {n : Nat} {f C : Addr} {fd : FuncData} {ps : List Str} {sp : Sp} (F : FnOk X.prog X.w X.K X.mg X.base CX0 n f fd ps sp) (hs : PySem.W.findIn X.K (.ref C) "__eq__" = some (some (.ref f))) (hf : PySem.W.isFn X.K (.ref f) = true) (hb : Binds X.K fd ps [])
    (hne : PySem.W.findIn X.K (.ref C) "__ne__" = some (some (.builtin "object.__ne__"))) (ho : PySem.W.subIn X.K (.ref C) (.type "object") = some true) (hr : Room (n + 1) X.A) :
    OpR X (compareOp .NotEq) (rNeO X.K C sp) := by
  intro pins s σ H x y u v Q I rx ry h
  obtain ⟨a, dx, fs, tb, rfl, ha, ty, hn, h⟩ := h
  cases (show u = Value.ref a from rx)
  obtain ⟨mA, J, _⟩ := ins_get I.hok ha
  obtain ⟨od, J, _⟩ := J.look
  have inst : PySem.W.Looks (model X.prog X.w) s.heap (isInstance (.ref a) (.type "object")) true := J.type.andThen (PySem.W.looks_subIn I.kIn ho)
  have eqs : wpAny (model X.prog X.w) X.A.in1 (callSpecialIfBound? (.ref a) "__eq__" [v]) (fun r s' => ∃ b, r = some (.bool b) ∧ EP X pins σ Q (.bool (!b)) s') X.xe s := by
    refine PySem.W.ifBound_K I.kIn J hs hf ?_
    refine wpAny_mono (call_two F hb ⟨hr.in1, rfl⟩ I (show RelV (.ref a) (.ref a) from rfl) ry h) (fun r s' q => ?_) fun _ _ e => e
    obtain ⟨z, H', I', rz, b, rfl, q⟩ := q
    cases (show r = Value.bool b from rz)
    exact ⟨b, rfl, .bl (!b), H', I', rfl, q⟩
  have nes : wpAny (model X.prog X.w) X.A (call (.builtin "object.__ne__") [.ref a, v]) (fun r s' => ∃ b, r = .bool b ∧ EP X pins σ Q (.bool b) s') X.xe s := by
    refine wpAny_call (codeAny_call_builtin (by decide +kernel) PySem.F.cmpEntry_ne (PySem.W.check_slot PySem.F.cmpKind_ne PySem.F.cmpSplit_ne inst (PySem.F.cmpArgs_ne _ _) ?_))
    have hu : X.A.in1.units < cLine := hr.in1.units0
    unfold Builtin.«object.__ne__»
    repeat (first
      | with_reducible refine wpAny_cRoomFor hu ?_
      | (refine wpAny_bind (m := callSpecialIfBound? (.ref a) (Str.ofString "__eq__") [v]) (wpAny_mono eqs (fun r s' q => ?_) fun _ _ e => e))
      | wp_step)
    obtain ⟨b, rfl, q⟩ := q
    show wpAny _ _ (do let z ← truthy (Value.bool b); ret (Value.bool (!z))) _ _ _
    exact wpAny_bind (wpAny_truthy_bool (wpAny_pure ⟨!b, rfl, q⟩))
  have cmp : wpAny (model X.prog X.w) X.A (tryCompare (.ref a) "__ne__" v) (fun r s' => ∃ z, r = some z ∧ EP X pins σ Q z s') X.xe s := by
    unfold tryCompare
    apply wpAny_bind
    refine special_b I.kIn J hne bind_ne (wpAny_mono nes (fun r s' q => ?_) fun _ _ e => e)
    obtain ⟨b, rfl, q⟩ := q
    exact wpAny_pure ⟨_, rfl, q⟩
  show wpAny (model X.prog X.w) X.A (richCompare .NotEq (.ref a) v) (EP X pins σ Q) X.xe s
  unfold richCompare
  simp only [oneThing_ref]
  apply wpAny_holding
  apply wpAny_bind
  apply wpAny_cRoomFor hr.units0
  apply wpAny_bind
  apply J.type.here
  apply wpAny_bind
  apply (looks_tyO I ry ty).here
  by_cases z : (Value.ref C != tb) = true
  · rw [if_pos z]
    have e : PySem.W.subIn X.K tb (.ref C) = some false := by
      rcases Bool.or_eq_true_iff.mp hn with e | e
      · rw [beq_iff_eq.mp e, bne_self_eq_false] at z
        cases z
      · exact beq_iff_eq.mp e
    apply wpAny_bind
    apply (PySem.W.looks_subIn I.kIn e).here
    rw [if_neg Bool.false_ne_true]
    refine wpAny_bind (wpAny_mono cmp (fun r s' q => ?_) fun _ _ e => e)
    obtain ⟨y, rfl, q⟩ := q
    exact wpAny_pure q
  · rw [if_neg z]
    refine wpAny_bind (wpAny_pure ?_)
    rw [if_neg Bool.false_ne_true]
    refine wpAny_bind (wpAny_mono cmp (fun r s' q => ?_) fun _ _ e => e)
    obtain ⟨y, rfl, q⟩ := q
    exact wpAny_pure q
end
end Mo

/-! ### the same over K: for use within a comprehension -/
namespace Mo
open PySem PySem.Spec PyProof.Rows L2
section
variable {X : Cx}
theorem op_eqOK {K : PySem.W.Frag} (hK : X.K = K) {n : Nat} {f C : Addr} {fd : FuncData} {ps : List Str} {sp : Sp} (F : FnOk X.prog X.w K X.mg X.base CX0 n f fd ps sp) (hs : PySem.W.findIn K (.ref C) "__eq__" = some (some (.ref f))) (hf : PySem.W.isFn K (.ref f) = true) (hb : Binds K fd ps []) (hr : Room n X.A) :
    OpR X (compareOp .Eq) (rEqO K C sp) := by
  subst hK
  exact op_eqO F hs hf hb hr
theorem op_neOK {K : PySem.W.Frag} (hK : X.K = K) {n : Nat} {f C : Addr} {fd : FuncData} {ps : List Str} {sp : Sp} (F : FnOk X.prog X.w K X.mg X.base CX0 n f fd ps sp) (hs : PySem.W.findIn K (.ref C) "__eq__" = some (some (.ref f))) (hf : PySem.W.isFn K (.ref f) = true) (hb : Binds K fd ps [])
    (hne : PySem.W.findIn K (.ref C) "__ne__" = some (some (.builtin "object.__ne__"))) (ho : PySem.W.subIn K (.ref C) (.type "object") = some true) (hr : Room (n + 1) X.A) :
    OpR X (compareOp .NotEq) (rNeO K C sp) := by
  subst hK
  exact op_neO F hs hf hb hne ho hr
end
end Mo

/-! ### an error of several classes that is kept behind its except suite -/
namespace Mo
open PySem PySem.Spec PyProof.Rows L2
/-- a new tuple -/
abbrev tupO (us : List Value) : Obj := { cls := .type "tuple", data := .seq us.toArray }
/-- what stands behind 'except': it is a new tuple of these classes -/
structure TestT (X : Cx) (te : Expr) (us : List Value) : Prop where
  test : ∀ (a : Addr) (oe : Obj) (pn : List (Addr × Obj)) {σ : L2.St} {H : Hp} {s : Shared} {Q : Value → Shared → Prop} {E : Value → Shared → Prop}, Inv (X.suite a ((a, oe) :: pn)) [] σ H s → Q (.ref s.heap.objs.size) { s with heap := s.heap.push (tupO us) } →
    wpAny (model X.prog X.w) (X.A.mark (some (.ref a))) (eval te X.env) Q E s
  fits : ∀ {M : Model} {h : Heap} {tp e : Addr} {cls : Value} {b : Bool}, X.K.In h → PySem.W.Looks M h (typeOf (.ref e)) cls → h.get? tp = some (tupO us) → PySem.W.exmAny X.K cls us = some b → PySem.W.Looks M h (excMatches (.ref e) (.ref tp)) b
theorem frames_kept {base h h' : Heap} (k : ∀ b o, h.get? b = some o → h'.get? b = some o) : ∀ {l : List Env}, h.FunFrames base l → h'.FunFrames base l
  | [], _ => True.intro
  | _ :: _, ⟨hk, ⟨L, o, hf, hb, ho, hd⟩, hr⟩ => ⟨hk, ⟨L, o, hf, hb, k _ _ ho, hd⟩, frames_kept k hr⟩
theorem flying_kept {base h h' : Heap} {l : List Env} {e : Addr} {Z : Obj → Prop} (k : ∀ b o, h.get? b = some o → h'.get? b = some o) (f : HandSPX.FlyingZ base l e Z h) : HandSPX.FlyingZ base l e Z h' := by
  obtain ⟨f1, f2, f3, oe, vs, T, oT, ts, h1, h2, h3, h4, h5, h6, h7, h8, h9⟩ := f
  exact ⟨fun b o q => k b o (f1 b o q), f2, frames_kept k f3, oe, vs, T, oT, ts, k _ _ h1, h2, h3, h4, h5, h6, k _ _ h7, h8, h9⟩
theorem ld_names {Y : Cx} {pins : List (Addr × Obj)} {σ : L2.St} {H : Hp} {s : Shared} {x : Str} {c : Value} {p : Pos} {Q : Value → Shared → Prop} {E : Value → Shared → Prop} (I : Inv Y pins σ H s) (hc : Names Y x c) (q : Q c s) : wpAny (model Y.prog Y.w) Y.A (eval (.Name x p) Y.env) Q E s := by
  rcases hc with ⟨hg, hdbg, hm | ⟨hm, hv, hnn⟩⟩
  · exact ld_glob I hg hm q hdbg
  · exact ld_blt I hg hm hv q hnn hdbg
theorem testT3 {X : Cx} {x1 x2 x3 : Str} {c1 c2 c3 : Value} {p1 p2 p3 pos : Pos} {k : Nat} (h1 : Names X x1 c1) (h2 : Names X x2 c2) (h3 : Names X x3 c3) : TestT X (.Tuple [.Name x1 p1, .Name x2 p2, .Name x3 p3] k pos) [c1, c2, c3] where
  test a oe pn _ _ _ _ _ S q := Tuple_ (spliced_more (ld_names S h1 (spliced_more (ld_names S h2 (spliced_more (ld_names S h3 (spliced_none (wpAny_newObj_type q))))))))
  fits K LT hp hb := PySem.W.exm_tup3 K LT hp hb
theorem testT4 {X : Cx} {x1 x2 x3 x4 : Str} {c1 c2 c3 c4 : Value} {p1 p2 p3 p4 pos : Pos} {k : Nat} (h1 : Names X x1 c1) (h2 : Names X x2 c2) (h3 : Names X x3 c3) (h4 : Names X x4 c4) : TestT X (.Tuple [.Name x1 p1, .Name x2 p2, .Name x3 p3, .Name x4 p4] k pos) [c1, c2, c3, c4] where
  test a oe pn _ _ _ _ _ S q := Tuple_ (spliced_more (ld_names S h1 (spliced_more (ld_names S h2 (spliced_more (ld_names S h3 (spliced_more (ld_names S h4 (spliced_none (wpAny_newObj_type q))))))))))
  fits K LT hp hb := PySem.W.exm_tup4 K LT hp hb
/-- what 'except (x, ..) as n: kept = n' wishes of an error of the body: n in slot i, kept in slot j; behind it the error is tracked -/
def wKeepT (K : PySem.W.Frag) (us : List Value) (i j : Nat) (Wout : WX) (D : Ends) : WX := fun cls d σ H =>
  ∃ b, PySem.W.exmAny K cls us = some b ∧ (b = true → ∀ a, H a = none → D.nx (((σ.set i (some (.ref a))).set j (some (.ref a))).set i none) (upd H a (exV a cls d))) ∧ (b = false → Wout cls d σ H)
section
variable {X : Cx} {n kx : Str} {us : List Value} {te : Expr} {i j : Nat} {body : List Stmt} {np2 kp ap pos pos' : Pos} {tb : WX → TS} {Wout : WX}
theorem ps_try_keepT (hs : X.stack = X.env :: X.outer) (hf : X.env.frame = some X.env.locals) (hN : X.N.Nodup) (hi : X.N[i]? = some n) (hj : X.N[j]? = some kx) (hln : X.env.kindOf n = some .local) (hlk : X.env.kindOf kx = some .local) (hc : TestT X te us) (tk : Takes X Wout)
    (hb : ∀ (W : WX) (pn : List (Addr × Obj)) (xe : Value → Shared → Prop), Takes (X.tr pn xe) W → PassesOwn (model X.prog X.w) X.A X.env xe → PSs (X.tr pn xe) body (tb W))
    (hsu : ∀ (a : Addr) (oe : Obj) (pn : List (Addr × Obj)), PSs (X.suite a ((a, oe) :: pn)) [.Assign [.Name kx kp] (.Name n np2) ap] (tAsg (tVar i) (gName j))) :
    PS X (.Try body [.ExceptHandler (some te) (some n) [.Assign [.Name kx kp] (.Name n np2) ap] pos'] [] [] pos) (fun D σ H => tb (wKeepT X.K us i j Wout D) D σ H) := by
  refine ⟨fun pins s σ H D I h => ?_⟩
  have ok := I.ok
  have hfr : X.A.frames = some (X.env :: X.outer) := ok.frames.trans (by rw [hs])
  refine wpAny_Try_except (wpAny_mono ((hb (wKeepT X.K us i j Wout D) (X.pn ++ pins) (fun e s₁ => wpAny (model X.prog X.w) X.A (noteFrame e X.env) (fun _ s₂ => wpAny (model X.prog X.w) X.A (setFlight e none) (fun _ s₃ =>
    wpAny (model X.prog X.w) X.A (handleBy e X.env [.ExceptHandler (some te) (some n) [.Assign [.Name kx kp] (.Name n np2) ap] pos']) (SP X pins D) X.xe s₃) X.xe s₂) X.xe s₁) (fun u s' xx => ?_) PassesOwn.looking).run [] s σ H D (I.toTry _) h) (fun f s1 hsp => ?_) (fun e s1 he => he))
  · obtain ⟨a, B, sI, pins', σ', H', cls, d, rfl, J', nb, up, sky, na, os, ag, b, hb1, hyes, hno⟩ := xx
    have J : Inv X pins σ' H' sI := J'.ofTry ok
    have sky' : Sky B (X.env :: X.outer) a (Zc cls d) X.env.locals s'.heap := hs ▸ sky
    show wpAny (model X.prog X.w) X.A (noteFrame (.ref a) X.env) _ _ _
    refine Sky.land Zc.steady hfr hf sky' fun h3 fl3 up3 => ?_
    have J3 : Inv X pins σ' H' { s' with heap := h3 } := J.landed nb fl3.1 (up.trans up3) os ag
    obtain ⟨oe3, vs3, he3, hz3, hd3⟩ := fl3.there
    have nfr : a ∉ frs (X.env :: X.outer) := fun hm => by
      obtain ⟨_, o', e', hnf⟩ := fl3.2.2.1.mem hm
      rw [he3] at e'
      cases e'
      exact hnf _ hd3
    have nL : a ≠ X.env.locals := fun z => nfr (List.mem_filterMap.mpr ⟨X.env, List.mem_cons_self, hf.trans (congrArg some z.symm)⟩)
    have nF : a ∉ X.fs := fun hm => by
      obtain ⟨e, he, q⟩ := List.mem_filterMap.mp hm
      exact nfr (List.mem_filterMap.mpr ⟨e, List.mem_cons_of_mem _ he, q⟩)
    have nB : B.get? a = none := fl3.2.1
    have nI : sI.heap.get? a = none := by
      cases q : sI.heap.get? a with
      | none => rfl
      | some o =>
        have z := nb a o q (by show a ∉ frs X.stack; rw [hs]; exact nfr)
        rw [nB] at z
        cases z
    have n0 : ∀ u, X.s_0.heap.get? a = some u → a ∈ X.ex := fun u q => by
      by_cases hx : a ∈ X.ex
      · exact hx
      · obtain ⟨o', z⟩ := J.base.there a u q hx
        rw [nI] at z
        cases z
    have npp : ∀ p ∈ X.pn ++ pins, p.1 ≠ a := fun p hp z => by
      have q := (J.pin p hp).1
      rw [z, nI] at q
      cases q
    have S3 := J3.suite he3 hd3 na nL nF
    refine wpAny_handleBy_cons (codeAny_handlers_test ?_) (by intro q; cases q)
    refine hc.test a oe3 (X.pn ++ pins) S3 ?_
    have up5 : s'.heap.UpToSlots (h3.push (tupO us)) := up3.trans (Heap.UpToSlots.of_keeps fun b o e => Heap.get?_push_of_some _ e)
    have fl5 := flying_kept (h' := h3.push (tupO us)) (fun b o e => Heap.get?_push_of_some _ e) fl3
    have J5 : Inv X pins σ' H' { s' with heap := h3.push (tupO us) } := J3.kept (t' := s'.toks) fun b o e => Heap.get?_push_of_some _ e
    have he5 : (h3.push (tupO us)).get? a = some oe3 := Heap.get?_push_of_some _ he3
    have LT : PySem.W.Looks (model X.prog X.w) (h3.push (tupO us)) (typeOf (.ref a)) cls := fun A Q E s k q => wpAny_typeOf_ref (k _ _ he5) (hz3.1 ▸ q)
    have LM := hc.fits (M := model X.prog X.w) J5.kIn LT (Heap.get?_push_size _ rfl) hb1
    refine LM.here ?_
    cases b with
    | true =>
      refine codeAny_handlers_suite_as (HandSPX.lands_againZ fl5 fun h4 fl4 up4 => ?_)
      have J4 : Inv X pins σ' H' { s' with heap := h4 } := J.landed nb fl4.1 ((up.trans up5).trans up4) os ag
      obtain ⟨oe4, vs4, he4, hz4, hd4⟩ := fl4.there
      refine store_ok (X := X.suite a ((a, oe4) :: (X.pn ++ pins))) (v := .ref a) (J4.suite he4 hd4 na nL nF) hN hi (.inl hln) rfl (fun s5 S5 => ?_) (.inr hln)
      have lenσ : i < σ'.length := by
        rw [J.len]
        exact (List.getElem?_eq_some_iff.mp hi).1
      have want : tAsg (tVar i) (gName j) { nx := fun σ6 H6 => σ6 = (σ'.set i (some (.ref a))).set j (some (.ref a)) ∧ H6 = H', rt := fun _ _ => False, bk := fun _ _ => False, ct := fun _ _ => False } (σ'.set i (some (.ref a))) H' :=
        ⟨.ref a, by rw [List.getElem?_set_self lenσ], rfl, rfl⟩
      refine wpAny_mono ((hsu a oe4 (X.pn ++ pins)).run [] s5 _ H' _ S5 want) (fun f s6 hsp => ?_) (fun _ _ z => False.elim z)
      cases f with
      | next =>
        obtain ⟨σ6, H6, S6, rfl, rfl⟩ := hsp
        obtain ⟨he6, _⟩ := S6.pin (a, oe4) (List.mem_append_left _ List.mem_cons_self)
        have J6 : Inv X pins _ H6 s6 := S6.unsuite ok
        have J7 := track J6 he6 hd4 na nL n0 npp (exV_ok he6 hz4 hd4)
        exact gone_ok J7 hN hi hln fun s7 J8 => ⟨_, _, J8, hyes rfl a na⟩
      | brk => exact hsp.elim fun _ z => z.elim fun _ z => z.2.elim
      | cont => exact hsp.elim fun _ z => z.elim fun _ z => z.2.elim
      | ret u => exact hsp.elim fun _ z => z.elim fun _ z => z.elim fun _ z => z.2.2.elim
    | false =>
      show wpAny _ X.A (handleBy (.ref a) X.env []) _ _ _
      refine wpAny_handleBy_nil ?_
      obtain ⟨k1, k2, k3, oe, vs, T, oT, ts', he, hz, hd, h1, hr⟩ := id fl5
      unfold PySem.passOn
      refine wpAny_bind (wpAny_field he hd h1 ?_)
      rw [if_neg (show ¬ ((Value.ref T == Value.none) = true) from by simp)]
      have fin : wpAny (model X.prog X.w) X.A (setFlight (.ref a) X.env.frame) (fun _ s4 => wpAny (model X.prog X.w) X.A (throw (.ref a) : Sem Flow) (SP X pins D) X.xe s4) X.xe { s' with heap := h3.push (tupO us) } := by
        rw [hf]
        refine HandSPX.setFlight_upZ fl5 fun h4 hh4 up4 => wpAny_throw (tk _ _ ⟨a, B, sI, pins, σ', H', cls, d, rfl, J, nb, (up.trans up5).trans up4, .inr (.inr (hs ▸ hh4)), na, os, ag, hno rfl⟩)
      first
        | exact wpAny_bind (wpAny_pure (wpAny_bind fin))
        | exact wpAny_bind fin
  · cases f with
    | next => exact hsp.elim fun σ1 z => z.elim fun H1 z => wpAny_execs_nil ⟨σ1, H1, z.1.ofTry ok, z.2⟩
    | brk => exact hsp.elim fun σ1 z => z.elim fun H1 z => ⟨σ1, H1, z.1.ofTry ok, z.2⟩
    | cont => exact hsp.elim fun σ1 z => z.elim fun H1 z => ⟨σ1, H1, z.1.ofTry ok, z.2⟩
    | ret u => exact hsp.elim fun v z => z.elim fun σ1 z => z.elim fun H1 z => ⟨v, σ1, H1, z.1.ofTry ok, z.2⟩
end
end Mo

/-! ### lists of truth values: count, index; statements that are never reached -/
namespace Mo
open PySem PySem.Spec PyProof.Rows L2
theorem room65 {k : Nat} {A : Around} (r : Room k A) : A.units + 65 < cLine := by have := r.un; omega
theorem pss_never {X : Cx} {b : List Stmt} : PSs X b (fun _ _ _ => False) := ⟨fun _ _ _ _ _ _ h => h.elim⟩
def rCountB (K : PySem.W.Frag) : V → List V → Hp → VK → Prop := fun x xs H Q => ∃ (p : Addr) (bs : List Bool) (b : Bool), x = .ref p ∧ xs = [.bl b] ∧ SqL K H p (bs.map V.bl) ∧ Q (.int (bs.count b : Nat)) H
def rIndexB (K : PySem.W.Frag) : V → List V → Hp → VK → Prop := fun x xs H Q => ∃ (p : Addr) (bs : List Bool) (b : Bool) (j : Nat), x = .ref p ∧ xs = [.bl b] ∧ SqL K H p (bs.map V.bl) ∧ bs[j]? = some b ∧ (∀ m, m < j → bs[m]? = some (!b)) ∧ Q (.int (j : Nat)) H
theorem bools_dp {K : PySem.W.Frag} {H : Hp} : ∀ bs : List Bool, DpAll K H (bs.map V.bl) (bs.map PyData.bool)
  | [] => .nil
  | b :: r => .cons (.bl b) (bools_dp r)
theorem bools_plain : ∀ bs : List Bool, PyData.plainAll (bs.map PyData.bool) = true
  | [] => by simp [PyData.plainAll]
  | b :: r => by simp [PyData.plainAll, PyData.plain, bools_plain r]
theorem eqv_bools (a b : Bool) : PyData.eqv (.bool a) (.bool b) = (a == b) := by cases a <;> cases b <;> rfl
theorem bools_count (b : Bool) : ∀ bs : List Bool, (bs.map PyData.bool).countP (fun y => PyData.eqv y (.bool b)) = bs.count b
  | [] => rfl
  | a :: r => by
    rw [List.map_cons, List.countP_cons, bools_count b r, eqv_bools, List.count_cons]
section
variable {X : Cx}
theorem mt_countB (hu : X.A.units + 64 < cLine) : MtR X "list.count" (rCountB X.K) := by
  intro pins s σ H x xs v us Q I rx rxs h
  obtain ⟨p, bs, b, rfl, rfl, hs, q⟩ := h
  cases rx
  obtain ⟨u, rfl, ru⟩ := rxs.one
  obtain ⟨as1, r1⟩ := Dp.reads I (.bool b) (.bl b) u (.bl b) ru
  obtain ⟨its, rv, ⟨⟨cls, dd, data, sl⟩, n, ho, hc, hdn, hd⟩, hlen⟩ := I.list hs
  simp only at hc hd
  subst hc hd
  obtain ⟨as, r2⟩ := Dp.readsAll I (bs.map PyData.bool) (bs.map V.bl) its (bools_dp bs) rv
  refine PySem.SeqAt.count_list_data (vs := its.toArray) ⟨_, ho, rfl, n, rfl⟩ (show ReadsAll s.heap its.toArray.toList _ as from r2) r1 (bools_plain bs) rfl ?_ ?_
  · have : min (PyData.depthAll (bs.map PyData.bool)) (PyData.bool b).depth ≤ (PyData.bool b).depth := Nat.min_le_right _ _
    have : (PyData.bool b).depth ≤ 1 := by simp [PyData.depth]
    omega
  · rw [bools_count]
    exact ⟨.int (bs.count b : Nat), H, I.tok _, ⟨_, rfl⟩, q⟩
theorem mt_indexB (hu : X.A.units + 65 < cLine) : MtR X "list.index" (rIndexB X.K) := by
  intro pins s σ H x xs v us Q I rx rxs h
  obtain ⟨p, bs, b, j, rfl, rfl, hs, hj, hno, q⟩ := h
  refine mt_indexD hu pins s σ H _ _ v us Q I rx rxs ⟨p, .bl b, .bool b, bs.map PyData.bool, j, .bool b, rfl, rfl, .lst hs (bools_dp bs), .bl b, ?_, rfl, by rw [List.getElem?_map, hj]; rfl, by rw [eqv_bools]; simp, fun m z' hm hz => ?_, q⟩
  · have lay : ∀ l : List Bool, PyData.canLayAll0 (l.map PyData.bool) = true := fun l => by
      induction l with
      | nil => simp [PyData.canLayAll0]
      | cons a r ih => simp [PyData.canLayAll0, PyData.canLay0, ih]
    have dep : ∀ l : List Bool, PyData.depthAll (l.map PyData.bool) ≤ 1 := fun l => by
      induction l with
      | nil => simp [PyData.depthAll]
      | cons a r ih => simp [PyData.depthAll, PyData.depth]; omega
    have := dep bs
    show ((PyData.list (bs.map PyData.bool)).canLay0 && decide ((PyData.list (bs.map PyData.bool)).depth ≤ 64)) = true
    simp [PyData.canLay0, PyData.depth, lay bs]
    omega
  · rw [List.getElem?_map, hno m hm] at hz
    cases hz
    rw [eqv_bools]
    cases b <;> rfl
theorem pe_callG0 {X : Cx} {CX : CXT} {k : Nat} {f : Addr} {fd : FuncData} {ps : List Str} {sp : Sp} {ds : List Value} {dvs : List V} {E : XK} {x : Str} {p pos : Pos} (F : FnG X.prog X.w X.K X.mg X.base CX k f fd ps sp) (hr : Room k X.A) (hu : X.A.guards = some []) (hg : Gl X x) (hm : X.mg x = some (.ref f)) (hk : PySem.W.keepIn X.K (.ref f) = true)
    (hb : Binds X.K fd ps ds) (hd : Vals dvs ds) (hx : Passes CX X E) (hdb : (x == ("__debug__" : Str)) = false := by decide) : PE X (.Call (.Name x p) [] [] pos) (tCall sp dvs E tNil) :=
  ⟨fun pins s σ H Q I h => wpAny_Call_Name_kw (ld_glob I hg hm (PySem.W.callWith_K0 I.kIn hk (run_G (us := []) F hr hu hb hd hx I .nil h)) hdb)⟩
end
end Mo

namespace Mo
open PySem PySem.Spec PyProof.Rows L2
def topS (i : Nat) : Stmt := PySem.Challenge.pw_mustoccur_k68_whole_avoiding_rules.main.body.getD i (.Pass ⟨0, 0, 0, 0⟩)
abbrev sIsPlainInteger : Stmt := topS 9
theorem scIsPlainInteger : FnScope ["value"] ["value"] (defScope sIsPlainInteger) := ⟨rfl, rfl, rfl, by decide +kernel, rfl, by decide +kernel, by decide +kernel⟩
abbrev sIsLetter : Stmt := topS 10
theorem scIsLetter : FnScope ["value"] ["value"] (defScope sIsLetter) := ⟨rfl, rfl, rfl, by decide +kernel, rfl, by decide +kernel, by decide +kernel⟩
abbrev sIsText : Stmt := topS 11
theorem scIsText : FnScope ["value", "letter"] ["value"] (defScope sIsText) := ⟨rfl, rfl, rfl, by decide +kernel, rfl, by decide +kernel, by decide +kernel⟩
abbrev sCheckText : Stmt := topS 12
theorem scCheckText : FnScope ["value"] ["value"] (defScope sCheckText) := ⟨rfl, rfl, rfl, by decide +kernel, rfl, by decide +kernel, by decide +kernel⟩
abbrev sCheckCount : Stmt := topS 13
theorem scCheckCount : FnScope ["value", "least", "most"] ["value", "least", "most"] (defScope sCheckCount) := ⟨rfl, rfl, rfl, by decide +kernel, rfl, by decide +kernel, by decide +kernel⟩
abbrev sIsPrime : Stmt := topS 16
theorem scIsPrime : FnScope ["number", "divisor"] ["number"] (defScope sIsPrime) := ⟨rfl, rfl, rfl, by decide +kernel, rfl, by decide +kernel, by decide +kernel⟩
abbrev sModulus : Stmt := topS 17
theorem scModulus : FnScope ["count", "number"] ["count"] (defScope sModulus) := ⟨rfl, rfl, rfl, by decide +kernel, rfl, by decide +kernel, by decide +kernel⟩
abbrev sLetterWithin : Stmt := topS 18
theorem scLetterWithin : FnScope ["size", "letter", "index"] ["size", "letter", "index"] (defScope sLetterWithin) := ⟨rfl, rfl, rfl, by decide +kernel, rfl, by decide +kernel, by decide +kernel⟩
abbrev sLetterBlock : Stmt := topS 19
theorem scLetterBlock : FnScope ["count", "letter", "size", "index"] ["count", "letter"] (defScope sLetterBlock) := ⟨rfl, rfl, rfl, by decide +kernel, rfl, by decide +kernel, by decide +kernel⟩
abbrev sStretch : Stmt := topS 20
theorem scStretch : FnScope ["size", "start", "length", "low", "high", "letters", "letter", "index"] ["size", "start", "length"] (defScope sStretch) := ⟨rfl, rfl, rfl, by decide +kernel, rfl, by decide +kernel, by decide +kernel⟩
abbrev sAvoidingLetter : Stmt := topS 21
theorem scAvoidingLetter : FnScope ["count", "index", "size"] ["count", "index"] (defScope sAvoidingLetter) := ⟨rfl, rfl, rfl, by decide +kernel, rfl, by decide +kernel, by decide +kernel⟩
abbrev sAvoidingText : Stmt := topS 22
theorem scAvoidingText : FnScope ["count", "length", "start", "size"] ["count", "length", "start"] (defScope sAvoidingText) := ⟨rfl, rfl, rfl, by decide +kernel, rfl, by decide +kernel, by decide +kernel⟩
abbrev sIsImage : Stmt := topS 27
theorem scIsImage : FnScope ["value", "size"] ["value", "size"] (defScope sIsImage) := ⟨rfl, rfl, rfl, by decide +kernel, rfl, by decide +kernel, by decide +kernel⟩
abbrev sAreImages : Stmt := topS 28
theorem scAreImages : FnScope ["value", "image"] ["value"] (defScope sAreImages) := ⟨rfl, rfl, rfl, by decide +kernel, rfl, by decide +kernel, by decide +kernel⟩
abbrev sAvoidingRules : Stmt := topS 30
theorem scAvoidingRules : FnScope ["count", "size", "letter"] ["count"] (defScope sAvoidingRules) := ⟨rfl, rfl, rfl, by decide +kernel, rfl, by decide +kernel, by decide +kernel⟩
abbrev sLPen : Stmt := topS 32
theorem scLPen : FnScope ["_law_script"] ["_law_script"] (defScope sLPen) := ⟨rfl, rfl, rfl, by decide +kernel, rfl, by decide +kernel, by decide +kernel⟩
abbrev sLDraw : Stmt := topS 33
theorem scLDraw : FnScope ["_law_pen_here", "_law_many", "_law_digit", "_law_index", "_law_cell", "_law_mix"] ["_law_pen_here", "_law_many"] (defScope sLDraw) := ⟨rfl, rfl, rfl, by decide +kernel, rfl, by decide +kernel, by decide +kernel⟩
abbrev sLPick : Stmt := topS 34
theorem scLPick : FnScope ["_law_pen_here", "_law_choices"] ["_law_pen_here", "_law_choices"] (defScope sLPick) := ⟨rfl, rfl, rfl, by decide +kernel, rfl, by decide +kernel, by decide +kernel⟩
abbrev sLFar : Stmt := topS 35
theorem scLFar : FnScope ["_law_pen_here", "_law_pieces", "_law_number", "_law_k"] ["_law_pen_here", "_law_pieces"] (defScope sLFar) := ⟨rfl, rfl, rfl, by decide +kernel, rfl, by decide +kernel, by decide +kernel⟩
abbrev sLOdd : Stmt := topS 36
theorem scLOdd : FnScope ["_law_pen_here"] ["_law_pen_here"] (defScope sLOdd) := ⟨rfl, rfl, rfl, by decide +kernel, rfl, by decide +kernel, by decide +kernel⟩
abbrev sLTold : Stmt := topS 37
theorem scLTold : FnScope ["_law_call", "_law_heard", "e"] ["_law_call"] (defScope sLTold) := ⟨rfl, rfl, rfl, by decide +kernel, rfl, by decide +kernel, by decide +kernel⟩
abbrev sLaw : Stmt := topS 38
theorem scLaw : FnScope ["_law_script", "_law_pen_here", "_law_turn", "_law_count", "_law_k", "_law_index", "_law_wrong", "_law_rules", "_law_q", "_law_begin", "_law_size", "_law_steps", "_law_power", "_law_letter"] ["_law_script"] (defScope sLaw) := ⟨rfl, rfl, rfl, by decide +kernel, rfl, by decide +kernel, by decide +kernel⟩
abbrev sRulesInit : Stmt := inClass (topS 29) 0
theorem scRulesInit : FnScope ["self", "images"] ["self", "images"] (defScope sRulesInit) := ⟨rfl, rfl, rfl, by decide +kernel, rfl, by decide +kernel, by decide +kernel⟩
abbrev sRulesImages : Stmt := inClass (topS 29) 2
theorem scRulesImages : FnScope ["self"] ["self"] (defScope sRulesImages) := ⟨rfl, rfl, rfl, by decide +kernel, rfl, by decide +kernel, by decide +kernel⟩
abbrev sRulesApply : Stmt := inClass (topS 29) 3
theorem scRulesApply : FnScope ["self", "text", "letter", "new"] ["self", "text"] (defScope sRulesApply) := ⟨rfl, rfl, rfl, by decide +kernel, rfl, by decide +kernel, by decide +kernel⟩
abbrev sRulesCheckLetter : Stmt := inClass (topS 29) 4
theorem scRulesCheckLetter : FnScope ["self", "letter"] ["self", "letter"] (defScope sRulesCheckLetter) := ⟨rfl, rfl, rfl, by decide +kernel, rfl, by decide +kernel, by decide +kernel⟩
abbrev sRulesAllLengths : Stmt := inClass (topS 29) 5
theorem scRulesAllLengths : FnScope ["self", "steps", "rows", "image", "step", "row", "letter"] ["self", "steps"] (defScope sRulesAllLengths) := ⟨rfl, rfl, rfl, by decide +kernel, rfl, by decide +kernel, by decide +kernel⟩
abbrev sRulesLength : Stmt := inClass (topS 29) 6
theorem scRulesLength : FnScope ["self", "letter", "steps"] ["self", "letter", "steps"] (defScope sRulesLength) := ⟨rfl, rfl, rfl, by decide +kernel, rfl, by decide +kernel, by decide +kernel⟩
abbrev sRulesLetterAt : Stmt := inClass (topS 29) 7
theorem scRulesLetterAt : FnScope ["self", "letter", "steps", "index", "rows", "row"] ["self", "letter", "steps", "index"] (defScope sRulesLetterAt) := ⟨rfl, rfl, rfl, by decide +kernel, rfl, by decide +kernel, by decide +kernel⟩
abbrev sRulesWithinImage : Stmt := inClass (topS 29) 8
theorem scRulesWithinImage : FnScope ["self", "letter", "row", "index", "new"] ["self", "letter", "row", "index"] (defScope sRulesWithinImage) := ⟨rfl, rfl, rfl, by decide +kernel, rfl, by decide +kernel, by decide +kernel⟩
abbrev sRulesIsGrowing : Stmt := inClass (topS 29) 9
theorem scRulesIsGrowing : FnScope ["self", "letter", "image"] ["self", "letter"] (defScope sRulesIsGrowing) := ⟨rfl, rfl, rfl, by decide +kernel, rfl, by decide +kernel, by decide +kernel⟩
abbrev sInitInvalidCount : Stmt := inClass (topS 2) 0
theorem scInitInvalidCount : FnScope ["self", "value"] ["self", "value"] (defScope sInitInvalidCount) := ⟨rfl, rfl, rfl, by decide +kernel, rfl, by decide +kernel, by decide +kernel⟩
structure Txt (K : PySem.W.Frag) (mg : Str → Option Value) where
  cInvalidText : Addr
  eInvalidText : mg "InvalidText" = some (.ref cInvalidText)
  cInvalidCount : Addr
  eInvalidCount : mg "InvalidCount" = some (.ref cInvalidCount)
  cInvalidRules : Addr
  eInvalidRules : mg "InvalidRules" = some (.ref cInvalidRules)
  cTooLarge : Addr
  eTooLarge : mg "TooLarge" = some (.ref cTooLarge)
  cRules : Addr
  eRules : mg "Rules" = some (.ref cRules)
  iInvalidCount : Addr
  dInvalidCount : FuncData
  fInitInvalidCount : Fun K "__init__" "InvalidCount.__init__" sInitInvalidCount iInvalidCount dInvalidCount
  bInitInvalidCount : Binds K dInvalidCount ["self", "value"] []
  xInvalidCount : ErrC K cInvalidCount iInvalidCount "value"
  mInvalidCountInvalidRules : PySem.W.exmOne K (.ref cInvalidCount) (.ref cInvalidRules) = some false
  mInvalidCountInvalidText : PySem.W.exmOne K (.ref cInvalidCount) (.ref cInvalidText) = some false
  oInvalidCountValueError : PySem.W.kitOne K (.ref cInvalidCount) (.type "ValueError") = some true
  aIsPlainInteger : Addr
  dIsPlainInteger : FuncData
  fIsPlainInteger : Fun K "is_plain_integer" "is_plain_integer" sIsPlainInteger aIsPlainInteger dIsPlainInteger
  bIsPlainInteger : Binds K dIsPlainInteger ["value"] []
  gIsPlainInteger : mg "is_plain_integer" = some (.ref aIsPlainInteger)
  aIsLetter : Addr
  dIsLetter : FuncData
  fIsLetter : Fun K "is_letter" "is_letter" sIsLetter aIsLetter dIsLetter
  bIsLetter : Binds K dIsLetter ["value"] []
  gIsLetter : mg "is_letter" = some (.ref aIsLetter)
  aIsText : Addr
  dIsText : FuncData
  fIsText : Fun K "is_text" "is_text" sIsText aIsText dIsText
  bIsText : Binds K dIsText ["value"] []
  gIsText : mg "is_text" = some (.ref aIsText)
  aCheckText : Addr
  dCheckText : FuncData
  fCheckText : Fun K "check_text" "check_text" sCheckText aCheckText dCheckText
  bCheckText : Binds K dCheckText ["value"] []
  gCheckText : mg "check_text" = some (.ref aCheckText)
  aCheckCount : Addr
  dCheckCount : FuncData
  fCheckCount : Fun K "check_count" "check_count" sCheckCount aCheckCount dCheckCount
  bCheckCount : Binds K dCheckCount ["value", "least", "most"] []
  gCheckCount : mg "check_count" = some (.ref aCheckCount)
  aIsPrime : Addr
  dIsPrime : FuncData
  fIsPrime : Fun K "is_prime" "is_prime" sIsPrime aIsPrime dIsPrime
  bIsPrime : Binds K dIsPrime ["number"] []
  gIsPrime : mg "is_prime" = some (.ref aIsPrime)
  aModulus : Addr
  dModulus : FuncData
  fModulus : Fun K "modulus" "modulus" sModulus aModulus dModulus
  bModulus : Binds K dModulus ["count"] []
  gModulus : mg "modulus" = some (.ref aModulus)
  aLetterWithin : Addr
  dLetterWithin : FuncData
  fLetterWithin : Fun K "letter_within" "letter_within" sLetterWithin aLetterWithin dLetterWithin
  bLetterWithin : Binds K dLetterWithin ["size", "letter", "index"] []
  gLetterWithin : mg "letter_within" = some (.ref aLetterWithin)
  aLetterBlock : Addr
  dLetterBlock : FuncData
  fLetterBlock : Fun K "letter_block" "letter_block" sLetterBlock aLetterBlock dLetterBlock
  bLetterBlock : Binds K dLetterBlock ["count", "letter"] []
  gLetterBlock : mg "letter_block" = some (.ref aLetterBlock)
  aStretch : Addr
  dStretch : FuncData
  fStretch : Fun K "stretch" "stretch" sStretch aStretch dStretch
  bStretch : Binds K dStretch ["size", "start", "length"] []
  gStretch : mg "stretch" = some (.ref aStretch)
  aAvoidingLetter : Addr
  dAvoidingLetter : FuncData
  fAvoidingLetter : Fun K "avoiding_letter" "avoiding_letter" sAvoidingLetter aAvoidingLetter dAvoidingLetter
  bAvoidingLetter : Binds K dAvoidingLetter ["count", "index"] []
  gAvoidingLetter : mg "avoiding_letter" = some (.ref aAvoidingLetter)
  aAvoidingText : Addr
  dAvoidingText : FuncData
  fAvoidingText : Fun K "avoiding_text" "avoiding_text" sAvoidingText aAvoidingText dAvoidingText
  bAvoidingText : KBn K dAvoidingText ["count", "length", "start"] 2 ["start"] (fun us ws => us ++ ws) (fun vs zs => vs ++ zs)
  gAvoidingText : mg "avoiding_text" = some (.ref aAvoidingText)
  aIsImage : Addr
  dIsImage : FuncData
  fIsImage : Fun K "is_image" "is_image" sIsImage aIsImage dIsImage
  bIsImage : Binds K dIsImage ["value", "size"] []
  gIsImage : mg "is_image" = some (.ref aIsImage)
  aAreImages : Addr
  dAreImages : FuncData
  fAreImages : Fun K "are_images" "are_images" sAreImages aAreImages dAreImages
  bAreImages : Binds K dAreImages ["value"] []
  gAreImages : mg "are_images" = some (.ref aAreImages)
  aAvoidingRules : Addr
  dAvoidingRules : FuncData
  fAvoidingRules : Fun K "avoiding_rules" "avoiding_rules" sAvoidingRules aAvoidingRules dAvoidingRules
  bAvoidingRules : Binds K dAvoidingRules ["count"] []
  gAvoidingRules : mg "avoiding_rules" = some (.ref aAvoidingRules)
  aLPen : Addr
  dLPen : FuncData
  fLPen : Fun K "_law_pen" "_law_pen" sLPen aLPen dLPen
  bLPen : Binds K dLPen ["_law_script"] []
  gLPen : mg "_law_pen" = some (.ref aLPen)
  aLDraw : Addr
  dLDraw : FuncData
  fLDraw : Fun K "_law_draw" "_law_draw" sLDraw aLDraw dLDraw
  bLDraw : Binds K dLDraw ["_law_pen_here", "_law_many"] []
  gLDraw : mg "_law_draw" = some (.ref aLDraw)
  aLPick : Addr
  dLPick : FuncData
  fLPick : Fun K "_law_pick" "_law_pick" sLPick aLPick dLPick
  bLPick : Binds K dLPick ["_law_pen_here", "_law_choices"] []
  gLPick : mg "_law_pick" = some (.ref aLPick)
  aLFar : Addr
  dLFar : FuncData
  fLFar : Fun K "_law_far" "_law_far" sLFar aLFar dLFar
  bLFar : Binds K dLFar ["_law_pen_here", "_law_pieces"] []
  gLFar : mg "_law_far" = some (.ref aLFar)
  aLOdd : Addr
  dLOdd : FuncData
  fLOdd : Fun K "_law_odd" "_law_odd" sLOdd aLOdd dLOdd
  bLOdd : Binds K dLOdd ["_law_pen_here"] []
  gLOdd : mg "_law_odd" = some (.ref aLOdd)
  aLTold : Addr
  dLTold : FuncData
  fLTold : Fun K "_law_told" "_law_told" sLTold aLTold dLTold
  bLTold : Binds K dLTold ["_law_call"] []
  gLTold : mg "_law_told" = some (.ref aLTold)
  aLaw : Addr
  dLaw : FuncData
  fLaw : Fun K "law" "law" sLaw aLaw dLaw
  bLaw : Binds K dLaw ["_law_script"] []
  gLaw : mg "law" = some (.ref aLaw)
  aRulesInit : Addr
  dRulesInit : FuncData
  fRulesInit : Fun K "__init__" "Rules.__init__" sRulesInit aRulesInit dRulesInit
  bRulesInit : Binds K dRulesInit ["self", "images"] []
  mRulesInit : Meth K cRules "__init__" aRulesInit
  aRulesImages : Addr
  dRulesImages : FuncData
  fRulesImages : Fun K "images" "Rules.images" sRulesImages aRulesImages dRulesImages
  bRulesImages : Binds K dRulesImages ["self"] []
  mRulesImages : Meth K cRules "images" aRulesImages
  aRulesApply : Addr
  dRulesApply : FuncData
  fRulesApply : Fun K "apply" "Rules.apply" sRulesApply aRulesApply dRulesApply
  bRulesApply : Binds K dRulesApply ["self", "text"] []
  mRulesApply : Meth K cRules "apply" aRulesApply
  aRulesCheckLetter : Addr
  dRulesCheckLetter : FuncData
  fRulesCheckLetter : Fun K "check_letter" "Rules.check_letter" sRulesCheckLetter aRulesCheckLetter dRulesCheckLetter
  bRulesCheckLetter : Binds K dRulesCheckLetter ["self", "letter"] []
  mRulesCheckLetter : Meth K cRules "check_letter" aRulesCheckLetter
  aRulesAllLengths : Addr
  dRulesAllLengths : FuncData
  fRulesAllLengths : Fun K "all_lengths" "Rules.all_lengths" sRulesAllLengths aRulesAllLengths dRulesAllLengths
  bRulesAllLengths : Binds K dRulesAllLengths ["self", "steps"] []
  mRulesAllLengths : Meth K cRules "all_lengths" aRulesAllLengths
  aRulesLength : Addr
  dRulesLength : FuncData
  fRulesLength : Fun K "length" "Rules.length" sRulesLength aRulesLength dRulesLength
  bRulesLength : Binds K dRulesLength ["self", "letter", "steps"] []
  mRulesLength : Meth K cRules "length" aRulesLength
  aRulesLetterAt : Addr
  dRulesLetterAt : FuncData
  fRulesLetterAt : Fun K "letter_at" "Rules.letter_at" sRulesLetterAt aRulesLetterAt dRulesLetterAt
  bRulesLetterAt : Binds K dRulesLetterAt ["self", "letter", "steps", "index"] []
  mRulesLetterAt : Meth K cRules "letter_at" aRulesLetterAt
  aRulesWithinImage : Addr
  dRulesWithinImage : FuncData
  fRulesWithinImage : Fun K "within_image" "Rules.within_image" sRulesWithinImage aRulesWithinImage dRulesWithinImage
  bRulesWithinImage : Binds K dRulesWithinImage ["self", "letter", "row", "index"] []
  mRulesWithinImage : Meth K cRules "within_image" aRulesWithinImage
  aRulesIsGrowing : Addr
  dRulesIsGrowing : FuncData
  fRulesIsGrowing : Fun K "is_growing" "Rules.is_growing" sRulesIsGrowing aRulesIsGrowing dRulesIsGrowing
  bRulesIsGrowing : Binds K dRulesIsGrowing ["self", "letter"] []
  mRulesIsGrowing : Meth K cRules "is_growing" aRulesIsGrowing
  clRules : Cls K cRules
  kRules : Mk K cRules aRulesInit
  nRules_table : NoAttr K cRules "table"
  qnRules : PySem.W.findIn K (.ref cRules) "__ne__" = some (some (.builtin "object.__ne__"))
  qoRules : PySem.W.subIn K (.ref cRules) (.type "object") = some true
  qcRules : PySem.W.isClsIn K cRules = true
  qtRules : PySem.W.typeIn K (.ref cRules) = some (.type "type")
  qaRules : PySem.W.findIn K (.ref cRules) "__class__" = some (some (.builtin "object.__class__"))
  qgRules : PySem.W.specialIn K (.builtin "object.__class__") "__get__" = some (some (.builtin "getset_descriptor.__get__"))
  qkRules : PySem.W.takesIn K (.builtin "object.__class__") = some true
  qmRules : PySem.W.mroIn K cRules (.type "object") = some true
  qNoneTypeRules : PySem.W.subIn K (.type "NoneType") (.ref cRules) = some false
  qboolRules : PySem.W.subIn K (.type "bool") (.ref cRules) = some false
  qintRules : PySem.W.subIn K (.type "int") (.ref cRules) = some false
  qstrRules : PySem.W.subIn K (.type "str") (.ref cRules) = some false
  qlistRules : PySem.W.subIn K (.type "list") (.ref cRules) = some false
  qtupleRules : PySem.W.subIn K (.type "tuple") (.ref cRules) = some false
  qdictRules : PySem.W.subIn K (.type "dict") (.ref cRules) = some false
  cdLaw : Addr
  pdLaw : Addr
  kdLaw : dLaw.code = .ref cdLaw
  hdLaw : PySem.W.codeHdIn K cdLaw pdLaw = true
  npLaw : K.lookup pdLaw = none
  t_MOST_VARIABLES : Tok
  m_MOST_VARIABLES : mg "MOST_VARIABLES" = some (.int 8 t_MOST_VARIABLES)
  t_LONGEST_TEXT : Tok
  m_LONGEST_TEXT : mg "LONGEST_TEXT" = some (.int 4096 t_LONGEST_TEXT)
  t_GREATEST_LETTER : Tok
  m_GREATEST_LETTER : mg "GREATEST_LETTER" = some (.int 999999 t_GREATEST_LETTER)
  t_GREATEST_START : Tok
  m_GREATEST_START : mg "GREATEST_START" = some (.int 1000000000000000000 t_GREATEST_START)
  t_MOST_IMAGES : Tok
  m_MOST_IMAGES : mg "MOST_IMAGES" = some (.int 400 t_MOST_IMAGES)
  t_LONGEST_IMAGE : Tok
  m_LONGEST_IMAGE : mg "LONGEST_IMAGE" = some (.int 64 t_LONGEST_IMAGE)
  t_MOST_STEPS : Tok
  m_MOST_STEPS : mg "MOST_STEPS" = some (.int 400 t_MOST_STEPS)
  m_isinstance : mg "isinstance" = none
  m_bool : mg "bool" = none
  m_int : mg "int" = none
  m_all : mg "all" = none
  m_len : mg "len" = none
  m_tuple : mg "tuple" = none
  m_range : mg "range" = none
  m_max : mg "max" = none
  m_list : mg "list" = none
  m_abs : mg "abs" = none
  m_OverflowError : mg "OverflowError" = none
  m_repr : mg "repr" = none
  m_ValueError : mg "ValueError" = none
  m_min : mg "min" = none
  m_sum : mg "sum" = none
  m_reversed : mg "reversed" = none
end Mo

namespace Mo
open PySem PySem.Spec PyProof.Rows L2
section
variable {P : Program} {w : World} {K : PySem.W.Frag} {mg : Str → Option Value} {base : Heap}
def spPlain : Sp := fun vs H Q _ => ∃ i : Int, vs = [.int i] ∧ ∀ H', Same H H' → Q (.bl true) H'
theorem ok_plain {k : Nat} (T : Txt K mg) : FnOk P w K mg base CX0 (k + 1) T.aIsPlainInteger T.dIsPlainInteger ["value"] spPlain := by
  refine T.fIsPlainInteger.ok scIsPlainInteger (fun vs H Q E h => ?_) (fun cdv A outer s H vs Q E hr h => ?_)
  · obtain ⟨i, rfl, _⟩ := h
    rfl
  · obtain ⟨i, rfl, q⟩ := h
    refine ⟨_, (pss_one (ps_ret (pe_and (pe_callB call_isi (by rfl) T.m_isinstance (by decide +kernel) (pa_cons (pv 0) (pa_cons (pe_bltn (v := .ty "int") (by rfl) T.m_int (by decide +kernel) rfl) pa_nil))) (pe_one (pe_not (pe_callB call_isi (by rfl) T.m_isinstance (by decide +kernel) (pa_cons (pv 0) (pa_cons (pe_bltn (v := .ty "bool") (by rfl) T.m_bool (by decide +kernel) rfl) pa_nil)))))))), ?_⟩
    refine ⟨_, rfl, _, _, .type "int", .type "int", true, rfl, .ty "int", .base (.int _), kit_ty (by decide +kernel), true, rfl, iteT ?_⟩
    refine ⟨_, rfl, _, _, .type "int", .type "bool", false, rfl, .ty "bool", .base (.int _), kit_ty (by decide +kernel), false, rfl, q H (Same.refl _)⟩
def spCount : Sp := fun vs H Q _ => ∃ i a b : Int, vs = [.int i, .int a, .int b] ∧ a ≤ i ∧ i ≤ b ∧ ∀ H', Same H H' → Q .non H'
theorem ok_count {k : Nat} (T : Txt K mg) : FnOk P w K mg base CX0 (k + 2) T.aCheckCount T.dCheckCount ["value", "least", "most"] spCount := by
  have GIsPlainInteger : FnOk P w K mg base CX0 (k + 1) T.aIsPlainInteger T.dIsPlainInteger ["value"] spPlain := ok_plain T
  refine T.fCheckCount.ok scCheckCount (fun vs H Q E h => ?_) (fun cdv A outer s H vs Q E hr h => ?_)
  · obtain ⟨i, a, b, rfl, _⟩ := h
    rfl
  · obtain ⟨i, a, b, rfl, h1, h2, q⟩ := h
    refine ⟨_, (pss_one (ps_if (PW.pt (pw_or (pt_not (pt_val (pe_call GIsPlainInteger hr (by rfl) T.gIsPlainInteger T.fIsPlainInteger.kp T.bIsPlainInteger .nil pass0 (pa_cons (pv 0) pa_nil)))) (pw_or (pt_cmpR op_lt (pv 0) (pv 1) (nomark _)) (pw_or1 (pt_cmpR op_gt (pv 0) (pv 2) (nomark _)))))) (pss_one ps_never) pss_nil)), ?_⟩
    refine ⟨_, rfl, i, rfl, fun H1 s1 => ⟨true, rfl, iteF ?_⟩⟩
    refine ⟨_, rfl, _, rfl, _, _, rfl, rfl, _, rfl, ite2 (fun e => ?_) (fun e => ?_)⟩
    · exact absurd (of_decide_eq_true e) (by omega)
    refine ⟨_, rfl, _, rfl, _, _, rfl, rfl, _, rfl, ite2 (fun e => ?_) (fun e => ?_)⟩
    · exact absurd (of_decide_eq_true e) (by omega)
    exact q H1 s1
end
end Mo

namespace Mo
open PySem PySem.Spec PyProof.Rows L2
/-- no divisor from 2 to n - 1 -/
def prm (n : Nat) : Bool := (List.range (n - 2)).all fun i => decide (n % (2 + i) ≠ 0)
/-- the modulus for n variables -/
def qOf (n : Nat) : Nat := [0, 5, 7, 11, 11, 13, 17, 17, 19].getD n 0
theorem qOf_in : ∀ c : Nat, 1 ≤ c → c ≤ 8 → 2 * c + 2 ≤ qOf c ∧ qOf c ≤ 19 ∧ prm (qOf c) = true ∧ ∀ m, 2 * c + 2 ≤ m → m < qOf c → prm m = false := by
  have h : ∀ c : Fin 9, 1 ≤ c.val → 2 * c.val + 2 ≤ qOf c.val ∧ qOf c.val ≤ 19 ∧ prm (qOf c.val) = true ∧ ∀ m : Fin 19, 2 * c.val + 2 ≤ m.val → m.val < qOf c.val → prm m.val = false := by decide +kernel
  intro c h1 h2
  obtain ⟨a, b, d, e⟩ := h ⟨c, by omega⟩ h1
  have b' : qOf c ≤ 19 := b
  exact ⟨a, b, d, fun m hm hl => e ⟨m, by omega⟩ hm hl⟩
/-- the letter at j of the block of c -/
def ltr (q c j : Nat) : Nat := j * q + (c / q + c % q * j) % q
def blk (q c : Nat) : List Int := (List.range q).map fun j => ((ltr q c j : Nat) : Int)
theorem ne_mod (n i : Nat) : (!decide (V.int ((n : Int).fmod (2 + (i : Int))) = V.int 0)) = decide (n % (2 + i) ≠ 0) := by
  have h : (n : Int).fmod (2 + (i : Int)) = ((n % (2 + i) : Nat) : Int) := by
    rw [Int.fmod_eq_emod_of_nonneg _ (by omega)]
    exact (Int.natCast_emod n (2 + i)).symm
  rw [h]
  by_cases e : n % (2 + i) = 0
  · rw [e]
    simp
  · rw [decide_eq_true e, decide_eq_false (fun z => e (Int.natCast_eq_zero.mp (V.int.inj z)))]
    rfl
theorem ltr_eq (q c j : Nat) (hq : 0 < q) : (j : Int) * q + (((c : Int).fdiv q) + (c : Int).fmod q * j).fmod q = ((ltr q c j : Nat) : Int) := by
  unfold ltr
  rw [Int.fdiv_eq_ediv_of_nonneg _ (by omega), Int.fmod_eq_emod_of_nonneg _ (by omega), Int.fmod_eq_emod_of_nonneg _ (by omega)]
  rw [Int.natCast_add, Int.natCast_mul, Int.natCast_emod, Int.natCast_add, Int.natCast_mul, Int.natCast_ediv, Int.natCast_emod]
section
variable {P : Program} {w : World} {K : PySem.W.Frag} {mg : Str → Option Value} {base : Heap}
def spPrime : Sp := fun vs H Q _ => ∃ n : Nat, vs = [.int n] ∧ 2 ≤ n ∧ n ≤ 19 ∧ ∀ H', Same H H' → Q (.bl (prm n)) H'
theorem ok_prime {k : Nat} (T : Txt K mg) : FnOk P w K mg base CX0 (k + 1) T.aIsPrime T.dIsPrime ["number"] spPrime := by
  refine T.fIsPrime.ok scIsPrime (fun vs H Q E h => ?_) (fun cdv A outer s H vs Q E hr h => ?_)
  · obtain ⟨n, rfl, _⟩ := h
    rfl
  · obtain ⟨n, rfl, h2, h19, q⟩ := h
    refine ⟨_, (pss_one (ps_ret (pe_callB (cr_all rfl) (by rfl) T.m_all (by decide +kernel) (pa_cons (pe_lc (own := [("divisor", 1)]) (g := gName 1) (tt := tYes) rfl scIsPrime.nd (pi_range2 (by rfl) T.m_range (pa_cons pe_int (pa_cons (pv 0) pa_nil))) (blkOk_by (N := ["number", "divisor"]) (sc := defScope sIsPrime) (by decide +kernel)) (fun _ _ _ _ _ => pg_name (i := 1) scIsPrime.nd rfl (Or.inl rfl)) (fun _ _ _ _ _ => pts_nil) (fun _ _ _ _ _ => (pe_cmpR op_ne (pe_op op_modN (pv 0) (pv 1)) pe_int (nomark _)))) pa_nil)))), ?_⟩
    refine ⟨_, rfl, 2, n, rfl, ⟨by omega, by omega, by omega, by omega⟩, fun D nD => lc_range (lo := 2) (n := ((n : Int) - 2).toNat) (fun i H' => Same H H' ∧ H' D = some (.lst (((List.range i).map fun j => decide (n % (2 + j) ≠ 0)).map V.bl))) ?_ ?_ ?_⟩
    · exact ⟨same_new nD, upd_same⟩
    · rintro i H1 hi ⟨s1, hD⟩
      refine ⟨rfl, _, rfl, _, rfl, n, 2 + i, rfl, rfl, by omega, rfl, _, hD, fitsLt (by simp; omega), Same.put s1 nD, ?_⟩
      rw [upd_same, List.range_succ, List.map_append, List.map_append]
      exact congrArg (fun z => some (HO.lst (_ ++ [V.bl z]))) (ne_mod n i)
    · rintro H1 ⟨s1, hD⟩
      refine ⟨D, _, rfl, SqL.of hD, ?_⟩
      rw [show ((n : Int) - 2).toNat = n - 2 by omega, show (((List.range (n - 2)).map fun j => decide (n % (2 + j) ≠ 0)).all id) = prm n by unfold prm; rw [List.all_map]; rfl]
      exact q H1 s1
def spMod : Sp := fun vs H Q _ => ∃ c : Nat, vs = [.int c] ∧ 1 ≤ c ∧ c ≤ 8 ∧ ∀ H', Same H H' → Q (.int (qOf c : Nat)) H'
theorem ok_mod {k : Nat} (T : Txt K mg) : FnOk P w K mg base CX0 (k + 3) T.aModulus T.dModulus ["count"] spMod := by
  have GCheckCount : FnOk P w K mg base CX0 (k + 2) T.aCheckCount T.dCheckCount ["value", "least", "most"] spCount := ok_count T
  have GIsPrime : FnOk P w K mg base CX0 (k + 2) T.aIsPrime T.dIsPrime ["number"] spPrime := ok_prime T
  refine T.fModulus.ok scModulus (fun vs H Q E h => ?_) (fun cdv A outer s H vs Q E hr h => ?_)
  · obtain ⟨c, rfl, _⟩ := h
    rfl
  · obtain ⟨c, rfl, c1, c8, q⟩ := h
    obtain ⟨q1, q2, q3, q4⟩ := qOf_in c c1 c8
    refine ⟨_, (pss_cons (ps_expr (pe_call GCheckCount hr (by rfl) T.gCheckCount T.fCheckCount.kp T.bCheckCount .nil pass0 (pa_cons (pv 0) (pa_cons pe_int (pa_cons (pe_glob (v := .int 8) rfl T.m_MOST_VARIABLES ⟨_, rfl⟩) pa_nil)))))
      (pss_cons (ps_set (i := 1) scModulus.nd rfl (Or.inl rfl) (pe_op op_add (pe_op op_mul pe_int (pv 0)) pe_int))
      (pss_cons (ps_while PassesOwn.never (pt_not (pt_val (pe_call GIsPrime hr (by rfl) T.gIsPrime T.fIsPrime.kp T.bIsPrime .nil pass0 (pa_cons (pv 1) pa_nil)))) (pss_one (ps_aug (i := 1) scModulus.nd rfl (Or.inl rfl) pe_int ip_add)))
      (pss_one (ps_ret (pv 1)))))), ?_⟩
    refine ⟨_, rfl, c, 1, 8, rfl, by omega, by omega, fun H1 s1 => ?_⟩
    refine ⟨_, rfl, 2, c, rfl, rfl, .inl ⟨by decide, by decide⟩, _, 2, rfl, rfl, ?_⟩
    refine while_by (fun σ H' => ∃ m : Nat, σ = [some (.int (c : Nat)), some (.int (m : Nat))] ∧ 2 * c + 2 ≤ m ∧ m ≤ qOf c ∧ Same H H') (fun σ H' => match σ with | [_, some (.int r)] => 30 - r.toNat | _ => 0) ?_ ?_ ?_
    · exact ⟨2 * c + 2, rfl, by omega, by omega, s1⟩
    · rintro σ H2 ⟨m, rfl, m1, m2, s2⟩
      refine ⟨_, rfl, m, rfl, by omega, by omega, fun H3 s3 => ⟨prm m, rfl, ?_⟩⟩
      by_cases e : m = qOf c
      · subst e
        rw [q3]
        exact ⟨_, rfl, q H3 (s2.trans s3)⟩
      · rw [q4 m m1 (by omega)]
        refine ⟨_, rfl, m, 1, rfl, rfl, ⟨⟨m + 1, rfl, by omega, by omega, s2.trans s3⟩, ?_⟩⟩
        show 30 - ((m : Int) + 1).toNat < 30 - (m : Int).toNat
        omega
    · rintro σ H2 Q1 Q2 hq ⟨v, h1, n, h2, h3, h4, h5⟩
      exact ⟨v, h1, n, h2, h3, h4, fun H3 s3 => (h5 H3 s3).elim fun b hb => ⟨b, hb.1, hq _ _ hb.2⟩⟩
def spWithin : Sp := fun vs H Q _ => ∃ q c j : Nat, vs = [.int q, .int c, .int j] ∧ 0 < q ∧ q ≤ 1000 ∧ j ≤ 1000 ∧ ∀ H', Same H H' → Q (.int (ltr q c j : Nat)) H'
theorem ok_within {k : Nat} (T : Txt K mg) : FnOk P w K mg base CX0 (k + 1) T.aLetterWithin T.dLetterWithin ["size", "letter", "index"] spWithin := by
  refine T.fLetterWithin.ok scLetterWithin (fun vs H Q E h => ?_) (fun cdv A outer s H vs Q E hr h => ?_)
  · obtain ⟨q, c, j, rfl, _⟩ := h
    rfl
  · obtain ⟨q, c, j, rfl, q0, q1, j1, hq⟩ := h
    refine ⟨_, (pss_one (ps_ret (pe_op op_add (pe_op op_mul (pv 2) (pv 0)) (pe_op op_modN (pe_op op_add (pe_op op_fdivN (pv 1) (pv 0)) (pe_op op_mul (pe_op op_modN (pv 1) (pv 0)) (pv 2))) (pv 0))))), ?_⟩
    refine ⟨_, rfl, _, rfl, j, q, rfl, rfl, .inl ⟨by omega, by omega⟩, ?_⟩
    refine ⟨_, rfl, _, rfl, c, q, rfl, rfl, ⟨by omega, by omega⟩, _, rfl, _, rfl, c, q, rfl, rfl, by omega, _, rfl, _, j, rfl, rfl, .inr ⟨by omega, by omega⟩, _, _, rfl, rfl, _, rfl, _, q, rfl, rfl, by omega, _, _, rfl, rfl, ?_⟩
    have z := hq H (Same.refl H)
    rw [← ltr_eq q c j q0] at z
    exact z
/-- the block of a letter, a new tuple -/
def spBlock : Sp := fun vs H Q _ => ∃ n c : Nat, vs = [.int n, .int c] ∧ 1 ≤ n ∧ n ≤ 8 ∧ c < qOf n * qOf n ∧ ∀ H' p, Same H H' → H p = none → H' p = some (.tup ((blk (qOf n) c).map V.int)) → Q (.ref p) H'
theorem ok_block {k : Nat} (T : Txt K mg) : FnOk P w K mg base CX0 (k + 4) T.aLetterBlock T.dLetterBlock ["count", "letter"] spBlock := by
  have GModulus : FnOk P w K mg base CX0 (k + 3) T.aModulus T.dModulus ["count"] spMod := ok_mod T
  have GCheckCount : FnOk P w K mg base CX0 (k + 3) T.aCheckCount T.dCheckCount ["value", "least", "most"] spCount := ok_count T
  have GLetterWithin : FnOk P w K mg base CX0 (k + 3) T.aLetterWithin T.dLetterWithin ["size", "letter", "index"] spWithin := ok_within T
  refine T.fLetterBlock.ok scLetterBlock (fun vs H Q E h => ?_) (fun cdv A outer s H vs Q E hr h => ?_)
  · obtain ⟨n, c, rfl, _⟩ := h
    rfl
  · obtain ⟨n, c, rfl, n1, n8, hc, q⟩ := h
    obtain ⟨q1, q2, _⟩ := qOf_in n n1 n8
    have hqq : qOf n * qOf n ≤ 19 * 19 := Nat.mul_le_mul q2 q2
    refine ⟨_, (pss_cons (ps_set (i := 2) scLetterBlock.nd rfl (Or.inr rfl) (pe_call GModulus hr (by rfl) T.gModulus T.fModulus.kp T.bModulus .nil pass0 (pa_cons (pv 0) pa_nil)))
      (pss_cons (ps_expr (pe_call GCheckCount hr (by rfl) T.gCheckCount T.fCheckCount.kp T.bCheckCount .nil pass0 (pa_cons (pv 1) (pa_cons pe_int (pa_cons (pe_op op_sub (pe_op op_mul (pv 2) (pv 2)) pe_int) pa_nil)))))
      (pss_one (ps_ret (pe_callTy call_tuple_of (by rfl) T.m_tuple (by decide +kernel) (pa_cons (pe_lc (own := [("index", 3)]) (g := gName 3) (tt := tYes) rfl scLetterBlock.nd (pi_range1 (by rfl) T.m_range (pa_cons (pv 2) pa_nil)) (blkOk_by (N := ["count", "letter", "size", "index"]) (sc := defScope sLetterBlock) (by decide +kernel)) (fun _ _ _ _ _ => pg_name (i := 3) scLetterBlock.nd rfl (Or.inl rfl)) (fun _ _ _ _ _ => pts_nil) (fun _ _ _ _ _ => (pe_call GLetterWithin hr (by rfl) T.gLetterWithin T.fLetterWithin.kp T.bLetterWithin .nil pass0 (pa_cons (pv 2) (pa_cons (pv 1) (pa_cons (pv 3) pa_nil)))))) pa_nil)))))), ?_⟩
    refine ⟨_, rfl, n, rfl, n1, n8, fun H1 s1 => ?_⟩
    generalize qOf n = Q0 at *
    refine ⟨_, rfl, _, rfl, _, rfl, Q0, Q0, rfl, rfl, .inl ⟨by omega, by omega⟩, _, 1, rfl, rfl, c, 0, _, rfl, by omega, ?_, fun H2 s2 => ?_⟩
    · rw [← Int.natCast_mul]
      omega
    refine ⟨_, rfl, Q0, rfl, by omega, by omega, fun D nD => lc_range (lo := 0) (n := ((Q0 : Nat) : Int).toNat) (fun i H' => Same H2 H' ∧ H' D = some (.lst (((List.range i).map fun j => ((ltr Q0 c j : Nat) : Int)).map V.int))) ?_ ?_ ?_⟩
    · exact ⟨same_new nD, upd_same⟩
    · rintro i H3 hi ⟨s3, hD⟩
      have hi2 : i < Q0 := by
        have : i < ((Q0 : Nat) : Int).toNat := hi
        omega
      refine ⟨rfl, _, rfl, _, rfl, _, rfl, Q0, c, i, congrArg (fun z => [V.int Q0, V.int c, V.int z]) (show (0 : Int) + (i : Int) = (i : Nat) by omega), by omega, by omega, by omega, fun H4 s4 => ?_⟩
      refine ⟨_, s4 _ _ hD, fitsLt (by simp; omega), Same.put (s3.trans s4) nD, ?_⟩
      rw [upd_same, List.range_succ, List.map_append, List.map_append]
      rfl
    · rintro H3 ⟨s3, hD⟩
      refine ⟨D, _, rfl, .inl ⟨SqL.of hD, fun p np => ?_⟩⟩
      have s5 := same_new (o := .tup (((List.range Q0).map fun j => ((ltr Q0 c j : Nat) : Int)).map V.int)) np
      refine q _ p (((s1.trans s2).trans s3).trans s5) ?_ upd_same
      cases hp : H p with
      | none => rfl
      | some o =>
        rw [((s1.trans s2).trans s3) _ _ hp] at np
        cases np
end
end Mo

namespace Mo
open PySem PySem.Spec PyProof.Rows L2
/-- the letter of the avoiding text at i -/
def av (q i : Nat) : Nat := if h : q < 2 ∨ i = 0 then 0 else ltr q (av q (i / q)) (i % q)
termination_by i
decreasing_by exact Nat.div_lt_self (by omega) (by omega)
theorem av_zero (q : Nat) : av q 0 = 0 := by
  rw [av, dif_pos (.inr rfl)]
theorem av_step {q : Nat} (hq : 2 ≤ q) (i : Nat) : av q i = ltr q (av q (i / q)) (i % q) := by
  by_cases e : i = 0
  · subst e
    rw [av_zero, Nat.zero_div, av_zero, Nat.zero_mod]
    unfold ltr
    simp
  · rw [av, dif_neg (by omega)]
theorem av_at {q : Nat} (hq : 2 ≤ q) (i : Nat) {j : Nat} (hj : j < q) : av q (i * q + j) = ltr q (av q i) j := by
  rw [av_step hq, Nat.mul_comm, Nat.mul_add_div (by omega), Nat.div_eq_of_lt hj, Nat.add_zero, Nat.mul_add_mod, Nat.mod_eq_of_lt hj]
theorem ltr_lt {q c j : Nat} (hj : j < q) : ltr q c j < q * q := by
  unfold ltr
  have h1 := Nat.mod_lt (c / q + c % q * j) (show 0 < q by omega)
  have h2 : (j + 1) * q ≤ q * q := Nat.mul_le_mul_right q hj
  rw [Nat.add_mul] at h2
  omega
theorem av_lt {q : Nat} (hq : 2 ≤ q) (i : Nat) : av q i < q * q := by
  rw [av_step hq]
  exact ltr_lt (Nat.mod_lt _ (by omega))
theorem ltr_div {q c j : Nat} (hq : 0 < q) : ltr q c j / q = j := by
  unfold ltr
  have := Nat.mod_lt (c / q + c % q * j) hq
  rw [Nat.mul_comm, Nat.mul_add_div hq, Nat.div_eq_of_lt this, Nat.add_zero]
/-- the block of n letters from s on -/
def avs (q s n : Nat) : List Int := (List.range n).map fun j => ((av q (s + j) : Nat) : Int)
theorem avs_len (q s n : Nat) : (avs q s n).length = n := by unfold avs; simp
theorem avs_at {q s n j : Nat} (h : j < n) : (avs q s n)[j]? = some ((av q (s + j) : Nat) : Int) := by
  unfold avs
  rw [List.getElem?_map, List.getElem?_range h]
  rfl
theorem avs_snoc (q s n : Nat) : avs q s (n + 1) = avs q s n ++ [((av q (s + n) : Nat) : Int)] := by
  unfold avs
  rw [List.range_succ, List.map_append]
  rfl
theorem avs_app (q s m n : Nat) : avs q s m ++ avs q (s + m) n = avs q s (m + n) := by
  induction n with
  | zero => unfold avs; simp
  | succ n ih => rw [avs_snoc, ← List.append_assoc, ih, ← Nat.add_assoc, avs_snoc, Nat.add_assoc]
theorem avs_cut {q s N a n : Nat} (h : a + n ≤ N) : ((avs q s N).drop a).take n = avs q (s + a) n := by
  apply List.ext_getElem?
  intro i
  rw [List.getElem?_take, List.getElem?_drop]
  by_cases hi : i < n
  · rw [if_pos hi, avs_at (by omega), avs_at hi, Nat.add_assoc]
  · rw [if_neg hi, List.getElem?_eq_none (by rw [avs_len]; omega)]
theorem avs_blk {q : Nat} (hq : 2 ≤ q) (i : Nat) : avs q (q * i) q = blk q (av q i) := by
  unfold avs blk
  refine List.map_congr_left fun j hj => ?_
  rw [Nat.mul_comm, av_at hq i (List.mem_range.mp hj)]
/-! two neighbours tell the letter -/
theorem low_eq {q c j : Nat} (hq : 2 ≤ q) : (((ltr q c (j + 1) : Nat) : Int) - ((ltr q c j : Nat) : Int)).fmod q = ((c % q : Nat) : Int) := by
  rw [Int.fmod_eq_emod_of_nonneg _ (by omega)]
  have h1 := Nat.div_add_mod (c / q + c % q * (j + 1)) q
  have h2 := Nat.div_add_mod (c / q + c % q * j) q
  have hb := Nat.mod_lt c (show 0 < q by omega)
  unfold ltr
  rw [Nat.mul_add, Nat.mul_one] at h1
  rw [Nat.mul_add (c % q) j 1, Nat.mul_one] at *
  generalize hx : (c / q + (c % q * j + c % q)) % q = x at *
  generalize hy : (c / q + c % q * j) % q = y at *
  generalize (c / q + (c % q * j + c % q)) / q = u at *
  generalize (c / q + c % q * j) / q = v at *
  generalize c % q * j = bj at *
  generalize c % q = b at *
  generalize c / q = a at *
  have e : (((j + 1) * q + x : Nat) : Int) - ((j * q + y : Nat) : Int) = (b : Int) + (q : Int) * (1 - ((u : Int) - (v : Int))) := by
    have g1 : (q : Int) * u + x = a + (bj + b) := by
      have := congrArg (fun n : Nat => (n : Int)) h1
      simpa only [Int.natCast_add, Int.natCast_mul] using this
    have g2 : (q : Int) * v + y = a + bj := by
      have := congrArg (fun n : Nat => (n : Int)) h2
      simpa only [Int.natCast_add, Int.natCast_mul] using this
    simp only [Int.natCast_add, Int.natCast_mul, Int.natCast_one, Int.add_mul, Int.one_mul, Int.mul_sub, Int.mul_one]
    omega
  rw [e, Int.add_mul_emod_self_left, Int.emod_eq_of_lt (by omega) (by omega)]
theorem high_eq {q c j : Nat} (hq : 2 ≤ q) (hc : c < q * q) : (((ltr q c j : Nat) : Int) - ((c % q : Nat) : Int) * (j : Int)).fmod q = ((c / q : Nat) : Int) := by
  rw [Int.fmod_eq_emod_of_nonneg _ (by omega)]
  have h2 := Nat.div_add_mod (c / q + c % q * j) q
  have ha : c / q < q := Nat.div_lt_of_lt_mul hc
  unfold ltr
  generalize hy : (c / q + c % q * j) % q = y at *
  generalize (c / q + c % q * j) / q = v at *
  generalize c / q = a at *
  have e : ((j * q + y : Nat) : Int) - ((c % q : Nat) : Int) * (j : Int) = (a : Int) + (q : Int) * ((j : Int) - (v : Int)) := by
    have g2 : (q : Int) * v + y = (a : Int) + ((c % q : Nat) : Int) * j := by
      have := congrArg (fun n : Nat => (n : Int)) h2
      simpa only [Int.natCast_add, Int.natCast_mul] using this
    generalize ((c % q : Nat) : Int) * (j : Int) = bj at *
    simp only [Int.natCast_add, Int.natCast_mul, Int.mul_sub]
    rw [Int.mul_comm (j : Int) (q : Int)]
    omega
  rw [e, Int.add_mul_emod_self_left, Int.emod_eq_of_lt (by omega) (by omega)]
end Mo

/-! ### lists of texts, written texts, pens and tables -/
namespace Mo
open PySem PySem.Spec PyProof.Rows L2
theorem Src.here {H : Hp} {d c : Addr} {t : Nat} (h : Src H d c t) : H d ≠ none := by
  obtain ⟨_, _, h, _⟩ := h
  rw [h]
  exact Option.some_ne_none _
theorem Src.tabs {H H' : Hp} {d c : Addr} {t : Nat} (h : Src H d c t) (s : LamX.ExtN H H') : Src H' d c t := by
  obtain ⟨ns, r, h1, h2, h3⟩ := h
  exact ⟨ns, r, s _ _ h1 (fun _ z => nomatch z), s _ _ h2 (fun _ z => nomatch z), h3⟩
theorem Src.dict {H : Hp} {d c : Addr} {t : Nat} (h : Src H d c t) : ∃ kvs, H d = some (.dK kvs) := by
  obtain ⟨ns, r, h1, _⟩ := h
  exact ⟨_, h1⟩
theorem Src.tab {T : List (Addr × Str)} {H H' : Hp} {d c : Addr} {t : Nat} (h : Src H d c t) (tb : LamX.Tabs T H) (b : But d H H') : LamX.Tabs T H' := h.dict.elim fun _ e => Tabs.but tb e b
theorem Tabs.put {T : List (Addr × Str)} {H : Hp} {l : Addr} {xs : List V} {o : HO} (t : LamX.Tabs T H) (hl : H l = some (.lst xs)) : LamX.Tabs T (upd H l o) := fun p hp => by
  obtain ⟨ps, h1, h2, h3⟩ := t p hp
  have n1 : p.1 ≠ l := fun z => by
    rw [z, hl] at h1
    cases h1
  refine ⟨ps, by rw [upd_ne n1]; exact h1, h2, fun pos cv hc => ?_⟩
  obtain ⟨c, e1, e2⟩ := h3 pos cv hc
  have n2 : c ≠ l := fun z => by
    rw [z, hl] at e2
    cases e2
  exact ⟨c, e1, by rw [upd_ne n2]; exact e2⟩
def nat2 (ns : List Nat) : List Int := ns.map fun n : Nat => (n : Int)
theorem nat2_len (ns : List Nat) : (nat2 ns).length = ns.length := List.length_map ..
/-- letters as they may be, in a text as long as it may be -/
def Okn (ns : List Nat) : Prop := (∀ n ∈ ns, n ≤ 999999) ∧ ns.length ≤ 4096
/-- v is a text -/
def TxtAt (H : Hp) (v : V) : Prop := ∃ (p : Addr) (ns : List Nat), v = .ref p ∧ H p = some (.tup ((nat2 ns).map V.int)) ∧ Okn ns
theorem TxtAt.same {H H' : Hp} {v : V} (h : TxtAt H v) (s : Same H H') : TxtAt H' v := h.elim fun p z => z.elim fun ns z => ⟨p, ns, z.1, s _ _ z.2.1, z.2.2⟩
theorem TxtAt.tabs {H H' : Hp} {v : V} (h : TxtAt H v) (s : LamX.ExtN H H') : TxtAt H' v := h.elim fun p z => z.elim fun ns z => ⟨p, ns, z.1, s _ _ z.2.1 (fun _ z => nomatch z), z.2.2⟩
theorem TxtAt.but {H H' : Hp} {v : V} {d c : Addr} {t : Nat} (h : TxtAt H v) (src : Src H d c t) (s : But d H H') : TxtAt H' v := by
  obtain ⟨p, ns, e, hp, ok⟩ := h
  obtain ⟨kvs, hd⟩ := src.dict
  exact ⟨p, ns, e, s _ _ (ne_of hp hd (by intro z; cases z)) hp, ok⟩
theorem TxtAt.put {H : Hp} {v : V} {l : Addr} {xs : List V} {o : HO} (h : TxtAt H v) (hl : H l = some (.lst xs)) : TxtAt (upd H l o) v := by
  obtain ⟨p, ns, e, hp, ok⟩ := h
  exact ⟨p, ns, e, by rw [upd_ne (ne_of hp hl (by intro z; cases z))]; exact hp, ok⟩
theorem dx_ints {N : Addr → Prop} {H : Hp} : ∀ {xs : List V} {ns : List Int}, DxAll N H xs (ns.map PyData.int) → xs = ns.map V.int
  | [], [], _ => rfl
  | [], _ :: _, h => nomatch h
  | _ :: _, [], h => nomatch h
  | x :: xs, n :: ns, .cons a b => by
    cases a
    rw [dx_ints b]
    rfl
theorem txt_of {N : Addr → Prop} {H : Hp} {v : V} {ns : List Nat} (h : Dx N H v (.tuple ((nat2 ns).map PyData.int))) (ok : Okn ns) : TxtAt H v := by
  obtain ⟨a, xs, e, ha, _, hx⟩ := tpl_dx h
  rw [dx_ints hx] at ha
  exact ⟨a, ns, e, ha, ok⟩
/-- t * n, written -/
theorem dx_rep {N : Addr → Prop} {H : Hp} {xs : List V} {ds : List PyData} (h : DxAll N H xs ds) : ∀ n : Nat, DxAll N H (List.replicate n xs).flatten (List.replicate n ds).flatten
  | 0 => .nil
  | n + 1 => by
    rw [List.replicate_succ, List.replicate_succ, List.flatten_cons, List.flatten_cons]
    exact h.append (dx_rep h n)
def repD (n : Nat) (ds : List PyData) : PyData := .tuple (List.replicate n ds).flatten
theorem lit_rep {K : PySem.W.Frag} {te : TE} {ds : List PyData} {i : Int} (n : Nat) (h : LitE te (.tuple ds)) (hi : i = (n : Int)) (hne : ds ≠ []) (hl : ds.length ≤ 10) (h2 : 2 ≤ n) (hn : n ≤ 100000) : LitE (tOp (rRepN K) te (tC (.int i))) (repD n ds) := fun σ H Q q => h σ H _ fun H1 v s1 hv => by
  obtain ⟨a, xs, rfl, ha, na, hx⟩ := tpl_dx hv
  have el := hx.length
  subst hi
  refine ⟨a, n, xs, rfl, rfl, SqT.of ha, fun z => ?_, h2, hn, by omega, fun p np => ?_⟩
  · rw [z] at el
    exact hne (List.eq_nil_of_length_eq_zero el.symm)
  · have s2 := same_new (o := .tup (List.replicate n xs).flatten) np
    exact q _ _ (s1.trans s2) (.tup upd_same (fun z => z (s1.free np)) (dx_rep (hx.same s2) n))
/-- (x,) * i, written -/
theorem lit_rep1 {K : PySem.W.Frag} {x i : Int} (h : 2 ≤ i ∧ i ≤ 100000) : LitE (tOp (rRepN K) (tTup (tCons (tC (.int x)) tNil)) (tC (.int i))) (repD i.toNat [.int x]) :=
  lit_rep i.toNat (lit_tup (lit_cons lit_int lit_nil) (by show 1 ≤ 1000; decide)) (by omega) (fun z => by cases z) (by show 1 ≤ 10; decide) (by omega) (by omega)
theorem rep_one {α : Type} (x : α) : ∀ n : Nat, (List.replicate n [x]).flatten = List.replicate n x
  | 0 => rfl
  | n + 1 => by
    rw [List.replicate_succ, List.flatten_cons, rep_one x n, List.replicate_succ]
    rfl
theorem rep_nat2 (n k : Nat) : (List.replicate n [PyData.int ((k : Nat) : Int)]).flatten = (nat2 (List.replicate n k)).map PyData.int := by
  rw [rep_one, nat2, List.map_replicate, List.map_replicate]
theorem repD_nat2 (n k : Nat) : repD n [PyData.int ((k : Nat) : Int)] = .tuple ((nat2 (List.replicate n k)).map PyData.int) := congrArg PyData.tuple (rep_nat2 n k)
theorem ok_rep {n k : Nat} (hn : n ≤ 4096) (hk : k ≤ 999999) : Okn (List.replicate n k) := ⟨fun m hm => by rw [(List.mem_replicate.mp hm).2]; exact hk, by rw [List.length_replicate]; exact hn⟩
/-! what repr says of texts and lists of one text -/
theorem txt_dx {H : Hp} {p : Addr} {ns : List Nat} (h : H p = some (.tup ((nat2 ns).map V.int))) : Dx (fun _ => False) H (.ref p) (.tuple ((nat2 ns).map PyData.int)) := tupI_dx h
theorem nat2_dig {ns : List Nat} (ok : Okn ns) : ∀ n ∈ nat2 ns, n.natAbs < 10 ^ 20 := fun n hn => by
  obtain ⟨m, hm, rfl⟩ := List.mem_map.mp hn
  have := ok.1 m hm
  omega
theorem txt_fit {ns : List Nat} (ok : Okn ns) : Fit 20 10000 1 (.tuple ((nat2 ns).map PyData.int)) := (FitAll.tup ((ints_fitAll (B := 20) (nat2_dig ok)).mono (Nat.le_refl _) (by rw [nat2_len]; have := ok.2; omega) (Nat.le_refl _)))
theorem one_fit {ns : List Nat} (ok : Okn ns) : Fit 20 10001 2 (.list [.tuple ((nat2 ns).map PyData.int)]) := FitAll.lst (txt_fit ok).one
theorem one_dx {H : Hp} {l p : Addr} {ns : List Nat} (hl : H l = some (.lst [.ref p])) (hp : H p = some (.tup ((nat2 ns).map V.int))) : Dx (fun _ => False) H (.ref l) (.list [.tuple ((nat2 ns).map PyData.int)]) := .lst hl (fun z => z) (.cons (txt_dx hp) .nil)
theorem txt_text {ns : List Nat} (ok : Okn ns) : textD (.tuple ((nat2 ns).map PyData.int)) = true := text_ints (fun n hn => by
  obtain ⟨m, hm, rfl⟩ := List.mem_map.mp hn
  have := ok.1 m hm
  omega) (by rw [nat2_len]; exact ok.2)
theorem txt_bulk {ns : List Nat} (ok : Okn ns) : (PyData.tuple ((nat2 ns).map PyData.int)).bulk ≤ 1000000 := Nat.le_trans (txt_fit ok).bulk (by decide)
theorem str_fit {cs : List Nat} (h : ∀ c ∈ cs, c < 128) (hl : cs.length ≤ 100000) : Fit 20 100000 1 (.str (tx cs)) := ⟨by simp only [okD]; exact h, by simp only [PyData.bulk]; rw [tx_size]; exact hl, by simp only [PyData.depth]; exact Nat.zero_le _⟩
end Mo

/-! ### rule sets: the mathematics -/
namespace Mo
/-- images of letters: none empty, of letters that have images -/
structure Ims (ims : List (List Nat)) : Prop where
  ne : ∀ im ∈ ims, im ≠ []
  lt : ∀ im ∈ ims, ∀ l ∈ im, l < ims.length
  few : ∀ im ∈ ims, im.length ≤ 64
  n1 : 1 ≤ ims.length
  n2 : ims.length ≤ 400
def img (ims : List (List Nat)) (l : Nat) : List Nat := ims.getD l []
/-- what a letter becomes -/
def word (ims : List (List Nat)) : Nat → Nat → List Nat
  | 0, l => [l]
  | s + 1, l => (img ims l).flatMap (word ims s)
def len (ims : List (List Nat)) (s l : Nat) : Nat := (word ims s l).length
theorem len_succ (ims : List (List Nat)) (s l : Nat) : len ims (s + 1) l = ((img ims l).map (len ims s)).sum := by
  unfold len
  show ((img ims l).flatMap (word ims s)).length = _
  rw [List.length_flatMap]
theorem img_mem {ims : List (List Nat)} {l : Nat} (h : l < ims.length) : img ims l ∈ ims := by
  unfold img
  rw [List.getD_eq_getElem?_getD, List.getElem?_eq_getElem h]
  exact List.getElem_mem h
theorem img_at {ims : List (List Nat)} {l : Nat} (h : l < ims.length) : ims[l]? = some (img ims l) := by
  unfold img
  rw [List.getD_eq_getElem?_getD, List.getElem?_eq_getElem h]
  rfl
theorem word_lt {ims : List (List Nat)} (ok : Ims ims) : ∀ (s : Nat) {l : Nat}, l < ims.length → ∀ x ∈ word ims s l, x < ims.length
  | 0, l, h, x, hx => by
    rw [List.mem_singleton.mp hx]
    exact h
  | s + 1, l, h, x, hx => by
    obtain ⟨a, ha, hx⟩ := List.mem_flatMap.mp hx
    exact word_lt ok s (ok.lt _ (img_mem h) a ha) x hx
theorem len_pos {ims : List (List Nat)} (ok : Ims ims) : ∀ (s : Nat) {l : Nat}, l < ims.length → 0 < len ims s l
  | 0, _, _ => Nat.one_pos
  | s + 1, l, h => by
    rw [len_succ]
    cases e : img ims l with
    | nil => exact absurd e (ok.ne _ (img_mem h))
    | cons a r =>
      have := len_pos ok s (ok.lt _ (img_mem h) a (by rw [e]; exact List.mem_cons_self))
      rw [List.map_cons, List.sum_cons]
      omega
/-- the last replacement -/
theorem word_last (ims : List (List Nat)) : ∀ (s l : Nat), word ims (s + 1) l = (word ims s l).flatMap (img ims)
  | 0, l => by
    show (img ims l).flatMap (fun a => [a]) = [l].flatMap (img ims)
    simp
  | s + 1, l => by
    show (img ims l).flatMap (word ims (s + 1)) = ((img ims l).flatMap (word ims s)).flatMap (img ims)
    rw [List.flatMap_assoc]
    exact congrArg (List.flatMap · (img ims l)) (funext fun a => word_last ims s a)
/-- the letter of the image that holds an index, and the index in it -/
def within (r : Nat → Nat) : List Nat → Nat → Nat × Nat
  | [], i => (0, i)
  | a :: t, i => if i < r a then (a, i) else within r t (i - r a)
def letAt (ims : List (List Nat)) : Nat → Nat → Nat → Nat
  | 0, l, _ => l
  | s + 1, l, i => letAt ims s (within (len ims s) (img ims l) i).1 (within (len ims s) (img ims l) i).2
theorem within_in {r : Nat → Nat} : ∀ {im : List Nat} {i : Nat}, i < (im.map r).sum → (within r im i).1 ∈ im ∧ (within r im i).2 < r (within r im i).1
  | [], i, h => absurd h (Nat.not_lt_zero _)
  | a :: t, i, h => by
    show (if i < r a then (a, i) else within r t (i - r a)).1 ∈ a :: t ∧ _
    by_cases c : i < r a
    · have e : within r (a :: t) i = (a, i) := if_pos c
      rw [e, if_pos c]
      exact ⟨List.mem_cons_self, c⟩
    · have e : within r (a :: t) i = within r t (i - r a) := if_neg c
      rw [e, if_neg c]
      rw [List.map_cons, List.sum_cons] at h
      obtain ⟨h1, h2⟩ := within_in (r := r) (im := t) (i := i - r a) (by omega)
      exact ⟨List.mem_cons_of_mem _ h1, h2⟩
theorem within_flat {f : Nat → List Nat} : ∀ {im : List Nat} {i : Nat}, i < (im.map fun a => (f a).length).sum → (im.flatMap f)[i]? = (f (within (fun a => (f a).length) im i).1)[(within (fun a => (f a).length) im i).2]?
  | [], i, h => absurd h (Nat.not_lt_zero _)
  | a :: t, i, h => by
    rw [List.flatMap_cons]
    by_cases c : i < (f a).length
    · have e : within (fun a => (f a).length) (a :: t) i = (a, i) := if_pos c
      rw [e, List.getElem?_append_left c]
    · have e : within (fun a => (f a).length) (a :: t) i = within (fun a => (f a).length) t (i - (f a).length) := if_neg c
      rw [List.map_cons, List.sum_cons] at h
      rw [e, List.getElem?_append_right (by omega), within_flat (by omega)]
theorem letAt_word {ims : List (List Nat)} (ok : Ims ims) : ∀ (s : Nat) {l i : Nat}, l < ims.length → i < len ims s l → (word ims s l)[i]? = some (letAt ims s l i)
  | 0, l, i, h, hi => by
    have : i = 0 := by
      have : i < 1 := hi
      omega
    subst this
    rfl
  | s + 1, l, i, h, hi => by
    rw [len_succ] at hi
    have w := within_in hi
    have f := within_flat (f := word ims s) hi
    show ((img ims l).flatMap (word ims s))[i]? = _
    rw [f]
    exact letAt_word ok s (ok.lt _ (img_mem h) _ w.1) w.2
theorem letAt_lt {ims : List (List Nat)} (ok : Ims ims) {s l i : Nat} (h : l < ims.length) (hi : i < len ims s l) : letAt ims s l i < ims.length :=
  word_lt ok s h _ (List.mem_of_getElem? (letAt_word ok s h hi))
/-- the row of s replacements -/
def rowL (ims : List (List Nat)) (s : Nat) : List Nat := (List.range ims.length).map (len ims s)
theorem rowL_at {ims : List (List Nat)} {s l : Nat} (h : l < ims.length) : (rowL ims s)[l]? = some (len ims s l) := by
  unfold rowL
  rw [List.getElem?_map, List.getElem?_range h]
  rfl
theorem rowL_len (ims : List (List Nat)) (s : Nat) : (rowL ims s).length = ims.length := by
  unfold rowL
  rw [List.length_map, List.length_range]
/-- where the image of the letter at m begins after the last replacement -/
def hereL (ims : List (List Nat)) (W : List Nat) (m : Nat) : Nat := ((W.take m).map fun a => (img ims a).length).sum
theorem last_at {ims : List (List Nat)} {W : List Nat} {m k a : Nat} (hm : W[m]? = some a) (hk : k < (img ims a).length) : (W.flatMap (img ims))[hereL ims W m + k]? = (img ims a)[k]? := by
  have hlt := (List.getElem?_eq_some_iff.mp hm).1
  have e : W = W.take m ++ a :: W.drop (m + 1) := by
    have e2 : W[m] = a := (List.getElem?_eq_some_iff.mp hm).2
    rw [← e2, ← List.drop_eq_getElem_cons hlt, List.take_append_drop]
  have hl : ((W.take m).flatMap (img ims)).length = hereL ims W m := by
    rw [List.length_flatMap]
    rfl
  have e3 : W.flatMap (img ims) = (W.take m).flatMap (img ims) ++ (img ims a ++ (W.drop (m + 1)).flatMap (img ims)) := by
    conv => lhs; rw [e]
    rw [List.flatMap_append, List.flatMap_cons]
  rw [e3, List.getElem?_append_right (by omega), hl, show hereL ims W m + k - hereL ims W m = k by omega, List.getElem?_append_left hk]
theorem here_succ {ims : List (List Nat)} {W : List Nat} {m a : Nat} (hm : W[m]? = some a) : hereL ims W (m + 1) = hereL ims W m + (img ims a).length := by
  unfold hereL
  rw [List.take_add_one, hm, List.map_append, List.sum_append]
  simp
theorem here_lt {ims : List (List Nat)} {W : List Nat} {m k a : Nat} (hm : W[m]? = some a) (hk : k < (img ims a).length) : hereL ims W m + k < (W.flatMap (img ims)).length := by
  have := last_at (ims := ims) hm hk
  rw [List.getElem?_eq_getElem hk] at this
  exact (List.getElem?_eq_some_iff.mp this).1
/-- where the letters after the first k parts begin -/
def partL (ims : List (List Nat)) (s : Nat) (im : List Nat) (k : Nat) : Nat := ((im.take k).map (len ims s)).sum
end Mo

/-! ### max of a tuple of ints -/
namespace Mo
open PySem PySem.Spec PyProof.Rows L2
def rMaxT (K : PySem.W.Frag) : List V → Hp → VK → Prop := fun vs H Q => ∃ (a : Addr) (ns : List Int), vs = [V.ref a] ∧ SqT K H a (ns.map V.int) ∧ 0 < ns.length ∧ ∀ m, m ∈ ns → (∀ y, y ∈ ns → y ≤ m) → Q (.int m) H
theorem cr_maxT {X : Cx} (hc : X.calm = true) : CallR X (.builtin "max") (rMaxT X.K) := by
  intro pins s σ H vs us Q I r h
  obtain ⟨a, ns, rfl, hs, n0, q⟩ := h
  obtain ⟨its, rv, pt, _⟩ := I.tuple hs
  have pt : s.heap.IsTuple a its.toArray := pt
  obtain ⟨zs, ez⟩ := rv.ints.allInts.items
  have en : numsOf (intItems zs).toList = ns := by
    rw [← ez]
    exact rv.ints.numsOf
  rw [nums_intItems] at en
  subst en
  rw [ez] at pt
  have n1 : 0 < zs.size := by simpa using n0
  have la : a < s.heap.objs.size := by
    obtain ⟨_, z, _⟩ := pt
    exact Heap.lt_size z
  rw [Vals.ref1 r]
  refine call_max_walk (wpAny_pyIter_tuple pt ⟨s.heap.objs.size, [s.heap.objs.size, a], [s.heap.objs.size], _, _, _, _, rfl, Walks.tuple (A := X.A.in1) (I.ok.hd hc) s.heap.objs.size a (Nat.ne_of_lt la) (intItems zs), ?_, fun b hb => ?_, ?_, CmpOf.ints_gt (numAt zs) (fun _ _ z => intItems_at z), fun v h' tk hP hk => ?_⟩)
  · exact ⟨⟨_, Heap.get?_push_size _ rfl, rfl, rfl⟩, pt.push _⟩
  · show b < (s.heap.push _).objs.size
    rw [Heap.size_push]
    rcases List.mem_cons.mp hb with z | hb
    · rw [z]
      exact Nat.lt_succ_self _
    · rw [List.mem_singleton.mp hb]
      exact Nat.lt_succ_of_lt la
  · simpa [intItems] using n1
  · have hP : (intItems zs)[argBest (fun i j => decide (numAt zs i > numAt zs j)) ((intItems zs).size - 1)]? = some v := hP
    have es : (intItems zs).size - 1 = zs.size - 1 := by simp [intItems]
    rw [es] at hP
    obtain ⟨t, rfl⟩ := intItems_at hP
    obtain ⟨b1, b2⟩ := argBest_gt (numAt zs) (zs.size - 1)
    refine ⟨.int _, H, I.kept (t' := tk) (fun b o z => hk b o (fun hm => ?_) (Heap.get?_push_of_some _ z)), ⟨t, rfl⟩, q _ ?_ fun y hy => ?_⟩
    · have z1 := Heap.lt_size z
      rw [List.mem_singleton.mp hm] at z1
      exact absurd z1 (Nat.lt_irrefl _)
    · rw [numAt_eq]
      exact PySem.getD_mem (by rw [List.length_map, Array.length_toList]; omega)
    · obtain ⟨j, hj, rfl⟩ := mem_getD hy
      rw [List.length_map, Array.length_toList] at hj
      rw [← numAt_eq]
      exact b2 j (by omega)
theorem cr_sumK {X : Cx} {K : PySem.W.Frag} (h : X.K = K) (hc : X.calm = true) : CallR X (.builtin "sum") (rSum K) := by
  subst h
  exact cr_sum hc
end Mo

/-! ### all but the pen's dict and the tables stands: one relation for what is made, drawn and called -/
namespace Mo
open PySem PySem.Spec PyProof.Rows L2
def Kp (d : Addr) (H H' : Hp) : Prop := ∀ b o, b ≠ d → H b = some o → (∀ ps, o ≠ .tbl ps) → H' b = some o
theorem Kp.refl (d : Addr) (H : Hp) : Kp d H H := fun _ _ _ e _ => e
theorem Kp.trans {d : Addr} {H H' H2 : Hp} (h : Kp d H H') (g : Kp d H' H2) : Kp d H H2 := fun b o n e t => g b o n (h b o n e t) t
theorem Kp.same {d : Addr} {H H' : Hp} (s : Same H H') : Kp d H H' := fun b o _ e _ => s b o e
theorem Kp.but {d : Addr} {H H' : Hp} (s : But d H H') : Kp d H H' := fun b o n e _ => s b o n e
theorem Kp.tabs {d : Addr} {H H' : Hp} (s : LamX.ExtN H H') : Kp d H H' := fun b o _ e t => s b o e t
theorem Kp.lst {d b : Addr} {H H' : Hp} {xs : List V} (s : Kp d H H') (n : b ≠ d) (h : H b = some (.lst xs)) : H' b = some (.lst xs) := s _ _ n h fun _ z => nomatch z
theorem Kp.tup {d b : Addr} {H H' : Hp} {xs : List V} (s : Kp d H H') (n : b ≠ d) (h : H b = some (.tup xs)) : H' b = some (.tup xs) := s _ _ n h fun _ z => nomatch z
mutual
theorem Dx.kp {d : Addr} {H H' : Hp} (s : Kp d H H') : ∀ {v : V} {e : PyData}, Dx (fun x => x = d) H v e → Dx (fun x => x = d) H' v e
  | _, _, .non => .non
  | _, _, .bl b => .bl b
  | _, _, .int i => .int i
  | _, _, .str x => .str x
  | _, _, .lst h n t => .lst (s _ _ n h fun _ z => nomatch z) n (DxAll.kp s t)
  | _, _, .tup h n t => .tup (s _ _ n h fun _ z => nomatch z) n (DxAll.kp s t)
  | _, _, .dct h n t => .dct (s _ _ n h fun _ z => nomatch z) n (DxAll.kp s t)
theorem DxAll.kp {d : Addr} {H H' : Hp} (s : Kp d H H') : ∀ {v : List V} {e : List PyData}, DxAll (fun x => x = d) H v e → DxAll (fun x => x = d) H' v e
  | _, _, .nil => .nil
  | _, _, .cons h t => .cons (Dx.kp s h) (DxAll.kp s t)
end
theorem ne_dk {d b : Addr} {H : Hp} {kvs : List (Key × V)} {o : HO} (h : H d = some (.dK kvs)) (hb : H b = some o) (n : ∀ kvs, o ≠ .dK kvs) : b ≠ d := fun z => by
  rw [z, h] at hb
  exact n _ (Option.some.inj hb).symm
end Mo

/-! ### rule sets: where they stand -/
namespace Mo
open PySem PySem.Spec PyProof.Rows L2
theorem n2v_len (im : List Nat) : ((nat2 im).map V.int).length = im.length := by rw [List.length_map, nat2_len]
theorem n2v_at {im : List Nat} {k n : Nat} (h : im[k]? = some n) : ((nat2 im).map V.int)[k]? = some (.int (n : Int)) := by
  unfold nat2
  rw [List.getElem?_map, List.getElem?_map, h]
  rfl
theorem n2v_get {im : List Nat} {k : Nat} {v : V} (h : ((nat2 im).map V.int)[k]? = some v) : ∃ n, im[k]? = some n ∧ v = .int (n : Int) := by
  unfold nat2 at h
  rw [List.getElem?_map, List.getElem?_map] at h
  cases e : im[k]? with
  | none => rw [e] at h; cases h
  | some n =>
    rw [e] at h
    exact ⟨n, rfl, (Option.some.inj h).symm⟩
theorem n2v_snoc (im : List Nat) (n : Nat) : (nat2 (im ++ [n])).map V.int = (nat2 im).map V.int ++ [.int (n : Int)] := by
  unfold nat2
  rw [List.map_append, List.map_append]
  rfl
theorem nat2_sum : ∀ l : List Nat, (nat2 l).sum = ((l.sum : Nat) : Int)
  | [] => rfl
  | n :: r => by
    show (n : Int) + (nat2 r).sum = _
    rw [nat2_sum r, List.sum_cons]
    omega
/-- tuples (or lists) of letters, one after the other -/
structure ImsAt (H : Hp) (ps : List Addr) (ims : List (List Nat)) : Prop where
  len : ps.length = ims.length
  el : ∀ (k : Nat) (p : Addr) (im : List Nat), ps[k]? = some p → ims[k]? = some im → H p = some (.tup ((nat2 im).map V.int))
theorem ImsAt.same {H H' : Hp} {ps : List Addr} {ims : List (List Nat)} (h : ImsAt H ps ims) (s : Same H H') : ImsAt H' ps ims := ⟨h.len, fun k p im a b => s _ _ (h.el k p im a b)⟩
theorem ImsAt.by {H H' : Hp} {ps : List Addr} {ims : List (List Nat)} (h : ImsAt H ps ims) (s : ∀ p xs, H p = some (.tup xs) → H' p = some (.tup xs)) : ImsAt H' ps ims := ⟨h.len, fun k p im a b => s _ _ (h.el k p im a b)⟩
/-- the tuple of letter l -/
theorem ImsAt.at {H : Hp} {ps : List Addr} {ims : List (List Nat)} (h : ImsAt H ps ims) {l : Nat} (hl : l < ims.length) : ∃ p, ps[l]? = some p ∧ H p = some (.tup ((nat2 (img ims l)).map V.int)) := by
  have e : ps[l]? = some (ps[l]'(by rw [h.len]; exact hl)) := List.getElem?_eq_getElem (by rw [h.len]; exact hl)
  exact ⟨_, e, h.el l _ _ e (img_at hl)⟩
/-- a rule set -/
def RlsAt (C : Addr) (H : Hp) (r : Addr) (ims : List (List Nat)) : Prop := ∃ (dx t : Addr) (ps : List Addr), H r = some (.ins C dx [(("table" : Str), .ref t)]) ∧ H t = some (.tup (ps.map V.ref)) ∧ ImsAt H ps ims
theorem RlsAt.same {C : Addr} {H H' : Hp} {r : Addr} {ims : List (List Nat)} (h : RlsAt C H r ims) (s : Same H H') : RlsAt C H' r ims := by
  obtain ⟨dx, t, ps, h1, h2, h3⟩ := h
  exact ⟨dx, t, ps, s _ _ h1, s _ _ h2, h3.same s⟩
theorem RlsAt.but {C d c : Addr} {n : Nat} {H H' : Hp} {r : Addr} {ims : List (List Nat)} (h : RlsAt C H r ims) (x : Nxt H d c n) (s : But d H H') : RlsAt C H' r ims := by
  obtain ⟨dx, t, ps, h1, h2, h3⟩ := h
  obtain ⟨_, _, hd, _⟩ := x
  exact ⟨dx, t, ps, s _ _ (ne_dk hd h1 (fun _ z => nomatch z)) h1, s _ _ (ne_dk hd h2 (fun _ z => nomatch z)) h2, h3.by fun p xs e => s _ _ (ne_dk hd e (fun _ z => nomatch z)) e⟩
theorem ref_at {ps : List Addr} {k : Nat} {p : Addr} (h : ps[k]? = some p) : (ps.map V.ref)[k]? = some (.ref p) := by
  rw [List.getElem?_map, h]
  rfl
theorem ref_get {ps : List Addr} {k : Nat} {v : V} (h : (ps.map V.ref)[k]? = some v) : ∃ p, ps[k]? = some p ∧ v = .ref p := by
  rw [List.getElem?_map] at h
  cases e : ps[k]? with
  | none => rw [e] at h; cases h
  | some p =>
    rw [e] at h
    exact ⟨p, rfl, (Option.some.inj h).symm⟩
/-- lists of rows, one after the other -/
structure RowsAt (H : Hp) (qs : List Addr) (rows : List (List Nat)) : Prop where
  len : qs.length = rows.length
  el : ∀ (k : Nat) (p : Addr) (row : List Nat), qs[k]? = some p → rows[k]? = some row → H p = some (.lst ((nat2 row).map V.int))
theorem RowsAt.same {H H' : Hp} {qs : List Addr} {rows : List (List Nat)} (h : RowsAt H qs rows) (s : Same H H') : RowsAt H' qs rows := ⟨h.len, fun k p im a b => s _ _ (h.el k p im a b)⟩
/-- the rows of 0 to s replacements -/
def rowsL (ims : List (List Nat)) (s : Nat) : List (List Nat) := (List.range (s + 1)).map (rowL ims)
theorem rowsL_len (ims : List (List Nat)) (s : Nat) : (rowsL ims s).length = s + 1 := by
  unfold rowsL
  rw [List.length_map, List.length_range]
theorem rowsL_at {ims : List (List Nat)} {s k : Nat} (h : k < s + 1) : (rowsL ims s)[k]? = some (rowL ims k) := by
  unfold rowsL
  rw [List.getElem?_map, List.getElem?_range h]
  rfl
theorem rowsL_succ (ims : List (List Nat)) (s : Nat) : rowsL ims (s + 1) = rowsL ims s ++ [rowL ims (s + 1)] := by
  unfold rowsL
  rw [List.range_succ (n := s + 1), List.map_append]
  rfl
theorem row0 (ims : List (List Nat)) : rowL ims 0 = List.replicate ims.length 1 := by
  unfold rowL
  rw [List.eq_replicate_iff]
  refine ⟨by rw [List.length_map, List.length_range], fun b hb => ?_⟩
  obtain ⟨l, _, rfl⟩ := List.mem_map.mp hb
  rfl
theorem row_next {ims : List (List Nat)} {s k : Nat} (hk : k < ims.length) : (rowL ims (s + 1)).take (k + 1) = (rowL ims (s + 1)).take k ++ [((img ims k).map (len ims s)).sum] := by
  rw [List.take_add_one, rowL_at hk, len_succ]
  rfl
theorem ref_last {ps : List Addr} {i : Nat} {p : Addr} (hl : ps.length = i + 1) (h : ps[i]? = some p) : atI (ps.map V.ref) (-1) = some (.ref p) := by
  have e : ps = ps.take i ++ [p] := by
    conv => lhs; rw [← List.take_length (l := ps), hl, List.take_add_one, h]
    rfl
  rw [e, List.map_append]
  exact atI_last _ _
theorem cut_last (xs : List V) : cutV xs none (some (-1)) = xs.take (xs.length - 1) := by
  have e : HT.sIx xs.length xs.length (some (-1)) = xs.length - 1 := by
    unfold HT.sIx
    simp
    omega
  unfold cutV
  rw [e, HT.sIx_none, List.drop_zero, Nat.sub_zero]
end Mo

/-! ### growing letters; images cut to four letters -/
namespace Mo
open PySem PySem.Spec PyProof.Rows L2
def growB (ims : List (List Nat)) (l : Nat) : Bool := decide ((img ims l)[0]? = some l) && decide (1 < (img ims l).length)
theorem grow_img {ims : List (List Nat)} {l : Nat} (h : growB ims l = true) : ∃ b r, img ims l = l :: b :: r := by
  unfold growB at h
  rw [Bool.and_eq_true] at h
  have h1 := of_decide_eq_true h.1
  have h2 := of_decide_eq_true h.2
  cases e : img ims l with
  | nil => rw [e] at h2; cases h2
  | cons a r =>
    rw [e] at h1 h2
    obtain rfl : a = l := Option.some.inj h1
    cases r with
    | nil => exact absurd h2 (Nat.lt_irrefl _)
    | cons b r => exact ⟨b, r, rfl⟩
theorem grow_len {ims : List (List Nat)} (ok : Ims ims) {s l : Nat} (hl : l < ims.length) (h : growB ims l = true) : len ims s l < len ims (s + 1) l := by
  obtain ⟨b, r, e⟩ := grow_img h
  rw [len_succ, e, List.map_cons, List.map_cons, List.sum_cons, List.sum_cons]
  have := len_pos ok s (ok.lt _ (img_mem hl) b (by rw [e]; simp))
  omega
theorem grow_at {ims : List (List Nat)} {s l i : Nat} (h : growB ims l = true) (hi : i < len ims s l) : letAt ims (s + 1) l i = letAt ims s l i := by
  obtain ⟨b, r, e⟩ := grow_img h
  show letAt ims s (within (len ims s) (img ims l) i).1 (within (len ims s) (img ims l) i).2 = _
  rw [e, show within (len ims s) (l :: b :: r) i = (l, i) from if_pos hi]
theorem n2v_flat (im : List Nat) : ((nat2 im).map V.int).all flatV = true := by
  rw [List.all_eq_true]
  intro v hv
  obtain ⟨n, _, rfl⟩ := List.mem_map.mp hv
  rfl
theorem neFl_selfL {K : PySem.W.Frag} {H : Hp} {p r : Addr} {xs : List V} {Q : VK} (hp : H p = some (.lst xs)) (hr : H r = some (.lst xs)) (hf : xs.all flatV = true) (q : Q (.bl false) H) : rNeFl K (.ref p) (.ref r) H Q :=
  ⟨xs, xs, ⟨p, r, rfl, rfl, hf, hf, .inl ⟨SqL.of hp, SqL.of hr⟩⟩, by rw [eqLs_self hf]; exact q⟩
theorem strs_flat (zs : List Str) : (zs.map V.str).all flatV = true := by
  rw [List.all_eq_true]
  intro v hv
  obtain ⟨n, _, rfl⟩ := List.mem_map.mp hv
  rfl
theorem bool_fits (b : Bool) : (PyData.bool b).showable = true ∧ (PyData.bool b).depth ≤ 40 ∧ (PyData.bool b).shown.length ≤ sizeLine := (odd_bl b).fit.repr (by decide) (by decide) (by decide) (by decide)
theorem inV_nats (k : Nat) (G : List Nat) : inV (.int (k : Int)) ((nat2 G).map V.int) = decide (k ∈ G) := by
  unfold inV nat2
  rw [List.map_map, List.any_map]
  by_cases h : k ∈ G
  · rw [decide_eq_true h]
    refine List.any_eq_true.mpr ⟨k, h, ?_⟩
    show ((k : Int) == (k : Int)) = true
    exact beq_self_eq_true _
  · rw [decide_eq_false h]
    cases q : G.any _ with
    | false => rfl
    | true =>
      obtain ⟨x, hx, e⟩ := List.any_eq_true.mp q
      have e : ((x : Int) == (k : Int)) = true := e
      have : x = k := Int.ofNat.inj (beq_iff_eq.mp e)
      exact absurd (this ▸ hx) h
/-- what is refused -/
structure Ref (d : Addr) (H : Hp) (v : V) (e : PyData) (a b : Int) : Prop where
  dx : Dx (fun x => x = d) H v e
  fit : Fit 30 100 3 e
  no : cntB a b e = false
theorem Ref.fit2 {d : Addr} {H : Hp} {v : V} {e : PyData} {a b : Int} (h : Ref d H v e a b) : Fit 40 1000 5 e := h.fit.mono (by decide) (by decide) (by decide)
theorem Ref.bulk {d : Addr} {H : Hp} {v : V} {e : PyData} {a b : Int} (h : Ref d H v e a b) : e.bulk ≤ 1000000 := Nat.le_trans h.fit.bulk (by decide)
theorem Ref.kp {d : Addr} {H H' : Hp} {v : V} {e : PyData} {a b : Int} (h : Ref d H v e a b) (s : Kp d H H') : Ref d H' v e a b := ⟨h.dx.kp s, h.fit, h.no⟩
theorem Ref.int {d : Addr} {H : Hp} {i a b : Int} (h : i.natAbs < 10 ^ 30) (ho : i < a ∨ b < i) : Ref d H (.int i) (.int i) a b := ⟨.int i, fitI h (by decide), cnt_out ho⟩
theorem Nxt.tabs {H H' : Hp} {d c : Addr} {t : Nat} (h : Nxt H d c t) (s : LamX.ExtN H H') : Nxt H' d c t := by
  obtain ⟨ns, r, h1, h2, h3⟩ := h
  exact ⟨ns, r, s _ _ h1 (fun _ z => nomatch z), s _ _ h2 (fun _ z => nomatch z), h3⟩
theorem Nxt.dict {H : Hp} {d c : Addr} {t : Nat} (h : Nxt H d c t) : ∃ kvs, H d = some (.dK kvs) := by
  obtain ⟨ns, r, h1, _⟩ := h
  exact ⟨_, h1⟩
/-- a rule set kept, its instance and tuples not the pen's dict -/
theorem RlsAt.kp {C d : Addr} {kvs : List (Key × V)} {H H' : Hp} {r : Addr} {ims : List (List Nat)} (h : RlsAt C H r ims) (hd : H d = some (.dK kvs)) (s : Kp d H H') : RlsAt C H' r ims := by
  obtain ⟨dx, t, ps, h1, h2, h3⟩ := h
  refine ⟨dx, t, ps, s _ _ (ne_dk hd h1 (fun _ z => nomatch z)) h1 (fun _ z => nomatch z), s.tup (ne_dk hd h2 (fun _ z => nomatch z)) h2, h3.by fun p xs e => s.tup (ne_dk hd e (fun _ z => nomatch z)) e⟩
theorem ImsAt.kp {d : Addr} {kvs : List (Key × V)} {H H' : Hp} {ps : List Addr} {ims : List (List Nat)} (h : ImsAt H ps ims) (hd : H d = some (.dK kvs)) (s : Kp d H H') : ImsAt H' ps ims :=
  h.by fun p xs e => s.tup (ne_dk hd e (fun _ z => nomatch z)) e
/-- the first four letters of each image -/
def cut4 (ims : List (List Nat)) : List (List Nat) := ims.map fun im => im.take 4
end Mo

namespace Mo
open PySem PySem.Spec PyProof.Rows L2
/-- the letter blocks -/
def bims (q : Nat) : List (List Nat) := (List.range (q * q)).map fun c => (List.range q).map (ltr q c)
theorem bims_len (q : Nat) : (bims q).length = q * q := by
  unfold bims
  rw [List.length_map, List.length_range]
theorem bims_img {q c : Nat} (h : c < q * q) : img (bims q) c = (List.range q).map (ltr q c) := by
  unfold img bims
  rw [List.getD_eq_getElem?_getD, List.getElem?_map, List.getElem?_range h]
  rfl
theorem bims_blk {q c : Nat} (h : c < q * q) : (nat2 (img (bims q) c)).map V.int = (blk q c).map V.int := by
  rw [bims_img h]
  unfold nat2 blk
  exact congrArg (List.map V.int) (List.map_map ..)
theorem bims_ok {q : Nat} (h4 : 4 ≤ q) (h19 : q ≤ 19) : Ims (bims q) := by
  have hq : q * q ≤ 19 * 19 := Nat.mul_le_mul h19 h19
  have hq4 : 4 * 4 ≤ q * q := Nat.mul_le_mul h4 h4
  have key : ∀ im ∈ bims q, ∃ c, im = (List.range q).map (ltr q c) := fun im m => by
    unfold bims at m
    obtain ⟨c, _, rfl⟩ := List.mem_map.mp m
    exact ⟨c, rfl⟩
  refine ⟨fun im m => ?_, fun im m x hx => ?_, fun im m => ?_, by rw [bims_len]; omega, by rw [bims_len]; omega⟩
  · obtain ⟨c, rfl⟩ := key im m
    refine List.length_pos_iff.mp ?_
    rw [List.length_map, List.length_range]
    omega
  · obtain ⟨c, rfl⟩ := key im m
    obtain ⟨j, hj, rfl⟩ := List.mem_map.mp hx
    rw [bims_len]
    exact ltr_lt (List.mem_range.mp hj)
  · obtain ⟨c, rfl⟩ := key im m
    rw [List.length_map, List.length_range]
    omega
theorem bims_lenI {q c : Nat} (h : c < q * q) : (img (bims q) c).length = q := by
  rw [bims_img h, List.length_map, List.length_range]
theorem sum_same {f : Nat → Nat} {c : Nat} : ∀ {xs : List Nat}, (∀ a ∈ xs, f a = c) → (xs.map f).sum = xs.length * c
  | [], _ => by simp
  | a :: t, h => by
    rw [List.map_cons, List.sum_cons, sum_same (fun b hb => h b (List.mem_cons_of_mem _ hb)), h a List.mem_cons_self, List.length_cons, Nat.succ_mul, Nat.add_comm]
/-- all lengths are powers of q -/
theorem bims_pow {q : Nat} (h4 : 4 ≤ q) (h19 : q ≤ 19) : ∀ (s : Nat) {c : Nat}, c < q * q → len (bims q) s c = q ^ s
  | 0, c, _ => rfl
  | s + 1, c, h => by
    have ok := bims_ok h4 h19
    rw [len_succ]
    rw [sum_same (fun a ha => by
      have := ok.lt _ (img_mem (by rw [bims_len]; exact h)) a ha
      rw [bims_len] at this
      exact bims_pow h4 h19 s this), bims_lenI h, Nat.pow_succ, Nat.mul_comm]
/-- a block of the avoiding text -/
def avn (q s n : Nat) : List Nat := (List.range n).map fun j => av q (s + j)
theorem avn_len (q s n : Nat) : (avn q s n).length = n := by
  unfold avn
  rw [List.length_map, List.length_range]
theorem avn_avs (q s n : Nat) : (nat2 (avn q s n)).map V.int = (avs q s n).map V.int := by
  unfold nat2 avn avs
  exact congrArg (List.map V.int) (List.map_map ..)
theorem avn_lt {q s n : Nat} (hq : 2 ≤ q) : ∀ z ∈ avn q s n, z < q * q := fun z hz => by
  unfold avn at hz
  obtain ⟨j, _, rfl⟩ := List.mem_map.mp hz
  exact av_lt hq _
theorem avn_app (q s m n : Nat) : avn q s m ++ avn q (s + m) n = avn q s (m + n) := by
  unfold avn
  rw [List.range_add, List.map_append, List.map_map]
  congr 1
  exact List.map_congr_left fun j _ => by
    show av q (s + m + j) = av q (s + (m + j))
    rw [Nat.add_assoc]
theorem avn_img {q : Nat} (hq : 2 ≤ q) (i : Nat) : img (bims q) (av q i) = avn q (q * i) q := by
  rw [bims_img (av_lt hq i)]
  unfold avn
  exact List.map_congr_left fun j hj => by
    rw [Nat.mul_comm q i, av_at hq i (List.mem_range.mp hj)]
/-- replacing a block of the avoiding text gives the block that begins q times as far -/
theorem avn_flat {q : Nat} (hq : 2 ≤ q) (s : Nat) : ∀ n, (avn q s n).flatMap (img (bims q)) = avn q (q * s) (q * n)
  | 0 => rfl
  | n + 1 => by
    have e : avn q s (n + 1) = avn q s n ++ [av q (s + n)] := by
      unfold avn
      rw [List.range_succ, List.map_append]
      rfl
    rw [e, List.flatMap_append, avn_flat hq s n]
    have e2 : [av q (s + n)].flatMap (img (bims q)) = avn q (q * s + q * n) q := by
      rw [List.flatMap_cons, List.flatMap_nil, List.append_nil, avn_img hq, Nat.mul_add]
    rw [e2, avn_app, Nat.mul_succ]
/-- 0 stands for a beginning of the avoiding text -/
theorem word_av {q : Nat} (hq : 2 ≤ q) : ∀ s, word (bims q) s 0 = avn q 0 (q ^ s)
  | 0 => by
    show [0] = [av q (0 + 0)]
    rw [Nat.zero_add, av_zero]
  | s + 1 => by
    rw [word_last, word_av hq s, avn_flat hq, Nat.mul_zero, Nat.pow_succ, Nat.mul_comm (q ^ s)]
theorem letAt_av {q : Nat} (h4 : 4 ≤ q) (h19 : q ≤ 19) {s i : Nat} (hi : i < q ^ s) : letAt (bims q) s 0 i = av q i := by
  have h0 : 0 < q * q := Nat.mul_pos (by omega) (by omega)
  have w := letAt_word (bims_ok h4 h19) s (l := 0) (i := i) (by rw [bims_len]; exact h0) (by rw [bims_pow h4 h19 s h0]; exact hi)
  rw [word_av (by omega)] at w
  unfold avn at w
  rw [List.getElem?_map, List.getElem?_range hi] at w
  have e : av q (0 + i) = letAt (bims q) s 0 i := Option.some.inj w
  rw [← e, Nat.zero_add]
theorem bims_grow0 {q : Nat} (h4 : 4 ≤ q) : growB (bims q) 0 = true := by
  have h0 : 0 < q * q := Nat.mul_pos (by omega) (by omega)
  unfold growB
  rw [bims_img h0, List.getElem?_map, List.getElem?_range (by omega), List.length_map, List.length_range, decide_eq_true (show 1 < q by omega)]
  have e : ltr q 0 0 = 0 := by
    unfold ltr
    simp
  show (decide (some (ltr q 0 0) = some 0) && true) = true
  rw [e]
  rfl
theorem bims_grow {q l : Nat} (h4 : 4 ≤ q) (h0 : 0 < l) (hl : l < q * q) : growB (bims q) l = false := by
  unfold growB
  rw [bims_img hl, List.getElem?_map, List.getElem?_range (by omega)]
  have e : ltr q l 0 = l / q := by
    unfold ltr
    rw [Nat.zero_mul, Nat.mul_zero, Nat.zero_add, Nat.add_zero]
    exact Nat.mod_eq_of_lt (Nat.div_lt_of_lt_mul hl)
  have ne : l / q ≠ l := Nat.ne_of_lt (Nat.div_lt_self h0 (by omega))
  show (decide (some (ltr q l 0) = some l) && _) = false
  rw [e, decide_eq_false (fun z => ne (Option.some.inj z)), Bool.false_and]
end Mo

namespace Mo
open PySem PySem.Spec PyProof.Rows L2
/-! enumerate(v), v a list or a tuple -/
theorem enum_made {v : Value} {o : Obj} {Hd : Heap → Prop} (B : Begins v o Hd) :
    Meets (Builtin.«enumerate.__new__» ⟨[.type "enumerate", v], []⟩) (fun _ R s => Hd s.heap ∧
      R (.ok (.ret (.ref (s.heap.push o).objs.size))) { s with heap := (s.heap.push o).push { cls := .type "enumerate", data := .fields #[.none, .bool false, .ref s.heap.objs.size, rawInt 0, .none, .none] } }) :=
  .of_wp fun prog w A R s hh => by
    obtain ⟨hp, g, dd, tk, os⟩ := s
    obtain ⟨b0, b1⟩ := hh
    have hsub := sub_enumerate
    have it1 : ∀ {A' : Around} {F : Value → Shared → Prop} {Q : Value → Shared → Prop}, Q (.ref hp.objs.size) ⟨hp.push o, g, dd, tk, os⟩ → wpAny (model prog w) A' (pyIter v) Q F ⟨hp, g, dd, tk, os⟩ := fun z => B.iter prog w _ _ ⟨hp, g, dd, tk, os⟩ _ b0 z
    wp_walk using it1
    refine wpAny_stack_any fun st => wpAny_pure ?_
    split
    · rename_i cc _ _ _ _ _
      by_cases ec : (cc == Value.type "enumerate") = true
      · rw [ec]
        wp_walk using it1
        exact ⟨_, rfl, b1⟩
      · rw [Bool.eq_false_iff.mpr ec]
        wp_walk using it1
        exact ⟨_, rfl, b1⟩
    · wp_walk using it1
      exact ⟨_, rfl, b1⟩
theorem enum_call {prog : Program} {w : World} {A : Around} {E : Value → Shared → Prop} {s : Shared} {v : Value} {o : Obj} {Hd : Heap → Prop} {Q : Value → Shared → Prop} (B : Begins v o Hd) (b0 : Hd s.heap)
    (q : ∀ h', IsEnum h' (s.heap.objs.size + 1) s.heap.objs.size 0 .none → h'.get? s.heap.objs.size = some o → (∀ b ob, s.heap.get? b = some ob → h'.get? b = some ob) → Q (.ref (s.heap.objs.size + 1)) { s with heap := h' }) :
    wpAny (model prog w) A (call (.type "enumerate") [v]) Q E s := by
  refine callType_new F.called_enumerate (by decide) (F.typeCall_enumerate_1 _) (F.newCall_enumerate_1 _) (fun ob => F.args_object_init_2 ob _) F.entry_enumerate_new (enum_made B) ⟨b0, ?_⟩
  have n1 : (s.heap.push o).objs.size = s.heap.objs.size + 1 := Heap.size_push ..
  have g1 := Heap.get?_push_size (s.heap.push o) (o := { cls := .type "enumerate", data := .fields #[.none, .bool false, .ref s.heap.objs.size, rawInt 0, .none, .none] }) rfl
  rw [n1] at g1
  show _ ∧ _
  rw [n1]
  exact ⟨⟨_, g1, rfl⟩, q _ g1 (Heap.get?_push_of_some _ (Heap.get?_push_size _ B.free)) fun b ob z => Heap.get?_push_of_some _ (Heap.get?_push_of_some _ z)⟩
def ItE (K : PySem.W.Frag) (a : Addr) (xs : List V) : It := ⟨fun i H => SqT K H a xs ∧ i < xs.length, fun i H v H' => ∃ T x, v = .ref T ∧ H T = none ∧ xs[i]? = some x ∧ H' = upd H T (.tup [.int (i : Nat), x]), fun i H => SqT K H a xs ∧ xs.length ≤ i⟩
theorem turn_enumT {P : Program} {w : World} {K : PySem.W.Frag} {elts : List Expr} {kk : Nat} {tpos : Pos} {xs : List V} {a e it : Addr} (n1 : e ≠ it) (n2 : a ≠ it) (n3 : e ≠ a) :
    Turn P w K (.Tuple elts kk tpos) (ItE K a xs) [e, it] e (fun i h => ((∃ old, IsEnum h e it ((i : Nat) : Int) old) ∧ h.IsTupleIter it a i) ∧ i ≤ xs.length) where
  mem := List.mem_cons_self ..
  obj := fun i h st b hb => by
    obtain ⟨⟨⟨old, he⟩, o, ho, hc, hd⟩, _⟩ := st
    rcases List.mem_cons.mp hb with rfl | hb
    · exact ⟨_, he, fun v q => nomatch q⟩
    · rw [List.mem_singleton.mp hb]
      exact ⟨o, ho, fun v q => by rw [hd] at q; cases q⟩
  keep := fun i h h' st k => by
    obtain ⟨⟨⟨old, he⟩, hi⟩, hle⟩ := st
    exact ⟨⟨⟨old, k e (List.mem_cons_self ..) _ he⟩, hi.at fun o q => k it (List.mem_cons_of_mem _ (List.mem_singleton.mpr rfl)) o q⟩, hle⟩
  item := by
    intro X hP hw hK hc i pins s σ H E I hf st hg
    subst hP hw hK
    obtain ⟨⟨⟨old, he⟩, hit⟩, hle⟩ := st
    obtain ⟨hq, hi⟩ := hg
    obtain ⟨its, rv, pt, _⟩ := I.tuple hq
    have pt : s.heap.IsTuple a its.toArray := pt
    have hsz : i < its.toArray.size := by rw [List.size_toArray, ← rv.length]; exact hi
    have le : e < s.heap.objs.size := Heap.lt_size he
    have li : it < s.heap.objs.size := by
      obtain ⟨_, z, _⟩ := hit
      exact Heap.lt_size z
    have nh : X.A.in1.handled = none := by simpa using I.ok.hd hc
    have nf : e ∉ [it, a] := fun z => by
      rcases List.mem_cons.mp z with z | z
      · exact n1 z
      · exact n3 (List.mem_singleton.mp z)
    refine wpAny_pyNext_enum_itemD (Draws.tuple nh it a n2 its.toArray) he ⟨hit, pt⟩ hsz n1 nf fun u h1 tk hu ho st1 hT _ hk => ?_
    obtain ⟨x, hx⟩ : ∃ x, xs[i]? = some x := ⟨xs[i], List.getElem?_eq_getElem hi⟩
    obtain ⟨u', hu', ru⟩ := rv.get hx
    have eu : u = u' := by
      have z : its.toArray[i]? = some u' := by simpa using hu'
      rw [hu] at z
      exact Option.some.inj z
    subst eu
    refine ⟨_, rfl, wpAny_letOwnedTupleGo_enum (s := { s with heap := h1, toks := tk + 1 }) ho fun h2 he2 sb => ?_⟩
    have hT2 := (sb.2 _ (Nat.ne_of_gt le)).trans hT
    have I1 : Inv X pins σ (upd H s.heap.objs.size (.tup [.int (i : Nat), x])) { s with heap := h2, toks := tk + 1 } := by
      refine I.turnedNew (ch := [e, it]) (fun b ob hb z => ?_) hf (Nat.le_refl _) ⟨by show 2 ≤ sizeLine; decide, [.int i tk, u], .cons ⟨_, rfl⟩ (.cons ru .nil), ⟨_, hT2, rfl, _, rfl⟩⟩
      have nb1 : b ≠ e := fun z => hb (by rw [z]; exact List.mem_cons_self ..)
      have nb2 : b ≠ it := fun z => hb (by rw [z]; exact List.mem_cons_of_mem _ (List.mem_singleton.mpr rfl))
      exact (sb.2 b nb1).trans (hk b ob nb1 nb2 z)
    refine ⟨.ref s.heap.objs.size, _, I1, rfl, ⟨_, x, rfl, I.hok.fresh (Nat.le_refl _), hx, rfl⟩, ⟨⟨⟨u, ?_⟩, st1.1.at fun o z => (sb.2 it (Ne.symm n1)).trans z⟩, hi⟩, fun b hb => ?_⟩
    · have e1 : ((i + 1 : Nat) : Int) = (i : Int) + 1 := Int.natCast_succ i
      rw [e1]
      exact he2
    · have lb : b < s.heap.objs.size := by
        rcases List.mem_cons.mp hb with rfl | hb
        · exact le
        · rw [List.mem_singleton.mp hb]
          exact li
      rw [upd_ne (Nat.ne_of_lt lb)]
      exact (hf b hb).1
  done := by
    intro X hP hw hK hc i pins s σ H E I hf st hg
    subst hP hw hK
    obtain ⟨⟨⟨old, he⟩, hit⟩, hle⟩ := st
    obtain ⟨hq, hge⟩ := hg
    obtain ⟨its, rv, pt, _⟩ := I.tuple hq
    have pt : s.heap.IsTuple a its.toArray := pt
    have ei : its.toArray.size = i := by
      rw [List.size_toArray, ← rv.length]
      omega
    obtain ⟨f0, f1, f2, f3, f4, f5⟩ := hf it (List.mem_cons_of_mem _ (List.mem_singleton.mpr rfl))
    have nh : X.A.in1.handled = none := by simpa using I.ok.hd hc
    exact wpAny_pyNext_enum_endD (Draws.tuple nh it a n2 its.toArray) he ⟨by rw [ei]; exact hit, pt⟩ fun h' eb => ⟨rfl, I.turned (t' := s.toks) (fun b o hb z => eb b o hb z) f0 f1 f3 f4 f5⟩
  self := fun A i s Q E st h => by
    obtain ⟨⟨⟨_, he⟩, _⟩, _⟩ := st
    exact wpAny_pyIter_enum he h
/-- enumerate of a list or of a tuple -/
def enJ (K : PySem.W.Frag) (a : Addr) (xs : List V) : Bool → It
  | true => ItE K a xs
  | false => Ite K a
def enO (xs : List V) : Bool → HO
  | true => .tup xs
  | false => .lst xs
def iEnumB (K : PySem.W.Frag) (ta : TA) : TI := fun σ H R => ta σ H fun vs H1 => ∃ (a : Addr) (xs : List V) (b : Bool), vs = [.ref a] ∧ H1 a = some (enO xs b) ∧ R (enJ K a xs b) H1
section
variable {X : Cx}
theorem pi_enumB {e : Expr} {ta : TA} {p pos tpos : Pos} {elts : List Expr} {kk : Nat} (hg : Gl X "enumerate") (hm : X.mg "enumerate" = none) (ha : PA X [e] ta) (hs : starEach [e] X.env = [(false, eval e X.env)] := by rfl) :
    PI X (.Tuple elts kk tpos) (.Call (.Name "enumerate" p) [e] [] pos) (iEnumB X.K ta) := by
  refine ⟨fun pins s σ H R I h => ?_⟩
  refine Call_ (ld_blt I hg hm boot_enumerate (PyProof.Rows.callWith_type1 (thn (ha.run pos pins s σ H _ I h) fun us s1 ⟨vs, H1, I1, r1, q1⟩ => ?_) hs rfl))
  obtain ⟨a, xs, b, rfl, hb, q⟩ := q1
  obtain ⟨u, rfl, ru⟩ := vals1 r1
  cases (show u = Value.ref a from ru)
  have far : ∀ b ∈ [s1.heap.objs.size + 1, s1.heap.objs.size], s1.heap.objs.size ≤ b := fun b hb => by
    rcases List.mem_cons.mp hb with rfl | hb
    · exact Nat.le_succ _
    · exact Nat.le_of_eq (List.mem_singleton.mp hb).symm
  cases b with
  | false =>
    obtain ⟨its, rv, pl, _⟩ := I1.list (SqL.of hb)
    exact enum_call (begins_list a its.toArray) pl.isList fun h' he hi hk => wpAny_pyIter_enum he
      ⟨s1.heap.objs.size + 1, _, _, _, H1, rfl, I1.kept (t' := s1.toks) hk, turn_enum a (s1.heap.objs.size + 1) s1.heap.objs.size, ⟨⟨.none, he⟩, ⟨_, hi, rfl, rfl⟩, Nat.succ_ne_self _⟩, fun b hb => I1.fpOk (far b hb) (I1.hok.fresh (far b hb)), q⟩
  | true =>
    obtain ⟨its, rv, pt, _⟩ := I1.tuple (SqT.of hb)
    have pt : s1.heap.IsTuple a its.toArray := pt
    have la : a < s1.heap.objs.size := by
      obtain ⟨_, z, _⟩ := pt
      exact Heap.lt_size z
    exact enum_call (begins_tuple a its.toArray) pt fun h' he hi hk => wpAny_pyIter_enum he
      ⟨s1.heap.objs.size + 1, _, _, _, H1, rfl, I1.kept (t' := s1.toks) hk, turn_enumT (a := a) (e := s1.heap.objs.size + 1) (it := s1.heap.objs.size) (Nat.succ_ne_self _) (Nat.ne_of_lt la) (Nat.ne_of_gt (Nat.lt_succ_of_lt la)), ⟨⟨⟨.none, he⟩, ⟨_, hi, rfl, rfl⟩⟩, Nat.zero_le _⟩, fun b hb => I1.fpOk (far b hb) (I1.hok.fresh (far b hb)), q⟩
end
/-- one walk for both -/
theorem walk_enB {K : PySem.W.Frag} {a : Addr} {xs : List V} {b : Bool} : Walk (enJ K a xs b) xs.length (fun H' => H' a = some (enO xs b)) (YPair (fun i => some (.int (i : Nat))) (fun i => xs[i]?)) := by
  cases b with
  | false => exact walk_enum.mono (fun H' h' => SqL.of h') fun _ _ _ _ _ _ y => y
  | true => exact ⟨fun i H' hi h' => ⟨SqT.of h', hi⟩, fun H' h' => ⟨SqT.of h', Nat.le_refl _⟩, fun i H' v H2 hi h' y => by
      obtain ⟨T, x, h1, h2, h3, h4⟩ := y
      exact ⟨T, _, x, h1, h2, h4, rfl, h3⟩⟩
end Mo
namespace Mo
open PySem PySem.Spec PyProof.Rows L2
theorem pi_listK {X : Cx} {K : PySem.W.Frag} {tg l : Expr} {tl : TE} (h : X.K = K) (hl : PE X l tl) : PI X tg l (iList K tl) := by
  subst h
  exact pi_list hl
end Mo

namespace Mo
open PySem PySem.Spec PyProof.Rows L2
section
variable {P : Program} {w : World} {K : PySem.W.Frag} {mg : Str → Option Value} {base : Heap}
def spIsLetter : Sp := fun vs H Q _ => ∃ n : Nat, vs = [.int n] ∧ n ≤ 999999 ∧ ∀ H', Same H H' → Q (.bl true) H'
theorem ok_isLetter {k : Nat} (T : Txt K mg) : FnOk P w K mg base CX0 (k + 2) T.aIsLetter T.dIsLetter ["value"] spIsLetter := by
  have GIsPlainInteger : FnOk P w K mg base CX0 (k + 1) T.aIsPlainInteger T.dIsPlainInteger ["value"] spPlain := ok_plain T
  refine T.fIsLetter.ok scIsLetter (fun vs H Q E h => ?_) (fun cdv A outer s H vs Q E hr h => ?_)
  · obtain ⟨n, rfl, _⟩ := h
    rfl
  · obtain ⟨n, rfl, hn, q⟩ := h
    refine ⟨_, (pss_one (ps_ret (pe_and (pe_call GIsPlainInteger hr (by rfl) T.gIsPlainInteger T.fIsPlainInteger.kp T.bIsPlainInteger .nil pass0 (pa_cons (pv 0) pa_nil)) (pe_one (pe_chain op_le op_le pe_int (pv 0) (pe_glob (v := .int 999999) rfl T.m_GREATEST_LETTER ⟨_, rfl⟩)))))), ?_⟩
    refine ⟨_, rfl, n, rfl, fun H1 s1 => ⟨true, rfl, ?_⟩⟩
    refine ⟨_, rfl, _, _, rfl, rfl, true, congrArg V.bl (decide_eq_true (by omega)), _, _, rfl, rfl, ?_⟩
    have z := q H1 s1
    rw [← decide_eq_true (show (n : Int) ≤ 999999 by omega)] at z
    exact z
def spIsText : Sp := fun vs H Q _ => ∃ (a : Addr) (im : List Nat), vs = [.ref a] ∧ H a = some (.tup ((nat2 im).map V.int)) ∧ im.length ≤ 4096 ∧ (∀ n ∈ im, n ≤ 999999) ∧ ∀ H', Same H H' → Q (.bl true) H'
theorem ok_isText {k : Nat} (T : Txt K mg) : FnOk P w K mg base CX0 (k + 3) T.aIsText T.dIsText ["value"] spIsText := by
  have GIsLetter : FnOk P w K mg base CX0 (k + 2) T.aIsLetter T.dIsLetter ["value"] spIsLetter := ok_isLetter T
  refine T.fIsText.ok scIsText (fun vs H Q E h => ?_) (fun cdv A outer s H vs Q E hr h => ?_)
  · obtain ⟨a, im, rfl, _⟩ := h
    rfl
  · obtain ⟨a, im, rfl, ha, hl, hi, q⟩ := h
    refine ⟨_, (pss_cons (ps_if (PW.pt (pw_or (pt_not (pt_val (pe_callB call_isi (by rfl) T.m_isinstance (by decide +kernel) (pa_cons (pv 0) (pa_cons (pe_bltn (v := .ty "tuple") (by rfl) T.m_tuple (by decide +kernel) rfl) pa_nil))))) (pw_or1 (pt_cmpR op_gt (pe_callB call_len_seq (by rfl) T.m_len PySem.boot_len (pa_cons (pv 0) pa_nil)) (pe_glob (v := .int 4096) rfl T.m_LONGEST_TEXT ⟨_, rfl⟩) (nomark _))))) (pss_one (ps_ret pe_bl)) pss_nil)
      (pss_one (ps_ret (pe_callB (cr_all rfl) (by rfl) T.m_all (by decide +kernel) (pa_cons (pe_lc (own := [("letter", 1)]) (g := gName 1) (tt := tYes) rfl scIsText.nd (pi_tup (pv 0)) (blkOk_by (N := ["value", "letter"]) (sc := defScope sIsText) (by decide +kernel)) (fun _ _ _ _ _ => pg_name (i := 1) scIsText.nd rfl (Or.inl rfl)) (fun _ _ _ _ _ => pts_nil) (fun _ _ _ _ _ => (pe_call GIsLetter hr (by rfl) T.gIsLetter T.fIsLetter.kp T.bIsLetter .nil pass0 (pa_cons (pv 1) pa_nil)))) pa_nil))))), ?_⟩
    refine ⟨_, rfl, _, _, .type "tuple", .type "tuple", true, rfl, .ty "tuple", .base (.tup ha), kit_ty (by decide +kernel), true, rfl, iteF ?_⟩
    refine ⟨_, rfl, a, _, rfl, .inr (SqT.of ha), _, _, rfl, rfl, _, rfl, ite2 (fun e => ?_) (fun _ => ?_)⟩
    · exact absurd (of_decide_eq_true e) (by rw [n2v_len]; omega)
    refine ⟨_, rfl, a, rfl, ⟨_, SqT.of ha⟩, fun D nD => lc_tup (K := K) (a := a) (xs := (nat2 im).map V.int) (fun i H' => Same H H' ∧ H' D = some (.lst ((List.replicate i true).map V.bl))) ?_ ?_ ?_ ?_⟩
    · exact ⟨same_new nD, upd_same⟩
    · rintro i H1 _ ⟨s1, _⟩
      exact SqT.of (s1 _ _ ha)
    · rintro i x H1 hx ⟨s1, hD⟩
      obtain ⟨n, hn, rfl⟩ := n2v_get hx
      have hi2 := (List.getElem?_eq_some_iff.mp hn).1
      refine ⟨rfl, _, rfl, n, rfl, hi n (List.mem_of_getElem? hn), fun H2 s2 => ?_⟩
      refine ⟨_, s2 _ _ hD, fitsLt (by rw [List.length_map, List.length_replicate]; omega), Same.put (s1.trans s2) nD, ?_⟩
      rw [upd_same, List.replicate_succ', List.map_append]
      rfl
    · rintro H1 ⟨s1, hD⟩
      refine ⟨D, _, rfl, SqL.of hD, ?_⟩
      rw [show (List.replicate ((nat2 im).map V.int).length true).all id = true by simp]
      exact q H1 s1
def spIsImage : Sp := fun vs H Q _ => ∃ (a : Addr) (im : List Nat) (n : Nat), vs = [.ref a, .int n] ∧ H a = some (.tup ((nat2 im).map V.int)) ∧ im ≠ [] ∧ im.length ≤ 64 ∧ (∀ x ∈ im, x < n) ∧ n ≤ 400 ∧ ∀ H', Same H H' → Q (.bl true) H'
theorem ok_isImage {k : Nat} (T : Txt K mg) : FnOk P w K mg base CX0 (k + 4) T.aIsImage T.dIsImage ["value", "size"] spIsImage := by
  have GIsText : FnOk P w K mg base CX0 (k + 3) T.aIsText T.dIsText ["value"] spIsText := ok_isText T
  refine T.fIsImage.ok scIsImage (fun vs H Q E h => ?_) (fun cdv A outer s H vs Q E hr h => ?_)
  · obtain ⟨a, im, n, rfl, _⟩ := h
    rfl
  · obtain ⟨a, im, n, rfl, ha, hne, hl, hi, hn, q⟩ := h
    have h0 : 0 < im.length := List.length_pos_iff.mpr hne
    refine ⟨_, (pss_cons (ps_if (PW.pt (pw_or (pt_not (pt_val (pe_call GIsText hr (by rfl) T.gIsText T.fIsText.kp T.bIsText .nil pass0 (pa_cons (pv 0) pa_nil)))) (pw_or1 (pt_not (pt_chain op_le op_le pe_int (pe_callB call_len_seq (by rfl) T.m_len PySem.boot_len (pa_cons (pv 0) pa_nil)) (pe_glob (v := .int 64) rfl T.m_LONGEST_IMAGE ⟨_, rfl⟩)))))) (pss_one (ps_ret pe_bl)) pss_nil)
      (pss_one (ps_ret (pe_cmpR op_lt (pe_callB (Mo.cr_maxT rfl) (by rfl) T.m_max (by decide +kernel) (pa_cons (pv 0) pa_nil)) (pv 1) (nomark _))))), ?_⟩
    refine ⟨_, rfl, a, im, rfl, ha, by omega, fun x hx => by have := hi x hx; omega, fun H1 s1 => ⟨true, rfl, iteF ?_⟩⟩
    have ha1 := s1 _ _ ha
    refine ⟨_, rfl, a, _, rfl, .inr (SqT.of ha1), _, _, rfl, rfl, true, congrArg V.bl (decide_eq_true (by rw [n2v_len]; omega)), _, _, rfl, rfl, _, rfl, ?_⟩
    rw [decide_eq_true (show (((nat2 im).map V.int).length : Int) ≤ 64 by rw [n2v_len]; omega)]
    refine iteF ⟨_, rfl, a, _, rfl, SqT.of ha1, by rw [nat2_len]; exact h0, fun m hm _ => ⟨_, rfl, _, _, rfl, rfl, ?_⟩⟩
    obtain ⟨x, hx, rfl⟩ := List.mem_map.mp hm
    have := hi x hx
    have z := q H1 s1
    rw [← decide_eq_true (show (x : Int) < (n : Int) by omega)] at z
    exact z
def spAreImages : Sp := fun vs H Q _ => ∃ (a : Addr) (ps : List Addr) (ims : List (List Nat)), vs = [.ref a] ∧ H a = some (.lst (ps.map V.ref)) ∧ ImsAt H ps ims ∧ Ims ims ∧ ∀ H', Same H H' → Q (.bl true) H'
theorem ok_areImages {k : Nat} (T : Txt K mg) : FnOk P w K mg base CX0 (k + 5) T.aAreImages T.dAreImages ["value"] spAreImages := by
  have GIsImage : FnOk P w K mg base CX0 (k + 4) T.aIsImage T.dIsImage ["value", "size"] spIsImage := ok_isImage T
  refine T.fAreImages.ok scAreImages (fun vs H Q E h => ?_) (fun cdv A outer s H vs Q E hr h => ?_)
  · obtain ⟨a, ps, ims, rfl, _⟩ := h
    rfl
  · obtain ⟨a, ps, ims, rfl, ha, tab, ok, q⟩ := h
    have n1 := ok.n1
    have n2 := ok.n2
    refine ⟨_, (pss_cons (ps_if (PW.pt (pw_or (pt_not (pt_val (pe_callB call_isiT (by rfl) T.m_isinstance (by decide +kernel) (pa_cons (pv 0) (pa_cons (pe_tup (pa_cons (pe_bltn (v := .ty "list") (by rfl) T.m_list (by decide +kernel) rfl) (pa_cons (pe_bltn (v := .ty "tuple") (by rfl) T.m_tuple (by decide +kernel) rfl) pa_nil))) pa_nil))))) (pw_or1 (pt_not (pt_chain op_le op_le pe_int (pe_callB call_len_seq (by rfl) T.m_len PySem.boot_len (pa_cons (pv 0) pa_nil)) (pe_glob (v := .int 400) rfl T.m_MOST_IMAGES ⟨_, rfl⟩)))))) (pss_one (ps_ret pe_bl)) pss_nil)
      (pss_one (ps_ret (pe_callB (cr_all rfl) (by rfl) T.m_all (by decide +kernel) (pa_cons (pe_lc (own := [("image", 1)]) (g := gName 1) (tt := tYes) rfl scAreImages.nd (pi_list (pv 0)) (blkOk_by (N := ["value", "image"]) (sc := defScope sAreImages) (by decide +kernel)) (fun _ _ _ _ _ => pg_name (i := 1) scAreImages.nd rfl (Or.inl rfl)) (fun _ _ _ _ _ => pts_nil) (fun _ _ _ _ _ => (pe_call GIsImage hr (by rfl) T.gIsImage T.fIsImage.kp T.bIsImage .nil pass0 (pa_cons (pv 1) (pa_cons (pe_callB (Mo.call_len_seqK (K := K) rfl) (by rfl) T.m_len PySem.boot_len (pa_cons (pv 0) pa_nil)) pa_nil))))) pa_nil))))), ?_⟩
    refine ⟨_, rfl, by show 2 ≤ sizeLine; decide, fun tp ntp => ?_⟩
    have s1 := same_new (o := .tup [V.ty "list", V.ty "tuple"]) ntp
    obtain ⟨t, ty, kt⟩ : ∃ t : Value, TyX K (upd H tp (.tup [V.ty "list", V.ty "tuple"])) (.ref a) t ∧ PySem.W.kitAny K t [.type "list", .type "tuple"] = some true := ⟨.type "list", .base (.lst (s1 _ _ ha)), kitAny_cons (kit_ty (kit_list (.list []))) (fun z => nomatch z) (fun _ => rfl)⟩
    refine ⟨_, tp, _, t, _, true, rfl, upd_same, .cons (.ty "list") (.cons (.ty "tuple") .nil), ty, kt, true, rfl, iteF ?_⟩
    have ha1 := s1 _ _ ha
    have tab1 := tab.same s1
    generalize upd H tp (.tup [V.ty "list", V.ty "tuple"]) = H1 at *
    have hlen : (ps.map V.ref).length = ims.length := by rw [List.length_map, tab.len]
    refine ⟨_, rfl, a, _, rfl, .inl (SqL.of ha1), _, _, rfl, rfl, true, congrArg V.bl (decide_eq_true (by rw [hlen]; omega)), _, _, rfl, rfl, _, rfl, ?_⟩
    rw [decide_eq_true (show ((ps.map V.ref).length : Int) ≤ 400 by rw [hlen]; omega)]
    refine iteF ⟨_, rfl, a, rfl, ⟨_, SqL.of ha1⟩, fun D nD => lc_list (K := K) (a := a) (xs := ps.map V.ref) (fun i H' => Same H1 H' ∧ H' D = some (.lst ((List.replicate i true).map V.bl))) ?_ ?_ ?_ ?_⟩
    · exact ⟨same_new nD, upd_same⟩
    · rintro i H2 _ ⟨s2, _⟩
      exact SqL.of (s2 _ _ ha1)
    · rintro i x H2 hx ⟨s2, hD⟩
      obtain ⟨p, hp, rfl⟩ := ref_get hx
      have hi2 : i < ims.length := by rw [← tab.len]; exact (List.getElem?_eq_some_iff.mp hp).1
      have hp2 := (tab1.same s2).el i p _ hp (img_at hi2)
      have mem := img_mem hi2
      refine ⟨rfl, _, rfl, _, rfl, a, _, rfl, .inl (SqL.of (s2 _ _ ha1)), p, img ims i, ims.length, ?_, hp2, ok.ne _ mem, ok.few _ mem, ok.lt _ mem, n2, fun H3 s3 => ?_⟩
      · rw [hlen]
        rfl
      refine ⟨_, s3 _ _ hD, fitsLt (by rw [List.length_map, List.length_replicate]; omega), Same.put (s2.trans s3) nD, ?_⟩
      rw [upd_same, List.replicate_succ', List.map_append]
      rfl
    · rintro H2 ⟨s2, hD⟩
      refine ⟨D, _, rfl, SqL.of hD, ?_⟩
      rw [show (List.replicate (ps.map V.ref).length true).all id = true by simp]
      exact q H2 (s1.trans s2)
def spRInit (C : Addr) : Sp := fun vs H Q _ => ∃ (r dx a : Addr) (ps : List Addr) (ims : List (List Nat)), vs = [.ref r, .ref a] ∧ H r = some (.ins C dx []) ∧ H a = some (.lst (ps.map V.ref)) ∧ ImsAt H ps ims ∧ Ims ims ∧ ∀ H', (∀ b o, b ≠ r → H b = some o → H' b = some o) → RlsAt C H' r ims → Q .non H'
theorem ok_rInit {k : Nat} (T : Txt K mg) : FnOk P w K mg base CX0 (k + 6) T.aRulesInit T.dRulesInit ["self", "images"] (spRInit T.cRules) := by
  have GAreImages : FnOk P w K mg base CX0 (k + 5) T.aAreImages T.dAreImages ["value"] spAreImages := ok_areImages T
  refine T.fRulesInit.ok scRulesInit (fun vs H Q E h => ?_) (fun cdv A outer s H vs Q E hr h => ?_)
  · obtain ⟨r, dx, a, ps, ims, rfl, _⟩ := h
    rfl
  · obtain ⟨r, dx, a, ps, ims, rfl, hr0, ha, tab, ok, q⟩ := h
    refine ⟨_, (pss_cons (ps_if (pt_not (pt_val (pe_call GAreImages hr (by rfl) T.gAreImages T.fAreImages.kp T.bAreImages .nil pass0 (pa_cons (pv 1) pa_nil)))) (pss_one ps_never) pss_nil)
      (pss_one (ps_fld (pv 0) (pe_callTy call_tuple_of (by rfl) T.m_tuple (by decide +kernel) (pa_cons (pv 1) pa_nil)) rfl))), ?_⟩
    refine ⟨_, rfl, a, ps, ims, rfl, ha, tab, ok, fun H1 s1 => ⟨true, rfl, iteF ?_⟩⟩
    refine ⟨_, rfl, a, _, rfl, .inl ⟨SqL.of (s1 _ _ ha), fun t nt => ?_⟩⟩
    have s2 := same_new (o := .tup (ps.map V.ref)) nt
    have s12 := s1.trans s2
    have ht : upd H1 t (.tup (ps.map V.ref)) t = some (.tup (ps.map V.ref)) := upd_same
    have nrt : r ≠ t := ne_of_none (s1 _ _ hr0) nt
    generalize upd H1 t (.tup (ps.map V.ref)) = H2 at *
    refine ⟨_, rfl, r, T.cRules, dx, [], rfl, s12 _ _ hr0, T.clRules, T.nRules_table, by show 0 < 1000; decide, ?_⟩
    refine q _ (fun b o nb e => by rw [upd_ne nb]; exact s12 _ _ e) ⟨dx, t, ps, upd_same, by rw [upd_ne nrt.symm]; exact ht, (tab.same s12).by fun p xs e => ?_⟩
    rw [upd_ne (ne_of e (s12 _ _ hr0) (fun z => nomatch z))]
    exact e
theorem no_meth {t : Addr} {m : Str} (h : ¬ m = "table") : ([(("table" : Str), V.ref t)] : List (Str × V)).lookup m = none := by
  rw [lookup_put, if_neg h]
  rfl
theorem tab_field {t : Addr} : ([(("table" : Str), V.ref t)] : List (Str × V)).lookup ("table" : Str) = some (.ref t) := by
  rw [lookup_put, if_pos rfl]
def spRChk (C : Addr) : Sp := fun vs H Q _ => ∃ (r : Addr) (ims : List (List Nat)) (l : Nat), vs = [.ref r, .int l] ∧ RlsAt C H r ims ∧ l < ims.length ∧ ∀ H', Same H H' → Q .non H'
theorem ok_rChk {k : Nat} (T : Txt K mg) : FnOk P w K mg base CX0 (k + 3) T.aRulesCheckLetter T.dRulesCheckLetter ["self", "letter"] (spRChk T.cRules) := by
  have GCheckCount : FnOk P w K mg base CX0 (k + 2) T.aCheckCount T.dCheckCount ["value", "least", "most"] spCount := ok_count T
  refine T.fRulesCheckLetter.ok scRulesCheckLetter (fun vs H Q E h => ?_) (fun cdv A outer s H vs Q E hr h => ?_)
  · obtain ⟨r, ims, l, rfl, _⟩ := h
    rfl
  · obtain ⟨r, ims, l, rfl, ⟨dx, t, ps, h1, h2, h3⟩, hl, q⟩ := h
    have hlen : (ps.map V.ref).length = ims.length := by rw [List.length_map, h3.len]
    refine ⟨_, (pss_one (ps_expr (pe_call GCheckCount hr (by rfl) T.gCheckCount T.fCheckCount.kp T.bCheckCount .nil pass0 (pa_cons (pv 1) (pa_cons pe_int (pa_cons (pe_op op_sub (pe_callB call_len_seq (by rfl) T.m_len PySem.boot_len (pa_cons (pe_fld (pv 0) rfl) pa_nil)) pe_int) pa_nil)))))), ?_⟩
    exact ⟨_, rfl, _, rfl, r, T.cRules, dx, _, _, rfl, h1, T.clRules, T.nRules_table, tab_field, t, _, rfl, .inr (SqT.of h2), _, 1, rfl, rfl, l, 0, _, rfl, by omega, by rw [hlen]; omega, q⟩
def spRAll (C : Addr) : Sp := fun vs H Q _ => ∃ (r : Addr) (ims : List (List Nat)) (s : Nat), vs = [.ref r, .int s] ∧ RlsAt C H r ims ∧ Ims ims ∧ s ≤ 400 ∧
  ∀ H' D qs, Same H H' → H' D = some (.lst (qs.map V.ref)) → RowsAt H' qs (rowsL ims s) → Q (.ref D) H'
theorem ok_rAll {k : Nat} (T : Txt K mg) : FnOk P w K mg base CX0 (k + 1) T.aRulesAllLengths T.dRulesAllLengths ["self", "steps"] (spRAll T.cRules) := by
  refine T.fRulesAllLengths.ok scRulesAllLengths (fun vs H Q E h => ?_) (fun cdv A outer s H vs Q E hr h => ?_)
  · obtain ⟨r, ims, s, rfl, _⟩ := h
    rfl
  · obtain ⟨r, ims, s, rfl, ⟨dx, t, ps, h1, h2, h3⟩, ok, hs, q⟩ := h
    have n2 := ok.n2
    have hlen : (ps.map V.ref).length = ims.length := by rw [List.length_map, h3.len]
    refine ⟨_, (pss_cons (ps_set (i := 2) scRulesAllLengths.nd rfl (Or.inl rfl) (pe_lst (pa_cons (pe_lc (own := [("image", 3)]) (g := gName 3) (tt := tYes) rfl scRulesAllLengths.nd (pi_tup (pe_fld (pv 0) rfl)) (blkOk_by (N := ["self", "steps", "rows", "image", "step", "row", "letter"]) (sc := defScope sRulesAllLengths) (by decide +kernel)) (fun _ _ _ _ _ => pg_name (i := 3) scRulesAllLengths.nd rfl (Or.inl rfl)) (fun _ _ _ _ _ => pts_nil) (fun _ _ _ _ _ => pe_int)) pa_nil)))
      (pss_cons (ps_for PassesOwn.never rfl (pi_range1 (by rfl) T.m_range (pa_cons (pv 1) pa_nil)) (pg_name (i := 4) scRulesAllLengths.nd rfl (Or.inl rfl)) (pss_cons (ps_set (i := 5) scRulesAllLengths.nd rfl (Or.inr rfl) (pe_ix ix_list (pv 2) (pe_un un_neg pe_int) (fun _ _ => rfl)))
      (pss_one (ps_expr (pe_bm PySem.F.plainAttrs_list PySem.F.slot_list_append PySem.F.type_list_append mt_append (pv 2) (pa_cons (pe_lc (own := [("image", 3)]) (g := gName 3) (tt := tYes) rfl scRulesAllLengths.nd (pi_tup (pe_fld (pv 0) rfl)) (blkOk_by (N := ["self", "steps", "rows", "image", "step", "row", "letter"]) (sc := defScope sRulesAllLengths) (by decide +kernel)) (fun _ _ _ _ _ => pg_name (i := 3) scRulesAllLengths.nd rfl (Or.inl rfl)) (fun _ _ _ _ _ => pts_nil) (fun _ _ _ _ _ => (pe_callB (Mo.cr_sumK (K := K) rfl rfl) (by rfl) T.m_sum (by decide +kernel) (pa_cons (pe_lc (own := [("letter", 6)]) (g := gName 6) (tt := tYes) rfl scRulesAllLengths.nd (Mo.pi_tupK (K := K) rfl (pv 3)) (blkOk_by (N := ["self", "steps", "rows", "image", "step", "row", "letter"]) (by rfl)) (fun _ _ _ _ _ => pg_name (i := 6) scRulesAllLengths.nd rfl (Or.inl rfl)) (fun _ _ _ _ _ => pts_nil) (fun _ _ _ _ _ => (pe_ix (Mo.ix_listK (K := K) rfl) (pv 5) (pv 6) (fun _ _ => rfl)))) pa_nil)))) pa_nil))))))
      (pss_one (ps_ret (pv 2))))), ?_⟩
    refine ⟨_, rfl, r, T.cRules, dx, _, _, rfl, h1, T.clRules, T.nRules_table, tab_field, t, rfl, ⟨_, SqT.of h2⟩, fun D nD => lc_tup (K := K) (a := t) (xs := ps.map V.ref) (fun i H' => Same H H' ∧ H' D = some (.lst ((nat2 (List.replicate i 1)).map V.int))) ?_ ?_ ?_ ?_⟩
    · exact ⟨same_new nD, upd_same⟩
    · rintro i H1 _ ⟨s1, _⟩
      exact SqT.of (s1 _ _ h2)
    · rintro i x H1 hx ⟨s1, hD⟩
      have hi2 : i < ims.length := by rw [← hlen]; exact (List.getElem?_eq_some_iff.mp hx).1
      refine ⟨rfl, _, hD, fitsLt (by rw [n2v_len, List.length_replicate]; omega), Same.put s1 nD, ?_⟩
      rw [upd_same, List.replicate_succ', n2v_snoc]
      rfl
    · rintro H1 ⟨s1, hD⟩
      rw [hlen, ← row0] at hD
      refine ⟨by show 1 ≤ sizeLine; decide, fun L nL => ?_⟩
      have s2 := same_new (o := .lst [V.ref D]) nL
      refine ⟨_, rfl, s, rfl, by omega, by omega, for_range (lo := 0) (n := ((s : Nat) : Int).toNat) (fun i σ H' => ∃ (qs : List Addr) (o3 o4 o5 o6 : Option V), σ = [some (.ref r), some (.int (s : Nat)), some (.ref L), none, o4, o5, none] ∧ Same H H' ∧ H L = none ∧ H' L = some (.lst (qs.map V.ref)) ∧ RowsAt H' qs (rowsL ims i) ∧ ∀ p ∈ qs, p ≠ L) ?_ ?_ ?_⟩
      · refine ⟨[D], none, _, _, none, rfl, s1.trans s2, s1.free nL, upd_same, ⟨rfl, fun k p row e1 e2 => ?_⟩, fun p hp => ?_⟩
        · have : k = 0 := by
            have := (List.getElem?_eq_some_iff.mp e1).1
            simp at this
            exact this
          subst this
          cases e1
          cases e2
          exact s2 _ _ hD
        · rw [List.mem_singleton.mp hp]
          exact ne_of_none hD nL
      · rintro i σ H2 hi ⟨qs, o3, o4, o5, o6, rfl, s3, nL0, hL, rows, nin⟩
        have hi2 : i < s := by
          have : i < ((s : Nat) : Int).toNat := hi
          omega
        have hq : qs.length = i + 1 := by rw [rows.len, rowsL_len]
        obtain ⟨p, hp⟩ : ∃ p, qs[i]? = some p := ⟨_, List.getElem?_eq_getElem (by omega)⟩
        have hrow := rows.el i p _ hp (rowsL_at (Nat.lt_succ_self i))
        have hat := ref_last hq hp
        refine ⟨_, rfl, 1, rfl, L, _, _, .ref p, rfl, rfl, SqL.of hL, hat, ?_⟩
        refine ⟨_, rfl, .inl ⟨rfl, _, SqL.of hL⟩, ?_⟩
        refine ⟨_, rfl, r, T.cRules, dx, _, _, rfl, s3 _ _ h1, T.clRules, T.nRules_table, tab_field, t, rfl, ⟨_, SqT.of (s3 _ _ h2)⟩, fun D2 nD2 => lc_tup (K := K) (a := t) (xs := ps.map V.ref) (fun m H' => Same H2 H' ∧ H' D2 = some (.lst ((nat2 ((rowL ims (i + 1)).take m)).map V.int))) ?_ ?_ ?_ ?_⟩
        · exact ⟨same_new nD2, upd_same⟩
        · rintro m H3 _ ⟨s4, _⟩
          exact SqT.of (s4 _ _ (s3 _ _ h2))
        · rintro m x H3 hx ⟨s4, hD2⟩
          obtain ⟨p2, hp2, rfl⟩ := ref_get hx
          have hm2 : m < ims.length := by rw [← h3.len]; exact (List.getElem?_eq_some_iff.mp hp2).1
          have ht2 := ((h3.same s3).same s4).el m p2 _ hp2 (img_at hm2)
          have few := ok.few _ (img_mem hm2)
          refine ⟨rfl, _, rfl, p2, rfl, ⟨_, SqT.of ht2⟩, fun D3 nD3 => lc_tup (K := K) (a := p2) (xs := (nat2 (img ims m)).map V.int) (fun j H' => Same H3 H' ∧ H' D3 = some (.lst ((nat2 (((img ims m).take j).map (len ims i))).map V.int))) ?_ ?_ ?_ ?_⟩
          · exact ⟨same_new nD3, upd_same⟩
          · rintro j H4 _ ⟨s5, _⟩
            exact SqT.of (s5 _ _ ht2)
          · rintro j x H4 hx ⟨s5, hD3⟩
            obtain ⟨l, hl, rfl⟩ := n2v_get hx
            have hj2 := (List.getElem?_eq_some_iff.mp hl).1
            have hl2 := ok.lt _ (img_mem hm2) l (List.mem_of_getElem? hl)
            have hrow4 := s5 _ _ (s4 _ _ hrow)
            refine ⟨rfl, _, rfl, _, rfl, p, _, _, .int ((len ims i l : Nat) : Int), rfl, rfl, SqL.of hrow4, atI_nat (n2v_at (rowL_at hl2)), ?_⟩
            refine ⟨_, hD3, fitsLt (by rw [n2v_len, List.length_map, List.length_take]; omega), Same.put s5 nD3, ?_⟩
            rw [upd_same, List.take_add_one, hl, List.map_append, show (some l).toList.map (len ims i) = [len ims i l] from rfl, n2v_snoc]
          · rintro H4 ⟨s5, hD3⟩
            rw [n2v_len, List.take_length] at hD3
            refine ⟨D3, _, rfl, SqL.of hD3, ?_⟩
            refine ⟨_, s5 _ _ hD2, fitsLt (by rw [n2v_len, List.length_take, rowL_len]; omega), Same.put (s4.trans s5) nD2, ?_⟩
            rw [upd_same, row_next hm2, n2v_snoc, nat2_sum]
        · rintro H3 ⟨s4, hD2⟩
          rw [hlen, List.take_of_length_le (Nat.le_of_eq (rowL_len ims (i + 1)))] at hD2
          have hL3 := s4 _ _ hL
          refine ⟨L, _, _, rfl, rfl, hL3, fitsLt (by rw [List.length_map, hq]; omega), ?_⟩
          have nD2L : D2 ≠ L := by
            rintro rfl
            rw [hL] at nD2
            cases nD2
          refine ⟨qs ++ [D2], none, _, _, none, rfl, Same.put (s3.trans s4) nL0, nL0, by rw [upd_same, List.map_append]; rfl, ⟨by rw [List.length_append, hq, rowsL_len]; rfl, fun k p' row e1 e2 => ?_⟩, fun p' hp' => ?_⟩
          · by_cases hk : k < qs.length
            · rw [List.getElem?_append_left hk] at e1
              rw [rowsL_succ, List.getElem?_append_left (by rw [rowsL_len]; omega)] at e2
              rw [upd_ne (nin p' (List.mem_of_getElem? e1))]
              exact s4 _ _ (rows.el k p' row e1 e2)
            · have hk2 : k = qs.length := by
                have := (List.getElem?_eq_some_iff.mp e1).1
                rw [List.length_append] at this
                simp at this
                omega
              rw [hk2, List.getElem?_append_right (Nat.le_refl _), Nat.sub_self] at e1
              obtain rfl : D2 = p' := Option.some.inj e1
              rw [hk2, hq, rowsL_at (by omega)] at e2
              obtain rfl : rowL ims (i + 1) = row := Option.some.inj e2
              rw [upd_ne nD2L]
              exact hD2
          · rcases List.mem_append.mp hp' with z | z
            · exact nin p' z
            · rw [List.mem_singleton.mp z]
              exact nD2L
      · rintro σ H2 ⟨qs, o3, o4, o5, o6, rfl, s3, nL0, hL, rows, _⟩
        exact ⟨_, rfl, q H2 L qs s3 hL rows⟩
def spRLen (C : Addr) : Sp := fun vs H Q _ => ∃ (r : Addr) (ims : List (List Nat)) (l s : Nat), vs = [.ref r, .int l, .int s] ∧ RlsAt C H r ims ∧ Ims ims ∧ l < ims.length ∧ s ≤ 400 ∧ ∀ H', Same H H' → Q (.int (len ims s l : Nat)) H'
theorem ok_rLen {k : Nat} (T : Txt K mg) : FnOk P w K mg base CX0 (k + 4) T.aRulesLength T.dRulesLength ["self", "letter", "steps"] (spRLen T.cRules) := by
  have GCheckCount : FnOk P w K mg base CX0 (k + 3) T.aCheckCount T.dCheckCount ["value", "least", "most"] spCount := ok_count T
  have GRulesCheckLetter : FnOk P w K mg base CX0 (k + 3) T.aRulesCheckLetter T.dRulesCheckLetter ["self", "letter"] (spRChk T.cRules) := ok_rChk T
  have GRulesAllLengths : FnOk P w K mg base CX0 (k + 3) T.aRulesAllLengths T.dRulesAllLengths ["self", "steps"] (spRAll T.cRules) := ok_rAll T
  refine T.fRulesLength.ok scRulesLength (fun vs H Q E h => ?_) (fun cdv A outer s H vs Q E hr h => ?_)
  · obtain ⟨r, ims, l, s, rfl, _⟩ := h
    rfl
  · obtain ⟨r, ims, l, s, rfl, ra, ok, hl, hs, q⟩ := h
    refine ⟨_, (pss_cons (ps_expr (pe_meth (pv 0) T.clRules T.mRulesCheckLetter GRulesCheckLetter hr T.bRulesCheckLetter .nil pass0 (pa_cons (pv 1) pa_nil)))
      (pss_cons (ps_expr (pe_call GCheckCount hr (by rfl) T.gCheckCount T.fCheckCount.kp T.bCheckCount .nil pass0 (pa_cons (pv 2) (pa_cons pe_int (pa_cons (pe_glob (v := .int 400) rfl T.m_MOST_STEPS ⟨_, rfl⟩) pa_nil)))))
      (pss_one (ps_ret (pe_ix ix_list (pe_ix ix_list (pe_meth (pv 0) T.clRules T.mRulesAllLengths GRulesAllLengths hr T.bRulesAllLengths .nil pass0 (pa_cons (pv 2) pa_nil)) (pe_un un_neg pe_int) (fun _ _ => rfl)) (pv 1) (fun _ _ => rfl)))))), ?_⟩
    obtain ⟨dx, t, ps, h1, _⟩ := id ra
    refine ⟨_, rfl, r, dx, _, rfl, h1, no_meth (by decide), _, rfl, r, ims, l, rfl, ra, hl, fun H1 s1 => ?_⟩
    refine ⟨_, rfl, s, 0, 400, rfl, by omega, by omega, fun H2 s2 => ?_⟩
    have s12 := s1.trans s2
    refine ⟨_, rfl, r, dx, _, rfl, s12 _ _ h1, no_meth (by decide), _, rfl, r, ims, s, rfl, ra.same s12, ok, hs, fun H3 D qs s3 hD rows => ?_⟩
    have hq : qs.length = s + 1 := by rw [rows.len, rowsL_len]
    obtain ⟨p, hp⟩ : ∃ p, qs[s]? = some p := ⟨_, List.getElem?_eq_getElem (by omega)⟩
    have hrow := rows.el s p _ hp (rowsL_at (Nat.lt_succ_self s))
    exact ⟨1, rfl, D, _, _, .ref p, rfl, rfl, SqL.of hD, ref_last hq hp, _, rfl, p, _, _, .int ((len ims s l : Nat) : Int), rfl, rfl, SqL.of hrow, atI_nat (n2v_at (rowL_at hl)), q H3 (s12.trans s3)⟩
def spRWith (C : Addr) : Sp := fun vs H Q _ => ∃ (r : Addr) (ims : List (List Nat)) (l s : Nat) (rw : Addr) (i : Nat), vs = [.ref r, .int l, .ref rw, .int i] ∧ RlsAt C H r ims ∧ Ims ims ∧ l < ims.length ∧ H rw = some (.lst ((nat2 (rowL ims s)).map V.int)) ∧ i < ((img ims l).map (len ims s)).sum ∧
  ∀ H' p, Same H H' → H p = none → H' p = some (.tup [.int ((within (len ims s) (img ims l) i).1 : Nat), .int ((within (len ims s) (img ims l) i).2 : Nat)]) → Q (.ref p) H'
theorem ok_rWith {k : Nat} (T : Txt K mg) : FnOk P w K mg base CX0 (k + 1) T.aRulesWithinImage T.dRulesWithinImage ["self", "letter", "row", "index"] (spRWith T.cRules) := by
  refine T.fRulesWithinImage.ok scRulesWithinImage (fun vs H Q E h => ?_) (fun cdv A outer s H vs Q E hr h => ?_)
  · obtain ⟨r, ims, l, s, rw, i, rfl, _⟩ := h
    rfl
  · obtain ⟨r, ims, l, s, rw, i, rfl, ⟨dx, t, ps, h1, h2, h3⟩, ok, hl, hrow, hi, q⟩ := h
    obtain ⟨p, hp, hpp⟩ := h3.at hl
    refine ⟨_, (pss_cons (ps_for PassesOwn.never rfl (pi_tup (pe_ix ix_tup (pe_fld (pv 0) rfl) (pv 1) (fun _ _ => rfl))) (pg_name (i := 4) scRulesWithinImage.nd rfl (Or.inl rfl)) (pss_cons (ps_if (pt_cmpR op_lt (pv 3) (pe_ix ix_list (pv 2) (pv 4) (fun _ _ => rfl)) (nomark _)) (pss_one ps_break) pss_nil)
      (pss_one (ps_aug (i := 3) scRulesWithinImage.nd rfl (Or.inl rfl) (pe_ix ix_list (pv 2) (pv 4) (fun _ _ => rfl)) ip_sub))))
      (pss_one (ps_ret (pe_tup (pa_cons (pv 4) (pa_cons (pv 3) pa_nil)))))), ?_⟩
    refine ⟨_, rfl, r, T.cRules, dx, _, _, rfl, h1, T.clRules, T.nRules_table, tab_field, _, rfl, t, _, _, .ref p, rfl, rfl, SqT.of h2, atI_nat (ref_at hp), ?_⟩
    refine ⟨p, rfl, ⟨_, SqT.of hpp⟩, for_tup (K := K) (a := p) (xs := (nat2 (img ims l)).map V.int) (fun j σ H' => ∃ (i' : Nat) (o4 : Option V), σ = [some (.ref r), some (.int (l : Nat)), some (.ref rw), some (.int (i' : Nat)), o4] ∧ H' = H ∧ i' < (((img ims l).drop j).map (len ims s)).sum ∧ within (len ims s) (img ims l) i = within (len ims s) ((img ims l).drop j) i') ?_ ?_ ?_ ?_⟩
    · exact ⟨i, _, rfl, rfl, hi, rfl⟩
    · rintro j σ H1 _ ⟨i', o4, rfl, rfl, _⟩
      exact SqT.of hpp
    · rintro j v σ H1 hv ⟨i', o4, rfl, rfl, hi', hw⟩
      obtain ⟨a, ha, rfl⟩ := n2v_get hv
      have hj := (List.getElem?_eq_some_iff.mp ha).1
      have hd : (img ims l).drop j = a :: (img ims l).drop (j + 1) := by
        rw [List.drop_eq_getElem_cons hj, (List.getElem?_eq_some_iff.mp ha).2]
      have ha2 := ok.lt _ (img_mem hl) a (List.mem_of_getElem? ha)
      rw [hd] at hi' hw
      rw [List.map_cons, List.sum_cons] at hi'
      refine ⟨_, rfl, _, rfl, _, rfl, rw, _, _, .int ((len ims s a : Nat) : Int), rfl, rfl, SqL.of hrow, atI_nat (n2v_at (rowL_at ha2)), _, _, rfl, rfl, _, rfl, ite2 (fun e => ?_) (fun e => ?_)⟩
      · have lt : i' < len ims s a := by have := of_decide_eq_true e; omega
        refine ⟨_, rfl, _, rfl, by show 2 ≤ sizeLine; decide, fun tp ntp => ?_⟩
        refine q _ tp (same_new ntp) ntp ?_
        rw [hw, show within (len ims s) (a :: (img ims l).drop (j + 1)) i' = (a, i') from if_pos lt]
        exact upd_same
      · have ge : len ims s a ≤ i' := by
          have : ¬ ((i' : Int) < (len ims s a : Int)) := fun z => e (decide_eq_true z)
          omega
        refine ⟨_, rfl, _, rfl, _, rfl, rw, _, _, .int ((len ims s a : Nat) : Int), rfl, rfl, SqL.of hrow, atI_nat (n2v_at (rowL_at ha2)), _, _, rfl, rfl, ?_⟩
        refine ⟨i' - len ims s a, some (.int (a : Nat)), ?_, rfl, by omega, ?_⟩
        · rw [show ((i' - len ims s a : Nat) : Int) = (i' : Int) - (len ims s a : Int) by omega]
          rfl
        · rw [hw]
          exact if_neg (by omega)
    · rintro σ H1 ⟨i', o4, rfl, rfl, hi', _⟩
      rw [n2v_len, List.drop_length] at hi'
      exact absurd hi' (Nat.not_lt_zero _)
def spRAt (C : Addr) : Sp := fun vs H Q _ => ∃ (r : Addr) (ims : List (List Nat)) (l s i : Nat), vs = [.ref r, .int l, .int s, .int i] ∧ RlsAt C H r ims ∧ Ims ims ∧ l < ims.length ∧ s ≤ 400 ∧ i < len ims s l ∧ ∀ H', Same H H' → Q (.int (letAt ims s l i : Nat)) H'
theorem ok_rAt {k : Nat} (T : Txt K mg) : FnOk P w K mg base CX0 (k + 4) T.aRulesLetterAt T.dRulesLetterAt ["self", "letter", "steps", "index"] (spRAt T.cRules) := by
  have GCheckCount : FnOk P w K mg base CX0 (k + 3) T.aCheckCount T.dCheckCount ["value", "least", "most"] spCount := ok_count T
  have GRulesCheckLetter : FnOk P w K mg base CX0 (k + 3) T.aRulesCheckLetter T.dRulesCheckLetter ["self", "letter"] (spRChk T.cRules) := ok_rChk T
  have GRulesAllLengths : FnOk P w K mg base CX0 (k + 3) T.aRulesAllLengths T.dRulesAllLengths ["self", "steps"] (spRAll T.cRules) := ok_rAll T
  have GRulesWithinImage : FnOk P w K mg base CX0 (k + 3) T.aRulesWithinImage T.dRulesWithinImage ["self", "letter", "row", "index"] (spRWith T.cRules) := ok_rWith T
  refine T.fRulesLetterAt.ok scRulesLetterAt (fun vs H Q E h => ?_) (fun cdv A outer s H vs Q E hr h => ?_)
  · obtain ⟨r, ims, l, s, i, rfl, _⟩ := h
    rfl
  · obtain ⟨r, ims, l, s, i, rfl, ra, ok, hl, hs, hi, q⟩ := h
    refine ⟨_, (pss_cons (ps_expr (pe_meth (pv 0) T.clRules T.mRulesCheckLetter GRulesCheckLetter hr T.bRulesCheckLetter .nil pass0 (pa_cons (pv 1) pa_nil)))
      (pss_cons (ps_expr (pe_call GCheckCount hr (by rfl) T.gCheckCount T.fCheckCount.kp T.bCheckCount .nil pass0 (pa_cons (pv 2) (pa_cons pe_int (pa_cons (pe_glob (v := .int 400) rfl T.m_MOST_STEPS ⟨_, rfl⟩) pa_nil)))))
      (pss_cons (ps_set (i := 4) scRulesLetterAt.nd rfl (Or.inl rfl) (pe_meth (pv 0) T.clRules T.mRulesAllLengths GRulesAllLengths hr T.bRulesAllLengths .nil pass0 (pa_cons (pv 2) pa_nil)))
      (pss_cons (ps_expr (pe_call GCheckCount hr (by rfl) T.gCheckCount T.fCheckCount.kp T.bCheckCount .nil pass0 (pa_cons (pv 3) (pa_cons pe_int (pa_cons (pe_op op_sub (pe_ix ix_list (pe_ix ix_list (pv 4) (pe_un un_neg pe_int) (fun _ _ => rfl)) (pv 1) (fun _ _ => rfl)) pe_int) pa_nil)))))
      (pss_cons (ps_for PassesOwn.never rfl (pi_reversed (by rfl) T.m_reversed (pa_cons (pe_slice sl_list (pv 4) po_none (po_some (pe_un un_neg pe_int))) pa_nil)) (pg_name (i := 5) scRulesLetterAt.nd rfl (Or.inl rfl)) (pss_one (ps_asg (pe_meth (pv 0) T.clRules T.mRulesWithinImage GRulesWithinImage hr T.bRulesWithinImage .nil pass0 (pa_cons (pv 1) (pa_cons (pv 5) (pa_cons (pv 3) pa_nil)))) (pg_tup (by rfl) (pgs_cons (pg_name (i := 1) scRulesLetterAt.nd rfl (Or.inl rfl)) (pgs_cons (pg_name (i := 3) scRulesLetterAt.nd rfl (Or.inl rfl)) pgs_nil))))))
      (pss_one (ps_ret (pv 1)))))))), ?_⟩
    obtain ⟨dx, t, ps, h1, _⟩ := id ra
    refine ⟨_, rfl, r, dx, _, rfl, h1, no_meth (by decide), _, rfl, r, ims, l, rfl, ra, hl, fun H1 s1 => ?_⟩
    refine ⟨_, rfl, s, 0, 400, rfl, by omega, by omega, fun H2 s2 => ?_⟩
    have s12 := s1.trans s2
    refine ⟨_, rfl, r, dx, _, rfl, s12 _ _ h1, no_meth (by decide), _, rfl, r, ims, s, rfl, ra.same s12, ok, hs, fun H3 D qs s3 hD rows => ?_⟩
    have s13 := s12.trans s3
    have hq : qs.length = s + 1 := by rw [rows.len, rowsL_len]
    obtain ⟨p, hp⟩ : ∃ p, qs[s]? = some p := ⟨_, List.getElem?_eq_getElem (by omega)⟩
    have hrow := rows.el s p _ hp (rowsL_at (Nat.lt_succ_self s))
    refine ⟨_, rfl, _, rfl, 1, rfl, D, _, _, .ref p, rfl, rfl, SqL.of hD, ref_last hq hp, _, rfl, p, _, _, .int ((len ims s l : Nat) : Int), rfl, rfl, SqL.of hrow, atI_nat (n2v_at (rowL_at hl)), _, 1, rfl, rfl, i, 0, _, rfl, by omega, by omega, fun H4 s4 => ?_⟩
    refine ⟨_, rfl, 1, rfl, _, rfl, D, _, rfl, SqL.of (s4 _ _ hD), fun F nF => ?_⟩
    have ec : cutV (qs.map V.ref) none (some (-1)) = (qs.map V.ref).take s := by rw [cut_last, List.length_map, hq, Nat.add_sub_cancel]
    have s5 := same_new (o := .lst (cutV (qs.map V.ref) none (some (-1)))) nF
    have hF : upd H4 F (.lst (cutV (qs.map V.ref) none (some (-1)))) F = some (.lst ((qs.map V.ref).take s)) := by
      rw [upd_same, ec]
    have s15 := (s13.trans s4).trans s5
    have rows5 := (rows.same s4).same s5
    generalize upd H4 F (.lst (cutV (qs.map V.ref) none (some (-1)))) = H5 at *
    have hfl : ((qs.map V.ref).take s).length = s := by rw [List.length_take, List.length_map, hq]; omega
    refine ⟨F, _, rfl, SqL.of hF, for_it walk_rev (fun m σ H' => ∃ (l' i' : Nat) (o5 : Option V), σ = [some (.ref r), some (.int (l' : Nat)), some (.int (s : Nat)), some (.int (i' : Nat)), some (.ref D), o5] ∧ Same H5 H' ∧ l' < ims.length ∧ i' < len ims (s - m) l' ∧ letAt ims s l i = letAt ims (s - m) l' i') ?_ ?_ ?_ ?_⟩
    · exact ⟨l, i, _, rfl, Same.refl _, hl, hi, rfl⟩
    · rintro m σ H6 _ ⟨l', i', o5, rfl, s6, _⟩
      exact SqL.of (s6 _ _ hF)
    · rintro m v σ H6 H7 hm ⟨l', i', o5, rfl, s6, hl', hi', hw⟩ ⟨rfl, hv⟩
      rw [hfl] at hm hv
      rw [List.getElem?_take_of_lt (by omega)] at hv
      obtain ⟨p2, hp2, rfl⟩ := ref_get hv
      have hr2 := (rows5.same s6).el _ p2 _ hp2 (rowsL_at (by omega))
      have es : s - m = (s - 1 - m) + 1 := by omega
      rw [es] at hi' hw
      rw [len_succ] at hi'
      have s16 := s15.trans s6
      refine ⟨_, rfl, r, dx, _, rfl, s16 _ _ h1, no_meth (by decide), _, rfl, _, rfl, _, rfl, r, ims, l', s - 1 - m, p2, i', rfl, ra.same s16, ok, hl', hr2, hi', fun H8 u s8 nu hu => ?_⟩
      have wi := within_in hi'
      refine ⟨u, _, rfl, SqT.of hu, rfl, _, _, rfl, _, _, rfl, rfl, ?_⟩
      refine ⟨_, _, _, rfl, s6.trans s8, ok.lt _ (img_mem hl') _ wi.1, ?_, ?_⟩
      · rw [show s - (m + 1) = s - 1 - m by omega]
        exact wi.2
      · rw [show s - (m + 1) = s - 1 - m by omega]
        exact hw
    · rintro σ H6 ⟨l', i', o5, rfl, s6, hl', hi', hw⟩
      rw [hfl, Nat.sub_self] at hw
      have z := q H6 (s15.trans s6)
      rw [hw] at z
      exact ⟨_, rfl, z⟩
end
end Mo

namespace Mo
open PySem PySem.Spec PyProof.Rows L2
/-- the first letter blocks, one after the other -/
structure BlkAt (q : Nat) (H : Hp) (ps : List Addr) (m : Nat) : Prop where
  len : ps.length = m
  el : ∀ (k : Nat) (p : Addr), ps[k]? = some p → H p = some (.tup ((blk q k).map V.int))
theorem BlkAt.same {q m : Nat} {H H' : Hp} {ps : List Addr} (h : BlkAt q H ps m) (s : Same H H') : BlkAt q H' ps m := ⟨h.len, fun k p e => s _ _ (h.el k p e)⟩
theorem BlkAt.ims {q : Nat} {H : Hp} {ps : List Addr} (h : BlkAt q H ps (q * q)) : ImsAt H ps (bims q) := by
  refine ⟨by rw [h.len, bims_len], fun k p im e1 e2 => ?_⟩
  have hk : k < q * q := by
    rw [← h.len]
    exact (List.getElem?_eq_some_iff.mp e1).1
  rw [img_at (by rw [bims_len]; exact hk)] at e2
  obtain rfl := Option.some.inj e2
  rw [bims_blk hk]
  exact h.el k p e1
theorem BlkAt.add {q m : Nat} {H H' : Hp} {ps : List Addr} {p : Addr} (h : BlkAt q H ps m) (s : ∀ b xs, H b = some (.tup xs) → H' b = some (.tup xs)) (hp : H' p = some (.tup ((blk q m).map V.int))) : BlkAt q H' (ps ++ [p]) (m + 1) := by
  refine ⟨by rw [List.length_append, h.len]; rfl, fun k b e => ?_⟩
  by_cases hk : k < ps.length
  · rw [List.getElem?_append_left hk] at e
    exact s _ _ (h.el k b e)
  · have hk2 : k = ps.length := by
      have := (List.getElem?_eq_some_iff.mp e).1
      rw [List.length_append] at this
      simp at this
      omega
    rw [hk2, List.getElem?_append_right (Nat.le_refl _), Nat.sub_self] at e
    obtain rfl : p = b := Option.some.inj e
    rw [hk2, h.len]
    exact hp
section
variable {P : Program} {w : World} {K : PySem.W.Frag} {mg : Str → Option Value} {base : Heap}
/-- the images again -/
def spRImgs (C : Addr) : Sp := fun vs H Q _ => ∃ (r dx t : Addr) (xs : List V), vs = [.ref r] ∧ H r = some (.ins C dx [(("table" : Str), .ref t)]) ∧ H t = some (.tup xs) ∧ ∀ l, H l = none → Q (.ref l) (upd H l (.lst xs))
theorem ok_rImgs {k : Nat} (T : Txt K mg) : FnOk P w K mg base CX0 (k + 1) T.aRulesImages T.dRulesImages ["self"] (spRImgs T.cRules) := by
  refine T.fRulesImages.ok scRulesImages (fun vs H Q E h => ?_) (fun cdv A outer s H vs Q E hr h => ?_)
  · obtain ⟨_, _, _, _, rfl, _⟩ := h
    rfl
  · obtain ⟨r, dx, t, xs, rfl, h1, h2, q⟩ := h
    refine ⟨_, (pss_one (ps_ret (pe_callTy call_list_of (by rfl) T.m_list (by decide +kernel) (pa_cons (pe_fld (pv 0) rfl) pa_nil)))), ?_⟩
    exact ⟨_, rfl, r, T.cRules, dx, _, _, rfl, h1, T.clRules, T.nRules_table, tab_field, t, xs, rfl, .inr (SqT.of h2), fun l nl => q l nl⟩
/-- the rule set of the letter blocks -/
def spAvr (C : Addr) : Sp := fun vs H Q _ => ∃ n : Nat, vs = [.int n] ∧ 1 ≤ n ∧ n ≤ 8 ∧ ∀ H' r, Same H H' → RlsAt C H' r (bims (qOf n)) → Q (.ref r) H'
theorem ok_avr {k : Nat} (T : Txt K mg) : FnOk P w K mg base CX0 (k + 8) T.aAvoidingRules T.dAvoidingRules ["count"] (spAvr T.cRules) := by
  have GModulus : FnOk P w K mg base CX0 (k + 7) T.aModulus T.dModulus ["count"] spMod := ok_mod T
  have GLetterBlock : FnOk P w K mg base CX0 (k + 7) T.aLetterBlock T.dLetterBlock ["count", "letter"] spBlock := ok_block T
  have GRulesInit : FnOk P w K mg base CX0 (k + 6) T.aRulesInit T.dRulesInit ["self", "images"] (spRInit T.cRules) := ok_rInit T
  refine T.fAvoidingRules.ok scAvoidingRules (fun vs H Q E h => ?_) (fun cdv A outer s H vs Q E hr h => ?_)
  · obtain ⟨n, rfl, _⟩ := h
    rfl
  · obtain ⟨n, rfl, n1, n8, q⟩ := h
    obtain ⟨q1, q2, _⟩ := qOf_in n n1 n8
    have hqq : qOf n * qOf n ≤ 19 * 19 := Nat.mul_le_mul q2 q2
    have ok : Ims (bims (qOf n)) := bims_ok (by omega) q2
    refine ⟨_, (pss_cons (ps_set (i := 1) scAvoidingRules.nd rfl (Or.inl rfl) (pe_call GModulus hr (by rfl) T.gModulus T.fModulus.kp T.bModulus .nil pass0 (pa_cons (pv 0) pa_nil)))
      (pss_one (ps_ret (pe_make T.kRules GRulesInit hr (by rfl) T.eRules T.bRulesInit .nil pass0 (pa_cons (pe_lc (own := [("letter", 2)]) (g := gName 2) (tt := tYes) rfl scAvoidingRules.nd (pi_range1 (by rfl) T.m_range (pa_cons (pe_op op_mul (pv 1) (pv 1)) pa_nil)) (blkOk_by (N := ["count", "size", "letter"]) (sc := defScope sAvoidingRules) (by decide +kernel)) (fun _ _ _ _ _ => pg_name (i := 2) scAvoidingRules.nd rfl (Or.inl rfl)) (fun _ _ _ _ _ => pts_nil) (fun _ _ _ _ _ => (pe_call GLetterBlock hr (by rfl) T.gLetterBlock T.fLetterBlock.kp T.bLetterBlock .nil pass0 (pa_cons (pv 0) (pa_cons (pv 2) pa_nil))))) pa_nil))))), ?_⟩
    refine ⟨_, rfl, n, rfl, n1, n8, fun H1 s1 => ?_⟩
    have hm : ((qOf n : Nat) : Int) * ((qOf n : Nat) : Int) = ((qOf n * qOf n : Nat) : Int) := (Int.natCast_mul ..).symm
    refine ⟨_, rfl, _, rfl, qOf n, qOf n, rfl, rfl, .inl ⟨by omega, by omega⟩, _, rfl, by omega, by omega, fun D nD => lc_range (lo := 0) (n := (((qOf n : Nat) : Int) * ((qOf n : Nat) : Int)).toNat) (fun i H' => ∃ ps : List Addr, Same H1 H' ∧ H' D = some (.lst (ps.map V.ref)) ∧ BlkAt (qOf n) H' ps i) ?_ ?_ ?_⟩
    · exact ⟨[], same_new nD, upd_same, rfl, fun k' p e => by cases e⟩
    · rintro i H3 hi ⟨ps, s3, hD, hb⟩
      have hi2 : i < qOf n * qOf n := by
        rw [hm] at hi
        exact hi
      refine ⟨rfl, _, rfl, _, rfl, n, i, congrArg (fun z => [V.int n, V.int z]) (show (0 : Int) + (i : Int) = (i : Nat) by omega), n1, n8, hi2, fun H4 p s4 np hp => ?_⟩
      have hD4 := s4 _ _ hD
      refine ⟨_, hD4, fitsLt (by rw [List.length_map, hb.len]; omega), ps ++ [p], Same.put (s3.trans s4) nD, by rw [upd_same, List.map_append]; rfl, (hb.same s4).add (fun b xs e => ?_) ?_⟩
      · rw [upd_ne (ne_of e hD4 (fun z => nomatch z))]
        exact e
      · rw [upd_ne (ne_of hp hD4 (fun z => nomatch z))]
        exact hp
    · rintro H3 ⟨ps, s3, hD, hb⟩
      rw [hm] at hb
      have tab : ImsAt H3 ps (bims (qOf n)) := BlkAt.ims hb
      have s13 := s1.trans s3
      refine fun x dx nx ndx nex => ?_
      have sx : Same H3 (upd (upd H3 dx (.own x)) x (.ins T.cRules dx [])) := fun b o e => by
        rw [upd_ne (ne_of_none e nx), upd_ne (ne_of_none e ndx)]
        exact e
      refine ⟨x, dx, D, ps, _, rfl, upd_same, sx _ _ hD, tab.same sx, ok, fun H4 kp ra4 => ⟨rfl, ?_⟩⟩
      have s4 : Same H3 H4 := fun b o e => kp b o (ne_of_none e nx) (sx b o e)
      exact q H4 x (s13.trans s4) ra4
end
end Mo

namespace Mo
open PySem PySem.Spec PyProof.Rows L2
section
variable {P : Program} {w : World} {K : PySem.W.Frag} {mg : Str → Option Value} {base : Heap}
theorem ok_plainX {k : Nat} (T : Txt K mg) : FnOk P w K mg base CX0 (k + 1) T.aIsPlainInteger T.dIsPlainInteger ["value"] (spAsk plainD) := by
  refine T.fIsPlainInteger.ok scIsPlainInteger (fun vs H Q E h => ?_) (fun cdv A outer s H vs Q E hr h => ?_)
  · obtain ⟨_, _, _, rfl, _⟩ := h
    rfl
  · obtain ⟨N, x, d, rfl, hd, _, q⟩ := h
    refine ⟨_, (pss_one (ps_ret (pe_and (pe_callB call_isi (by rfl) T.m_isinstance (by decide +kernel) (pa_cons (pv 0) (pa_cons (pe_bltn (v := .ty "int") (by rfl) T.m_int (by decide +kernel) rfl) pa_nil))) (pe_one (pe_not (pe_callB call_isi (by rfl) T.m_isinstance (by decide +kernel) (pa_cons (pv 0) (pa_cons (pe_bltn (v := .ty "bool") (by rfl) T.m_bool (by decide +kernel) rfl) pa_nil)))))))), ?_⟩
    have ty := hd.ty (K := K)
    have q0 := q H (Same.refl H)
    unfold plainD at q0
    refine ⟨_, rfl, _, _, .type (tyD d), .type "int", isIntD d, rfl, .ty "int", ty, kit_ty (kit_int d), isIntD d, rfl, ?_⟩
    cases e : isIntD d with
    | false => rw [e] at q0; exact q0
    | true =>
      rw [e] at q0
      exact ⟨_, rfl, _, _, .type (tyD d), .type "bool", isBoolD d, rfl, .ty "bool", ty, kit_ty (kit_bool d), isBoolD d, rfl, q0⟩
theorem ok_initCount {k : Nat} (T : Txt K mg) : FnOk P w K mg base CX0 (k + 1) T.iInvalidCount T.dInvalidCount ["self", "value"] (spInit T.cInvalidCount "value") := by
  refine T.fInitInvalidCount.ok scInitInvalidCount (fun vs H Q E h => ?_) (fun cdv A outer s H vs Q E hr h => ?_)
  · obtain ⟨a, y, rfl, _⟩ := h
    rfl
  · obtain ⟨a, y, rfl, ha, q⟩ := h
    refine ⟨_, pss_one (ps_ost (pv 0) (pv 1)), ?_⟩
    exact ⟨_, rfl, _, rfl, a, T.cInvalidCount, rfl, T.xInvalidCount.oex, T.xInvalidCount.no, .inl ⟨ha, fun dx nd ne => q dx nd ne⟩⟩
theorem ok_cntX {k : Nat} (T : Txt K mg) : FnOk P w K mg base (L2.CX P w) (k + 3) T.aCheckCount T.dCheckCount ["value", "least", "most"] (spCnt T.cInvalidCount) := by
  have GIsPlainInteger : FnOk P w K mg base CX0 (k + 2) T.aIsPlainInteger T.dIsPlainInteger ["value"] (spAsk plainD) := ok_plainX T
  have GInitInvalidCount : FnOk P w K mg base CX0 (k + 1) T.iInvalidCount T.dInvalidCount ["self", "value"] (spInit T.cInvalidCount "value") := ok_initCount T
  refine T.fCheckCount.okX scCheckCount (fun vs H Q E h => ?_) (fun cdv A outer s H vs Q E hr h => ?_)
  · obtain ⟨_, _, _, _, _, rfl, _⟩ := h
    rfl
  · obtain ⟨N, x, d, a, b, rfl, hd, hb, q1, q2⟩ := h
    refine ⟨_, (pss_one (ps_if (PW.pt (pw_or (pt_not (pt_val (pe_call GIsPlainInteger hr (by rfl) T.gIsPlainInteger T.fIsPlainInteger.kp T.bIsPlainInteger .nil pass0 (pa_cons (pv 0) pa_nil)))) (pw_or (pt_cmpR op_lt (pv 0) (pv 1) (nomark _)) (pw_or1 (pt_cmpR op_gt (pv 0) (pv 2) (nomark _)))))) (pss_one (ps_raise rfl (takes_of rfl rfl rfl rfl) (pmk_oex T.xInvalidCount.oex T.xInvalidCount.iC T.xInvalidCount.tI GInitInvalidCount hr T.bInitInvalidCount .nil pass0 (by rfl) T.eInvalidCount (pa_cons (pv 0) pa_nil)))) pss_nil)), ?_⟩
    have fin : cntB a b d = false → ∀ H1, Same H H1 → ∀ dd H', H1 dd = none → Same H1 H' → H' dd = some (.xd [("value", x)]) → E (.ref T.cInvalidCount) (some dd) H' := fun e H1 s1 dd H' nd s2 hd => q2 e dd H' (s1.free nd) (s1.trans s2) hd
    refine ⟨_, rfl, N, x, d, rfl, hd, hb, fun H1 s1 => ⟨plainD d, rfl, ?_⟩⟩
    cases e : plainD d with
    | false => exact iteT ⟨_, rfl, err_read (fin (cnt_no e) H1 s1)⟩
    | true =>
      obtain ⟨i, rfl, rfl⟩ := plain_int hd e
      refine iteF ⟨_, rfl, _, rfl, i, a, rfl, rfl, decide (i < a), rfl, ?_⟩
      by_cases h1 : i < a
      · rw [decide_eq_true h1]
        refine iteT ⟨_, rfl, err_read (fin ?_ H1 s1)⟩
        show (decide (a ≤ i) && decide (i ≤ b)) = false
        rw [decide_eq_false (show ¬ a ≤ i by omega)]
        rfl
      · rw [decide_eq_false h1]
        refine iteF ⟨_, rfl, _, rfl, i, b, rfl, rfl, decide (i > b), rfl, ?_⟩
        by_cases h2 : i > b
        · rw [decide_eq_true h2]
          refine iteT ⟨_, rfl, err_read (fin ?_ H1 s1)⟩
          show (decide (a ≤ i) && decide (i ≤ b)) = false
          rw [decide_eq_false (show ¬ i ≤ b by omega), Bool.and_false]
        · rw [decide_eq_false h2]
          refine iteF (q1 ?_ H1 s1)
          show (decide (a ≤ i) && decide (i ≤ b)) = true
          rw [decide_eq_true (show a ≤ i by omega), decide_eq_true (show i ≤ b by omega)]
          rfl
end
end Mo

namespace Mo
open PySem PySem.Spec PyProof.Rows L2
theorem cut_mid (xs : List V) {a b : Nat} (h : a ≤ b) (hb : b ≤ xs.length) : cutV xs (some (a : Int)) (some (b : Int)) = (xs.drop a).take (b - a) := by
  unfold cutV
  rw [HT.sIx_nat, HT.sIx_nat, Nat.min_eq_left (show a ≤ xs.length by omega), Nat.min_eq_left hb]
section
variable {P : Program} {w : World} {K : PySem.W.Frag} {mg : Str → Option Value} {base : Heap}
/-- stretch, of an end below 4 ^ B -/
def spStr (B : Nat) : Sp := fun vs H Q _ => ∃ q s n : Nat, vs = [.int q, .int s, .int n] ∧ 4 ≤ q ∧ q ≤ 19 ∧ n ≤ 4200 ∧ s + n ≤ 4 ^ B ∧ ∀ H' p, Same H H' → H' p = some (.tup ((avs q s n).map V.int)) → Q (.ref p) H'
def spStrR : Nat → Sp
  | 0 => fun _ _ _ _ => False
  | B + 1 => spStr B
theorem str_step {k B : Nat} (T : Txt K mg) (GStretch : FnOk P w K mg base CX0 (k + B + 1) T.aStretch T.dStretch ["size", "start", "length"] (spStrR B)) : FnOk P w K mg base CX0 (k + B + 2) T.aStretch T.dStretch ["size", "start", "length"] (spStr B) := by
  have GLetterWithin : FnOk P w K mg base CX0 (k + B + 1) T.aLetterWithin T.dLetterWithin ["size", "letter", "index"] spWithin := ok_within T
  refine T.fStretch.ok scStretch (fun vs H Q E h => ?_) (fun cdv A outer s H vs Q E hr h => ?_)
  · obtain ⟨q, s, n, rfl, _⟩ := h
    rfl
  · obtain ⟨q, st, n, rfl, q4, q19, hn, hB, qq⟩ := h
    refine ⟨_, (pss_cons (ps_if (pt_cmpR op_eq (pv 2) pe_int (nomark _)) (pss_one (ps_ret (pe_tup pa_nil))) pss_nil)
      (Evl.pss_cut (ps_if (PW.pt (pw_and (pt_cmpR op_eq (pv 1) pe_int (nomark _)) (pw_and1 (pt_cmpR op_eq (pv 2) pe_int (nomark _))))) (pss_one (ps_ret (pe_tup (pa_cons pe_int pa_nil)))) pss_nil)
      (pss_cons (ps_set (i := 3) scStretch.nd rfl (Or.inl rfl) (pe_op op_fdivN (pv 1) (pv 0)))
      (pss_cons (ps_set (i := 4) scStretch.nd rfl (Or.inl rfl) (pe_op op_fdivN (pe_op op_sub (pe_op op_add (pv 1) (pv 2)) pe_int) (pv 0)))
      (pss_cons (ps_setLc2 (i := 5) (own := [("letter", 6), ("index", 7)]) (vs1 := [7]) (g := gName 6) (g1 := gName 7) (tt := tYes) (tt1 := tYes) rfl scStretch.nd rfl rfl (sw_true rfl rfl rfl (by decide +kernel)) (pi_tup (pe_call GStretch hr (by rfl) T.gStretch T.fStretch.kp T.bStretch .nil pass0 (pa_cons (pv 0) (pa_cons (pv 3) (pa_cons (pe_op op_add (pe_op op_sub (pv 4) (pv 3)) pe_int) pa_nil))))) (blkOk_by (N := ["size", "start", "length", "low", "high", "letters", "letter", "index"]) (sc := defScope sStretch) (by decide +kernel)) (by decide) (fun _ _ _ _ _ => pg_name (i := 6) scStretch.nd rfl (Or.inl rfl)) (fun _ _ _ _ _ => pts_nil) (fun _ _ _ _ _ => (pi_range1 (by rfl) T.m_range (pa_cons (pv 0) pa_nil))) (fun _ _ _ _ _ => pg_name (i := 7) scStretch.nd rfl (Or.inl rfl)) (fun _ _ _ _ _ => pts_nil) (fun _ _ _ _ _ => (pe_call GLetterWithin hr (by rfl) T.gLetterWithin T.fLetterWithin.kp T.bLetterWithin .nil pass0 (pa_cons (pv 0) (pa_cons (pv 6) (pa_cons (pv 7) pa_nil))))))
      (pss_one (ps_ret (pe_callTy call_tuple_of (by rfl) T.m_tuple (by decide +kernel) (pa_cons (pe_slice sl_list (pv 5) (po_some (pe_op op_sub (pv 1) (pe_op op_mul (pv 3) (pv 0)))) (po_some (pe_op op_add (pe_op op_sub (pv 1) (pe_op op_mul (pv 3) (pv 0))) (pv 2)))) pa_nil))))))))), ?_⟩
    by_cases e0 : n = 0
    · subst e0
      exact ⟨_, rfl, rfl, true, congrArg V.bl (decide_eq_true rfl), iteT ⟨Nat.zero_le _, fun p np => qq _ p (same_new np) upd_same⟩⟩
    refine ⟨_, rfl, rfl, false, congrArg V.bl (decide_eq_false (fun z => e0 (Int.natCast_eq_zero.mp (V.int.inj z)))), iteF ?_⟩
    refine ⟨fun σ' H' => σ' = [some (.int (q : Nat)), some (.int (st : Nat)), some (.int (n : Nat)), none, none, none, none, none] ∧ H' = H ∧ ¬ (st = 0 ∧ n = 1), ?_, ?_⟩
    · by_cases e1 : st = 0
      · refine ⟨_, rfl, rfl, true, congrArg V.bl (decide_eq_true (by rw [e1]; rfl)), iteT ?_⟩
        by_cases e2 : n = 1
        · refine ⟨_, rfl, rfl, true, congrArg V.bl (decide_eq_true (by rw [e2]; rfl)), iteT ⟨by show 1 ≤ sizeLine; decide, fun p np => qq _ p (same_new np) ?_⟩⟩
          rw [upd_same, e1, e2]
          show some (HO.tup [V.int 0]) = some (HO.tup [V.int ((av q 0 : Nat) : Int)])
          rw [av_zero]
          rfl
        · exact ⟨_, rfl, rfl, false, congrArg V.bl (decide_eq_false (fun z => e2 (Int.ofNat_inj.mp (V.int.inj z)))), iteF ⟨rfl, rfl, fun z => e2 z.2⟩⟩
      · exact ⟨_, rfl, rfl, false, congrArg V.bl (decide_eq_false (fun z => e1 (Int.natCast_eq_zero.mp (V.int.inj z)))), iteF ⟨rfl, rfl, fun z => e1 z.1⟩⟩
    rintro σ' H' ⟨rfl, rfl, e1⟩
    obtain ⟨C, rfl⟩ : ∃ C, B = C + 1 := by
      cases B with
      | zero => exfalso; have : st + n ≤ 1 := hB; omega
      | succ C => exact ⟨C, rfl⟩
    have q0 : 0 < q := by omega
    have eL : (st : Int).fdiv q = ((st / q : Nat) : Int) := by rw [Int.fdiv_eq_ediv_of_nonneg _ (by omega), Int.natCast_ediv]
    have eH : ((st : Int) + (n : Int) - 1).fdiv q = (((st + n - 1) / q : Nat) : Int) := by
      rw [Int.fdiv_eq_ediv_of_nonneg _ (by omega), show (st : Int) + (n : Int) - 1 = ((st + n - 1 : Nat) : Int) by omega, Int.natCast_ediv]
    have d1 := Nat.div_add_mod st q
    have d2 := Nat.div_add_mod (st + n - 1) q
    have m1 := Nat.mod_lt st q0
    have m2 := Nat.mod_lt (st + n - 1) q0
    have lh : st / q ≤ (st + n - 1) / q := Nat.div_le_div_right (by omega)
    have top4 : (st + n - 1) / q < 4 ^ C := by
      have h1 : (st + n - 1) / q ≤ (st + n - 1) / 4 := Nat.div_le_div_left q4 (by decide)
      have h2 : (st + n - 1) / 4 < 4 ^ C := Nat.div_lt_of_lt_mul (by rw [Nat.pow_succ] at hB; omega)
      omega
    obtain ⟨lo, hlo⟩ : ∃ lo, st / q = lo := ⟨_, rfl⟩
    obtain ⟨hi, hhi⟩ : ∃ hi, (st + n - 1) / q = hi := ⟨_, rfl⟩
    rw [hlo] at eL d1 lh
    rw [hhi] at eH d2 lh top4
    obtain ⟨x, rfl⟩ : ∃ x, hi = lo + x := ⟨hi - lo, by omega⟩
    rw [Nat.mul_add] at d2
    have x4 : 4 * x ≤ q * x := Nat.mul_le_mul_right x q4
    refine ⟨_, rfl, _, rfl, st, q, rfl, rfl, ⟨by omega, by omega⟩, ?_⟩
    refine ⟨_, rfl, _, rfl, st, n, rfl, rfl, _, 1, rfl, rfl, _, rfl, _, q, rfl, rfl, ⟨by omega, by omega⟩, ?_⟩
    refine ⟨_, rfl, _, rfl, _, rfl, _, rfl, _, _, rfl, rfl, _, 1, rfl, rfl, q, lo, x + 1, ?_, q4, q19, by omega, by omega, fun H1 tp s1 htp => ?_⟩
    · show [V.int (q : Int), V.int ((st : Int).fdiv q), V.int (((st : Int) + (n : Int) - 1).fdiv q - (st : Int).fdiv q + 1)] = _
      rw [eL, eH, show ((lo + x : Nat) : Int) - (lo : Int) + 1 = ((x + 1 : Nat) : Int) by omega]
    have hqx : q * x ≤ 5000 := by omega
    refine ⟨tp, rfl, ⟨_, SqT.of htp⟩, fun D nD => turns_it (walk_tup (xs := (avs q lo (x + 1)).map V.int)) (fun i H' => Same H1 H' ∧ H' D = some (.lst ((avs q (lo * q) (i * q)).map V.int))) ?_ ?_ ?_ ?_⟩
    · refine ⟨same_new nD, ?_⟩
      rw [upd_same, Nat.zero_mul]
      rfl
    · exact fun _ _ _ h => SqT.of (h.1 _ _ htp)
    · rintro i v HA HB hi' ⟨sA, hD⟩ ⟨rfl, hv⟩
      rw [List.length_map, avs_len] at hi'
      rw [List.getElem?_map, avs_at hi'] at hv
      obtain rfl := Option.some.inj hv
      have hiq : i * q ≤ x * q := Nat.mul_le_mul_right q (by omega)
      rw [Nat.mul_comm x q] at hiq
      refine ⟨rfl, _, rfl, q, rfl, by omega, by omega, turns_it walk_range (fun j H' => Same H1 H' ∧ H' D = some (.lst ((avs q (lo * q) (i * q + j)).map V.int))) ?_ ?_ ?_ ?_⟩
      · exact ⟨sA, hD⟩
      · exact fun _ _ _ _ => trivial
      · rintro j v HC HE hj ⟨sC, hD2⟩ ⟨rfl, rfl⟩
        have hj2 : j < q := by
          have : j < ((q : Nat) : Int).toNat := hj
          omega
        refine ⟨rfl, _, rfl, _, rfl, _, rfl, q, av q (lo + i), j, ?_, q0, by omega, by omega, fun HF sF => ⟨_, sF _ _ hD2, fitsLt (by rw [List.length_map, avs_len]; omega), Same.put (sC.trans sF) nD, ?_⟩⟩
        · show [V.int (q : Int), V.int ((av q (lo + i) : Nat) : Int), V.int (0 + (j : Int))] = _
          rw [show (0 : Int) + (j : Int) = ((j : Nat) : Int) by omega]
        · rw [upd_same, ← Nat.add_assoc, avs_snoc, List.map_append, ← Nat.add_assoc, ← Nat.add_mul, av_at (by omega) (lo + i) hj2]
          rfl
      · rintro HC ⟨sC, hD2⟩
        rw [show ((q : Nat) : Int).toNat = q by omega] at hD2
        refine ⟨sC, ?_⟩
        rw [hD2, Nat.add_mul i 1 q, Nat.one_mul]
    · rintro H2 ⟨s2, hD⟩
      rw [List.length_map, avs_len] at hD
      -- the slice
      have a0 : q * lo ≤ st := by omega
      have ea : (st : Int) - (st : Int).fdiv q * (q : Int) = ((st - lo * q : Nat) : Int) := by
        rw [eL, ← Int.natCast_mul, Nat.mul_comm lo q]
        omega
      have cov : st - lo * q + n ≤ (x + 1) * q := by
        rw [Nat.mul_comm lo q, Nat.mul_comm (x + 1) q, Nat.mul_add]
        omega
      refine ⟨_, rfl, _, rfl, _, rfl, _, rfl, _, _, rfl, rfl, .inr ⟨by omega, by omega⟩, st, _, rfl, rfl, ((st - lo * q : Nat) : Int), congrArg V.int ea, ?_⟩
      refine ⟨_, rfl, _, rfl, _, rfl, _, _, rfl, rfl, .inr ⟨by omega, by omega⟩, st, _, rfl, rfl, _, rfl, _, n, rfl, rfl, ((st - lo * q + n : Nat) : Int), ?_, ?_⟩
      · refine congrArg V.int ?_
        show (st : Int) - (st : Int).fdiv q * (q : Int) + (n : Int) = _
        rw [ea]
        omega
      refine ⟨D, _, rfl, SqL.of hD, fun m nm => ?_⟩
      have ec : cutV ((avs q (lo * q) ((x + 1) * q)).map V.int) (some ((st - lo * q : Nat) : Int)) (some ((st - lo * q + n : Nat) : Int)) = (avs q st n).map V.int := by
        rw [cut_mid _ (by omega) (by rw [List.length_map, avs_len]; exact cov), ← List.map_drop, ← List.map_take, show st - lo * q + n - (st - lo * q) = n by omega, avs_cut cov, show lo * q + (st - lo * q) = st by rw [Nat.mul_comm lo q]; omega]
      have s3 := same_new (o := .lst (cutV ((avs q (lo * q) ((x + 1) * q)).map V.int) (some ((st - lo * q : Nat) : Int)) (some ((st - lo * q + n : Nat) : Int)))) nm
      refine ⟨m, _, rfl, .inl ⟨SqL.of upd_same, fun p np => ?_⟩⟩
      refine qq _ p (((s1.trans s2).trans s3).trans (same_new np)) ?_
      rw [upd_same, ec]
theorem ok_str {k : Nat} (T : Txt K mg) : ∀ B : Nat, FnOk P w K mg base CX0 (k + B + 2) T.aStretch T.dStretch ["size", "start", "length"] (spStr B)
  | 0 => str_step (B := 0) T ⟨fun vs H Q E h => (show False from h).elim, fun A outer s H args us vs Q E hr e0 hb r hsp => (show False from hsp).elim⟩
  | B + 1 => str_step T (ok_str T B)
end
end Mo

namespace Mo
open PySem PySem.Spec PyProof.Rows L2
section
variable {P : Program} {w : World} {K : PySem.W.Frag} {mg : Str → Option Value} {base : Heap}
/-- modulus where it is refused -/
def spModX (C : Addr) : Sp := fun vs H Q E => ∃ (N : Addr → Prop) (x : V) (d : PyData), vs = [x] ∧ Dx N H x d ∧ d.bulk ≤ 1000000 ∧ cntB 1 8 d = false ∧
  ∀ dd H', H dd = none → Same H H' → H' dd = some (.xd [("value", x)]) → E (.ref C) (some dd) H'
theorem ok_modX {k : Nat} (T : Txt K mg) : FnOk P w K mg base (L2.CX P w) (k + 4) T.aModulus T.dModulus ["count"] (spModX T.cInvalidCount) := by
  have GCheckCountX : FnOk P w K mg base (L2.CX P w) (k + 3) T.aCheckCount T.dCheckCount ["value", "least", "most"] (spCnt T.cInvalidCount) := ok_cntX T
  have GIsPrime : FnOk P w K mg base CX0 (k + 3) T.aIsPrime T.dIsPrime ["number"] spPrime := ok_prime T
  refine T.fModulus.okX scModulus (fun vs H Q E h => ?_) (fun cdv A outer s H vs Q E hr h => ?_)
  · obtain ⟨_, _, _, rfl, _⟩ := h
    rfl
  · obtain ⟨N, x, d, rfl, hd, hb, no, out⟩ := h
    refine ⟨_, (pss_cons (ps_expr (pe_call GCheckCountX hr (by rfl) T.gCheckCount T.fCheckCount.kp T.bCheckCount .nil (passes_call (takes_of rfl rfl rfl rfl) (fun _ _ _ _ h => h)) (pa_cons (pv 0) (pa_cons pe_int (pa_cons (pe_glob (v := .int 8) rfl T.m_MOST_VARIABLES ⟨_, rfl⟩) pa_nil)))))
      (pss_cons (ps_set (i := 1) scModulus.nd rfl (Or.inl rfl) (pe_op op_add (pe_op op_mul pe_int (pv 0)) pe_int))
      (pss_cons (ps_while (passes_of rfl) (pt_not (pt_val (pe_call GIsPrime hr (by rfl) T.gIsPrime T.fIsPrime.kp T.bIsPrime .nil pass0 (pa_cons (pv 1) pa_nil)))) (pss_one (ps_aug (i := 1) scModulus.nd rfl (Or.inl rfl) pe_int ip_add)))
      (pss_one (ps_ret (pv 1)))))), ?_⟩
    refine ⟨_, rfl, N, x, d, 1, 8, rfl, hd, hb, fun e H1 s1 => ?_, fun _ => out⟩
    rw [no] at e
    cases e
/-- avoiding_rules where it is refused -/
theorem ok_avrX {k : Nat} (T : Txt K mg) : FnOk P w K mg base (L2.CX P w) (k + 5) T.aAvoidingRules T.dAvoidingRules ["count"] (spModX T.cInvalidCount) := by
  have GModulusX : FnOk P w K mg base (L2.CX P w) (k + 4) T.aModulus T.dModulus ["count"] (spModX T.cInvalidCount) := ok_modX T
  refine T.fAvoidingRules.okX scAvoidingRules (fun vs H Q E h => ?_) (fun cdv A outer s H vs Q E hr h => ?_)
  · obtain ⟨_, _, _, rfl, _⟩ := h
    rfl
  · obtain ⟨N, x, d, rfl, hd, hb, no, out⟩ := h
    refine ⟨_, (pss_cons (ps_set (i := 1) scAvoidingRules.nd rfl (Or.inl rfl) (pe_call GModulusX hr (by rfl) T.gModulus T.fModulus.kp T.bModulus .nil (passes_call (takes_of rfl rfl rfl rfl) (fun _ _ _ _ h => h)) (pa_cons (pv 0) pa_nil)))
      Mo.pss_never), ?_⟩
    exact ⟨_, rfl, N, x, d, rfl, hd, hb, no, out⟩
end
end Mo

namespace Mo
open PySem PySem.Spec PyProof.Rows L2
section
variable {P : Program} {w : World} {K : PySem.W.Frag} {mg : Str → Option Value} {base : Heap}
def spRGrw (C : Addr) : Sp := fun vs H Q _ => ∃ (r : Addr) (ims : List (List Nat)) (l : Nat), vs = [.ref r, .int l] ∧ RlsAt C H r ims ∧ Ims ims ∧ l < ims.length ∧ ∀ H', Same H H' → Q (.bl (growB ims l)) H'
theorem ok_rGrw {k : Nat} (T : Txt K mg) : FnOk P w K mg base CX0 (k + 4) T.aRulesIsGrowing T.dRulesIsGrowing ["self", "letter"] (spRGrw T.cRules) := by
  have GRulesCheckLetter : FnOk P w K mg base CX0 (k + 3) T.aRulesCheckLetter T.dRulesCheckLetter ["self", "letter"] (spRChk T.cRules) := ok_rChk T
  refine T.fRulesIsGrowing.ok scRulesIsGrowing (fun vs H Q E h => ?_) (fun cdv A outer s H vs Q E hr h => ?_)
  · obtain ⟨r, ims, l, rfl, _⟩ := h
    rfl
  · obtain ⟨r, ims, l, rfl, ra, ok, hl, q⟩ := h
    refine ⟨_, (pss_cons (ps_expr (pe_meth (pv 0) T.clRules T.mRulesCheckLetter GRulesCheckLetter hr T.bRulesCheckLetter .nil pass0 (pa_cons (pv 1) pa_nil)))
      (pss_cons (ps_set (i := 2) scRulesIsGrowing.nd rfl (Or.inl rfl) (pe_ix ix_tup (pe_fld (pv 0) rfl) (pv 1) (fun _ _ => rfl)))
      (pss_one (ps_ret (pe_and (pe_cmpR op_eq (pe_ix ix_tup (pv 2) pe_int (fun _ _ => rfl)) (pv 1) (nomark _)) (pe_one (pe_cmpR op_gt (pe_callB call_len_seq (by rfl) T.m_len PySem.boot_len (pa_cons (pv 2) pa_nil)) pe_int (nomark _)))))))), ?_⟩
    obtain ⟨dx, t, ps, h1, h2, h3⟩ := id ra
    refine ⟨_, rfl, r, dx, _, rfl, h1, no_meth (by decide), _, rfl, r, ims, l, rfl, ra, hl, fun H1 s1 => ?_⟩
    obtain ⟨p, hp, hpp⟩ := (h3.same s1).at hl
    have hne := ok.ne _ (img_mem hl)
    obtain ⟨b, hb⟩ : ∃ b, (img ims l)[0]? = some b := by
      cases e : img ims l with
      | nil => exact absurd e hne
      | cons b r => exact ⟨b, rfl⟩
    refine ⟨_, rfl, r, T.cRules, dx, _, _, rfl, s1 _ _ h1, T.clRules, T.nRules_table, tab_field, _, rfl, t, _, _, .ref p, rfl, rfl, SqT.of (s1 _ _ h2), atI_nat (ref_at hp), ?_⟩
    have q1 := q H1 s1
    unfold growB at q1
    rw [hb] at q1
    by_cases e : b = l
    · subst e
      rw [decide_eq_true (rfl : some b = some b), Bool.true_and] at q1
      refine ⟨_, rfl, p, _, 0, .int (b : Nat), rfl, rfl, SqT.of hpp, atI_nat (j := 0) (n2v_at hb), _, rfl, rfl, true, same_eq _, iteT ⟨_, rfl, p, _, rfl, .inr (SqT.of hpp), _, _, rfl, rfl, ?_⟩⟩
      have ed : decide (((((nat2 (img ims b)).map V.int).length : Nat) : Int) > 1) = decide (1 < (img ims b).length) := by
        rw [n2v_len]
        exact decide_eq_decide.mpr ⟨fun z => by omega, fun z => by omega⟩
      rw [← ed] at q1
      exact q1
    · rw [decide_eq_false (fun z => e (Option.some.inj z)), Bool.false_and] at q1
      refine ⟨_, rfl, p, _, 0, .int (b : Nat), rfl, rfl, SqT.of hpp, atI_nat (j := 0) (n2v_at hb), _, rfl, rfl, false, ?_, iteF q1⟩
      exact congrArg V.bl (decide_eq_false fun z => e (Int.ofNat.inj (V.int.inj z)))
/-- what _law_told makes of a call that InvalidCount refuses -/
def TTold (cC : Addr) : (XK → Hp → VK → Prop) → Hp → VK → Prop := fun tl H Q =>
  ∃ (N : Addr → Prop) (x : V) (d : PyData), Dx N H x d ∧ Fit 40 1000 5 d ∧ (∀ (E : XK) (Q1 : VK), (∀ dd H', H dd = none → Same H H' → H' dd = some (.xd [("value", x)]) → E (.ref cC) (some dd) H') → tl E H Q1) ∧
    ∀ H' p, Same H H' → H' p = some (.tup [.str (Str.ofString "count"), .str d.shown, .bl true]) → Q (.ref p) H'
theorem givesLTold (T : Txt K mg) (hbm : ∃ mm, base.Ns sysModules mm) {N : List Str} {qual : Str} {sc : Scope} {f0 : Addr} {cd0 : Value} {A : Around} {outer : List Env} {s0 : Shared} {H0 : Hp} {E0 : XK} {k : Nat} {q : Str} (hgd : A.guards = some []) :
    ∀ cdv : Value, Gives (cxOf CX0 P w K mg base N qual sc f0 cd0 A outer s0 H0 E0).nox ["_law_call", "_law_heard", "e"] "_law_told" (defScope sLTold) T.aLTold cdv (defBody sLTold) "_law_call" q k (TTold T.cInvalidCount) := by
  intro cdv fn cc s H Q tl hr act hco h
  refine ⟨_, (pss_cons (ps_set (i := 1) scLTold.nd rfl (Or.inl rfl) pe_non)
      (pss_cons (Mo.ps_try_each rfl rfl scLTold.nd takes0 (fun W pn xe tk _ => (pss_one (ps_set (i := 1) scLTold.nd rfl (Or.inl rfl) (act _ _ _ _ _ tk)))) (.cons ⟨rfl, by decide, Or.inl T.eInvalidRules⟩ (i := 2) rfl rfl (fun a oe cls d pn hz hf => (pss_one (ps_set (i := 1) scLTold.nd rfl (Or.inl rfl) (pe_tup (pa_cons pe_str (pa_cons (pe_callB (Mo.cr_reprX hbm hgd hr.units) (by rfl) T.m_repr (by decide +kernel) (pa_cons (Mo.pe_xs hz hf (pv 2)) pa_nil)) (pa_cons (pe_and (pe_callB (Mo.cr_isS hz hf) (by rfl) T.m_isinstance (by decide +kernel) (pa_cons (pv 2) (pa_cons (pe_bltn (v := .ty "ValueError") (by rfl) T.m_ValueError (by decide +kernel) rfl) pa_nil))) (pe_one (pe_not (pe_callB (Mo.cr_isST hz hf) (by rfl) T.m_isinstance (by decide +kernel) (pa_cons (pv 2) (pa_cons (pe_tup (pa_cons (pe_glob (v := .ref T.cInvalidText) rfl T.eInvalidText rfl) (pa_cons (pe_glob (v := .ref T.cInvalidCount) rfl T.eInvalidCount rfl) pa_nil))) pa_nil)))))) pa_nil))))))) (.cons ⟨rfl, by decide, Or.inl T.eInvalidText⟩ (i := 2) rfl rfl (fun a oe cls d pn hz hf => (pss_one (ps_set (i := 1) scLTold.nd rfl (Or.inl rfl) (pe_tup (pa_cons pe_str (pa_cons (pe_callB (Mo.cr_reprX hbm hgd hr.units) (by rfl) T.m_repr (by decide +kernel) (pa_cons (Mo.pe_xs hz hf (pv 2)) pa_nil)) (pa_cons (pe_and (pe_callB (Mo.cr_isS hz hf) (by rfl) T.m_isinstance (by decide +kernel) (pa_cons (pv 2) (pa_cons (pe_bltn (v := .ty "ValueError") (by rfl) T.m_ValueError (by decide +kernel) rfl) pa_nil))) (pe_one (pe_not (pe_callB (Mo.cr_isS hz hf) (by rfl) T.m_isinstance (by decide +kernel) (pa_cons (pv 2) (pa_cons (pe_glob (v := .ref T.cInvalidCount) rfl T.eInvalidCount rfl) pa_nil)))))) pa_nil))))))) (.cons ⟨rfl, by decide, Or.inl T.eInvalidCount⟩ (i := 2) rfl rfl (fun a oe cls d pn hz hf => (pss_one (ps_set (i := 1) scLTold.nd rfl (Or.inl rfl) (pe_tup (pa_cons pe_str (pa_cons (pe_callB (Mo.cr_reprX hbm hgd hr.units) (by rfl) T.m_repr (by decide +kernel) (pa_cons (Mo.pe_xs hz hf (pv 2)) pa_nil)) (pa_cons (pe_callB (Mo.cr_isS hz hf) (by rfl) T.m_isinstance (by decide +kernel) (pa_cons (pv 2) (pa_cons (pe_bltn (v := .ty "ValueError") (by rfl) T.m_ValueError (by decide +kernel) rfl) pa_nil))) pa_nil))))))) (.cons ⟨rfl, by decide, Or.inl T.eTooLarge⟩ (i := 2) rfl rfl (fun a oe cls d pn hz hf => (pss_one (ps_set (i := 1) scLTold.nd rfl (Or.inl rfl) (pe_tup (pa_cons pe_str (pa_cons (pe_callB (Mo.cr_reprX hbm hgd hr.units) (by rfl) T.m_repr (by decide +kernel) (pa_cons (Mo.pe_xs hz hf (pv 2)) pa_nil)) (pa_cons (pe_callB (Mo.cr_isS hz hf) (by rfl) T.m_isinstance (by decide +kernel) (pa_cons (pv 2) (pa_cons (pe_bltn (v := .ty "OverflowError") (by rfl) T.m_OverflowError (by decide +kernel) rfl) pa_nil))) pa_nil))))))) .nil)))))
      (pss_one (ps_ret (pv 1))))), ?_⟩
  refine ⟨rfl, hco, fun cls d H' => _, fun cls d H' z => z, ?_⟩
  obtain ⟨N0, x, d, dx, fx, hC, q⟩ := h
  obtain ⟨f1, f2, f3⟩ := fx.repr (by decide) (by decide) (by decide) (by decide)
  refine hC _ _ fun dd H1 nd s1 hd => ?_
  refine ⟨false, T.mInvalidCountInvalidRules, fun z => Bool.noConfusion z, fun _ => ⟨false, T.mInvalidCountInvalidText, fun z => Bool.noConfusion z, fun _ => ⟨true, T.xInvalidCount.te, fun _ a na => ?_, fun z => nomatch z⟩⟩⟩
  refine ⟨_, rfl, T.cInvalidCount, dd, _, x, rfl, rfl, rfl, hd, T.xInvalidCount.xf, T.xInvalidCount.no, by simp [List.lookup], N0, x, d, rfl, dx.same s1, f1, f2, f3, ?_⟩
  refine ⟨_, rfl, T.cInvalidCount, dd, _, .ty "ValueError", .type "ValueError", true, rfl, rfl, rfl, hd, T.xInvalidCount.exc, .ty _, T.oInvalidCountValueError, ?_⟩
  refine ⟨by show 3 ≤ sizeLine; decide, fun p np => ?_⟩
  exact ⟨_, rfl, q _ p (s1.trans (same_new np)) upd_same⟩
end
end Mo

/-! ### a walk whose turn is anything: for comprehensions of two sources -/
namespace Mo
open PySem PySem.Spec PyProof.Rows L2
theorem loop_it {J : It} {n : Nat} {G : Hp → Prop} {Y : Nat → Hp → V → Hp → Prop} {R : V → Hp → (Hp → Prop) → Prop} {H0 : Hp} {Qd : Hp → Prop} (w : Walk J n G Y) (Pv : Nat → Hp → Prop) (h0 : Pv 0 H0) (hG : ∀ i H, i ≤ n → Pv i H → G H)
    (hs : ∀ i x H H', i < n → Pv i H → Y i H x H' → R x H' (Pv (i + 1))) (hd : ∀ H, Pv n H → Qd H) :
    ∃ W : Nat → Nat → Hp → Prop, (∃ m, W 0 m H0) ∧ ∀ i m H, W i m H →
      (J.stop i H ∧ Qd H) ∨ (J.go i H ∧ ∃ Nx : Hp → Prop, (∀ H', Nx H' → ∃ m', m' < m ∧ W (i + 1) m' H') ∧ ∀ x H', J.yld i H x H' → R x H' Nx) := by
  refine ⟨fun i m H => Pv i H ∧ i + m = n, ⟨n, h0, Nat.zero_add n⟩, fun i m H h => ?_⟩
  obtain ⟨p, e⟩ := h
  have g := hG i H (by omega) p
  rcases Nat.eq_zero_or_pos m with z | z
  · have ei : i = n := by omega
    subst ei
    exact .inl ⟨w.stops H g, hd H p⟩
  · have lt : i < n := by omega
    exact .inr ⟨w.goes i H lt g, Pv (i + 1), fun H' q => ⟨m - 1, by omega, q, by omega⟩, fun x H' y => hs i x H H' lt p (w.yields i H x H' lt g y)⟩
theorem pe_fldK {X : Cx} {e : Expr} {f : Str} {pos : Pos} {ta : TE} {K : PySem.W.Frag} (h : X.K = K) (he : PE X e ta) (hb : attributeBase e f X.env (eval e X.env) = eval e X.env) : PE X (.Attribute e f pos) (tFld K ta f) := by
  subst h
  exact pe_fld he hb
theorem op_repNK {X : Cx} {K : PySem.W.Frag} (h : X.K = K) : OpR X (binaryOp .Mult) (rRepN K) := by
  subst h
  exact op_repN
end Mo

namespace Mo
open PySem PySem.Spec PyProof.Rows L2
theorem n2v_app (a b : List Nat) : (nat2 (a ++ b)).map V.int = (nat2 a).map V.int ++ (nat2 b).map V.int := by
  unfold nat2
  rw [List.map_append, List.map_append]
theorem flat_take {W : List Nat} {f : Nat → List Nat} {m a : Nat} (h : W[m]? = some a) : (W.take (m + 1)).flatMap f = (W.take m).flatMap f ++ f a := by
  rw [List.take_add_one, h, List.flatMap_append]
  simp
theorem flat_take_le (W : List Nat) (f : Nat → List Nat) (m : Nat) : ((W.take m).flatMap f).length ≤ (W.flatMap f).length := by
  conv => rhs; rw [← List.take_append_drop m W, List.flatMap_append, List.length_append]
  omega
section
variable {P : Program} {w : World} {K : PySem.W.Frag} {mg : Str → Option Value} {base : Heap}
def spChkTN : Sp := fun vs H Q _ => ∃ (a : Addr) (im : List Nat), vs = [.ref a] ∧ H a = some (.tup ((nat2 im).map V.int)) ∧ im.length ≤ 4096 ∧ (∀ n ∈ im, n ≤ 999999) ∧ ∀ H', Same H H' → Q .non H'
theorem ok_chkTN {k : Nat} (T : Txt K mg) : FnOk P w K mg base CX0 (k + 4) T.aCheckText T.dCheckText ["value"] spChkTN := by
  have GIsText : FnOk P w K mg base CX0 (k + 3) T.aIsText T.dIsText ["value"] spIsText := ok_isText T
  refine T.fCheckText.ok scCheckText (fun vs H Q E h => ?_) (fun cdv A outer s H vs Q E hr h => ?_)
  · obtain ⟨a, im, rfl, _⟩ := h
    rfl
  · obtain ⟨a, im, rfl, ha, hl, hi, q⟩ := h
    refine ⟨_, (pss_one (ps_if (pt_not (pt_val (pe_call GIsText hr (by rfl) T.gIsText T.fIsText.kp T.bIsText .nil pass0 (pa_cons (pv 0) pa_nil)))) (pss_one ps_never) pss_nil)), ?_⟩
    exact ⟨_, rfl, a, im, rfl, ha, hl, hi, fun H1 s1 => ⟨true, rfl, iteF (q H1 s1)⟩⟩
/-- each letter replaced -/
def spRApp (C : Addr) : Sp := fun vs H Q _ => ∃ (r p : Addr) (ims : List (List Nat)) (W : List Nat), vs = [.ref r, .ref p] ∧ RlsAt C H r ims ∧ Ims ims ∧ H p = some (.tup ((nat2 W).map V.int)) ∧ W.length ≤ 4096 ∧ (∀ z ∈ W, z < ims.length) ∧ (W.flatMap (img ims)).length ≤ 4096 ∧
  ∀ H' p', Same H H' → H' p' = some (.tup ((nat2 (W.flatMap (img ims))).map V.int)) → Q (.ref p') H'
theorem ok_rApp {k : Nat} (T : Txt K mg) : FnOk P w K mg base CX0 (k + 5) T.aRulesApply T.dRulesApply ["self", "text"] (spRApp T.cRules) := by
  have GCheckText : FnOk P w K mg base CX0 (k + 4) T.aCheckText T.dCheckText ["value"] spChkTN := ok_chkTN T
  refine T.fRulesApply.ok scRulesApply (fun vs H Q E h => ?_) (fun cdv A outer s H vs Q E hr h => ?_)
  · obtain ⟨r, p, ims, W, rfl, _⟩ := h
    rfl
  · obtain ⟨r, p, ims, W, rfl, ra, ok, hp, hl, hW, hz, q⟩ := h
    have n2 := ok.n2
    refine ⟨_, (pss_cons (ps_expr (pe_call GCheckText hr (by rfl) T.gCheckText T.fCheckText.kp T.bCheckText .nil pass0 (pa_cons (pv 1) pa_nil)))
      (pss_cons (ps_if (pt_not (pt_val (pe_callB (cr_all rfl) (by rfl) T.m_all (by decide +kernel) (pa_cons (pe_lc (own := [("letter", 2)]) (g := gName 2) (tt := tYes) rfl scRulesApply.nd (pi_tup (pv 1)) (blkOk_by (N := ["self", "text", "letter", "new"]) (sc := defScope sRulesApply) (by decide +kernel)) (fun _ _ _ _ _ => pg_name (i := 2) scRulesApply.nd rfl (Or.inl rfl)) (fun _ _ _ _ _ => pts_nil) (fun _ _ _ _ _ => (pe_cmpR op_lt (pv 2) (pe_callB (Mo.call_len_seqK (K := K) rfl) (by rfl) T.m_len PySem.boot_len (pa_cons (Mo.pe_fldK (K := K) rfl (pv 0) rfl) pa_nil)) (nomark _)))) pa_nil)))) (pss_one ps_never) pss_nil)
      (pss_cons (ps_if (pt_cmpR op_gt (pe_callB (cr_sum rfl) (by rfl) T.m_sum (by decide +kernel) (pa_cons (pe_lc (own := [("letter", 2)]) (g := gName 2) (tt := tYes) rfl scRulesApply.nd (pi_tup (pv 1)) (blkOk_by (N := ["self", "text", "letter", "new"]) (sc := defScope sRulesApply) (by decide +kernel)) (fun _ _ _ _ _ => pg_name (i := 2) scRulesApply.nd rfl (Or.inl rfl)) (fun _ _ _ _ _ => pts_nil) (fun _ _ _ _ _ => (pe_callB (Mo.call_len_seqK (K := K) rfl) (by rfl) T.m_len PySem.boot_len (pa_cons (pe_ix (Mo.ix_tupK (K := K) rfl) (Mo.pe_fldK (K := K) rfl (pv 0) rfl) (pv 2) (fun _ _ => rfl)) pa_nil)))) pa_nil)) (pe_glob (v := .int 4096) rfl T.m_LONGEST_TEXT ⟨_, rfl⟩) (nomark _)) (pss_one ps_never) pss_nil)
      (pss_one (ps_ret (pe_callTy call_tuple_of (by rfl) T.m_tuple (by decide +kernel) (pa_cons (pe_lc2 (own := [("letter", 2), ("new", 3)]) (vs1 := [3]) (g := gName 2) (g1 := gName 3) (tt := tYes) (tt1 := tYes) rfl scRulesApply.nd (pi_tup (pv 1)) (blkOk_by (N := ["self", "text", "letter", "new"]) (sc := defScope sRulesApply) (by decide +kernel)) (by decide) (fun _ _ _ _ _ => pg_name (i := 2) scRulesApply.nd rfl (Or.inl rfl)) (fun _ _ _ _ _ => pts_nil) (fun _ _ _ _ _ => (Mo.pi_tupK (K := K) rfl (pe_ix (Mo.ix_tupK (K := K) rfl) (Mo.pe_fldK (K := K) rfl (pv 0) rfl) (pv 2) (fun _ _ => rfl)))) (fun _ _ _ _ _ => pg_name (i := 3) scRulesApply.nd rfl (Or.inl rfl)) (fun _ _ _ _ _ => pts_nil) (fun _ _ _ _ _ => (pv 3))) pa_nil))))))), ?_⟩
    obtain ⟨dx, t, ps, h1, h2, h3⟩ := id ra
    have hlen : (ps.map V.ref).length = ims.length := by rw [List.length_map, h3.len]
    refine ⟨_, rfl, p, W, rfl, hp, hl, fun z hz => by have := hW z hz; omega, fun H1 s1 => ?_⟩
    -- all are letters of the rule set
    refine ⟨_, rfl, p, rfl, ⟨_, SqT.of (s1 _ _ hp)⟩, fun D nD => lc_tup (K := K) (a := p) (xs := (nat2 W).map V.int) (fun i H' => Same H1 H' ∧ H' D = some (.lst ((List.replicate i true).map V.bl))) ?_ ?_ ?_ ?_⟩
    · exact ⟨same_new nD, upd_same⟩
    · rintro i H2 _ ⟨s2, _⟩
      exact SqT.of (s2 _ _ (s1 _ _ hp))
    · rintro i x H2 hx ⟨s2, hD⟩
      obtain ⟨n, hn, rfl⟩ := n2v_get hx
      have hi2 := (List.getElem?_eq_some_iff.mp hn).1
      have hn2 := hW n (List.mem_of_getElem? hn)
      have s12 := s1.trans s2
      refine ⟨rfl, _, rfl, _, rfl, r, T.cRules, dx, _, _, rfl, s12 _ _ h1, T.clRules, T.nRules_table, tab_field, t, _, rfl, .inr (SqT.of (s12 _ _ h2)), _, _, rfl, rfl, ?_⟩
      refine ⟨_, hD, fitsLt (by rw [List.length_map, List.length_replicate]; omega), Same.put s2 nD, ?_⟩
      rw [upd_same, List.replicate_succ', List.map_append, hlen]
      have e : decide ((n : Int) < (ims.length : Int)) = true := decide_eq_true (by omega)
      show some (HO.lst (_ ++ [V.bl (decide ((n : Int) < (ims.length : Int)))])) = _
      rw [e]
      rfl
    rintro H2 ⟨s2, hD⟩
    refine ⟨D, _, rfl, SqL.of hD, ?_⟩
    rw [show (List.replicate ((nat2 W).map V.int).length true).all id = true by simp]
    refine ⟨true, rfl, iteF ?_⟩
    have s12 := s1.trans s2
    clear hD nD s1 s2
    -- the length
    refine ⟨_, rfl, p, rfl, ⟨_, SqT.of (s12 _ _ hp)⟩, fun E nE => lc_tup (K := K) (a := p) (xs := (nat2 W).map V.int) (fun m H' => Same H2 H' ∧ H' E = some (.lst ((nat2 ((W.take m).map fun p => (img ims p).length)).map V.int))) ?_ ?_ ?_ ?_⟩
    · exact ⟨same_new nE, upd_same⟩
    · rintro m H3 _ ⟨s3, _⟩
      exact SqT.of (s3 _ _ (s12 _ _ hp))
    · rintro m v H3 hv ⟨s3, hE⟩
      obtain ⟨b, hb, rfl⟩ := n2v_get hv
      have hb2 := hW b (List.mem_of_getElem? hb)
      have hm := (List.getElem?_eq_some_iff.mp hb).1
      have s13 := s12.trans s3
      obtain ⟨pp, hpp1, hpp⟩ := (h3.same s13).at hb2
      refine ⟨rfl, _, rfl, r, T.cRules, dx, _, _, rfl, s13 _ _ h1, T.clRules, T.nRules_table, tab_field, _, rfl, t, _, _, .ref pp, rfl, rfl, SqT.of (s13 _ _ h2), atI_nat (ref_at hpp1), pp, _, rfl, .inr (SqT.of hpp), _, hE, fitsLt (by rw [n2v_len, List.length_map, List.length_take]; omega), Same.put s3 nE, ?_⟩
      rw [upd_same, List.take_add_one, hb, List.map_append, show (some b).toList.map (fun p => (img ims p).length) = [(img ims b).length] from rfl, n2v_snoc, n2v_len]
    rintro H3 ⟨s3, hE⟩
    rw [n2v_len, List.take_length] at hE
    refine ⟨E, _, rfl, SqL.of hE, _, _, rfl, rfl, _, rfl, ite2 (fun e => ?_) (fun _ => ?_)⟩
    · have := of_decide_eq_true e
      rw [nat2_sum] at this
      rw [List.length_flatMap] at hz
      omega
    have s13 := s12.trans s3
    clear hE nE s12 s3
    -- the letters
    refine ⟨_, rfl, p, rfl, ⟨_, SqT.of (s13 _ _ hp)⟩, fun D nD => loop_it (walk_tup (K := K) (a := p) (xs := (nat2 W).map V.int)) (fun m H' => Same H3 H' ∧ H' D = some (.lst ((nat2 ((W.take m).flatMap (img ims))).map V.int))) ?_ ?_ ?_ ?_⟩
    · exact ⟨same_new nD, upd_same⟩
    · rintro m H4 _ ⟨s4, _⟩
      exact SqT.of (s4 _ _ (s13 _ _ hp))
    · rintro m v H4 H5 _ ⟨s4, hD⟩ ⟨rfl, hv⟩
      obtain ⟨b, hb, rfl⟩ := n2v_get hv
      have hb2 := hW b (List.mem_of_getElem? hb)
      have s14 := s13.trans s4
      obtain ⟨pp, hpp1, hpp⟩ := h3.at hb2
      have hz2 := Nat.le_trans (flat_take_le W (img ims) (m + 1)) hz
      rw [flat_take hb, List.length_append] at hz2
      refine ⟨rfl, _, rfl, r, T.cRules, dx, _, _, rfl, s14 _ _ h1, T.clRules, T.nRules_table, tab_field, _, rfl, t, _, _, .ref pp, rfl, rfl, SqT.of (s14 _ _ h2), atI_nat (ref_at hpp1), pp, rfl, ⟨_, SqT.of (s14 _ _ hpp)⟩, loop_it (walk_tup (K := K) (a := pp) (xs := (nat2 (img ims b)).map V.int)) (fun j H' => Same H3 H' ∧ H' D = some (.lst ((nat2 ((W.take m).flatMap (img ims) ++ (img ims b).take j)).map V.int))) ?_ ?_ ?_ ?_⟩
      · refine ⟨s4, ?_⟩
        rw [List.take_zero, List.append_nil]
        exact hD
      · rintro j H6 _ ⟨s6, _⟩
        exact SqT.of ((s13.trans s6) _ _ hpp)
      · rintro j u H6 H7 hj ⟨s6, hD6⟩ ⟨rfl, hu⟩
        obtain ⟨e, he, rfl⟩ := n2v_get hu
        rw [n2v_len] at hj
        refine ⟨rfl, _, rfl, _, hD6, fitsLt (by rw [n2v_len, List.length_append, List.length_take]; omega), Same.put s6 nD, ?_⟩
        rw [upd_same, List.take_add_one, he, ← List.append_assoc, show (some e).toList = [e] from rfl, n2v_snoc]
      · rintro H6 ⟨s6, hD6⟩
        rw [n2v_len, List.take_length, ← flat_take hb] at hD6
        exact ⟨s6, hD6⟩
    · rintro H4 ⟨s4, hD⟩
      rw [n2v_len, List.take_length] at hD
      refine ⟨D, _, rfl, .inl ⟨SqL.of hD, fun p' np' => q _ p' ((s13.trans s4).trans (same_new np')) upd_same⟩⟩
end
end Mo

namespace Mo
open PySem PySem.Spec PyProof.Rows L2
section
variable {P : Program} {w : World} {K : PySem.W.Frag} {mg : Str → Option Value} {base : Heap}
theorem ints_dp {H : Hp} : ∀ ns : List Int, DpAll K H (ns.map V.int) (ns.map PyData.int)
  | [] => .nil
  | n :: ns => .cons (.int n) (ints_dp ns)
theorem mod_in {a b : Int} (h : 0 < b) : 0 ≤ a.fmod b ∧ a.fmod b < b := by
  rw [Int.fmod_eq_emod_of_nonneg _ (Int.le_of_lt h)]
  exact ⟨Int.emod_nonneg _ (by omega), Int.emod_lt_of_pos _ h⟩
theorem div_in {a b : Int} (h : 0 < b) (ha : 0 ≤ a) : 0 ≤ a.fdiv b := by
  rw [Int.fdiv_eq_ediv_of_nonneg _ (Int.le_of_lt h)]
  exact Int.ediv_nonneg ha (Int.le_of_lt h)
theorem nat_of {i : Int} (h : 0 ≤ i) : ∃ j : Nat, i = (j : Int) := ⟨i.toNat, by omega⟩
theorem ok_draw {k : Nat} (T : Txt K mg) : FnOk P w K mg base CX0 (k + 1) T.aLDraw T.dLDraw ["_law_pen_here", "_law_many"] spNDraw := by
  refine T.fLDraw.ok scLDraw (fun vs H Q E h => ?_) (fun cdv A outer s H vs Q E hr h => ?_)
  · obtain ⟨d, c, n, t, rfl, _⟩ := h
    rfl
  · obtain ⟨d, c, n, t, rfl, src, n0, n1, ht, q⟩ := h
    have hu := hu_of hr
    obtain ⟨ns, r, hd, hc, hl, r0⟩ := id src
    have ndc := src.ne
    have gC := DGet.k (k := Sum.inr "cells") hd
    have gT := DGet.k (k := Sum.inr "next") hd
    have gR := DGet.k (k := Sum.inr "rest") hd
    rw [nxt_cells] at gC
    rw [nxt_next] at gT
    rw [nxt_rest] at gR
    have nz : n ≠ 0 := by omega
    have na : n.natAbs < 1073741824 := by omega
    refine ⟨_, (pss_cons (ps_if (pt_cmpR op_gt (pe_dget hu (pv 0) pe_str (fun _ _ => rfl)) pe_int (nomark _)) (pss_cons (ps_set (i := 2) scLDraw.nd rfl (Or.inl rfl) (pe_op op_modN (pe_dget hu (pv 0) pe_str (fun _ _ => rfl)) (pv 1)))
      (pss_cons (ps_dput hu (pv 0) pe_str (pe_op op_fdivN (pe_dget hu (pv 0) pe_str (fun _ _ => rfl)) (pv 1)) rfl)
      (pss_one (ps_ret (pv 2))))) pss_nil)
      (pss_cons (ps_set (i := 3) scLDraw.nd rfl (Or.inl rfl) (pe_dget hu (pv 0) pe_str (fun _ _ => rfl)))
      (pss_cons (ps_dput hu (pv 0) pe_str (pe_op op_add (pv 3) pe_int) rfl)
      (pss_cons (ps_set (i := 4) scLDraw.nd rfl (Or.inl rfl) (pe_op op_add (pe_op op_mul pe_int (pv 3)) pe_int))
      (Evl.pss_cut (ps_if (pt_cmpR (Mo.op_neNil hr.units) (pe_dget hu (pv 0) pe_str (fun _ _ => rfl)) (pe_lst pa_nil) (nomark _)) (pss_one (ps_set (i := 4) scLDraw.nd rfl (Or.inl rfl) (pe_ix ix_list (pe_dget hu (pv 0) pe_str (fun _ _ => rfl)) (pe_op op_modN (pv 3) (pe_callB call_len_seq (by rfl) T.m_len PySem.boot_len (pa_cons (pe_dget hu (pv 0) pe_str (fun _ _ => rfl)) pa_nil))) (fun _ _ => rfl)))) pss_nil)
      (Evl.pss_cut (ps_if (PW.pt (pw_and (pt_cmpR op_lt (pv 3) (pe_callB call_len_seq (by rfl) T.m_len PySem.boot_len (pa_cons (pe_dget hu (pv 0) pe_str (fun _ _ => rfl)) pa_nil)) (nomark _)) (pw_and1 (pt_cmpR op_ge (pe_callB call_abs (by rfl) T.m_abs (by decide +kernel) (pa_cons (pv 4) pa_nil)) (pe_op op_pow pe_int pe_int) (nomark _))))) (pss_cons (ps_dput hu (pv 0) pe_str (pe_op op_fdivN (pe_op op_sub (pe_callB call_abs (by rfl) T.m_abs (by decide +kernel) (pa_cons (pv 4) pa_nil)) (pe_op op_pow pe_int pe_int)) (pv 1)) rfl)
      (pss_one (ps_ret (pe_op op_modN (pe_op op_sub (pe_callB call_abs (by rfl) T.m_abs (by decide +kernel) (pa_cons (pv 4) pa_nil)) (pe_op op_pow pe_int pe_int)) (pv 1))))) pss_nil)
      (pss_cons (ps_set (i := 5) scLDraw.nd rfl (Or.inl rfl) (pe_op op_modN (pe_op op_add (pe_op op_add (pe_op op_add (pe_op op_mul (pe_op op_modN (pv 4) pe_int) pe_int) (pe_op op_mul (pe_op op_mul pe_int (pv 3)) (pv 3))) (pe_op op_mul pe_int (pv 3))) pe_int) pe_int))
      (pss_cons (ps_set (i := 5) scLDraw.nd rfl (Or.inl rfl) (pe_op op_modN (pe_op op_add (pe_op op_add (pe_op op_add (pe_op op_mul (pv 5) (pv 5)) (pe_op op_mul pe_int (pv 5))) (pe_op op_mul pe_int (pv 3))) pe_int) pe_int))
      (pss_one (ps_ret (pe_op op_modN (pe_op op_fdivN (pe_op op_modN (pe_op op_mul (pv 5) (pe_op op_add (pv 5) pe_int)) pe_int) pe_int) (pv 1)))))))))))), ?_⟩
    refine ⟨_, rfl, d, _, rfl, gR, _, _, rfl, rfl, _, rfl, ite2 (fun e => ?_) (fun e => ?_)⟩
    · -- a digit of the rest
      refine ⟨_, rfl, d, _, rfl, gR, _, rfl, r, n, rfl, rfl, nz, ?_⟩
      refine ⟨_, rfl, d, _, rfl, gR, _, rfl, r, n, rfl, rfl, ⟨nz, na⟩, _, rfl, d, _, rfl, DPut.k (k := Sum.inr "rest") hd (by show 3 < sizeLine; decide), ?_⟩
      rw [nput_rest]
      exact ⟨_, rfl, q _ _ t But.set (nxt_set src (div_in n0 r0)) (Nat.le_succ _) (mod_in n0).1 (mod_in n0).2⟩
    · -- turn, turn + 1
      refine ⟨_, rfl, d, _, rfl, gT, ?_⟩
      refine ⟨_, rfl, t, 1, rfl, rfl, _, rfl, d, _, rfl, DPut.k (k := Sum.inr "next") hd (by show 3 < sizeLine; decide), ?_⟩
      rw [nput_next, show (t : Int) + 1 = ((t + 1 : Nat) : Int) by omega]
      have src1 : Nxt (upd H d (.dK (nxtD c ((t + 1 : Nat) : Int) r))) d c (t + 1) := nxt_set src r0
      have but1 : But d H (upd H d (.dK (nxtD c ((t + 1 : Nat) : Int) r))) := But.set
      generalize eH1 : upd H d (.dK (nxtD c ((t + 1 : Nat) : Int) r)) = H1 at *
      have hc1 : H1 c = some (.lst (ns.map V.int)) := but1 _ _ ndc.symm hc
      have hd1 : H1 d = some (.dK (nxtD c ((t + 1 : Nat) : Int) r)) := by rw [← eH1, upd_same]
      have gC1 := DGet.k (k := Sum.inr "cells") hd1
      rw [nxt_cells] at gC1
      -- cell
      refine ⟨_, rfl, 29, t, rfl, rfl, .inl ⟨by decide, by decide⟩, _, 7, rfl, rfl, ?_⟩
      -- if cells != []
      refine ⟨fun σ' H' => ∃ (v : Int) (o2 o5 : Option V), σ' = [some (.ref d), some (.int n), o2, some (.int t), some (.int v), o5] ∧ Same H1 H', ?_, ?_⟩
      · refine ⟨_, rfl, d, _, rfl, gC1, Nat.zero_le _, fun p np => ?_⟩
        have sm := same_new (o := .lst []) np
        refine ⟨c, p, _, rfl, rfl, SqL.of (sm _ _ hc1), SqL.of upd_same, _, rfl, ite2 (fun e => ?_) (fun e => ?_)⟩
        · have hne : ns ≠ [] := by
            rintro rfl
            exact absurd e (by decide)
          have gC2 := DGet.k (k := Sum.inr "cells") (sm _ _ hd1)
          rw [nxt_cells] at gC2
          have hlen : 0 < ns.length := List.length_pos_iff.mpr hne
          obtain ⟨j, hj⟩ := nat_of (mod_in (a := t) (b := ((ns.map V.int).length : Int)) (by rw [List.length_map]; omega)).1
          have hj2 : j < ns.length := by
            have h2 := (mod_in (a := t) (b := ((ns.map V.int).length : Int)) (by rw [List.length_map]; omega)).2
            rw [hj, List.length_map] at h2
            omega
          refine ⟨_, rfl, d, _, rfl, gC2, _, rfl, _, rfl, d, _, rfl, gC2, c, _, rfl, .inl (SqL.of (sm _ _ hc1)), t, _, rfl, rfl, (by rw [List.length_map]; omega), c, ns.map V.int, _, .int ns[j], rfl, rfl, SqL.of (sm _ _ hc1), ?_, ?_⟩
          · rw [hj]
            exact atI_nat (by rw [List.getElem?_map, List.getElem?_eq_getElem hj2]; rfl)
          · exact ⟨_, _, _, rfl, sm⟩
        · exact ⟨_, _, _, rfl, sm⟩
      · rintro σ' H2 ⟨v, o2, o5, rfl, sm⟩
        have hd2 := sm _ _ hd1
        have hc2 := sm _ _ hc1
        have src2 : Nxt H2 d c (t + 1) := src1.same sm
        have but2 : But d H H2 := but1.trans (But.same sm)
        have gC2 := DGet.k (k := Sum.inr "cells") hd2
        rw [nxt_cells] at gC2
        clear e hd hc gC gT gR hd1 hc1 gC1 src1 but1 eH1 sm src
        -- if turn < len(cells) and abs(cell) >= 10 ** 18
        refine ⟨fun σ' H' => σ' = [some (.ref d), some (.int n), o2, some (.int t), some (.int v), o5] ∧ H' = H2, ?_, ?_⟩
        · refine ⟨_, rfl, _, rfl, d, _, rfl, gC2, c, _, rfl, .inl (SqL.of hc2), _, _, rfl, rfl, _, rfl, ite2 (fun e1 => ?_) (fun e1 => ?_)⟩
          · refine ⟨_, rfl, _, rfl, 10, 18, rfl, rfl, ⟨by decide, by decide, by decide⟩, _, _, rfl, rfl, _, rfl, ite2 (fun e2 => ?_) (fun e2 => ⟨rfl, rfl⟩)⟩
            have ab : (0 : Int) ≤ (if v < 0 then -v else v) - 10 ^ 18 := by
              have h2 := of_decide_eq_true e2
              have h3 : (10 : Int) ^ (18 : Int).toNat = 10 ^ 18 := rfl
              omega
            refine ⟨_, rfl, _, rfl, 10, 18, rfl, rfl, ⟨by decide, by decide, by decide⟩, _, _, rfl, rfl, _, rfl, _, _, rfl, rfl, ⟨nz, na⟩, _, rfl, d, _, rfl, DPut.k (k := Sum.inr "rest") hd2 (by show 3 < sizeLine; decide), ?_⟩
            rw [nput_rest]
            refine ⟨_, rfl, _, rfl, 10, 18, rfl, rfl, ⟨by decide, by decide, by decide⟩, _, _, rfl, rfl, _, rfl, _, _, rfl, rfl, nz, ?_⟩
            exact q _ _ (t + 1) (but2.trans But.set) (nxt_set src2 (div_in n0 ab)) (Nat.le_refl _) (mod_in n0).1 (mod_in n0).2
          · exact ⟨rfl, rfl⟩
        · rintro σ' H' ⟨rfl, rfl⟩
          refine ⟨_, rfl, _, 2147483647, rfl, rfl, (by show (2147483647 : Int) ≠ 0; decide), _, 48271, rfl, rfl, .inr ⟨by decide, by decide⟩, ?_⟩
          refine ⟨_, rfl, 69621, t, rfl, rfl, .inl ⟨by decide, by decide⟩, _, rfl, _, t, rfl, rfl, .inr ⟨by omega, by omega⟩, _, _, rfl, rfl, ?_⟩
          refine ⟨_, rfl, 30011, t, rfl, rfl, .inl ⟨by decide, by decide⟩, _, _, rfl, rfl, _, 17, rfl, rfl, _, 2147483629, rfl, rfl, (by show (2147483629 : Int) ≠ 0; decide), ?_⟩
          have m1 := mod_in (a := v.fmod 2147483647 * 48271 + 69621 * (t : Int) * t + 30011 * t + 17) (b := 2147483629) (by decide)
          generalize em : (v.fmod 2147483647 * 48271 + 69621 * (t : Int) * t + 30011 * t + 17).fmod 2147483629 = m at m1
          refine ⟨_, rfl, _, rfl, m, m, congrArg V.int em, congrArg V.int em, .inl ⟨by omega, by omega⟩, _, rfl, 40692, m, rfl, congrArg V.int em, .inl ⟨by decide, by decide⟩, _, _, rfl, rfl, ?_⟩
          refine ⟨_, rfl, 5, t, rfl, rfl, .inl ⟨by decide, by decide⟩, _, _, rfl, rfl, _, 11, rfl, rfl, _, 2147483587, rfl, rfl, (by show (2147483587 : Int) ≠ 0; decide), ?_⟩
          have m2 := mod_in (a := m * m + 40692 * m + 5 * t + 11) (b := 2147483587) (by decide)
          generalize em' : (m * m + 40692 * m + 5 * (t : Int) + 11).fmod 2147483587 = m' at m2
          refine ⟨_, rfl, _, rfl, m', 16807, congrArg V.int em', rfl, m', _, congrArg V.int em', rfl, .inl ⟨by omega, by omega⟩, _, 2147483579, rfl, rfl, (by show (2147483579 : Int) ≠ 0; decide), _, 32, rfl, rfl, ⟨by decide, by decide⟩, _, rfl, _, n, rfl, rfl, nz, ?_⟩
          exact q _ _ (t + 1) but2 src2 (Nat.le_refl _) (mod_in n0).1 (mod_in n0).2
end
end Mo

namespace Mo
open PySem PySem.Spec PyProof.Rows L2
section
variable {P : Program} {w : World} {K : PySem.W.Frag} {mg : Str → Option Value} {base : Heap}
theorem ok_pick {k : Nat} (T : Txt K mg) : FnOk P w K mg base CX0 (k + 2) T.aLPick T.dLPick ["_law_pen_here", "_law_choices"] (spNPick K) := by
  have GLDraw : FnOk P w K mg base CX0 (k + 1) T.aLDraw T.dLDraw ["_law_pen_here", "_law_many"] spNDraw := ok_draw T
  refine T.fLPick.ok scLPick (fun vs H Q E h => ?_) (fun cdv A outer s H vs Q E hr h => ?_)
  · obtain ⟨d, c, l, xs, t, rfl, _⟩ := h
    rfl
  · obtain ⟨d, c, l, xs, t, rfl, src, hl, nld, h0, h1, ht, q⟩ := h
    refine ⟨_, (pss_one (ps_ret (pe_ix ix_list (pv 1) (pe_call GLDraw hr (by rfl) T.gLDraw T.fLDraw.kp T.bLDraw .nil pass0 (pa_cons (pv 0) (pa_cons (pe_callB call_len_seq (by rfl) T.m_len PySem.boot_len (pa_cons (pv 1) pa_nil)) pa_nil))) (fun _ _ => rfl)))), ?_⟩
    refine ⟨_, rfl, _, rfl, _, rfl, l, xs, rfl, .inl hl, d, c, _, t, rfl, src, by omega, by omega, ht, fun H' k t' but src' ht' k0 k1 => ?_⟩
    obtain ⟨j, rfl⟩ := nat_of k0
    have hj : j < xs.length := by omega
    have hl' : SqL K H' l xs := by
      rcases hl with (e | ⟨o, e⟩) | e
      · exact .inl (.inl (but _ _ nld e))
      · exact .inl (.inr ⟨o, but _ _ nld e⟩)
      · exact .inr e
    exact ⟨l, xs, j, xs[j], rfl, rfl, hl', atI_nat (List.getElem?_eq_getElem hj), q H' _ t' but src' ht' (List.getElem_mem hj)⟩
end
end Mo

namespace Mo
open PySem PySem.Spec PyProof.Rows L2
theorem four30 : (4 : Nat) ^ 30 = 1152921504606846976 := by decide
section
variable {P : Program} {w : World} {K : PySem.W.Frag} {mg : Str → Option Value} {base : Heap}
def spAL : Sp := fun vs H Q _ => ∃ n i : Nat, vs = [.int n, .int i] ∧ 1 ≤ n ∧ n ≤ 8 ∧ i ≤ 1000000000000000000 ∧ ∀ H', Same H H' → Q (.int (av (qOf n) i : Nat)) H'
theorem ok_al {k : Nat} (T : Txt K mg) : FnOk P w K mg base CX0 (k + 33) T.aAvoidingLetter T.dAvoidingLetter ["count", "index"] spAL := by
  have GModulus : FnOk P w K mg base CX0 (k + 32) T.aModulus T.dModulus ["count"] spMod := ok_mod T
  have GCheckCount : FnOk P w K mg base CX0 (k + 32) T.aCheckCount T.dCheckCount ["value", "least", "most"] spCount := ok_count T
  have GStretch : FnOk P w K mg base CX0 (k + 32) T.aStretch T.dStretch ["size", "start", "length"] (spStr 30) := ok_str T 30
  refine T.fAvoidingLetter.ok scAvoidingLetter (fun vs H Q E h => ?_) (fun cdv A outer s H vs Q E hr h => ?_)
  · obtain ⟨n, i, rfl, _⟩ := h
    rfl
  · obtain ⟨n, i, rfl, n1, n8, hi, q⟩ := h
    obtain ⟨q1, q2, _⟩ := qOf_in n n1 n8
    refine ⟨_, (pss_cons (ps_set (i := 2) scAvoidingLetter.nd rfl (Or.inl rfl) (pe_call GModulus hr (by rfl) T.gModulus T.fModulus.kp T.bModulus .nil pass0 (pa_cons (pv 0) pa_nil)))
      (pss_cons (ps_expr (pe_call GCheckCount hr (by rfl) T.gCheckCount T.fCheckCount.kp T.bCheckCount .nil pass0 (pa_cons (pv 1) (pa_cons pe_int (pa_cons (pe_glob (v := .int 1000000000000000000) rfl T.m_GREATEST_START ⟨_, rfl⟩) pa_nil)))))
      (pss_one (ps_ret (pe_ix ix_tup (pe_call GStretch hr (by rfl) T.gStretch T.fStretch.kp T.bStretch .nil pass0 (pa_cons (pv 2) (pa_cons (pv 1) (pa_cons pe_int pa_nil)))) pe_int (fun _ _ => rfl)))))), ?_⟩
    refine ⟨_, rfl, n, rfl, n1, n8, fun H1 s1 => ?_⟩
    refine ⟨_, rfl, i, 0, 1000000000000000000, rfl, by omega, by omega, fun H2 s2 => ?_⟩
    refine ⟨_, rfl, _, rfl, qOf n, i, 1, rfl, by omega, by omega, by omega, by rw [four30]; omega, fun H3 p s3 hp => ?_⟩
    refine ⟨p, _, 0, .int ((av (qOf n) i : Nat) : Int), rfl, rfl, SqT.of hp, ?_, q H3 ((s1.trans s2).trans s3)⟩
    exact atI_nat (j := 0) (by rw [List.getElem?_map, avs_at (by omega)]; rfl)
def spAT : Sp := fun vs H Q _ => ∃ n m st : Nat, vs = [.int n, .int m, .int st] ∧ 1 ≤ n ∧ n ≤ 8 ∧ m ≤ 4096 ∧ st ≤ 1000000000000000000 ∧ ∀ H' p, Same H H' → H' p = some (.tup ((avs (qOf n) st m).map V.int)) → Q (.ref p) H'
theorem ok_at {k : Nat} (T : Txt K mg) : FnOk P w K mg base CX0 (k + 33) T.aAvoidingText T.dAvoidingText ["count", "length", "start"] spAT := by
  have GModulus : FnOk P w K mg base CX0 (k + 32) T.aModulus T.dModulus ["count"] spMod := ok_mod T
  have GCheckCount : FnOk P w K mg base CX0 (k + 32) T.aCheckCount T.dCheckCount ["value", "least", "most"] spCount := ok_count T
  have GStretch : FnOk P w K mg base CX0 (k + 32) T.aStretch T.dStretch ["size", "start", "length"] (spStr 30) := ok_str T 30
  refine T.fAvoidingText.ok scAvoidingText (fun vs H Q E h => ?_) (fun cdv A outer s H vs Q E hr h => ?_)
  · obtain ⟨n, m, st, rfl, _⟩ := h
    rfl
  · obtain ⟨n, m, st, rfl, n1, n8, hm, hst, q⟩ := h
    obtain ⟨q1, q2, _⟩ := qOf_in n n1 n8
    refine ⟨_, (pss_cons (ps_set (i := 3) scAvoidingText.nd rfl (Or.inl rfl) (pe_call GModulus hr (by rfl) T.gModulus T.fModulus.kp T.bModulus .nil pass0 (pa_cons (pv 0) pa_nil)))
      (pss_cons (ps_expr (pe_call GCheckCount hr (by rfl) T.gCheckCount T.fCheckCount.kp T.bCheckCount .nil pass0 (pa_cons (pv 1) (pa_cons pe_int (pa_cons (pe_glob (v := .int 4096) rfl T.m_LONGEST_TEXT ⟨_, rfl⟩) pa_nil)))))
      (pss_cons (ps_expr (pe_call GCheckCount hr (by rfl) T.gCheckCount T.fCheckCount.kp T.bCheckCount .nil pass0 (pa_cons (pv 2) (pa_cons pe_int (pa_cons (pe_glob (v := .int 1000000000000000000) rfl T.m_GREATEST_START ⟨_, rfl⟩) pa_nil)))))
      (pss_one (ps_ret (pe_call GStretch hr (by rfl) T.gStretch T.fStretch.kp T.bStretch .nil pass0 (pa_cons (pv 3) (pa_cons (pv 2) (pa_cons (pv 1) pa_nil))))))))), ?_⟩
    refine ⟨_, rfl, n, rfl, n1, n8, fun H1 s1 => ?_⟩
    refine ⟨_, rfl, m, 0, 4096, rfl, by omega, by omega, fun H2 s2 => ?_⟩
    refine ⟨_, rfl, st, 0, 1000000000000000000, rfl, by omega, by omega, fun H3 s3 => ?_⟩
    exact ⟨_, rfl, _, rfl, _, rfl, qOf n, st, m, rfl, by omega, by omega, by omega, by rw [four30]; omega, fun H4 p s4 hp => q H4 p (((s1.trans s2).trans s3).trans s4) hp⟩
def spFar3 : Sp := fun vs H Q _ => ∃ (d c : Addr) (t : Nat), vs = [.ref d, .int 3] ∧ Nxt H d c t ∧ t + 20 < 1073741824 ∧
  ∀ H' (m t' : Nat), But d H H' → Nxt H' d c t' → t' ≤ t + 20 → m < 1000000000000000000 → Q (.int m) H'
theorem ok_far3 {k : Nat} (T : Txt K mg) : FnOk P w K mg base CX0 (k + 2) T.aLFar T.dLFar ["_law_pen_here", "_law_pieces"] spFar3 := by
  have GLDraw : FnOk P w K mg base CX0 (k + 1) T.aLDraw T.dLDraw ["_law_pen_here", "_law_many"] spNDraw := ok_draw T
  refine T.fLFar.ok scLFar (fun vs H Q E h => ?_) (fun cdv A outer s H vs Q E hr h => ?_)
  · obtain ⟨d, c, t, rfl, _⟩ := h
    rfl
  · obtain ⟨d, c, t, rfl, src, ht, q⟩ := h
    refine ⟨_, (pss_cons (ps_set (i := 2) scLFar.nd rfl (Or.inl rfl) pe_int)
      (pss_cons (ps_for PassesOwn.never rfl (pi_range1 (by rfl) T.m_range (pa_cons (pe_op op_add pe_int (pe_call GLDraw hr (by rfl) T.gLDraw T.fLDraw.kp T.bLDraw .nil pass0 (pa_cons (pv 0) (pa_cons (pv 1) pa_nil)))) pa_nil)) (pg_name (i := 3) scLFar.nd rfl (Or.inl rfl)) (pss_one (ps_set (i := 2) scLFar.nd rfl (Or.inl rfl) (pe_op op_add (pe_op op_mul (pv 2) (pe_op op_pow pe_int pe_int)) (pe_call GLDraw hr (by rfl) T.gLDraw T.fLDraw.kp T.bLDraw .nil pass0 (pa_cons (pv 0) (pa_cons (pe_op op_pow pe_int pe_int) pa_nil)))))))
      (pss_one (ps_ret (pv 2))))), ?_⟩
    refine ⟨_, rfl, _, rfl, d, c, 3, t, rfl, src, by omega, by omega, by omega, fun H0 x t0 but0 src0 ht0 x0 x1 => ?_⟩
    obtain ⟨x, rfl⟩ := nat_of x0
    refine ⟨1, x, rfl, rfl, _, rfl, by omega, by omega, for_range (lo := 0) (fun i σ H' => ∃ (m : Nat) (t' : Nat) (o3 : Option V), σ = [some (.ref d), some (.int 3), some (.int m), o3] ∧ m < 1000000 ^ i ∧ But d H H' ∧ Nxt H' d c t' ∧ t' ≤ t0 + i) ?_ ?_ ?_⟩
    · exact ⟨0, t0, _, rfl, by decide, but0, src0, by omega⟩
    · rintro i σ H1 hi ⟨m, t1, o3, rfl, m0, but1, src1, ht1⟩
      have hi2 : i < x + 1 := by
        have : i < ((1 : Int) + (x : Int)).toNat := hi
        omega
      refine ⟨_, rfl, 10, 6, rfl, rfl, ⟨by decide, by decide, by decide⟩, _, _, rfl, rfl, .inr ⟨by decide, by decide⟩, ?_⟩
      refine ⟨_, rfl, 10, 6, rfl, rfl, ⟨by decide, by decide, by decide⟩, d, c, _, t1, rfl, src1, by decide, by decide, by omega, fun H2 y t2 but2 src2 ht2 y0 y1 => ?_⟩
      obtain ⟨y, rfl⟩ := nat_of y0
      have y2 : y < 1000000 := by
        have : ((y : Nat) : Int) < (10 : Int) ^ (6 : Int).toNat := y1
        have e6 : (10 : Int) ^ (6 : Int).toNat = 1000000 := by decide
        omega
      refine ⟨_, _, rfl, rfl, m * 1000000 + y, t2, some (.int (0 + (i : Int))), ?_, ?_, but1.trans but2, src2, by omega⟩
      · have e6 : (10 : Int) ^ (6 : Int).toNat = ((1000000 : Nat) : Int) := by decide
        show [some (V.ref d), some (.int 3), some (.int ((m : Int) * (10 : Int) ^ (6 : Int).toNat + (y : Int))), some (.int (0 + (i : Int)))] = _
        rw [e6, ← Int.natCast_mul, ← Int.natCast_add]
      · rw [Nat.pow_succ]
        omega
    · rintro σ H1 ⟨m, t1, o3, rfl, m0, but1, src1, ht1⟩
      have hx : ((1 : Int) + (x : Int)).toNat ≤ 3 := by omega
      have le : 1000000 ^ ((1 : Int) + (x : Int)).toNat ≤ 1000000 ^ 3 := Nat.pow_le_pow_right (by decide) hx
      have e18 : 1000000 ^ 3 = 1000000000000000000 := by decide
      exact ⟨_, rfl, q H1 m t1 but1 src1 (by omega) (by omega)⟩
end
end Mo

namespace Mo
open PySem PySem.Spec PyProof.Rows L2
theorem Nxt.here {H : Hp} {d c : Addr} {t : Nat} (h : Nxt H d c t) : H d ≠ none := by
  obtain ⟨_, _, h, _⟩ := h
  rw [h]
  exact Option.some_ne_none _
section
variable {P : Program} {w : World} {K : PySem.W.Frag} {mg : Str → Option Value} {base : Heap}
/-- an odd value -/
def spOdd : Sp := fun vs H Q _ => ∃ (d c : Addr) (t : Nat), vs = [.ref d] ∧ Nxt H d c t ∧ t < 1073741824 ∧
  ∀ H' v t' e, But d H H' → Nxt H' d c t' → t' ≤ t + 1 → Dx (fun x => x = d) H' v e → OddD e → Q v H'
theorem ok_odd {k : Nat} (T : Txt K mg) : FnOk P w K mg base CX0 (k + 3) T.aLOdd T.dLOdd ["_law_pen_here"] spOdd := by
  have GLPick : FnOk P w K mg base CX0 (k + 2) T.aLPick T.dLPick ["_law_pen_here", "_law_choices"] (spNPick K) := ok_pick T
  refine T.fLOdd.ok scLOdd (fun vs H Q E h => ?_) (fun cdv A outer s H vs Q E hr h => ?_)
  · obtain ⟨_, _, _, rfl, _⟩ := h
    rfl
  · obtain ⟨d, c, t, rfl, nxt, ht, q⟩ := h
    refine ⟨_, (pss_one (ps_ret (pe_call GLPick hr (by rfl) T.gLPick T.fLPick.kp T.bLPick .nil pass0 (pa_cons (pv 0) (pa_cons (pe_lst (pa_cons (pe_un un_neg pe_int) (pa_cons pe_bl (pa_cons pe_bl (pa_cons pe_non (pa_cons pe_str (pa_cons pe_str (pa_cons (pe_tup (pa_cons pe_int pa_nil)) (pa_cons (pe_lst (pa_cons pe_int pa_nil)) (pa_cons pe_dnewK (pa_cons (pe_un un_neg (pe_op op_pow pe_int pe_int)) pa_nil))))))))))) pa_nil))))), ?_⟩
    refine ⟨_, rfl, (lit_lst (lit_cons (lit_negE lit_int) (lit_cons lit_bl (lit_cons lit_bl (lit_cons lit_non (lit_cons lit_str (lit_cons lit_str (lit_cons (lit_tup (lit_cons lit_int lit_nil)) (lit_cons (lit_lst (lit_cons lit_int lit_nil)) (lit_cons lit_dnew (lit_cons (lit_negE (lit_pow ⟨by decide, by decide, by decide⟩)) lit_nil))))))))))).use fun H1 v s1 hv => ?_⟩
    obtain ⟨l, xs, rfl, hl, nl, hx⟩ := lst_dx hv
    have hlen := hx.length
    refine ⟨d, c, l, xs, t, rfl, nxt.same s1, SqL.of hl, fun z => nl (by rw [z]; exact nxt.here), by rw [hlen]; show 0 < 10; decide, by rw [hlen]; show 10 < _; decide, by omega, fun H2 v t2 but2 nxt2 ht2 hv2 => ?_⟩
    obtain ⟨e, he, dx⟩ := hx.mem hv2
    refine q H2 v t2 e ((But.same s1).trans but2) nxt2 ht2 (dx.keep nxt.here but2) ?_
    simp only [List.mem_cons, List.not_mem_nil, or_false] at he
    rcases he with rfl | rfl | rfl | rfl | rfl | rfl | rfl | rfl | rfl | rfl
    · exact odd_neg (by decide) (by decide)
    · exact odd_bl _
    · exact odd_bl _
    · exact odd_non
    · exact odd_str (by decide) (by decide)
    · exact odd_str (by decide) (by decide)
    · exact odd_tup1 (by decide)
    · exact odd_lst1 (by decide)
    · exact odd_dct
    · exact odd_neg (by decide) (by decide)
end
end Mo

namespace Mo
open PySem PySem.Spec PyProof.Rows L2
section
variable {P : Program} {w : World} {K : PySem.W.Frag} {mg : Str → Option Value} {base : Heap}
def spPen (K : PySem.W.Frag) : Sp := fun vs H Q _ => ∃ (a : Addr) (ns : List Int), vs = [.ref a] ∧ SqL K H a (ns.map V.int) ∧ ns.length ≤ 63 ∧ ∀ H' d c, Same H H' → H d = none → Nxt H' d c 0 → Q (.ref d) H'
theorem ok_pen {k : Nat} (T : Txt K mg) : FnOk P w K mg base CX0 (k + 1) T.aLPen T.dLPen ["_law_script"] (spPen K) := by
  refine T.fLPen.ok scLPen (fun vs H Q E h => ?_) (fun cdv A outer s H vs Q E hr h => ?_)
  · obtain ⟨a, ns, rfl, _⟩ := h
    rfl
  · obtain ⟨a, ns, rfl, hs, hn, q⟩ := h
    refine ⟨_, (pss_one (ps_ret (pe_disp (pps_cons pe_str (pe_callTy call_list_of (by rfl) T.m_list (by decide +kernel) (pa_cons (pe_slice sl_list (pv 0) po_none (po_some pe_int)) pa_nil)) (pps_cons pe_str pe_int (pps_cons pe_str pe_int pps_nil))) (by rfl) (by rfl) (fun z => by cases z) (by decide)))), ?_⟩
    intro d nd
    have s1 := same_new (o := .dK []) nd
    refine ⟨_, rfl, 63, rfl, a, _, rfl, s1.seq hs, fun p np => ?_⟩
    have s2 := same_new (o := .lst (cutV (ns.map V.int) none (some 63))) np
    refine ⟨p, _, rfl, .inl (SqL.of upd_same), fun c nc => ?_⟩
    have s3 := same_new (o := .lst (cutV (ns.map V.int) none (some 63))) nc
    have ec : cutV (ns.map V.int) none (some 63) = ns.map V.int := by
      unfold cutV
      rw [HT.sIx_none, show (some (63 : Int)) = some ((63 : Nat) : Int) from rfl, HT.sIx_nat, List.drop_zero, Nat.sub_zero, List.length_map]
      exact List.take_of_length_le (by rw [List.length_map]; omega)
    rw [ec] at nc s2 s3 ⊢
    have hd3 := s3 _ _ (s2 _ _ (upd_same (H := H) (a := d) (o := .dK [])))
    refine ⟨hd3, nxtD c 0 0, rfl, by show 3 ≤ 15; decide, ?_⟩
    rw [nxt_merge]
    have ncd : c ≠ d := (ne_of_none (s2 _ _ (upd_same (H := H) (a := d) (o := .dK []))) nc).symm
    refine q _ d c (Same.put ((s1.trans s2).trans s3) nd) nd ⟨ns, 0, upd_same, by rw [upd_ne ncd, upd_same], hn, Int.le_refl 0⟩
end
end Mo

/-! ### `is`, `is not` of truth values -/
namespace Mo
open PySem PySem.Spec PyProof.Rows L2
variable {X : Cx}
def rIsB : R2 := fun x y H Q => ∃ a b, x = .bl a ∧ y = .bl b ∧ Q (.bl (decide (a = b))) H
def rNotB : R2 := fun x y H Q => ∃ a b, x = .bl a ∧ y = .bl b ∧ Q (.bl (!decide (a = b))) H
theorem op_isB : OpR X (compareOp .Is) rIsB := by
  intro pins s σ H x y v u Q I rx ry h
  obtain ⟨a, b, rfl, rfl, q⟩ := h
  cases rx
  cases ry
  refine wpAny_is_plain rfl (fin_bl I q ?_)
  cases a <;> cases b <;> first | rfl | decide
theorem op_notB : OpR X (compareOp .IsNot) rNotB := by
  intro pins s σ H x y v u Q I rx ry h
  obtain ⟨a, b, rfl, rfl, q⟩ := h
  cases rx
  cases ry
  refine wpAny_isNot_plain rfl (fin_bl I q ?_)
  cases a <;> cases b <;> first | rfl | decide
end Mo

/-! ### images of any data: what is_image says of it -/
namespace Mo
open PySem PySem.Spec PyProof.Rows L2
theorem letter_nat : ∀ {d : PyData}, letterD d = true → ∃ n : Nat, n ≤ 999999 ∧ d = .int (n : Int)
  | .int i, h => by
    have h : (decide (0 ≤ i) && decide (i ≤ 999999)) = true := h
    rw [Bool.and_eq_true] at h
    have h1 := of_decide_eq_true h.1
    have h2 := of_decide_eq_true h.2
    exact ⟨i.toNat, by omega, congrArg PyData.int (by omega)⟩
  | .none, h => by cases h
  | .bool _, h => by cases h
  | .str _, h => by cases h
  | .list _, h => by cases h
  | .tuple _, h => by cases h
  | .dict _, h => by cases h
theorem letters_nats : ∀ {ds : List PyData}, ds.all letterD = true → ∃ W : List Nat, ds = (nat2 W).map PyData.int ∧ ∀ n ∈ W, n ≤ 999999
  | [], _ => ⟨[], rfl, fun _ h => (List.not_mem_nil h).elim⟩
  | d :: r, h => by
    rw [List.all_cons, Bool.and_eq_true] at h
    obtain ⟨n, hn, rfl⟩ := letter_nat h.1
    obtain ⟨W, rfl, hW⟩ := letters_nats h.2
    refine ⟨n :: W, rfl, fun m hm => ?_⟩
    rcases List.mem_cons.mp hm with rfl | hm
    · exact hn
    · exact hW m hm
theorem text_nats {d : PyData} (h : textD d = true) : ∃ W : List Nat, d = .tuple ((nat2 W).map PyData.int) ∧ Okn W := by
  cases e : isTupD d with
  | false => rw [notTup e] at h; cases h
  | true =>
    cases d with
    | tuple ds =>
      have h : (decide (ds.length ≤ 4096) && ds.all letterD) = true := h
      rw [Bool.and_eq_true] at h
      obtain ⟨W, rfl, hW⟩ := letters_nats h.2
      have hl := of_decide_eq_true h.1
      rw [List.length_map, nat2_len] at hl
      exact ⟨W, rfl, hW, hl⟩
    | _ => cases e
/-- a text that is an image of a rule set of n letters -/
def imgW (n : Nat) (W : List Nat) : Bool := decide (1 ≤ W.length) && decide (W.length ≤ 64) && W.all fun z => decide (z < n)
def natD : PyData → Nat
  | .int i => i.toNat
  | _ => 0
def imgD (n : Nat) (d : PyData) : Bool := textD d && match d with
  | .tuple ds => imgW n (ds.map natD)
  | _ => false
theorem nats_back (W : List Nat) : ((nat2 W).map PyData.int).map natD = W := by
  unfold nat2
  rw [List.map_map, List.map_map]
  induction W with
  | nil => rfl
  | cons a r ih =>
    rw [List.map_cons, ih]
    rfl
theorem imgD_text {n : Nat} {W : List Nat} (ok : Okn W) : imgD n (.tuple ((nat2 W).map PyData.int)) = imgW n W := by
  unfold imgD
  rw [txt_text ok, Bool.true_and]
  show imgW n (((nat2 W).map PyData.int).map natD) = _
  rw [nats_back]
theorem imgD_no {n : Nat} {d : PyData} (h : textD d = false) : imgD n d = false := by
  unfold imgD
  rw [h, Bool.false_and]
theorem txt_at {N : Addr → Prop} {H : Hp} {v : V} {W : List Nat} (h : Dx N H v (.tuple ((nat2 W).map PyData.int))) : ∃ p, v = .ref p ∧ H p = some (.tup ((nat2 W).map V.int)) := by
  obtain ⟨a, xs, e, ha, _, hx⟩ := tpl_dx h
  rw [dx_ints hx] at ha
  exact ⟨a, e, ha⟩
theorem imgW_max {n m : Nat} {W : List Nat} (h1 : 1 ≤ W.length) (h2 : W.length ≤ 64) (hm : m ∈ W) (hx : ∀ y ∈ W, y ≤ m) : imgW n W = decide (m < n) := by
  unfold imgW
  rw [decide_eq_true h1, decide_eq_true h2, Bool.true_and, Bool.true_and]
  by_cases c : m < n
  · rw [decide_eq_true c]
    exact List.all_eq_true.mpr fun z hz => decide_eq_true (Nat.lt_of_le_of_lt (hx z hz) c)
  · rw [decide_eq_false c]
    exact List.all_eq_false.mpr ⟨m, hm, by rw [decide_eq_false c]; exact Bool.false_ne_true⟩
end Mo

namespace Mo
/-- b is a border of the first n letters, or 0 -/
def Brd (t : List Int) (n b : Nat) : Prop := b < n ∧ ∀ i, i < b → t[i]? = t[n - b + i]?
instance (t : List Int) (n b : Nat) : Decidable (Brd t n b) := by
  unfold Brd
  exact instDecidableAnd
theorem Brd.zero {t : List Int} {n : Nat} (h : 0 < n) : Brd t n 0 := ⟨h, fun i hi => by omega⟩
theorem Brd.step {t : List Int} {n b : Nat} (h : b < n) : Brd t (n + 1) (b + 1) ↔ Brd t n b ∧ t[b]? = t[n]? := by
  constructor
  · rintro ⟨_, h2⟩
    refine ⟨⟨h, fun i hi => ?_⟩, ?_⟩
    · have := h2 i (by omega)
      rwa [show n + 1 - (b + 1) + i = n - b + i by omega] at this
    · have := h2 b (by omega)
      rwa [show n + 1 - (b + 1) + b = n by omega] at this
  · rintro ⟨⟨_, h2⟩, h3⟩
    refine ⟨by omega, fun i hi => ?_⟩
    by_cases e : i = b
    · subst e
      rwa [show n + 1 - (i + 1) + i = n by omega]
    · rw [h2 i (by omega), show n + 1 - (b + 1) + i = n - b + i by omega]
theorem Brd.inner {t : List Int} {n b c : Nat} (h : Brd t n b) (hc : c < b) : Brd t n c ↔ Brd t b c := by
  obtain ⟨h1, h2⟩ := h
  constructor
  · rintro ⟨_, g⟩
    refine ⟨hc, fun i hi => ?_⟩
    rw [g i hi, h2 (b - c + i) (by omega)]
    congr 1
    omega
  · rintro ⟨_, g⟩
    refine ⟨by omega, fun i hi => ?_⟩
    rw [g i hi, h2 (b - c + i) (by omega)]
    congr 1
    omega
/-- the greatest border up to m, or 0 -/
def top (t : List Int) (n : Nat) : Nat → Nat
  | 0 => 0
  | m + 1 => if Brd t n (m + 1) then m + 1 else top t n m
theorem top_le (t : List Int) (n : Nat) : ∀ m, top t n m ≤ m
  | 0 => Nat.le_refl _
  | m + 1 => by
    have := top_le t n m
    unfold top
    split <;> omega
theorem top_brd {t : List Int} {n : Nat} (h : 0 < n) : ∀ m, Brd t n (top t n m)
  | 0 => Brd.zero h
  | m + 1 => by
    unfold top
    split
    · assumption
    · exact top_brd h m
theorem top_max {t : List Int} {n : Nat} : ∀ {m c : Nat}, c ≤ m → Brd t n c → c ≤ top t n m
  | 0, c, h, _ => by omega
  | m + 1, c, h, b => by
    unfold top
    split
    · exact h
    · rename_i g
      have : c ≠ m + 1 := fun e => g (e ▸ b)
      exact top_max (by omega) b
theorem top_is {t : List Int} {n m c : Nat} (hn : 0 < n) (hc : c ≤ m) (hb : Brd t n c) (hm : ∀ e, e ≤ m → Brd t n e → e ≤ c) : top t n m = c :=
  Nat.le_antisymm (hm _ (top_le t n m) (top_brd hn m)) (top_max hc hb)
/-- the longest border of the first n letters -/
def lng (t : List Int) (n : Nat) : Nat := top t n (n - 1)
theorem lng_lt {t : List Int} {n : Nat} (h : 0 < n) : lng t n < n := by
  have := top_le t n (n - 1)
  unfold lng
  omega
theorem lng_brd {t : List Int} {n : Nat} (h : 0 < n) : Brd t n (lng t n) := top_brd h _
theorem lng_max {t : List Int} {n c : Nat} (h : Brd t n c) : c ≤ lng t n := top_max (by have := h.1; omega) h
theorem lng_one (t : List Int) : lng t 1 = 0 := rfl
theorem lng_zero (t : List Int) : lng t 0 = 0 := rfl
/-- one turn of the way back -/
theorem back_turn {t : List Int} {n b : Nat} (hb : Brd t n b) (h0 : 0 < b) (hne : t[b]? ≠ t[n]?) : top t (n + 1) (b + 1) = top t (n + 1) (lng t b + 1) := by
  have hbn := hb.1
  have hl := lng_lt (t := t) h0
  refine top_is (by omega) ?_ (top_brd (by omega) _) fun e he hE => ?_
  · have := top_le t (n + 1) (lng t b + 1)
    omega
  · cases e with
    | zero => exact Nat.zero_le _
    | succ e =>
      have hE2 := (Brd.step (by have := hE.1; omega)).mp hE
      have : e ≠ b := fun z => hne (z ▸ hE2.2)
      have hin := (Brd.inner hb (by omega)).mp hE2.1
      exact top_max (by have := lng_max hin; omega) hE
theorem back_yes {t : List Int} {n b : Nat} (hb : Brd t n b) (h : t[b]? = t[n]?) : top t (n + 1) (b + 1) = b + 1 := by
  unfold top
  rw [if_pos ((Brd.step hb.1).mpr ⟨hb, h⟩)]
theorem back_no {t : List Int} {n : Nat} (hn : 0 < n) (h : t[0]? ≠ t[n]?) : top t (n + 1) 1 = 0 := by
  unfold top
  rw [if_neg (fun z => h ((Brd.step hn).mp z).2)]
  rfl
theorem lng_step {t : List Int} {n : Nat} (h : 0 < n) : top t (n + 1) (lng t n + 1) = lng t (n + 1) := by
  have hl := lng_lt (t := t) h
  refine top_is (by omega) ?_ (lng_brd (by omega)) fun e he hE => lng_max hE
  cases q : lng t (n + 1) with
  | zero => omega
  | succ c =>
    have hb := lng_brd (t := t) (n := n + 1) (by omega)
    rw [q] at hb
    have := ((Brd.step (by have := hb.1; omega)).mp hb).1
    have := lng_max this
    omega
/-- the longest border of less than half of n -/
def hlf (t : List Int) (n : Nat) : Nat := top t n ((n - 1) / 2)
theorem hlf_brd {t : List Int} {n : Nat} (h : 0 < n) : Brd t n (hlf t n) ∧ 2 * hlf t n < n := by
  have := top_le t n ((n - 1) / 2)
  refine ⟨top_brd h _, ?_⟩
  unfold hlf
  omega
theorem hlf_max {t : List Int} {n c : Nat} (h : Brd t n c) (h2 : 2 * c < n) : c ≤ hlf t n := top_max (by omega) h
theorem hlf_one (t : List Int) : hlf t 1 = 0 := rfl
theorem hlf_zero (t : List Int) : hlf t 0 = 0 := rfl
theorem hlf_lt {t : List Int} {n : Nat} (h : 0 < n) : hlf t n < n := (hlf_brd (t := t) h).1.1
/-- what is behind extended: all half borders are at most it -/
theorem hlf_below {t : List Int} {n : Nat} (h : 0 < n) : hlf t (n + 1) ≤ top t (n + 1) (hlf t n + 1) := by
  have hb := hlf_brd (t := t) (n := n + 1) (by omega)
  cases q : hlf t (n + 1) with
  | zero => omega
  | succ c =>
    rw [q] at hb
    have := ((Brd.step (by have := hb.1.1; omega)).mp hb.1).1
    have := hlf_max this (by omega)
    exact top_max (by omega) hb.1
theorem hlf_back {t : List Int} {n x : Nat} (hx : Brd t n x) (h2 : n ≤ 2 * x) (hle : hlf t n ≤ x) : hlf t n ≤ lng t x := by
  have h0 : 0 < n := by have := hx.1; omega
  have hb := hlf_brd (t := t) h0
  exact lng_max ((Brd.inner hx (by omega)).mp hb.1)
theorem hlf_end {t : List Int} {n x : Nat} (hx : Brd t n x) (h2 : 2 * x < n) (hle : hlf t n ≤ x) : x = hlf t n := Nat.le_antisymm (hlf_max hx h2) hle
/-- the rank of the first k letters -/
def rk (t : List Int) (k : Nat) : Nat := if h : k = 0 then 0 else rk t (hlf t k) + 1
termination_by k
decreasing_by exact hlf_lt (by omega)
theorem rk_zero (t : List Int) : rk t 0 = 0 := by
  rw [rk]
  simp
theorem rk_pos {t : List Int} {k : Nat} (h : 0 < k) : rk t k = rk t (hlf t k) + 1 := by
  rw [rk, dif_neg (by omega)]
theorem rk_mono {t : List Int} : ∀ {b c : Nat}, Brd t b c → rk t c ≤ rk t b := by
  intro b
  induction b using Nat.strongRecOn with
  | ind b ih =>
    intro c h
    have hb : 0 < b := by have := h.1; omega
    rcases Nat.eq_zero_or_pos c with e | hc
    · subst e
      rw [rk_zero]
      exact Nat.zero_le _
    · rw [rk_pos hc, rk_pos hb]
      have he := hlf_brd (t := t) hc
      have hin : Brd t b (hlf t c) := (Brd.inner h (by omega)).mpr he.1
      have hm := hlf_max hin (by have := h.1; omega)
      have hh := hlf_brd (t := t) hb
      rcases Nat.lt_or_ge (hlf t c) (hlf t b) with g | g
      · have := ih (hlf t b) (by omega) ((Brd.inner hh.1 g).mp hin)
        omega
      · rw [show hlf t c = hlf t b by omega]
        exact Nat.le_refl _
/-- the law's way to say it -/
theorem rk_most {t : List Int} {n c : Nat} (h : Brd t n c) (h2 : 2 * c < n) : rk t c + 1 ≤ rk t n := by
  have hn : 0 < n := by omega
  rw [rk_pos hn]
  have hm := hlf_max h h2
  have hh := hlf_brd (t := t) hn
  rcases Nat.lt_or_ge c (hlf t n) with g | g
  · have := rk_mono ((Brd.inner hh.1 g).mp h)
    omega
  · rw [show c = hlf t n by omega]
    exact Nat.le_refl _
/-! only the first letters count -/
theorem Brd.local {t u : List Int} {n b : Nat} (h : ∀ i, i < n → t[i]? = u[i]?) : Brd t n b ↔ Brd u n b := by
  unfold Brd
  constructor
  · rintro ⟨a, g⟩
    exact ⟨a, fun i hi => by rw [← h i (by omega), g i hi, h _ (by omega)]⟩
  · rintro ⟨a, g⟩
    exact ⟨a, fun i hi => by rw [h i (by omega), g i hi, ← h _ (by omega)]⟩
theorem top_local {t u : List Int} {n : Nat} (h : ∀ i, i < n → t[i]? = u[i]?) : ∀ m, top t n m = top u n m
  | 0 => rfl
  | m + 1 => by
    unfold top
    rw [top_local h m]
    by_cases g : Brd t n (m + 1)
    · rw [if_pos g, if_pos ((Brd.local h).mp g)]
    · rw [if_neg g, if_neg (fun z => g ((Brd.local h).mpr z))]
theorem rk_local {t u : List Int} : ∀ {n : Nat}, (∀ i, i < n → t[i]? = u[i]?) → rk t n = rk u n := by
  intro n
  induction n using Nat.strongRecOn with
  | ind n ih =>
    intro h
    rcases Nat.eq_zero_or_pos n with e | hn
    · subst e
      rw [rk_zero, rk_zero]
    · have e : hlf t n = hlf u n := top_local h _
      rw [rk_pos hn, rk_pos hn, e, ih (hlf u n) (hlf_lt hn) fun i hi => h i (by have := hlf_lt (t := u) hn; omega)]
/-- a border, by slices -/
theorem brd_slices {t : List Int} {n b : Nat} (hn : n ≤ t.length) (h : b < n) : Brd t n b ↔ t.take b = (t.drop (n - b)).take b := by
  unfold Brd
  constructor
  · rintro ⟨_, g⟩
    apply List.ext_getElem?
    intro i
    rw [List.getElem?_take, List.getElem?_take, List.getElem?_drop]
    by_cases hi : i < b
    · rw [if_pos hi, if_pos hi, g i hi]
    · rw [if_neg hi, if_neg hi]
  · intro g
    refine ⟨h, fun i hi => ?_⟩
    have := congrArg (fun l : List Int => l[i]?) g
    simp only [List.getElem?_take, List.getElem?_drop, if_pos hi] at this
    exact this
end Mo

namespace Mo
open PySem PySem.Spec PyProof.Rows L2
/-- how often 2 divides n (0 for 0) -/
def tz (n : Nat) : Nat := if h : n = 0 then 0 else if n % 2 = 0 then tz (n / 2) + 1 else 0
termination_by n
decreasing_by omega
theorem tz_odd {n : Nat} (h : n % 2 = 1) : tz n = 0 := by
  rw [tz]
  have : n ≠ 0 := by omega
  rw [dif_neg this, if_neg (by omega)]
theorem tz_half {n : Nat} (h0 : 0 < n) (h : n % 2 = 0) : tz n = tz (n / 2) + 1 := by
  rw [tz]
  rw [dif_neg (by omega), if_pos h]
theorem tz_two {n : Nat} (h0 : 0 < n) : tz (2 * n) = tz n + 1 := by
  rw [tz_half (by omega) (by omega)]
  congr 2
  omega
theorem tz_pow : ∀ p : Nat, tz (2 ^ p) = p
  | 0 => tz_odd rfl
  | p + 1 => by
    rw [Nat.pow_succ, Nat.mul_comm, tz_two (Nat.pow_pos (by decide)), tz_pow p]
theorem tz_mirror : ∀ (p a : Nat), 0 < a → a < 2 ^ p → tz (2 ^ p - a) = tz a
  | 0, a, h0, h1 => by omega
  | p + 1, a, h0, h1 => by
    rw [Nat.pow_succ] at h1 ⊢
    rcases Nat.mod_two_eq_zero_or_one a with e | e
    · obtain ⟨b, rfl⟩ : ∃ b, a = 2 * b := ⟨a / 2, by omega⟩
      rw [show 2 ^ p * 2 - 2 * b = 2 * (2 ^ p - b) by omega, tz_two (by omega), tz_two (by omega), tz_mirror p b (by omega) (by omega)]
    · rw [tz_odd e, tz_odd (by omega)]
theorem tz_le (n : Nat) : tz n ≤ n := by
  induction n using Nat.strongRecOn with
  | ind n ih =>
    rcases Nat.eq_zero_or_pos n with e | e
    · subst e
      rw [tz]
      simp
    · rcases Nat.mod_two_eq_zero_or_one n with e2 | e2
      · have := ih (n / 2) (by omega)
        rw [tz_half e e2]
        omega
      · rw [tz_odd e2]
        omega
theorem log64 {n : Nat} (h : n < 2 ^ 64) : n.log2 < 1920 := by
  rcases Nat.eq_zero_or_pos n with e | e
  · subst e
    decide
  · have := (Nat.log2_lt (k := 64) (by omega)).mpr h
    omega
end Mo

namespace Mo
open PySem PySem.Spec PyProof.Rows L2
/-- the universal texts -/
def uni : Nat → List Int
  | 0 => []
  | n + 1 => uni n ++ [(n : Int)] ++ uni n
theorem uni_len : ∀ n : Nat, (uni n).length + 1 = 2 ^ n
  | 0 => rfl
  | n + 1 => by
    have ih := uni_len n
    rw [uni, Nat.pow_succ, List.length_append, List.length_append, List.length_singleton]
    omega
theorem uni_len12 {n : Nat} (h : n ≤ 12) : (uni n).length ≤ 4095 := by
  have h1 := uni_len n
  have h2 : 2 ^ n ≤ 2 ^ 12 := Nat.pow_le_pow_right (by decide) h
  omega
theorem uni_low : ∀ {n : Nat} {x : Int}, x ∈ uni n → 0 ≤ x ∧ x < n
  | 0, x, h => by cases h
  | n + 1, x, h => by
    rw [uni, List.mem_append, List.mem_append, List.mem_singleton] at h
    rcases h with (h | h) | h
    · have := uni_low h
      omega
    · omega
    · have := uni_low h
      omega
theorem tz_high : ∀ (n a : Nat), 0 < a → a < 2 ^ n → tz (2 ^ n + a) = tz a
  | 0, a, h0, h1 => by omega
  | n + 1, a, h0, h1 => by
    rw [Nat.pow_succ] at h1 ⊢
    rcases Nat.mod_two_eq_zero_or_one a with e | e
    · obtain ⟨b, rfl⟩ : ∃ b, a = 2 * b := ⟨a / 2, by omega⟩
      rw [show 2 ^ n * 2 + 2 * b = 2 * (2 ^ n + b) by omega, tz_two (by omega), tz_two (by omega), tz_high n b (by omega) (by omega)]
    · rw [tz_odd e, tz_odd (by omega)]
theorem uni_at : ∀ (n i : Nat), i + 1 < 2 ^ n → (uni n)[i]? = some ((tz (i + 1) : Nat) : Int)
  | 0, i, h => by omega
  | n + 1, i, h => by
    have hl := uni_len n
    rw [Nat.pow_succ] at h
    rw [uni, List.append_assoc]
    by_cases h1 : i + 1 < 2 ^ n
    · rw [List.getElem?_append_left (by omega), uni_at n i h1]
    · rw [List.getElem?_append_right (by omega)]
      by_cases h2 : i + 1 = 2 ^ n
      · rw [show i - (uni n).length = 0 by omega, h2, tz_pow]
        rfl
      · obtain ⟨j, hj⟩ : ∃ j, i = 2 ^ n + j := ⟨i - 2 ^ n, by omega⟩
        subst hj
        rw [show 2 ^ n + j - (uni n).length = j + 1 by omega, List.singleton_append, List.getElem?_cons_succ, uni_at n j (by omega), Nat.add_assoc, tz_high n (j + 1) (by omega) (by omega)]
end Mo

namespace Mo
/-- what stands between the two half borders of the first n letters -/
def mid (t : List Int) (n : Nat) : List Int := (t.drop (hlf t n)).take (n - hlf t n - hlf t n)
/-- m + 1 values that make the first n letters -/
def vls (t : List Int) : Nat → Nat → List (List Int)
  | n, 0 => [t.take n]
  | n, m + 1 => vls t (hlf t n) m ++ [mid t n]
theorem vls_len (t : List Int) : ∀ (m n : Nat), (vls t n m).length = m + 1
  | 0, _ => rfl
  | m + 1, n => by
    rw [vls, List.length_append, vls_len t m]
    rfl
theorem fill_app {vv : List (List Int)} {x : List Int} {us : List Int} (h : ∀ u ∈ us, 0 ≤ u ∧ u < (vv.length : Nat)) : (us.flatMap fun u => (vv ++ [x]).getD u.toNat []) = us.flatMap fun u => vv.getD u.toNat [] := by
  induction us with
  | nil => rfl
  | cons u us ih =>
    have hu := h u (List.mem_cons_self ..)
    rw [List.flatMap_cons, List.flatMap_cons, ih fun y hy => h y (List.mem_cons_of_mem _ hy), List.getD_eq_getElem?_getD, List.getD_eq_getElem?_getD, List.getElem?_append_left (by omega)]
theorem halves_make {t : List Int} {n : Nat} (hn : 0 < n) (hl : n ≤ t.length) : t.take (hlf t n) ++ mid t n ++ t.take (hlf t n) = t.take n := by
  have hb := hlf_brd (t := t) hn
  have hs := (brd_slices hl hb.1.1).mp hb.1
  have h2 := hb.2
  unfold mid
  generalize hlf t n = h at *
  have e : t.take n = t.take (h + (n - h - h) + h) := by rw [show h + (n - h - h) + h = n by omega]
  rw [e, List.take_add, List.take_add, show h + (n - h - h) = n - h by omega, ← hs]
theorem vls_make {t : List Int} : ∀ (m n : Nat), n ≤ t.length → m + 1 ≤ rk t n → ((uni (m + 1)).flatMap fun u => (vls t n m).getD u.toNat []) = t.take n
  | 0, n, hl, hr => by
    show ([] ++ [((0 : Nat) : Int)] ++ []).flatMap _ = _
    simp [vls]
  | m + 1, n, hl, hr => by
    have hn : 0 < n := by
      rcases Nat.eq_zero_or_pos n with e | e
      · subst e
        rw [rk_zero] at hr
        omega
      · exact e
    have hh := hlf_lt (t := t) hn
    have hr2 : m + 1 ≤ rk t (hlf t n) := by
      rw [rk_pos hn] at hr
      omega
    have ih := vls_make m (hlf t n) (by omega) hr2
    have low : ∀ u ∈ uni (m + 1), 0 ≤ u ∧ u < ((vls t (hlf t n) m).length : Nat) := fun u hu => by
      have := uni_low hu
      rw [vls_len]
      omega
    rw [uni, vls, List.flatMap_append, List.flatMap_append, fill_app low, ih]
    have e1 : ([((m + 1 : Nat) : Int)].flatMap fun u => (vls t (hlf t n) m ++ [mid t n]).getD u.toNat []) = mid t n := by
      rw [List.flatMap_cons, List.flatMap_nil, List.append_nil, Int.toNat_natCast, List.getD_eq_getElem?_getD, List.getElem?_append_right (by rw [vls_len]; omega), vls_len, Nat.sub_self]
      rfl
    rw [e1, halves_make hn hl]
theorem vls_filled {t : List Int} : ∀ (m n : Nat), n ≤ t.length → m + 1 ≤ rk t n → ∀ v ∈ vls t n m, v ≠ [] ∧ v.length ≤ n ∧ ∀ x ∈ v, x ∈ t
  | 0, n, hl, hr => fun v hv => by
    obtain rfl := List.mem_singleton.mp hv
    have hn : 0 < n := by
      rcases Nat.eq_zero_or_pos n with e | e
      · subst e
        rw [rk_zero] at hr
        omega
      · exact e
    refine ⟨fun z => ?_, by rw [List.length_take]; omega, fun x hx => List.mem_of_mem_take hx⟩
    have := congrArg List.length z
    rw [List.length_take] at this
    have : min n t.length = 0 := this
    omega
  | m + 1, n, hl, hr => fun v hv => by
    have hn : 0 < n := by
      rcases Nat.eq_zero_or_pos n with e | e
      · subst e
        rw [rk_zero] at hr
        omega
      · exact e
    have hh := hlf_brd (t := t) hn
    have hr2 : m + 1 ≤ rk t (hlf t n) := by
      rw [rk_pos hn] at hr
      omega
    rw [vls] at hv
    rcases List.mem_append.mp hv with g | g
    · have := vls_filled m (hlf t n) (by omega) hr2 v g
      exact ⟨this.1, by omega, this.2.2⟩
    · obtain rfl := List.mem_singleton.mp g
      have ml : (mid t n).length = n - hlf t n - hlf t n := by
        unfold mid
        rw [List.length_take, List.length_drop]
        omega
      refine ⟨fun z => ?_, by omega, fun x hx => List.mem_of_mem_drop (List.mem_of_mem_take hx)⟩
      rw [z] at ml
      have : 0 = n - hlf t n - hlf t n := ml
      omega
end Mo

/-! ### lists of texts: their data -/
namespace Mo
open PySem PySem.Spec PyProof.Rows L2
def txD (v : List Int) : PyData := .tuple (v.map PyData.int)
theorem tups_dp {K : PySem.W.Frag} {H : Hp} : ∀ {ps : List Addr} {vv : List (List Int)}, ps.length = vv.length → (∀ (j : Nat) (a : Addr), ps[j]? = some a → H a = some (.tup ((vv.getD j []).map V.int))) → DpAll K H (ps.map V.ref) (vv.map txD)
  | [], [], _, _ => .nil
  | p :: ps, v :: vv, hl, h => .cons (.tup (SqT.of (h 0 p rfl)) (intsDp v)) (tups_dp (Nat.succ.inj hl) fun j a e => h (j + 1) a e)
  | [], _ :: _, hl, _ => by cases hl
  | _ :: _, [], hl, _ => by cases hl
theorem txs_fit {B : Nat} {R : Nat} : ∀ {vv : List (List Int)}, (∀ v ∈ vv, v.length ≤ R ∧ ∀ n ∈ v, n.natAbs < 10 ^ B) → FitAll B ((2 * R + 1) * vv.length) 1 (vv.map txD)
  | [], _ => ⟨trivial, Nat.le_refl _, Nat.zero_le _⟩
  | v :: vv, h => by
    have h1 := h v (List.mem_cons_self ..)
    have ih := txs_fit (B := B) (R := R) (vv := vv) fun x hx => h x (List.mem_cons_of_mem _ hx)
    have f1 : FitAll B (2 * R + 1) 1 [txD v] := ((ints_fitAll h1.2).tup.mono (Nat.le_refl _) (show 2 * v.length ≤ 2 * R by omega) (Nat.le_refl _)).one
    have := f1.app ih
    rw [List.length_cons, Nat.mul_succ, Nat.add_comm]
    exact this
theorem int_fit {B : Nat} {i : Int} (h : i.natAbs < 10 ^ B) (D : Nat) : FitAll B 2 D [.int i] := by
  have := (ints_fitAll (B := B) (ns := [i]) fun n hn => by rw [List.mem_singleton.mp hn]; exact h)
  exact this.mono (Nat.le_refl _) (Nat.le_refl _) (Nat.zero_le _)
/-- two numbers and a list of texts -/
def fndD (i e : Int) (vv : List (List Int)) : PyData := .tuple [.int i, .int e, .list (vv.map txD)]
theorem fnd_dat {K : PySem.W.Frag} {H : Hp} {r l : Addr} {i e : Int} {ps : List Addr} {vv : List (List Int)} (hr : H r = some (.tup [.int i, .int e, .ref l])) (hl : H l = some (.lst (ps.map V.ref))) (h1 : ps.length = vv.length) (h2 : ∀ (j : Nat) (a : Addr), ps[j]? = some a → H a = some (.tup ((vv.getD j []).map V.int))) : Dat K H (.ref r) (fndD i e vv) :=
  .inl (.tup (SqT.of hr) (.cons (.int i) (.cons (.int e) (.cons (.lst (SqL.of hl) (tups_dp h1 h2)) .nil))))
theorem fnd_repr {i e : Int} {vv : List (List Int)} (hi : i.natAbs < 10 ^ 20) (he : e.natAbs < 10 ^ 20) (hv : ∀ v ∈ vv, v.length ≤ 400 ∧ ∀ n ∈ v, n.natAbs < 10 ^ 20) (hl : vv.length ≤ 20) : (fndD i e vv).showable = true ∧ (fndD i e vv).depth ≤ 40 ∧ (fndD i e vv).shown.length ≤ sizeLine := by
  have f3 := ((txs_fit (R := 400) hv).lst).one
  have := (((int_fit hi 2).app (int_fit he 2)).app f3).tup
  exact this.repr (by decide) (by decide) (by omega) (by decide)
end Mo

/-! ### numbers and texts as they are written, and how they are read -/
namespace Mo
open PySem PySem.Spec PyProof.Rows L2
open PySem.NumText (AllDigits digitsVal)
abbrev numL := TL.numL
def isDig (c : Nat) : Bool := decide (48 ≤ c) && decide (c ≤ 57)
theorem dig_in (c : Nat) : decide (c ∈ (Str.ofString "0123456789").cps.toList) = isDig c := by
  have e : (Str.ofString "0123456789").cps.toList = [48, 49, 50, 51, 52, 53, 54, 55, 56, 57] := by decide +kernel
  rw [e]
  unfold isDig
  by_cases h : 48 ≤ c ∧ c ≤ 57
  · rw [decide_eq_true h.1, decide_eq_true h.2, decide_eq_true]
    · rfl
    · have : c = 48 ∨ c = 49 ∨ c = 50 ∨ c = 51 ∨ c = 52 ∨ c = 53 ∨ c = 54 ∨ c = 55 ∨ c = 56 ∨ c = 57 := by omega
      simpa using this
  · rw [decide_eq_false]
    · by_cases h1 : 48 ≤ c
      · rw [decide_eq_true h1, decide_eq_false (fun z => h ⟨h1, z⟩)]
        rfl
      · rw [decide_eq_false h1]
        rfl
    · intro z
      have : c = 48 ∨ c = 49 ∨ c = 50 ∨ c = 51 ∨ c = 52 ∨ c = 53 ∨ c = 54 ∨ c = 55 ∨ c = 56 ∨ c = 57 := by simpa using z
      omega
/-- no leading zeros, and at most g -/
def isNum (g : Nat) (ds : List Nat) : Bool := (decide (ds = [48]) || decide (ds.headD 0 ≠ 48)) && decide (digitsVal ds ≤ g)
/-- how many signs of s the number goes on, acc standing ahead -/
def numEnd (g : Nat) : List Nat → List Nat → Nat
  | _, [] => 0
  | acc, c :: r => if isDig c && isNum g (acc ++ [c]) then 1 + numEnd g (acc ++ [c]) r else 0
theorem numEnd_nil (g : Nat) (acc : List Nat) : numEnd g acc [] = 0 := by unfold numEnd; rfl
theorem numEnd_cons (g : Nat) (acc : List Nat) (c : Nat) (r : List Nat) : numEnd g acc (c :: r) = if isDig c && isNum g (acc ++ [c]) then 1 + numEnd g (acc ++ [c]) r else 0 := by rw [numEnd]
theorem numEnd_le (g : Nat) : ∀ (s acc : List Nat), numEnd g acc s ≤ s.length
  | [], _ => Nat.le_refl _
  | c :: r, acc => by
    unfold numEnd
    split
    · have := numEnd_le g r (acc ++ [c])
      rw [List.length_cons]
      omega
    · exact Nat.zero_le _
theorem fold_low : ∀ (r : List Nat) (a : Nat), a * 10 ^ r.length ≤ r.foldl (fun acc c => acc * 10 + (c - 48)) a
  | [], a => by simp
  | c :: r, a => by
    have h := fold_low r (a * 10 + (c - 48))
    have h2 : a * 10 * 10 ^ r.length ≤ (a * 10 + (c - 48)) * 10 ^ r.length := Nat.mul_le_mul_right _ (by omega)
    rw [List.length_cons, Nat.pow_succ, Nat.mul_comm (10 ^ r.length) 10, ← Nat.mul_assoc, List.foldl_cons]
    omega
theorem fold_grow (r : List Nat) (a : Nat) : a ≤ r.foldl (fun acc c => acc * 10 + (c - 48)) a := by
  have h := fold_low r a
  have : 1 ≤ 10 ^ r.length := Nat.pow_pos (by decide)
  have : a * 1 ≤ a * 10 ^ r.length := Nat.mul_le_mul_left _ this
  omega
theorem val_app (a b : List Nat) : digitsVal a ≤ digitsVal (a ++ b) := by
  unfold digitsVal
  rw [List.foldl_append]
  exact fold_grow b _
theorem num_short {g k : Nat} {ds : List Nat} (hd : AllDigits ds) (hn : isNum g ds = true) (hg : g < 10 ^ k) (hk : 1 ≤ k) : ds.length ≤ k := by
  unfold isNum at hn
  rw [Bool.and_eq_true, Bool.or_eq_true] at hn
  obtain ⟨h1, h2⟩ := hn
  have h2 := of_decide_eq_true h2
  rcases h1 with h1 | h1
  · rw [of_decide_eq_true h1]
    exact hk
  · cases ds with
    | nil => exact Nat.zero_le _
    | cons c r =>
      have hc := hd.head
      have hne : c ≠ 48 := of_decide_eq_true h1
      have h3 := fold_low r (0 * 10 + (c - 48))
      have h4 : digitsVal (c :: r) = r.foldl (fun acc c => acc * 10 + (c - 48)) (0 * 10 + (c - 48)) := rfl
      have h5 : 1 * 10 ^ r.length ≤ (0 * 10 + (c - 48)) * 10 ^ r.length := Nat.mul_le_mul_right _ (by omega)
      rcases Nat.lt_or_ge r.length k with z | z
      · exact z
      · have := Nat.pow_le_pow_right (n := 10) (by decide) z
        omega
/-! ### the signs of a number, one by one -/
theorem numL_head (n : Nat) (h : 0 < n) : (numL n).headD 0 ≠ 48 := by
  induction n using Nat.strongRecOn with
  | ind n ih =>
    by_cases e : n < 10
    · rw [numL, TL.numL_lt e]
      show 48 + n ≠ 48
      omega
    · have := ih (n / 10) (by omega) (by omega)
      rw [numL, TL.numL_step (by omega)]
      cases q : TL.numL (n / 10) with
      | nil => exact absurd q (TL.numL_ne _)
      | cons c r =>
        rw [numL, q] at this
        exact this
theorem numL_zero : numL 0 = [48] := TL.numL_lt (by decide)
theorem isNum_pre {n g : Nat} (hg : n ≤ g) {p q : List Nat} (h : p ++ q = numL n) (hp : p ≠ []) : isNum g p = true := by
  have hv : digitsVal p ≤ n := by
    have := val_app p q
    rw [h, numL, TL.numL_val] at this
    exact this
  unfold isNum
  rw [decide_eq_true (Nat.le_trans hv hg), Bool.and_true]
  rcases Nat.eq_zero_or_pos n with e | e
  · subst e
    rw [numL_zero] at h
    cases p with
    | nil => exact absurd rfl hp
    | cons c r =>
      cases r with
      | nil =>
        cases h
        rfl
      | cons d r => cases h
  · have hh := numL_head n e
    cases p with
    | nil => exact absurd rfl hp
    | cons c r =>
      rw [← h] at hh
      have hh : c ≠ 48 := hh
      rw [Bool.or_eq_true]
      exact .inr (decide_eq_true hh)
theorem dig_of {l : List Nat} (h : AllDigits l) {c : Nat} (hc : c ∈ l) : isDig c = true := by
  have := h c hc
  unfold isDig
  rw [decide_eq_true this.1, decide_eq_true this.2]
  rfl
/-- a number that is written, and then no digit -/
theorem numEnd_num {n g : Nat} (hg : n ≤ g) {tail : List Nat} (ht : isDig (tail.headD 0) = false) : ∀ (ds acc : List Nat), acc ++ ds = numL n → numEnd g acc (ds ++ tail) = ds.length
  | [], acc, h => by
    rw [List.nil_append]
    cases tail with
    | nil => rfl
    | cons c r =>
      unfold numEnd
      rw [show isDig c = false from ht]
      rfl
  | c :: ds, acc, h => by
    have hc : isDig c = true := dig_of (TL.numL_digits n) (by rw [show TL.numL n = acc ++ c :: ds from h.symm]; simp)
    have hn : isNum g (acc ++ [c]) = true := isNum_pre hg (q := ds) (by rw [List.append_assoc]; exact h) (by simp)
    rw [List.cons_append]
    unfold numEnd
    rw [hc, hn, numEnd_num hg ht ds (acc ++ [c]) (by rw [List.append_assoc]; exact h)]
    show 1 + ds.length = ds.length + 1
    omega
/-! ### letters one after the other -/
def readL (sep : Nat) (cs : List Nat) (i : Nat) (ls : List Int) : Nat ⊕ (List Int × Nat) :=
  if numEnd 999999 [] (cs.drop i) = 0 then .inl i
  else if h : cs[i + numEnd 999999 [] (cs.drop i)]? = some sep ∧ ls.length + 1 ≠ 4096 then readL sep cs (i + numEnd 999999 [] (cs.drop i) + 1) (ls ++ [((digitsVal ((cs.drop i).take (numEnd 999999 [] (cs.drop i))) : Nat) : Int)])
  else .inr (ls ++ [((digitsVal ((cs.drop i).take (numEnd 999999 [] (cs.drop i))) : Nat) : Int)], i + numEnd 999999 [] (cs.drop i))
termination_by cs.length - i
decreasing_by
  have := (List.getElem?_eq_some_iff.mp h.1).1
  omega
/-- how a text is read: the text, or where it is wrong -/
def prs (cs : List Nat) : Nat ⊕ List Int :=
  if cs.headD 0 = 46 then (if 1 < cs.length then .inl 1 else .inr [])
  else match readL 32 cs 0 [] with
    | .inl i => .inl i
    | .inr (ls, e) => if e < cs.length then .inl e else .inr ls
/-- letters as they are written -/
def lin (sep : Nat) : List Nat → List Nat
  | [] => []
  | [n] => numL n
  | n :: m :: r => numL n ++ sep :: lin sep (m :: r)
theorem lin_cons {sep n : Nat} {r : List Nat} (h : r ≠ []) : lin sep (n :: r) = numL n ++ sep :: lin sep r := by
  cases r with
  | nil => exact absurd rfl h
  | cons m r => rfl
theorem readL_lin {sep : Nat} (hs : isDig sep = false) : ∀ (rest : List Nat) (pre : List Nat) (ls : List Int), rest ≠ [] → (∀ n ∈ rest, n ≤ 999999) → ls.length + rest.length ≤ 4096 →
    readL sep (pre ++ lin sep rest) pre.length ls = .inr (ls ++ rest.map fun n : Nat => (n : Int), (pre ++ lin sep rest).length)
  | [], _, _, h, _, _ => absurd rfl h
  | n :: r, pre, ls, _, hn, hl => by
    have hn0 := hn n List.mem_cons_self
    have hnl : 0 < (numL n).length := List.length_pos_iff.mpr (TL.numL_ne n)
    by_cases e : r = []
    · subst e
      have hd : (pre ++ lin sep [n]).drop pre.length = numL n ++ [] := by
        rw [List.drop_left, List.append_nil]
        rfl
      have h1 := numEnd_num (tail := []) hn0 (by decide) (numL n) [] rfl
      rw [readL, hd, h1, if_neg (by omega), dif_neg (fun z => ?_)]
      · rw [List.append_nil, List.take_length, numL, TL.numL_val, List.length_append]
        rfl
      · have := (List.getElem?_eq_some_iff.mp z.1).1
        rw [List.length_append, show lin sep [n] = numL n from rfl] at this
        omega
    · have hd : (pre ++ lin sep (n :: r)).drop pre.length = numL n ++ sep :: lin sep r := by
        rw [List.drop_left, lin_cons e]
      have h1 := numEnd_num (tail := sep :: lin sep r) hn0 hs (numL n) [] rfl
      have hrl : 0 < r.length := List.length_pos_iff.mpr e
      have hl2 : ls.length + (r.length + 1) ≤ 4096 := hl
      have hat : (pre ++ lin sep (n :: r))[pre.length + (numL n).length]? = some sep := by
        rw [lin_cons e, List.getElem?_append_right (by omega), show pre.length + (numL n).length - pre.length = (numL n).length by omega, List.getElem?_append_right (Nat.le_refl _), Nat.sub_self]
        rfl
      rw [readL, hd, h1, if_neg (by omega), dif_pos ⟨hat, by omega⟩]
      · rw [List.take_left, numL, TL.numL_val]
        have ih := readL_lin hs r (pre ++ numL n ++ [sep]) (ls ++ [(n : Int)]) e (fun m hm => hn m (List.mem_cons_of_mem _ hm)) (by rw [List.length_append]; show _ + 1 + _ ≤ _; omega)
        have e1 : pre ++ numL n ++ [sep] ++ lin sep r = pre ++ lin sep (n :: r) := by rw [lin_cons e]; simp
        have e2 : (pre ++ numL n ++ [sep]).length = pre.length + (numL n).length + 1 := by
          rw [List.length_append, List.length_append]
          rfl
        rw [e1, e2] at ih
        rw [ih]
        simp
/-- the signs of a text as it is written -/
def lineL (ns : List Nat) : List Nat := if ns = [] then [46] else lin 32 ns
theorem lin_head {sep : Nat} {ns : List Nat} (h : ns ≠ []) : isDig ((lin sep ns).headD 0) = true := by
  have key : ∀ n : Nat, ∀ t : List Nat, isDig ((numL n ++ t).headD 0) = true := fun n t => by
    cases q : numL n with
    | nil => exact absurd q (TL.numL_ne n)
    | cons c r => exact dig_of (TL.numL_digits n) (by rw [show TL.numL n = c :: r from q]; exact List.mem_cons_self)
  cases ns with
  | nil => exact absurd rfl h
  | cons n r =>
    by_cases e : r = []
    · subst e
      have := key n []
      rw [List.append_nil] at this
      exact this
    · rw [lin_cons e]
      exact key n _
theorem prs_line {ns : List Nat} (hn : ∀ n ∈ ns, n ≤ 999999) (hl : ns.length ≤ 4096) : prs (lineL ns) = .inr (ns.map fun n : Nat => (n : Int)) := by
  unfold lineL
  by_cases e : ns = []
  · subst e
    rfl
  · rw [if_neg e]
    have h1 := lin_head (sep := 32) e
    have h2 := readL_lin (sep := 32) (by decide) ns [] [] e hn (by simpa using hl)
    rw [List.nil_append, List.nil_append] at h2
    unfold prs
    rw [if_neg (fun z => by rw [z] at h1; exact absurd h1 (by decide)), show ([] : List Nat).length = 0 from rfl] at *
    rw [h2]
    show (if (lin 32 ns).length < (lin 32 ns).length then _ else _) = _
    rw [if_neg (Nat.lt_irrefl _)]
end Mo
namespace Mo
open PySem PySem.Spec PyProof.Rows L2
open PySem.NumText (AllDigits digitsVal)
theorem numEnd_spec (g : Nat) : ∀ (s acc : List Nat), AllDigits acc → AllDigits (acc ++ s.take (numEnd g acc s)) ∧ (numEnd g acc s = 0 ∨ isNum g (acc ++ s.take (numEnd g acc s)) = true)
  | [], acc, h => by
    rw [numEnd_nil]
    exact ⟨by rw [List.take_zero, List.append_nil]; exact h, .inl rfl⟩
  | c :: r, acc, h => by
    rw [numEnd_cons]
    cases e : isDig c && isNum g (acc ++ [c]) with
    | false => exact ⟨by rw [if_neg Bool.false_ne_true, List.take_zero, List.append_nil]; exact h, .inl rfl⟩
    | true =>
      rw [if_pos rfl]
      rw [Bool.and_eq_true] at e
      have hc : 48 ≤ c ∧ c ≤ 57 := by
        have e1 := e.1
        unfold isDig at e1
        rw [Bool.and_eq_true] at e1
        exact ⟨of_decide_eq_true e1.1, of_decide_eq_true e1.2⟩
      have h2 : AllDigits (acc ++ [c]) := fun x hx => by
        rcases List.mem_append.mp hx with y | y
        · exact h x y
        · rw [List.mem_singleton.mp y]
          exact hc
      obtain ⟨i1, i2⟩ := numEnd_spec g r (acc ++ [c]) h2
      rw [Nat.add_comm 1, List.take_succ_cons]
      have e3 : acc ++ c :: r.take (numEnd g (acc ++ [c]) r) = acc ++ [c] ++ r.take (numEnd g (acc ++ [c]) r) := by simp
      rw [e3]
      refine ⟨i1, .inr ?_⟩
      rcases i2 with y | y
      · rw [y, List.take_zero, List.append_nil]
        exact e.2
      · exact y
theorem num_at {g : Nat} {s : List Nat} (h : numEnd g [] s ≠ 0) : AllDigits (s.take (numEnd g [] s)) ∧ isNum g (s.take (numEnd g [] s)) = true ∧ s.take (numEnd g [] s) ≠ [] := by
  obtain ⟨h1, h2⟩ := numEnd_spec g s [] (fun c hc => absurd hc List.not_mem_nil)
  rw [List.nil_append] at h1 h2
  have hl := numEnd_le g s []
  refine ⟨h1, h2.resolve_left h, fun z => h ?_⟩
  have := congrArg List.length z
  rw [List.length_take, Nat.min_eq_left hl] at this
  exact this
theorem starts_dot (cs : List Nat) : Txt.startswith (tx cs) (Str.ofString ".") = decide (cs.headD 0 = 46) := by
  have e : Str.ofString "." = tx [46] := by decide +kernel
  rw [e]
  unfold Txt.startswith
  rw [tx_len, tx_len]
  cases cs with
  | nil => rfl
  | cons c r =>
    show (decide (0 + 1 ≤ r.length + 1) && _) = decide (c = 46)
    rw [decide_eq_true (by omega), Bool.true_and]
    have e1 : (tx (c :: r)).cps.extract 0 (0 + (tx [46]).length) = #[c] := by
      rw [tx_len]
      show (c :: r).toArray.extract 0 1 = #[c]
      simp
    show ((tx (c :: r)).cps.extract 0 (0 + (tx [46]).length) == (tx [46]).cps) = _
    rw [e1]
    show (#[c] == #[46]) = decide (c = 46)
    by_cases h : c = 46
    · subst h
      rfl
    · rw [decide_eq_false h]
      simp [h]
end Mo

/-! ### long lines, and lists of one text compared -/
namespace Mo
open PySem PySem.Spec PyProof.Rows L2
open PySem.NumText (AllDigits digitsVal)
/-- letters that are written, and then something else -/
theorem readL_post {sep : Nat} (hs : isDig sep = false) {post : List Nat} (hp : isDig (post.headD 0) = false) : ∀ (rest : List Nat) (pre : List Nat) (ls : List Int), rest ≠ [] → (∀ n ∈ rest, n ≤ 999999) → ls.length + rest.length ≤ 4096 → (post.head? = some sep → ls.length + rest.length = 4096) →
    readL sep (pre ++ (lin sep rest ++ post)) pre.length ls = .inr (ls ++ rest.map fun n : Nat => (n : Int), (pre ++ lin sep rest).length)
  | [], _, _, h, _, _, _ => absurd rfl h
  | n :: r, pre, ls, _, hn, hl, hq => by
    have hn0 := hn n List.mem_cons_self
    have hnl : 0 < (numL n).length := List.length_pos_iff.mpr (TL.numL_ne n)
    by_cases e : r = []
    · subst e
      have hd : (pre ++ (lin sep [n] ++ post)).drop pre.length = numL n ++ post := by
        rw [List.drop_left]
        rfl
      have h1 := numEnd_num (tail := post) hn0 hp (numL n) [] rfl
      rw [readL, hd, h1, if_neg (by omega), dif_neg (fun z => ?_)]
      · rw [List.take_left, numL, TL.numL_val, List.length_append]
        rfl
      · have z1 := z.1
        rw [show lin sep [n] = numL n from rfl, List.getElem?_append_right (by omega), show pre.length + (numL n).length - pre.length = (numL n).length by omega, List.getElem?_append_right (Nat.le_refl _), Nat.sub_self, ← List.head?_eq_getElem?] at z1
        exact z.2 (hq z1)
    · have hd : (pre ++ (lin sep (n :: r) ++ post)).drop pre.length = numL n ++ sep :: (lin sep r ++ post) := by
        rw [List.drop_left, lin_cons e, List.append_assoc]
        rfl
      have h1 := numEnd_num (tail := sep :: (lin sep r ++ post)) hn0 hs (numL n) [] rfl
      have hrl : 0 < r.length := List.length_pos_iff.mpr e
      have hl2 : ls.length + (r.length + 1) ≤ 4096 := hl
      have hat : (pre ++ (lin sep (n :: r) ++ post))[pre.length + (numL n).length]? = some sep := by
        rw [lin_cons e, List.append_assoc, List.getElem?_append_right (by omega), show pre.length + (numL n).length - pre.length = (numL n).length by omega, List.getElem?_append_right (Nat.le_refl _), Nat.sub_self]
        rfl
      rw [readL, hd, h1, if_neg (by omega), dif_pos ⟨hat, by omega⟩]
      · rw [List.take_left, numL, TL.numL_val]
        have ih := readL_post hs hp r (pre ++ numL n ++ [sep]) (ls ++ [(n : Int)]) e (fun m hm => hn m (List.mem_cons_of_mem _ hm)) (by rw [List.length_append]; show _ + 1 + _ ≤ _; omega) (fun z => by
          have z2 : ls.length + (r.length + 1) = 4096 := hq z
          rw [List.length_append]
          show ls.length + 1 + r.length = 4096
          omega)
        have e1 : pre ++ numL n ++ [sep] ++ (lin sep r ++ post) = pre ++ (lin sep (n :: r) ++ post) := by rw [lin_cons e]; simp
        have e2 : (pre ++ numL n ++ [sep]).length = pre.length + (numL n).length + 1 := by
          rw [List.length_append, List.length_append]
          rfl
        have e3 : (pre ++ numL n ++ [sep] ++ lin sep r).length = (pre ++ lin sep (n :: r)).length := by rw [lin_cons e]; simp
        rw [e1, e2, e3] at ih
        rw [ih]
        simp
section
variable {X : Cx}
/-- a short text many times -/
theorem op_mulT : OpR X (binaryOp .Mult) (fun x y H Q => ∃ (cs : List Nat) (n : Nat), x = .str (tx cs) ∧ y = .int n ∧ cs.length ≤ 100 ∧ n ≤ 100000 ∧ Q (.str (tx (mulS cs n))) H) := by
  intro pins s σ H x y v u Q I rx ry h
  obtain ⟨cs, n, rfl, rfl, hz, hn, q⟩ := h
  obtain ⟨t, rfl⟩ := rx
  obtain ⟨t2, rfl⟩ := ry
  have hl : cs.length * n ≤ 100 * 100000 := Nat.mul_le_mul hz hn
  refine SB.mul ⟨?_, fun h1 h2 => ?_, fun h1 h2 => ?_⟩ fun t' k => ?_
  · rw [decide_eq_false (by omega), decide_eq_false (by omega)]
    rfl
  · rw [tx_len]
    have h3 : ((cs.length : Nat) : Int) * (n : Int) ≤ 2 ^ 63 - 1 := by
      rw [← Int.natCast_mul]
      omega
    have h4 : ((cs.length : Nat) : Int) ≤ (2 ^ 63 - 1) / (n : Int) := Int.le_ediv_of_mul_le (by omega) h3
    omega
  · rw [tx_len]
    show decide (cs.length * (n : Int).toNat > sizeLine) = false
    rw [sizeLine_eq]
    exact decide_eq_false (by show ¬ cs.length * n > _; omega)
  · rw [mulS_eq]
    exact ⟨.str _, H, I.tok _, ⟨_, rfl⟩, q⟩
end
theorem dpI_all {K : PySem.W.Frag} {H : Hp} : ∀ ns : List Int, DpAll K H (ns.map V.int) (ns.map PyData.int)
  | [] => .nil
  | n :: r => .cons (.int n) (dpI_all r)
theorem lay_ints : ∀ ns : List Int, PyData.canLayAll0 (ns.map PyData.int) = true
  | [] => rfl
  | n :: r => by
    rw [List.map_cons, PyData.canLayAll0, lay_ints r, Bool.and_true, PyData.canLay0]
theorem deep_ints : ∀ ns : List Int, PyData.depthAll (ns.map PyData.int) = 0
  | [] => by simp [PyData.depthAll]
  | n :: r => by
    rw [List.map_cons, PyData.depthAll, deep_ints r, PyData.depth]
    rfl
def oneD (ls : List Int) : PyData := .list [.tuple (ls.map PyData.int)]
theorem lay_one (ls : List Int) : PyData.canLay0 (oneD ls) = true := by
  unfold oneD
  rw [PyData.canLay0, PyData.canLayAll0, PyData.canLay0, lay_ints, PyData.canLayAll0]
  rfl
theorem shape_one (ls : List Int) : SeqAt.shaped (oneD ls) = true := by
  unfold SeqAt.shaped
  rw [lay_one, Bool.true_and]
  refine decide_eq_true ?_
  unfold oneD
  rw [PyData.depth, PyData.depthAll, PyData.depth, deep_ints, PyData.depthAll]
  decide
theorem dp_one {K : PySem.W.Frag} {H : Hp} {l p : Addr} {ls : List Int} (hl : H l = some (.lst [.ref p])) (hp : H p = some (.tup (ls.map V.int))) : Dp K H (.ref l) (oneD ls) := .lst (SqL.of hl) (.cons (.tup (SqT.of hp) (dpI_all ls)) .nil)
theorem neD_one {K : PySem.W.Frag} {H : Hp} {l p l2 p2 : Addr} {ls : List Int} {Q : VK} (hl : H l = some (.lst [.ref p])) (hp : H p = some (.tup (ls.map V.int))) (hl2 : H l2 = some (.lst [.ref p2])) (hp2 : H p2 = some (.tup (ls.map V.int))) (q : Q (.bl false) H) : rNeD K (.ref l) (.ref l2) H Q :=
  ⟨_, _, dp_one hl hp, dp_one hl2 hp2, shape_one ls, shape_one ls, by rw [SeqAt.eqv_refl _ (lay_one ls)]; exact q⟩
theorem neD_int {K : PySem.W.Frag} {H : Hp} {i : Int} {Q : VK} (q : Q (.bl false) H) : rNeD K (.int i) (.int i) H Q :=
  ⟨_, _, .int i, .int i, rfl, rfl, by rw [SeqAt.eqv_refl _ rfl]; exact q⟩
theorem one_of {N : Addr → Prop} {H : Hp} {v : V} {ls : List Int} (h : Dx N H v (.list [.tuple (ls.map PyData.int)])) : ∃ l p, v = .ref l ∧ H l = some (.lst [.ref p]) ∧ H p = some (.tup (ls.map V.int)) := by
  obtain ⟨l, xs, rfl, hl, _, hx⟩ := lst_dx h
  cases hx with
  | cons a b =>
    cases b
    obtain ⟨p, ys, rfl, hp, _, hy⟩ := tpl_dx a
    rw [dx_ints hy] at hp
    exact ⟨l, p, rfl, hl, hp⟩
/-- t + u, written, neither empty -/
theorem lit_catT {K : PySem.W.Frag} {te tu : TE} {ds es : List PyData} (h : LitE te (.tuple ds)) (g : LitE tu (.tuple es)) (hd : ds ≠ []) (he : es ≠ []) (hl : ds.length + es.length ≤ 100000) : LitE (tOp (rCatA K) te tu) (.tuple (ds ++ es)) := fun σ H Q q => h σ H _ fun H1 v s1 hv => g σ H1 _ fun H2 u s2 hu => by
  obtain ⟨a, xs, rfl, ha, na, hx⟩ := tpl_dx hv
  obtain ⟨b, ys, rfl, hb, nb, hy⟩ := tpl_dx hu
  have e1 := hx.length
  have e2 := hy.length
  refine ⟨a, b, xs, ys, rfl, rfl, SqT.of (s2 _ _ ha), SqT.of hb, Nat.le_trans (by omega : _ ≤ 100000) (by decide), fun z => ?_, fun _ z => ?_, fun _ _ p np => ?_⟩
  · rw [z] at e1
    exact absurd (List.eq_nil_of_length_eq_zero e1.symm) hd
  · rw [z] at e2
    exact absurd (List.eq_nil_of_length_eq_zero e2.symm) he
  · have s3 := same_new (o := .tup (xs ++ ys)) np
    refine q _ _ ((s1.trans s2).trans s3) (.tup upd_same (fun z => z ((s1.trans s2).free np)) ?_)
    exact ((hx.same s2).same s3).append ((hy.more fun b _ z => Was.mono s1 z).same s3)
/-- lines of one letter again and again -/
theorem lin_rep (n : Nat) : lin 32 (List.replicate (n + 1) 7) = mulS [55, 32] n ++ [55] := by
  induction n with
  | zero => decide +kernel
  | succ n ih =>
    rw [List.replicate_succ, lin_cons (by simp), ih]
    unfold mulS
    rw [List.replicate_succ, List.flatten_cons]
    have e : numL 7 = [55] := by decide +kernel
    rw [e]
    rfl
theorem lin_snocB {sep n : Nat} : ∀ {r : List Nat}, r ≠ [] → lin sep (r ++ [n]) = lin sep r ++ sep :: numL n
  | [], h => absurd rfl h
  | [m], _ => rfl
  | m :: x :: r, _ => by
    have ih := lin_snocB (sep := sep) (n := n) (r := x :: r) (fun z => by cases z)
    show numL m ++ sep :: lin sep (x :: r ++ [n]) = (numL m ++ sep :: lin sep (x :: r)) ++ sep :: numL n
    rw [ih]
    simp
/-- the three long lines -/
theorem long_a {n : Nat} (h : n = 4095) : prs (mulS [55, 32] n ++ [55]) = .inr (nat2 (List.replicate (n + 1) 7)) := by
  rw [← lin_rep]
  have hp := prs_line (ns := List.replicate (n + 1) 7) (fun m hm => by rw [(List.mem_replicate.mp hm).2]; decide) (by rw [List.length_replicate]; omega)
  have e : lineL (List.replicate (n + 1) 7) = lin 32 (List.replicate (n + 1) 7) := by
    unfold lineL
    rw [if_neg (by rw [List.replicate_succ]; exact fun z => by cases z)]
  rw [e] at hp
  exact hp
theorem long_c {n : Nat} (h : n = 4095) : prs (mulS [55, 32] n ++ [55] ++ [55]) = .inr (nat2 (List.replicate n 7 ++ [77])) := by
  have hr : List.replicate n 7 ≠ [] := fun z => by
    have := congrArg List.length z
    rw [List.length_replicate] at this
    have this : n = 0 := this
    omega
  have e1 : mulS [55, 32] n ++ [55] ++ [55] = lin 32 (List.replicate n 7 ++ [77]) := by
    rw [lin_snocB hr]
    obtain ⟨m, rfl⟩ : ∃ m, n = m + 1 := ⟨n - 1, by omega⟩
    rw [lin_rep]
    have e7 : numL 77 = [55, 55] := by decide +kernel
    rw [e7]
    unfold mulS
    rw [show List.replicate (m + 1) [55, 32] = List.replicate m [55, 32] ++ [[55, 32]] from List.replicate_succ', List.flatten_append]
    simp
  rw [e1]
  have hp := prs_line (ns := List.replicate n 7 ++ [77]) (fun m hm => by
    rcases List.mem_append.mp hm with z | z
    · rw [(List.mem_replicate.mp z).2]
      decide
    · rw [List.mem_singleton.mp z]
      decide) (by rw [List.length_append, List.length_replicate]; show n + 1 ≤ 4096; omega)
  have e : lineL (List.replicate n 7 ++ [77]) = lin 32 (List.replicate n 7 ++ [77]) := by
    unfold lineL
    rw [if_neg (by simp)]
  rw [e] at hp
  exact hp
theorem mul_len (n : Nat) : (mulS [55, 32] n).length = 2 * n := by
  induction n with
  | zero => rfl
  | succ n ih =>
    unfold mulS at ih ⊢
    rw [List.replicate_succ, List.flatten_cons, List.length_append, ih]
    show 2 + 2 * n = 2 * (n + 1)
    omega
theorem long_b {n : Nat} (h : n = 4095) : prs (mulS [55, 32] n ++ [55] ++ [32, 55]) = .inl 8191 := by
  have rl := readL_post (sep := 32) (by decide) (post := [32, 55]) (by decide) (List.replicate (n + 1) 7) [] [] (by rw [List.replicate_succ]; exact fun z => by cases z) (fun m hm => by rw [(List.mem_replicate.mp hm).2]; decide) (by rw [List.length_replicate]; show 0 + (n + 1) ≤ 4096; omega) (fun _ => by rw [List.length_replicate]; show 0 + (n + 1) = 4096; omega)
  rw [lin_rep, List.nil_append, List.nil_append, List.nil_append] at rl
  have hl : (mulS [55, 32] n ++ [55]).length = 8191 := by
    rw [List.length_append, mul_len]
    show 2 * n + 1 = 8191
    omega
  rw [hl] at rl
  have hd : (mulS [55, 32] n ++ [55] ++ [32, 55]).headD 0 = 55 := by
    obtain ⟨m, rfl⟩ : ∃ m, n = m + 1 := ⟨n - 1, by omega⟩
    unfold mulS
    rw [List.replicate_succ, List.flatten_cons]
    rfl
  have hl2 : (mulS [55, 32] n ++ [55] ++ [32, 55]).length = 8193 := by
    rw [List.length_append, hl]
    rfl
  have rl : readL 32 (mulS [55, 32] n ++ [55] ++ [32, 55]) 0 [] = _ := rl
  generalize mulS [55, 32] n ++ [55] ++ [32, 55] = cs at *
  unfold prs
  rw [hd, if_neg (by decide), rl]
  show (if 8191 < cs.length then Sum.inl 8191 else _) = _
  rw [hl2, if_pos (by decide)]
end Mo

/-! ### images of any data, right and wrong -/
namespace Mo
open PySem PySem.Spec PyProof.Rows L2
def areL (ds : List PyData) : Bool := decide (1 ≤ ds.length) && (decide (ds.length ≤ 400) && ds.all (imgD ds.length))
def areD : PyData → Bool
  | .list ds => areL ds
  | .tuple ds => areL ds
  | _ => false
theorem areD_no {d : PyData} (h1 : isListD d = false) (h2 : isTupD d = false) : areD d = false := by
  cases d <;> first | rfl | exact absurd (show true = false from h1) (by decide) | exact absurd (show true = false from h2) (by decide)
/-- the data of images -/
def imD (ims : List (List Nat)) : List PyData := ims.map fun im => .tuple ((nat2 im).map PyData.int)
theorem imD_len (ims : List (List Nat)) : (imD ims).length = ims.length := List.length_map ..
theorem imgW_ok {n : Nat} {im : List Nat} (h0 : im ≠ []) (h1 : im.length ≤ 64) (h2 : ∀ x ∈ im, x < n) : imgW n im = true := by
  have := List.length_pos_iff.mpr h0
  unfold imgW
  rw [decide_eq_true (show 1 ≤ im.length by omega), decide_eq_true h1, Bool.true_and, Bool.true_and]
  exact List.all_eq_true.mpr fun z hz => decide_eq_true (h2 z hz)
theorem img_okn {ims : List (List Nat)} (ok : Ims ims) {im : List Nat} (h : im ∈ ims) : Okn im :=
  ⟨fun z hz => by have := ok.lt _ h z hz; have := ok.n2; omega, by have := ok.few _ h; omega⟩
theorem are_right {ims : List (List Nat)} (ok : Ims ims) : areL (imD ims) = true := by
  unfold areL
  rw [imD_len, decide_eq_true ok.n1, decide_eq_true ok.n2, Bool.true_and, Bool.true_and]
  refine List.all_eq_true.mpr fun d hd => ?_
  obtain ⟨im, him, rfl⟩ := List.mem_map.mp hd
  rw [imgD_text (img_okn ok him)]
  exact imgW_ok (ok.ne _ him) (ok.few _ him) (ok.lt _ him)
theorem are_wrong {ds : List PyData} {d : PyData} (hd : d ∈ ds) (h : imgD ds.length d = false) : areL ds = false := by
  unfold areL
  rw [show ds.all (imgD ds.length) = false from List.all_eq_false.mpr ⟨d, hd, by rw [h]; exact Bool.false_ne_true⟩, Bool.and_false, Bool.and_false]
theorem are_long {ds : List PyData} (h : 400 < ds.length) : areL ds = false := by
  unfold areL
  rw [decide_eq_false (show ¬ ds.length ≤ 400 by omega), Bool.false_and, Bool.and_false]
/-- where images stand, as data -/
theorem ims_dx {N : Addr → Prop} {H : Hp} : ∀ {ps : List Addr} {ims : List (List Nat)}, ImsAt H ps ims → (∀ p xs, H p = some (.tup xs) → ¬ N p) → DxAll N H (ps.map V.ref) (imD ims)
  | [], [], _, _ => .nil
  | [], _ :: _, h, _ => absurd h.len (by simp)
  | _ :: _, [], h, _ => absurd h.len (by simp)
  | p :: ps, im :: ims, h, hN => by
    have h0 := h.el 0 p im rfl rfl
    have hr : ImsAt H ps ims := ⟨by have := h.len; simpa using this, fun k q jm a b => h.el (k + 1) q jm a b⟩
    exact .cons (.tup h0 (hN p _ h0) (ints_dx (nat2 im))) (ims_dx hr hN)
theorem ims_dp {K : PySem.W.Frag} {H : Hp} : ∀ {ps : List Addr} {ims : List (List Nat)}, ImsAt H ps ims → DpAll K H (ps.map V.ref) (imD ims)
  | [], [], _ => .nil
  | [], _ :: _, h => absurd h.len (by simp)
  | _ :: _, [], h => absurd h.len (by simp)
  | p :: ps, im :: ims, h => by
    have h0 := h.el 0 p im rfl rfl
    have hr : ImsAt H ps ims := ⟨by have := h.len; simpa using this, fun k q jm a b => h.el (k + 1) q jm a b⟩
    exact .cons (.tup (SqT.of h0) (intsDp (nat2 im))) (ims_dp hr)
theorem ims_lay : ∀ ims : List (List Nat), PyData.canLayAll0 (imD ims) = true
  | [] => rfl
  | im :: ims => by
    show PyData.canLayAll0 (.tuple ((nat2 im).map PyData.int) :: imD ims) = true
    rw [PyData.canLayAll0, PyData.canLay0, lay_ints, ims_lay ims]
    rfl
theorem ims_deep : ∀ ims : List (List Nat), PyData.depthAll (imD ims) ≤ 1
  | [] => by simp [imD, PyData.depthAll]
  | im :: ims => by
    show PyData.depthAll (.tuple ((nat2 im).map PyData.int) :: imD ims) ≤ 1
    have ih := ims_deep ims
    rw [PyData.depthAll, PyData.depth, deep_ints]
    omega
theorem ims_shT (ims : List (List Nat)) : SeqAt.shaped (.tuple (imD ims)) = true := by
  have := ims_deep ims
  unfold SeqAt.shaped
  rw [PyData.canLay0, ims_lay, Bool.true_and, PyData.depth]
  exact decide_eq_true (by omega)
theorem ims_shL (ims : List (List Nat)) : SeqAt.shaped (.list (imD ims)) = true := by
  have := ims_deep ims
  unfold SeqAt.shaped
  rw [PyData.canLay0, ims_lay, Bool.true_and, PyData.depth]
  exact decide_eq_true (by omega)
theorem ims_selfT (ims : List (List Nat)) : PyData.eqv (.tuple (imD ims)) (.tuple (imD ims)) = true := SeqAt.eqv_refl _ (by rw [PyData.canLay0]; exact ims_lay ims)
theorem ims_LT (ims jms : List (List Nat)) : PyData.eqv (.tuple (imD ims)) (.tuple (imD jms)) = PyData.eqv (.list (imD ims)) (.list (imD jms)) := by
  simp only [PyData.eqv]
/-- images are small data -/
structure Sml (ims : List (List Nat)) : Prop where
  fit : FitAll 40 20000 2 (imD ims)
  len : ims.length ≤ 400
end Mo

namespace Mo
open PySem PySem.Spec PyProof.Rows L2
theorem fdivN (a b : Nat) : ((a : Nat) : Int).fdiv b = ((a / b : Nat) : Int) := by
  rw [Int.fdiv_eq_ediv_of_nonneg _ (by omega)]
  exact (Int.natCast_ediv a b).symm
theorem fmodN (a b : Nat) : ((a : Nat) : Int).fmod b = ((a % b : Nat) : Int) := by
  rw [Int.fmod_eq_emod_of_nonneg _ (by omega)]
  exact (Int.natCast_emod a b).symm
theorem e18 : (10 : Int) ^ Int.toNat 18 = ((1000000000000000000 : Nat) : Int) := by decide
theorem ims_selfL (ims : List (List Nat)) : PyData.eqv (.list (imD ims)) (.list (imD ims)) = true := SeqAt.eqv_refl _ (by rw [PyData.canLay0]; exact ims_lay ims)
section
variable {P : Program} {w : World} {K : PySem.W.Frag} {mg : Str → Option Value} {base : Heap}
def lamQ : Str := (envOfC "law" (defScope sLaw) 0 0 .none).qual ++ "<lambda>"
def spLaw (K : PySem.W.Frag) (pd : Addr) : Sp := fun vs H Q _ => ∃ (a : Addr) (ns : List Int), vs = [.ref a] ∧ SqL K H a (ns.map V.int) ∧ ns.length ≤ 63 ∧ H pd = some (.tbl #[]) ∧ ∀ H', Q (.bl true) H'
theorem ok_law {k : Nat} (T : Txt K mg) (TB : LamX.TabB base mg T.cdLaw T.pdLaw) (hbm : ∃ mm, base.Ns sysModules mm) : FnG P w K mg base CX0 (k + 36) T.aLaw T.dLaw ["_law_script"] (spLaw K T.pdLaw) := by
  have GLPen : FnOk P w K mg base CX0 (k + 35) T.aLPen T.dLPen ["_law_script"] (spPen K) := ok_pen T
  have GLDraw : FnOk P w K mg base CX0 (k + 35) T.aLDraw T.dLDraw ["_law_pen_here", "_law_many"] spNDraw := ok_draw T
  have GLPick : FnOk P w K mg base CX0 (k + 35) T.aLPick T.dLPick ["_law_pen_here", "_law_choices"] (spNPick K) := ok_pick T
  have GLFar : FnOk P w K mg base CX0 (k + 35) T.aLFar T.dLFar ["_law_pen_here", "_law_pieces"] spFar3 := ok_far3 T
  have GLOdd : FnOk P w K mg base CX0 (k + 35) T.aLOdd T.dLOdd ["_law_pen_here"] spOdd := ok_odd T
  have GModulus : FnOk P w K mg base CX0 (k + 35) T.aModulus T.dModulus ["count"] spMod := ok_mod T
  have GLetterBlock : FnOk P w K mg base CX0 (k + 35) T.aLetterBlock T.dLetterBlock ["count", "letter"] spBlock := ok_block T
  have GAvoidingLetter : FnOk P w K mg base CX0 (k + 35) T.aAvoidingLetter T.dAvoidingLetter ["count", "index"] spAL := ok_al T
  have GAvoidingText : FnOk P w K mg base CX0 (k + 35) T.aAvoidingText T.dAvoidingText ["count", "length", "start"] spAT := ok_at T
  have GAvoidingRules : FnOk P w K mg base CX0 (k + 35) T.aAvoidingRules T.dAvoidingRules ["count"] (spAvr T.cRules) := ok_avr T
  have GRulesImages : FnOk P w K mg base CX0 (k + 35) T.aRulesImages T.dRulesImages ["self"] (spRImgs T.cRules) := ok_rImgs T
  have GRulesApply : FnOk P w K mg base CX0 (k + 35) T.aRulesApply T.dRulesApply ["self", "text"] (spRApp T.cRules) := ok_rApp T
  have GRulesLength : FnOk P w K mg base CX0 (k + 35) T.aRulesLength T.dRulesLength ["self", "letter", "steps"] (spRLen T.cRules) := ok_rLen T
  have GRulesLetterAt : FnOk P w K mg base CX0 (k + 35) T.aRulesLetterAt T.dRulesLetterAt ["self", "letter", "steps", "index"] (spRAt T.cRules) := ok_rAt T
  have GRulesIsGrowing : FnOk P w K mg base CX0 (k + 35) T.aRulesIsGrowing T.dRulesIsGrowing ["self", "letter"] (spRGrw T.cRules) := ok_rGrw T
  have GAvoidingRulesX : FnOk P w K mg base (L2.CX P w) (k + 33) T.aAvoidingRules T.dAvoidingRules ["count"] (spModX T.cInvalidCount) := ok_avrX T
  refine okT T.fLaw T.kdLaw scLaw (fun vs H Q E h => ?_) (fun A outer s H vs Q E hr hgd h => ?_)
  · obtain ⟨a, ns, rfl, _⟩ := h
    rfl
  · obtain ⟨a, ns, rfl, hs, hn, htb, q⟩ := h
    refine ⟨_, (pss_cons (ps_set (i := 1) scLaw.nd rfl (Or.inl rfl) (pe_call GLPen hr (by rfl) T.gLPen T.fLPen.kp T.bLPen .nil pass0 (pa_cons (pv 0) pa_nil)))
      (pss_cons (ps_for PassesOwn.never rfl (pi_range1 (by rfl) T.m_range (pa_cons (pe_op op_add pe_int (pe_callB (call_min2 rfl) (by rfl) T.m_min (by decide +kernel) (pa_cons pe_int (pa_cons (pe_callB call_len_seq (by rfl) T.m_len PySem.boot_len (pa_cons (pv 0) pa_nil)) pa_nil)))) pa_nil)) (pg_name (i := 2) scLaw.nd rfl (Or.inl rfl)) (pss_cons (ps_set (i := 3) scLaw.nd rfl (Or.inr rfl) (pe_op op_add pe_int (pe_call GLDraw hr (by rfl) T.gLDraw T.fLDraw.kp T.bLDraw .nil pass0 (pa_cons (pv 1) (pa_cons pe_int pa_nil)))))
      (pss_cons (ps_par (i := 7) (j := 8) (by rfl) scLaw.nd rfl rfl (by decide) rfl rfl (pa_cons (pe_call GAvoidingRules hr (by rfl) T.gAvoidingRules T.fAvoidingRules.kp T.bAvoidingRules .nil pass0 (pa_cons (pv 3) pa_nil)) (pa_cons (pe_call GModulus hr (by rfl) T.gModulus T.fModulus.kp T.bModulus .nil pass0 (pa_cons (pv 3) pa_nil)) pa_nil)) (by rfl))
      (pss_cons (ps_if (PW.pt (pw_or (pt_cmpR (op_neD hr.units) (pe_meth0 (pv 7) T.clRules T.mRulesImages GRulesImages hr T.bRulesImages .nil pass0) (pe_lc (own := [("_law_letter", 13)]) (g := gName 13) (tt := tYes) rfl scLaw.nd (pi_range1 (by rfl) T.m_range (pa_cons (pe_op op_mul (pv 8) (pv 8)) pa_nil)) (blkOk_by (N := ["_law_script", "_law_pen_here", "_law_turn", "_law_count", "_law_k", "_law_index", "_law_wrong", "_law_rules", "_law_q", "_law_begin", "_law_size", "_law_steps", "_law_power", "_law_letter"]) (sc := defScope sLaw) (by decide +kernel)) (fun _ _ _ _ _ => pg_name (i := 13) scLaw.nd rfl (Or.inl rfl)) (fun _ _ _ _ _ => pts_nil) (fun _ _ _ _ _ => (pe_call GLetterBlock hr (by rfl) T.gLetterBlock T.fLetterBlock.kp T.bLetterBlock .nil pass0 (pa_cons (pv 3) (pa_cons (pv 13) pa_nil))))) (nomark _)) (pw_or1 (pt_not (pt_val (pe_callB call_isi (by rfl) T.m_isinstance (by decide +kernel) (pa_cons (pv 7) (pa_cons (pe_glob (v := .ref T.cRules) rfl T.eRules rfl) pa_nil)))))))) (pss_one (ps_ret pe_bl)) pss_nil)
      (pss_cons (ps_par (i := 9) (j := 10) (by rfl) scLaw.nd rfl rfl (by decide) rfl rfl (pa_cons (pe_op op_modN (pe_call GLFar hr (by rfl) T.gLFar T.fLFar.kp T.bLFar .nil pass0 (pa_cons (pv 1) (pa_cons pe_int pa_nil))) (pe_op op_fdivN (pe_op op_pow pe_int pe_int) (pv 8))) (pa_cons (pe_call GLDraw hr (by rfl) T.gLDraw T.fLDraw.kp T.bLDraw .nil pass0 (pa_cons (pv 1) (pa_cons pe_int pa_nil))) pa_nil)) (by rfl))
      (pss_cons (ps_if (pt_cmpR (Mo.op_neFl hr.units) (pe_meth (pv 7) T.clRules T.mRulesApply GRulesApply hr T.bRulesApply .nil pass0 (pa_cons (pe_callN GAvoidingText hr (by rfl) T.gAvoidingText T.fAvoidingText.kp T.bAvoidingText pass0 (pa_cons (pv 3) (pa_cons (pv 10) pa_nil)) (pk_cons (pv 9) pk_nil)) pa_nil)) (pe_callN GAvoidingText hr (by rfl) T.gAvoidingText T.fAvoidingText.kp T.bAvoidingText pass0 (pa_cons (pv 3) (pa_cons (pe_op op_mul (pv 8) (pv 10)) pa_nil)) (pk_cons (pe_op op_mul (pv 8) (pv 9)) pk_nil)) (nomark _)) (pss_one (ps_ret pe_bl)) pss_nil)
      (pss_cons (ps_if (PW.pt (pw_or (pt_cmpR Mo.op_notB (pe_meth (pv 7) T.clRules T.mRulesIsGrowing GRulesIsGrowing hr T.bRulesIsGrowing .nil pass0 (pa_cons pe_int pa_nil)) pe_bl (nomark _)) (pw_or1 (pt_cmpR Mo.op_notB (pe_meth (pv 7) T.clRules T.mRulesIsGrowing GRulesIsGrowing hr T.bRulesIsGrowing .nil pass0 (pa_cons (pe_op op_add pe_int (pe_call GLDraw hr (by rfl) T.gLDraw T.fLDraw.kp T.bLDraw .nil pass0 (pa_cons (pv 1) (pa_cons (pe_op op_sub (pe_op op_mul (pv 8) (pv 8)) pe_int) pa_nil)))) pa_nil)) pe_bl (nomark _))))) (pss_one (ps_ret pe_bl)) pss_nil)
      (pss_cons (ps_par (i := 11) (j := 12) (by rfl) scLaw.nd rfl rfl (by decide) rfl rfl (pa_cons (pe_call GLDraw hr (by rfl) T.gLDraw T.fLDraw.kp T.bLDraw .nil pass0 (pa_cons (pv 1) (pa_cons pe_int pa_nil))) (pa_cons pe_int pa_nil)) (by rfl))
      (pss_cons (ps_for PassesOwn.never rfl (pi_range1 (by rfl) T.m_range (pa_cons (pv 11) pa_nil)) (pg_name (i := 4) scLaw.nd rfl (Or.inl rfl)) (pss_one (ps_set (i := 12) scLaw.nd rfl (Or.inl rfl) (pe_op op_mul (pv 12) (pv 8)))))
      (pss_cons (ps_if (pt_cmpR op_ne (pe_meth (pv 7) T.clRules T.mRulesLength GRulesLength hr T.bRulesLength .nil pass0 (pa_cons (pe_call GLDraw hr (by rfl) T.gLDraw T.fLDraw.kp T.bLDraw .nil pass0 (pa_cons (pv 1) (pa_cons (pe_op op_mul (pv 8) (pv 8)) pa_nil))) (pa_cons (pv 11) pa_nil))) (pv 12) (nomark _)) (pss_one (ps_ret pe_bl)) pss_nil)
      (pss_cons (ps_for PassesOwn.never rfl (pi_list (pe_lst (pa_cons pe_int (pa_cons (pe_callB (call_min2 rfl) (by rfl) T.m_min (by decide +kernel) (pa_cons (pe_op op_sub (pv 12) pe_int) (pa_cons (pe_op op_pow pe_int pe_int) pa_nil))) (pa_cons (pe_op op_modN (pe_call GLFar hr (by rfl) T.gLFar T.fLFar.kp T.bLFar .nil pass0 (pa_cons (pv 1) (pa_cons pe_int pa_nil))) (pe_callB (call_min2 rfl) (by rfl) T.m_min (by decide +kernel) (pa_cons (pv 12) (pa_cons (pe_op op_pow pe_int pe_int) pa_nil)))) pa_nil))))) (pg_name (i := 5) scLaw.nd rfl (Or.inl rfl)) (pss_one (ps_if (pt_cmpR op_ne (pe_meth (pv 7) T.clRules T.mRulesLetterAt GRulesLetterAt hr T.bRulesLetterAt .nil pass0 (pa_cons pe_int (pa_cons (pv 11) (pa_cons (pv 5) pa_nil)))) (pe_call GAvoidingLetter hr (by rfl) T.gAvoidingLetter T.fAvoidingLetter.kp T.bAvoidingLetter .nil pass0 (pa_cons (pv 3) (pa_cons (pv 5) pa_nil))) (nomark _)) (pss_one (ps_ret pe_bl)) pss_nil)))
      (pss_cons (ps_set (i := 6) scLaw.nd rfl (Or.inr rfl) (pe_call GLPick hr (by rfl) T.gLPick T.fLPick.kp T.bLPick .nil pass0 (pa_cons (pv 1) (pa_cons (pe_lst (pa_cons pe_int (pa_cons pe_int (pa_cons (pe_op op_pow pe_int pe_int) (pa_cons (pe_call GLOdd hr (by rfl) T.gLOdd T.fLOdd.kp T.bLOdd .nil pass0 (pa_cons (pv 1) pa_nil)) pa_nil))))) pa_nil))))
      (pss_one (ps_if (pt_cmpR (Mo.op_neFl hr.units) (Mo.pe_lam (T := [(T.pdLaw, _)]) T.fLTold T.bLTold scLTold (by rfl) T.gLTold rfl (Or.inl rfl) (givesLTold T hbm hgd) TB rfl (List.mem_singleton.mpr rfl) (fun p hp _ => by rw [List.mem_singleton.mp hp]) hr (LamX.lamS_by (sc := defScope sLaw) (by decide +kernel)) rfl (fun _ _ _ _ _ => rfl) (fun A outer s' H' E fn cc hr hgu => (pe_call GAvoidingRulesX hr (by rfl) T.gAvoidingRules T.fAvoidingRules.kp T.bAvoidingRules .nil (passes_call (takes_of rfl rfl rfl rfl) (fun _ _ _ _ h => h)) (pa_cons (pv 6) pa_nil)))) (pe_tup (pa_cons pe_str (pa_cons (pe_callB (Mo.cr_reprX hbm hgd hr.units) (by rfl) T.m_repr (by decide +kernel) (pa_cons (pv 6) pa_nil)) (pa_cons pe_bl pa_nil)))) (nomark _)) (pss_one (ps_ret pe_bl)) pss_nil))))))))))))))
      (pss_one (ps_ret pe_bl)))), ?_⟩
    refine ⟨_, rfl, a, ns, rfl, hs, hn, fun H0 d c s0 nd nxt0 => ?_⟩
    refine ⟨_, rfl, a, _, rfl, .inl (s0.seq hs), 3, _, rfl, 2, _, rfl, rfl, _, rfl, ?_, ?_, for_range (lo := 0) (fun i σ H' => ∃ (t : Nat) (o2 o3 o4 o5 o6 o7 o8 o9 o10 o11 o12 : Option V), σ = [some (.ref a), some (.ref d), o2, o3, o4, o5, o6, o7, o8, o9, o10, o11, o12, none] ∧ Nxt H' d c t ∧ LamX.Tabs [(T.pdLaw, lamQ)] H' ∧ t ≤ 100 * i) ?_ ?_ ?_⟩
    · split <;> omega
    · split <;> omega
    · exact ⟨0, _, _, _, _, _, _, _, _, _, _, _, rfl, nxt0, tabs_nil (s0 _ _ htb), Nat.le_refl _⟩
    · rintro i σ H1 hi ⟨t, o2, o3, o4, o5, o6, o7, o8, o9, o10, o11, o12, rfl, nxt1, tb1, ht⟩
      have hi2 : i < 13 := by
        revert hi
        split <;> omega
      clear hi
      -- the count
      refine ⟨_, rfl, d, c, 8, t, rfl, nxt1, by decide, by decide, by omega, fun H2 y t2 but2 nxt2 ht2 y0 y1 => ?_⟩
      obtain ⟨n, hn1⟩ : ∃ n : Nat, (1 : Int) + y = (n : Int) := ⟨(1 + y).toNat, by omega⟩
      have n1 : 1 ≤ n := by omega
      have n8 : n ≤ 8 := by omega
      obtain ⟨q1, q2, _⟩ := qOf_in n n1 n8
      obtain ⟨qq, hqq⟩ : ∃ qq, qq = qOf n := ⟨_, rfl⟩
      rw [← hqq] at q1 q2
      have h4 : 4 ≤ qq := by omega
      have ok : Ims (bims qq) := bims_ok h4 q2
      have mq : qq * qq ≤ 19 * 19 := Nat.mul_le_mul q2 q2
      have mq4 : 4 * 4 ≤ qq * qq := Nat.mul_le_mul h4 h4
      obtain ⟨kv1, hkv1⟩ := nxt1.dict
      have tb2 := Tabs.but tb1 hkv1 but2
      refine ⟨1, _, rfl, rfl, ?_⟩
      -- the rule set
      refine ⟨_, rfl, n, congrArg (fun z => [V.int z]) hn1, n1, n8, fun H3 r s3 ra3 => ?_⟩
      refine ⟨_, rfl, n, congrArg (fun z => [V.int z]) hn1, n1, n8, fun H4 s4 => ⟨_, _, rfl, ?_⟩⟩
      rw [← hqq] at ra3 ⊢
      have ra4 := ra3.same s4
      have s24 := s3.trans s4
      have nxt4 := nxt2.same s24
      have tb4 := Tabs.same tb2 s24
      clear ra3 s3 s4 s24 nxt2 tb2 but2 hkv1 nxt1 tb1 htb hs q
      obtain ⟨dx0, tt, pp, hx4, ht4', tab4⟩ := id ra4
      have hm : ((qq : Nat) : Int) * ((qq : Nat) : Int) = ((qq * qq : Nat) : Int) := (Int.natCast_mul ..).symm
      refine ⟨_, rfl, r, dx0, _, rfl, hx4, no_meth (by decide), r, dx0, tt, _, rfl, hx4, ht4', fun I nI => ?_⟩
      have s5 := same_new (o := .lst (pp.map V.ref)) nI
      have hI : upd H4 I (.lst (pp.map V.ref)) I = some (.lst (pp.map V.ref)) := upd_same
      generalize upd H4 I (.lst (pp.map V.ref)) = H5 at *
      refine ⟨_, rfl, _, rfl, qq, qq, rfl, rfl, .inl ⟨by omega, by omega⟩, _, rfl, by omega, by omega, fun D nD => lc_range (lo := 0) (n := (((qq : Nat) : Int) * ((qq : Nat) : Int)).toNat) (fun i H' => ∃ ps : List Addr, Same H5 H' ∧ H' D = some (.lst (ps.map V.ref)) ∧ BlkAt qq H' ps i) ?_ ?_ ?_⟩
      · exact ⟨[], same_new nD, upd_same, rfl, fun k' p e => by cases e⟩
      · rintro j H6 hj ⟨ps, s6, hD, hb⟩
        have hj2 : j < qq * qq := by
          rw [hm] at hj
          exact hj
        refine ⟨rfl, _, rfl, _, rfl, n, j, ?_, n1, n8, by rw [← hqq]; exact hj2, fun H7 p s7 np hp => ?_⟩
        · show [V.int (1 + y), V.int (0 + (j : Int))] = _
          rw [hn1, Int.zero_add]
        rw [← hqq] at hp
        have hD7 := s7 _ _ hD
        refine ⟨_, hD7, fitsLt (by rw [List.length_map, hb.len]; omega), ps ++ [p], Same.put (s6.trans s7) nD, by rw [upd_same, List.map_append]; rfl, (hb.same s7).add (fun b xs e => ?_) ?_⟩
        · rw [upd_ne (ne_of e hD7 (fun z => nomatch z))]
          exact e
        · rw [upd_ne (ne_of hp hD7 (fun z => nomatch z))]
          exact hp
      rintro H6 ⟨ps, s6, hD, hb⟩
      rw [hm] at hb
      have tab6 : ImsAt H6 ps (bims qq) := BlkAt.ims hb
      refine ⟨_, _, .lst (SqL.of (s6 _ _ hI)) (ims_dp (tab4.same (s5.trans s6))), .lst (SqL.of hD) (ims_dp tab6), ims_shL _, ims_shL _, ?_⟩
      rw [ims_selfL]
      have s46 := s5.trans s6
      have ra6 := ra4.same s46
      have hx6 := s46 _ _ hx4
      have nxt6 := nxt4.same s46
      have tb6 := Tabs.same tb4 s46
      clear ra4 hx4 ht4' tab4 nxt4 tb4 s46 s5 s6 hI hD hb tab6 nI nD
      -- it is a rule set
      have kit : PySem.W.kitOne K (.ref T.cRules) (.ref T.cRules) = some true := by
        show (if (Value.ref T.cRules == Value.ref T.cRules) = true then some true else _) = some true
        rw [if_pos (beq_self_eq_true _)]
      refine ⟨false, rfl, iteF ⟨_, rfl, _, _, .ref T.cRules, .ref T.cRules, true, rfl, .own _, .base (.ins hx6 T.clRules T.qaRules T.qgRules T.qkRules T.qmRules), kit, true, rfl, ?_⟩⟩
      refine iteF ?_
      -- where the block begins, its size
      refine ⟨_, rfl, d, c, t2, rfl, nxt6, by omega, fun H7 bg t7 but7 nxt7 ht7 m18 => ?_⟩
      refine ⟨10, 18, rfl, rfl, ⟨by decide, by decide, by decide⟩, _, rfl, _, qq, rfl, rfl, ⟨by omega, by omega⟩, _, _, rfl, rfl, ?_, ?_⟩
      · show (10 ^ Int.toNat 18 : Int).fdiv qq ≠ 0
        rw [e18, fdivN]
        have : 1000000000000000000 / 19 ≤ 1000000000000000000 / qq := Nat.div_le_div_left q2 (by omega)
        omega
      have lim : 0 < 1000000000000000000 / qq := by
        have : 1000000000000000000 / 19 ≤ 1000000000000000000 / qq := Nat.div_le_div_left q2 (by omega)
        omega
      obtain ⟨bb, hbb⟩ : ∃ bb, bb = bg % (1000000000000000000 / qq) := ⟨_, rfl⟩
      have hb1 : bb < 1000000000000000000 / qq := by
        rw [hbb]
        exact Nat.mod_lt _ lim
      have hb2 : qq * bb ≤ 1000000000000000000 := Nat.le_trans (Nat.mul_le_mul_left qq (Nat.le_of_lt hb1)) (Nat.mul_div_le _ _)
      have hb3 : bb ≤ 1000000000000000000 := Nat.le_trans (Nat.le_mul_of_pos_left bb (by omega)) hb2
      have hbv : (bg : Int).fmod ((10 ^ Int.toNat 18 : Int).fdiv qq) = (bb : Int) := by
        rw [e18, fdivN, fmodN, hbb]
      obtain ⟨kv6, hkv6⟩ := nxt6.dict
      have tb7 := Tabs.but tb6 hkv6 but7
      have ra7 := ra6.kp hkv6 (.but but7)
      refine ⟨_, rfl, d, c, 61, t7, rfl, nxt7, by decide, by decide, by omega, fun H8 sz t8 but8 nxt8 ht8 z0 z1 => ⟨_, _, rfl, ?_⟩⟩
      obtain ⟨sz, rfl⟩ := nat_of z0
      have hsz : sz ≤ 60 := by omega
      obtain ⟨kv7, hkv7⟩ := nxt7.dict
      have tb8 := Tabs.but tb7 hkv7 but8
      have ra8 := ra7.kp hkv7 (.but but8)
      clear ra6 ra7 tb6 tb7 hkv6 hkv7 but7 but8 nxt6 nxt7 hx6 z0 z1 kit
      obtain ⟨dx0, tt, pp, hx8, _, _⟩ := id ra8
      -- replacing the block
      have hqs : qq * sz ≤ 19 * 60 := Nat.mul_le_mul q2 hsz
      refine ⟨_, rfl, r, dx0, _, rfl, hx8, no_meth (by decide), _, rfl, _, rfl, _, rfl, rfl, rfl, n, sz, bb, ?_, n1, n8, by omega, hb3, fun H9 p9 s9 hp9 => ?_⟩
      · show [V.int (1 + y), V.int sz, V.int ((bg : Int).fmod ((10 ^ Int.toNat 18 : Int).fdiv qq))] = _
        rw [hn1, hbv]
      rw [← hqq, ← avn_avs] at hp9
      have fl := avn_flat (q := qq) (by omega) bb sz
      refine ⟨r, p9, bims qq, avn qq bb sz, rfl, ra8.same s9, ok, hp9, by rw [avn_len]; omega, fun z hz => by rw [bims_len]; exact avn_lt (by omega) z hz, by rw [fl, avn_len]; omega, fun H10 p10 s10 hp10 => ?_⟩
      rw [fl] at hp10
      refine ⟨_, rfl, _, rfl, _, rfl, qq, sz, rfl, rfl, .inl ⟨by omega, by omega⟩, _, rfl, _, rfl, qq, _, rfl, rfl, .inl ⟨by omega, by omega⟩, rfl, rfl, n, qq * sz, qq * bb, ?_, n1, n8, by omega, hb2, fun H11 p11 s11 hp11 => ?_⟩
      · show [V.int (1 + y), V.int ((qq : Int) * sz), V.int ((qq : Int) * (bg : Int).fmod ((10 ^ Int.toNat 18 : Int).fdiv qq))] = _
        rw [hn1, hbv, ← Int.natCast_mul, ← Int.natCast_mul]
      rw [← hqq, ← avn_avs] at hp11
      refine neFl_self (s11 _ _ hp10) hp11 (n2v_flat _) ⟨false, rfl, iteF ?_⟩
      have s811 := (s9.trans s10).trans s11
      have ra11 := ra8.same s811
      have hx11 := s811 _ _ hx8
      have nxt11 := nxt8.same s811
      have tb11 := Tabs.same tb8 s811
      clear s9 s10 s11 s811 ra8 hx8 nxt8 tb8 hp9 hp10 hp11 fl
      -- growing
      have h0 : 0 < (bims qq).length := by rw [bims_len]; omega
      refine ⟨_, rfl, r, dx0, _, rfl, hx11, no_meth (by decide), r, bims qq, 0, rfl, ra11, ok, h0, fun H12 s12 => ⟨growB (bims qq) 0, true, rfl, rfl, ?_⟩⟩
      rw [bims_grow0 h4]
      refine ⟨false, rfl, iteF ?_⟩
      have nxt12 := nxt11.same s12
      obtain ⟨kv12, hkv12⟩ := nxt12.dict
      have hx12 := s12 _ _ hx11
      refine ⟨_, rfl, r, dx0, _, rfl, hx12, no_meth (by decide), _, rfl, _, rfl, _, rfl, qq, qq, rfl, rfl, .inl ⟨by omega, by omega⟩, _, 1, rfl, rfl, d, c, _, t8, rfl, nxt12, ?_, ?_, by omega, fun H13 g t13 but13 nxt13 ht13 g0 g1 => ?_⟩
      · show (0 : Int) < (qq : Int) * qq - 1
        rw [hm]
        omega
      · show (qq : Int) * qq - 1 < _
        rw [hm]
        omega
      have g1 : g < (qq : Int) * qq - 1 := g1
      rw [hm] at g1
      obtain ⟨g, rfl⟩ := nat_of g0
      have ra13 := (ra11.same s12).kp hkv12 (.but but13)
      refine ⟨1, _, rfl, rfl, r, bims qq, 1 + g, congrArg (fun z => [V.ref r, V.int z]) (Int.natCast_add 1 g).symm, ra13, ok, by rw [bims_len]; omega, fun H14 s14 => ⟨growB (bims qq) (1 + g), false, rfl, rfl, ?_⟩⟩
      rw [bims_grow h4 (by omega) (by omega)]
      refine ⟨false, rfl, iteF ?_⟩
      have ra14 := ra13.same s14
      have nxt14 := nxt13.same s14
      have tb14 := Tabs.same (Tabs.but (Tabs.same tb11 s12) hkv12 but13) s14
      clear s12 s14 but13 hkv12 nxt11 nxt12 nxt13 ra11 ra13 hx11 hx12 g0 g1 tb11
      -- the replacements
      obtain ⟨kv14, hkv14⟩ := nxt14.dict
      refine ⟨_, rfl, d, c, 15, t13, rfl, nxt14, by decide, by decide, by omega, fun H15 st t15 but15 nxt15 ht15 z0 z1 => ⟨_, _, rfl, ?_⟩⟩
      obtain ⟨st, rfl⟩ := nat_of z0
      have hst : st ≤ 14 := by omega
      have ra15 := ra14.kp hkv14 (.but but15)
      have tb15 := Tabs.but tb14 hkv14 but15
      clear ra14 nxt14 tb14 but15 hkv14 z0 z1
      refine ⟨_, rfl, (st : Nat), rfl, by omega, by omega, for_range (lo := 0) (fun j σ H' => ∃ o4' : Option V, σ = [some (.ref a), some (.ref d), some (.int (0 + (i : Int))), some (.int (1 + y)), o4', o5, o6, some (.ref r), some (.int (qq : Nat)), some (.int ((bg : Int).fmod ((10 ^ Int.toNat 18 : Int).fdiv (qq : Int)))), some (.int (sz : Nat)), some (.int (st : Nat)), some (.int ((qq ^ j : Nat) : Int)), none] ∧ H' = H15) ?_ ?_ ?_⟩
      · exact ⟨_, rfl, rfl⟩
      · rintro j σ H' hj ⟨o4', rfl, rfl⟩
        refine ⟨_, rfl, _, rfl, _, qq, rfl, rfl, .inr ⟨by omega, by omega⟩, some (.int (0 + (j : Int))), ?_, rfl⟩
        rw [Nat.pow_succ, Int.natCast_mul]
        rfl
      rintro σ H' ⟨o4', rfl, rfl⟩
      rw [show ((st : Nat) : Int).toNat = st from rfl]
      obtain ⟨pw, hpw⟩ : ∃ pw, pw = qq ^ st := ⟨_, rfl⟩
      rw [← hpw]
      have pw1 : 1 ≤ pw := by
        rw [hpw]
        have := Nat.pow_le_pow_left (show 1 ≤ qq by omega) st
        rw [Nat.one_pow] at this
        exact this
      have pw2 : pw < 1000000000000000000 := by
        have a1 : qq ^ st ≤ 19 ^ st := Nat.pow_le_pow_left q2 st
        have a2 : 19 ^ st ≤ 19 ^ 14 := Nat.pow_le_pow_right (by decide) hst
        have a3 : 19 ^ 14 < 1000000000000000000 := by decide
        omega
      -- the length
      obtain ⟨dx1, tt1, pp1, hx15, _, _⟩ := id ra15
      obtain ⟨kv15, hkv15⟩ := nxt15.dict
      refine ⟨_, rfl, r, dx1, _, rfl, hx15, no_meth (by decide), _, rfl, _, rfl, _, rfl, qq, qq, rfl, rfl, .inl ⟨by omega, by omega⟩, d, c, _, t15, rfl, nxt15, ?_, ?_, by omega, fun H16 l t16 but16 nxt16 ht16 l0 l1 => ?_⟩
      · show (0 : Int) < (qq : Int) * qq
        rw [hm]
        omega
      · show (qq : Int) * qq < _
        rw [hm]
        omega
      have l1 : l < (qq : Int) * qq := l1
      rw [hm] at l1
      obtain ⟨l, rfl⟩ := nat_of l0
      have ra16 := ra15.kp hkv15 (.but but16)
      have tb16 := Tabs.but tb15 hkv15 but16
      refine ⟨_, rfl, r, bims qq, l, st, rfl, ra16, ok, by rw [bims_len]; omega, by omega, fun H17 s17 => ⟨_, rfl, rfl, false, ?_, iteF ?_⟩⟩
      · rw [bims_pow h4 q2 st (by omega), ← hpw]
        exact same_ne _
      have ra17 := ra16.same s17
      have nxt17 := nxt16.same s17
      have tb17 := Tabs.same tb16 s17
      clear ra15 ra16 nxt15 nxt16 tb15 tb16 but16 hkv15 l0 l1 s17 hx15
      -- three indexes
      refine ⟨_, rfl, _, 1, rfl, rfl, 10, 18, rfl, rfl, ⟨by decide, by decide, by decide⟩, _, _, rfl, ?_⟩
      refine ⟨_, rfl, d, c, t16, rfl, nxt17, by omega, fun H18 fz t18 but18 nxt18 ht18 fz18 => ?_⟩
      obtain ⟨kv17, hkv17⟩ := nxt17.dict
      have ra18 := ra17.kp hkv17 (.but but18)
      have tb18 := Tabs.but tb17 hkv17 but18
      have m2 : (if (10 : Int) ^ (18 : Int).toNat < (pw : Int) then (10 : Int) ^ (18 : Int).toNat else (pw : Int)) = (pw : Int) := by
        rw [e18]
        exact if_neg (by omega)
      refine ⟨_, rfl, 10, 18, rfl, rfl, ⟨by decide, by decide, by decide⟩, _, _, rfl, _, _, rfl, rfl, ?_, ?_⟩
      · show (if (10 : Int) ^ (18 : Int).toNat < (pw : Int) then (10 : Int) ^ (18 : Int).toNat else (pw : Int)) ≠ 0
        rw [m2]
        omega
      refine ⟨by show 3 ≤ sizeLine; decide, fun X nX => ?_⟩
      obtain ⟨xs, hxs⟩ : ∃ xs : List V, xs = [V.int 0, V.int (if (10 : Int) ^ (18 : Int).toNat < (pw : Int) - 1 then (10 : Int) ^ (18 : Int).toNat else (pw : Int) - 1), V.int ((fz : Int).fmod (if (10 : Int) ^ (18 : Int).toNat < (pw : Int) then (10 : Int) ^ (18 : Int).toNat else (pw : Int)))] := ⟨_, rfl⟩
      have inX : ∀ v ∈ xs, ∃ m : Nat, v = .int (m : Int) ∧ m < pw := fun v hv => by
        rw [hxs] at hv
        simp only [List.mem_cons, List.not_mem_nil, or_false] at hv
        rcases hv with e | e | e
        · exact ⟨0, e, pw1⟩
        · refine ⟨pw - 1, e.trans (congrArg V.int ?_), by omega⟩
          rw [e18, if_neg (by omega)]
          omega
        · refine ⟨fz % pw, e.trans (congrArg V.int ?_), Nat.mod_lt _ pw1⟩
          rw [m2, fmodN]
      have s19 := same_new (o := .lst xs) nX
      have hX : upd H18 X (.lst xs) X = some (.lst xs) := upd_same
      have ra19 := ra18.same s19
      have nxt19 := nxt18.same s19
      have tb19 := Tabs.same tb18 s19
      rw [← hxs]
      clear hxs ra17 ra18 nxt17 nxt18 tb17 tb18 but18 hkv17 fz18
      generalize upd H18 X (.lst xs) = H19 at *
      obtain ⟨dx2, tt2, pp2, hx19, _, _⟩ := id ra19
      refine ⟨X, rfl, ⟨_, SqL.of hX⟩, for_list (K := K) (a := X) (xs := xs) (fun j σ H' => ∃ o5' : Option V, σ = [some (.ref a), some (.ref d), some (.int (0 + (i : Int))), some (.int (1 + y)), o4', o5', o6, some (.ref r), some (.int (qq : Nat)), some (.int ((bg : Int).fmod ((10 ^ Int.toNat 18 : Int).fdiv (qq : Int)))), some (.int (sz : Nat)), some (.int (st : Nat)), some (.int ((pw : Nat) : Int)), none] ∧ Same H19 H') ?_ ?_ ?_ ?_⟩
      · exact ⟨_, rfl, Same.refl _⟩
      · rintro j σ H20 _ ⟨_, rfl, s20⟩
        exact SqL.of (s20 _ _ hX)
      · rintro j v σ H20 hv ⟨_, rfl, s20⟩
        obtain ⟨u, rfl, hu⟩ := inX v (List.mem_of_getElem? hv)
        have hu2 : u < qq ^ st := by rw [← hpw]; exact hu
        refine ⟨_, rfl, r, dx2, _, rfl, s20 _ _ hx19, no_meth (by decide), _, rfl, _, rfl, r, bims qq, 0, st, u, rfl, ra19.same s20, ok, h0, by omega, by rw [bims_pow h4 q2 st (by omega)]; exact hu2, fun H21 s21 => ?_⟩
        refine ⟨_, rfl, _, rfl, n, u, congrArg (fun z => [V.int z, V.int u]) hn1, n1, n8, by omega, fun H22 s22 => ⟨rfl, false, ?_, iteF ⟨_, rfl, (s20.trans s21).trans s22⟩⟩⟩
        rw [letAt_av h4 q2 hu2, hqq]
        exact same_ne _
      rintro σ H20 ⟨o5', rfl, s20⟩
      have nxt20 := nxt19.same s20
      have tb20 := Tabs.same tb19 s20
      clear ra19 nxt19 tb19 hx19 hX s20 s19 nX
      -- a wrong count
      refine ⟨_, rfl, 10, 29, rfl, rfl, ⟨by decide, by decide, by decide⟩, ?_⟩
      refine ⟨_, rfl, d, c, t18, rfl, nxt20, by omega, fun H21 v21 t21 e21 but21 nxt21 ht21 dx21 od21 => ?_⟩
      obtain ⟨kv20, hkv20⟩ := nxt20.dict
      have tb21 := Tabs.but tb20 hkv20 but21
      refine ⟨by show 4 ≤ sizeLine; decide, fun ll nl => ?_⟩
      have s22 := same_new (o := .lst [V.int 0, V.int 9, V.int ((10 : Int) ^ Int.toNat 29), v21]) nl
      refine ⟨d, c, ll, _, t21, rfl, nxt21.same s22, SqL.of upd_same, (nxt21.new nl).1, by show 0 < 4; decide, by show 4 < _; decide, by omega, fun H23 wr t23 but23 nxt23 ht23 hv23 => ?_⟩
      obtain ⟨kv22, hkv22⟩ := (nxt21.same s22).dict
      have tb23 := Tabs.but (Tabs.same tb21 s22) hkv22 but23
      obtain ⟨ew, rw23⟩ : ∃ ew, Ref d H23 wr ew 1 8 := by
        simp only [List.mem_cons, List.not_mem_nil, or_false] at hv23
        rcases hv23 with e | e | e | e
        · subst e; exact ⟨_, .int (by decide) (.inl (by decide))⟩
        · subst e; exact ⟨_, .int (by decide) (.inr (by decide))⟩
        · subst e; exact ⟨_, .int (by decide) (.inr (by decide))⟩
        · subst e; exact ⟨_, (dx21.same s22).pen but23, od21.fit, od21.no _ _ (by decide)⟩
      clear hv23 dx21 od21 nxt20 nxt21 tb20 tb21 but21 but23 s22 hkv20 hkv22
      refine ⟨tb23, fun H24 ex24 tb24 => ⟨fun x => x = d, wr, ew, (rw23.kp (.tabs ex24)).dx, rw23.fit2, fun E Q1 hE => ?_, fun H25 p25 s25 h25 => ?_⟩⟩
      · exact ⟨_, rfl, fun x => x = d, wr, ew, rfl, (rw23.kp (.tabs ex24)).dx, rw23.bulk, rw23.no, hE⟩
      have rw25 := (rw23.kp (.tabs ex24)).kp (.same s25)
      obtain ⟨g1, g2, g3⟩ := rw23.fit2.repr (by decide) (by decide) (by decide) (by decide)
      refine ⟨_, rfl, _, wr, ew, rfl, rw25.dx, g1, g2, g3, by show 3 ≤ sizeLine; decide, fun p26 np26 => ?_⟩
      have s26 := same_new (o := .tup [.str (Str.ofString "count"), .str ew.shown, .bl true]) np26
      refine neFl_self (s26 _ _ h25) upd_same rfl ⟨false, rfl, iteF ?_⟩
      exact ⟨t23, _, _, _, _, _, _, _, _, _, _, _, rfl, ((nxt23.tabs ex24).same s25).same s26, Tabs.same (Tabs.same tb24 s25) s26, by omega⟩
    · rintro σ H1 ⟨t, o2, o3, o4, o5, o6, o7, o8, o9, o10, o11, o12, rfl, nxt1, tb1, ht⟩
      exact q H1
end
end Mo

namespace Mo
open PySem PySem.Spec PyProof.Rows L2
theorem txt_mk {K : PySem.W.Frag} {h : Heap} {mg : Str → Option Value} {fa : Addr} (X : K.In h) (G : h.Ns mainGlobals mg) (hfa : mg "law" = some (.ref fa))
    {cInvalidText : Addr} (eInvalidText : PySem.W.nsIn K mainGlobals "InvalidText" = some (some (.ref cInvalidText)))
    {cInvalidCount : Addr} (eInvalidCount : PySem.W.nsIn K mainGlobals "InvalidCount" = some (some (.ref cInvalidCount)))
    {cInvalidRules : Addr} (eInvalidRules : PySem.W.nsIn K mainGlobals "InvalidRules" = some (some (.ref cInvalidRules)))
    {cTooLarge : Addr} (eTooLarge : PySem.W.nsIn K mainGlobals "TooLarge" = some (some (.ref cTooLarge)))
    {cRules : Addr} (eRules : PySem.W.nsIn K mainGlobals "Rules" = some (some (.ref cRules)))
    {nmInvalidCount qInvalidCount : Str} {NInvalidCount : Addr} {bsInvalidCount : List Value} {snInvalidCount : List Str} {subInvalidCount : List Value} {abInvalidCount : Bool} {colInvalidCount : Option Bool} {ddInvalidCount : Option Addr} {u0InvalidCount u1InvalidCount u2InvalidCount u3InvalidCount u5InvalidCount : Option Value}
    (xLInvalidCount : K.lookup cInvalidCount = some (excClassObj nmInvalidCount qInvalidCount cInvalidCount NInvalidCount bsInvalidCount [.type "ValueError", .type "Exception", .type "BaseException", .type "object"] true snInvalidCount subInvalidCount abInvalidCount colInvalidCount ddInvalidCount u0InvalidCount u1InvalidCount u2InvalidCount u3InvalidCount u5InvalidCount "ValueError.__new__"))
    (saInvalidCount : PySem.W.findIn K (.ref cInvalidCount) "__setattr__" = some (some (.builtin "object.__setattr__")))
    (gaInvalidCount : PySem.W.findIn K (.ref cInvalidCount) "__getattribute__" = some (some (.builtin "BaseException.__getattribute__")))
    (ggInvalidCount : PySem.W.findIn K (.ref cInvalidCount) "__getattr__" = some none)
    (nbInvalidCount : PySem.W.findIn K (.ref cInvalidCount) "value" = some none)
    (exInvalidCount : PySem.W.subIn K (.ref cInvalidCount) (.type "BaseException") = some true)
    (tyInvalidCount : PySem.W.typeIn K (.ref cInvalidCount) = some (.type "type"))
    (hdInvalidCount : PySem.W.hasDictIn K cInvalidCount = true)
    (kCInvalidCount : PySem.W.keepIn K (.ref cInvalidCount) = true)
    (sCInvalidCount : PySem.W.subIn K (.ref cInvalidCount) (.ref cInvalidCount) = some true)
    (caInvalidCount : PySem.W.findIn K (.ref cInvalidCount) "__class__" = some (some (.builtin "object.__class__")))
    (cnInvalidCount : PySem.W.specialIn K (.builtin "object.__class__") "__get__" = some (some (.builtin "getset_descriptor.__get__")))
    (ctInvalidCount : PySem.W.takesIn K (.builtin "object.__class__") = some true)
    (cmInvalidCount : PySem.W.mroIn K cInvalidCount (.type "object") = some true)
    {iInvalidCount : Addr} (iCInvalidCount : PySem.W.findIn K (.ref cInvalidCount) "__init__" = some (some (.ref iInvalidCount))) (tIInvalidCount : PySem.W.typeIn K (.ref iInvalidCount) = some (.type "function"))
    {iodInvalidCount ianInvalidCount : Option Addr} {islInvalidCount : Array (Option Value)} {iocInvalidCount ikVInvalidCount idcInvalidCount ipmInvalidCount icdInvalidCount ictInvalidCount : Value} (iLInvalidCount : K.lookup iInvalidCount = some ⟨iocInvalidCount, iodInvalidCount, .func (PySem.W.fnOf "__init__" "InvalidCount.__init__" (defArgs sInitInvalidCount) (defBody sInitInvalidCount) (defScope sInitInvalidCount) .none ikVInvalidCount idcInvalidCount ipmInvalidCount ianInvalidCount icdInvalidCount ictInvalidCount), islInvalidCount⟩) (iDInvalidCount : PySem.W.codeIn K icdInvalidCount "InvalidCount.__init__" = true) (iKInvalidCount : PySem.W.keepIn K (.ref iInvalidCount) = true)
    (suInvalidCountInvalidRules : PySem.W.subIn K (.ref cInvalidCount) (.ref cInvalidRules) = some false)
    (exInvalidRules : PySem.W.subIn K (.ref cInvalidRules) (.type "BaseException") = some true)
    (hdInvalidRules : PySem.W.hasDictIn K cInvalidRules = true)
    (tyInvalidRules : PySem.W.typeIn K (.ref cInvalidRules) = some (.type "type"))
    (suInvalidCountInvalidText : PySem.W.subIn K (.ref cInvalidCount) (.ref cInvalidText) = some false)
    (exInvalidText : PySem.W.subIn K (.ref cInvalidText) (.type "BaseException") = some true)
    (hdInvalidText : PySem.W.hasDictIn K cInvalidText = true)
    (tyInvalidText : PySem.W.typeIn K (.ref cInvalidText) = some (.type "type"))
    (suInvalidCountValueError : PySem.W.subIn K (.ref cInvalidCount) (.type "ValueError") = some true)
    {od0 an0 : Option Addr} {sl0 : Array (Option Value)} {oc0 kV0 dc0 pm0 cd0 ct0 : Value} {f0 : Addr}
    (a0 : PySem.W.nsIn K mainGlobals "is_plain_integer" = some (some (.ref f0))) (l0 : K.lookup f0 = some ⟨oc0, od0, .func (PySem.W.fnOf "is_plain_integer" "is_plain_integer" (defArgs sIsPlainInteger) (defBody sIsPlainInteger) (defScope sIsPlainInteger) .none kV0 dc0 pm0 an0 cd0 ct0), sl0⟩) (c0 : PySem.W.codeIn K cd0 "is_plain_integer" = true) (k0 : PySem.W.keepIn K (.ref f0) = true)
    {od1 an1 : Option Addr} {sl1 : Array (Option Value)} {oc1 kV1 dc1 pm1 cd1 ct1 : Value} {f1 : Addr}
    (a1 : PySem.W.nsIn K mainGlobals "is_letter" = some (some (.ref f1))) (l1 : K.lookup f1 = some ⟨oc1, od1, .func (PySem.W.fnOf "is_letter" "is_letter" (defArgs sIsLetter) (defBody sIsLetter) (defScope sIsLetter) .none kV1 dc1 pm1 an1 cd1 ct1), sl1⟩) (c1 : PySem.W.codeIn K cd1 "is_letter" = true) (k1 : PySem.W.keepIn K (.ref f1) = true)
    {od2 an2 : Option Addr} {sl2 : Array (Option Value)} {oc2 kV2 dc2 pm2 cd2 ct2 : Value} {f2 : Addr}
    (a2 : PySem.W.nsIn K mainGlobals "is_text" = some (some (.ref f2))) (l2 : K.lookup f2 = some ⟨oc2, od2, .func (PySem.W.fnOf "is_text" "is_text" (defArgs sIsText) (defBody sIsText) (defScope sIsText) .none kV2 dc2 pm2 an2 cd2 ct2), sl2⟩) (c2 : PySem.W.codeIn K cd2 "is_text" = true) (k2 : PySem.W.keepIn K (.ref f2) = true)
    {od3 an3 : Option Addr} {sl3 : Array (Option Value)} {oc3 kV3 dc3 pm3 cd3 ct3 : Value} {f3 : Addr}
    (a3 : PySem.W.nsIn K mainGlobals "check_text" = some (some (.ref f3))) (l3 : K.lookup f3 = some ⟨oc3, od3, .func (PySem.W.fnOf "check_text" "check_text" (defArgs sCheckText) (defBody sCheckText) (defScope sCheckText) .none kV3 dc3 pm3 an3 cd3 ct3), sl3⟩) (c3 : PySem.W.codeIn K cd3 "check_text" = true) (k3 : PySem.W.keepIn K (.ref f3) = true)
    {od4 an4 : Option Addr} {sl4 : Array (Option Value)} {oc4 kV4 dc4 pm4 cd4 ct4 : Value} {f4 : Addr}
    (a4 : PySem.W.nsIn K mainGlobals "check_count" = some (some (.ref f4))) (l4 : K.lookup f4 = some ⟨oc4, od4, .func (PySem.W.fnOf "check_count" "check_count" (defArgs sCheckCount) (defBody sCheckCount) (defScope sCheckCount) .none kV4 dc4 pm4 an4 cd4 ct4), sl4⟩) (c4 : PySem.W.codeIn K cd4 "check_count" = true) (k4 : PySem.W.keepIn K (.ref f4) = true)
    {od5 an5 : Option Addr} {sl5 : Array (Option Value)} {oc5 kV5 dc5 pm5 cd5 ct5 : Value} {f5 : Addr}
    (a5 : PySem.W.nsIn K mainGlobals "is_prime" = some (some (.ref f5))) (l5 : K.lookup f5 = some ⟨oc5, od5, .func (PySem.W.fnOf "is_prime" "is_prime" (defArgs sIsPrime) (defBody sIsPrime) (defScope sIsPrime) .none kV5 dc5 pm5 an5 cd5 ct5), sl5⟩) (c5 : PySem.W.codeIn K cd5 "is_prime" = true) (k5 : PySem.W.keepIn K (.ref f5) = true)
    {od6 an6 : Option Addr} {sl6 : Array (Option Value)} {oc6 kV6 dc6 pm6 cd6 ct6 : Value} {f6 : Addr}
    (a6 : PySem.W.nsIn K mainGlobals "modulus" = some (some (.ref f6))) (l6 : K.lookup f6 = some ⟨oc6, od6, .func (PySem.W.fnOf "modulus" "modulus" (defArgs sModulus) (defBody sModulus) (defScope sModulus) .none kV6 dc6 pm6 an6 cd6 ct6), sl6⟩) (c6 : PySem.W.codeIn K cd6 "modulus" = true) (k6 : PySem.W.keepIn K (.ref f6) = true)
    {od7 an7 : Option Addr} {sl7 : Array (Option Value)} {oc7 kV7 dc7 pm7 cd7 ct7 : Value} {f7 : Addr}
    (a7 : PySem.W.nsIn K mainGlobals "letter_within" = some (some (.ref f7))) (l7 : K.lookup f7 = some ⟨oc7, od7, .func (PySem.W.fnOf "letter_within" "letter_within" (defArgs sLetterWithin) (defBody sLetterWithin) (defScope sLetterWithin) .none kV7 dc7 pm7 an7 cd7 ct7), sl7⟩) (c7 : PySem.W.codeIn K cd7 "letter_within" = true) (k7 : PySem.W.keepIn K (.ref f7) = true)
    {od8 an8 : Option Addr} {sl8 : Array (Option Value)} {oc8 kV8 dc8 pm8 cd8 ct8 : Value} {f8 : Addr}
    (a8 : PySem.W.nsIn K mainGlobals "letter_block" = some (some (.ref f8))) (l8 : K.lookup f8 = some ⟨oc8, od8, .func (PySem.W.fnOf "letter_block" "letter_block" (defArgs sLetterBlock) (defBody sLetterBlock) (defScope sLetterBlock) .none kV8 dc8 pm8 an8 cd8 ct8), sl8⟩) (c8 : PySem.W.codeIn K cd8 "letter_block" = true) (k8 : PySem.W.keepIn K (.ref f8) = true)
    {od9 an9 : Option Addr} {sl9 : Array (Option Value)} {oc9 kV9 dc9 pm9 cd9 ct9 : Value} {f9 : Addr}
    (a9 : PySem.W.nsIn K mainGlobals "stretch" = some (some (.ref f9))) (l9 : K.lookup f9 = some ⟨oc9, od9, .func (PySem.W.fnOf "stretch" "stretch" (defArgs sStretch) (defBody sStretch) (defScope sStretch) .none kV9 dc9 pm9 an9 cd9 ct9), sl9⟩) (c9 : PySem.W.codeIn K cd9 "stretch" = true) (k9 : PySem.W.keepIn K (.ref f9) = true)
    {od10 an10 : Option Addr} {sl10 : Array (Option Value)} {oc10 kV10 dc10 pm10 cd10 ct10 : Value} {f10 : Addr}
    (a10 : PySem.W.nsIn K mainGlobals "avoiding_letter" = some (some (.ref f10))) (l10 : K.lookup f10 = some ⟨oc10, od10, .func (PySem.W.fnOf "avoiding_letter" "avoiding_letter" (defArgs sAvoidingLetter) (defBody sAvoidingLetter) (defScope sAvoidingLetter) .none kV10 dc10 pm10 an10 cd10 ct10), sl10⟩) (c10 : PySem.W.codeIn K cd10 "avoiding_letter" = true) (k10 : PySem.W.keepIn K (.ref f10) = true)
    {od11 an11 : Option Addr} {sl11 : Array (Option Value)} {oc11 kV11 dc11 pm11 cd11 ct11 : Value} {f11 : Addr}
    (a11 : PySem.W.nsIn K mainGlobals "avoiding_text" = some (some (.ref f11))) (l11 : K.lookup f11 = some ⟨oc11, od11, .func (PySem.W.fnOf "avoiding_text" "avoiding_text" (defArgs sAvoidingText) (defBody sAvoidingText) (defScope sAvoidingText) .none kV11 dc11 pm11 an11 cd11 ct11), sl11⟩) (c11 : PySem.W.codeIn K cd11 "avoiding_text" = true) (k11 : PySem.W.keepIn K (.ref f11) = true)
    {od12 an12 : Option Addr} {sl12 : Array (Option Value)} {oc12 kV12 dc12 pm12 cd12 ct12 : Value} {f12 : Addr}
    (a12 : PySem.W.nsIn K mainGlobals "is_image" = some (some (.ref f12))) (l12 : K.lookup f12 = some ⟨oc12, od12, .func (PySem.W.fnOf "is_image" "is_image" (defArgs sIsImage) (defBody sIsImage) (defScope sIsImage) .none kV12 dc12 pm12 an12 cd12 ct12), sl12⟩) (c12 : PySem.W.codeIn K cd12 "is_image" = true) (k12 : PySem.W.keepIn K (.ref f12) = true)
    {od13 an13 : Option Addr} {sl13 : Array (Option Value)} {oc13 kV13 dc13 pm13 cd13 ct13 : Value} {f13 : Addr}
    (a13 : PySem.W.nsIn K mainGlobals "are_images" = some (some (.ref f13))) (l13 : K.lookup f13 = some ⟨oc13, od13, .func (PySem.W.fnOf "are_images" "are_images" (defArgs sAreImages) (defBody sAreImages) (defScope sAreImages) .none kV13 dc13 pm13 an13 cd13 ct13), sl13⟩) (c13 : PySem.W.codeIn K cd13 "are_images" = true) (k13 : PySem.W.keepIn K (.ref f13) = true)
    {od14 an14 : Option Addr} {sl14 : Array (Option Value)} {oc14 kV14 dc14 pm14 cd14 ct14 : Value} {f14 : Addr}
    (a14 : PySem.W.nsIn K mainGlobals "avoiding_rules" = some (some (.ref f14))) (l14 : K.lookup f14 = some ⟨oc14, od14, .func (PySem.W.fnOf "avoiding_rules" "avoiding_rules" (defArgs sAvoidingRules) (defBody sAvoidingRules) (defScope sAvoidingRules) .none kV14 dc14 pm14 an14 cd14 ct14), sl14⟩) (c14 : PySem.W.codeIn K cd14 "avoiding_rules" = true) (k14 : PySem.W.keepIn K (.ref f14) = true)
    {od15 an15 : Option Addr} {sl15 : Array (Option Value)} {oc15 kV15 dc15 pm15 cd15 ct15 : Value} {f15 : Addr}
    (a15 : PySem.W.nsIn K mainGlobals "_law_pen" = some (some (.ref f15))) (l15 : K.lookup f15 = some ⟨oc15, od15, .func (PySem.W.fnOf "_law_pen" "_law_pen" (defArgs sLPen) (defBody sLPen) (defScope sLPen) .none kV15 dc15 pm15 an15 cd15 ct15), sl15⟩) (c15 : PySem.W.codeIn K cd15 "_law_pen" = true) (k15 : PySem.W.keepIn K (.ref f15) = true)
    {od16 an16 : Option Addr} {sl16 : Array (Option Value)} {oc16 kV16 dc16 pm16 cd16 ct16 : Value} {f16 : Addr}
    (a16 : PySem.W.nsIn K mainGlobals "_law_draw" = some (some (.ref f16))) (l16 : K.lookup f16 = some ⟨oc16, od16, .func (PySem.W.fnOf "_law_draw" "_law_draw" (defArgs sLDraw) (defBody sLDraw) (defScope sLDraw) .none kV16 dc16 pm16 an16 cd16 ct16), sl16⟩) (c16 : PySem.W.codeIn K cd16 "_law_draw" = true) (k16 : PySem.W.keepIn K (.ref f16) = true)
    {od17 an17 : Option Addr} {sl17 : Array (Option Value)} {oc17 kV17 dc17 pm17 cd17 ct17 : Value} {f17 : Addr}
    (a17 : PySem.W.nsIn K mainGlobals "_law_pick" = some (some (.ref f17))) (l17 : K.lookup f17 = some ⟨oc17, od17, .func (PySem.W.fnOf "_law_pick" "_law_pick" (defArgs sLPick) (defBody sLPick) (defScope sLPick) .none kV17 dc17 pm17 an17 cd17 ct17), sl17⟩) (c17 : PySem.W.codeIn K cd17 "_law_pick" = true) (k17 : PySem.W.keepIn K (.ref f17) = true)
    {od18 an18 : Option Addr} {sl18 : Array (Option Value)} {oc18 kV18 dc18 pm18 cd18 ct18 : Value} {f18 : Addr}
    (a18 : PySem.W.nsIn K mainGlobals "_law_far" = some (some (.ref f18))) (l18 : K.lookup f18 = some ⟨oc18, od18, .func (PySem.W.fnOf "_law_far" "_law_far" (defArgs sLFar) (defBody sLFar) (defScope sLFar) .none kV18 dc18 pm18 an18 cd18 ct18), sl18⟩) (c18 : PySem.W.codeIn K cd18 "_law_far" = true) (k18 : PySem.W.keepIn K (.ref f18) = true)
    {od19 an19 : Option Addr} {sl19 : Array (Option Value)} {oc19 kV19 dc19 pm19 cd19 ct19 : Value} {f19 : Addr}
    (a19 : PySem.W.nsIn K mainGlobals "_law_odd" = some (some (.ref f19))) (l19 : K.lookup f19 = some ⟨oc19, od19, .func (PySem.W.fnOf "_law_odd" "_law_odd" (defArgs sLOdd) (defBody sLOdd) (defScope sLOdd) .none kV19 dc19 pm19 an19 cd19 ct19), sl19⟩) (c19 : PySem.W.codeIn K cd19 "_law_odd" = true) (k19 : PySem.W.keepIn K (.ref f19) = true)
    {od20 an20 : Option Addr} {sl20 : Array (Option Value)} {oc20 kV20 dc20 pm20 cd20 ct20 : Value} {f20 : Addr}
    (a20 : PySem.W.nsIn K mainGlobals "_law_told" = some (some (.ref f20))) (l20 : K.lookup f20 = some ⟨oc20, od20, .func (PySem.W.fnOf "_law_told" "_law_told" (defArgs sLTold) (defBody sLTold) (defScope sLTold) .none kV20 dc20 pm20 an20 cd20 ct20), sl20⟩) (c20 : PySem.W.codeIn K cd20 "_law_told" = true) (k20 : PySem.W.keepIn K (.ref f20) = true)
    {cdLaw pdLaw : Addr}
    {od21 an21 : Option Addr} {sl21 : Array (Option Value)} {oc21 kV21 dc21 pm21 ct21 : Value} {f21 : Addr}
    (a21 : PySem.W.nsIn K mainGlobals "law" = some (some (.ref f21))) (l21 : K.lookup f21 = some ⟨oc21, od21, .func (PySem.W.fnOf "law" "law" (defArgs sLaw) (defBody sLaw) (defScope sLaw) .none kV21 dc21 pm21 an21 (.ref cdLaw) ct21), sl21⟩) (c21 : PySem.W.codeIn K (.ref cdLaw) "law" = true) (k21 : PySem.W.keepIn K (.ref f21) = true)
    {ecLaw : Value} {dcLaw : Option Addr} {vcLaw : Array Value} {scLaw : Array (Option Value)} (lcLaw : K.lookup cdLaw = some ⟨ecLaw, dcLaw, .fields vcLaw, scLaw⟩) (lpLaw : vcLaw[11]? = some (.ref pdLaw)) (hdLaw : ∀ K' : PySem.W.Frag, K'.lookup cdLaw = some ⟨ecLaw, dcLaw, .fields vcLaw, scLaw⟩ → PySem.W.codeHdIn K' cdLaw pdLaw = true) (npLaw : K.lookup pdLaw = none)
    {od22 an22 : Option Addr} {sl22 : Array (Option Value)} {oc22 kV22 dc22 pm22 cd22 ct22 : Value} {f22 : Addr}
    (a22 : PySem.W.findIn K (.ref cRules) "__init__" = some (some (.ref f22))) (i22 : PySem.W.isFn K (.ref f22) = true) (l22 : K.lookup f22 = some ⟨oc22, od22, .func (PySem.W.fnOf "__init__" "Rules.__init__" (defArgs sRulesInit) (defBody sRulesInit) (defScope sRulesInit) .none kV22 dc22 pm22 an22 cd22 ct22), sl22⟩) (c22 : PySem.W.codeIn K cd22 "Rules.__init__" = true) (k22 : PySem.W.keepIn K (.ref f22) = true)
    {od23 an23 : Option Addr} {sl23 : Array (Option Value)} {oc23 kV23 dc23 pm23 cd23 ct23 : Value} {f23 : Addr}
    (a23 : PySem.W.findIn K (.ref cRules) "images" = some (some (.ref f23))) (i23 : PySem.W.isFn K (.ref f23) = true) (l23 : K.lookup f23 = some ⟨oc23, od23, .func (PySem.W.fnOf "images" "Rules.images" (defArgs sRulesImages) (defBody sRulesImages) (defScope sRulesImages) .none kV23 dc23 pm23 an23 cd23 ct23), sl23⟩) (c23 : PySem.W.codeIn K cd23 "Rules.images" = true) (k23 : PySem.W.keepIn K (.ref f23) = true)
    {od24 an24 : Option Addr} {sl24 : Array (Option Value)} {oc24 kV24 dc24 pm24 cd24 ct24 : Value} {f24 : Addr}
    (a24 : PySem.W.findIn K (.ref cRules) "apply" = some (some (.ref f24))) (i24 : PySem.W.isFn K (.ref f24) = true) (l24 : K.lookup f24 = some ⟨oc24, od24, .func (PySem.W.fnOf "apply" "Rules.apply" (defArgs sRulesApply) (defBody sRulesApply) (defScope sRulesApply) .none kV24 dc24 pm24 an24 cd24 ct24), sl24⟩) (c24 : PySem.W.codeIn K cd24 "Rules.apply" = true) (k24 : PySem.W.keepIn K (.ref f24) = true)
    {od25 an25 : Option Addr} {sl25 : Array (Option Value)} {oc25 kV25 dc25 pm25 cd25 ct25 : Value} {f25 : Addr}
    (a25 : PySem.W.findIn K (.ref cRules) "check_letter" = some (some (.ref f25))) (i25 : PySem.W.isFn K (.ref f25) = true) (l25 : K.lookup f25 = some ⟨oc25, od25, .func (PySem.W.fnOf "check_letter" "Rules.check_letter" (defArgs sRulesCheckLetter) (defBody sRulesCheckLetter) (defScope sRulesCheckLetter) .none kV25 dc25 pm25 an25 cd25 ct25), sl25⟩) (c25 : PySem.W.codeIn K cd25 "Rules.check_letter" = true) (k25 : PySem.W.keepIn K (.ref f25) = true)
    {od26 an26 : Option Addr} {sl26 : Array (Option Value)} {oc26 kV26 dc26 pm26 cd26 ct26 : Value} {f26 : Addr}
    (a26 : PySem.W.findIn K (.ref cRules) "all_lengths" = some (some (.ref f26))) (i26 : PySem.W.isFn K (.ref f26) = true) (l26 : K.lookup f26 = some ⟨oc26, od26, .func (PySem.W.fnOf "all_lengths" "Rules.all_lengths" (defArgs sRulesAllLengths) (defBody sRulesAllLengths) (defScope sRulesAllLengths) .none kV26 dc26 pm26 an26 cd26 ct26), sl26⟩) (c26 : PySem.W.codeIn K cd26 "Rules.all_lengths" = true) (k26 : PySem.W.keepIn K (.ref f26) = true)
    {od27 an27 : Option Addr} {sl27 : Array (Option Value)} {oc27 kV27 dc27 pm27 cd27 ct27 : Value} {f27 : Addr}
    (a27 : PySem.W.findIn K (.ref cRules) "length" = some (some (.ref f27))) (i27 : PySem.W.isFn K (.ref f27) = true) (l27 : K.lookup f27 = some ⟨oc27, od27, .func (PySem.W.fnOf "length" "Rules.length" (defArgs sRulesLength) (defBody sRulesLength) (defScope sRulesLength) .none kV27 dc27 pm27 an27 cd27 ct27), sl27⟩) (c27 : PySem.W.codeIn K cd27 "Rules.length" = true) (k27 : PySem.W.keepIn K (.ref f27) = true)
    {od28 an28 : Option Addr} {sl28 : Array (Option Value)} {oc28 kV28 dc28 pm28 cd28 ct28 : Value} {f28 : Addr}
    (a28 : PySem.W.findIn K (.ref cRules) "letter_at" = some (some (.ref f28))) (i28 : PySem.W.isFn K (.ref f28) = true) (l28 : K.lookup f28 = some ⟨oc28, od28, .func (PySem.W.fnOf "letter_at" "Rules.letter_at" (defArgs sRulesLetterAt) (defBody sRulesLetterAt) (defScope sRulesLetterAt) .none kV28 dc28 pm28 an28 cd28 ct28), sl28⟩) (c28 : PySem.W.codeIn K cd28 "Rules.letter_at" = true) (k28 : PySem.W.keepIn K (.ref f28) = true)
    {od29 an29 : Option Addr} {sl29 : Array (Option Value)} {oc29 kV29 dc29 pm29 cd29 ct29 : Value} {f29 : Addr}
    (a29 : PySem.W.findIn K (.ref cRules) "within_image" = some (some (.ref f29))) (i29 : PySem.W.isFn K (.ref f29) = true) (l29 : K.lookup f29 = some ⟨oc29, od29, .func (PySem.W.fnOf "within_image" "Rules.within_image" (defArgs sRulesWithinImage) (defBody sRulesWithinImage) (defScope sRulesWithinImage) .none kV29 dc29 pm29 an29 cd29 ct29), sl29⟩) (c29 : PySem.W.codeIn K cd29 "Rules.within_image" = true) (k29 : PySem.W.keepIn K (.ref f29) = true)
    {od30 an30 : Option Addr} {sl30 : Array (Option Value)} {oc30 kV30 dc30 pm30 cd30 ct30 : Value} {f30 : Addr}
    (a30 : PySem.W.findIn K (.ref cRules) "is_growing" = some (some (.ref f30))) (i30 : PySem.W.isFn K (.ref f30) = true) (l30 : K.lookup f30 = some ⟨oc30, od30, .func (PySem.W.fnOf "is_growing" "Rules.is_growing" (defArgs sRulesIsGrowing) (defBody sRulesIsGrowing) (defScope sRulesIsGrowing) .none kV30 dc30 pm30 an30 cd30 ct30), sl30⟩) (c30 : PySem.W.codeIn K cd30 "Rules.is_growing" = true) (k30 : PySem.W.keepIn K (.ref f30) = true)
    (pgRules : PySem.W.plainGet K cRules Str.empty = true) (hdRules : PySem.W.hasDictIn K cRules = true) (poRules : PySem.W.plainOver K cRules = true) (saRules : PySem.W.findIn K (.ref cRules) "__setattr__" = some (some (.builtin "object.__setattr__"))) (mkRules : PySem.W.makesIn K cRules = true) (kcRules : PySem.W.keepIn K (.ref cRules) = true)
    (nfRules_table : PySem.W.findIn K (.ref cRules) "table" = some none)
    (qnRules : PySem.W.findIn K (.ref cRules) "__ne__" = some (some (.builtin "object.__ne__")))
    (qoRules : PySem.W.subIn K (.ref cRules) (.type "object") = some true)
    (qcRules : PySem.W.isClsIn K cRules = true)
    (qtRules : PySem.W.typeIn K (.ref cRules) = some (.type "type"))
    (qaRules : PySem.W.findIn K (.ref cRules) "__class__" = some (some (.builtin "object.__class__")))
    (qgRules : PySem.W.specialIn K (.builtin "object.__class__") "__get__" = some (some (.builtin "getset_descriptor.__get__")))
    (qkRules : PySem.W.takesIn K (.builtin "object.__class__") = some true)
    (qmRules : PySem.W.mroIn K cRules (.type "object") = some true)
    (qNoneTypeRules : PySem.W.subIn K (.type "NoneType") (.ref cRules) = some false)
    (qboolRules : PySem.W.subIn K (.type "bool") (.ref cRules) = some false)
    (qintRules : PySem.W.subIn K (.type "int") (.ref cRules) = some false)
    (qstrRules : PySem.W.subIn K (.type "str") (.ref cRules) = some false)
    (qlistRules : PySem.W.subIn K (.type "list") (.ref cRules) = some false)
    (qtupleRules : PySem.W.subIn K (.type "tuple") (.ref cRules) = some false)
    (qdictRules : PySem.W.subIn K (.type "dict") (.ref cRules) = some false)
    {t_MOST_VARIABLES : Tok} (z_MOST_VARIABLES : PySem.W.nsIn K mainGlobals "MOST_VARIABLES" = some (some (.int 8 t_MOST_VARIABLES)))
    {t_LONGEST_TEXT : Tok} (z_LONGEST_TEXT : PySem.W.nsIn K mainGlobals "LONGEST_TEXT" = some (some (.int 4096 t_LONGEST_TEXT)))
    {t_GREATEST_LETTER : Tok} (z_GREATEST_LETTER : PySem.W.nsIn K mainGlobals "GREATEST_LETTER" = some (some (.int 999999 t_GREATEST_LETTER)))
    {t_GREATEST_START : Tok} (z_GREATEST_START : PySem.W.nsIn K mainGlobals "GREATEST_START" = some (some (.int 1000000000000000000 t_GREATEST_START)))
    {t_MOST_IMAGES : Tok} (z_MOST_IMAGES : PySem.W.nsIn K mainGlobals "MOST_IMAGES" = some (some (.int 400 t_MOST_IMAGES)))
    {t_LONGEST_IMAGE : Tok} (z_LONGEST_IMAGE : PySem.W.nsIn K mainGlobals "LONGEST_IMAGE" = some (some (.int 64 t_LONGEST_IMAGE)))
    {t_MOST_STEPS : Tok} (z_MOST_STEPS : PySem.W.nsIn K mainGlobals "MOST_STEPS" = some (some (.int 400 t_MOST_STEPS)))
    (z_isinstance : PySem.W.nsIn K mainGlobals "isinstance" = some none)
    (z_bool : PySem.W.nsIn K mainGlobals "bool" = some none)
    (z_int : PySem.W.nsIn K mainGlobals "int" = some none)
    (z_all : PySem.W.nsIn K mainGlobals "all" = some none)
    (z_len : PySem.W.nsIn K mainGlobals "len" = some none)
    (z_tuple : PySem.W.nsIn K mainGlobals "tuple" = some none)
    (z_range : PySem.W.nsIn K mainGlobals "range" = some none)
    (z_max : PySem.W.nsIn K mainGlobals "max" = some none)
    (z_list : PySem.W.nsIn K mainGlobals "list" = some none)
    (z_abs : PySem.W.nsIn K mainGlobals "abs" = some none)
    (z_OverflowError : PySem.W.nsIn K mainGlobals "OverflowError" = some none)
    (z_repr : PySem.W.nsIn K mainGlobals "repr" = some none)
    (z_ValueError : PySem.W.nsIn K mainGlobals "ValueError" = some none)
    (z_min : PySem.W.nsIn K mainGlobals "min" = some none)
    (z_sum : PySem.W.nsIn K mainGlobals "sum" = some none)
    (z_reversed : PySem.W.nsIn K mainGlobals "reversed" = some none) :
    ∃ T : Txt K mg, T.aLaw = fa ∧ ∀ (s : Shared) (v : Value), BindsTo s T.dLaw ⟨[v], []⟩ [("_law_script", v)] := by
  have e := hfa.symm.trans (PySem.W.mg_of X G a21)
  cases e
  have F0 := fun_mk (st := sIsPlainInteger) l0 c0 k0
  have F1 := fun_mk (st := sIsLetter) l1 c1 k1
  have F2 := fun_mk (st := sIsText) l2 c2 k2
  have F3 := fun_mk (st := sCheckText) l3 c3 k3
  have F4 := fun_mk (st := sCheckCount) l4 c4 k4
  have F5 := fun_mk (st := sIsPrime) l5 c5 k5
  have F6 := fun_mk (st := sModulus) l6 c6 k6
  have F7 := fun_mk (st := sLetterWithin) l7 c7 k7
  have F8 := fun_mk (st := sLetterBlock) l8 c8 k8
  have F9 := fun_mk (st := sStretch) l9 c9 k9
  have F10 := fun_mk (st := sAvoidingLetter) l10 c10 k10
  have F11 := fun_mk (st := sAvoidingText) l11 c11 k11
  have F12 := fun_mk (st := sIsImage) l12 c12 k12
  have F13 := fun_mk (st := sAreImages) l13 c13 k13
  have F14 := fun_mk (st := sAvoidingRules) l14 c14 k14
  have F15 := fun_mk (st := sLPen) l15 c15 k15
  have F16 := fun_mk (st := sLDraw) l16 c16 k16
  have F17 := fun_mk (st := sLPick) l17 c17 k17
  have F18 := fun_mk (st := sLFar) l18 c18 k18
  have F19 := fun_mk (st := sLOdd) l19 c19 k19
  have F20 := fun_mk (st := sLTold) l20 c20 k20
  have F21 := fun_mk (st := sLaw) l21 c21 k21
  have F22 := fun_mk (st := sRulesInit) l22 c22 k22
  have F23 := fun_mk (st := sRulesImages) l23 c23 k23
  have F24 := fun_mk (st := sRulesApply) l24 c24 k24
  have F25 := fun_mk (st := sRulesCheckLetter) l25 c25 k25
  have F26 := fun_mk (st := sRulesAllLengths) l26 c26 k26
  have F27 := fun_mk (st := sRulesLength) l27 c27 k27
  have F28 := fun_mk (st := sRulesLetterAt) l28 c28 k28
  have F29 := fun_mk (st := sRulesWithinImage) l29 c29 k29
  have F30 := fun_mk (st := sRulesIsGrowing) l30 c30 k30
  have FIInvalidCount := fun_mk (st := sInitInvalidCount) iLInvalidCount iDInvalidCount iKInvalidCount
  exact ⟨⟨_, PySem.W.mg_of X G eInvalidText, _, PySem.W.mg_of X G eInvalidCount, _, PySem.W.mg_of X G eInvalidRules, _, PySem.W.mg_of X G eTooLarge, _, PySem.W.mg_of X G eRules, _, _, FIInvalidCount, FIInvalidCount.binds (ps := ["self", "value"]) fun _ _ _ _ _ _ us hl => match us, hl with | [_, _], _ => rfl, ⟨⟨⟨_, _, _, _, _, _, _, _, _, _, _, _, _, _, _, xLInvalidCount, by decide +kernel⟩, saInvalidCount, exInvalidCount, tyInvalidCount, kCInvalidCount⟩, ⟨gaInvalidCount, ggInvalidCount, exInvalidCount, hdInvalidCount⟩, ⟨gaInvalidCount, ggInvalidCount, exInvalidCount, hdInvalidCount, caInvalidCount, cnInvalidCount, ctInvalidCount, cmInvalidCount⟩, nbInvalidCount, PySem.W.exm_ref exInvalidCount hdInvalidCount tyInvalidCount sCInvalidCount, iCInvalidCount, tIInvalidCount⟩, PySem.W.exm_ref exInvalidRules hdInvalidRules tyInvalidRules suInvalidCountInvalidRules, PySem.W.exm_ref exInvalidText hdInvalidText tyInvalidText suInvalidCountInvalidText, kit1_type suInvalidCountValueError (by decide +kernel), _, _, F0, F0.binds (ps := ["value"]) fun _ _ _ _ _ _ us hl => match us, hl with | [_], _ => rfl, PySem.W.mg_of X G a0, _, _, F1, F1.binds (ps := ["value"]) fun _ _ _ _ _ _ us hl => match us, hl with | [_], _ => rfl, PySem.W.mg_of X G a1, _, _, F2, F2.binds (ps := ["value"]) fun _ _ _ _ _ _ us hl => match us, hl with | [_], _ => rfl, PySem.W.mg_of X G a2, _, _, F3, F3.binds (ps := ["value"]) fun _ _ _ _ _ _ us hl => match us, hl with | [_], _ => rfl, PySem.W.mg_of X G a3, _, _, F4, F4.binds (ps := ["value", "least", "most"]) fun _ _ _ _ _ _ us hl => match us, hl with | [_, _, _], _ => rfl, PySem.W.mg_of X G a4, _, _, F5, F5.binds (ps := ["number"]) fun _ _ _ _ _ _ us hl => match us, hl with | [_], _ => rfl, PySem.W.mg_of X G a5, _, _, F6, F6.binds (ps := ["count"]) fun _ _ _ _ _ _ us hl => match us, hl with | [_], _ => rfl, PySem.W.mg_of X G a6, _, _, F7, F7.binds (ps := ["size", "letter", "index"]) fun _ _ _ _ _ _ us hl => match us, hl with | [_, _, _], _ => rfl, PySem.W.mg_of X G a7, _, _, F8, F8.binds (ps := ["count", "letter"]) fun _ _ _ _ _ _ us hl => match us, hl with | [_, _], _ => rfl, PySem.W.mg_of X G a8, _, _, F9, F9.binds (ps := ["size", "start", "length"]) fun _ _ _ _ _ _ us hl => match us, hl with | [_, _, _], _ => rfl, PySem.W.mg_of X G a9, _, _, F10, F10.binds (ps := ["count", "index"]) fun _ _ _ _ _ _ us hl => match us, hl with | [_, _], _ => rfl, PySem.W.mg_of X G a10, _, _, F11, ⟨fun s us ws _ l1 l2 => match us, ws, l1, l2 with | [_, _], [_], _, _ => .of_eq rfl, fun r1 r2 => Mo.vals_app r1 r2⟩, PySem.W.mg_of X G a11, _, _, F12, F12.binds (ps := ["value", "size"]) fun _ _ _ _ _ _ us hl => match us, hl with | [_, _], _ => rfl, PySem.W.mg_of X G a12, _, _, F13, F13.binds (ps := ["value"]) fun _ _ _ _ _ _ us hl => match us, hl with | [_], _ => rfl, PySem.W.mg_of X G a13, _, _, F14, F14.binds (ps := ["count"]) fun _ _ _ _ _ _ us hl => match us, hl with | [_], _ => rfl, PySem.W.mg_of X G a14, _, _, F15, F15.binds (ps := ["_law_script"]) fun _ _ _ _ _ _ us hl => match us, hl with | [_], _ => rfl, PySem.W.mg_of X G a15, _, _, F16, F16.binds (ps := ["_law_pen_here", "_law_many"]) fun _ _ _ _ _ _ us hl => match us, hl with | [_, _], _ => rfl, PySem.W.mg_of X G a16, _, _, F17, F17.binds (ps := ["_law_pen_here", "_law_choices"]) fun _ _ _ _ _ _ us hl => match us, hl with | [_, _], _ => rfl, PySem.W.mg_of X G a17, _, _, F18, F18.binds (ps := ["_law_pen_here", "_law_pieces"]) fun _ _ _ _ _ _ us hl => match us, hl with | [_, _], _ => rfl, PySem.W.mg_of X G a18, _, _, F19, F19.binds (ps := ["_law_pen_here"]) fun _ _ _ _ _ _ us hl => match us, hl with | [_], _ => rfl, PySem.W.mg_of X G a19, _, _, F20, F20.binds (ps := ["_law_call"]) fun _ _ _ _ _ _ us hl => match us, hl with | [_], _ => rfl, PySem.W.mg_of X G a20, _, _, F21, F21.binds (ps := ["_law_script"]) fun _ _ _ _ _ _ us hl => match us, hl with | [_], _ => rfl, PySem.W.mg_of X G a21, _, _, F22, F22.binds (ps := ["self", "images"]) fun _ _ _ _ _ _ us hl => match us, hl with | [_, _], _ => rfl, ⟨a22, i22, k22⟩, _, _, F23, F23.binds (ps := ["self"]) fun _ _ _ _ _ _ us hl => match us, hl with | [_], _ => rfl, ⟨a23, i23, k23⟩, _, _, F24, F24.binds (ps := ["self", "text"]) fun _ _ _ _ _ _ us hl => match us, hl with | [_, _], _ => rfl, ⟨a24, i24, k24⟩, _, _, F25, F25.binds (ps := ["self", "letter"]) fun _ _ _ _ _ _ us hl => match us, hl with | [_, _], _ => rfl, ⟨a25, i25, k25⟩, _, _, F26, F26.binds (ps := ["self", "steps"]) fun _ _ _ _ _ _ us hl => match us, hl with | [_, _], _ => rfl, ⟨a26, i26, k26⟩, _, _, F27, F27.binds (ps := ["self", "letter", "steps"]) fun _ _ _ _ _ _ us hl => match us, hl with | [_, _, _], _ => rfl, ⟨a27, i27, k27⟩, _, _, F28, F28.binds (ps := ["self", "letter", "steps", "index"]) fun _ _ _ _ _ _ us hl => match us, hl with | [_, _, _, _], _ => rfl, ⟨a28, i28, k28⟩, _, _, F29, F29.binds (ps := ["self", "letter", "row", "index"]) fun _ _ _ _ _ _ us hl => match us, hl with | [_, _, _, _], _ => rfl, ⟨a29, i29, k29⟩, _, _, F30, F30.binds (ps := ["self", "letter"]) fun _ _ _ _ _ _ us hl => match us, hl with | [_, _], _ => rfl, ⟨a30, i30, k30⟩, ⟨pgRules, hdRules, poRules, saRules⟩, ⟨mkRules, a22, i22, kcRules⟩, nfRules_table, qnRules, qoRules, qcRules, qtRules, qaRules, qgRules, qkRules, qmRules, qNoneTypeRules, qboolRules, qintRules, qstrRules, qlistRules, qtupleRules, qdictRules, _, _, rfl, hdLaw K lcLaw, npLaw, _, PySem.W.mg_of X G z_MOST_VARIABLES, _, PySem.W.mg_of X G z_LONGEST_TEXT, _, PySem.W.mg_of X G z_GREATEST_LETTER, _, PySem.W.mg_of X G z_GREATEST_START, _, PySem.W.mg_of X G z_MOST_IMAGES, _, PySem.W.mg_of X G z_LONGEST_IMAGE, _, PySem.W.mg_of X G z_MOST_STEPS, PySem.W.mg_none_of X G z_isinstance, PySem.W.mg_none_of X G z_bool, PySem.W.mg_none_of X G z_int, PySem.W.mg_none_of X G z_all, PySem.W.mg_none_of X G z_len, PySem.W.mg_none_of X G z_tuple, PySem.W.mg_none_of X G z_range, PySem.W.mg_none_of X G z_max, PySem.W.mg_none_of X G z_list, PySem.W.mg_none_of X G z_abs, PySem.W.mg_none_of X G z_OverflowError, PySem.W.mg_none_of X G z_repr, PySem.W.mg_none_of X G z_ValueError, PySem.W.mg_none_of X G z_min, PySem.W.mg_none_of X G z_sum, PySem.W.mg_none_of X G z_reversed⟩, rfl, fun s v => .of_eq rfl⟩
theorem all_mk {l : PySem.W.OpenLaw} {q : Program} {w : World} {K : PySem.W.Frag} {mg : Str → Option Value} {fa : Addr} {h : Heap} (hT : ∃ T : Txt K mg, T.aLaw = fa ∧ ∀ (s : Shared) (v : Value), BindsTo s T.dLaw ⟨[v], []⟩ [("_law_script", v)]) (em : Empties q K mg h) (rLaw : ((recsOf q).any fun e => e.name == "law") = true) :
    LawT l w K CX0 36 63 "_law_script" mg fa h := by
  obtain ⟨T, rfl, hb⟩ := hT
  have tLaw : h.get? T.pdLaw = some tab0 := by
    obtain ⟨oc, od, kV, doc, pm, an, cdv, ct, osl, e, lk, hcd⟩ := T.fLaw.ex
    exact em _ _ _ _ _ _ rLaw T.gLaw lk rfl (by first | exact T.kdLaw | (rw [← e]; exact T.kdLaw)) T.hdLaw
  refine ⟨T.dLaw, [(T.cdLaw, T.pdLaw)], spLaw K T.pdLaw, ?_, ?_, ?_, hb, ?_, ?_⟩
  · intro p hp
    simp only [List.mem_cons, List.not_mem_nil, or_false] at hp
    rcases hp with rfl
    · exact tLaw
  · intro p hp
    simp only [List.mem_cons, List.not_mem_nil, or_false] at hp
    rcases hp with rfl
    · exact T.npLaw
  · intro p hp
    simp only [List.mem_cons, List.not_mem_nil, or_false] at hp
    rcases hp with rfl
    · exact T.hdLaw
  · intro H a ns hl hH hS
    exact ⟨a, ns, rfl, hS, hl, hH (T.cdLaw, T.pdLaw) (by simp), fun _ => rfl⟩
  · intro base _ _ TB hbm
    exact ok_law (k := 0) T (TB (T.cdLaw, T.pdLaw) (by simp)) hbm
end Mo
open PySem PySem.W PyProof.Rows
set_option maxHeartbeats 0 in
theorem PySem.Challenge.cw_mustoccur_k68_whole_avoiding_rules_holds : PySem.Challenge.rw_mustoccur_k68_whole_avoiding_rules.Holds := by
  w_on; o_law; k_head; (case hw => w_witness2)
  k_fill
  refine Mo.walkT (l := PySem.Challenge.rw_mustoccur_k68_whole_avoiding_rules) (n := 63) (k := 36) (x := "_law_script") (CX := fun _ => L2.CX0) rfl (by decide) rfl ⟨rfl, by decide, by decide⟩ (fun w h Y => PySem.W.km_in_of Y) (by decide +kernel) ?F (fun _ _ _ _ _ h => h)
  case F =>
    intro w mg fa h KX G hmg em
    refine Mo.all_mk ?_ em (by decide +kernel)
    refine' Mo.txt_mk KX G hmg ?eInvalidText ?eInvalidCount ?eInvalidRules ?eTooLarge ?eRules ?xLInvalidCount ?saInvalidCount ?gaInvalidCount ?ggInvalidCount ?nbInvalidCount ?exInvalidCount ?tyInvalidCount ?hdInvalidCount ?kCInvalidCount ?sCInvalidCount ?caInvalidCount ?cnInvalidCount ?ctInvalidCount ?cmInvalidCount ?iCInvalidCount ?tIInvalidCount ?iLInvalidCount ?iDInvalidCount ?iKInvalidCount ?suInvalidCountInvalidRules ?exInvalidRules ?hdInvalidRules ?tyInvalidRules ?suInvalidCountInvalidText ?exInvalidText ?hdInvalidText ?tyInvalidText ?suInvalidCountValueError ?a0 ?l0 ?c0 ?k0 ?a1 ?l1 ?c1 ?k1 ?a2 ?l2 ?c2 ?k2 ?a3 ?l3 ?c3 ?k3 ?a4 ?l4 ?c4 ?k4 ?a5 ?l5 ?c5 ?k5 ?a6 ?l6 ?c6 ?k6 ?a7 ?l7 ?c7 ?k7 ?a8 ?l8 ?c8 ?k8 ?a9 ?l9 ?c9 ?k9 ?a10 ?l10 ?c10 ?k10 ?a11 ?l11 ?c11 ?k11 ?a12 ?l12 ?c12 ?k12 ?a13 ?l13 ?c13 ?k13 ?a14 ?l14 ?c14 ?k14 ?a15 ?l15 ?c15 ?k15 ?a16 ?l16 ?c16 ?k16 ?a17 ?l17 ?c17 ?k17 ?a18 ?l18 ?c18 ?k18 ?a19 ?l19 ?c19 ?k19 ?a20 ?l20 ?c20 ?k20 ?a21 ?l21 ?c21 ?k21 ?lcLaw ?lpLaw ?hdLaw ?npLaw ?a22 ?i22 ?l22 ?c22 ?k22 ?a23 ?i23 ?l23 ?c23 ?k23 ?a24 ?i24 ?l24 ?c24 ?k24 ?a25 ?i25 ?l25 ?c25 ?k25 ?a26 ?i26 ?l26 ?c26 ?k26 ?a27 ?i27 ?l27 ?c27 ?k27 ?a28 ?i28 ?l28 ?c28 ?k28 ?a29 ?i29 ?l29 ?c29 ?k29 ?a30 ?i30 ?l30 ?c30 ?k30 ?pgRules ?hdRules ?poRules ?saRules ?mkRules ?kcRules ?nfRules_table ?qnRules ?qoRules ?qcRules ?qtRules ?qaRules ?qgRules ?qkRules ?qmRules ?qNoneTypeRules ?qboolRules ?qintRules ?qstrRules ?qlistRules ?qtupleRules ?qdictRules ?z_MOST_VARIABLES ?z_LONGEST_TEXT ?z_GREATEST_LETTER ?z_GREATEST_START ?z_MOST_IMAGES ?z_LONGEST_IMAGE ?z_MOST_STEPS ?z_isinstance ?z_bool ?z_int ?z_all ?z_len ?z_tuple ?z_range ?z_max ?z_list ?z_abs ?z_OverflowError ?z_repr ?z_ValueError ?z_min ?z_sum ?z_reversed
    (case eInvalidText => k_is); (case eInvalidCount => k_is); (case eInvalidRules => k_is); (case eTooLarge => k_is); (case eRules => k_is); (case xLInvalidCount => k_is); (case saInvalidCount => k_is); (case gaInvalidCount => k_is); (case ggInvalidCount => k_is); (case nbInvalidCount => k_is); (case exInvalidCount => k_is); (case tyInvalidCount => k_is); (case hdInvalidCount => k_is); (case kCInvalidCount => k_is); (case sCInvalidCount => k_is); (case caInvalidCount => k_is); (case cnInvalidCount => k_is); (case ctInvalidCount => k_is); (case cmInvalidCount => k_is); (case iCInvalidCount => k_is); (case tIInvalidCount => k_is); (case iLInvalidCount => k_is); (case iDInvalidCount => k_is); (case iKInvalidCount => k_is); (case suInvalidCountInvalidRules => k_is); (case exInvalidRules => k_is); (case hdInvalidRules => k_is); (case tyInvalidRules => k_is); (case suInvalidCountInvalidText => k_is); (case exInvalidText => k_is); (case hdInvalidText => k_is); (case tyInvalidText => k_is); (case suInvalidCountValueError => k_is); (case a0 => k_is); (case l0 => k_is); (case c0 => k_is); (case k0 => k_is); (case a1 => k_is); (case l1 => k_is); (case c1 => k_is); (case k1 => k_is); (case a2 => k_is); (case l2 => k_is); (case c2 => k_is); (case k2 => k_is); (case a3 => k_is); (case l3 => k_is); (case c3 => k_is); (case k3 => k_is); (case a4 => k_is); (case l4 => k_is); (case c4 => k_is); (case k4 => k_is); (case a5 => k_is); (case l5 => k_is); (case c5 => k_is); (case k5 => k_is); (case a6 => k_is); (case l6 => k_is); (case c6 => k_is); (case k6 => k_is); (case a7 => k_is); (case l7 => k_is); (case c7 => k_is); (case k7 => k_is); (case a8 => k_is); (case l8 => k_is); (case c8 => k_is); (case k8 => k_is); (case a9 => k_is); (case l9 => k_is); (case c9 => k_is); (case k9 => k_is); (case a10 => k_is); (case l10 => k_is); (case c10 => k_is); (case k10 => k_is); (case a11 => k_is); (case l11 => k_is); (case c11 => k_is); (case k11 => k_is); (case a12 => k_is); (case l12 => k_is); (case c12 => k_is); (case k12 => k_is); (case a13 => k_is); (case l13 => k_is); (case c13 => k_is); (case k13 => k_is); (case a14 => k_is); (case l14 => k_is); (case c14 => k_is); (case k14 => k_is); (case a15 => k_is); (case l15 => k_is); (case c15 => k_is); (case k15 => k_is); (case a16 => k_is); (case l16 => k_is); (case c16 => k_is); (case k16 => k_is); (case a17 => k_is); (case l17 => k_is); (case c17 => k_is); (case k17 => k_is); (case a18 => k_is); (case l18 => k_is); (case c18 => k_is); (case k18 => k_is); (case a19 => k_is); (case l19 => k_is); (case c19 => k_is); (case k19 => k_is); (case a20 => k_is); (case l20 => k_is); (case c20 => k_is); (case k20 => k_is); (case a21 => k_is); (case l21 => k_is); (case c21 => k_is); (case k21 => k_is); (case lcLaw => k_is); (case lpLaw => rfl); (case hdLaw => (intro K' h; unfold PySem.W.codeHdIn; rw [h]; rfl)); (case npLaw => rfl); (case a22 => k_is); (case i22 => k_is); (case l22 => k_is); (case c22 => k_is); (case k22 => k_is); (case a23 => k_is); (case i23 => k_is); (case l23 => k_is); (case c23 => k_is); (case k23 => k_is); (case a24 => k_is); (case i24 => k_is); (case l24 => k_is); (case c24 => k_is); (case k24 => k_is); (case a25 => k_is); (case i25 => k_is); (case l25 => k_is); (case c25 => k_is); (case k25 => k_is); (case a26 => k_is); (case i26 => k_is); (case l26 => k_is); (case c26 => k_is); (case k26 => k_is); (case a27 => k_is); (case i27 => k_is); (case l27 => k_is); (case c27 => k_is); (case k27 => k_is); (case a28 => k_is); (case i28 => k_is); (case l28 => k_is); (case c28 => k_is); (case k28 => k_is); (case a29 => k_is); (case i29 => k_is); (case l29 => k_is); (case c29 => k_is); (case k29 => k_is); (case a30 => k_is); (case i30 => k_is); (case l30 => k_is); (case c30 => k_is); (case k30 => k_is); (case pgRules => k_is); (case hdRules => k_is); (case poRules => k_is); (case saRules => k_is); (case mkRules => k_is); (case kcRules => k_is); (case nfRules_table => k_is); (case qnRules => k_is); (case qoRules => k_is); (case qcRules => k_is); (case qtRules => k_is); (case qaRules => k_is); (case qgRules => k_is); (case qkRules => k_is); (case qmRules => k_is); (case qNoneTypeRules => k_is); (case qboolRules => k_is); (case qintRules => k_is); (case qstrRules => k_is); (case qlistRules => k_is); (case qtupleRules => k_is); (case qdictRules => k_is); (case z_MOST_VARIABLES => k_is); (case z_LONGEST_TEXT => k_is); (case z_GREATEST_LETTER => k_is); (case z_GREATEST_START => k_is); (case z_MOST_IMAGES => k_is); (case z_LONGEST_IMAGE => k_is); (case z_MOST_STEPS => k_is); (case z_isinstance => k_is); (case z_bool => k_is); (case z_int => k_is); (case z_all => k_is); (case z_len => k_is); (case z_tuple => k_is); (case z_range => k_is); (case z_max => k_is); (case z_list => k_is); (case z_abs => k_is); (case z_OverflowError => k_is); (case z_repr => k_is); (case z_ValueError => k_is); (case z_min => k_is); (case z_sum => k_is); (case z_reversed => k_is)
