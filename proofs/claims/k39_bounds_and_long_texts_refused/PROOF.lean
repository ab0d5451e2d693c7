import PyProof.Rows.All
import Wide.All
import OpenK.AllK
import Wide.FinOn
import HandS.ForMost
import HandS.SetKeys
import HandS.Walk
import HandS.Style
import HandS.SetFor
import HandS.IsInst
import HandS.Wide
import PyProof.Draws
import PyProof.EnumMake
import HandS.Replace
import HandS.Exc
import HandS.WordsExc
import HandS.ExcInit
import HandS.ExcField
import HandS.ExcIs
import HandS.TryOnly
import HandS.CallSlots
import HandS.ExcOwn
import PyProof.ReprRoads
import HandS.Ends
import HandS.EndOwn
import HandS.Comp
import HandS.TupAny
import HandS.TupMul
import PyProof.TupleOfStr
import PyProof.NeKinds
import PyProof.EqAt
import PyProof.ReprBulk
import PyProof.Rows.StrBin
import PyProof.Rows.ReprOcc
import PyProof.ReprLen
import PyProof.WalksMore
import PyProof.Rows.StrOr
import HandS.Deep
import KE.DataFind
import KE.KExcInit
import PyProof.ExcBaseAll.OverflowError
import HandS.TryMany
import HandS.RaiseMore
import KE.KIndexOf
import HandS.Evl
import HandS.CallLocal
import HandS.More
import KE.KEqSeq
import PyProof.Rows.TmSorted
import PyProof.Rows.StrCountLaw
import HandS.Text
import HandS.TupSets
import PySem.Challenge.RW_mustoccur_k39_bounds_and_long_texts_refu
set_option Elab.async false
set_option linter.all false
set_option maxRecDepth 100000
set_option maxHeartbeats 8000000
/-! Rules that the laws of this program want and the layer lacks: repr and reversal of a text, enumerate of a text, the set of a text's signs and its size. -/
namespace Mo
open PySem PySem.Spec PyProof.Rows L2
/-! ### signs met, in the order of first occurrence -/
def metStep (acc : List Nat) (c : Nat) : List Nat := if c ∈ acc then acc else acc ++ [c]
def met (cs : List Nat) : List Nat := cs.foldl metStep []
theorem met_snoc (cs : List Nat) (c : Nat) : met (cs ++ [c]) = metStep (met cs) c := by
  unfold met
  rw [List.foldl_append]
  rfl
theorem mem_metStep {acc : List Nat} {c d : Nat} : d ∈ metStep acc c ↔ d ∈ acc ∨ d = c := by
  unfold metStep
  by_cases h : c ∈ acc
  · rw [if_pos h]
    constructor
    · exact Or.inl
    · rintro (q | q)
      · exact q
      · rw [q]; exact h
  · rw [if_neg h, List.mem_append, List.mem_singleton]
theorem mem_fold : ∀ (cs acc : List Nat) (d : Nat), d ∈ cs.foldl metStep acc ↔ d ∈ acc ∨ d ∈ cs
  | [], acc, d => by simp
  | c :: cs, acc, d => by
    rw [List.foldl_cons, mem_fold cs (metStep acc c) d, mem_metStep, List.mem_cons, or_assoc]
theorem mem_met {cs : List Nat} {d : Nat} : d ∈ met cs ↔ d ∈ cs := by
  unfold met
  rw [mem_fold]
  simp
theorem metStep_length (acc : List Nat) (c : Nat) : (metStep acc c).length = if c ∈ acc then acc.length else acc.length + 1 := by
  unfold metStep
  split <;> simp
theorem metStep_nodup {acc : List Nat} (h : acc.Nodup) (c : Nat) : (metStep acc c).Nodup := by
  unfold metStep
  by_cases q : c ∈ acc
  · rw [if_pos q]; exact h
  · rw [if_neg q]
    exact List.nodup_append.mpr ⟨h, by simp, by rintro a ha b hb rfl; exact q (by rw [← List.mem_singleton.mp hb]; exact ha)⟩
theorem fold_nodup : ∀ (cs acc : List Nat), acc.Nodup → (cs.foldl metStep acc).Nodup
  | [], _, h => h
  | c :: cs, _, h => fold_nodup cs _ (metStep_nodup h c)
theorem met_nodup (cs : List Nat) : (met cs).Nodup := fold_nodup cs [] List.nodup_nil
theorem met_length_le : ∀ cs : List Nat, (met cs).length ≤ cs.length := fun cs => by
  have key : ∀ (cs acc : List Nat), (cs.foldl metStep acc).length ≤ acc.length + cs.length := by
    intro cs
    induction cs with
    | nil => intro acc; simp
    | cons c cs ih =>
      intro acc
      rw [List.foldl_cons]
      have h1 := ih (metStep acc c)
      have h2 := metStep_length acc c
      rw [List.length_cons]
      split at h2 <;> omega
  have h := key cs []
  simpa [met] using h
/-- the keys that are signs of cs -/
def inS (cs : List Nat) (k : Key) : Bool := cs.any fun c => decide (k = Sum.inr (⟨#[c]⟩ : Str))
theorem sign_inj {c d : Nat} (h : (⟨#[c]⟩ : Str) = ⟨#[d]⟩) : c = d := by
  injection h with h
  simpa using h
theorem inS_sign (cs : List Nat) (c : Nat) : inS cs (Sum.inr ⟨#[c]⟩) = decide (c ∈ cs) := by
  unfold inS
  by_cases h : c ∈ cs
  · rw [decide_eq_true h]
    exact List.any_eq_true.mpr ⟨c, h, decide_eq_true rfl⟩
  · rw [decide_eq_false h]
    cases q : cs.any fun d => decide ((Sum.inr ⟨#[c]⟩ : Key) = Sum.inr ⟨#[d]⟩) with
    | false => rfl
    | true =>
      obtain ⟨d, hd, e⟩ := List.any_eq_true.mp q
      exact absurd (by rw [sign_inj (Sum.inr.inj (of_decide_eq_true e))]; exact hd) h
section
variable {P : Program} {w : World} {A : Around} {E : Value → Shared → Prop} {s : Shared}
theorem signs_loop {I : Addr} {fp wr : List Addr} {G : Array GenState → Array GenState → Prop} {n : Nat} {Pv : Nat → Value → Prop} {St : Nat → Shared → Prop} {R : Result → Shared → Prop}
    (W : WalksS P w A.in1 I fp wr G n Pv St) (D : Addr) (hD : D ∉ fp) (cs : List Nat) (hn : n = cs.length) (hb : cs.length + 1 < scanBound)
    (hval : ∀ i v, Pv i v → ∃ c t, cs[i]? = some c ∧ v = .str ⟨#[c]⟩ t) :
    ∀ (k i : Nat) (s : Shared), n - i = k → i ≤ n → St i s → s.heap.SetOf (mixKind P w) D (inS (cs.take i)) (met (cs.take i)).length →
      (∀ s', Moved (D :: wr) G s s' → s'.heap.SetOf (mixKind P w) D (inS cs) (met cs).length → R (.ok (.ret .none)) s') →
      codeAny (model P w) A (.builtin "set.update.loop" ⟨[.ref D, .ref I], []⟩) R s := by
  have hDw : D ∉ wr := fun h => hD (W.sub _ h)
  have up : ∀ b ∈ wr, b ∈ D :: wr := fun b q => List.mem_cons_of_mem _ q
  intro k
  induction k with
  | zero =>
    intro i s hk hi hst hS hR
    obtain rfl : i = n := by omega
    refine codeAny_builtin PyProof.Rows.F.entry_set_update_loop (by
      rw [Around.under_plainId PyProof.Rows.F.plain_set_update_loop _]
      show wpAny _ A.in1 (pyNext (.ref I) >>= _) _ _ s
      refine wpAny_bind (W.done s _ _ hst fun s' hm => wpAny_pure (hR s' (hm.mono up) ?_))
      rw [List.take_of_length_le (by omega)] at hS
      obtain ⟨o, es, ep, t, ho, rest⟩ := hS
      exact ⟨o, es, ep, t, hm.heap D _ hDw ho, rest⟩)
  | succ k ih =>
    intro i s hk hi hst hS hR
    have hlt : i < n := by omega
    refine codeAny_builtin PyProof.Rows.F.entry_set_update_loop (by
      rw [Around.under_plainId PyProof.Rows.F.plain_set_update_loop _]
      show wpAny _ A.in1 (pyNext (.ref I) >>= _) _ _ s
      refine wpAny_bind (W.item i s _ _ hlt hst fun v s' hP hst' hm => ?_)
      obtain ⟨c, t, hc, rfl⟩ := hval i v hP
      have hS' : s'.heap.SetOf (mixKind P w) D (inS (cs.take i)) (met (cs.take i)).length := by
        obtain ⟨o, es, ep, tb, ho, rest⟩ := hS
        exact ⟨o, es, ep, tb, hm.heap D _ hDw ho, rest⟩
      show wpAny _ A.in1 (holding [Value.str ⟨#[c]⟩ t] (setAdd D (.str ⟨#[c]⟩ t)) >>= _) _ _ s'
      refine wpAny_bind (wpAny_holding (by
        unfold setAdd
        refine wpAny_holding (wpAny_bind ((mixKind P w).pyHash (k := Sum.inr ⟨#[c]⟩) (mixKind_str _ _ _ _) ?_))
        have room : (met (cs.take i)).length + 1 < scanBound := by
          have h1 := met_length_le (cs.take i)
          rw [List.length_take] at h1
          omega
        refine wpAny_setAddHashed_of (knd := mixKind P w) (s := { s' with toks := s'.toks + 1 }) (mixKind_str _ _ _ _) rfl hS' room fun h' hsb hS2 => ?_
        have e3 : cs.take (i + 1) = cs.take i ++ [c] := by
          rw [List.take_add_one, hc]
          rfl
        have hS3 : h'.SetOf (mixKind P w) D (inS (cs.take (i + 1))) (met (cs.take (i + 1))).length := by
          have f1 : (fun k' => inS (cs.take i) k' || decide (k' = Sum.inr (⟨#[c]⟩ : Str))) = inS (cs.take (i + 1)) := by
            funext k'
            rw [e3]
            unfold inS
            rw [List.any_append]
            simp
          have f2 : (if inS (cs.take i) (Sum.inr ⟨#[c]⟩) = true then (met (cs.take i)).length else (met (cs.take i)).length + 1) = (met (cs.take (i + 1))).length := by
            rw [e3, met_snoc, metStep_length, inS_sign]
            by_cases q : c ∈ cs.take i
            · rw [if_pos (decide_eq_true q), if_pos (mem_met.mpr q)]
            · rw [if_neg (by rw [decide_eq_false q]; exact Bool.false_ne_true), if_neg (fun z => q (mem_met.mp z))]
          rw [← f1, ← f2]
          exact hS2
        refine wpAny_pure ⟨plainId_quiet PyProof.Rows.F.plain_set_update_loop _, ih (i + 1) _ (by omega) hlt (W.frame _ s' _ _ hst' (Nat.le_succ _) fun b q o e => ?_) hS3 fun s2 hm2 hS4 => ?_⟩
        · rw [hsb.2 b (fun z : b = D => hD (by rw [← z]; exact q))]
          exact e
        · refine hR s2 (Moved.trans W.gtrans ((hm.mono up).then_heap (Nat.le_succ _) fun b o q e => ?_) hm2) hS4
          rw [hsb.2 b (fun z : b = D => q (by rw [z]; exact List.mem_cons_self))]
          exact e)))

set_option maxHeartbeats 8000000 in
/-- set(a text) -/
theorem call_set_signs {z : Str} {t : Tok} {Q : Value → Shared → Prop} (hh : A.handled = none) (hb : z.cps.size + 1 < scanBound)
    (h : ∀ (h' : Heap) (tk : Nat), h'.SetOf (mixKind P w) s.heap.objs.size (inS z.cps.toList) (met z.cps.toList).length → (∀ b o, s.heap.get? b = some o → h'.get? b = some o) → Q (.ref s.heap.objs.size) { s with heap := h', toks := tk }) :
    wpAny (model P w) A (call (.type "set") [.str z t]) Q E s := by
  obtain ⟨c, tl, hmro⟩ := PySem.F.called_set.mro
  have hmade := PySem.F.called_set.made; have hsub := PySem.F.called_set.sub
  refine wpAny_call (codeAny_of_tree (by
    show wpAny _ _ (callAny (.type "set") _) _ _ _
    refine wpAny_pure ⟨Code.quiet_builtin _ (by decide +kernel), codeAny_builtin PySem.F.entry_type_call ?_⟩
    rw [Around.under_plain (weight_type_call_type "set" [.str z t] []) rfl]
    have h1 := PySem.F.called_set.notType; have h2 := PySem.F.called_set.canCreate
    have hct := PySem.F.typeCall_set_1 (.str z t)
    repeat (any_goals (first | assumption | wp_step))
    refine codeAny_mono (code_set_new_1 (.str z t) (E := E) (Q₁ := fun obj s₁ => ∃ led : Bool, obj = .ref s.heap.objs.size ∧ s₁ = { s with heap := s.heap.push { cls := .type "set", dict := none, data := .set #[] 0 (.fresh 0 0 led) } }) fun led => ⟨led, rfl, rfl⟩) fun r s₁ hr => ?_
    cases r with
    | error e => exact hr
    | ok fl =>
      cases fl with
      | ret obj =>
        obtain ⟨led, rfl, rfl⟩ := hr
        generalize hNew : ({ cls := .type "set", dict := none, data := .set #[] 0 (.fresh 0 0 led) } : Obj) = nw
        have hfr : ∀ (h : Heap) (a : Addr), h.get? a = some nw → h.SetOf (mixKind P w) a (inS []) (met []).length := by
          intro h a e
          rw [← hNew] at e
          exact ⟨_, #[], 0, _, e, ⟨rfl, rfl, rfl⟩, rfl, (fun e he => by simp at he), (fun k => by simp [inS]), (by decide), (by rfl), rfl⟩
        have hcls : nw.cls = .type "set" := by rw [← hNew]
        have hnf : nw.isFreed = false := by rw [← hNew]; rfl
        have hS : (s.heap.push nw).get? s.heap.objs.size = some nw := Heap.get?_push_size _ hnf
        have hT : Shared.TypeIs { s with heap := s.heap.push nw } (.ref s.heap.objs.size) "set" := ⟨_, hS, hcls⟩
        have hli := PySem.F.called_set.init.lookup; have hbi := PySem.F.called_set.init.bind (.ref s.heap.objs.size)
        repeat (any_goals (first | assumption | wp_step))
        refine codeAny_mono (codeAny_call_builtin (R := wants (fun r s₂ => r = .none ∧ ∃ h' tk, s₂ = { s with heap := h', toks := tk } ∧ h'.SetOf (mixKind P w) s.heap.objs.size (inS z.cps.toList) (met z.cps.toList).length ∧
          (∀ b o, s.heap.get? b = some o → h'.get? b = some o)) E) PySem.F.called_set.init.plain PySem.F.entry_set_init (check_set_init_1 hT ?_)) fun r₂ s₂ hr₂ => ?_
        · subst hNew
          have n1 : isSubtype (.type "str") (.type "set") = pure false := by rw [isSubtype_type]; kernel_rfl
          have n2 : isSubtype (.type "str") (.type "frozenset") = pure false := by rw [isSubtype_type]; kernel_rfl
          have n3 : (Value.type "str" == Value.type "dict") = false := by decide
          unfold Builtin.«set.__init__» noKeywords Builtin.Frozenset.updateFrom
          generalize hPI : pyIter = PI
          wp_walk
          subst hPI
          have hh3 : A.in1.in1.in1.handled = none := by simp [hh]
          generalize hNew : ({ cls := .type "set", data := .set #[] 0 (.fresh 0 0 led) } : Obj) = nw at *
          have hz1 : (s.heap.push nw).objs.size = s.heap.objs.size + 1 := Heap.size_push ..
          have fin : ∀ (ty : String) (wk : Walks P w A.in1.in1.in1 (s.heap.push nw).objs.size [(s.heap.push nw).objs.size] [(s.heap.push nw).objs.size] z.cps.size (SignAt z) (fun i h => h.IsStrIter (s.heap.push nw).objs.size ty z t i))
              (Rk : Result → Shared → Prop), (∀ h' tk, h'.SetOf (mixKind P w) s.heap.objs.size (inS z.cps.toList) (met z.cps.toList).length → (∀ b o, s.heap.get? b = some o → h'.get? b = some o) → Rk (.ok (.ret .none)) { s with heap := h', toks := tk }) →
              codeAny (model P w) A.in1.in1 (.builtin "set.update.loop" ⟨[.ref s.heap.objs.size, .ref (s.heap.push nw).objs.size], []⟩) Rk
                { s with heap := (s.heap.push nw).push { cls := .type ty, data := .fields #[.str z t, .int 0 0] } } := by
            intro ty wk Rk hR
            refine signs_loop (wk.toS) s.heap.objs.size (by rw [hz1]; simp) z.cps.toList (by simp) (by simpa using hb) (fun i v hv => ?_) (z.cps.size - 0) 0 _ (by omega) (Nat.zero_le _) ⟨_, Heap.get?_push_size _ rfl, rfl, rfl⟩ ?_ ?_
            · obtain ⟨c, u, hc, rfl⟩ := hv
              exact ⟨c, u, by rw [Array.getElem?_toList]; exact hc, rfl⟩
            · exact hfr _ _ (Heap.get?_push_of_some _ hS)
            · intro s' hm hS'
              obtain ⟨h', g', d', tk', os'⟩ := s'
              obtain rfl : g' = s.gens := hm.gens
              obtain rfl : d' = s.drawn := hm.drawn
              obtain rfl : os' = s.os := hm.os
              refine hR h' tk' hS' fun b o e => ?_
              have hb0 : b < s.heap.objs.size := Heap.lt_size e
              have n1 : b ∉ s.heap.objs.size :: [(s.heap.push nw).objs.size] := by
                rw [hz1]
                intro q
                rcases List.mem_cons.mp q with q | q
                · exact Nat.ne_of_lt hb0 q
                · exact Nat.ne_of_lt (Nat.lt_succ_of_lt hb0) (List.mem_singleton.mp q)
              exact hm.heap b o n1 (Heap.get?_push_of_some _ (Heap.get?_push_of_some _ e))
          cases ha : z.cps.all (· < 128)
          · refine wpAny_pyIter_wide ha (wpAny_bind (wpAny_runValue (fin _ (Walks.strWide hh3 _ z t) _ fun h' tk hS2 hk2 => wpAny_pure ?_)))
            exact wpAny_pure ⟨rfl, h', tk, rfl, hS2, hk2⟩
          · refine wpAny_pyIter_ascii ha (wpAny_bind (wpAny_runValue (fin _ (Walks.strAscii hh3 _ z t) _ fun h' tk hS2 hk2 => wpAny_pure ?_)))
            exact wpAny_pure ⟨rfl, h', tk, rfl, hS2, hk2⟩
        · cases r₂ with
          | error e => exact hr₂
          | ok fl₂ =>
            cases fl₂ with
            | ret r =>
              obtain ⟨rfl, h', tk, rfl, hS', hk'⟩ := hr₂
              repeat (any_goals (first | assumption | wp_step))
              exact h _ _ hS' hk'
            | _ => exact hr₂.elim
      | _ => exact hr.elim))
end
end Mo

namespace Mo
open PySem PySem.Spec PyProof.Rows L2
/-! ### the rules over the layer -/
section
variable {X : Cx}
def rSetS (P : Program) (w : World) : List V → Hp → VK → Prop := fun xs H Q => ∃ z : Str, xs = [.str z] ∧ z.cps.size ≤ 4000 ∧ ∀ p, H p = none → Q (.ref p) (upd H p (SetK P w p (inS z.cps.toList) (met z.cps.toList).length))
/-- set(z), z a text -/
theorem cr_setS (hc : X.calm = true) : CallR X (.type "set") (rSetS X.prog X.w) := by
  intro pins s σ H xs us Q I r h
  obtain ⟨z, rfl, hz, q⟩ := h
  obtain ⟨u, rfl, t, rfl⟩ := vals1 r
  refine call_set_signs (I.ok.hd hc) (by unfold scanBound; omega) fun h' tk hS hk => ?_
  exact ⟨.ref _, _, I.laid (t' := tk) hk (Nat.le_refl _) (setK_new hS), rfl, q _ (I.hok.fresh (Nat.le_refl _))⟩
def rLenK (P : Program) (w : World) : List V → Hp → VK → Prop := fun xs H Q => ∃ a S n, xs = [V.ref a] ∧ H a = some (SetK P w a S n) ∧ (n : Int) < 2 ^ 62 ∧ Q (.int (n : Nat)) H
/-- len(a set) -/
theorem cr_lenK : CallR X (.builtin "len") (rLenK X.prog X.w) := by
  intro pins s σ H xs us Q I r h
  obtain ⟨a, S, n, rfl, ha, hn, q⟩ := h
  obtain ⟨u, rfl, ru⟩ := vals1 r
  cases ru
  obtain ⟨o, es, ep, t, ho, hex, hd, _, _, _, hf, hes⟩ := setK_get I ha
  refine call_len_set ho hex hd hf (by rw [hes]; omega) ⟨.int (n : Nat), H, I.tok _, ⟨_, by rw [hes]⟩, q⟩
/-- repr(z), z a text -/
theorem cr_reprS : CallR X (.builtin "repr") (fun xs H Q => ∃ z : Str, xs = [.str z] ∧ (reprText z).length ≤ sizeLine ∧ Q (.str (reprText z)) H) := by
  intro pins s σ H xs us Q I r h
  obtain ⟨z, rfl, hz, q⟩ := h
  obtain ⟨u, rfl, t, rfl⟩ := vals1 r
  exact PySem.P.repr_of_str ⟨.str _, H, I.tok _, ⟨_, rfl⟩, q⟩ hz
/-! rules within a comprehension's block: the written part named, so that the reading is the same in every block -/
def rLenSq (K : PySem.W.Frag) : List V → Hp → VK → Prop := fun xs H Q => ∃ p ys, xs = [.ref p] ∧ (SqL K H p ys ∨ SqT K H p ys) ∧ Q (.int ys.length) H
theorem call_len_seqK {K : PySem.W.Frag} (h : X.K = K) : CallR X (.builtin "len") (rLenSq K) := by
  subst h
  exact call_len_seq
theorem ix_listK {K : PySem.W.Frag} (h : X.K = K) : IxR X (rIxL K) := by
  subst h
  exact ix_list
theorem op_notIn_seqK {K : PySem.W.Frag} (h : X.K = K) : OpR X (compareOp .NotIn) (rIn K true) := by
  subst h
  exact op_notIn_seq
theorem op_in_seqK {K : PySem.W.Frag} (h : X.K = K) : OpR X (compareOp .In) (rIn K false) := by
  subst h
  exact op_in_seq
theorem pg_tupK {K : PySem.W.Frag} {es : List Expr} {t : TGs} {k n : Nat} {pos : Pos} (h : X.K = K) (hc : X.calm = true) (hs : PGs X es t)
    (hn : (assignEach es X.env).length = n := by rfl) (hst : (assignEach es X.env).findIdx? (·.1) = none := by rfl) : PG X (.Tuple es k pos) (gTup K n t) := by
  subst h
  exact pg_tup hc hs hn hst
/-- z[::-1], z a text -/
def revS (z : Str) : Str := ⟨z.cps.toList.reverse.toArray⟩
def tRevS (te : TE) : TE := fun σ H Q => te σ H fun x H1 => ∃ z, x = .str z ∧ z.length ≤ sizeLine ∧ Q (.str (revS z)) H1
theorem back_idx (n : Nat) : Builtin.Str.strSliceIndices none none (-1) n = (List.range n).reverse := by
  show sliceRange ((n : Int) - 1) (-1) (-1) = _
  rw [PySem.W.krv_sliceRange, PySem.W.krv_range]
theorem back_pick (z : Str) : ((Builtin.Str.strSliceIndices none none (-1) z.length).filterMap (z.cps[·]?)).toArray = z.cps.toList.reverse.toArray := by
  rw [back_idx, List.filterMap_reverse]
  show ((List.range z.cps.size).filterMap (z.cps[·]?)).reverse.toArray = _
  rw [PySem.W.krv_all]
theorem pe_revS {e : Expr} {te : TE} {k : Nat} {p1 p2 p3 pos : Pos} (he : PE X e te) : PE X (.Subscript e (.Slice none none (some (.UnaryOp .USub (.Constant (.int 1) k p1) p2)) p3) pos) (tRevS te) := by
  refine ⟨fun pins s σ H Q I h => ?_⟩
  refine Subscript_ (thn (he.run pins s σ H _ I h) fun v s1 ⟨x, H1, I1, r1, z, ez, hz, q⟩ => ?_)
  subst ez
  obtain ⟨t, rfl⟩ := r1
  have hst : PO X (some (.UnaryOp .USub (.Constant (.int 1) k p1) p2)) (tPart (tUn (rU fun i => .int (-i)) (tC (.int 1)))) := po_some (pe_un un_neg pe_int)
  refine wpAny_Slice (thn (po_none.run pins s1 σ H1 (fun o H2 => o = none ∧ H2 = H1) I1 ⟨rfl, rfl⟩) fun vl s2 ⟨l, H2, I2, pl, el, e2⟩ => ?_)
  subst el e2
  refine thn (po_none.run pins s2 σ H2 (fun o H3 => o = none ∧ H3 = H2) I2 ⟨rfl, rfl⟩) fun vu s3 ⟨u, H3, I3, pu, eu, e3⟩ => ?_
  subst eu e3
  refine thn (hst.run pins s3 σ H3 (fun o H4 => o = some (-1) ∧ H4 = H3) I3 ⟨1, rfl, -1, rfl, rfl, rfl⟩) fun vs s4 ⟨o, H4, I4, ps, eo, e4⟩ => ?_
  subst eo e4
  have I5 : Inv X pins σ H4 { s4 with heap := s4.heap.push { cls := .type "slice", data := .fields #[vl, vu, vs] } } := I4.kept (t' := s4.toks) fun b ob q => Heap.get?_push_of_some _ q
  obtain ⟨l, rfl, el⟩ := IsPart.raw pl
  obtain ⟨u, rfl, eu⟩ := IsPart.raw pu
  obtain ⟨sp, rfl, es⟩ := IsPart.raw ps
  show wpAny (model X.prog X.w) X.A (subscriptTail e (.Slice none none (some (.UnaryOp .USub (.Constant (.int 1) k p1) p2)) p3) (.str z t) (.ref s4.heap.objs.size)) (EP X pins σ Q) X.xe { s4 with heap := s4.heap.push { cls := .type "slice", data := .fields #[partValue l, partValue u, partValue sp] } }
  refine tail_any (ops := [.str z t, .ref s4.heap.objs.size]) (typeIs_str _ _ _) (F.slot_str_getitem.lookup) ?_ (by with_unfolding_all rfl)
  refine wpAny_getItem_str_slice (l := l) (u := u) (st := sp) ⟨_, Heap.get?_push_size _ rfl, rfl, rfl⟩ (by rw [es]; rfl) ?_
  unfold sliceMade slicePicked
  rw [el, eu, es]
  show Made.post (Made.str ⟨((Builtin.Str.strSliceIndices none none (-1) z.length).filterMap (z.cps[·]?)).toArray⟩) (EP X pins σ Q) _
  rw [back_pick]
  refine ⟨?_, .str (revS z), H4, I5.tok _, ⟨_, rfl⟩, q⟩
  show (z.cps.toList.reverse.toArray).size ≤ sizeLine
  rw [List.size_toArray, List.length_reverse, Array.length_toList]
  exact hz
/-! ### enumerate(z), z a text -/
def IteS (z : Str) : It := ⟨fun i _ => i < z.cps.size, fun i H v H' => ∃ T c, v = .ref T ∧ H T = none ∧ z.cps[i]? = some c ∧ H' = upd H T (.tup [.int (i : Nat), .str ⟨#[c]⟩]), fun i _ => z.cps.size ≤ i⟩
theorem strIter_kind (z : Str) : strIterType z = "str_ascii_iterator" ∨ strIterType z = "str_iterator" := by
  unfold strIterType
  split
  · exact .inl rfl
  · exact .inr rfl
theorem draws_str {P : Program} {w : World} {A : Around} (hh : A.handled = none) (it : Addr) (z : Str) (t : Tok) :
    Draws P w A it [it] z.cps.size (fun i v => ∃ c u, z.cps[i]? = some c ∧ v = .str ⟨#[c]⟩ u) (fun i h => h.IsStrIter it (strIterType z) z t i) := by
  rcases strIter_kind z with e | e
  · rw [e]; exact Draws.strAscii hh it z t
  · rw [e]; exact Draws.strWide hh it z t
theorem turn_enumS {P : Program} {w : World} {K : PySem.W.Frag} {elts : List Expr} {kk : Nat} {tpos : Pos} (z : Str) (t : Tok) (e it : Addr) :
    Turn P w K (.Tuple elts kk tpos) (IteS z) [e, it] e (fun i h => (∃ old, IsEnum h e it ((i : Nat) : Int) old) ∧ h.IsStrIter it (strIterType z) z t i ∧ e ≠ it ∧ i ≤ z.cps.size) where
  mem := by simp
  obj := fun i h st b hb => by
    obtain ⟨⟨old, he⟩, ⟨o, ho, hc, hd⟩, _⟩ := st
    rcases (by simpa using hb : b = e ∨ b = it) with q | q
    · rw [q]; exact ⟨_, he, fun v q => nomatch q⟩
    · rw [q]; exact ⟨o, ho, fun v q => by rw [hd] at q; cases q⟩
  keep := fun i h h' st k => let ⟨⟨old, he⟩, ⟨o, ho, r⟩, hne⟩ := st; ⟨⟨old, k e (by simp) _ he⟩, ⟨o, k it (by simp) o ho, r⟩, hne⟩
  item := by
    intro X hP hw hK hc i pins s σ H E I hf st hg
    subst hP hw hK
    obtain ⟨⟨old, he⟩, hit, hne, hle⟩ := st
    have hi : i < z.cps.size := hg
    have hel : e < s.heap.objs.size := Heap.lt_size he
    have hil : it < s.heap.objs.size := by obtain ⟨_, q, _⟩ := hit; exact Heap.lt_size q
    have hh : X.A.in1.handled = none := by simpa using I.ok.hd hc
    refine wpAny_pyNext_enum_itemD (draws_str hh it z t) he hit hi hne (by simpa using hne) fun x h' tk hP ho hit' hT hsz hk => ?_
    obtain ⟨c, u, hcx, rfl⟩ := hP
    refine ⟨_, rfl, wpAny_letOwnedTupleGo_enum (s := { s with heap := h', toks := tk + 1 }) ho fun h2 he' sb => ?_⟩
    have hT2 := (sb.2 _ (Nat.ne_of_gt hel)).trans hT
    have new : ObjOk X.prog X.w (upd H s.heap.objs.size (.tup [.int (i : Nat), .str ⟨#[c]⟩])) h2 s.heap.objs.size (.tup [.int (i : Nat), .str ⟨#[c]⟩]) :=
      ⟨by show 2 ≤ sizeLine; decide, [.int i tk, .str ⟨#[c]⟩ u], .cons ⟨_, rfl⟩ (.cons ⟨_, rfl⟩ .nil), ⟨_, hT2, rfl, _, rfl⟩⟩
    have I1 : Inv X pins σ (upd H s.heap.objs.size (.tup [.int (i : Nat), .str ⟨#[c]⟩])) { s with heap := h2, toks := tk + 1 } :=
      I.turnedNew (ch := [e, it]) (fun b ob hb q => (sb.2 b (fun z => hb (by simp [z]))).trans (hk b ob (fun z => hb (by simp [z])) (fun z => hb (by simp [z])) q)) hf (Nat.le_refl _) new
    obtain ⟨oi, hoi, r⟩ := hit'
    refine ⟨.ref s.heap.objs.size, _, I1, rfl, ⟨_, c, rfl, I.hok.fresh (Nat.le_refl _), hcx, rfl⟩, ⟨⟨.str ⟨#[c]⟩ u, ?_⟩, ⟨oi, (sb.2 it (Ne.symm hne)).trans hoi, r⟩, hne, hi⟩, fun b hb => ?_⟩
    · have e1 : ((i + 1 : Nat) : Int) = (i : Int) + 1 := by omega
      rw [e1]; exact he'
    · have hb' : b < s.heap.objs.size := by
        rcases (by simpa using hb : b = e ∨ b = it) with q | q
        · rw [q]; exact hel
        · rw [q]; exact hil
      rw [upd_ne (Nat.ne_of_lt hb')]
      exact (hf b hb).1
  done := by
    intro X hP hw hK hc i pins s σ H E I hf st hg
    subst hP hw hK
    obtain ⟨⟨old, he⟩, hit, hne, hle⟩ := st
    have hi : i = z.cps.size := Nat.le_antisymm hle hg
    subst hi
    obtain ⟨f0, f1, f2, f3, f4, f5⟩ := hf it (by simp)
    have hh : X.A.in1.handled = none := by simpa using I.ok.hd hc
    exact wpAny_pyNext_enum_endD (draws_str hh it z t) he hit fun h' eb => ⟨rfl, I.turned (t' := s.toks) (fun b o hb q => eb b o hb q) f0 f1 f3 f4 f5⟩
  self := fun A i s Q E st h => let ⟨⟨_, he⟩, _⟩ := st; wpAny_pyIter_enum he h
def iEnumS (ta : TA) : TI := fun σ H R => ta σ H fun vs H1 => ∃ z : Str, vs = [.str z] ∧ R (IteS z) H1
theorem pi_enumS {e : Expr} {ta : TA} {p pos tpos : Pos} {elts : List Expr} {kk : Nat} (hg : Gl X "enumerate") (hm : X.mg "enumerate" = none) (ha : PA X [e] ta) (hs : starEach [e] X.env = [(false, eval e X.env)] := by rfl) :
    PI X (.Tuple elts kk tpos) (.Call (.Name "enumerate" p) [e] [] pos) (iEnumS ta) := by
  refine ⟨fun pins s σ H R I h => ?_⟩
  refine Call_ (ld_blt I hg hm boot_enumerate (PyProof.Rows.callWith_type1 (thn (ha.run pos pins s σ H _ I h) fun us s1 ⟨vs, H1, I1, r1, q1⟩ => ?_) hs rfl))
  obtain ⟨z, rfl, q⟩ := q1
  obtain ⟨u, rfl, t, rfl⟩ := vals1 r1
  refine call_enumerate_str fun h' he hit hsz hk => wpAny_pyIter_enum he ?_
  have I2 : Inv X pins σ H1 { s1 with heap := h' } := I1.kept (t' := s1.toks) hk
  refine ⟨s1.heap.objs.size + 1, [s1.heap.objs.size + 1, s1.heap.objs.size], _, _, H1, rfl, I2, turn_enumS z t (s1.heap.objs.size + 1) s1.heap.objs.size, ⟨⟨.none, he⟩, hit, Nat.succ_ne_self _, Nat.zero_le _⟩, fun b hb => ?_, q⟩
  have hle : s1.heap.objs.size ≤ b := by
    rcases (by simpa using hb : b = s1.heap.objs.size + 1 ∨ b = s1.heap.objs.size) with q | q
    · rw [q]; exact Nat.le_add_right _ _
    · rw [q]; exact Nat.le_refl _
  exact I1.fpOk hle (I1.hok.fresh hle)
theorem walk_enumS {z : Str} : Walk (IteS z) z.cps.size (fun _ => True) (YPair (fun i => some (.int (i : Nat))) (fun i => z.cps[i]?.map fun c => .str ⟨#[c]⟩)) :=
  ⟨fun _ _ hi _ => hi, fun _ _ => Nat.le_refl _, fun i H v H' _ _ ⟨T, c, h1, h2, h3, h4⟩ => ⟨T, .int (i : Nat), .str ⟨#[c]⟩, h1, h2, h4, rfl, by show Option.map _ z.cps[i]? = _; rw [h3]; rfl⟩⟩
end
end Mo

namespace Mo
open PySem PySem.Spec PyProof.Rows L2
/-! ### texts as lists of codes -/
def tx (cs : List Nat) : Str := ⟨cs.toArray⟩
abbrev sg (c : Nat) : V := .str ⟨#[c]⟩
theorem tx_eta (z : Str) : tx z.cps.toList = z := rfl
theorem tx_list (cs : List Nat) : (tx cs).cps.toList = cs := rfl
theorem tx_len (cs : List Nat) : (tx cs).length = cs.length := by show cs.toArray.size = _; simp
theorem tx_size (cs : List Nat) : (tx cs).cps.size = cs.length := by show cs.toArray.size = _; simp
theorem tx_inj {a b : List Nat} (h : tx a = tx b) : a = b := by
  have q := congrArg (fun z : Str => z.cps.toList) h
  exact q
theorem tx_app (a b : List Nat) : tx a ++ tx b = tx (a ++ b) := by
  show (⟨a.toArray ++ b.toArray⟩ : Str) = ⟨(a ++ b).toArray⟩
  simp
theorem tx_app1 (a : List Nat) (c : Nat) : tx a ++ (⟨#[c]⟩ : Str) = tx (a ++ [c]) := tx_app a [c]
theorem tx_get {cs : List Nat} {i : Nat} : (tx cs).cps[i]? = cs[i]? := by
  show cs.toArray[i]? = cs[i]?
  simp
theorem fits5 {n : Nat} (h : n ≤ 100000) : n ≤ sizeLine := Nat.le_trans h (by decide)
theorem fitsLt {n : Nat} (h : n ≤ 100000) : n < sizeLine := Nat.lt_of_le_of_lt h (by decide)
/-- small letters alone -/
def Low (cs : List Nat) : Prop := ∀ c ∈ cs, 97 ≤ c ∧ c ≤ 122
theorem tx_nil : Str.ofString "" = tx [] := by decide +kernel
theorem join_signs : ∀ cs : List Nat, Txt.join (Str.ofString "") (cs.map fun c => (⟨#[c]⟩ : Str)) = tx cs := by
  have key : ∀ cs : List Nat, Str.join (tx []) (cs.map fun c => (⟨#[c]⟩ : Str)) = tx cs := by
    intro cs
    induction cs with
    | nil => rfl
    | cons c r ih =>
      cases r with
      | nil => rfl
      | cons e r =>
        show (⟨#[c]⟩ : Str) ++ tx [] ++ Str.join (tx []) ((e :: r).map fun c => (⟨#[c]⟩ : Str)) = tx (c :: e :: r)
        rw [ih]
        show tx [c] ++ tx [] ++ tx (e :: r) = _
        rw [tx_app, tx_app]
        rfl
  intro cs
  show Builtin.Str.glued _ _ = _
  rw [StrLaws.glued_eq_join, tx_nil]
  exact key cs
/-! ### the pen -/
def penD (c : Addr) (t r : Int) : List (Key × V) := [(.inr "cells", .ref c), (.inr "turn", .int t), (.inr "rest", .int r)]
theorem k_ct : ¬ ((Sum.inr "cells" : Key) = (Sum.inr "turn" : Key)) := by decide +kernel
theorem k_cr : ¬ ((Sum.inr "cells" : Key) = (Sum.inr "rest" : Key)) := by decide +kernel
theorem k_tr : ¬ ((Sum.inr "turn" : Key) = (Sum.inr "rest" : Key)) := by decide +kernel
theorem pen_cells (c : Addr) (t r : Int) : valV (penD c t r) (Sum.inr "cells") = some (.ref c) := valV_pos rfl
theorem pen_turn (c : Addr) (t r : Int) : valV (penD c t r) (Sum.inr "turn") = some (.int t) := by
  unfold penD
  rw [valV_neg k_ct, valV_pos rfl]
theorem pen_rest (c : Addr) (t r : Int) : valV (penD c t r) (Sum.inr "rest") = some (.int r) := by
  unfold penD
  rw [valV_neg k_cr, valV_neg k_tr, valV_pos rfl]
theorem put_turn (c : Addr) (t r u : Int) : putK (penD c t r) (Sum.inr "turn") (.int u) = penD c u r := by
  unfold putK penD
  have k1 := k_ct
  have k2 : ¬ ((Sum.inr "rest" : Key) = (Sum.inr "turn" : Key)) := fun e => k_tr e.symm
  simp only [List.any_cons, List.map_cons, List.map_nil, k1, k2, if_false, if_true, decide_true, decide_false, Bool.true_or, Bool.or_true, Bool.false_or]
theorem put_rest (c : Addr) (t r u : Int) : putK (penD c t r) (Sum.inr "rest") (.int u) = penD c t u := by
  unfold putK penD
  have k1 := k_cr
  have k2 := k_tr
  simp only [List.any_cons, List.map_cons, List.map_nil, k1, k2, if_false, if_true, decide_true, decide_false, Bool.true_or, Bool.or_true, Bool.false_or]
theorem pen_merge (c : Addr) (t r : Int) : mergeK [] (penD c t r) = penD c t r := by
  have k1 := k_ct
  have k2 := k_cr
  have k3 := k_tr
  simp only [mergeK, penD, putK, List.foldl_cons, List.foldl_nil, List.any_nil, List.any_cons, List.nil_append, List.cons_append, k1, k2, k3, decide_false, Bool.or_false, Bool.false_eq_true, if_false]
/-- the pen at d, its cells at c, t draws done -/
def Pen (H : Hp) (d c : Addr) (t : Nat) : Prop := ∃ (ns : List Int) (r : Int), H d = some (.dK (penD c t r)) ∧ H c = some (.lst (ns.map V.int)) ∧ ns.length ≤ 63 ∧ 0 ≤ r
theorem Pen.ne {H : Hp} {d c : Addr} {t : Nat} (h : Pen H d c t) : d ≠ c := by
  obtain ⟨ns, r, h1, h2, _⟩ := h
  exact ne_of h1 h2 (by intro z; cases z)
/-- all but d is as it was -/
def But (d : Addr) (H H' : Hp) : Prop := ∀ b o, b ≠ d → H b = some o → H' b = some o
theorem But.refl (d : Addr) (H : Hp) : But d H H := fun _ _ _ h => h
theorem But.trans {d : Addr} {H H1 H2 : Hp} (a : But d H H1) (b : But d H1 H2) : But d H H2 := fun c o n h => b c o n (a c o n h)
theorem But.same {d : Addr} {H H1 : Hp} (a : Same H H1) : But d H H1 := fun c o _ h => a c o h
theorem But.none {d : Addr} {H H1 : Hp} (a : But d H H1) {p : Addr} (h : H1 p = none) (n : p ≠ d) : H p = none := by
  cases q : H p with
  | none => rfl
  | some o =>
    rw [a p o n q] at h
    cases h
theorem Pen.new {H : Hp} {d c : Addr} {t : Nat} (h : Pen H d c t) {p : Addr} (hp : H p = none) : p ≠ d ∧ p ≠ c := by
  obtain ⟨ns, r, h1, h2, _⟩ := h
  exact ⟨(ne_of_none h1 hp).symm, (ne_of_none h2 hp).symm⟩
theorem Pen.upd {H : Hp} {d c : Addr} {t : Nat} (h : Pen H d c t) {p : Addr} {o : HO} (h1 : p ≠ d) (h2 : p ≠ c) : Pen (upd H p o) d c t := by
  obtain ⟨ns, r, e1, e2, e3⟩ := h
  exact ⟨ns, r, by rw [upd_ne h1.symm]; exact e1, by rw [upd_ne h2.symm]; exact e2, e3⟩
theorem Pen.same {H H' : Hp} {d c : Addr} {t : Nat} (h : Pen H d c t) (s : Same H H') : Pen H' d c t := by
  obtain ⟨ns, r, e1, e2, e3⟩ := h
  exact ⟨ns, r, s _ _ e1, s _ _ e2, e3⟩
theorem same_new {H : Hp} {p : Addr} {o : HO} (h : H p = none) : Same H (L2.upd H p o) := fun b x e => by
  rw [upd_ne (ne_of_none e h)]
  exact e
theorem But.set {d : Addr} {H : Hp} {o : HO} : But d H (L2.upd H d o) := fun b x n e => by
  rw [upd_ne n]
  exact e
theorem But.put {d : Addr} {H H' : Hp} {o : HO} (b : But d H H') {D : Addr} (n : H D = Option.none) : But d H (L2.upd H' D o) := fun x y nx e => by
  rw [upd_ne (ne_of_none e n)]
  exact b x y nx e
theorem Same.put {H H' : Hp} {o : HO} (b : Same H H') {D : Addr} (n : H D = Option.none) : Same H (L2.upd H' D o) := fun x y e => by
  rw [upd_ne (ne_of_none e n)]
  exact b x y e
theorem pen_set {H : Hp} {d c : Addr} {t : Nat} (h : Pen H d c t) {u : Nat} {r : Int} (hr : 0 ≤ r) : Pen (L2.upd H d (.dK (penD c u r))) d c u := by
  have n := h.ne
  obtain ⟨ns, r0, e1, e2, e3, _⟩ := h
  exact ⟨ns, r, upd_same, by rw [upd_ne n.symm]; exact e2, e3, hr⟩
def spDraw : Sp := fun vs H Q _ => ∃ (d c : Addr) (n : Int) (t : Nat), vs = [.ref d, .int n] ∧ Pen H d c t ∧ 0 < n ∧ n < 1073741824 ∧ t < 1073741824 ∧
  ∀ H' k t', But d H H' → Pen H' d c t' → t' ≤ t + 1 → 0 ≤ k → k < n → Q (.int k) H'
def spPick (K : PySem.W.Frag) : Sp := fun vs H Q _ => ∃ (d c l : Addr) (xs : List V) (t : Nat), vs = [.ref d, .ref l] ∧ Pen H d c t ∧ SqL K H l xs ∧ l ≠ d ∧ 0 < xs.length ∧ xs.length < 1073741824 ∧ t < 1073741824 ∧
  ∀ H' v t', But d H H' → Pen H' d c t' → t' ≤ t + 1 → v ∈ xs → Q v H'
end Mo

namespace Mo
open PySem PySem.Spec PyProof.Rows L2
/-! ### an error that is kept behind its except suite -/
/-- at a: an error of the class cls, its own dict d -/
def exV (a : Addr) (cls : Value) (d : Option Addr) : HO := .ext fun h => ∃ oe vs, h.get? a = some oe ∧ Zc cls d oe ∧ oe.data = .fields vs
section
variable {X : Cx} {pins : List (Addr × Obj)} {σ : L2.St} {H : Hp} {s : Shared}
/-- an object that was not there at the entry is tracked from now on -/
theorem track {a : Addr} {oe : Obj} {vs : Array Value} {o : HO} (I : Inv X pins σ H s) (ha : s.heap.get? a = some oe) (hd : oe.data = .fields vs) (na : H a = none) (nL : a ≠ X.env.locals)
    (n0 : ∀ u, X.s_0.heap.get? a = some u → a ∈ X.ex) (np : ∀ p ∈ X.pn ++ pins, p.1 ≠ a) (new : ObjOk X.prog X.w (upd H a o) s.heap a o) : Inv X pins σ (upd H a o) s := by
  have ne : ∀ b u, H b = some u → b ≠ a := fun b u e => ne_of_none e na
  refine ⟨I.ok, I.os, I.bare, ⟨I.base.keep, I.base.slot, fun b u q n hx => ?_, I.base.there, fun b xs e => ?_, fun b u w e => ?_, fun b ps e => ?_⟩, I.loc, I.cell, ?_, fun x c e => ?_, fun p hp => ?_, fun b u e => ?_, I.len⟩
  · rw [upd_ne (fun z : b = a => hx (by rw [z]; exact n0 u (by rw [← z]; exact q)))]
    exact I.base.free b u q n hx
  · have q := I.base.tups b xs e
    rw [upd_ne (ne _ _ q)]
    exact q
  · have q := I.base.frzs b u w e
    rw [upd_ne (ne _ _ q)]
    exact q
  · obtain ⟨more, q⟩ := I.base.tbls b ps e
    exact ⟨more, by rw [upd_ne (ne _ _ q)]; exact q⟩
  · rw [upd_ne nL.symm]
    exact I.free
  · obtain ⟨v, oc, hoc, hcc⟩ := I.cell x c e
    have nca : c ≠ a := fun z => by
      rw [z, ha] at hoc
      cases hoc
      rw [hd] at hcc
      cases hcc
    rw [upd_ne nca]
    exact I.freeC x c e
  · obtain ⟨h1, h2, h3⟩ := I.pin p hp
    exact ⟨h1, by rw [upd_ne (np p hp)]; exact h2, h3⟩
  · by_cases hb : b = a
    · subst hb
      rw [upd_same] at e
      cases e
      exact new
    · rw [upd_ne hb] at e
      refine (I.hok b u e).stay (fun c v _ q => q) (fun c q => ?_) fun c xs q => ?_
      · rw [upd_ne (ne _ _ q)]
        exact q
      · rw [upd_ne (ne _ _ q)]
        exact q
theorem exV_ok {P : Program} {w : World} {H : Hp} {h : Heap} {a : Addr} {cls : Value} {d : Option Addr} {oe : Obj} {vs : Array Value} (e : h.get? a = some oe) (z : Zc cls d oe) (hd : oe.data = .fields vs) : ObjOk P w H h a (exV a cls d) :=
  ⟨⟨oe, vs, e, z, hd⟩, ⟨oe, e⟩, fun h1 h2 ⟨o1, v1, e1, z1, d1⟩ k => ⟨o1, v1, k _ e1, z1, d1⟩⟩
theorem exV_at {a : Addr} {cls : Value} {d : Option Addr} (I : Inv X pins σ H s) (e : H a = some (exV a cls d)) : ∃ oe vs, s.heap.get? a = some oe ∧ Zc cls d oe ∧ oe.data = .fields vs := (I.hok a _ e).1
end
/-- what 'except x as n: kept = n' wishes of an error of the body: n in slot i, kept in slot j; behind it the error is tracked -/
def wKeep (K : PySem.W.Frag) (c : Value) (i j : Nat) (Wout : WX) (D : Ends) : WX := fun cls d σ H =>
  ∃ b, PySem.W.exmOne K cls c = some b ∧ (b = true → ∀ a, H a = none → D.nx (((σ.set i (some (.ref a))).set j (some (.ref a))).set i none) (upd H a (exV a cls d))) ∧ (b = false → Wout cls d σ H)
section
variable {X : Cx} {x n kx : Str} {c : Value} {i j : Nat} {body : List Stmt} {np np2 kp ap pos pos' : Pos} {tb : WX → TS} {Wout : WX}
theorem ps_try_keep (hs : X.stack = X.env :: X.outer) (hf : X.env.frame = some X.env.locals) (hN : X.N.Nodup) (hi : X.N[i]? = some n) (hj : X.N[j]? = some kx) (hln : X.env.kindOf n = some .local) (hlk : X.env.kindOf kx = some .local) (hc : Names X x c) (tk : Takes X Wout)
    (hb : ∀ (W : WX) (pn : List (Addr × Obj)) (xe : Value → Shared → Prop), Takes (X.tr pn xe) W → PassesOwn (model X.prog X.w) X.A X.env xe → PSs (X.tr pn xe) body (tb W))
    (hsu : ∀ (a : Addr) (oe : Obj) (pn : List (Addr × Obj)), PSs (X.suite a ((a, oe) :: pn)) [.Assign [.Name kx kp] (.Name n np2) ap] (tAsg (tVar i) (gName j))) :
    PS X (.Try body [.ExceptHandler (some (.Name x np)) (some n) [.Assign [.Name kx kp] (.Name n np2) ap] pos'] [] [] pos) (fun D σ H => tb (wKeep X.K c i j Wout D) D σ H) := by
  refine ⟨fun pins s σ H D I h => ?_⟩
  have ok := I.ok
  have hfr : X.A.frames = some (X.env :: X.outer) := ok.frames.trans (by rw [hs])
  refine wpAny_Try_except (wpAny_mono ((hb (wKeep X.K c i j Wout D) (X.pn ++ pins) (fun e s₁ => wpAny (model X.prog X.w) X.A (noteFrame e X.env) (fun _ s₂ => wpAny (model X.prog X.w) X.A (setFlight e none) (fun _ s₃ =>
    wpAny (model X.prog X.w) X.A (handleBy e X.env [.ExceptHandler (some (.Name x np)) (some n) [.Assign [.Name kx kp] (.Name n np2) ap] pos']) (SP X pins D) X.xe s₃) X.xe s₂) X.xe s₁) (fun u s' xx => ?_) PassesOwn.looking).run [] s σ H D (I.toTry _) h) (fun f s1 hsp => ?_) (fun e s1 he => he))
  · obtain ⟨a, B, sI, pins', σ', H', cls, d, rfl, J', nb, up, sky, na, os, ag, b, hb1, hyes, hno⟩ := xx
    have J : Inv X pins σ' H' sI := J'.ofTry ok
    have sky' : Sky B (X.env :: X.outer) a (Zc cls d) X.env.locals s'.heap := hs ▸ sky
    show wpAny (model X.prog X.w) X.A (noteFrame (.ref a) X.env) _ _ _
    refine Sky.land Zc.steady hfr hf sky' fun h3 fl3 up3 => ?_
    have J3 : Inv X pins σ' H' { s' with heap := h3 } := J.landed nb fl3.1 (up.trans up3) os ag
    obtain ⟨oe3, vs3, he3, hz3, hd3⟩ := fl3.there
    have nfr : a ∉ frs (X.env :: X.outer) := fun hm => by
      obtain ⟨_, o', e', hnf⟩ := fl3.2.2.1.mem hm
      rw [he3] at e'
      cases e'
      exact hnf _ hd3
    have nL : a ≠ X.env.locals := fun z => nfr (List.mem_filterMap.mpr ⟨X.env, List.mem_cons_self, hf.trans (congrArg some z.symm)⟩)
    have nF : a ∉ X.fs := fun hm => by
      obtain ⟨e, he, q⟩ := List.mem_filterMap.mp hm
      exact nfr (List.mem_filterMap.mpr ⟨e, List.mem_cons_of_mem _ he, q⟩)
    have nB : B.get? a = none := fl3.2.1
    have nI : sI.heap.get? a = none := by
      cases q : sI.heap.get? a with
      | none => rfl
      | some o =>
        have z := nb a o q (by show a ∉ frs X.stack; rw [hs]; exact nfr)
        rw [nB] at z
        cases z
    have n0 : ∀ u, X.s_0.heap.get? a = some u → a ∈ X.ex := fun u q => by
      by_cases hx : a ∈ X.ex
      · exact hx
      · obtain ⟨o', z⟩ := J.base.there a u q hx
        rw [nI] at z
        cases z
    have npp : ∀ p ∈ X.pn ++ pins, p.1 ≠ a := fun p hp z => by
      have q := (J.pin p hp).1
      rw [z, nI] at q
      cases q
    have S3 := J3.suite he3 hd3 na nL nF
    refine wpAny_handleBy_cons (codeAny_handlers_test ?_) (by intro q; cases q)
    have LT : PySem.W.Looks (model X.prog X.w) h3 (typeOf (.ref a)) cls := fun A Q E s k q => wpAny_typeOf_ref (k _ _ he3) (hz3.1 ▸ q)
    have LM := PySem.W.exm_one (M := model X.prog X.w) J3.kIn LT hb1
    have test : ∀ {Q : Value → Shared → Prop} {E : Value → Shared → Prop}, Q c { s' with heap := h3 } → wpAny (model X.prog X.w) (X.A.mark (some (.ref a))) (eval (.Name x np) X.env) Q E { s' with heap := h3 } := fun {Q E} q => by
      rcases hc with ⟨hg, hdbg, hm | ⟨hm, hv, hnn⟩⟩
      · exact ld_glob (X := X.suite a ((a, oe3) :: (X.pn ++ pins))) S3 hg hm q hdbg
      · exact ld_blt (X := X.suite a ((a, oe3) :: (X.pn ++ pins))) S3 hg hm hv q hnn hdbg
    refine test (LM.here ?_)
    cases b with
    | true =>
      refine codeAny_handlers_suite_as (HandSPX.lands_againZ fl3 fun h4 fl4 up4 => ?_)
      have J4 : Inv X pins σ' H' { s' with heap := h4 } := J.landed nb fl4.1 ((up.trans up3).trans up4) os ag
      obtain ⟨oe4, vs4, he4, hz4, hd4⟩ := fl4.there
      refine store_ok (X := X.suite a ((a, oe4) :: (X.pn ++ pins))) (v := .ref a) (J4.suite he4 hd4 na nL nF) hN hi (.inl hln) rfl (fun s5 S5 => ?_) (.inr hln)
      have lenσ : i < σ'.length := by
        rw [J.len]
        exact (List.getElem?_eq_some_iff.mp hi).1
      have want : tAsg (tVar i) (gName j) { nx := fun σ6 H6 => σ6 = (σ'.set i (some (.ref a))).set j (some (.ref a)) ∧ H6 = H', rt := fun _ _ => False, bk := fun _ _ => False, ct := fun _ _ => False } (σ'.set i (some (.ref a))) H' :=
        ⟨.ref a, by rw [List.getElem?_set_self lenσ], rfl, rfl⟩
      refine wpAny_mono ((hsu a oe4 (X.pn ++ pins)).run [] s5 _ H' _ S5 want) (fun f s6 hsp => ?_) (fun _ _ z => False.elim z)
      cases f with
      | next =>
        obtain ⟨σ6, H6, S6, rfl, rfl⟩ := hsp
        obtain ⟨he6, _⟩ := S6.pin (a, oe4) (List.mem_append_left _ List.mem_cons_self)
        have J6 : Inv X pins _ H6 s6 := S6.unsuite ok
        have J7 := track J6 he6 hd4 na nL n0 npp (exV_ok he6 hz4 hd4)
        exact gone_ok J7 hN hi hln fun s7 J8 => ⟨_, _, J8, hyes rfl a na⟩
      | brk => exact hsp.elim fun _ z => z.elim fun _ z => z.2.elim
      | cont => exact hsp.elim fun _ z => z.elim fun _ z => z.2.elim
      | ret u => exact hsp.elim fun _ z => z.elim fun _ z => z.elim fun _ z => z.2.2.elim
    | false =>
      show wpAny _ X.A (handleBy (.ref a) X.env []) _ _ _
      refine wpAny_handleBy_nil ?_
      obtain ⟨k1, k2, k3, oe, vs, T, oT, ts', he, hz, hd, h1, hr⟩ := id fl3
      unfold PySem.passOn
      refine wpAny_bind (wpAny_field he hd h1 ?_)
      rw [if_neg (show ¬ ((Value.ref T == Value.none) = true) from by simp)]
      have fin : wpAny (model X.prog X.w) X.A (setFlight (.ref a) X.env.frame) (fun _ s4 => wpAny (model X.prog X.w) X.A (throw (.ref a) : Sem Flow) (SP X pins D) X.xe s4) X.xe { s' with heap := h3 } := by
        rw [hf]
        refine HandSPX.setFlight_upZ fl3 fun h4 hh4 up4 => wpAny_throw (tk _ _ ⟨a, B, sI, pins, σ', H', cls, d, rfl, J, nb, (up.trans up3).trans up4, .inr (.inr (hs ▸ hh4)), na, os, ag, hno rfl⟩)
      first
        | exact wpAny_bind (wpAny_pure (wpAny_bind fin))
        | exact wpAny_bind fin
  · cases f with
    | next => exact hsp.elim fun σ1 z => z.elim fun H1 z => wpAny_execs_nil ⟨σ1, H1, z.1.ofTry ok, z.2⟩
    | brk => exact hsp.elim fun σ1 z => z.elim fun H1 z => ⟨σ1, H1, z.1.ofTry ok, z.2⟩
    | cont => exact hsp.elim fun σ1 z => z.elim fun H1 z => ⟨σ1, H1, z.1.ofTry ok, z.2⟩
    | ret u => exact hsp.elim fun v z => z.elim fun σ1 z => z.elim fun H1 z => ⟨v, σ1, H1, z.1.ofTry ok, z.2⟩
end
end Mo

/-! ### isinstance and the fields of an error that has its own dict -/
namespace Mo
open PySem PySem.W PySem.Spec PySem.Calls PyProof.Rows
section
variable {prog : Program} {w : World} {A : Around} {E : Value → Shared → Prop} {s : Shared} {K : Frag} {x D : Addr} {ox oy : Obj}
theorem err_class {Q : Option Value → Shared → Prop} (C : L2.ExcC K D) (X : K.In s.heap) (I : PySem.W.InstAt s.heap x ox D (some oy)) (h : Q (some (.ref D)) { s with toks := s.toks + 1 }) : wpAny (model prog w) A (getAttr? (.ref x) "__class__") Q E s := by
  have hf : findObj K D (some oy) "__class__" = some (.bind (.builtin "getset_descriptor.__get__") (.builtin "object.__class__")) := findObj_data (by obtain ⟨cd, hc, _⟩ := any_some C.hd; rw [hc]; rfl) C.ha C.hn C.ht
  obtain ⟨hp, g, d, t, os⟩ := s
  have a0 := I.type (M := model prog w)
  have a1 := looks_findIn (M := model prog w) X C.hg
  have a2 := looks_findIn (M := model prog w) X C.hk
  have a3 := looks_find (M := model prog w) X I hf
  have sub : Looks (model prog w) hp (isInstance (.ref x) (.type "BaseException")) true := a0.andThen (looks_subIn X C.hs)
  have y2 : (Value.builtin "BaseException.__getattribute__" == Value.builtin "object.__getattribute__") = false := by decide +kernel
  have y1 : (onTheHeap (Value.ref D) && Value.builtin "BaseException.__getattribute__" == Value.builtin "object.__getattribute__") = false := by rw [y2]; rfl
  have y0 : (false && onTheHeap (Value.builtin "BaseException.__getattribute__")) = false := rfl
  unfold getAttr? getAttrBy? getAttrBy
  refine wpAny_bind (wpAny_mkText (wpAny_bind (wpAny_attempt (wpAny_holding (wpAny_bind (a0.at (wpAny_bind (a1.at ?_))))))))
  show wpAny _ _ (if (onTheHeap (Value.ref D) && Value.builtin "BaseException.__getattribute__" == Value.builtin "object.__getattribute__") = true then _ else _) _ _ _
  rw [y1, if_neg Bool.false_ne_true]
  unfold getAttrByItsOwn hookBefore
  refine wpAny_bind (by
    rw [if_pos (show onTheHeap (Value.ref D) = true from rfl)]
    refine a2.at (wpAny_bind (wpAny_attempt (wpAny_holding ?_)))
    unfold callGetattribute
    rw [y0, if_neg Bool.false_ne_true]
    unfold boundAndCalled
    rw [PySem.F.excAttr_ValueError.ga.bind (.ref x)]
    refine wpAny_bind (wpAny_pure (by
      show wpAny _ _ (call (.builtin "BaseException.__getattribute__") [.ref x, .str "__class__" t]) _ _ _
      refine wpAny_call (codeAny_call_builtin PySem.F.excAttr_ValueError.ga.plain PySem.F.entry_bexc_ga (@check_slot (model prog w) _ _ ⟨hp, g, d, t + 1, os⟩ "BaseException.__getattribute__" "BaseException" "__getattribute__" (.ref x) [.str "__class__" t] [] _ (by decide +kernel) (by decide +kernel) sub (PySem.F.args_bexc_ga (.ref x) (.str "__class__" t)) ?_))
      unfold Builtin.«object.__getattribute__»
      refine wpAny_bind (wpAny_of_eq (a := ((Value.ref x : Value), [Value.str "__class__" t])) (by first | rfl | (simp only [slotArgs]; rfl)) (wpAny_bind (wpAny_pure (wpAny_bind (a0.at (wpAny_bind (a3.at ?_)))))))
      show wpAny _ _ (holding [Value.builtin "object.__class__"] (call (.builtin "getset_descriptor.__get__") [.builtin "object.__class__", .ref x, .ref D]) >>= ret) _ _ _
      refine wpAny_bind (wpAny_holding (wpAny_call (class_get (s := ⟨hp, g, d, t + 1, os⟩) (ox := ox) (od := some oy) X I C.hm (wpAny_pure ?_))))
      show wpAny _ _ (handedOut (.ref D)) _ _ _
      rw [handedOut_of (v := .ref D) rfl]
      first | exact wpAny_pure (wpAny_pure h) | exact wpAny_pure h | exact wpAny_pure (wpAny_bind (wpAny_pure (wpAny_pure h))))))
theorem err_kit (C : L2.ExcC K D) : KitX K (.ref x) (.ref D) (fun h => ∃ ox oy, PySem.W.InstAt h x ox D (some oy)) where
  ty := fun _ _ _ ⟨_, _, I⟩ => I.type
  it := fun M h X _ => by
    obtain ⟨cd, hc, _⟩ := any_some C.hd
    unfold clsIn at hc
    split at hc
    · rename_i c' d' cd' sl' ho
      intro A' Q' E' s' k q
      unfold isType loadHead
      exact wpAny_bind (wpAny_loadPart (k _ _ (X _ _ ho)) (wpAny_pure q))
    · cases hc
  ne := fun h tp dd its n sl X htp => by
    obtain ⟨cd, hc, _⟩ := any_some C.hd
    refine Bool.eq_false_iff.mpr fun q => ?_
    obtain rfl : D = tp := Value.ref.inj (beq_iff_eq.mp q)
    unfold clsIn at hc
    split at hc
    · rename_i c' d' cd' sl' ho
      cases (X _ _ ho).symm.trans htp
    · cases hc
  ca := fun X ⟨_, _, I⟩ k => err_class C X I k
end
end Mo
namespace Mo
open PySem PySem.Spec PyProof.Rows L2
section
variable {X : Cx} {pins : List (Addr × Obj)} {σ : L2.St} {H : Hp} {s : Shared}
/-- an error at a, its class at C, its dict at dd with the fields fs -/
def ErrAt (H : Hp) (a C dd : Addr) (fs : List (Str × V)) : Prop := H a = some (exV a (.ref C) (some dd)) ∧ H dd = some (.xd fs)
theorem ErrAt.inst {a C dd : Addr} {fs : List (Str × V)} (e : ErrAt H a C dd fs) (I : Inv X pins σ H s) : ∃ ox od mA, PySem.W.InstAt s.heap a ox C (some od) ∧ s.heap.Ns1 dd mA ∧ (∀ f, RelO (fs.lookup f) (mA f)) ∧ ∀ f, PySem.W.lookIn f od = some (mA f) := by
  obtain ⟨oe, vs, ha, hz, hd⟩ := exV_at I e.1
  obtain ⟨mA, hns, hr⟩ := (show ObjOk X.prog X.w H s.heap dd (.xd fs) from I.hok dd _ e.2)
  obtain ⟨od, ho, hl⟩ := lookIn_ns hns
  exact ⟨oe, od, mA, ⟨ha, hz.1, by unfold PySem.W.notCls; rw [hd] <;> rfl, by rw [hz.2]; exact ho⟩, hns, hr, hl⟩
/-- isinstance(err, c) -/
def rIsX (K : PySem.W.Frag) : List V → Hp → VK → Prop := fun xs H Q => ∃ (a C dd : Addr) (fs : List (Str × V)) (c : V) (u : Value) (b : Bool), xs = [.ref a, c] ∧ ErrAt H a C dd fs ∧ ExcC K C ∧ ClsV c u ∧ PySem.W.kitOne K (.ref C) u = some b ∧ Q (.bl b) H
theorem cr_isX : CallR X (.builtin "isinstance") (rIsX X.K) := by
  intro pins s σ H xs us Q I r h
  obtain ⟨a, C, dd, fs, c, u, b, rfl, ea, T, k, e, q⟩ := h
  obtain ⟨u1, u2, rfl, r1, r2⟩ := vals2 r
  cases r1
  obtain rfl := k.eq r2
  obtain ⟨ox, od, mA, J, _⟩ := ea.inst I
  exact PySem.W.kia_one (err_kit T) I.kIn ⟨ox, od, J⟩ e (fun z => nomatch z) fun tk => ⟨.bl b, H, I.tok tk, rfl, q⟩
/-- isinstance(err, (c1, c2, ..)) -/
def rIsXT (K : PySem.W.Frag) : List V → Hp → VK → Prop := fun xs H Q => ∃ (a C dd tp : Addr) (fs : List (Str × V)) (cs : List V) (us : List Value) (b : Bool), xs = [.ref a, .ref tp] ∧ ErrAt H a C dd fs ∧ ExcC K C ∧ H tp = some (.tup cs) ∧ Paired ClsV cs us ∧ PySem.W.kitAny K (.ref C) us = some b ∧ Q (.bl b) H
theorem cr_isXT : CallR X (.builtin "isinstance") (rIsXT X.K) := by
  intro pins s σ H xs us Q I r h
  obtain ⟨a, C, dd, tp, fs, cs, ws, b, rfl, ea, T, hT, k, e, q⟩ := h
  obtain ⟨u1, u2, rfl, r1, r2⟩ := vals2 r
  cases r1
  cases (show u2 = Value.ref tp from r2)
  obtain ⟨ox, od, mA, J, _⟩ := ea.inst I
  obtain ⟨_, its, rv, ⟨oc, od', dt, sl⟩, h1, h2, n, h3⟩ := (show ObjOk X.prog X.w H s.heap tp (.tup cs) from I.hok tp _ hT)
  obtain rfl := ClsV.all k rv
  simp only at h2 h3
  subst h2 h3
  exact PySem.W.kia_tup (err_kit T) I.kIn ⟨ox, od, J⟩ h1 e (fun z => nomatch z) fun tk => ⟨.bl b, H, I.tok tk, rfl, q⟩
/-- err.f -/
def tXv (K : PySem.W.Frag) (f : Str) (te : TE) : TE := fun σ H Q => te σ H fun x H1 => ∃ (a C dd : Addr) (fs : List (Str × V)) (v : V), x = .ref a ∧ ErrAt H1 a C dd fs ∧ XfC K C ∧ PySem.W.findIn K (.ref C) f = some none ∧ fs.lookup f = some v ∧ Q v H1
theorem pe_xv {e : Expr} {te : TE} {pos : Pos} {f : Str} (he : PE X e te) (hb : attributeBase e f X.env (eval e X.env) = eval e X.env := by rfl) : PE X (.Attribute e f pos) (tXv X.K f te) := by
  refine ⟨fun pins s σ H Q I h => ?_⟩
  refine attr_of hb (thn (he.run pins s σ H _ I h) fun u s1 hh => ?_)
  obtain ⟨x, H1, I1, rx, a, C, dd, fs, v, rfl, ea, T, hno, l, q⟩ := hh
  obtain rfl : u = Value.ref a := rx
  obtain ⟨ox, od, mA, J, hns, hr, hl⟩ := ea.inst I1
  obtain ⟨u, hu, ru⟩ := RelO.some_of (v := v) (o := mA f) (by rw [← l]; exact hr f)
  exact HandSPX.exc_get I1.kIn J T.ga T.gg T.exC (PySem.W.findObj_own T.hdC hno rfl (by rw [hl, hu])) (handed_of ru) ⟨v, H1, I1.tok _, ru, q⟩
end
end Mo

/-! ### defs called where no repr is under way: then repr of lists, tuples and dicts is known to the letter -/
namespace Mo
open PySem PySem.Spec PyProof.Rows L2
/-- as FnOk, for callers under no guard -/
structure FnG (P : Program) (w : World) (K : PySem.W.Frag) (mg : Str → Option Value) (base : Heap) (CX : CXT) (k : Nat) (f : Addr) (fd : FuncData) (ps : List Str) (sp : Sp) : Prop where
  len : ∀ vs H Q E, sp vs H Q E → vs.length = ps.length
  run : ∀ (A : Around) (outer : List Env) (s : Shared) (H : Hp) (args : Args) (us : List Value) (vs : List V) (Q : VK) (E : XK), Room k A → A.guards = some [] → Env0 P w K mg base A outer s H → BindsTo s fd args (ps.zip us) → Vals vs us → sp vs H Q E →
    codeAny (model P w) A (.call (.ref f) args) (CR CX outer P w H s Q E) s
section
variable {P : Program} {w : World} {K : PySem.W.Frag} {mg : Str → Option Value} {base : Heap} {CX : CXT} {k : Nat} {f : Addr} {fd : FuncData} {ps : List Str} {sp : Sp}
theorem FnG.of (F : FnOk P w K mg base CX k f fd ps sp) : FnG P w K mg base CX k f fd ps sp := ⟨F.len, fun A o s H a us vs Q E hr _ => F.run A o s H a us vs Q E hr⟩
/-- a def by its body, its guards told -/
theorem okG_of {x qual : Str} {st : Stmt} {N : List Str} (F : Fun K x qual st f fd) (S : FnScope N ps (defScope st)) (len : ∀ vs H Q E, sp vs H Q E → vs.length = ps.length)
    (hbody : ∀ (cdv : Value) (A : Around) (outer : List Env) (s : Shared) (H : Hp) (vs : List V) (Q : VK) (E : XK), Room k (A.deeper (envOfC qual (defScope st) s.heap.objs.size f cdv)) → A.guards = some [] → sp vs H Q E →
      ∃ t, PSs (cxOf CX P w K mg base N qual (defScope st) f cdv A outer s H E) (defBody st) t ∧ t { nx := fun _ H' => Q .non H', rt := Q } (start N vs) H) : FnG P w K mg base CX (k + 1) f fd ps sp := by
  obtain ⟨oc, od, kV, doc, pm, an, cdv, ct, osl, rfl, lk, hcd⟩ := F.ex
  refine ⟨len, fun A outer s H args us vs Q E hr hg e0 hb r hsp => ?_⟩
  have kept : ∀ b o, base.get? b = some o → s.heap.get? b = some o := fun b o e => (e0.bs b o e).1
  have KX : K.In s.heap := e0.mod.kin.keeps kept
  have kinds : ∀ y ∈ ps.zip us, (defScope st).names.lookup y.1 = some .local ∨ ((defScope st).names.lookup y.1 = some .cell ∧ ((cellsFrom (s.heap.objs.size + 1) (defScope st).names []).lookup y.1).isSome = true) := fun y hy =>
    (S.par y.1 (List.of_mem_zip (a := y.1) (b := y.2) hy).1).elim .inl fun q => .inr ⟨q, PySem.W.cellsFrom_some _ _ _ (.inl q)⟩
  refine codeAny_call_function hr.depth (KX _ _ lk) rfl S.co S.gen rfl (PySem.W.codeRec_of KX hcd) (hb _ _ _ _ (wpAny_newFunctionEnv_cells S.kind kinds fun env he s1 x => ?_))
  subst he
  refine ⟨(e0.mod.nolimit.keeps kept).keeps x.toInCall.keep, codeAny_func ?_⟩
  obtain ⟨t, ht, hq⟩ := hbody cdv A outer s H vs Q E (hr.deeper _) hg hsp
  have I : Inv (cxOf CX P w K mg base N qual (defScope st) f cdv A outer s H E) [] (start N vs) H s1 := inv_start S hr.hd e0 (len _ _ _ _ hsp) r x
  refine wpAny_mono (ht.run [] s1 (start N vs) H _ I hq) (fun fl s' hs => ?_) fun e s' hs => hs
  cases fl with
  | ret u => exact hs.elim fun v z => z.elim fun σ' z => z.elim fun H' z => ⟨v, H', z.1.os, z.1.bare, z.1.base, z.1.hok, z.2.1, z.2.2⟩
  | next => exact hs.elim fun σ' z => z.elim fun H' z => ⟨V.non, H', z.1.os, z.1.bare, z.1.base, z.1.hok, rfl, z.2⟩
  | brk => exact hs.elim fun _ z => z.elim fun _ z => z.2.elim
  | cont => exact hs.elim fun _ z => z.elim fun _ z => z.2.elim
/-- a def that raises nothing -/
theorem okG {x qual : Str} {st : Stmt} {N : List Str} (F : Fun K x qual st f fd) (S : FnScope N ps (defScope st)) (len : ∀ vs H Q E, sp vs H Q E → vs.length = ps.length)
    (hbody : ∀ (cdv : Value) (A : Around) (outer : List Env) (s : Shared) (H : Hp) (vs : List V) (Q : VK) (E : XK), Room k (A.deeper (envOfC qual (defScope st) s.heap.objs.size f cdv)) → A.guards = some [] → sp vs H Q E →
      ∃ t, PSs (cxOf CX0 P w K mg base N qual (defScope st) f cdv A outer s H E).nox (defBody st) t ∧ t { nx := fun _ H' => Q .non H', rt := Q } (start N vs) H) : FnG P w K mg base CX0 (k + 1) f fd ps sp :=
  okG_of F S len fun cdv A outer s H vs Q E hr hg hsp => (hbody cdv A outer s H vs Q E hr hg hsp).elim fun t z => ⟨t, z.1.nox, z.2⟩
end
section
variable {X : Cx} {CX : CXT} {x : Str} {f : Addr} {k : Nat} {fd : FuncData} {ps : List Str} {sp : Sp} {ds : List Value} {dvs : List V} {E : XK} {e : Expr} {es : List Expr} {t : TA} {p pos : Pos}
theorem run_G {pins : List (Addr × Obj)} {σ : L2.St} {H : Hp} {s : Shared} {Q : VK} {us : List Value} {vs : List V} (F : FnG X.prog X.w X.K X.mg X.base CX k f fd ps sp) (hr : Room k X.A) (hu : X.A.guards = some []) (hb : Binds X.K fd ps ds) (hd : Vals dvs ds) (hx : Passes CX X E)
    (I : Inv X pins σ H s) (r : Vals vs us) (h : sp (vs ++ dvs) H Q E) : wpAny (model X.prog X.w) X.A (call (.ref f) us) (EP X pins σ Q) X.xe s := by
  have rr : Vals (vs ++ dvs) (us ++ ds) := r.append hd
  refine wpAny_call (codeAny_mono (F.run X.A X.stack s H ⟨us, []⟩ (us ++ ds) (vs ++ dvs) Q E hr hu I.env0 (hb s us I.kIn (rr.length.symm.trans (F.len _ _ _ _ h))) rr h) fun r s' hq => ?_)
  cases r with
  | error e => exact hx pins σ H s e s' I hq
  | ok fl =>
    cases fl with
    | ret u => exact I.after hq
    | next => exact hq.elim
    | brk => exact hq.elim
    | cont => exact hq.elim
/-- f(e, ..), f by FnG -/
theorem pe_callG (F : FnG X.prog X.w X.K X.mg X.base CX k f fd ps sp) (hr : Room k X.A) (hu : X.A.guards = some []) (hg : Gl X x) (hm : X.mg x = some (.ref f)) (hk : PySem.W.keepIn X.K (.ref f) = true) (hb : Binds X.K fd ps ds) (hd : Vals dvs ds) (hx : Passes CX X E)
    (ha : PA X (e :: es) t) (hdb : (x == ("__debug__" : Str)) = false := by decide) (he : starEach (e :: es) X.env = (false, eval e X.env) :: starEach es X.env := by rfl) (hpl : (backTo pos (starEach es X.env)).any (·.1) = false := by rfl) :
    PE X (.Call (.Name x p) (e :: es) [] pos) (tCall sp dvs E t) :=
  ⟨fun pins s σ H Q I h => wpAny_Call_Name_kw (ld_glob I hg hm (PySem.W.callWith_K (h₀ := X.base) I.ok.mod.kin hk (thn (ha.run pos pins s σ H _ I h) fun us s1 ⟨vs, H1, I1, r, q⟩ => ⟨I1.kIn, run_G F hr hu hb hd hx I1 r q⟩) he hpl) hdb)⟩
end
/-! ### repr of data -/
/-- data with the empty dict -/
def Dat (K : PySem.W.Frag) (H : Hp) (x : V) (d : PyData) : Prop := Dp K H x d ∨ ∃ a, x = .ref a ∧ H a = some (.dK []) ∧ d = .dict []
section
variable {X : Cx} {pins : List (Addr × Obj)} {σ : L2.St} {H : Hp} {s : Shared}
theorem Dat.reads {x : V} {u : Value} {d : PyData} (I : Inv X pins σ H s) (h : Dat X.K H x d) (r : RelV x u) : ∃ as, Reads s.heap u d as ∧ (d.hasDict = true → sysModules ∉ as) := by
  rcases h with h | ⟨a, rfl, ha, rfl⟩
  · obtain ⟨as, q⟩ := Dp.reads I d x u h r
    have key : ∀ {x : V} {d : PyData}, Dp X.K H x d → d.hasDict = false := by
      intro x d h
      refine Dp.rec (motive_1 := fun _ d _ => d.hasDict = false) (motive_2 := fun _ ds _ => PyData.hasDictAll ds = false) ?_ ?_ ?_ ?_ ?_ ?_ ?_ ?_ h
      · rfl
      · intro b; rfl
      · intro i; rfl
      · intro z; rfl
      · intro a xs ds _ _ ih; exact ih
      · intro a xs ds _ _ ih; exact ih
      · rfl
      · intro v vs d ds _ _ i1 i2
        show (PyData.hasDict d || PyData.hasDictAll ds) = false
        rw [i1, i2]
        rfl
    exact ⟨as, q, fun z => by rw [key h] at z; cases z⟩
  · obtain rfl : u = Value.ref a := r
    obtain ⟨_, hs, vs, kv, o, es, ep, ho, hc, hdt, hes⟩ := (show ObjOk X.prog X.w H s.heap a (.dK []) from I.hok a _ ha)
    cases kv
    have e0 : es.toList = [] := by
      obtain ⟨_, hp, _⟩ := hes
      cases q : es.toList with
      | nil => rfl
      | cons x r => rw [q] at hp; cases hp
    refine ⟨_, .dict (as := []) (bs := []) ho hc.1 hdt (by rw [e0]; exact .nil) (by rw [e0]; exact .nil), fun _ z => ?_⟩
    rw [List.append_nil, List.mem_singleton] at z
    rw [← z] at hs
    simp at hs
/-- repr(data) -/
def rReprD (K : PySem.W.Frag) : List V → Hp → VK → Prop := fun xs H Q => ∃ (x : V) (d : PyData), xs = [x] ∧ Dat K H x d ∧ d.showable = true ∧ d.depth ≤ 40 ∧ d.shown.length ≤ sizeLine ∧ Q (.str d.shown) H
theorem cr_reprD (hg : X.A.guards = some []) (hu : X.A.units + 64 < cLine) : CallR X (.builtin "repr") (rReprD X.K) := by
  intro pins s σ H xs us Q I r h
  obtain ⟨x, d, rfl, hd, hs, hdp, hz, q⟩ := h
  obtain ⟨u, rfl, ru⟩ := vals1 r
  obtain ⟨as, rd, hsm⟩ := hd.reads I ru
  cases rd with
  | none => exact PySem.P.repr_of_none ⟨.str _, H, I.tok _, ⟨_, rfl⟩, q⟩
  | bool b => exact PySem.P.repr_of_bool ⟨.str _, H, I.tok _, ⟨_, rfl⟩, q⟩
  | int i t => exact PySem.P.repr_of_int (of_decide_eq_true hs) ⟨.str _, H, I.tok _, ⟨_, rfl⟩, q⟩
  | str z t => exact PySem.P.repr_of_str ⟨.str _, H, I.tok _, ⟨_, rfl⟩, q⟩ hz
  | list a1 a2 a3 a4 => exact repr_of_reads' (.list a1 a2 a3 a4) hs hsm hg (by omega) (fun _ _ e => e) (fun h' u' tk hk => ⟨.str _, H, I.kept (t' := tk) hk, ⟨_, rfl⟩, q⟩) hz
  | tuple a1 a2 a3 a4 => exact repr_of_reads' (.tuple a1 a2 a3 a4) hs hsm hg (by omega) (fun _ _ e => e) (fun h' u' tk hk => ⟨.str _, H, I.kept (t' := tk) hk, ⟨_, rfl⟩, q⟩) hz
  | dict a1 a2 a3 a4 a5 => exact repr_of_reads' (.dict a1 a2 a3 a4 a5) hs hsm hg (by omega) (fun _ _ e => e) (fun h' u' tk hk => ⟨.str _, H, I.kept (t' := tk) hk, ⟨_, rfl⟩, q⟩) hz
end
end Mo
namespace Mo
open PySem PySem.Spec PyProof.Rows L2
/-- an own error class over ValueError with one field f, its __init__ at fI -/
structure ErrC (K : PySem.W.Frag) (C fI : Addr) (f : Str) : Prop where
  oex : OexC K C
  xf : XfC K C
  exc : ExcC K C
  no : PySem.W.findIn K (.ref C) f = some none
  te : PySem.W.exmOne K (.ref C) (.ref C) = some true
  iC : PySem.W.findIn K (.ref C) "__init__" = some (some (.ref fI))
  tI : PySem.W.typeIn K (.ref fI) = some (.type "function")
/-- its __init__: self.f = y -/
def spInit (C : Addr) (f : Str) : Sp := fun vs H Q _ => ∃ (a : Addr) (y : V), vs = [.ref a, y] ∧ H a = some (exo a C none) ∧ ∀ dx, H dx = none → dx ≠ a → Q .non (upd (upd H dx (exd dx [(f, y)])) a (exo a C (some dx)))
/-- raising it: what is left to be shown -/
theorem err_read {C : Addr} {f : Str} {H : Hp} {v : V} {Q : XK} (h : ∀ d H', H d = none → Same H H' → H' d = some (.xd [(f, v)]) → Q (.ref C) (some d) H') :
    [v].length ≤ 1000 ∧ ∀ a, H a = none → spInit C f (.ref a :: ([v] ++ [])) (upd H a (exo a C none)) (fun x H2 => x = .non ∧ ∃ (d : Addr) (fs : List (Str × V)), H2 a = some (exo a C (some d)) ∧ H2 d = some (exd d fs) ∧ H d = none ∧ Q (.ref C) (some d) (upd (del H2 a) d (.xd fs))) (fun _ _ _ => False) := by
  refine ⟨by show 1 ≤ 1000; decide, fun a na => ⟨a, v, rfl, upd_same, fun dx nd ne => ⟨rfl, dx, [(f, v)], upd_same, by rw [upd_ne ne, upd_same], ?_, ?_⟩⟩⟩
  · rw [upd_ne ne] at nd
    exact nd
  · have nd' : H dx = none := by rw [upd_ne ne] at nd; exact nd
    refine h dx _ nd' (fun b o e => ?_) upd_same
    have nb : b ≠ dx := ne_of_none e nd'
    have nba : b ≠ a := ne_of_none e na
    rw [upd_ne nb, del_ne nba, upd_ne nba, upd_ne nb, upd_ne nba]
    exact e
theorem kit1_type {K : PySem.W.Frag} {C : Addr} {T : String} {b : Bool} (h : PySem.W.subIn K (.ref C) (.type T) = some b) (hm : PySem.W.kitMeta T = true) : PySem.W.kitOne K (.ref C) (.type T) = some b := by
  show (if (Value.ref C == Value.type T) = true then some true else (if PySem.W.kitMeta T = true then PySem.W.subIn K (.ref C) (.type T) else none)) = some b
  rw [if_neg (by intro z; cases beq_iff_eq.mp z), if_pos hm]
  exact h
theorem kit1_ref {K : PySem.W.Frag} {C D : Addr} (h : PySem.W.subIn K (.ref C) (.ref D) = some false) (hs : PySem.W.subIn K (.ref C) (.ref C) = some true) (hc : PySem.W.isClsIn K D = true) (ht : PySem.W.typeIn K (.ref D) = some (.type "type")) : PySem.W.kitOne K (.ref C) (.ref D) = some false := by
  have hc2 : (PySem.W.clsIn K D).isSome = true := hc
  show (if (Value.ref C == Value.ref D) = true then some true else (if ((PySem.W.clsIn K D).isSome && PySem.W.typeIn K (.ref D) == some (.type "type")) = true then PySem.W.subIn K (.ref C) (.ref D) else none)) = some false
  rw [if_neg (by intro z; rw [← beq_iff_eq.mp z, hs] at h; cases h), if_pos (by rw [hc2, ht]; rfl)]
  exact h
end Mo

/-! ### the end of a law whose promise is an FnG -/
namespace Mo
open PySem PySem.Spec PyProof.Rows L2
theorem callG {P : Program} {w : World} {K : PySem.W.Frag} {mg mb : Str → Option Value} {CX : CXT} {k : Nat} {fa a : Addr} {fd : FuncData} {x : Str} {sp : Sp} {s₁ : Shared} {vs : List Value} {ns : List Int}
    (KX : K.In s₁.heap) (hns : s₁.heap.Ns mainGlobals mg) (hb : s₁.heap.Ns builtinsNs mb) (hbb : ∀ x : Str, x ≠ "__name__" → mb x = bootBuiltins x) (hlim : s₁.heap.NoLimit) (hg : s₁.gens = #[])
    (ha : s₁.heap.get? a = some { cls := .type "list", data := .seq vs.toArray }) (hi : IntsAre vs ns) (hl : ns.length ≤ sizeLine) (hr : Room k callerA)
    (F : ∀ base : Heap, K.In base → base.Ns mainGlobals mg → (∀ b m, s₁.heap.Ns b m → base.Ns b m) → FnG P w K mg base CX k fa fd [x] sp) (hbind : ∀ (s : Shared) (u : Value), BindsTo s fd ⟨[u], []⟩ [(x, u)])
    (hsp : ∀ H : Hp, Only H → SqL K H a (ns.map V.int) → sp [.ref a] H (fun v _ => v = .bl true) fun _ _ _ => False)
    (hCX : ∀ H e s', CX [] H s₁ (fun _ _ _ => False) e s' → False) :
    codeAny (model P w) callerA (.call (.ref fa) ⟨[.ref a], []⟩) (fun r s' => r = .ok (.ret (.bool true)) ∧ OldK s₁.heap s'.heap ∧ s'.os = s₁.os ∧ AllBare s'.gens) s₁ := by
  have rv := vals_ints hi
  have lenV := hi.length
  have core : ∀ H : Hp, Only H → SqL K H a (ns.map V.int) → HOk P w H s₁.heap → (∀ b, H b ≠ none → b = a) → (H a ≠ none → K.lookup a = none) →
      codeAny (model P w) callerA (.call (.ref fa) ⟨[.ref a], []⟩) (fun r s' => r = .ok (.ret (.bool true)) ∧ OldK s₁.heap s'.heap ∧ s'.os = s₁.os ∧ AllBare s'.gens) s₁ := by
    intro H hO hS hok hA hK
    have atA : ∀ {b : Addr} {u : HO}, H b = some u → b = a := fun {b u} q => hA b (by rw [q]; exact Option.some_ne_none _)
    have grnd : ∀ {b : Addr} {o : Obj}, s₁.heap.get? b = some o → H b = none → (hidT s₁.heap H).get? b = some o := fun e n => hidT_get e n
    have noA : ∀ {b : Addr} {o : Obj} {es : Array DictEntry} {ep : Nat}, s₁.heap.get? b = some o → o.data = .dict es ep → H b = none := fun {b o es ep} e d => by
      cases q : H b with
      | none => rfl
      | some u =>
        rw [atA q, ha] at e
        cases e
        cases (show Data.seq vs.toArray _ = Data.dict es ep from d)
    have nsK : ∀ {b : Addr} {m : Str → Option Value}, s₁.heap.Ns b m → (hidT s₁.heap H).Ns b m := fun {b m} ⟨o, es, ep, e, d, r⟩ => ⟨o, es, ep, grnd e (noA e d), d, r⟩
    have hKb : K.In (hidT s₁.heap H) := fun b o e => grnd (KX b o e) (by
      cases q : H b with
      | none => rfl
      | some u =>
        obtain rfl := atA q
        rw [hK (by rw [q]; exact Option.some_ne_none _)] at e
        cases e)
    have hM : Mod K mg (hidT s₁.heap H) := ⟨hKb, nsK hns, ⟨mb, nsK hb, hbb⟩, hlim.elim fun mc z => ⟨mc, nsK z.1, z.2⟩⟩
    have e0 : Env0 P w K mg (hidT s₁.heap H) callerA [] s₁ H := ⟨rfl, hM, fun b o e => of_hidT e, Nat.le_of_eq (hidT_size _ _), trivial, fun b hb => absurd (show b ∈ ([] : List Addr) from hb) (by simp), hok, .of_eq hg⟩
    refine codeAny_mono ((F _ hKb (nsK hns) fun b m z => nsK z).run callerA [] s₁ H ⟨[.ref a], []⟩ [.ref a] [.ref a] _ _ hr rfl e0 (hbind s₁ (.ref a)) (.cons rfl .nil) (hsp H hO hS)) fun r s' h => ?_
    cases r with
    | error e => exact (hCX H e s' h).elim
    | ok fl =>
      cases fl with
      | next => exact h.elim
      | brk => exact h.elim
      | cont => exact h.elim
      | ret u =>
        obtain ⟨v, H', os, bare, un, hok', r', q⟩ := h
        obtain rfl : v = .bl true := q
        obtain rfl : u = Value.bool true := r'
        refine ⟨rfl, OldK.of_keep fun b o e => ?_, os, bare⟩
        cases q : H b with
        | none => exact un.keep b o e q (by intro z; exact absurd (show b ∈ ([] : List Addr) from z) (by simp)) (by simp)
        | some u =>
          rcases hO b with z | ⟨ob, xs, z⟩
          · rw [q] at z
            cases z
          · have z2 := un.frzs b ob _ z
            have e1 := (hok b _ z).1
            rw [e] at e1
            cases e1
            exact (hok' b _ z2).1
  cases hk : K.lookup a with
  | some o =>
    have e := KX a o hk
    rw [ha] at e
    cases e
    exact core (fun _ => none) (fun _ => .inl rfl) (.inr ⟨_, vs.toArray, _, hk, rfl, rfl, rfl, by rw [List.size_toArray, lenV]; exact hl, by simpa using rv⟩) (fun b u z => nomatch z) (fun b z => absurd rfl z) fun z => absurd rfl z
  | none =>
    have at2 : ∀ {b : Addr} {u : HO}, (if b = a then some (HO.frz { cls := .type "list", data := .seq vs.toArray } (.lst (ns.map V.int))) else none) = some u → b = a ∧ u = .frz { cls := .type "list", data := .seq vs.toArray } (.lst (ns.map V.int)) := fun {b u} z => by
      by_cases hb : b = a
      · rw [if_pos hb] at z
        exact ⟨hb, (Option.some.inj z).symm⟩
      · rw [if_neg hb] at z
        cases z
    refine core (fun b => if b = a then some (.frz { cls := .type "list", data := .seq vs.toArray } (.lst (ns.map V.int))) else none) (fun b => ?_) (.inl (.inr ⟨{ cls := .type "list", data := .seq vs.toArray }, if_pos rfl⟩)) (fun b u z => ?_) (fun b z => ?_) fun _ => hk
    · by_cases hb : b = a
      · exact .inr ⟨_, _, if_pos hb⟩
      · exact .inl (if_neg hb)
    · obtain ⟨rfl, rfl⟩ := at2 z
      exact ⟨ha, by rw [List.length_map]; exact hl, vs, _, rv, ha⟩
    · by_cases hb : b = a
      · exact hb
      · exact absurd (if_neg hb) z
theorem walkG {l : PySem.W.OpenLaw} {n k : Nat} {q : Program} {loose : List Str} {XP : (Str → Option Value) → Heap → Prop} {YP : World → Heap → Prop} {d : DefRec} {K : Params → PySem.W.Frag} {CX : World → CXT} {sp : World → Sp} {x : Str}
    (hn : l.most = some n) (hn2 : n ≤ sizeLine) (hdf : d.params.defaults = []) (hr : Room k callerA) (hY : ∀ (w : World) (h : Heap), YP w h → (K w.params).In h)
    (F : ∀ (w : World) (mg : Str → Option Value) (fa : Addr) (h : Heap), (K w.params).In h → h.Ns mainGlobals mg → mg d.name = some (.ref fa) →
      ∃ fd : FuncData, (∀ (s : Shared) (u : Value), BindsTo s fd ⟨[u], []⟩ [(x, u)]) ∧ ∀ base : Heap, (K w.params).In base → base.Ns mainGlobals mg → FnG l.prog w (K w.params) mg base (CX w) k fa fd [x] (sp w))
    (hsp : ∀ (w : World) (H : Hp) (a : Addr) (ns : List Int), ns.length ≤ n → Only H → SqL (K w.params) H a (ns.map V.int) → sp w [.ref a] H (fun v _ => v = .bl true) fun _ _ _ => False)
    (hCX : ∀ (w : World) (H : Hp) (s : Shared) (e : Value) (s' : Shared), CX w [] H s (fun _ _ _ => False) e s' → False) :
    PySem.W.WalkO q loose XP YP l.row.toRowW d [] (fun f vs => PySem.call f vs) := by
  refine Att.attach_call hn hdf fun w s₀ s₁ mg mb fa o pm cd doc a vs ns G Y ho hd hcd hmg hobj hints hlen hg => ?_
  obtain ⟨fd, hb, hF⟩ := F w mg fa _ (hY w _ Y) G.T.g hmg
  exact callG (hY w _ Y) G.T.g G.T.b G.T.builtins G.T.nolimit hg hobj hints (Nat.le_trans hlen hn2) hr (fun base a b _ => hF base a b) hb (fun H hO hS => hsp w H a ns hlen hO hS) fun H e s' => hCX w H s₁ e s'
/-- where repr meets dicts: sys.modules is there, and is none of ours -/
theorem walkM {l : PySem.W.OpenLaw} {n k : Nat} {q : Program} {loose : List Str} {XP : (Str → Option Value) → Heap → Prop} {YP : World → Heap → Prop} {d : DefRec} {K : Params → PySem.W.Frag} {CX : World → CXT} {sp : World → Sp} {x : Str}
    (hn : l.most = some n) (hn2 : n ≤ sizeLine) (hdf : d.params.defaults = []) (hr : Room k callerA) (hY : ∀ (w : World) (h : Heap), YP w h → (K w.params).In h) (hi : importsNone q = true)
    (F : ∀ (w : World) (mg : Str → Option Value) (fa : Addr) (h : Heap), (K w.params).In h → h.Ns mainGlobals mg → mg d.name = some (.ref fa) →
      ∃ fd : FuncData, (∀ (s : Shared) (u : Value), BindsTo s fd ⟨[u], []⟩ [(x, u)]) ∧ ∀ base : Heap, (K w.params).In base → base.Ns mainGlobals mg → (∃ mm, base.Ns sysModules mm) → FnG l.prog w (K w.params) mg base (CX w) k fa fd [x] (sp w))
    (hsp : ∀ (w : World) (H : Hp) (a : Addr) (ns : List Int), ns.length ≤ n → Only H → SqL (K w.params) H a (ns.map V.int) → sp w [.ref a] H (fun v _ => v = .bl true) fun _ _ _ => False)
    (hCX : ∀ (w : World) (H : Hp) (s : Shared) (e : Value) (s' : Shared), CX w [] H s (fun _ _ _ => False) e s' → False) :
    PySem.W.WalkO q loose XP YP l.row.toRowW d [] (fun f vs => PySem.call f vs) := by
  refine Att.attach_call hn hdf fun w s₀ s₁ mg mb fa o pm cd doc a vs ns G Y ho hd hcd hmg hobj hints hlen hg => ?_
  obtain ⟨fd, hb, hF⟩ := F w mg fa _ (hY w _ Y) G.T.g hmg
  obtain ⟨mm, hm, _⟩ := (G.T.seer hi).mods
  exact callG (hY w _ Y) G.T.g G.T.b G.T.builtins G.T.nolimit hg hobj hints (Nat.le_trans hlen hn2) hr (fun base a b c => hF base a b ⟨mm, c _ _ hm⟩) hb (fun H hO hS => hsp w H a ns hlen hO hS) fun H e s' => hCX w H s₁ e s'
end Mo

/-! ### lambdas without parameters, handed to a def that calls them within a try -/
namespace Mo
open PySem PySem.Spec PyProof.Rows L2
section
variable {P : Program} {w : World} {K : PySem.W.Frag} {mg : Str → Option Value} {base : Heap} {k : Nat} {f c : Addr} {fd : FuncData} {ps : List Str} {sp : Sp}
/-- a def that raises nothing, the place of its code object told -/
theorem okT {x qual : Str} {st : Stmt} {N : List Str} (F : Fun K x qual st f fd) (hc : fd.code = .ref c) (S : FnScope N ps (defScope st)) (len : ∀ vs H Q E, sp vs H Q E → vs.length = ps.length)
    (hbody : ∀ (A : Around) (outer : List Env) (s : Shared) (H : Hp) (vs : List V) (Q : VK) (E : XK), Room k (A.deeper (envOfC qual (defScope st) s.heap.objs.size f (.ref c))) → A.guards = some [] → sp vs H Q E →
      ∃ t, PSs (cxOf CX0 P w K mg base N qual (defScope st) f (.ref c) A outer s H E).nox (defBody st) t ∧ t { nx := fun _ H' => Q .non H', rt := Q } (start N vs) H) : FnG P w K mg base CX0 (k + 1) f fd ps sp := by
  obtain ⟨oc, od, kV, doc, pm, an, cdv, ct, osl, rfl, lk, hcd⟩ := F.ex
  obtain rfl : cdv = .ref c := hc
  refine ⟨len, fun A outer s H args us vs Q E hr hg e0 hb r hsp => ?_⟩
  have stays : ∀ b o, base.get? b = some o → s.heap.get? b = some o := fun b o e => (e0.bs b o e).1
  have KX : K.In s.heap := e0.mod.kin.keeps stays
  have kinds : ∀ y ∈ ps.zip us, (defScope st).names.lookup y.1 = some .local ∨ ((defScope st).names.lookup y.1 = some .cell ∧ ((cellsFrom (s.heap.objs.size + 1) (defScope st).names []).lookup y.1).isSome = true) := fun y hy =>
    (S.par y.1 (List.of_mem_zip (a := y.1) (b := y.2) hy).1).elim .inl fun q => .inr ⟨q, PySem.W.cellsFrom_some _ _ _ (.inl q)⟩
  refine codeAny_call_function hr.depth (KX _ _ lk) rfl S.co S.gen rfl (PySem.W.codeRec_of KX hcd) (hb _ _ _ _ (wpAny_newFunctionEnv_cells S.kind kinds fun env he s1 x => ?_))
  subst he
  refine ⟨(e0.mod.nolimit.keeps stays).keeps x.toInCall.keep, codeAny_func ?_⟩
  obtain ⟨t, ht, hq⟩ := hbody A outer s H vs Q E (hr.deeper _) hg hsp
  have I : Inv (cxOf CX0 P w K mg base N qual (defScope st) f (.ref c) A outer s H E) [] (start N vs) H s1 := inv_start S hr.hd e0 (len _ _ _ _ hsp) r x
  refine wpAny_mono (ht.nox.run [] s1 (start N vs) H _ I hq) (fun fl s' hs => ?_) fun e s' hs => hs
  cases fl with
  | ret u => exact hs.elim fun v z => z.elim fun σ' z => z.elim fun H' z => ⟨v, H', z.1.os, z.1.bare, z.1.base, z.1.hok, z.2.1, z.2.2⟩
  | next => exact hs.elim fun σ' z => z.elim fun H' z => ⟨V.non, H', z.1.os, z.1.bare, z.1.base, z.1.hok, rfl, z.2⟩
  | brk => exact hs.elim fun _ z => z.elim fun _ z => z.2.elim
  | cont => exact hs.elim fun _ z => z.elim fun _ z => z.2.elim
end
/-- the call of what was got: it stands in slot i; what it lets out is wished by W there -/
def tAct (i : Nat) (fn cc : Addr) (q : Str) (tl : XK → Hp → VK → Prop) (W : WX) : TE := fun σ H Q =>
  σ[i]? = some (some (.ref fn)) ∧ H cc = some (LamX.CodeO cc q) ∧ ∃ E : XK, (∀ cls d H', E cls d H' → W cls d σ H') ∧ tl E H Q
section
variable {X : Cx} {pins : List (Addr × Obj)} {σ : L2.St} {H : Hp} {s : Shared}
theorem pe_actS {CXg : CXT} {Eg : XK} {Ng : List Str} {qg : Str} {sg : Scope} {g fn cc : Addr} {cdg pm ctv : Value} {params : Arguments} {body : Expr} {scope : Scope} {k i : Nat} {a : Str} {pn : List (Addr × Obj)} {xe : Value → Shared → Prop} {W : WX} {tb : XK → TE} {p1 p2 : Pos}
    (I : Inv X pins σ H s) (L : LamX.LamS X.env.scope scope) (hf : s.heap.get? fn = some (PySem.W.kla_obj "<lambda>" (X.env.qual ++ "<lambda>") params body scope (cloFrom X.env.cells scope.names []) pm cc ctv)) (nfn : H fn = none) (frn : fn ∉ frs X.stack)
    (hbind : bindArgs (PySem.W.kla_fn "<lambda>" (X.env.qual ++ "<lambda>") params body scope (cloFrom X.env.cells scope.names []) pm (.ref cc) ctv) ⟨[], []⟩ = pure [])
    (tk : Takes ((cxOf CXg X.prog X.w X.K X.mg X.base Ng qg sg g cdg X.A X.stack s H Eg).tr pn xe) W) (hr : Room (k + 1) (X.A.deeper (envOfC qg sg s.heap.objs.size g cdg)))
    (hbody : ∀ (A : Around) (outer : List Env) (s' : Shared) (H' : Hp) (E : XK), Room k (A.deeper (LamX.lamEnv X scope s'.heap.objs.size fn cc)) → A.guards = X.A.guards → PE (LamX.lamCx X A outer s' H' E scope fn cc) body (tb E))
    (hN : Ng[i]? = some a) (hv : Vis sg a) (hd : (a == ("__debug__" : Str)) = false := by decide) (hcd : (a == ("__classdict__" : Str)) = false := by decide) :
    PE ((cxOf CXg X.prog X.w X.K X.mg X.base Ng qg sg g cdg X.A X.stack s H Eg).tr pn xe) (.Call (.Name a p1) [] [] p2) (tAct i fn cc (X.env.qual ++ "<lambda>") (fun E H' Q' => tb E σ H' Q') W) := by
  refine ⟨fun pinsZ sZ σZ HZ Q IZ want => ?_⟩
  obtain ⟨at_i, at_c, E, toW, told⟩ := want
  refine wpAny_Call_Name_kw (thn ((pe_var (pos := p1) (i := i) hN hv hd hcd).run pinsZ sZ σZ HZ (fun v H1 => v = .ref fn ∧ H1 = HZ) IZ ⟨.ref fn, at_i, rfl, rfl⟩) fun u s1 got => ?_)
  obtain ⟨v, H1, J1, rv, ev, eH⟩ := got
  subst ev
  subst eH
  obtain rfl : u = Value.ref fn := rv
  have stands := J1.base.keep fn _ hf nfn frn (fun z => nomatch (show fn ∈ ([] : List Addr) from z))
  refine PySem.W.callWith_F0 ⟨_, _, _, _, stands⟩ ?_
  have kept : Un (frs X.stack) [] H H1 s.heap s1.heap := J1.base
  obtain ⟨⟨ob, us, tk1, g1, g2, g3⟩, _, _⟩ := J1.hok cc _ at_c
  have runs : codeAny (model X.prog X.w) (X.A.deeper (envOfC qg sg s.heap.objs.size g cdg)) (.call (.ref fn) ⟨[], []⟩) (CR (L2.CX X.prog X.w) (envOfC qg sg s.heap.objs.size g cdg :: X.stack) X.prog X.w H1 s1 Q E) s1 := by
    refine PySem.W.kla_callFunE hr.depth stands rfl L.co L.gen rfl ⟨cc, ob, us, tk1, rfl, g1, g2, g3⟩ ?_
    rw [hbind]
    refine wpAny_pure (wpAny_newFunctionEnv (fun y hy => (L.own y hy).2) (fun y hy => absurd hy (by simp)) (fun h₂ names sub => ⟨J1.nolimit.fresh _ sub, ?_⟩) L.kind)
    show codeAny _ _ (.expr body (LamX.lamEnv X scope s1.heap.objs.size fn cc)) _ _
    have old : ∀ b o, s1.heap.get? b = some o → h₂.get? b = some o := fun b o e => sub.extBut b o (Nat.ne_of_lt (Heap.lt_size e)) (Heap.get?_push_of_some _ e)
    have J : Inv (LamX.lamCx X (X.A.deeper (envOfC qg sg s.heap.objs.size g cdg)) (envOfC qg sg s.heap.objs.size g cdg :: X.stack) s1 H1 E scope fn cc) [] σ H1 { s1 with heap := h₂, toks := s1.toks + ([] : List (Str × Value)).length } := LamX.lam_start2 I L J1.env0 hr.hd kept names old
    refine PySem.W.kla_codeExpr (wpAny_mono ((hbody _ _ s1 H1 E (hr.deeper _) rfl).run [] _ _ H1 Q J told) (fun v s' hq => hq.elim fun w' z => z.elim fun H' z => ⟨w', H', z.1.os, z.1.bare, z.1.base, z.1.hok, z.2.1, z.2.2⟩) fun e s' hq => hq)
  refine wpAny_call (codeAny_mono runs fun r s' hq => ?_)
  cases r with
  | error e => exact tk e s' (XE.of_call J1 (fun cls d H' h => toW cls d H' h) hq)
  | ok fl =>
    cases fl with
    | ret u => exact J1.after hq
    | next => exact hq.elim
    | brk => exact hq.elim
    | cont => exact hq.elim
/-- the def that calls what it got, by its body; TT: what it makes of the lambda's reading -/
def Gives (X : Cx) (Ng : List Str) (x : Str) (sg : Scope) (g : Addr) (cdg : Value) (bg : List Stmt) (a : Str) (q : Str) (k : Nat) (TT : (XK → Hp → VK → Prop) → Hp → VK → Prop) : Prop :=
  ∀ (fn cc : Addr) (s : Shared) (H : Hp) (Q : VK) (tl : XK → Hp → VK → Prop), Room (k + 1) (X.A.deeper (envOfC x sg s.heap.objs.size g cdg)) →
    (∀ (W : WX) (pn : List (Addr × Obj)) (xe : Value → Shared → Prop) (p1 p2 : Pos), Takes ((cxOf CX0 X.prog X.w X.K X.mg X.base Ng x sg g cdg X.A X.stack s H C8.E0).nox.tr pn xe) W →
      PE ((cxOf CX0 X.prog X.w X.K X.mg X.base Ng x sg g cdg X.A X.stack s H C8.E0).nox.tr pn xe) (.Call (.Name a p1) [] [] p2) (tAct 0 fn cc q tl W)) →
    H cc = some (LamX.CodeO cc q) → TT tl H Q →
    ∃ t, PSs (cxOf CX0 X.prog X.w X.K X.mg X.base Ng x sg g cdg X.A X.stack s H C8.E0).nox bg t ∧ t { nx := fun _ H' => Q .non H', rt := Q } (L2.start Ng [.ref fn]) H
end
section
variable {X : Cx}
/-- x(lambda: body) -/
theorem pe_lam {T : List (Addr × Str)} {TT : (XK → Hp → VK → Prop) → Hp → VK → Prop} {x a : Str} {g c P : Addr} {k : Nat} {st : Stmt} {fd : FuncData} {Ng : List Str} {params : Arguments} {body : Expr} {scope : Scope} {t : XK → TE} {p lpos pos : Pos}
    (F : Fun X.K x x st g fd) (hb : L2.Binds X.K fd [a] []) (Sg : FnScope Ng [a] (defScope st)) (hg : Gl X x) (hm : X.mg x = some (.ref g)) (hNg : Ng[0]? = some a) (hva : Vis (defScope st) a)
    (hG : ∀ cdv : Value, Gives X Ng x (defScope st) g cdv (defBody st) a (X.env.qual ++ "<lambda>") k TT)
    (TB : LamX.TabB X.base X.mg c P) (hcode : X.env.code = .ref c) (hmT : (P, X.env.qual ++ "<lambda>") ∈ T) (hu : ∀ p ∈ T, p.1 = P → p.2 = X.env.qual ++ "<lambda>") (hr : Room (k + 2) X.A) (L : LamX.LamS X.env.scope scope) (hdef : defaultsOf params X.env = ([], []))
    (hbind : ∀ (q : Str) (cl : List (Str × Addr)) (pm cv ctv : Value), bindArgs (PySem.W.kla_fn "<lambda>" q params body scope cl pm cv ctv) ⟨[], []⟩ = pure [])
    (hbody : ∀ (A : Around) (outer : List Env) (s' : Shared) (H' : Hp) (E : XK) (fn cc : Addr), Room k (A.deeper (LamX.lamEnv X scope s'.heap.objs.size fn cc)) → A.guards = X.A.guards → PE (LamX.lamCx X A outer s' H' E scope fn cc) body (t E))
    (hdb : (x == ("__debug__" : Str)) = false := by decide) (hd : (a == ("__debug__" : Str)) = false := by decide) (hcd : (a == ("__classdict__" : Str)) = false := by decide) :
    PE X (.Call (.Name x p) [.Lambda params body scope lpos] [] pos) (LamX.tLam T TT t) := by
  refine ⟨fun pins s σ H Q I want => ?_⟩
  obtain ⟨oc, od, kV, doc, pm, an, cdv, ct, osl, rfl, lk, hcg⟩ := F.ex
  obtain ⟨tabs, told⟩ := want
  refine wpAny_Call_Name_kw (ld_glob I hg hm (PySem.W.callWith_K (h₀ := X.base) I.ok.mod.kin F.kp ?_ (by rfl) (by rfl)) hdb)
  show wpAny _ _ (spliced ((false, eval (.Lambda params body scope lpos) X.env) :: backTo pos (starEach [] X.env))) _ _ s
  refine Calls.spliced_cons (LamX.lam_make2 I TB hcode hmT hu tabs hdef (L.has I.ok) fun fn cc pm' ctv H1 s1 J ext tabs1 stands nfn frn hco => Calls.spliced_nil ⟨J.kIn, ?_⟩)
  have runs : codeAny (model X.prog X.w) X.A (.call (.ref g) ⟨[.ref fn], []⟩) (CR CX0 X.stack X.prog X.w H1 s1 Q C8.E0) s1 := by
    refine LamX.run_ofS (N := Ng) (ps := [a]) (us := [.ref fn]) (vs := [.ref fn]) lk hcg Sg hr J.env0 (hb s1 [.ref fn] J.kIn rfl) (.cons rfl .nil) rfl fun hr1 => ?_
    obtain ⟨t1, ht1, hq1⟩ := hG cdv fn cc s1 H1 Q (fun E H' Q' => t E σ H' Q') hr1 (fun W pn xe p1 p2 tk => pe_actS (CXg := CX0) (Eg := C8.E0) (i := 0) J L stands nfn frn (hbind _ _ _ _ _) tk hr1 (fun A outer s' H' E hr2 hgu => hbody A outer s' H' E fn cc hr2 hgu) hNg hva hd hcd) hco (told H1 ext tabs1)
    exact ⟨t1, ht1.nox, hq1⟩
  refine wpAny_call (codeAny_mono runs fun r s2 hq => ?_)
  cases r with
  | error e => exact (show False from hq).elim
  | ok fl =>
    cases fl with
    | ret u => exact J.after hq
    | next => exact hq.elim
    | brk => exact hq.elim
    | cont => exact hq.elim
end
end Mo

/-! ### the end of a law that makes lambdas: the tables of code objects are empty at the start -/
namespace Mo
open PySem PySem.Spec PyProof.Rows L2
def tab0 : Obj := { cls := .none, data := .fields #[] }
/-- what the abstract heap knows at the start: the script, and the tables ts -/
def Start (ts : List Addr) (a : Addr) (H : Hp) : Prop := (∀ b ∈ ts, H b = some (.tbl #[])) ∧ ∀ b, b ∉ ts → H b = none ∨ (b = a ∧ ∃ o xs, H b = some (.frz o (.lst xs)))
theorem callT {P : Program} {w : World} {K : PySem.W.Frag} {mg mb : Str → Option Value} {CX : CXT} {k : Nat} {fa a : Addr} {cs : List (Addr × Addr)} {fd : FuncData} {x : Str} {sp : Sp} {s₁ : Shared} {vs : List Value} {ns : List Int}
    (KX : K.In s₁.heap) (hns : s₁.heap.Ns mainGlobals mg) (hb : s₁.heap.Ns builtinsNs mb) (hbb : ∀ x : Str, x ≠ "__name__" → mb x = bootBuiltins x) (hlim : s₁.heap.NoLimit) (hg : s₁.gens = #[])
    (hT : ∀ p ∈ cs, s₁.heap.get? p.2 = some tab0) (nT : ∀ p ∈ cs, K.lookup p.2 = none) (C : ∀ p ∈ cs, PySem.W.CodeHd s₁.heap p.1 p.2)
    (bmain : ∃ (bm : Addr) (ob : Obj), mg "__builtins__" = some (.ref bm) ∧ bm ≠ builtinsNs ∧ s₁.heap.get? bm = some ob ∧ ob.cls = .type "module" ∧ ob.dict = some builtinsNs ∧ ob.data = .plain)
    (ha : s₁.heap.get? a = some { cls := .type "list", data := .seq vs.toArray }) (hi : IntsAre vs ns) (hl : ns.length ≤ sizeLine) (hr : Room k callerA)
    (F : ∀ base : Heap, K.In base → base.Ns mainGlobals mg → (∀ p ∈ cs, LamX.TabB base mg p.1 p.2) → (∀ b m, s₁.heap.Ns b m → base.Ns b m) → FnG P w K mg base CX k fa fd [x] sp) (hbind : ∀ (s : Shared) (u : Value), BindsTo s fd ⟨[u], []⟩ [(x, u)])
    (hsp : ∀ H : Hp, (∀ p ∈ cs, H p.2 = some (.tbl #[])) → SqL K H a (ns.map V.int) → sp [.ref a] H (fun v _ => v = .bl true) fun _ _ _ => False)
    (hCX : ∀ H e s', CX [] H s₁ (fun _ _ _ => False) e s' → False) :
    codeAny (model P w) callerA (.call (.ref fa) ⟨[.ref a], []⟩) (fun r s' => r = .ok (.ret (.bool true)) ∧ OldK s₁.heap s'.heap ∧ s'.os = s₁.os ∧ AllBare s'.gens) s₁ := by
  have rv := vals_ints hi
  have lenV := hi.length
  obtain ⟨ts, hts⟩ : ∃ ts : List Addr, ts = cs.map fun p => p.2 := ⟨_, rfl⟩
  have inT : ∀ p ∈ cs, p.2 ∈ ts := fun p hp => hts ▸ List.mem_map.mpr ⟨p, hp, rfl⟩
  have ofT : ∀ b ∈ ts, ∃ p ∈ cs, p.2 = b := fun b hm => List.mem_map.mp (hts ▸ hm)
  have tabAt : ∀ b ∈ ts, s₁.heap.get? b = some tab0 := fun b hm => by
    obtain ⟨p, hp, rfl⟩ := ofT b hm
    exact hT p hp
  have naT : a ∉ ts := fun z => by
    have q := (tabAt a z).symm.trans ha
    cases q
  have core : ∀ H : Hp, Start ts a H → SqL K H a (ns.map V.int) → HOk P w H s₁.heap → (H a ≠ none → K.lookup a = none) →
      codeAny (model P w) callerA (.call (.ref fa) ⟨[.ref a], []⟩) (fun r s' => r = .ok (.ret (.bool true)) ∧ OldK s₁.heap s'.heap ∧ s'.os = s₁.os ∧ AllBare s'.gens) s₁ := by
    intro H hS0 hS hok hK
    have free : ∀ {b : Addr} {o : Obj}, s₁.heap.get? b = some o → (∀ us n, o.data ≠ .seq us n) → o.data ≠ .fields #[] → H b = none := fun {b o} e no1 no2 => by
      by_cases hm : b ∈ ts
      · have q := (tabAt b hm).symm.trans e
        cases q
        exact absurd rfl no2
      · rcases hS0.2 b hm with z | ⟨rfl, _⟩
        · exact z
        · rw [ha] at e
          cases e
          exact absurd rfl (no1 _ _)
    have grnd : ∀ {b : Addr} {o : Obj}, s₁.heap.get? b = some o → H b = none → (hidT s₁.heap H).get? b = some o := fun e n => hidT_get e n
    have nsK : ∀ {b : Addr} {m : Str → Option Value}, s₁.heap.Ns b m → (hidT s₁.heap H).Ns b m := fun {b m} ⟨o, es, ep, e, d, r⟩ => ⟨o, es, ep, grnd e (free e (fun us n z => nomatch d.symm.trans z) fun z => nomatch d.symm.trans z), d, r⟩
    have hKb : K.In (hidT s₁.heap H) := fun b o e => grnd (KX b o e) (by
      by_cases hm : b ∈ ts
      · obtain ⟨p, hp, rfl⟩ := ofT b hm
        rw [nT p hp] at e
        cases e
      · rcases hS0.2 b hm with z | ⟨rfl, o1, xs, z⟩
        · exact z
        · rw [hK (by rw [z]; exact Option.some_ne_none _)] at e
          cases e)
    have hM : Mod K mg (hidT s₁.heap H) := ⟨hKb, nsK hns, ⟨mb, nsK hb, hbb⟩, hlim.elim fun mc z => ⟨mc, nsK z.1, z.2⟩⟩
    have TB : ∀ p ∈ cs, LamX.TabB (hidT s₁.heap H) mg p.1 p.2 := fun p hp => by
      have at_p := hT p hp
      refine ⟨?_, ?_, fun z => ?_⟩
      · obtain ⟨o, us, file, tf, flags, tg, inF, text, tt, e1, r1, r2, r3, rest⟩ := C p hp
        refine ⟨o, us, file, tf, flags, tg, inF, text, tt, grnd e1 (free e1 (fun vs n z => nomatch r2.symm.trans z) fun z => ?_), r1, r2, r3, rest⟩
        have q := r2.symm.trans z
        cases q
        exact absurd r3 (by simp)
      · obtain ⟨bm, ob, b1, b2, b3, b4, b5, b6⟩ := bmain
        refine ⟨bm, ob, b1, b2, fun q => ?_, fun q => ?_, grnd b3 (free b3 (fun vs n z => nomatch b6.symm.trans z) fun z => nomatch b6.symm.trans z), b4, b5, b6⟩
        · obtain ⟨o, es, ep, e, hd, _⟩ := hns
          rw [q, e] at b3
          cases b3
          cases hd.symm.trans b6
        · rw [q, at_p] at b3
          cases b3
          cases b6
      · obtain ⟨o, es, ep, e, hd, _⟩ := hns
        rw [z, at_p] at e
        cases e
        cases hd
    have e0 : Env0 P w K mg (hidT s₁.heap H) callerA [] s₁ H := ⟨rfl, hM, fun b o e => of_hidT e, Nat.le_of_eq (hidT_size _ _), trivial, fun b hb => absurd (show b ∈ ([] : List Addr) from hb) (by simp), hok, .of_eq hg⟩
    refine codeAny_mono ((F _ hKb (nsK hns) TB fun b m z => nsK z).run callerA [] s₁ H ⟨[.ref a], []⟩ [.ref a] [.ref a] _ _ hr rfl e0 (hbind s₁ (.ref a)) (.cons rfl .nil) (hsp H (fun p hp => hS0.1 _ (inT p hp)) hS)) fun r s' h => ?_
    cases r with
    | error e => exact (hCX H e s' h).elim
    | ok fl =>
      cases fl with
      | next => exact h.elim
      | brk => exact h.elim
      | cont => exact h.elim
      | ret u =>
        obtain ⟨v, H', os, bare, un, hok', r', q⟩ := h
        obtain rfl : v = .bl true := q
        obtain rfl : u = Value.bool true := r'
        have same : ∀ b o, b ∉ ts → s₁.heap.get? b = some o → s'.heap.get? b = some o := fun b o hm e => by
          rcases hS0.2 b hm with z | ⟨_, ob, xs, z⟩
          · exact un.keep b o e z (by intro z; exact absurd (show b ∈ ([] : List Addr) from z) (by simp)) (by simp)
          · have e1 := (hok b _ z).1
            rw [e] at e1
            cases e1
            exact (hok' b _ (un.frzs b _ _ z)).1
        have more : ∀ b ∈ ts, ∃ us : Array Value, s'.heap.get? b = some { cls := .none, data := .fields us } := fun b hm => by
          obtain ⟨us, z⟩ := un.tbls b #[] (hS0.1 b hm)
          exact ⟨_, hok' b _ z⟩
        refine ⟨rfl, ⟨fun b o e => ?_, fun b o e => ?_⟩, os, bare⟩
        · by_cases hm : b ∈ ts
          · obtain ⟨us, z⟩ := more b hm
            obtain ⟨p, hp, rfl⟩ := ofT b hm
            have q := (hT p hp).symm.trans e
            cases q
            exact .inr (.inl ⟨((C p hp).tab (hT p hp)).isCodeTable, rfl, #[], us, rfl, by rw [Array.empty_append]; exact z⟩)
          · exact .inl (same b o hm e)
        · by_cases hm : b ∈ ts
          · exact (more b hm).elim fun us z => ⟨_, z⟩
          · exact ⟨o, same b o hm e⟩
  cases hk : K.lookup a with
  | some o =>
    have e := (KX a o hk).symm.trans ha
    cases e
    have no : ∀ b, b ∉ ts → (if b ∈ ts then some (HO.tbl #[]) else none) = none := fun b hm => if_neg hm
    refine core (fun b => if b ∈ ts then some (.tbl #[]) else none) ⟨fun b hm => if_pos hm, fun b hm => .inl (no b hm)⟩ (.inr ⟨_, vs.toArray, _, hk, rfl, rfl, rfl, by rw [List.size_toArray, lenV]; exact hl, by simpa using rv⟩) (fun b u z => ?_) fun z => absurd (no a naT) z
    by_cases hm : b ∈ ts
    · have q := (if_pos hm).symm.trans z
      cases q
      exact tabAt b hm
    · cases (no b hm).symm.trans z
  | none =>
    have at_a : ∀ {u : HO}, (if a = a then some u else if a ∈ ts then some (HO.tbl #[]) else none) = some u := fun {u} => if_pos rfl
    have nb : ∀ b ∈ ts, b ≠ a := fun b hm z => naT (z ▸ hm)
    refine core (fun b => if b = a then some (.frz { cls := .type "list", data := .seq vs.toArray } (.lst (ns.map V.int))) else if b ∈ ts then some (.tbl #[]) else none)
      ⟨fun b hm => (if_neg (nb b hm)).trans (if_pos hm), fun b hm => ?_⟩ (.inl (.inr ⟨{ cls := .type "list", data := .seq vs.toArray }, at_a⟩)) (fun b u z => ?_) fun _ => hk
    · by_cases e : b = a
      · exact .inr ⟨e, _, _, if_pos e⟩
      · exact .inl ((if_neg e).trans (if_neg hm))
    · by_cases e : b = a
      · have q := (if_pos e).symm.trans z
        cases q
        rw [e]
        exact ⟨ha, by rw [List.length_map]; exact hl, vs, _, rv, ha⟩
      · have q := (if_neg e).symm.trans z
        by_cases hm : b ∈ ts
        · have q1 := (if_pos hm).symm.trans q
          cases q1
          exact tabAt b hm
        · cases (if_neg hm).symm.trans q
/-- the tables of the defs of the text are empty when the law is called -/
def Empties (q : Program) (K : PySem.W.Frag) (mg : Str → Option Value) (h : Heap) : Prop := ∀ (n : Str) (a c P : Addr) (o : Obj) (fd : FuncData), ((recsOf q).any fun e => e.name == n) = true → mg n = some (.ref a) → K.lookup a = some o → o.data = .func fd → fd.code = .ref c → PySem.W.codeHdIn K c P = true → h.get? P = some tab0
/-- what is known of the law's promise at the head's heap -/
def LawT (l : PySem.W.OpenLaw) (w : World) (K : PySem.W.Frag) (CX : CXT) (k n : Nat) (x : Str) (mg : Str → Option Value) (fa : Addr) (h : Heap) : Prop :=
  ∃ (fd : FuncData) (cs : List (Addr × Addr)) (sp : Sp), (∀ p ∈ cs, h.get? p.2 = some tab0) ∧ (∀ p ∈ cs, K.lookup p.2 = none) ∧ (∀ p ∈ cs, PySem.W.codeHdIn K p.1 p.2 = true) ∧ (∀ (s : Shared) (u : Value), BindsTo s fd ⟨[u], []⟩ [(x, u)]) ∧
    (∀ (H : Hp) (a : Addr) (ns : List Int), ns.length ≤ n → (∀ p ∈ cs, H p.2 = some (.tbl #[])) → SqL K H a (ns.map V.int) → sp [.ref a] H (fun v _ => v = .bl true) fun _ _ _ => False) ∧
    ∀ base : Heap, K.In base → base.Ns mainGlobals mg → (∀ p ∈ cs, LamX.TabB base mg p.1 p.2) → (∃ mm, base.Ns sysModules mm) → FnG l.prog w K mg base CX k fa fd [x] sp
theorem walkT {l : PySem.W.OpenLaw} {n k : Nat} {q : Program} {loose : List Str} {XP : (Str → Option Value) → Heap → Prop} {YP : World → Heap → Prop} {d : DefRec} {K : Params → PySem.W.Frag} {CX : World → CXT} {x : Str}
    (hn : l.most = some n) (hn2 : n ≤ sizeLine) (hdf : d.params.defaults = []) (hr : Room k callerA) (hY : ∀ (w : World) (h : Heap), YP w h → (K w.params).In h) (hi : importsNone q = true)
    (F : ∀ (w : World) (mg : Str → Option Value) (fa : Addr) (h : Heap), (K w.params).In h → h.Ns mainGlobals mg → mg d.name = some (.ref fa) → Empties q (K w.params) mg h → LawT l w (K w.params) (CX w) k n x mg fa h)
    (hCX : ∀ (w : World) (H : Hp) (s : Shared) (e : Value) (s' : Shared), CX w [] H s (fun _ _ _ => False) e s' → False) :
    PySem.W.WalkO q loose XP YP l.row.toRowW d [] (fun f vs => PySem.call f vs) := by
  refine Att.attach_call hn hdf fun w s₀ s₁ mg mb fa o pm cd doc a vs ns G Y ho hd hcd hmg hobj hints hlen hg => ?_
  have KX := hY w _ Y
  have em : Empties q (K w.params) mg s₁.heap := fun n1 a1 c1 P1 o1 fd1 hrec g1 g2 g3 g4 g5 => by
    obtain ⟨dL, hm, en⟩ := List.any_eq_true.mp hrec
    have en2 : dL.name = n1 := beq_iff_eq.mp en
    obtain ⟨a2, o2, fd2, c2, P2, t1, t2, t3, t4, _, ⟨oc, vc, u1, _, u3, u4⟩, hP⟩ := G.T.tab dL hm
    cases (by rw [en2, g1] at t1; exact t1 : some (Value.ref a1) = some (Value.ref a2))
    have x1 := (KX _ _ g2).symm.trans t2
    cases x1
    cases g3.symm.trans t3
    cases g4.symm.trans t4
    obtain ⟨ob, us, _, _, _, _, _, _, _, y1, _, y2, y3, _⟩ := PySem.W.codeHd_of_K KX g5
    cases y1.symm.trans u1
    cases y2.symm.trans u3
    cases y3.symm.trans u4
    exact hP
  obtain ⟨fd, cs, sp, hT, nT, C, hb, hsp, hF⟩ := F w mg fa _ KX G.T.g hmg em
  obtain ⟨mm, hmm, _⟩ := (G.T.seer hi).mods
  exact callT KX G.T.g G.T.b G.T.builtins G.T.nolimit hg hT nT (fun p hp => PySem.W.codeHd_of_K KX (C p hp)) G.T.bmain hobj hints (Nat.le_trans hlen hn2) hr (fun base a b c d => hF base a b c ⟨mm, d _ _ hmm⟩) hb (fun H hH hS => hsp H a ns hlen hH hS) fun H e s' => hCX w H s₁ e s'
end Mo

/-! ### comprehensions whose tests and items lean on the state of the def around them -/
namespace Mo
open PySem PySem.Spec PyProof.Rows L2
/-- while Y runs, X's own names stand as σ tells -/
def Back (X Y : Cx) (pins : List (Addr × Obj)) (σ : L2.St) : Prop := ∀ (pl : List (Addr × Obj)) (τ : L2.St) (G : Hp) (r : Shared), Inv Y pl τ G r → Inv X pins σ G r
section
variable {X : Cx}
/-- a list comprehension; what its block asks is told over the slots at its start -/
theorem pe_lcW {elt tg iter : Expr} {ifs : List Expr} {scope : Scope} {own : List (Str × Nat)} {pos : Pos} {wi : TI} {g : TG} {tt : L2.St → TT} {te : L2.St → TE} (hc : X.calm = true) (hN : X.N.Nodup) (hi : PI X tg iter wi) (ok : BlkOk X.N X.env.scope scope own)
    (hg : ∀ (r : Shared) (G : Hp) (C : Addr) (cl : List (Str × Addr)) (fp : List Addr), PG (X.blk r G scope (compEnvC scope cl C X.env) fp) tg g)
    (ht : ∀ (r : Shared) (G : Hp) (C : Addr) (cl : List (Str × Addr)) (fp : List Addr) (pins : List (Addr × Obj)) (σ : L2.St), Back X (X.blk r G scope (compEnvC scope cl C X.env) fp) pins σ → PTs (X.blk r G scope (compEnvC scope cl C X.env) fp) ifs (tt σ))
    (he : ∀ (r : Shared) (G : Hp) (C : Addr) (cl : List (Str × Addr)) (fp : List Addr) (pins : List (Addr × Obj)) (σ : L2.St), Back X (X.blk r G scope (compEnvC scope cl C X.env) fp) pins σ → PE (X.blk r G scope (compEnvC scope cl C X.env) fp) elt (te σ))
    (hs : ∀ x, foldedSetIterable iter X.env x = pure x := by intro _; rfl) :
    PE X (.ListComp elt [⟨tg, iter, ifs, 0⟩] scope pos) (fun σ => tLc wi g (tt σ) (te σ) (own.map (·.2)) σ) := by
  constructor
  intro pins s σ H Q I want
  rw [eval_ListComp]
  have caught : ∀ y ∈ scope.names, y.2 = .free → ∃ c, X.env.cells.lookup y.1 = some c := fun y hy e => (ok.free y hy e).elim (fun z => I.ok.has _ (.inl z)) (fun z => I.ok.has _ (.inr z))
  refine wpAny_comprehension_free (use := none) rfl hs (closure_ok caught) ok.kind (fun y hy e => (ok.uniq y hy).trans (congrArg some e)) (thn (hi.run pins s σ H _ I want) fun _ _ h1 => thn h1 fun _ sI came => ?_)
  obtain ⟨it, fp, tn, J, HI, iteq, II, T, tn0, apart, goes⟩ := came
  subst iteq
  refine wpAny_newObj_type (newEnv_comp ?_) (by show 0 ≤ sizeLine; decide)
  generalize hD : sI.heap.objs.size = D
  have nD : HI D = none := II.hok.fresh (Nat.le_of_eq hD)
  obtain ⟨W, ⟨mW, wW⟩, turn⟩ := goes D nD
  -- behind the new list
  generalize hsL : ({ sI with heap := sI.heap.push { cls := .type "list", data := .seq ([] : List Value).toArray } } : Shared) = sL
  have hpL : sL.heap = sI.heap.push { cls := .type "list", data := .seq ([] : List Value).toArray } := by rw [← hsL]
  generalize hG0 : upd HI D (.lst []) = G0 at wW
  have off : ∀ b, b < sI.heap.objs.size → G0 b = HI b := fun b lt => by
    rw [← hG0, upd_ne (fun z => by rw [z, hD] at lt; exact Nat.lt_irrefl _ lt)]
  have IL : Inv X pins σ G0 sL := by
    rw [← hsL, ← hG0]
    refine II.laid (t' := sI.toks) (fun b o e => Heap.get?_push_of_some _ e) (Nat.le_of_eq hD) ⟨Nat.zero_le _, [], 0, .nil, ?_⟩
    rw [← hD]
    exact Heap.get?_push_size _ rfl
  have apartL : ∀ b ∈ fp, FpOk X pins G0 b ∧ b < sL.heap.objs.size := fun b hb => by
    have lt : b < sI.heap.objs.size := (T.obj _ _ tn0 b hb).elim fun o z => Heap.lt_size z.1
    exact ⟨⟨(off b lt).trans (apart b hb).1, (apart b hb).2⟩, by rw [hpL, Heap.size_push]; exact Nat.lt_succ_of_lt lt⟩
  have IB := block_start IL ok hN apartL
  show codeAny _ _ (.compStart (.ListComp elt [⟨tg, iter, ifs, 0⟩] scope pos) 0 (.ref it) (.ref D) (compEnvC scope (cellsFrom (sL.heap.objs.size + 1) scope.names (cloFrom X.env.cells scope.names [])) sL.heap.objs.size X.env)) (compPost (model X.prog X.w) X.A X.xe none _ (.ref D) sL.heap.objs.size) { sL with heap := pushCells (sL.heap.push { cls := .type "dict", data := .dict #[] }) scope.names }
  generalize hcl : cellsFrom (sL.heap.objs.size + 1) scope.names (cloFrom X.env.cells scope.names []) = cl at IB ⊢
  have back : Back X (X.blk sL G0 scope (compEnvC scope cl sL.heap.objs.size X.env) fp) pins σ := fun pl τ G r B => IL.call' (ch := fp) B.os B.base B.hok B.bare fun b hb => by
    obtain ⟨⟨_, z1, _, z2, z3, z4⟩, _⟩ := apartL b hb
    exact ⟨z2, z1, z3, z4⟩
  have pg := hg sL G0 sL.heap.objs.size cl fp
  have pt := ht sL G0 sL.heap.objs.size cl fp pins σ back
  have pe := he sL G0 sL.heap.objs.size cl fp pins σ back
  generalize hsB : ({ sL with heap := pushCells (sL.heap.push { cls := .type "dict", data := .dict #[] }) scope.names } : Shared) = sB at IB ⊢
  have tnB : tn 0 sB.heap := T.keep _ _ _ tn0 fun b _ o e => by
    rw [← hsB]
    show (pushCells (sL.heap.push { cls := .type "dict", data := .dict #[] }) scope.names).get? b = some o
    rw [hpL]
    exact pushCells_keeps _ _ _ _ (Heap.get?_push_of_some _ (Heap.get?_push_of_some _ e))
  have stays : ∀ {τ : L2.St} {G : Hp} {r : Shared}, Inv (X.blk sL G0 scope (compEnvC scope cl sL.heap.objs.size X.env) fp) [] τ G r → (∀ b ∈ fp, G b = none) → ∀ b ∈ fp, FpOk (X.blk sL G0 scope (compEnvC scope cl sL.heap.objs.size X.env) fp) [] G b := fun B hn b hb =>
    ⟨hn b hb, (B.ok.exf b hb).1, B.ok.exfs b hb, .inl hb, fun x c e => (B.ok.exf b hb).2 x c e, fun p hp => nomatch (show p ∈ ([] : List (Addr × Obj)) from hp)⟩
  have run : codeAny (model X.prog X.w) X.A (.compLoop (.ListComp elt [⟨tg, iter, ifs, 0⟩] scope pos) 0 (.ref it) (.ref D) (compEnvC scope cl sL.heap.objs.size X.env)) (compPost (model X.prog X.w) X.A X.xe none (EP X pins σ Q) (.ref D) sL.heap.objs.size) sB := by
    refine compLoop_any (fun m r => ∃ i G, Inv (X.blk sL G0 scope (compEnvC scope cl sL.heap.objs.size X.env) fp) [] (wipe σ (own.map (·.2))) G r ∧ tn i r.heap ∧ (∀ b ∈ fp, G b = none) ∧ W i m G) (fun m r at_ => ?_) mW ⟨0, G0, IB, tnB, fun b hb => (apartL b hb).1.1, wW⟩
    obtain ⟨i, G, B, ti, nG, wi'⟩ := at_
    rcases turn i m G wi' with ⟨stop, ends⟩ | ⟨go, Nx, nxt, step⟩
    · -- no item is left
      refine thnF (T.done (X.blk sL G0 scope (compEnvC scope cl sL.heap.objs.size X.env) fp) rfl rfl rfl hc i [] r _ G (fun _ _ => False) B (stays B nG) ti stop) fun x r1 out => ?_
      obtain ⟨rfl, B1⟩ := out
      have IX := back _ _ _ _ B1
      obtain ⟨mp, ns, _⟩ := B1.loc
      refine ⟨mp, ns, fun h2 sb => ?_⟩
      obtain ⟨f0, f1, f2, f3, f4, f5⟩ := IL.fpOk (H' := G) (Nat.le_refl _) B1.free
      exact ⟨.ref D, G, IX.turned (t' := r1.toks) (fun b o hb e => (sb.2 b hb).trans e) f0 f1 f3 f4 f5, rfl, ends⟩
    · -- one more
      refine thnF (T.item (X.blk sL G0 scope (compEnvC scope cl sL.heap.objs.size X.env) fp) rfl rfl rfl hc i [] r _ G (fun _ _ => False) B (stays B nG) ti go) fun x r1 out => ?_
      obtain ⟨u, rfl, out⟩ := out
      refine thnF out fun _ r2 out2 => ?_
      obtain ⟨v, G2, B2, rv, yl, ti2, nG2⟩ := out2
      have P2 := B2.pinned (stays B2 nG2) (T.obj _ _ ti2)
      refine thnF (pg.run _ r2 _ G2 v u _ P2 rv (step v G2 yl)) fun _ r3 ⟨τ3, G3, B3, w3, q3⟩ => thnF (pt.run _ r3 τ3 G3 _ B3 q3) fun b r4 ⟨G4, B4, q4⟩ => ?_
      have closes : ∀ {r5 : Shared} {G5 : Hp}, Inv (X.blk sL G0 scope (compEnvC scope cl sL.heap.objs.size X.env) fp) ([] ++ pinsAt fp r2.heap) τ3 G5 r5 → Nx G5 → ∃ m', m' < m ∧ ∃ i G, Inv (X.blk sL G0 scope (compEnvC scope cl sL.heap.objs.size X.env) fp) [] (wipe σ (own.map (·.2))) G r5 ∧ tn i r5.heap ∧ (∀ b ∈ fp, G b = none) ∧ W i m' G := fun {r5 G5} B5 nx => by
        obtain ⟨m', less, w5⟩ := nxt G5 nx
        have held : ∀ b ∈ fp, ∀ o, r2.heap.get? b = some o → r5.heap.get? b = some o ∧ G5 b = none := fun b hb o e => by
          obtain ⟨z1, z2, _⟩ := B5.pin (b, o) (List.mem_append_right _ (List.mem_append_right _ (mem_pinsAt hb e)))
          exact ⟨z1, z2⟩
        refine ⟨m', less, i + 1, G5, (B5.unpinned (pins := [])).weak (by rw [← w3, wipe_length]) (fun j y e => ?_), T.keep _ _ _ ti2 fun b hb o e => (held b hb o e).1, fun b hb => ?_, w5⟩
        · rw [← w3] at e
          exact (wipe_some e).1
        · obtain ⟨o, e, _⟩ := T.obj _ _ ti2 b hb
          exact (held b hb o e).2
      have q4 : if b = true then te σ τ3 G4 fun y H4 => ∃ acc, H4 D = some (.lst acc) ∧ acc.length < sizeLine ∧ Nx (upd H4 D (.lst (acc ++ [y]))) else Nx G4 := q4
      by_cases hb : b = true
      · rw [if_pos hb] at q4 ⊢
        exact thnF (pe.run _ r4 τ3 G4 _ B4 q4) fun z r5 ⟨y, G5, B5, ry, acc, hacc, few, nx⟩ => app_ok (X := X.blk sL G0 scope (compEnvC scope cl sL.heap.objs.size X.env) fp) B5 hacc few ry fun r6 B6 => closes B6 nx
      · rw [if_neg hb] at q4 ⊢
        exact closes B4 q4
  exact codeAny_compStart_list run (T.self X.A 0 _ _ _ tnB run)
end
end Mo

/-! ### lambdas without parameters that are kept (in a list, a tuple, a name) and called later -/
namespace Mo
open PySem PySem.Spec PyProof.Rows L2
/-- at f stands this very object -/
def FnO (f : Addr) (ob : Obj) : HO := .ext fun h => h.get? f = some ob
theorem fnO_ok {P : Program} {w : World} {H : Hp} {h : Heap} {f : Addr} {ob : Obj} (e : h.get? f = some ob) : ObjOk P w H h f (FnO f ob) := ⟨e, ⟨ob, e⟩, fun _ _ at1 k => k _ at1⟩
theorem fnO_at {X : Cx} {pins : List (Addr × Obj)} {σ : L2.St} {H : Hp} {s : Shared} {f : Addr} {ob : Obj} (I : Inv X pins σ H s) (e : H f = some (FnO f ob)) : s.heap.get? f = some ob := (I.hok f _ e).1
/-- all tracked things of one's own kind stay -/
def ExtK (H H' : Hp) : Prop := ∀ (b : Addr) (φ : Heap → Prop), H b = some (.ext φ) → H' b = some (.ext φ)
theorem ExtK.of {H H' : Hp} (e : LamX.ExtN H H') : ExtK H H' := fun b φ h => e b _ h (fun ps z => by cases z)
theorem ExtK.same {H H' : Hp} (e : Same H H') : ExtK H H' := fun b φ h => e b _ h
theorem ExtK.but {d : Addr} {H H' : Hp} {kv : List (Key × V)} (e : But d H H') (hd : H d = some (.dK kv)) : ExtK H H' := fun b φ h => e b _ (ne_of h hd (fun z => by cases z)) h
theorem ExtK.trans {H H1 H2 : Hp} (a : ExtK H H1) (b : ExtK H1 H2) : ExtK H H2 := fun c φ h => b c φ (a c φ h)
/-- the table of a def's code objects has got one more -/
theorem tabs_more {T : List (Addr × Str)} {H : Hp} {P c : Addr} {q : Str} {ps : Array Value} {pos : Pos} (hT : LamX.Tabs T H) (hP : H P = some (.tbl ps)) (nc : H c = none) (hu : ∀ p ∈ T, p.1 = P → p.2 = q) :
    LamX.Tabs T (upd (upd H P (.tbl (ps ++ #[rawInt pos.line, rawInt pos.col, .ref c]))) c (LamX.CodeO c q)) := by
  have ncP : P ≠ c := ne_of_none hP nc
  have code_stays : ∀ {d : Addr} {q' : Str}, H d = some (LamX.CodeO d q') → upd (upd H P (.tbl (ps ++ #[rawInt pos.line, rawInt pos.col, .ref c]))) c (LamX.CodeO c q) d = some (LamX.CodeO d q') := fun {d q'} hd => by
    rw [upd_ne (ne_of_none hd nc), upd_ne (ne_of hd hP (LamX.codeO_ne _)), hd]
  intro p hp
  obtain ⟨ps1, b1, b2, b3⟩ := hT p hp
  by_cases here : p.1 = P
  · rw [here, hP] at b1
    cases b1
    rw [here]
    rw [hu p hp here] at b3 ⊢
    have lists : (ps ++ #[rawInt pos.line, rawInt pos.col, .ref c]).toList = ps.toList ++ [rawInt pos.line, rawInt pos.col, .ref c] := by simp
    refine ⟨_, (upd_ne ncP).trans upd_same, by rw [lists]; exact PySem.TriplesOk_snoc _ _ _ _ b2, fun at_ cv found => ?_⟩
    rw [lists] at found
    rcases LamX.among_app _ b2 found with old | rfl
    · exact (b3 at_ cv old).elim fun d z => ⟨d, z.1, code_stays z.2⟩
    · exact ⟨c, rfl, upd_same⟩
  · exact ⟨ps1, by rw [upd_ne (ne_of_none b1 nc), upd_ne here, b1], b2, fun at_ cv found => (b3 at_ cv found).elim fun d z => ⟨d, z.1, code_stays z.2⟩⟩
section
variable {X : Cx} {pins : List (Addr × Obj)} {σ : L2.St} {H : Hp} {s : Shared}
/-- a lambda is made, its object tracked -/
theorem lam_keep {T : List (Addr × Str)} {c P : Addr} {params : Arguments} {body : Expr} {scope : Scope} {pos : Pos} {E : Value → Shared → Prop} {Q : Value → Shared → Prop} (TB : LamX.TabB X.base X.mg c P) (hcode : X.env.code = .ref c)
    (hm : (P, X.env.qual ++ "<lambda>") ∈ T) (hu : ∀ p ∈ T, p.1 = P → p.2 = X.env.qual ++ "<lambda>") (hdef : defaultsOf params X.env = ([], [])) (hfree : ∀ y ∈ scope.names, y.2 = .free → ∃ c, X.env.cells.lookup y.1 = some c) (I : Inv X pins σ H s) (hT : LamX.Tabs T H)
    (h : ∀ (f cc : Addr) (pm ctv : Value) (G : Hp) (r : Shared), H f = none → G f = none → LamX.ExtN H G → LamX.Tabs T G → G cc = some (LamX.CodeO cc (X.env.qual ++ "<lambda>")) →
      Inv X pins σ (upd G f (FnO f (PySem.W.kla_obj "<lambda>" (X.env.qual ++ "<lambda>") params body scope (cloFrom X.env.cells scope.names []) pm cc ctv))) r → Q (.ref f) r) :
    wpAny (model X.prog X.w) X.A (eval (.Lambda params body scope pos) X.env) Q E s := by
  obtain ⟨ps, hP, triples, known⟩ := hT _ hm
  have atP : s.heap.get? P = some { cls := .none, data := .fields ps } := I.hok P _ hP
  refine PySem.W.kla_eval hdef ?_
  cases look : codeAmong pos ps.toList with
  | some cv =>
    obtain ⟨cc, rfl, hcc⟩ := known pos cv look
    refine PySem.W.kla_makeFunctionHit (mg := X.mg) (c := c) (P := P) (ps := ps) (closure_ok hfree) I.ok.glob (I.mod.glob.keeps I.bk) hcode (TB.code.keeps I.bk) atP triples look (TB.bm.keeps I.bk) fun ctv h' tk kept le => ?_
    have fresh : H h'.objs.size = none := I.hok.fresh le
    exact h _ cc _ ctv H _ fresh fresh (LamX.ExtN.refl H) hT hcc ((I.kept (t' := tk) (h' := h') kept).laid (t' := tk) (fun b o e => Heap.get?_push_of_some _ e) (Nat.le_refl _) (fnO_ok (Heap.get?_push_size _ rfl)))
  | none =>
    refine PySem.W.kla_makeFunction (mg := X.mg) (c := c) (P := P) (ps := ps) (closure_ok hfree) I.ok.glob (I.mod.glob.keeps I.bk) hcode (TB.code.keeps I.bk) atP triples look TB.gP (TB.bm.keeps I.bk) fun cc ctv h' tk kept ge lt isCode table => ?_
    obtain ⟨c2, oc, fv, tq, ceq, oce, ocd, ocq⟩ := isCode
    cases ceq
    have ncc : H cc = none := I.hok.fresh ge
    have le : s.heap.objs.size ≤ h'.objs.size := Nat.le_trans ge (Nat.le_of_lt lt)
    have J := LamX.inv_table (t' := tk) (more := #[rawInt pos.line, rawInt pos.col, .ref cc]) (q := X.env.qual ++ "<lambda>") (h' := h') I hP kept table ge ⟨oc, fv, tq, oce, ocd, ocq⟩
    refine h h'.objs.size cc _ ctv _ _ (I.hok.fresh le) (J.hok.fresh (Nat.le_refl _)) (fun b o e n => ?_) (tabs_more hT hP ncc hu) upd_same (J.laid (t' := tk) (fun b o e => Heap.get?_push_of_some _ e) (Nat.le_refl _) (fnO_ok (Heap.get?_push_size _ rfl)))
    rw [upd_ne (ne_of_none e ncc), upd_ne (fun z => n ps (by rw [z, hP] at e; exact (Option.some.inj e).symm)), e]
end
/-- the lambda at fn was made in X; t tells what its body does over X's slots -/
def LamAt (X : Cx) (k : Nat) (H : Hp) (fn : Addr) (t : XK → TE) : Prop := ∃ (params : Arguments) (body : Expr) (scope : Scope) (pm ctv : Value) (cc : Addr),
  H fn = some (FnO fn (PySem.W.kla_obj "<lambda>" (X.env.qual ++ "<lambda>") params body scope (cloFrom X.env.cells scope.names []) pm cc ctv)) ∧ H cc = some (LamX.CodeO cc (X.env.qual ++ "<lambda>")) ∧ LamX.LamS X.env.scope scope ∧
  (∀ (q : Str) (cl : List (Str × Addr)) (pm cv ctv : Value), bindArgs (PySem.W.kla_fn "<lambda>" q params body scope cl pm cv ctv) ⟨[], []⟩ = pure []) ∧
  ∀ (A : Around) (outer : List Env) (r : Shared) (G : Hp) (E : XK) (fn cc : Addr), Room k (A.deeper (LamX.lamEnv X scope r.heap.objs.size fn cc)) → A.guards = X.A.guards → PE (LamX.lamCx X A outer r G E scope fn cc) body (t E)
theorem LamAt.keep {X : Cx} {k : Nat} {H H' : Hp} {fn : Addr} {t : XK → TE} (h : LamAt X k H fn t) (e : ExtK H H') : LamAt X k H' fn t := by
  obtain ⟨p, b, sc, pm, ctv, cc, h1, h2, r⟩ := h
  exact ⟨p, b, sc, pm, ctv, cc, e _ _ h1, e _ _ h2, r⟩
theorem LamAt.some {X : Cx} {k : Nat} {H : Hp} {fn : Addr} {t : XK → TE} (h : LamAt X k H fn t) : ∃ φ, H fn = some (.ext φ) := by
  obtain ⟨p, b, sc, pm, ctv, cc, h1, h2, r⟩ := h
  exact ⟨_, h1⟩
/-- lambda: body, as a value -/
def tLamV (X : Cx) (k : Nat) (T : List (Addr × Str)) (t : XK → TE) : TE := fun _ H Q => LamX.Tabs T H ∧ ∀ (fn : Addr) (H1 : Hp), H fn = none → LamX.ExtN H H1 → LamX.Tabs T H1 → LamAt X k H1 fn t → Q (.ref fn) H1
theorem pe_lamV {X : Cx} {T : List (Addr × Str)} {c P : Addr} {k : Nat} {params : Arguments} {body : Expr} {scope : Scope} {t : XK → TE} {lpos : Pos}
    (TB : LamX.TabB X.base X.mg c P) (hcode : X.env.code = .ref c) (hmT : (P, X.env.qual ++ "<lambda>") ∈ T) (hu : ∀ p ∈ T, p.1 = P → p.2 = X.env.qual ++ "<lambda>") (L : LamX.LamS X.env.scope scope) (hdef : defaultsOf params X.env = ([], []))
    (hbind : ∀ (q : Str) (cl : List (Str × Addr)) (pm cv ctv : Value), bindArgs (PySem.W.kla_fn "<lambda>" q params body scope cl pm cv ctv) ⟨[], []⟩ = pure [])
    (hbody : ∀ (A : Around) (outer : List Env) (r : Shared) (G : Hp) (E : XK) (fn cc : Addr), Room k (A.deeper (LamX.lamEnv X scope r.heap.objs.size fn cc)) → A.guards = X.A.guards → PE (LamX.lamCx X A outer r G E scope fn cc) body (t E)) :
    PE X (.Lambda params body scope lpos) (tLamV X k T t) := by
  refine ⟨fun pins s σ H Q I ⟨hT, told⟩ => lam_keep TB hcode hmT hu hdef (L.has I.ok) I hT fun f cc pm ctv G r nf ng ext tb code J => ?_⟩
  have s1 := same_new (o := FnO f (PySem.W.kla_obj "<lambda>" (X.env.qual ++ "<lambda>") params body scope (cloFrom X.env.cells scope.names []) pm cc ctv)) ng
  exact ⟨.ref f, _, J, rfl, told f _ nf (fun b o e n => s1 _ _ (ext b o e n)) (LamX.Tabs.ext tb fun b o e => s1 _ _ e) ⟨params, body, scope, pm, ctv, cc, upd_same, s1 _ _ code, L, hbind, hbody⟩⟩
/-- the call of what was got, the thing F: it stands in slot i; what it lets out is wished by W there -/
def tActF (i : Nat) (fn cc : Addr) (q : Str) (F : HO) (tl : XK → Hp → VK → Prop) (W : WX) : TE := fun σ H Q =>
  σ[i]? = some (some (.ref fn)) ∧ H cc = some (LamX.CodeO cc q) ∧ H fn = some F ∧ ∃ E : XK, (∀ cls d H', E cls d H' → W cls d σ H') ∧ tl E H Q
section
variable {X : Cx} {pins : List (Addr × Obj)} {σ : L2.St} {H : Hp} {s : Shared}
theorem pe_actF {CXg : CXT} {Eg : XK} {Ng : List Str} {qg : Str} {sg : Scope} {g fn cc : Addr} {cdg pm ctv : Value} {params : Arguments} {body : Expr} {scope : Scope} {k i : Nat} {a : Str} {pn : List (Addr × Obj)} {xe : Value → Shared → Prop} {W : WX} {tb : XK → TE} {p1 p2 : Pos}
    (I : Inv X pins σ H s) (L : LamX.LamS X.env.scope scope)
    (hbind : ∀ (q : Str) (cl : List (Str × Addr)) (pm cv ctv : Value), bindArgs (PySem.W.kla_fn "<lambda>" q params body scope cl pm cv ctv) ⟨[], []⟩ = pure [])
    (tk : Takes ((cxOf CXg X.prog X.w X.K X.mg X.base Ng qg sg g cdg X.A X.stack s H Eg).tr pn xe) W) (hr : Room (k + 1) (X.A.deeper (envOfC qg sg s.heap.objs.size g cdg)))
    (hbody : ∀ (A : Around) (outer : List Env) (r : Shared) (G : Hp) (E : XK) (fn cc : Addr), Room k (A.deeper (LamX.lamEnv X scope r.heap.objs.size fn cc)) → A.guards = X.A.guards → PE (LamX.lamCx X A outer r G E scope fn cc) body (tb E))
    (hN : Ng[i]? = some a) (hv : Vis sg a) (hd : (a == ("__debug__" : Str)) = false := by decide) (hcd : (a == ("__classdict__" : Str)) = false := by decide) :
    PE ((cxOf CXg X.prog X.w X.K X.mg X.base Ng qg sg g cdg X.A X.stack s H Eg).tr pn xe) (.Call (.Name a p1) [] [] p2) (tActF i fn cc (X.env.qual ++ "<lambda>") (FnO fn (PySem.W.kla_obj "<lambda>" (X.env.qual ++ "<lambda>") params body scope (cloFrom X.env.cells scope.names []) pm cc ctv)) (fun E H' Q' => tb E σ H' Q') W) := by
  constructor
  intro pinsZ sZ τ HZ Q IZ ⟨at_i, at_c, at_f, E, toW, told⟩
  refine wpAny_Call_Name_kw (thn ((pe_var (pos := p1) (i := i) hN hv hd hcd).run pinsZ sZ τ HZ (fun v H1 => v = .ref fn ∧ H1 = HZ) IZ ⟨.ref fn, at_i, rfl, rfl⟩) fun u r got => ?_)
  obtain ⟨v, H1, J, rel, ev, eH⟩ := got
  subst ev
  rw [eH] at J
  cases (show u = Value.ref fn from rel)
  have here := fnO_at J at_f
  refine PySem.W.callWith_F0 ⟨_, _, _, _, here⟩ ?_
  have since : Un (frs X.stack) [] H HZ s.heap r.heap := J.base
  obtain ⟨⟨ob, us, tq, c1, c2, c3⟩, _, _⟩ := J.hok cc _ at_c
  have inner : codeAny (model X.prog X.w) (X.A.deeper (envOfC qg sg s.heap.objs.size g cdg)) (.call (.ref fn) ⟨[], []⟩) (CR (L2.CX X.prog X.w) (envOfC qg sg s.heap.objs.size g cdg :: X.stack) X.prog X.w HZ r Q E) r := by
    refine PySem.W.kla_callFunE hr.depth here rfl L.co L.gen rfl ⟨cc, ob, us, tq, rfl, c1, c2, c3⟩ ?_
    rw [hbind]
    refine wpAny_pure (wpAny_newFunctionEnv (fun y hy => (L.own y hy).2) (fun y hy => absurd hy (by simp)) (fun h2 names sub => ⟨J.nolimit.fresh _ sub, ?_⟩) L.kind)
    show codeAny _ _ (.expr body (LamX.lamEnv X scope r.heap.objs.size fn cc)) _ _
    have B := LamX.lam_start2 (HZ := HZ) (E := E) (c' := cc) (f := fn) (tk := r.toks + ([] : List (Str × Value)).length) I L J.env0 hr.hd since names fun b o e => sub.extBut b o (Nat.ne_of_lt (Heap.lt_size e)) (Heap.get?_push_of_some _ e)
    refine PySem.W.kla_codeExpr (wpAny_mono ((hbody _ _ r HZ E fn cc (hr.deeper _) rfl).run [] _ _ HZ Q B told) (fun v r3 z => ?_) fun e r3 z => z)
    obtain ⟨y, H3, J3, ry, q⟩ := z
    exact ⟨y, H3, J3.os, J3.bare, J3.base, J3.hok, ry, q⟩
  refine wpAny_call (codeAny_mono inner fun out r2 ends => ?_)
  · match out, ends with
    | .error e, ends => exact tk e r2 (XE.of_call J (fun cls d H' z => toW cls d H' z) ends)
    | .ok (.ret u), ends => exact J.after ends
    | .ok .next, ends => exact ends.elim
    | .ok .brk, ends => exact ends.elim
    | .ok .cont, ends => exact ends.elim
/-- the def that calls what it got, by its body -/
def GivesF (X : Cx) (Ng : List Str) (x : Str) (sg : Scope) (g : Addr) (cdg : Value) (bg : List Stmt) (a : Str) (q : Str) (k : Nat) (TT : (XK → Hp → VK → Prop) → Hp → VK → Prop) : Prop :=
  ∀ (fn cc : Addr) (F : HO) (s : Shared) (H : Hp) (Q : VK) (tl : XK → Hp → VK → Prop), (∃ φ, F = .ext φ) → Room (k + 1) (X.A.deeper (envOfC x sg s.heap.objs.size g cdg)) →
    (∀ (W : WX) (pn : List (Addr × Obj)) (xe : Value → Shared → Prop) (p1 p2 : Pos), Takes ((cxOf CX0 X.prog X.w X.K X.mg X.base Ng x sg g cdg X.A X.stack s H C8.E0).nox.tr pn xe) W →
      PE ((cxOf CX0 X.prog X.w X.K X.mg X.base Ng x sg g cdg X.A X.stack s H C8.E0).nox.tr pn xe) (.Call (.Name a p1) [] [] p2) (tActF 0 fn cc q F tl W)) →
    H cc = some (LamX.CodeO cc q) → H fn = some F → TT tl H Q →
    ∃ t, PSs (cxOf CX0 X.prog X.w X.K X.mg X.base Ng x sg g cdg X.A X.stack s H C8.E0).nox bg t ∧ t { nx := fun _ H' => Q .non H', rt := Q } (L2.start Ng [.ref fn]) H
/-- the call of such a def, where X's names stand -/
theorem run_kept {TT : (XK → Hp → VK → Prop) → Hp → VK → Prop} {x a : Str} {g fn : Addr} {k : Nat} {st : Stmt} {fd : FuncData} {Ng : List Str} {t : XK → TE} {Q : VK}
    (F : Fun X.K x x st g fd) (hb : L2.Binds X.K fd [a] []) (Sg : FnScope Ng [a] (defScope st)) (hNg : Ng[0]? = some a) (hva : Vis (defScope st) a)
    (hG : ∀ cdv : Value, GivesF X Ng x (defScope st) g cdv (defBody st) a (X.env.qual ++ "<lambda>") k TT) (hr : Room (k + 2) X.A)
    (I : Inv X pins σ H s) (LA : LamAt X k H fn t) (told : TT (fun E H' Q' => t E σ H' Q') H Q)
    (hd : (a == ("__debug__" : Str)) = false := by decide) (hcd : (a == ("__classdict__" : Str)) = false := by decide) :
    codeAny (model X.prog X.w) X.A (.call (.ref g) ⟨[.ref fn], []⟩) (CR CX0 X.stack X.prog X.w H s Q C8.E0) s := by
  obtain ⟨oc, od, kV, doc, pm, an, cdv, ct, osl, rfl, lk, hcg⟩ := F.ex
  obtain ⟨params, body, scope, pm', ctv, cc, at_f, at_c, L, hbind, hbody⟩ := LA
  refine LamX.run_ofS (N := Ng) (ps := [a]) (us := [.ref fn]) (vs := [.ref fn]) lk hcg Sg hr I.env0 (hb s [.ref fn] I.kIn rfl) (.cons rfl .nil) rfl fun hr1 => ?_
  obtain ⟨t1, ht1, hq1⟩ := hG cdv fn cc _ s H Q (fun E H' Q' => t E σ H' Q') ⟨_, rfl⟩ hr1 (fun W pn xe p1 p2 tk => pe_actF (CXg := CX0) (Eg := C8.E0) (i := 0) (tb := t) I L hbind tk hr1 hbody hNg hva hd hcd) at_c at_f told
  exact ⟨t1, ht1.nox, hq1⟩
end
/-- x(e), e a lambda that X made, called in X -/
def tCallL (X : Cx) (k : Nat) (TT : (XK → Hp → VK → Prop) → Hp → VK → Prop) (te : TE) : TE := fun σ H Q => te σ H fun v H1 => ∃ (fn : Addr) (t : XK → TE), v = .ref fn ∧ LamAt X k H1 fn t ∧ TT (fun E H' Q' => t E σ H' Q') H1 Q
theorem pe_callL {X : Cx} {TT : (XK → Hp → VK → Prop) → Hp → VK → Prop} {x a : Str} {g : Addr} {k : Nat} {st : Stmt} {fd : FuncData} {Ng : List Str} {e : Expr} {te : TE} {p pos : Pos}
    (F : Fun X.K x x st g fd) (hb : L2.Binds X.K fd [a] []) (Sg : FnScope Ng [a] (defScope st)) (hg : Gl X x) (hm : X.mg x = some (.ref g)) (hNg : Ng[0]? = some a) (hva : Vis (defScope st) a)
    (hG : ∀ cdv : Value, GivesF X Ng x (defScope st) g cdv (defBody st) a (X.env.qual ++ "<lambda>") k TT) (hr : Room (k + 2) X.A) (he : PE X e te)
    (hs : starEach [e] X.env = (false, eval e X.env) :: starEach [] X.env := by rfl) (hdb : (x == ("__debug__" : Str)) = false := by decide) (hd : (a == ("__debug__" : Str)) = false := by decide) (hcd : (a == ("__classdict__" : Str)) = false := by decide) :
    PE X (.Call (.Name x p) [e] [] pos) (tCallL X k TT te) := by
  constructor
  intro pins s σ H Q I want
  refine wpAny_Call_Name_kw (ld_glob I hg hm (PySem.W.callWith_K (h₀ := X.base) I.ok.mod.kin F.kp ?_ hs (by rfl)) hdb)
  rw [hs]
  show wpAny _ _ (spliced ((false, eval e X.env) :: backTo pos (starEach [] X.env))) _ _ s
  refine Calls.spliced_cons (thn (he.run pins s σ H _ I want) fun u r ⟨v, H1, J, rel, fn, t, ev, LA, told⟩ => Calls.spliced_nil ⟨J.kIn, ?_⟩)
  subst ev
  cases (show u = Value.ref fn from rel)
  refine wpAny_call (codeAny_mono (run_kept F hb Sg hNg hva hG hr J LA told hd hcd) fun out r2 ends => ?_)
  match out, ends with
  | .error e, ends => exact (show False from ends).elim
  | .ok (.ret u), ends => exact J.after ends
  | .ok .next, ends => exact ends.elim
  | .ok .brk, ends => exact ends.elim
  | .ok .cont, ends => exact ends.elim
/-- .. called in the block of one of X's comprehensions -/
def tCallW (X : Cx) (k : Nat) (σ : L2.St) (TT : (XK → Hp → VK → Prop) → Hp → VK → Prop) (te : TE) : TE := fun τ H Q => te τ H fun v H1 => ∃ (fn : Addr) (t : XK → TE), v = .ref fn ∧ LamAt X k H1 fn t ∧ TT (fun E H' Q' => t E σ H' Q') H1 Q
theorem pe_callW {X : Cx} {s0 : Shared} {G0 : Hp} {bsc : Scope} {ce : Env} {fp : List Addr} {pl : List (Addr × Obj)} {σ : L2.St} {TT : (XK → Hp → VK → Prop) → Hp → VK → Prop} {x a : Str} {g : Addr} {k : Nat} {st : Stmt} {fd : FuncData} {Ng : List Str} {e : Expr} {te : TE} {p pos : Pos}
    (B : Back X (X.blk s0 G0 bsc ce fp) pl σ)
    (F : Fun X.K x x st g fd) (hb : L2.Binds X.K fd [a] []) (Sg : FnScope Ng [a] (defScope st)) (hg : Gl (X.blk s0 G0 bsc ce fp) x) (hm : X.mg x = some (.ref g)) (hNg : Ng[0]? = some a) (hva : Vis (defScope st) a)
    (hG : ∀ cdv : Value, GivesF X Ng x (defScope st) g cdv (defBody st) a (X.env.qual ++ "<lambda>") k TT) (hr : Room (k + 2) X.A) (he : PE (X.blk s0 G0 bsc ce fp) e te)
    (hs : starEach [e] ce = (false, eval e ce) :: starEach [] ce := by rfl) (hdb : (x == ("__debug__" : Str)) = false := by decide) (hd : (a == ("__debug__" : Str)) = false := by decide) (hcd : (a == ("__classdict__" : Str)) = false := by decide) :
    PE (X.blk s0 G0 bsc ce fp) (.Call (.Name x p) [e] [] pos) (tCallW X k σ TT te) := by
  constructor
  intro pins s τ H Q I want
  refine wpAny_Call_Name_kw (ld_glob I hg hm (PySem.W.callWith_K (h₀ := X.base) I.ok.mod.kin F.kp ?_ hs (by rfl)) hdb)
  show wpAny _ _ (spliced (backTo pos (starEach [e] ce))) _ _ s
  rw [hs]
  show wpAny _ _ (spliced ((false, eval e ce) :: backTo pos (starEach [] ce))) _ _ s
  refine Calls.spliced_cons (thn (he.run pins s τ H _ I want) fun u r ⟨v, H1, J, rel, fn, t, ev, LA, told⟩ => Calls.spliced_nil ⟨J.kIn, ?_⟩)
  subst ev
  cases (show u = Value.ref fn from rel)
  refine wpAny_call (codeAny_mono (run_kept (X := X) F hb Sg hNg hva hG hr (B _ _ _ _ J) LA told hd hcd) fun out r2 ends => ?_)
  match out, ends with
  | .error e, ends => exact (show False from ends).elim
  | .ok (.ret u), ends => exact J.after ends
  | .ok .next, ends => exact ends.elim
  | .ok .brk, ends => exact ends.elim
  | .ok .cont, ends => exact ends.elim
end Mo

/-! ### data of any kind: None, bools, ints, texts, lists, tuples, dicts (keys ints and texts), at any depth -/
namespace Mo
open PySem PySem.Spec PyProof.Rows L2
def keyD : Key → PyData
  | .inl i => .int i
  | .inr x => .str x
mutual
inductive Dx (N : Addr → Prop) (H : Hp) : V → PyData → Prop
  | non : Dx N H .non .none
  | bl (b : Bool) : Dx N H (.bl b) (.bool b)
  | int (i : Int) : Dx N H (.int i) (.int i)
  | str (x : Str) : Dx N H (.str x) (.str x)
  | lst {a : Addr} {xs : List V} {ds : List PyData} : H a = some (.lst xs) → ¬ N a → DxAll N H xs ds → Dx N H (.ref a) (.list ds)
  | tup {a : Addr} {xs : List V} {ds : List PyData} : H a = some (.tup xs) → ¬ N a → DxAll N H xs ds → Dx N H (.ref a) (.tuple ds)
  | dct {a : Addr} {kvs : List (Key × V)} {ds : List PyData} : H a = some (.dK kvs) → ¬ N a → DxAll N H (kvs.map (·.2)) ds → Dx N H (.ref a) (.dict ((kvs.map fun kv => keyD kv.1).zip ds))
inductive DxAll (N : Addr → Prop) (H : Hp) : List V → List PyData → Prop
  | nil : DxAll N H [] []
  | cons {v : V} {vs : List V} {d : PyData} {ds : List PyData} : Dx N H v d → DxAll N H vs ds → DxAll N H (v :: vs) (d :: ds)
end
theorem DxAll.length {N : Addr → Prop} {H : Hp} : ∀ {vs : List V} {ds : List PyData}, DxAll N H vs ds → vs.length = ds.length
  | _, _, .nil => rfl
  | _, _, .cons _ t => by rw [List.length_cons, List.length_cons, DxAll.length t]
mutual
theorem Dx.same {N : Addr → Prop} {H H' : Hp} (s : Same H H') : ∀ {v : V} {d : PyData}, Dx N H v d → Dx N H' v d
  | _, _, .non => .non
  | _, _, .bl b => .bl b
  | _, _, .int i => .int i
  | _, _, .str x => .str x
  | _, _, .lst h n t => .lst (s _ _ h) n (DxAll.same s t)
  | _, _, .tup h n t => .tup (s _ _ h) n (DxAll.same s t)
  | _, _, .dct h n t => .dct (s _ _ h) n (DxAll.same s t)
theorem DxAll.same {N : Addr → Prop} {H H' : Hp} (s : Same H H') : ∀ {v : List V} {d : List PyData}, DxAll N H v d → DxAll N H' v d
  | _, _, .nil => .nil
  | _, _, .cons h t => .cons (Dx.same s h) (DxAll.same s t)
end
mutual
/-- all but what N names, which the data does not hold -/
theorem Dx.but {N : Addr → Prop} {H H' : Hp} (s : ∀ b o, ¬ N b → H b = some o → H' b = some o) : ∀ {v : V} {d : PyData}, Dx N H v d → Dx N H' v d
  | _, _, .non => .non
  | _, _, .bl b => .bl b
  | _, _, .int i => .int i
  | _, _, .str x => .str x
  | _, _, .lst h n t => .lst (s _ _ n h) n (DxAll.but s t)
  | _, _, .tup h n t => .tup (s _ _ n h) n (DxAll.but s t)
  | _, _, .dct h n t => .dct (s _ _ n h) n (DxAll.but s t)
theorem DxAll.but {N : Addr → Prop} {H H' : Hp} (s : ∀ b o, ¬ N b → H b = some o → H' b = some o) : ∀ {v : List V} {d : List PyData}, DxAll N H v d → DxAll N H' v d
  | _, _, .nil => .nil
  | _, _, .cons h t => .cons (Dx.but s h) (DxAll.but s t)
end
mutual
/-- another N that names no more of what is there -/
theorem Dx.more {N N' : Addr → Prop} {H : Hp} (s : ∀ b, H b ≠ none → N' b → N b) : ∀ {v : V} {d : PyData}, Dx N H v d → Dx N' H v d
  | _, _, .non => .non
  | _, _, .bl b => .bl b
  | _, _, .int i => .int i
  | _, _, .str x => .str x
  | _, _, .lst h n t => .lst h (fun z => n (s _ (by rw [h]; exact Option.some_ne_none _) z)) (DxAll.more s t)
  | _, _, .tup h n t => .tup h (fun z => n (s _ (by rw [h]; exact Option.some_ne_none _) z)) (DxAll.more s t)
  | _, _, .dct h n t => .dct h (fun z => n (s _ (by rw [h]; exact Option.some_ne_none _) z)) (DxAll.more s t)
theorem DxAll.more {N N' : Addr → Prop} {H : Hp} (s : ∀ b, H b ≠ none → N' b → N b) : ∀ {v : List V} {d : List PyData}, DxAll N H v d → DxAll N' H v d
  | _, _, .nil => .nil
  | _, _, .cons h t => .cons (Dx.more s h) (DxAll.more s t)
end
theorem DxAll.append {N : Addr → Prop} {H : Hp} : ∀ {vs ws : List V} {ds es : List PyData}, DxAll N H vs ds → DxAll N H ws es → DxAll N H (vs ++ ws) (ds ++ es)
  | _, _, _, _, .nil, h => h
  | _, _, _, _, .cons a t, h => .cons a (DxAll.append t h)
theorem DxAll.get {N : Addr → Prop} {H : Hp} : ∀ {vs : List V} {ds : List PyData} {i : Nat} {v : V}, DxAll N H vs ds → vs[i]? = some v → ∃ d, ds[i]? = some d ∧ Dx N H v d
  | _, _, _, _, .nil, h => by simp at h
  | _, _, 0, _, .cons a t, h => by
    obtain rfl := Option.some.inj h
    exact ⟨_, rfl, a⟩
  | _, _, i + 1, _, .cons a t, h => by
    obtain ⟨d, e, q⟩ := DxAll.get (i := i) t h
    exact ⟨d, e, q⟩
theorem DxAll.mem {N : Addr → Prop} {H : Hp} {vs : List V} {ds : List PyData} {v : V} (h : DxAll N H vs ds) (hv : v ∈ vs) : ∃ d ∈ ds, Dx N H v d := by
  obtain ⟨i, hi⟩ := List.mem_iff_getElem?.mp hv
  obtain ⟨d, e, q⟩ := h.get hi
  exact ⟨d, List.mem_of_getElem? e, q⟩
section
variable {X : Cx} {N : Addr → Prop} {pins : List (Addr × Obj)} {σ : L2.St} {H : Hp} {s : Shared}
theorem key_reads {h : Heap} {k : Key} {u : Value} (e : keyIs k u = true) : Reads h u (keyD k) [] := by
  rcases keyIs_shape e with ⟨i, t, rfl, rfl⟩ | ⟨z, t, rfl, rfl⟩
  · exact .int i t
  · exact .str z t
theorem keys_read {P : Program} {w : World} {h : Heap} : ∀ {es : List DictEntry} {vs : List (Key × Value)}, Pairs (mixKind P w) es vs → ReadsAll h (es.map (·.key)) (vs.map fun kv => keyD kv.1) []
  | _, _, .nil => .nil
  | _, _, .cons e _ t => by
    have q := ReadsAll.cons (key_reads (h := h) e) (keys_read t)
    exact q
theorem vals_eq {P : Program} {w : World} : ∀ {es : List DictEntry} {vs : List (Key × Value)}, Pairs (mixKind P w) es vs → es.map (·.val) = vs.map (·.2)
  | _, _, .nil => rfl
  | _, _, .cons _ e t => by
    rw [List.map_cons, List.map_cons, e, vals_eq t]
theorem kv_keys : ∀ {kvs : List (Key × V)} {vs : List (Key × Value)}, KV kvs vs → kvs.map (fun kv => keyD kv.1) = vs.map (fun kv => keyD kv.1)
  | _, _, .nil => rfl
  | _, _, .cons h t => by
    rw [List.map_cons, List.map_cons, h.1, kv_keys t]
theorem kv_vals : ∀ {kvs : List (Key × V)} {vs : List (Key × Value)}, KV kvs vs → Vals (kvs.map (·.2)) (vs.map (·.2))
  | _, _, .nil => .nil
  | _, _, .cons h t => .cons h.2 (kv_vals t)
mutual
theorem Dx.reads (I : Inv X pins σ H s) (hs : H sysModules = none) : ∀ {x : V} {d : PyData}, Dx N H x d → ∀ {u : Value}, RelV x u → ∃ as, Reads s.heap u d as ∧ sysModules ∉ as
  | _, _, .non, u, r => by
    obtain rfl : u = Value.none := r
    exact ⟨[], .none, by simp⟩
  | _, _, .bl b, u, r => by
    obtain rfl : u = Value.bool b := r
    exact ⟨[], .bool b, by simp⟩
  | _, _, .int i, u, r => by
    obtain ⟨t, rfl⟩ : ∃ t, u = Value.int i t := r
    exact ⟨[], .int i t, by simp⟩
  | _, _, .str x, u, r => by
    obtain ⟨t, rfl⟩ : ∃ t, u = Value.str x t := r
    exact ⟨[], .str x t, by simp⟩
  | _, _, .lst (a := a) (xs := xs) ha hN t, u, r => by
    obtain rfl : u = Value.ref a := r
    obtain ⟨_, its, n, rv, e⟩ := (show ObjOk X.prog X.w H s.heap a (.lst xs) from I.hok a _ ha)
    obtain ⟨as, q, ns⟩ := DxAll.reads I hs t rv
    refine ⟨a :: as, .list e rfl rfl (by simpa using q), fun z => ?_⟩
    rcases List.mem_cons.mp z with z | z
    · rw [z, ha] at hs
      cases hs
    · exact ns z
  | _, _, .tup (a := a) (xs := xs) ha hN t, u, r => by
    obtain rfl : u = Value.ref a := r
    obtain ⟨_, its, rv, o, e, hc, n, hd⟩ := (show ObjOk X.prog X.w H s.heap a (.tup xs) from I.hok a _ ha)
    obtain ⟨as, q, ns⟩ := DxAll.reads I hs t rv
    exact ⟨as, .tuple e hc hd (by simpa using q), ns⟩
  | _, _, .dct (a := a) (kvs := kvs) (ds := ds) ha hN t, u, r => by
    obtain rfl : u = Value.ref a := r
    obtain ⟨_, _, vs, kv, o, es, ep, ho, hc, hdt, _, hp, _⟩ := (show ObjOk X.prog X.w H s.heap a (.dK kvs) from I.hok a _ ha)
    obtain ⟨as, q, ns⟩ := DxAll.reads I hs t (kv_vals kv)
    have hl := DxAll.length t
    have hl2 : (kvs.map fun kv => keyD kv.1).length = ds.length := by rw [List.length_map, ← hl, List.length_map]
    have k1 := keys_read (h := s.heap) hp
    rw [← kv_keys kv] at k1
    refine ⟨_, .dict (as := []) (bs := as) ho hc.1 hdt ?_ ?_, fun z => ?_⟩
    · rw [List.map_fst_zip (Nat.le_of_eq hl2)]
      exact k1
    · rw [List.map_snd_zip (Nat.le_of_eq hl2.symm), vals_eq hp]
      exact q
    · rcases List.mem_append.mp z with z | z
      · rw [List.mem_singleton.mp z, ha] at hs
        cases hs
      · exact ns z
theorem DxAll.reads (I : Inv X pins σ H s) (hs : H sysModules = none) : ∀ {xs : List V} {ds : List PyData}, DxAll N H xs ds → ∀ {us : List Value}, Vals xs us → ∃ as, ReadsAll s.heap us ds as ∧ sysModules ∉ as
  | _, _, .nil, _, .nil => ⟨[], .nil, by simp⟩
  | _, _, .cons h t, _, .cons r rs => by
    obtain ⟨as, q, n⟩ := Dx.reads I hs h r
    obtain ⟨bs, q2, n2⟩ := DxAll.reads I hs t rs
    exact ⟨as ++ bs, .cons q q2, fun z => (List.mem_append.mp z).elim n n2⟩
end
/-- repr(data) -/
def rReprX : List V → Hp → VK → Prop := fun xs H Q => ∃ (N : Addr → Prop) (x : V) (d : PyData), xs = [x] ∧ Dx N H x d ∧ d.showable = true ∧ d.depth ≤ 40 ∧ d.shown.length ≤ sizeLine ∧ Q (.str d.shown) H
theorem cr_reprX (hb : ∃ mm, X.base.Ns sysModules mm) (hg : X.A.guards = some []) (hu : X.A.units + 64 < cLine) : CallR X (.builtin "repr") rReprX := by
  intro pins s σ H xs us Q I r h
  obtain ⟨N, x, d, rfl, hd, hs, hdp, hz, q⟩ := h
  obtain ⟨u, rfl, ru⟩ := vals1 r
  have h1 : H sysModules = none := by
    obtain ⟨mm, o, es, ep, e, _⟩ := hb
    exact (I.bs _ _ e).2
  obtain ⟨as, rd, hsm⟩ := Dx.reads I h1 hd ru
  cases rd with
  | none => exact PySem.P.repr_of_none ⟨.str _, H, I.tok _, ⟨_, rfl⟩, q⟩
  | bool b => exact PySem.P.repr_of_bool ⟨.str _, H, I.tok _, ⟨_, rfl⟩, q⟩
  | int i t => exact PySem.P.repr_of_int (of_decide_eq_true hs) ⟨.str _, H, I.tok _, ⟨_, rfl⟩, q⟩
  | str z t => exact PySem.P.repr_of_str ⟨.str _, H, I.tok _, ⟨_, rfl⟩, q⟩ hz
  | list a1 a2 a3 a4 => exact repr_of_reads' (.list a1 a2 a3 a4) hs (fun _ => hsm) hg (by omega) (fun _ _ e => e) (fun h' u' tk hk => ⟨.str _, H, I.kept (t' := tk) hk, ⟨_, rfl⟩, q⟩) hz
  | tuple a1 a2 a3 a4 => exact repr_of_reads' (.tuple a1 a2 a3 a4) hs (fun _ => hsm) hg (by omega) (fun _ _ e => e) (fun h' u' tk hk => ⟨.str _, H, I.kept (t' := tk) hk, ⟨_, rfl⟩, q⟩) hz
  | dict a1 a2 a3 a4 a5 => exact repr_of_reads' (.dict a1 a2 a3 a4 a5) hs (fun _ => hsm) hg (by omega) (fun _ _ e => e) (fun h' u' tk hk => ⟨.str _, H, I.kept (t' := tk) hk, ⟨_, rfl⟩, q⟩) hz
end
end Mo

/-! ### rules for data of any kind -/
namespace Mo
open PySem PySem.Spec PyProof.Rows L2
section
variable {X : Cx}
/-- a list of anything == [] -/
def rEqNil (K : PySem.W.Frag) : R2 := fun x y H Q => ∃ a b xs, x = .ref a ∧ y = .ref b ∧ SqL K H a xs ∧ SqL K H b [] ∧ Q (.bl xs.isEmpty) H
theorem op_eqNil (hu : X.A.units + 64 < cLine) : OpR X (compareOp .Eq) (rEqNil X.K) := by
  intro pins s σ H x y v u Q I rx ry h
  obtain ⟨a, b, xs, rfl, rfl, ha, hb, q⟩ := h
  cases rx
  cases ry
  obtain ⟨is, r1, p1, _⟩ := I.list ha
  obtain ⟨js, r2, p2, _⟩ := I.list hb
  cases r2
  cases r1 with
  | nil => exact SeqAt.eq_listAt (e := fun _ => true) p1.isList p2.isList rfl (by omega) (fun j h1 => absurd h1 (by simp)) ⟨.bl true, H, I, rfl, q⟩
  | cons r rs => exact SeqAt.eq_list_lengthsAt p1.isList p2.isList (by simp) (by omega) ⟨.bl false, H, I, rfl, q⟩
/-- a list of anything != [] -/
def rNeNil (K : PySem.W.Frag) : R2 := fun x y H Q => ∃ a b xs, x = .ref a ∧ y = .ref b ∧ SqL K H a xs ∧ SqL K H b [] ∧ Q (.bl (!xs.isEmpty)) H
theorem op_neNil (hu : X.A.units + 64 < cLine) : OpR X (compareOp .NotEq) (rNeNil X.K) := by
  intro pins s σ H x y v u Q I rx ry h
  obtain ⟨a, b, xs, rfl, rfl, ha, hb, q⟩ := h
  cases rx
  cases ry
  obtain ⟨is, r1, p1, _⟩ := I.list ha
  obtain ⟨js, r2, p2, _⟩ := I.list hb
  cases r2
  cases r1 with
  | nil => exact SeqAt.RcNeAt.lists (e := fun _ => true) p1.isList p2.isList rfl (by omega) (fun j h1 => absurd h1 (by simp)) X.prog X.w X.xe _ ⟨.bl false, H, I, rfl, q⟩
  | cons r rs => exact SeqAt.RcNeAt.lists_lengths p1.isList p2.isList (by simp) (by omega) X.prog X.w X.xe _ ⟨.bl true, H, I, rfl, q⟩
/-- a tuple of anything != () -/
def rNeNilT (K : PySem.W.Frag) : R2 := fun x y H Q => ∃ a b xs, x = .ref a ∧ y = .ref b ∧ SqT K H a xs ∧ SqT K H b [] ∧ Q (.bl (!xs.isEmpty)) H
theorem op_neNilT (hu : X.A.units + 64 < cLine) : OpR X (compareOp .NotEq) (rNeNilT X.K) := by
  intro pins s σ H x y v u Q I rx ry h
  obtain ⟨a, b, xs, rfl, rfl, ha, hb, q⟩ := h
  cases rx
  cases ry
  obtain ⟨is, r1, p1, _⟩ := I.tuple ha
  obtain ⟨js, r2, p2, _⟩ := I.tuple hb
  cases r2
  have k1 : s.heap.IsTuple a is.toArray := p1
  have k2 : s.heap.IsTuple b (List.nil (α := Value)).toArray := p2
  refine SeqAt.RcNeAt.tuples (e := fun _ => true) k1 k2 (by omega) (fun j _ h2 => absurd h2 (by simp)) X.prog X.w X.xe _ ?_
  cases r1 with
  | nil => exact ⟨.bl false, H, I, rfl, q⟩
  | cons r rs => exact ⟨.bl true, H, I, by simp only [List.size_toArray, List.length_cons, List.length_nil, Nat.min_zero, List.range_zero, List.all_nil, Bool.true_and]; rfl, q⟩
theorem vals_signs : ∀ (cs : List Nat) (l : List Value), l.length = cs.length → (∀ (j : Nat) (v : Value), l[j]? = some v → ∃ c u, cs[j]? = some c ∧ v = .str ⟨#[c]⟩ u) → Vals (cs.map sg) l
  | [], [], _, _ => .nil
  | [], _ :: _, h, _ => by simp at h
  | _ :: _, [], h, _ => by simp at h
  | c :: cs, v :: l, h, q => by
    obtain ⟨c', u, e1, rfl⟩ := q 0 v rfl
    obtain rfl := Option.some.inj e1
    exact .cons ⟨u, rfl⟩ (vals_signs cs l (by simpa using h) fun j v e => q (j + 1) v e)
/-- tuple(a text) -/
theorem cr_tupS (hc : X.calm = true) : CallR X (.type "tuple") (fun xs H Q => ∃ cs : List Nat, xs = [.str (tx cs)] ∧ cs.length ≤ 100000 ∧ ∀ p, H p = none → Q (.ref p) (upd H p (.tup (cs.map sg)))) := by
  intro pins s σ H xs us Q I r h
  obtain ⟨cs, rfl, hz, q⟩ := h
  obtain ⟨u, rfl, t, rfl⟩ := vals1 r
  refine call_tuple_str (I.ok.hd hc) (tx cs) t (fun h' tk acc hk hacc => ?_) (by rw [tx_size]; exact fits5 hz)
  have I1 : Inv X pins σ H { s with heap := h', toks := tk } := I.kept (t' := tk) hk
  have I2 := I1.laid (t' := tk) (o := .tup (cs.map sg)) (h' := h'.push { cls := .type "tuple", data := .seq acc }) (fun b o e => Heap.get?_push_of_some _ e) (Nat.le_refl _) ⟨by rw [List.length_map]; exact fits5 hz, acc.toList, vals_signs cs acc.toList (by have := hacc.1; rw [tx_size] at this; simpa using this) (fun j v e => by
    obtain ⟨c, u, e1, e2⟩ := hacc.2 j v (by simpa using e)
    exact ⟨c, u, tx_get.symm.trans e1, e2⟩), IsTup.new _ _⟩
  exact ⟨.ref h'.objs.size, _, I2, rfl, q _ (I1.hok.fresh (Nat.le_refl _))⟩
/-- z * n, n a small number -/
def mulS (cs : List Nat) (n : Nat) : List Nat := (List.replicate n cs).flatten
theorem foldl_cat (a : List Nat) : ∀ (n : Nat) (acc : List Nat), ((List.replicate n a.toArray).foldl (fun x y => x ++ y) acc.toArray) = (acc ++ (List.replicate n a).flatten).toArray
  | 0, acc => by simp
  | n + 1, acc => by
    rw [List.replicate_succ, List.foldl_cons, List.replicate_succ, List.flatten_cons, ← List.append_assoc, ← foldl_cat a n (acc ++ a)]
    simp
theorem mulS_eq (cs : List Nat) (n : Nat) : Txt.mul (tx cs) (n : Int) = tx (mulS cs n) := by
  unfold Txt.mul mulS
  by_cases h0 : n = 0
  · subst h0
    rfl
  · rw [if_neg (by omega)]
    by_cases h1 : ((n : Int) == 1 || (tx cs).length == 0) = true
    · rw [if_pos h1]
      rcases Bool.or_eq_true_iff.mp h1 with h | h
      · have : n = 1 := by have := beq_iff_eq.mp h; omega
        subst this
        simp
      · have : cs = [] := by
          have := beq_iff_eq.mp h
          rw [tx_len] at this
          exact List.eq_nil_of_length_eq_zero this
        subst this
        simp
    · rw [if_neg h1, show (n : Int).toNat = n from rfl]
      have q := foldl_cat cs n []
      rw [List.nil_append] at q
      exact congrArg Str.mk q
theorem op_mulS : OpR X (binaryOp .Mult) (fun x y H Q => ∃ (cs : List Nat) (n : Nat), x = .str (tx cs) ∧ y = .int n ∧ cs.length ≤ 100000 ∧ n ≤ 100 ∧ Q (.str (tx (mulS cs n))) H) := by
  intro pins s σ H x y v u Q I rx ry h
  obtain ⟨cs, n, rfl, rfl, hz, hn, q⟩ := h
  obtain ⟨t, rfl⟩ := rx
  obtain ⟨t2, rfl⟩ := ry
  have hl : cs.length * n ≤ 100000 * 100 := Nat.mul_le_mul hz hn
  refine SB.mul ⟨?_, fun h1 h2 => ?_, fun h1 h2 => ?_⟩ fun t' k => ?_
  · rw [decide_eq_false (by omega), decide_eq_false (by omega)]
    rfl
  · rw [tx_len]
    have h3 : ((cs.length : Nat) : Int) * (n : Int) ≤ 2 ^ 63 - 1 := by
      rw [← Int.natCast_mul]
      omega
    have h4 : ((cs.length : Nat) : Int) ≤ (2 ^ 63 - 1) / (n : Int) := Int.le_ediv_of_mul_le (by omega) h3
    omega
  · rw [tx_len]
    show decide (cs.length * (n : Int).toNat > sizeLine) = false
    rw [sizeLine_eq]
    exact decide_eq_false (by show ¬ cs.length * n > _; omega)
  · rw [mulS_eq]
    exact ⟨.str _, H, I.tok _, ⟨_, rfl⟩, q⟩
/-- t * n -/
def rRepG (K : PySem.W.Frag) : R2 := fun x y H Q => ∃ (l : Addr) (n : Nat) (xs : List V), x = .ref l ∧ y = .int n ∧ SqT K H l xs ∧ xs ≠ [] ∧ 2 ≤ n ∧ n ≤ 100000 ∧ xs.length * n ≤ 1000000 ∧ ∀ p, H p = none → Q (.ref p) (upd H p (.tup (List.replicate n xs).flatten))
theorem op_repG : OpR X (binaryOp .Mult) (rRepG X.K) := by
  intro pins s σ H x y v u Q I rx ry h
  obtain ⟨l, n, xs, rfl, rfl, hT, hne, h1, h2, hz, q⟩ := h
  cases rx
  obtain ⟨t, rfl⟩ := ry
  obtain ⟨its, r, ⟨ob, ho, hc, m, hd⟩, hs⟩ := I.tuple hT
  obtain ⟨cls, dd, data, sl⟩ := ob
  obtain rfl : cls = .type "tuple" := hc
  obtain rfl : data = .seq its.toArray m := hd
  have hle := r.length
  have hi : its.toArray.isEmpty = false := by
    cases r with
    | nil => exact absurd rfl hne
    | cons _ _ => rfl
  have hm : xs.length * n ≤ 10 * 100000 := hz
  have hm2 : ((its.toArray.size : Nat) : Int) * (n : Int) = ((xs.length * n : Nat) : Int) := by
    rw [List.size_toArray, ← hle]
    exact (Int.natCast_mul _ _).symm
  have fl : (List.replicate n xs).flatten.length ≤ sizeLine := by
    rw [lm_len_rep_flat, Nat.mul_comm, sizeLine_eq]
    omega
  have fl2 : (List.foldl (fun x1 x2 => x1 ++ x2) #[] (List.replicate (n : Int).toNat its.toArray)).size ≤ sizeLine := by
    rw [size_rep, List.size_toArray, lm_len_rep_flat, ← hle, Nat.mul_comm, sizeLine_eq]
    show xs.length * n ≤ _
    omega
  refine wpAny_binaryOp_repeat_ref (T := "tuple") (U := "int") (by decide) ⟨_, ho, rfl⟩ (fun s' => typeIs_int s' n t) noFill_tuple_mul F.fills_int_mul F.slot_int_rmul repeat_tuple F.slot_int_index.lookup ?_
  refine call_meets F.slot_int_rmul (typeIs_int s n t) F.entry_int_rmul (F.args_int_rmul_2 _ _) (int_rmul_tuple n t l its.toArray m dd sl) ⟨ho, rfl, ⟨_, ho, rfl⟩, ?_⟩
  refine call_meets F.slot_tuple_mul ⟨_, ho, rfl⟩ F.entry_tuple_mul (F.args_tuple_mul_2 _ _) (tuple_mulW l its.toArray m dd sl n t ?_ ?_ ?_ ?_ ?_ fl2) ⟨ho, ?_⟩
  · rw [decide_eq_false (by omega), decide_eq_false (by omega)]
    rfl
  · rw [hi, Bool.false_or]
    exact beq_eq_false_iff_ne.mpr (by omega)
  · rw [hi, Bool.or_false]
    exact decide_eq_false (by omega)
  · rw [hm2]
    omega
  · unfold Builtin.Tuple.tupleTooMany
    rw [hm2, sizeLine_eq]
    exact decide_eq_false (by omega)
  · rw [size_rep]
    exact ⟨.ref s.heap.objs.size, _, I.laid (t' := s.toks) (o := .tup (List.replicate n xs).flatten) (fun b ob q => Heap.get?_push_of_some _ q) (Nat.le_refl _) ⟨fl, _, r.rep n, IsTup.new _ _⟩, rfl, q _ (I.hok.fresh (Nat.le_refl _))⟩
/-- t * n, t of few items -/
def rRepN (K : PySem.W.Frag) : R2 := fun x y H Q => ∃ (l : Addr) (n : Nat) (xs : List V), x = .ref l ∧ y = .int n ∧ SqT K H l xs ∧ xs ≠ [] ∧ 2 ≤ n ∧ n ≤ 100000 ∧ xs.length ≤ 10 ∧ ∀ p, H p = none → Q (.ref p) (upd H p (.tup (List.replicate n xs).flatten))
theorem op_repN : OpR X (binaryOp .Mult) (rRepN X.K) := by
  intro pins s σ H x y v u Q I rx ry h
  obtain ⟨l, n, xs, h1, h2, h3, h4, h5, h6, h7, q⟩ := h
  exact op_repG pins s σ H x y v u Q I rx ry ⟨l, n, xs, h1, h2, h3, h4, h5, h6, Nat.le_trans (Nat.mul_le_mul h7 h6) (by decide), q⟩
/-! what is made anew or is the old one, read alike -/
theorem catA_any {K : PySem.W.Frag} {a b : Addr} {xs ys : List V} {H : Hp} {Q : VK} (ha : H a = some (.tup xs)) (hb : H b = some (.tup ys)) (hl : xs.length + ys.length ≤ sizeLine)
    (q : ∀ p H', Same H H' → H' p = some (.tup (xs ++ ys)) → p = a ∨ p = b ∨ H p = none → Q (.ref p) H') : rCatA K (.ref a) (.ref b) H Q := by
  refine ⟨a, b, xs, ys, rfl, rfl, SqT.of ha, SqT.of hb, hl, fun e => ?_, fun _ e => ?_, fun _ _ p np => ?_⟩
  · subst e
    exact q b H (Same.refl H) hb (.inr (.inl rfl))
  · subst e
    exact q a H (Same.refl H) (by rw [List.append_nil]; exact ha) (.inl rfl)
  · exact q p _ (same_new np) upd_same (.inr (.inr np))
theorem slA_any {K : PySem.W.Frag} {a : Addr} {xs : List V} {lo hi : Option Int} {H : Hp} {Q : VK} (ha : H a = some (.tup xs)) (q : ∀ p H', Same H H' → H' p = some (.tup (cutV xs lo hi)) → p = a ∨ H p = none → Q (.ref p) H') : rSlA K (.ref a) lo hi H Q := by
  refine ⟨a, xs, rfl, SqT.of ha, fun e => ?_, fun _ p np => q p _ (same_new np) upd_same (.inr np)⟩
  have ec : cutV xs lo hi = xs := by
    unfold cutV
    rw [e.1, e.2, List.drop_zero, Nat.sub_zero, List.take_length]
  exact q a H (Same.refl H) (by rw [ec]; exact ha) (.inl rfl)
theorem cut_to (xs : List V) (n : Nat) : cutV xs none (some (n : Int)) = xs.take n := by
  unfold cutV
  rw [HT.sIx_none, HT.sIx_nat, List.drop_zero, Nat.sub_zero, List.take_eq_take_iff]
  omega
theorem cut_from (xs : List V) (n : Nat) : cutV xs (some (n : Int)) none = xs.drop n := by
  unfold cutV
  rw [HT.sIx_none, HT.sIx_nat]
  have e : xs.drop (min n xs.length) = xs.drop n := by
    by_cases h : n ≤ xs.length
    · rw [Nat.min_eq_left h]
    · rw [List.drop_of_length_le (by omega), List.drop_of_length_le (by omega)]
  rw [e]
  exact List.take_of_length_le (by rw [List.length_drop]; omega)
end
end Mo

set_option exponentiation.threshold 3000
/-! ### how great data is: its ints below 10 ^ B, its signs, its bulk, its depth -/
namespace Mo
open PySem PySem.Spec PyProof.Rows L2
mutual
def okD (B : Nat) : PyData → Prop
  | .none | .bool _ => True
  | .int i => i.natAbs < 10 ^ B
  | .str z => ∀ c ∈ z.cps.toList, c < 128
  | .list ds | .tuple ds => okAll B ds
  | .dict kvs => okKv B kvs
def okAll (B : Nat) : List PyData → Prop
  | [] => True
  | d :: ds => okD B d ∧ okAll B ds
def okKv (B : Nat) : List (PyData × PyData) → Prop
  | [] => True
  | (k, v) :: r => (okD B k ∧ okD B v) ∧ okKv B r
end
theorem okAll_iff {B : Nat} : ∀ {ds : List PyData}, okAll B ds ↔ ∀ d ∈ ds, okD B d
  | [] => by simp [okAll]
  | d :: ds => by
    rw [List.forall_mem_cons, ← okAll_iff (ds := ds)]
    simp only [okAll]
mutual
theorem okD.mono {B C : Nat} (h : B ≤ C) : ∀ {d : PyData}, okD B d → okD C d
  | .none, _ => by simp only [okD]
  | .bool _, _ => by simp only [okD]
  | .int i, q => by
    simp only [okD] at q ⊢
    exact Nat.lt_of_lt_of_le q (Nat.pow_le_pow_right (by decide) h)
  | .str z, q => by
    simp only [okD] at q ⊢
    exact q
  | .list ds, q => by
    simp only [okD] at q ⊢
    exact okAll.mono h q
  | .tuple ds, q => by
    simp only [okD] at q ⊢
    exact okAll.mono h q
  | .dict kvs, q => by
    simp only [okD] at q ⊢
    exact okKv.mono h q
theorem okAll.mono {B C : Nat} (h : B ≤ C) : ∀ {ds : List PyData}, okAll B ds → okAll C ds
  | [], _ => by simp only [okAll]
  | d :: ds, q => by
    simp only [okAll] at q ⊢
    exact ⟨okD.mono h q.1, okAll.mono h q.2⟩
theorem okKv.mono {B C : Nat} (h : B ≤ C) : ∀ {kvs : List (PyData × PyData)}, okKv B kvs → okKv C kvs
  | [], _ => by simp only [okKv]
  | (k, v) :: r, q => by
    simp only [okKv] at q ⊢
    exact ⟨⟨okD.mono h q.1.1, okD.mono h q.1.2⟩, okKv.mono h q.2⟩
end
theorem int_short {B : Nat} {i : Int} (hB : 1 ≤ B) (h : i.natAbs < 10 ^ B) : (PyData.shown (.int i)).length ≤ B + 1 := by
  rw [PyData.shown_int, PySem.ofString_length]
  exact int_text_length_le10 hB h
/-- str(i) -/
theorem int_signs (i : Int) : ∀ c ∈ (Str.ofString (toString i)).cps.toList, c < 128 := fun c hc => by
  by_cases h : c ≠ 45 ∧ (c < 48 ∨ 57 < c)
  · exact absurd hc (int_text_free' c h i)
  · omega
theorem int_text_size {B : Nat} {i : Int} (hB : 1 ≤ B) (h : i.natAbs < 10 ^ B) : (Str.ofString (toString i)).cps.size ≤ B + 1 := by
  have q := int_short hB h
  rw [PyData.shown_int] at q
  exact q
theorem log_small {B n : Nat} (hB : B ≤ 100) (h : n < 10 ^ B) : n.log2 < 1920 := by
  by_cases h0 : n = 0
  · subst h0
    decide
  · have h1 : n < 2 ^ 1920 := Nat.lt_of_lt_of_le h (Nat.le_trans (Nat.pow_le_pow_right (by decide) hB) (by decide))
    exact (Nat.log2_lt h0).mpr h1
mutual
theorem okD.short {B : Nat} (hB : 1 ≤ B) : ∀ {d : PyData}, okD B d → d.leavesShort (B + 8) = true
  | .none, _ => by simp only [PyData.leavesShort]
  | .bool _, _ => by simp only [PyData.leavesShort]
  | .int i, q => by
    simp only [okD] at q
    have := int_short hB q
    simp only [PyData.leavesShort]
    exact decide_eq_true (by omega)
  | .str z, q => by
    simp only [okD] at q
    simp only [PyData.leavesShort, List.all_eq_true]
    exact fun c hc => decide_eq_true (Nat.lt_trans (q c hc) (by decide))
  | .list ds, q => by
    simp only [okD, PyData.leavesShort] at q ⊢
    exact okAll.short hB q
  | .tuple ds, q => by
    simp only [okD, PyData.leavesShort] at q ⊢
    exact okAll.short hB q
  | .dict kvs, q => by
    simp only [okD, PyData.leavesShort] at q ⊢
    exact okKv.short hB q
theorem okAll.short {B : Nat} (hB : 1 ≤ B) : ∀ {ds : List PyData}, okAll B ds → PyData.leavesShortAll (B + 8) ds = true
  | [], _ => by simp only [PyData.leavesShortAll]
  | d :: ds, q => by
    simp only [okAll, PyData.leavesShortAll, Bool.and_eq_true] at q ⊢
    exact ⟨okD.short hB q.1, okAll.short hB q.2⟩
theorem okKv.short {B : Nat} (hB : 1 ≤ B) : ∀ {kvs : List (PyData × PyData)}, okKv B kvs → PyData.leavesShortKv (B + 8) kvs = true
  | [], _ => by simp only [PyData.leavesShortKv]
  | (k, v) :: r, q => by
    simp only [okKv, PyData.leavesShortKv, Bool.and_eq_true] at q ⊢
    exact ⟨⟨okD.short hB q.1.1, okD.short hB q.1.2⟩, okKv.short hB q.2⟩
end
mutual
theorem okD.show {B : Nat} (hB : B ≤ 100) : ∀ {d : PyData}, okD B d → d.showable = true
  | .none, _ => by simp only [PyData.showable]
  | .bool _, _ => by simp only [PyData.showable]
  | .int i, q => by
    simp only [okD, PyData.showable] at q ⊢
    exact decide_eq_true (log_small hB q)
  | .str z, q => by simp only [PyData.showable]
  | .list ds, q => by
    simp only [okD, PyData.showable] at q ⊢
    exact okAll.show hB q
  | .tuple ds, q => by
    simp only [okD, PyData.showable] at q ⊢
    exact okAll.show hB q
  | .dict kvs, q => by
    simp only [okD, PyData.showable] at q ⊢
    exact okKv.show hB q
theorem okAll.show {B : Nat} (hB : B ≤ 100) : ∀ {ds : List PyData}, okAll B ds → PyData.showableAll ds = true
  | [], _ => by simp only [PyData.showableAll]
  | d :: ds, q => by
    simp only [okAll, PyData.showableAll, Bool.and_eq_true] at q ⊢
    exact ⟨okD.show hB q.1, okAll.show hB q.2⟩
theorem okKv.show {B : Nat} (hB : B ≤ 100) : ∀ {kvs : List (PyData × PyData)}, okKv B kvs → PyData.showableKv kvs = true
  | [], _ => by simp only [PyData.showableKv]
  | (k, v) :: r, q => by
    simp only [okKv, PyData.showableKv, Bool.and_eq_true] at q ⊢
    exact ⟨⟨okD.show hB q.1.1, okD.show hB q.1.2⟩, okKv.show hB q.2⟩
end
theorem bulkAll_app : ∀ (a b : List PyData), PyData.bulkAll (a ++ b) = PyData.bulkAll a + PyData.bulkAll b
  | [], b => by simp [PyData.bulkAll]
  | x :: a, b => by
    rw [List.cons_append]
    simp only [PyData.bulkAll]
    rw [bulkAll_app a b]
    omega
theorem depthAll_le {n : Nat} : ∀ {ds : List PyData}, PyData.depthAll ds ≤ n ↔ ∀ d ∈ ds, d.depth ≤ n
  | [] => by simp [PyData.depthAll]
  | d :: ds => by
    rw [List.forall_mem_cons, ← depthAll_le (ds := ds)]
    simp only [PyData.depthAll]
    exact Nat.max_le
/-- data of these bounds -/
structure Fit (B W D : Nat) (d : PyData) : Prop where
  ok : okD B d
  bulk : d.bulk ≤ W
  deep : d.depth ≤ D
/-- lists of such data, of this bulk together -/
structure FitAll (B W D : Nat) (ds : List PyData) : Prop where
  ok : okAll B ds
  bulk : PyData.bulkAll ds ≤ W
  deep : PyData.depthAll ds ≤ D
theorem Fit.mono {B W D B' W' D' : Nat} {d : PyData} (h : Fit B W D d) (h1 : B ≤ B') (h2 : W ≤ W') (h3 : D ≤ D') : Fit B' W' D' d := ⟨h.ok.mono h1, Nat.le_trans h.bulk h2, Nat.le_trans h.deep h3⟩
theorem FitAll.app {B W D W' : Nat} {a b : List PyData} (h : FitAll B W D a) (g : FitAll B W' D b) : FitAll B (W + W') D (a ++ b) :=
  ⟨okAll_iff.mpr fun d hd => (List.mem_append.mp hd).elim (okAll_iff.mp h.ok d) (okAll_iff.mp g.ok d), by rw [bulkAll_app]; exact Nat.add_le_add h.bulk g.bulk, depthAll_le.mpr fun d hd => (List.mem_append.mp hd).elim (depthAll_le.mp h.deep d) (depthAll_le.mp g.deep d)⟩
theorem FitAll.tup {B W D : Nat} {a : List PyData} (h : FitAll B W D a) : Fit B W (D + 1) (.tuple a) := ⟨by simp only [okD]; exact h.ok, by simp only [PyData.bulk]; exact h.bulk, by simp only [PyData.depth]; exact Nat.succ_le_succ h.deep⟩
theorem FitAll.lst {B W D : Nat} {a : List PyData} (h : FitAll B W D a) : Fit B W (D + 1) (.list a) := ⟨by simp only [okD]; exact h.ok, by simp only [PyData.bulk]; exact h.bulk, by simp only [PyData.depth]; exact Nat.succ_le_succ h.deep⟩
theorem Fit.of_tup {B W D : Nat} {a : List PyData} (h : Fit B W (D + 1) (.tuple a)) : FitAll B W D a := ⟨by have := h.ok; simp only [okD] at this; exact this, by have := h.bulk; simp only [PyData.bulk] at this; exact this, by have := h.deep; simp only [PyData.depth] at this; omega⟩
theorem Fit.one {B W D : Nat} {d : PyData} (h : Fit B W D d) : FitAll B (W + 1) D [d] := ⟨by simp only [okAll]; exact ⟨h.ok, trivial⟩, by simp only [PyData.bulkAll]; have := h.bulk; omega, by simp only [PyData.depthAll]; have := h.deep; omega⟩
theorem FitAll.sub {B W D : Nat} {a b : List PyData} (h : FitAll B W D b) (hs : a.Sublist b) : FitAll B (PyData.bulkAll a) D a := ⟨okAll_iff.mpr fun d hd => okAll_iff.mp h.ok d (hs.subset hd), Nat.le_refl _, depthAll_le.mpr fun d hd => depthAll_le.mp h.deep d (hs.subset hd)⟩
theorem FitAll.mono {B W D B' W' D' : Nat} {d : List PyData} (h : FitAll B W D d) (h1 : B ≤ B') (h2 : W ≤ W') (h3 : D ≤ D') : FitAll B' W' D' d := ⟨h.ok.mono h1, Nat.le_trans h.bulk h2, Nat.le_trans h.deep h3⟩
theorem FitAll.len {B W D : Nat} {a : List PyData} (h : FitAll B W D a) : a.length ≤ W := by
  have key : ∀ a : List PyData, a.length ≤ PyData.bulkAll a := by
    intro a
    induction a with
    | nil => exact Nat.zero_le _
    | cons x a ih =>
      simp only [PyData.bulkAll, List.length_cons]
      omega
  exact Nat.le_trans (key a) h.bulk
/-- what repr asks -/
theorem Fit.repr {B W D : Nat} {d : PyData} (h : Fit B W D d) (h1 : 1 ≤ B) (h2 : B ≤ 40) (h3 : W ≤ 300000) (h4 : D ≤ 40) : d.showable = true ∧ d.depth ≤ 40 ∧ d.shown.length ≤ sizeLine := by
  refine ⟨h.ok.show (by omega), Nat.le_trans h.deep h4, ?_⟩
  have q := PyData.shown_le_bulk (B + 8) (by omega) d (h.ok.short h1)
  have hb := h.bulk
  have m : (B + 8 + 2) * d.bulk ≤ 50 * 300000 := Nat.mul_le_mul (by omega) (by omega)
  rw [sizeLine_eq]
  omega
/-! ### kinds -/
def tyD : PyData → String
  | .none => "NoneType"
  | .bool _ => "bool"
  | .int _ => "int"
  | .str _ => "str"
  | .list _ => "list"
  | .tuple _ => "tuple"
  | .dict _ => "dict"
theorem Dx.ty {N : Addr → Prop} {K : PySem.W.Frag} {H : Hp} {x : V} {d : PyData} (h : Dx N H x d) : TyX K H x (.type (tyD d)) := by
  cases h with
  | non => exact .base .non
  | bl b => exact .base (.bl b)
  | int i => exact .base (.int i)
  | str z => exact .base (.str z)
  | lst h _ _ => exact .base (.lst h)
  | tup h _ _ => exact .base (.tup h)
  | dct h _ _ => exact .base (.dK h)
def letterD : PyData → Bool
  | .int i => decide (0 ≤ i) && decide (i ≤ 999999)
  | _ => false
def textD : PyData → Bool
  | .tuple ds => decide (ds.length ≤ 4096) && ds.all letterD
  | _ => false
end Mo

/-! ### data written out: new, and holding nothing that was there -/
namespace Mo
open PySem PySem.Spec PyProof.Rows L2
def Was (H0 : Hp) : Addr → Prop := fun a => H0 a ≠ none
theorem Was.mono {H H' : Hp} (s : Same H H') {b : Addr} (h : Was H b) : Was H' b := by
  cases e : H b with
  | none => exact absurd e h
  | some o =>
    unfold Was
    rw [s _ _ e]
    exact Option.some_ne_none _
def LitE (te : TE) (d : PyData) : Prop := ∀ σ H Q, (∀ H' v, Same H H' → Dx (Was H) H' v d → Q v H') → te σ H Q
def LitA (ta : TA) (ds : List PyData) : Prop := ∀ σ H Q, (∀ H' vs, Same H H' → DxAll (Was H) H' vs ds → Q vs H') → ta σ H Q
theorem LitE.use {te : TE} {d : PyData} (h : LitE te d) {σ : L2.St} {H : Hp} {Q : VK} (q : ∀ H' v, Same H H' → Dx (Was H) H' v d → Q v H') : te σ H Q := h σ H Q q
theorem lit_non : LitE (tC .non) .none := fun _ _ _ q => q _ _ (Same.refl _) .non
theorem lit_bl {b : Bool} : LitE (tC (.bl b)) (.bool b) := fun _ _ _ q => q _ _ (Same.refl _) (.bl b)
theorem lit_int {i : Int} : LitE (tC (.int i)) (.int i) := fun _ _ _ q => q _ _ (Same.refl _) (.int i)
theorem lit_str {x : Str} : LitE (tC (.str x)) (.str x) := fun _ _ _ q => q _ _ (Same.refl _) (.str x)
theorem lit_neg {i : Int} : LitE (tUn (rU fun i => .int (-i)) (tC (.int i))) (.int (-i)) := fun _ _ _ q => ⟨i, rfl, q _ _ (Same.refl _) (.int _)⟩
theorem lit_pow {i j : Int} (h : CPow i j) : LitE (tOp (rI CPow fun i j => .int (i ^ j.toNat)) (tC (.int i)) (tC (.int j))) (.int (i ^ j.toNat)) := fun _ _ _ q => ⟨i, j, rfl, rfl, h, q _ _ (Same.refl _) (.int _)⟩
theorem lit_nil : LitA tNil [] := fun _ _ _ q => q _ _ (Same.refl _) .nil
theorem lit_cons {te : TE} {ta : TA} {d : PyData} {ds : List PyData} (h : LitE te d) (g : LitA ta ds) : LitA (tCons te ta) (d :: ds) := fun σ H Q q =>
  h σ H _ fun H1 v s1 hv => g σ H1 _ fun H2 vs s2 hvs => q H2 (v :: vs) (s1.trans s2) (.cons (hv.same s2) (hvs.more fun b _ z => Was.mono s1 z))
theorem lit_tup {t : TA} {ds : List PyData} (h : LitA t ds) (hl : ds.length ≤ 1000 := by decide) : LitE (tTup t) (.tuple ds) := fun σ H Q q =>
  h σ H _ fun H1 vs s1 hx => ⟨Nat.le_of_lt (small1000 (by rw [hx.length]; exact hl)), fun p np => q _ _ (s1.trans (same_new np)) (.tup upd_same (fun z => z (s1.free np)) (hx.same (same_new np)))⟩
theorem lit_lst {t : TA} {ds : List PyData} (h : LitA t ds) (hl : ds.length ≤ 1000 := by decide) : LitE (tLst t) (.list ds) := fun σ H Q q =>
  h σ H _ fun H1 vs s1 hx => ⟨Nat.le_of_lt (small1000 (by rw [hx.length]; exact hl)), fun p np => q _ _ (s1.trans (same_new np)) (.lst upd_same (fun z => z (s1.free np)) (hx.same (same_new np)))⟩
theorem lit_dnew : LitE tDNewK (.dict []) := fun σ H Q q p np => q _ _ (same_new np) (.dct (kvs := []) (ds := []) upd_same (fun z => z np) .nil)
theorem lit_disp1 {k : Key} {tv : TE} {d : PyData} (h : LitE tv d) : LitE (tDisp [(tC (kV k), tv)]) (.dict [(keyD k, d)]) := fun σ H Q q p np =>
  h σ _ _ fun H1 v s1 hv => ⟨s1 _ _ upd_same, [(k, v)], rfl, by show 1 ≤ 15; decide, by
    have n1 : H p = none := np
    have e : mergeK [] [(k, v)] = [(k, v)] := rfl
    rw [e]
    refine q _ _ (Same.put ((same_new np).trans s1) np) (.dct (kvs := [(k, v)]) (ds := [d]) upd_same (fun z => z np) (.cons ?_ .nil))
    refine (hv.more (N' := fun b => Was H b ∨ b = p) fun b _ z => z.elim (fun z => Was.mono (same_new np) z) (fun z => ?_)).but ?_ |>.more fun b _ z => .inl z
    · subst z
      unfold Was
      rw [upd_same]
      exact Option.some_ne_none _
    · intro b o nb e
      rw [upd_ne fun z => nb (.inr z)]
      exact e⟩
theorem lit_dispS {x : Str} {tv : TE} {d : PyData} (h : LitE tv d) : LitE (tDisp [(tC (.str x), tv)]) (.dict [(.str x, d)]) := lit_disp1 (k := .inr x) h
theorem lit_dispI {i : Int} {tv : TE} {d : PyData} (h : LitE tv d) : LitE (tDisp [(tC (.int i), tv)]) (.dict [(.int i, d)]) := lit_disp1 (k := .inl i) h
/-! what stands behind -/
theorem lst_dx {N : Addr → Prop} {H : Hp} {x : V} {ds : List PyData} (h : Dx N H x (.list ds)) : ∃ a xs, x = .ref a ∧ H a = some (.lst xs) ∧ ¬ N a ∧ DxAll N H xs ds := by
  generalize e : PyData.list ds = d at h
  cases h with
  | lst h n t => obtain rfl := PyData.list.inj e; exact ⟨_, _, rfl, h, n, t⟩
  | _ => cases e
theorem tpl_dx {N : Addr → Prop} {H : Hp} {x : V} {ds : List PyData} (h : Dx N H x (.tuple ds)) : ∃ a xs, x = .ref a ∧ H a = some (.tup xs) ∧ ¬ N a ∧ DxAll N H xs ds := by
  generalize e : PyData.tuple ds = d at h
  cases h with
  | tup h n t => obtain rfl := PyData.tuple.inj e; exact ⟨_, _, rfl, h, n, t⟩
  | _ => cases e
theorem keyD_inj : ∀ {a b : Key}, keyD a = keyD b → a = b
  | .inl _, .inl _, h => congrArg Sum.inl (PyData.int.inj h)
  | .inr _, .inr _, h => congrArg Sum.inr (PyData.str.inj h)
  | .inl _, .inr _, h => by cases h
  | .inr _, .inl _, h => by cases h
theorem dct1_dx {N : Addr → Prop} {H : Hp} {x : V} {k : Key} {e : PyData} (h : Dx N H x (.dict [(keyD k, e)])) : ∃ a u, x = .ref a ∧ H a = some (.dK [(k, u)]) ∧ ¬ N a ∧ Dx N H u e := by
  generalize q : PyData.dict [(keyD k, e)] = d at h
  cases h with
  | @dct a kvs ds h n t =>
    have q1 := PyData.dict.inj q
    cases kvs with
    | nil => cases t; cases q1
    | cons kv r =>
      cases t with
      | @cons _ _ d ds h1 t =>
        rw [List.map_cons, List.zip_cons_cons] at q1
        have q2 := List.cons.inj q1
        have q3 := Prod.mk.inj q2.1
        cases r with
        | nil =>
          cases t
          obtain ⟨k', u⟩ := kv
          have : k = k' := keyD_inj q3.1
          subst this
          refine ⟨a, u, rfl, h, n, ?_⟩
          rw [q3.2]
          exact h1
        | cons kv2 r =>
          cases t with
          | cons h2 t => cases q2.2
  | _ => cases q
end Mo

/-! ### kinds of data, counts among data of any kind, tables of code objects kept -/
namespace Mo
open PySem PySem.Spec PyProof.Rows L2
def isIntD : PyData → Bool
  | .int _ | .bool _ => true
  | _ => false
def isBoolD : PyData → Bool
  | .bool _ => true
  | _ => false
def isStrD : PyData → Bool
  | .str _ => true
  | _ => false
def isTupD : PyData → Bool
  | .tuple _ => true
  | _ => false
theorem kit_int : ∀ d : PyData, kitB (tyD d) "int" = some (isIntD d)
  | .none => by show kitB "NoneType" "int" = some false; decide +kernel
  | .bool _ => by show kitB "bool" "int" = some true; decide +kernel
  | .int _ => by show kitB "int" "int" = some true; decide +kernel
  | .str _ => by show kitB "str" "int" = some false; decide +kernel
  | .list _ => by show kitB "list" "int" = some false; decide +kernel
  | .tuple _ => by show kitB "tuple" "int" = some false; decide +kernel
  | .dict _ => by show kitB "dict" "int" = some false; decide +kernel
theorem kit_bool : ∀ d : PyData, kitB (tyD d) "bool" = some (isBoolD d)
  | .none => by show kitB "NoneType" "bool" = some false; decide +kernel
  | .bool _ => by show kitB "bool" "bool" = some true; decide +kernel
  | .int _ => by show kitB "int" "bool" = some false; decide +kernel
  | .str _ => by show kitB "str" "bool" = some false; decide +kernel
  | .list _ => by show kitB "list" "bool" = some false; decide +kernel
  | .tuple _ => by show kitB "tuple" "bool" = some false; decide +kernel
  | .dict _ => by show kitB "dict" "bool" = some false; decide +kernel
theorem kit_str : ∀ d : PyData, kitB (tyD d) "str" = some (isStrD d)
  | .none => by show kitB "NoneType" "str" = some false; decide +kernel
  | .bool _ => by show kitB "bool" "str" = some false; decide +kernel
  | .int _ => by show kitB "int" "str" = some false; decide +kernel
  | .str _ => by show kitB "str" "str" = some true; decide +kernel
  | .list _ => by show kitB "list" "str" = some false; decide +kernel
  | .tuple _ => by show kitB "tuple" "str" = some false; decide +kernel
  | .dict _ => by show kitB "dict" "str" = some false; decide +kernel
theorem kit_tup : ∀ d : PyData, kitB (tyD d) "tuple" = some (isTupD d)
  | .none => by show kitB "NoneType" "tuple" = some false; decide +kernel
  | .bool _ => by show kitB "bool" "tuple" = some false; decide +kernel
  | .int _ => by show kitB "int" "tuple" = some false; decide +kernel
  | .str _ => by show kitB "str" "tuple" = some false; decide +kernel
  | .list _ => by show kitB "list" "tuple" = some false; decide +kernel
  | .tuple _ => by show kitB "tuple" "tuple" = some true; decide +kernel
  | .dict _ => by show kitB "dict" "tuple" = some false; decide +kernel
def plainD (d : PyData) : Bool := isIntD d && !isBoolD d
/-- a question about data -/
def spAsk (f : PyData → Bool) : Sp := fun vs H Q _ => ∃ (N : Addr → Prop) (x : V) (d : PyData), vs = [x] ∧ Dx N H x d ∧ d.bulk ≤ 1000000 ∧ ∀ H', Same H H' → Q (.bl (f d)) H'
theorem plain_int : ∀ {N : Addr → Prop} {H : Hp} {x : V} {d : PyData}, Dx N H x d → plainD d = true → ∃ i : Int, x = .int i ∧ d = .int i := by
  intro N H x d h e
  cases h with
  | int i => exact ⟨i, rfl, rfl⟩
  | _ => exact absurd (show false = true from e) (by decide)
def isListD : PyData → Bool
  | .list _ => true
  | _ => false
def isDictD : PyData → Bool
  | .dict _ => true
  | _ => false
theorem kit_list : ∀ d : PyData, kitB (tyD d) "list" = some (isListD d)
  | .none => by show kitB "NoneType" "list" = some false; decide +kernel
  | .bool _ => by show kitB "bool" "list" = some false; decide +kernel
  | .int _ => by show kitB "int" "list" = some false; decide +kernel
  | .str _ => by show kitB "str" "list" = some false; decide +kernel
  | .list _ => by show kitB "list" "list" = some true; decide +kernel
  | .tuple _ => by show kitB "tuple" "list" = some false; decide +kernel
  | .dict _ => by show kitB "dict" "list" = some false; decide +kernel
/-- an integer from a to b -/
def cntB (a b : Int) : PyData → Bool
  | .int i => decide (a ≤ i) && decide (i ≤ b)
  | _ => false
/-- check_count: nothing, or InvalidCount with the very value -/
def spCnt (C : Addr) : Sp := fun vs H Q E => ∃ (N : Addr → Prop) (x : V) (d : PyData) (a b : Int), vs = [x, .int a, .int b] ∧ Dx N H x d ∧ d.bulk ≤ 1000000 ∧ (cntB a b d = true → ∀ H', Same H H' → Q .non H') ∧
  (cntB a b d = false → ∀ dd H', H dd = none → Same H H' → H' dd = some (.xd [("value", x)]) → E (.ref C) (some dd) H')
theorem cnt_no {a b : Int} {d : PyData} (h : plainD d = false) : cntB a b d = false := by
  cases d <;> first | rfl | exact absurd (show true = false from h) (by decide)
/-! more written data -/
theorem lit_negE {te : TE} {i : Int} (h : LitE te (.int i)) : LitE (tUn (rU fun i => .int (-i)) te) (.int (-i)) := fun σ H Q q => h σ H _ fun H' v s hv => by
  cases hv
  exact ⟨i, rfl, q _ _ s (.int _)⟩
/-! nothing is changed but tables -/
mutual
theorem Dx.tabs {N : Addr → Prop} {H H' : Hp} (s : LamX.ExtN H H') : ∀ {v : V} {d : PyData}, Dx N H v d → Dx N H' v d
  | _, _, .non => .non
  | _, _, .bl b => .bl b
  | _, _, .int i => .int i
  | _, _, .str x => .str x
  | _, _, .lst h n a => .lst (s _ _ h (fun _ z => nomatch z)) n (DxAll.tabs s a)
  | _, _, .tup h n a => .tup (s _ _ h (fun _ z => nomatch z)) n (DxAll.tabs s a)
  | _, _, .dct h n a => .dct (s _ _ h (fun _ z => nomatch z)) n (DxAll.tabs s a)
theorem DxAll.tabs {N : Addr → Prop} {H H' : Hp} (s : LamX.ExtN H H') : ∀ {v : List V} {d : List PyData}, DxAll N H v d → DxAll N H' v d
  | _, _, .nil => .nil
  | _, _, .cons a b => .cons (Dx.tabs s a) (DxAll.tabs s b)
end
theorem Tabs.same {T : List (Addr × Str)} {H H' : Hp} (t : LamX.Tabs T H) (s : Same H H') : LamX.Tabs T H' := t.ext s
theorem Tabs.but {T : List (Addr × Str)} {H H' : Hp} {d : Addr} {kvs : List (Key × V)} (t : LamX.Tabs T H) (hd : H d = some (.dK kvs)) (s : But d H H') : LamX.Tabs T H' := fun p hp => by
  obtain ⟨ps, h1, h2, h3⟩ := t p hp
  refine ⟨ps, s _ _ (fun z => ?_) h1, h2, fun pos cv hc => ?_⟩
  · rw [z, hd] at h1
    cases h1
  · obtain ⟨c, e1, e2⟩ := h3 pos cv hc
    refine ⟨c, e1, s _ _ (fun z => ?_) e2⟩
    rw [z, hd] at e2
    cases e2
theorem tabs_nil {H : Hp} {P : Addr} {q : Str} (h : H P = some (.tbl #[])) : LamX.Tabs [(P, q)] H := fun p hp => by
  rw [List.mem_singleton.mp hp]
  exact LamX.TabS.nil h
end Mo
namespace Mo
open PySem PySem.Spec PyProof.Rows L2
/-- while, by a word and a measure; the test's own reading told as it stands -/
theorem while_raw {c : TT} {tb : TS} {D : Ends} {σ : L2.St} {H : Hp} (Pv : L2.St → Hp → Prop) (μ : L2.St → Hp → Nat) (h0 : Pv σ H)
    (hs : ∀ σ H, Pv σ H → c σ H fun b H1 => if b = true then ∃ N : L2.St → Hp → Prop, (∀ σ' H', N σ' H' → ∃ m', m' < μ σ H ∧ m' = μ σ' H' ∧ Pv σ' H') ∧ tb { D with nx := N, ct := N, bk := D.nx } σ H1 else D.nx σ H1) : tWhile c tb D σ H :=
  ⟨fun m σ H => m = μ σ H ∧ Pv σ H, ⟨_, rfl, h0⟩, fun m σ H p => by
    obtain ⟨rfl, p⟩ := p
    exact hs σ H p⟩
/-- an odd value: small, and no integer from 0 on -/
structure OddD (e : PyData) : Prop where
  fit : Fit 30 100 3 e
  no : ∀ a b : Int, 0 ≤ a → cntB a b e = false
theorem fitI {B W D : Nat} {i : Int} (h : i.natAbs < 10 ^ B) (hW : 1 ≤ W) : Fit B W D (.int i) := ⟨by simp only [okD]; exact h, by simp only [PyData.bulk]; exact Nat.zero_le _, by simp only [PyData.depth]; exact Nat.zero_le _⟩
theorem odd_neg {i : Int} (h : i.natAbs < 10 ^ 30) (hn : i < 0) : OddD (.int i) := ⟨fitI h (by decide), fun a b ha => by
  show (decide (a ≤ i) && decide (i ≤ b)) = false
  rw [decide_eq_false (show ¬ a ≤ i by omega)]
  rfl⟩
theorem odd_bl (b : Bool) : OddD (.bool b) := ⟨⟨by simp [okD], by simp [PyData.bulk], by simp [PyData.depth]⟩, fun _ _ _ => rfl⟩
theorem odd_non : OddD .none := ⟨⟨by simp [okD], by simp [PyData.bulk], by simp [PyData.depth]⟩, fun _ _ _ => rfl⟩
theorem odd_str {x : Str} (h : ∀ c ∈ x.cps.toList, c < 128) (hl : x.cps.size ≤ 50) : OddD (.str x) := ⟨⟨by simp only [okD]; exact h, by simp only [PyData.bulk]; omega, by simp [PyData.depth]⟩, fun _ _ _ => rfl⟩
theorem odd_tup1 {i : Int} (h : i.natAbs < 10 ^ 30) : OddD (.tuple [.int i]) := ⟨(FitAll.tup (fitI (W := 1) (D := 0) h (by decide)).one).mono (by decide) (by decide) (by decide), fun _ _ _ => rfl⟩
theorem odd_lst1 {i : Int} (h : i.natAbs < 10 ^ 30) : OddD (.list [.int i]) := ⟨(FitAll.lst (fitI (W := 1) (D := 0) h (by decide)).one).mono (by decide) (by decide) (by decide), fun _ _ _ => rfl⟩
theorem odd_dct : OddD (.dict []) := ⟨⟨by simp [okD, okKv], by simp [PyData.bulk, PyData.bulkKv], by simp [PyData.depth, PyData.depthKv]⟩, fun _ _ _ => rfl⟩
/-- what was new when the old heap was H0, d being old: nothing of it is at d -/
theorem Dx.keep {H0 H H' : Hp} {d : Addr} {v : V} {e : PyData} (h : Dx (Was H0) H v e) (hd : H0 d ≠ none) (b : But d H H') : Dx (fun x => x = d) H' v e :=
  (h.but fun x o nx hx => b x o (fun z => nx (by rw [z]; exact hd)) hx).more fun x _ z => by rw [z]; exact hd
theorem Dx.pen {H H' : Hp} {d : Addr} {v : V} {e : PyData} (h : Dx (fun x => x = d) H v e) (b : But d H H') : Dx (fun x => x = d) H' v e := h.but fun x o nx hx => b x o nx hx
end Mo

/-! ### lists and tuples of flat values compared -/
namespace Mo
open PySem PySem.Spec PyProof.Rows L2
def eqLs : List V → List V → Bool
  | [], [] => true
  | x :: xs, y :: ys => eqV x y && eqLs xs ys
  | _, _ => false
theorem eqLs_range : ∀ (xs ys : List V), xs.length = ys.length → (List.range xs.length).all (fun j => eqV (xs.getD j .non) (ys.getD j .non)) = eqLs xs ys
  | [], [], _ => rfl
  | x :: xs, y :: ys, h => by
    rw [List.length_cons, List.range_succ_eq_map, List.all_cons, List.all_map]
    show (eqV x y && (List.range xs.length).all (fun j => eqV (xs.getD j .non) (ys.getD j .non))) = _
    rw [eqLs_range xs ys (by simpa using h)]
    rfl
  | [], _ :: _, h => by simp at h
  | _ :: _, [], h => by simp at h
theorem eqLs_len : ∀ {xs ys : List V}, eqLs xs ys = true → xs.length = ys.length
  | [], [], _ => rfl
  | x :: xs, y :: ys, h => by
    rw [List.length_cons, List.length_cons, eqLs_len (Bool.and_eq_true_iff.mp h).2]
  | [], _ :: _, h => by cases h
  | _ :: _, [], h => by cases h
theorem eqV_self : ∀ {x : V}, flatV x = true → eqV x x = true := by
  intro x h
  cases x <;> first | (exact absurd (show false = true from h) Bool.false_ne_true) | rfl | (simp [eqV])
theorem eqLs_self : ∀ {xs : List V}, xs.all flatV = true → eqLs xs xs = true
  | [], _ => rfl
  | x :: xs, h => by
    rw [List.all_cons, Bool.and_eq_true] at h
    show (eqV x x && eqLs xs xs) = true
    rw [eqV_self h.1, eqLs_self h.2]
    rfl
theorem flat_ints (ns : List Int) : (ns.map V.int).all flatV = true := by
  rw [List.all_map, List.all_eq_true]
  exact fun _ _ => rfl
theorem flat_strs' (zs : List Str) : (zs.map V.str).all flatV = true := by
  rw [List.all_map, List.all_eq_true]
  exact fun _ _ => rfl
theorem eqLs_ints : ∀ (a b : List Int), eqLs (a.map V.int) (b.map V.int) = decide (a = b)
  | [], [] => by simp [eqLs]
  | x :: a, y :: b => by
    show (x == y && eqLs (a.map V.int) (b.map V.int)) = _
    rw [eqLs_ints a b, Bool.eq_iff_iff]
    simp
  | [], _ :: _ => by simp [eqLs]
  | _ :: _, [] => by simp [eqLs]
theorem eqLs_strs : ∀ (a b : List Str), eqLs (a.map V.str) (b.map V.str) = decide (a = b)
  | [], [] => by simp [eqLs]
  | x :: a, y :: b => by
    show (x == y && eqLs (a.map V.str) (b.map V.str)) = _
    rw [eqLs_strs a b, Bool.eq_iff_iff]
    simp
  | [], _ :: _ => by simp [eqLs]
  | _ :: _, [] => by simp [eqLs]
section
variable {X : Cx}
theorem eqAts {A : Around} {s : Shared} {xs ys : List V} {us ws : List Value} (r1 : Vals xs us) (r2 : Vals ys ws) (f1 : xs.all flatV = true) (f2 : ys.all flatV = true) :
    ∀ j (h1 : j < us.toArray.size) (h2 : j < ws.toArray.size), SeqAt.EqAt A s us.toArray[j] ws.toArray[j] (eqV (xs.getD j .non) (ys.getD j .non)) := by
  intro j h1 h2
  have l1 := r1.length
  have l2 := r2.length
  rw [List.size_toArray] at h1 h2
  have e1 : xs[j]? = some (xs.getD j .non) := by
    rw [List.getD_eq_getElem?_getD, List.getElem?_eq_getElem (by omega)]
    rfl
  have e2 : ys[j]? = some (ys.getD j .non) := by
    rw [List.getD_eq_getElem?_getD, List.getElem?_eq_getElem (by omega)]
    rfl
  obtain ⟨u, hu, ru⟩ := r1.get e1
  obtain ⟨v, hv, rv⟩ := r2.get e2
  have q1 : us.toArray[j] = u := by
    rw [List.getElem?_eq_getElem h1] at hu
    exact Option.some.inj hu
  have q2 : ws.toArray[j] = v := by
    rw [List.getElem?_eq_getElem h2] at hv
    exact Option.some.inj hv
  rw [q1, q2]
  exact eqAt_V ru rv (List.all_eq_true.mp f1 _ (List.mem_of_getElem? e1)) (List.all_eq_true.mp f2 _ (List.mem_of_getElem? e2))
def FlatAt (K : PySem.W.Frag) (H : Hp) (x y : V) (xs ys : List V) : Prop := ∃ a b, x = .ref a ∧ y = .ref b ∧ xs.all flatV = true ∧ ys.all flatV = true ∧ ((SqL K H a xs ∧ SqL K H b ys) ∨ (SqT K H a xs ∧ SqT K H b ys))
def rEqFl (K : PySem.W.Frag) : R2 := fun x y H Q => ∃ xs ys, FlatAt K H x y xs ys ∧ Q (.bl (eqLs xs ys)) H
def rNeFl (K : PySem.W.Frag) : R2 := fun x y H Q => ∃ xs ys, FlatAt K H x y xs ys ∧ Q (.bl (!eqLs xs ys)) H
theorem tups_eq {xs ys : List V} : ((List.range (min xs.length ys.length)).all (fun j => eqV (xs.getD j .non) (ys.getD j .non)) && xs.length == ys.length) = eqLs xs ys := by
  by_cases h : xs.length = ys.length
  · rw [← h, Nat.min_self, eqLs_range xs ys h]
    simp
  · have : eqLs xs ys = false := by
      cases e : eqLs xs ys with
      | false => rfl
      | true => exact absurd (eqLs_len e) h
    rw [this, beq_eq_false_iff_ne.mpr h, Bool.and_false]
theorem op_eqFl (hu : X.A.units + 64 < cLine) : OpR X (compareOp .Eq) (rEqFl X.K) := by
  intro pins s σ H x y v u Q I rx ry h
  obtain ⟨xs, ys, ⟨a, b, rfl, rfl, f1, f2, h⟩, q⟩ := h
  cases rx
  cases ry
  rcases h with ⟨ha, hb⟩ | ⟨ha, hb⟩
  · obtain ⟨is, r1, p1, _⟩ := I.list ha
    obtain ⟨js, r2, p2, _⟩ := I.list hb
    have l1 := r1.length
    have l2 := r2.length
    by_cases hl : xs.length = ys.length
    · refine SeqAt.eq_listAt (e := fun j => eqV (xs.getD j .non) (ys.getD j .non)) p1.isList p2.isList (by simp only [List.size_toArray]; omega) (by omega) (eqAts r1 r2 f1 f2) ?_
      rw [List.size_toArray, ← l1, eqLs_range xs ys hl]
      exact ⟨.bl _, H, I, rfl, q⟩
    · have e : eqLs xs ys = false := by
        cases e : eqLs xs ys with
        | false => rfl
        | true => exact absurd (eqLs_len e) hl
      rw [e] at q
      exact SeqAt.eq_list_lengthsAt p1.isList p2.isList (by simp only [List.size_toArray]; rw [bne_iff_ne]; omega) (by omega) ⟨.bl _, H, I, rfl, q⟩
  · obtain ⟨is, r1, p1, _⟩ := I.tuple ha
    obtain ⟨js, r2, p2, _⟩ := I.tuple hb
    have l1 := r1.length
    have l2 := r2.length
    have k1 : s.heap.IsTuple a is.toArray := p1
    have k2 : s.heap.IsTuple b js.toArray := p2
    refine SeqAt.eq_tupleAt (e := fun j => eqV (xs.getD j .non) (ys.getD j .non)) k1 k2 (by omega) (eqAts r1 r2 f1 f2) ?_
    rw [List.size_toArray, List.size_toArray, ← l1, ← l2, tups_eq]
    exact ⟨.bl _, H, I, rfl, q⟩
theorem op_neFl (hu : X.A.units + 64 < cLine) : OpR X (compareOp .NotEq) (rNeFl X.K) := by
  intro pins s σ H x y v u Q I rx ry h
  obtain ⟨xs, ys, ⟨a, b, rfl, rfl, f1, f2, h⟩, q⟩ := h
  cases rx
  cases ry
  rcases h with ⟨ha, hb⟩ | ⟨ha, hb⟩
  · obtain ⟨is, r1, p1, _⟩ := I.list ha
    obtain ⟨js, r2, p2, _⟩ := I.list hb
    have l1 := r1.length
    have l2 := r2.length
    by_cases hl : xs.length = ys.length
    · refine SeqAt.RcNeAt.lists (e := fun j => eqV (xs.getD j .non) (ys.getD j .non)) p1.isList p2.isList (by simp only [List.size_toArray]; omega) (by omega) (eqAts r1 r2 f1 f2) X.prog X.w X.xe _ ?_
      rw [List.size_toArray, ← l1, eqLs_range xs ys hl]
      exact ⟨.bl _, H, I, rfl, q⟩
    · have e : eqLs xs ys = false := by
        cases e : eqLs xs ys with
        | false => rfl
        | true => exact absurd (eqLs_len e) hl
      rw [e] at q
      exact SeqAt.RcNeAt.lists_lengths p1.isList p2.isList (by simp only [List.size_toArray]; rw [bne_iff_ne]; omega) (by omega) X.prog X.w X.xe _ ⟨.bl _, H, I, rfl, q⟩
  · obtain ⟨is, r1, p1, _⟩ := I.tuple ha
    obtain ⟨js, r2, p2, _⟩ := I.tuple hb
    have l1 := r1.length
    have l2 := r2.length
    have k1 : s.heap.IsTuple a is.toArray := p1
    have k2 : s.heap.IsTuple b js.toArray := p2
    refine SeqAt.RcNeAt.tuples (e := fun j => eqV (xs.getD j .non) (ys.getD j .non)) k1 k2 (by omega) (eqAts r1 r2 f1 f2) X.prog X.w X.xe _ ?_
    rw [List.size_toArray, List.size_toArray, ← l1, ← l2, tups_eq]
    exact ⟨.bl _, H, I, rfl, q⟩
end
end Mo

namespace Mo
open PySem PySem.Spec PyProof.Rows L2
/-! ### the pen -/
def srcD (c : Addr) (t r : Int) : List (Key × V) := [(.inr "cells", .ref c), (.inr "index", .int t), (.inr "rest", .int r)]
theorem s_ct : ¬ ((Sum.inr "cells" : Key) = (Sum.inr "index" : Key)) := by decide +kernel
theorem s_cr : ¬ ((Sum.inr "cells" : Key) = (Sum.inr "rest" : Key)) := by decide +kernel
theorem s_tr : ¬ ((Sum.inr "index" : Key) = (Sum.inr "rest" : Key)) := by decide +kernel
theorem src_cells (c : Addr) (t r : Int) : valV (srcD c t r) (Sum.inr "cells") = some (.ref c) := valV_pos rfl
theorem src_index (c : Addr) (t r : Int) : valV (srcD c t r) (Sum.inr "index") = some (.int t) := by
  unfold srcD
  rw [valV_neg s_ct, valV_pos rfl]
theorem src_rest (c : Addr) (t r : Int) : valV (srcD c t r) (Sum.inr "rest") = some (.int r) := by
  unfold srcD
  rw [valV_neg s_cr, valV_neg s_tr, valV_pos rfl]
theorem sput_index (c : Addr) (t r u : Int) : putK (srcD c t r) (Sum.inr "index") (.int u) = srcD c u r := by
  unfold putK srcD
  have k1 := s_ct
  have k2 : ¬ ((Sum.inr "rest" : Key) = (Sum.inr "index" : Key)) := fun e => s_tr e.symm
  simp only [List.any_cons, List.map_cons, List.map_nil, k1, k2, if_false, if_true, decide_true, decide_false, Bool.true_or, Bool.or_true, Bool.false_or]
theorem sput_rest (c : Addr) (t r u : Int) : putK (srcD c t r) (Sum.inr "rest") (.int u) = srcD c t u := by
  unfold putK srcD
  have k1 := s_cr
  have k2 := s_tr
  simp only [List.any_cons, List.map_cons, List.map_nil, k1, k2, if_false, if_true, decide_true, decide_false, Bool.true_or, Bool.or_true, Bool.false_or]
theorem src_merge (c : Addr) (t r : Int) : mergeK [] (srcD c t r) = srcD c t r := by
  have k1 := s_ct
  have k2 := s_cr
  have k3 := s_tr
  simp only [mergeK, srcD, putK, List.foldl_cons, List.foldl_nil, List.any_nil, List.any_cons, List.nil_append, List.cons_append, k1, k2, k3, decide_false, Bool.or_false, Bool.false_eq_true, if_false]
/-- the pen at d, its cells at c, t draws done -/
def Src (H : Hp) (d c : Addr) (t : Nat) : Prop := ∃ (ns : List Int) (r : Int), H d = some (.dK (srcD c t r)) ∧ H c = some (.lst (ns.map V.int)) ∧ ns.length ≤ 63 ∧ 0 ≤ r
theorem Src.ne {H : Hp} {d c : Addr} {t : Nat} (h : Src H d c t) : d ≠ c := by
  obtain ⟨ns, r, h1, h2, _⟩ := h
  exact ne_of h1 h2 (by intro z; cases z)
theorem Src.new {H : Hp} {d c : Addr} {t : Nat} (h : Src H d c t) {p : Addr} (hp : H p = none) : p ≠ d ∧ p ≠ c := by
  obtain ⟨ns, r, h1, h2, _⟩ := h
  exact ⟨(ne_of_none h1 hp).symm, (ne_of_none h2 hp).symm⟩
theorem Src.upd {H : Hp} {d c : Addr} {t : Nat} (h : Src H d c t) {p : Addr} {o : HO} (h1 : p ≠ d) (h2 : p ≠ c) : Src (upd H p o) d c t := by
  obtain ⟨ns, r, e1, e2, e3⟩ := h
  exact ⟨ns, r, by rw [upd_ne h1.symm]; exact e1, by rw [upd_ne h2.symm]; exact e2, e3⟩
theorem Src.same {H H' : Hp} {d c : Addr} {t : Nat} (h : Src H d c t) (s : Same H H') : Src H' d c t := by
  obtain ⟨ns, r, e1, e2, e3⟩ := h
  exact ⟨ns, r, s _ _ e1, s _ _ e2, e3⟩
theorem src_set {H : Hp} {d c : Addr} {t : Nat} (h : Src H d c t) {u : Nat} {r : Int} (hr : 0 ≤ r) : Src (L2.upd H d (.dK (srcD c u r))) d c u := by
  have n := h.ne
  obtain ⟨ns, r0, e1, e2, e3, _⟩ := h
  exact ⟨ns, r, upd_same, by rw [upd_ne n.symm]; exact e2, e3, hr⟩
def spSDraw : Sp := fun vs H Q _ => ∃ (d c : Addr) (n : Int) (t : Nat), vs = [.ref d, .int n] ∧ Src H d c t ∧ 0 < n ∧ n < 1073741824 ∧ t < 1073741824 ∧
  ∀ H' k t', But d H H' → Src H' d c t' → t' ≤ t + 1 → 0 ≤ k → k < n → Q (.int k) H'
def spSPick (K : PySem.W.Frag) : Sp := fun vs H Q _ => ∃ (d c l : Addr) (xs : List V) (t : Nat), vs = [.ref d, .ref l] ∧ Src H d c t ∧ SqL K H l xs ∧ l ≠ d ∧ 0 < xs.length ∧ xs.length < 1073741824 ∧ t < 1073741824 ∧
  ∀ H' v t', But d H H' → Src H' d c t' → t' ≤ t + 1 → v ∈ xs → Q v H'
end Mo

namespace Mo
open PySem PySem.Spec PyProof.Rows L2
section
variable {K : PySem.W.Frag}
theorem intsDp {H : Hp} : ∀ ns : List Int, DpAll K H (ns.map V.int) (ns.map PyData.int)
  | [] => .nil
  | n :: ns => .cons (.int n) (intsDp ns)
theorem tupI_dat {H : Hp} {p : Addr} {ns : List Int} (h : H p = some (.tup (ns.map V.int))) : Dat K H (.ref p) (.tuple (ns.map PyData.int)) := .inl (.tup (SqT.of h) (intsDp ns))
theorem lstI_dat {H : Hp} {p : Addr} {ns : List Int} (h : H p = some (.lst (ns.map V.int))) : Dat K H (.ref p) (.list (ns.map PyData.int)) := .inl (.lst (SqL.of h) (intsDp ns))
theorem ints_fitAll {B : Nat} : ∀ {ns : List Int}, (∀ n ∈ ns, n.natAbs < 10 ^ B) → FitAll B (2 * ns.length) 0 (ns.map PyData.int)
  | [], _ => ⟨trivial, Nat.le_refl _, Nat.le_refl _⟩
  | n :: ns, h => by
    have ih := ints_fitAll (B := B) (ns := ns) fun x hx => h x (List.mem_cons_of_mem _ hx)
    refine ⟨?_, ?_, ?_⟩
    · simp only [List.map_cons, okAll]
      exact ⟨by simp only [okD]; exact h n (List.mem_cons_self ..), ih.ok⟩
    · have := ih.bulk
      simp only [List.map_cons, PyData.bulkAll, PyData.bulk, List.length_cons]
      omega
    · have := ih.deep
      simp only [List.map_cons, PyData.depthAll, PyData.depth]
      omega
theorem tupI_repr {ns : List Int} (h : ∀ n ∈ ns, n.natAbs < 10 ^ 20) (hl : ns.length ≤ 100000) : (PyData.tuple (ns.map PyData.int)).showable = true ∧ (PyData.tuple (ns.map PyData.int)).depth ≤ 40 ∧ (PyData.tuple (ns.map PyData.int)).shown.length ≤ sizeLine :=
  ((ints_fitAll h).tup).repr (by decide) (by decide) (by omega) (by decide)
theorem lstI_repr {ns : List Int} (h : ∀ n ∈ ns, n.natAbs < 10 ^ 20) (hl : ns.length ≤ 100000) : (PyData.list (ns.map PyData.int)).showable = true ∧ (PyData.list (ns.map PyData.int)).depth ≤ 40 ∧ (PyData.list (ns.map PyData.int)).shown.length ≤ sizeLine :=
  ((ints_fitAll h).lst).repr (by decide) (by decide) (by omega) (by decide)
end
end Mo

namespace Mo
open PySem PySem.Spec PyProof.Rows L2
theorem ints_dx {N : Addr → Prop} {H : Hp} : ∀ ns : List Int, DxAll N H (ns.map V.int) (ns.map PyData.int)
  | [] => .nil
  | n :: r => .cons (.int n) (ints_dx r)
theorem tupI_dx {H : Hp} {p : Addr} {ns : List Int} (h : H p = some (.tup (ns.map V.int))) : Dx (fun _ => False) H (.ref p) (.tuple (ns.map PyData.int)) := .tup h (fun z => z) (ints_dx ns)
theorem same_ne (x : V) : V.bl (!decide (x = x)) = V.bl false := by simp
theorem same_eq (x : V) : V.bl (decide (x = x)) = V.bl true := by simp
/-- two equal tuples of flat values are not unlike -/
theorem neFl_self {K : PySem.W.Frag} {H : Hp} {p r : Addr} {xs : List V} {Q : VK} (hp : H p = some (.tup xs)) (hr : H r = some (.tup xs)) (hf : xs.all flatV = true) (q : Q (.bl false) H) : rNeFl K (.ref p) (.ref r) H Q :=
  ⟨xs, xs, ⟨p, r, rfl, rfl, hf, hf, .inr ⟨SqT.of hp, SqT.of hr⟩⟩, by rw [eqLs_self hf]; exact q⟩
theorem eqFl_self {K : PySem.W.Frag} {H : Hp} {p r : Addr} {xs : List V} {Q : VK} (hp : H p = some (.tup xs)) (hr : H r = some (.tup xs)) (hf : xs.all flatV = true) (q : Q (.bl true) H) : rEqFl K (.ref p) (.ref r) H Q :=
  ⟨xs, xs, ⟨p, r, rfl, rfl, hf, hf, .inr ⟨SqT.of hp, SqT.of hr⟩⟩, by rw [eqLs_self hf]; exact q⟩
theorem cnt_abs {a b : Int} {N : Addr → Prop} {H : Hp} {i : Int} {e : PyData} (h : Dx N H (.int i) e) (hn : cntB a b e = false) (h1 : a ≤ i) (h2 : i ≤ b) : False := by
  cases h
  have z : (decide (a ≤ i) && decide (i ≤ b)) = false := hn
  rw [decide_eq_true h1, decide_eq_true h2] at z
  cases z
theorem cnt_out {a b i : Int} (h : i < a ∨ b < i) : cntB a b (.int i) = false := by
  show (decide (a ≤ i) && decide (i ≤ b)) = false
  rcases h with h | h
  · rw [decide_eq_false (show ¬ a ≤ i by omega)]
    rfl
  · rw [decide_eq_false (show ¬ i ≤ b by omega), Bool.and_false]
/-- where a dict d is and the tables, what the lambda leaves -/
theorem ext_at {H H' : Hp} (s : LamX.ExtN H H') {b : Addr} {o : HO} (h : H b = some o) (n : ∀ ps, o ≠ .tbl ps) : H' b = some o := s b o h n
end Mo

/-! ### texts among data of any kind -/
namespace Mo
open PySem PySem.Spec PyProof.Rows L2
theorem bulk_mem : ∀ {ds : List PyData} {d : PyData}, d ∈ ds → d.bulk ≤ PyData.bulkAll ds
  | x :: ds, d, h => by
    simp only [PyData.bulkAll]
    rcases List.mem_cons.mp h with rfl | h
    · omega
    · have := bulk_mem h
      omega
theorem bulk_len (a : List PyData) : a.length ≤ PyData.bulkAll a := by
  induction a with
  | nil => exact Nat.zero_le _
  | cons x a ih =>
    simp only [PyData.bulkAll, List.length_cons]
    omega
theorem tup_dx : ∀ {N : Addr → Prop} {H : Hp} {x : V} {d : PyData}, Dx N H x d → isTupD d = true → ∃ a xs ds, x = .ref a ∧ d = .tuple ds ∧ H a = some (.tup xs) ∧ ¬ N a ∧ DxAll N H xs ds := by
  intro N H x d h e
  cases h with
  | tup h n t => exact ⟨_, _, _, rfl, rfl, h, n, t⟩
  | _ => exact absurd (show false = true from e) (by decide)
theorem str_dx : ∀ {N : Addr → Prop} {H : Hp} {x : V} {d : PyData}, Dx N H x d → isStrD d = true → ∃ cs : List Nat, x = .str (tx cs) ∧ d = .str (tx cs) := by
  intro N H x d h e
  cases h with
  | str z => exact ⟨z.cps.toList, rfl, rfl⟩
  | _ => exact absurd (show false = true from e) (by decide)
theorem notTup {d : PyData} (h : isTupD d = false) : textD d = false := by
  cases d <;> first | rfl | exact absurd (show true = false from h) (by decide)
/-- check_text: nothing, or InvalidText with the very value -/
def spChkT (C : Addr) : Sp := fun vs H Q E => ∃ (N : Addr → Prop) (x : V) (d : PyData), vs = [x] ∧ Dx N H x d ∧ d.bulk ≤ 1000000 ∧ (textD d = true → ∀ H', Same H H' → Q .non H') ∧
  (textD d = false → ∀ dd H', H dd = none → Same H H' → H' dd = some (.xd [("value", x)]) → E (.ref C) (some dd) H')
theorem text_ints {ns : List Int} (h : ∀ n ∈ ns, 0 ≤ n ∧ n ≤ 999999) (hl : ns.length ≤ 4096) : textD (.tuple (ns.map PyData.int)) = true := by
  show (decide ((ns.map PyData.int).length ≤ 4096) && (ns.map PyData.int).all letterD) = true
  rw [decide_eq_true (by rw [List.length_map]; exact hl), Bool.true_and, List.all_eq_true]
  intro d hd
  obtain ⟨n, hn, rfl⟩ := List.mem_map.mp hd
  show (decide (0 ≤ n) && decide (n ≤ 999999)) = true
  rw [decide_eq_true (h n hn).1, decide_eq_true (h n hn).2]
  rfl
theorem bulk_ints (ns : List Int) : PyData.bulkAll (ns.map PyData.int) = ns.length := by
  induction ns with
  | nil => rfl
  | cons n r ih =>
    rw [List.map_cons]
    simp only [PyData.bulkAll, PyData.bulk, List.length_cons]
    omega
end Mo
namespace Mo
open PySem PySem.Spec PyProof.Rows L2
/-- an error of the class C with the field f, value x, is let out -/
def Errs (C : Addr) (f : Str) (x : V) (H : Hp) (E : XK) : Prop := ∀ dd H', H dd = none → Same H H' → H' dd = some (.xd [(f, x)]) → E (.ref C) (some dd) H'
theorem Errs.same {C : Addr} {f : Str} {x : V} {H H1 : Hp} {E : XK} (h : Errs C f x H E) (s : Same H H1) : Errs C f x H1 E := fun dd H' nd s2 hd => h dd H' (s.free nd) (s.trans s2) hd
end Mo
namespace Mo
open PySem PySem.Spec PyProof.Rows L2
/-- a method of a list within a try: the reading names K itself -/
theorem pe_appK {X : Cx} {K : PySem.W.Frag} {o e : Expr} {to : TE} {t : TA} {apos cpos : Pos} (hK : X.K = K) (ho : PE X o to) (ha : PA X [e] t)
    (hbase : attributeBase o "append" X.env (eval o X.env) = eval o X.env := by rfl) (hfew : ((backTo cpos (starEach [e] X.env)).all (fun x => !x.1) && (backToKw cpos (keywordEach [] X.env)).all (fun x => x.1.isSome) && decide (([e] : List Expr).length + ([] : List Keyword).length + (if ([] : List Keyword).isEmpty then 0 else 1) < 30)) = true := by rfl)
    (hline : (apos.endLine == cpos.line) = true := by rfl) (hs : starEach [e] X.env = (false, eval e X.env) :: starEach [] X.env := by rfl) (hplain : (backTo cpos (starEach [] X.env)).any (·.1) = false := by rfl) :
    PE X (.Call (.Attribute o "append" apos) [e] [] cpos) (tBM K "list" rAppend to t) := by
  subst hK
  exact pe_bm PySem.F.plainAttrs_list PySem.F.slot_list_append PySem.F.type_list_append mt_append ho ha hbase hfew hline hs hplain
end Mo

/-! ### lists of texts, written texts, pens and tables -/
namespace Mo
open PySem PySem.Spec PyProof.Rows L2
theorem Src.here {H : Hp} {d c : Addr} {t : Nat} (h : Src H d c t) : H d ≠ none := by
  obtain ⟨_, _, h, _⟩ := h
  rw [h]
  exact Option.some_ne_none _
theorem Src.tabs {H H' : Hp} {d c : Addr} {t : Nat} (h : Src H d c t) (s : LamX.ExtN H H') : Src H' d c t := by
  obtain ⟨ns, r, h1, h2, h3⟩ := h
  exact ⟨ns, r, s _ _ h1 (fun _ z => nomatch z), s _ _ h2 (fun _ z => nomatch z), h3⟩
theorem Src.dict {H : Hp} {d c : Addr} {t : Nat} (h : Src H d c t) : ∃ kvs, H d = some (.dK kvs) := by
  obtain ⟨ns, r, h1, _⟩ := h
  exact ⟨_, h1⟩
theorem Src.tab {T : List (Addr × Str)} {H H' : Hp} {d c : Addr} {t : Nat} (h : Src H d c t) (tb : LamX.Tabs T H) (b : But d H H') : LamX.Tabs T H' := h.dict.elim fun _ e => Tabs.but tb e b
theorem Tabs.put {T : List (Addr × Str)} {H : Hp} {l : Addr} {xs : List V} {o : HO} (t : LamX.Tabs T H) (hl : H l = some (.lst xs)) : LamX.Tabs T (upd H l o) := fun p hp => by
  obtain ⟨ps, h1, h2, h3⟩ := t p hp
  have n1 : p.1 ≠ l := fun z => by
    rw [z, hl] at h1
    cases h1
  refine ⟨ps, by rw [upd_ne n1]; exact h1, h2, fun pos cv hc => ?_⟩
  obtain ⟨c, e1, e2⟩ := h3 pos cv hc
  have n2 : c ≠ l := fun z => by
    rw [z, hl] at e2
    cases e2
  exact ⟨c, e1, by rw [upd_ne n2]; exact e2⟩
def nat2 (ns : List Nat) : List Int := ns.map fun n : Nat => (n : Int)
theorem nat2_len (ns : List Nat) : (nat2 ns).length = ns.length := List.length_map ..
/-- letters as they may be, in a text as long as it may be -/
def Okn (ns : List Nat) : Prop := (∀ n ∈ ns, n ≤ 999999) ∧ ns.length ≤ 4096
/-- v is a text -/
def TxtAt (H : Hp) (v : V) : Prop := ∃ (p : Addr) (ns : List Nat), v = .ref p ∧ H p = some (.tup ((nat2 ns).map V.int)) ∧ Okn ns
theorem TxtAt.same {H H' : Hp} {v : V} (h : TxtAt H v) (s : Same H H') : TxtAt H' v := h.elim fun p z => z.elim fun ns z => ⟨p, ns, z.1, s _ _ z.2.1, z.2.2⟩
theorem TxtAt.tabs {H H' : Hp} {v : V} (h : TxtAt H v) (s : LamX.ExtN H H') : TxtAt H' v := h.elim fun p z => z.elim fun ns z => ⟨p, ns, z.1, s _ _ z.2.1 (fun _ z => nomatch z), z.2.2⟩
theorem TxtAt.but {H H' : Hp} {v : V} {d c : Addr} {t : Nat} (h : TxtAt H v) (src : Src H d c t) (s : But d H H') : TxtAt H' v := by
  obtain ⟨p, ns, e, hp, ok⟩ := h
  obtain ⟨kvs, hd⟩ := src.dict
  exact ⟨p, ns, e, s _ _ (ne_of hp hd (by intro z; cases z)) hp, ok⟩
theorem TxtAt.put {H : Hp} {v : V} {l : Addr} {xs : List V} {o : HO} (h : TxtAt H v) (hl : H l = some (.lst xs)) : TxtAt (upd H l o) v := by
  obtain ⟨p, ns, e, hp, ok⟩ := h
  exact ⟨p, ns, e, by rw [upd_ne (ne_of hp hl (by intro z; cases z))]; exact hp, ok⟩
theorem dx_ints {N : Addr → Prop} {H : Hp} : ∀ {xs : List V} {ns : List Int}, DxAll N H xs (ns.map PyData.int) → xs = ns.map V.int
  | [], [], _ => rfl
  | [], _ :: _, h => nomatch h
  | _ :: _, [], h => nomatch h
  | x :: xs, n :: ns, .cons a b => by
    cases a
    rw [dx_ints b]
    rfl
theorem txt_of {N : Addr → Prop} {H : Hp} {v : V} {ns : List Nat} (h : Dx N H v (.tuple ((nat2 ns).map PyData.int))) (ok : Okn ns) : TxtAt H v := by
  obtain ⟨a, xs, e, ha, _, hx⟩ := tpl_dx h
  rw [dx_ints hx] at ha
  exact ⟨a, ns, e, ha, ok⟩
/-- t * n, written -/
theorem dx_rep {N : Addr → Prop} {H : Hp} {xs : List V} {ds : List PyData} (h : DxAll N H xs ds) : ∀ n : Nat, DxAll N H (List.replicate n xs).flatten (List.replicate n ds).flatten
  | 0 => .nil
  | n + 1 => by
    rw [List.replicate_succ, List.replicate_succ, List.flatten_cons, List.flatten_cons]
    exact h.append (dx_rep h n)
def repD (n : Nat) (ds : List PyData) : PyData := .tuple (List.replicate n ds).flatten
theorem lit_rep {K : PySem.W.Frag} {te : TE} {ds : List PyData} {i : Int} (n : Nat) (h : LitE te (.tuple ds)) (hi : i = (n : Int)) (hne : ds ≠ []) (hl : ds.length ≤ 10) (h2 : 2 ≤ n) (hn : n ≤ 100000) : LitE (tOp (rRepN K) te (tC (.int i))) (repD n ds) := fun σ H Q q => h σ H _ fun H1 v s1 hv => by
  obtain ⟨a, xs, rfl, ha, na, hx⟩ := tpl_dx hv
  have el := hx.length
  subst hi
  refine ⟨a, n, xs, rfl, rfl, SqT.of ha, fun z => ?_, h2, hn, by omega, fun p np => ?_⟩
  · rw [z] at el
    exact hne (List.eq_nil_of_length_eq_zero el.symm)
  · have s2 := same_new (o := .tup (List.replicate n xs).flatten) np
    exact q _ _ (s1.trans s2) (.tup upd_same (fun z => z (s1.free np)) (dx_rep (hx.same s2) n))
/-- (x,) * i, written -/
theorem lit_rep1 {K : PySem.W.Frag} {x i : Int} (h : 2 ≤ i ∧ i ≤ 100000) : LitE (tOp (rRepN K) (tTup (tCons (tC (.int x)) tNil)) (tC (.int i))) (repD i.toNat [.int x]) :=
  lit_rep i.toNat (lit_tup (lit_cons lit_int lit_nil) (by show 1 ≤ 1000; decide)) (by omega) (fun z => by cases z) (by show 1 ≤ 10; decide) (by omega) (by omega)
theorem rep_one {α : Type} (x : α) : ∀ n : Nat, (List.replicate n [x]).flatten = List.replicate n x
  | 0 => rfl
  | n + 1 => by
    rw [List.replicate_succ, List.flatten_cons, rep_one x n, List.replicate_succ]
    rfl
theorem rep_nat2 (n k : Nat) : (List.replicate n [PyData.int ((k : Nat) : Int)]).flatten = (nat2 (List.replicate n k)).map PyData.int := by
  rw [rep_one, nat2, List.map_replicate, List.map_replicate]
theorem repD_nat2 (n k : Nat) : repD n [PyData.int ((k : Nat) : Int)] = .tuple ((nat2 (List.replicate n k)).map PyData.int) := congrArg PyData.tuple (rep_nat2 n k)
theorem ok_rep {n k : Nat} (hn : n ≤ 4096) (hk : k ≤ 999999) : Okn (List.replicate n k) := ⟨fun m hm => by rw [(List.mem_replicate.mp hm).2]; exact hk, by rw [List.length_replicate]; exact hn⟩
/-! what repr says of texts and lists of one text -/
theorem txt_dx {H : Hp} {p : Addr} {ns : List Nat} (h : H p = some (.tup ((nat2 ns).map V.int))) : Dx (fun _ => False) H (.ref p) (.tuple ((nat2 ns).map PyData.int)) := tupI_dx h
theorem nat2_dig {ns : List Nat} (ok : Okn ns) : ∀ n ∈ nat2 ns, n.natAbs < 10 ^ 20 := fun n hn => by
  obtain ⟨m, hm, rfl⟩ := List.mem_map.mp hn
  have := ok.1 m hm
  omega
theorem txt_fit {ns : List Nat} (ok : Okn ns) : Fit 20 10000 1 (.tuple ((nat2 ns).map PyData.int)) := (FitAll.tup ((ints_fitAll (B := 20) (nat2_dig ok)).mono (Nat.le_refl _) (by rw [nat2_len]; have := ok.2; omega) (Nat.le_refl _)))
theorem one_fit {ns : List Nat} (ok : Okn ns) : Fit 20 10001 2 (.list [.tuple ((nat2 ns).map PyData.int)]) := FitAll.lst (txt_fit ok).one
theorem one_dx {H : Hp} {l p : Addr} {ns : List Nat} (hl : H l = some (.lst [.ref p])) (hp : H p = some (.tup ((nat2 ns).map V.int))) : Dx (fun _ => False) H (.ref l) (.list [.tuple ((nat2 ns).map PyData.int)]) := .lst hl (fun z => z) (.cons (txt_dx hp) .nil)
theorem txt_text {ns : List Nat} (ok : Okn ns) : textD (.tuple ((nat2 ns).map PyData.int)) = true := text_ints (fun n hn => by
  obtain ⟨m, hm, rfl⟩ := List.mem_map.mp hn
  have := ok.1 m hm
  omega) (by rw [nat2_len]; exact ok.2)
theorem txt_bulk {ns : List Nat} (ok : Okn ns) : (PyData.tuple ((nat2 ns).map PyData.int)).bulk ≤ 1000000 := Nat.le_trans (txt_fit ok).bulk (by decide)
theorem str_fit {cs : List Nat} (h : ∀ c ∈ cs, c < 128) (hl : cs.length ≤ 100000) : Fit 20 100000 1 (.str (tx cs)) := ⟨by simp only [okD]; exact h, by simp only [PyData.bulk]; rw [tx_size]; exact hl, by simp only [PyData.depth]; exact Nat.zero_le _⟩
end Mo

/-! ### rule sets: the mathematics -/
namespace Mo
/-- images of letters: none empty, of letters that have images -/
structure Ims (ims : List (List Nat)) : Prop where
  ne : ∀ im ∈ ims, im ≠ []
  lt : ∀ im ∈ ims, ∀ l ∈ im, l < ims.length
  few : ∀ im ∈ ims, im.length ≤ 64
  n1 : 1 ≤ ims.length
  n2 : ims.length ≤ 400
def img (ims : List (List Nat)) (l : Nat) : List Nat := ims.getD l []
/-- what a letter becomes -/
def word (ims : List (List Nat)) : Nat → Nat → List Nat
  | 0, l => [l]
  | s + 1, l => (img ims l).flatMap (word ims s)
def len (ims : List (List Nat)) (s l : Nat) : Nat := (word ims s l).length
theorem len_succ (ims : List (List Nat)) (s l : Nat) : len ims (s + 1) l = ((img ims l).map (len ims s)).sum := by
  unfold len
  show ((img ims l).flatMap (word ims s)).length = _
  rw [List.length_flatMap]
theorem img_mem {ims : List (List Nat)} {l : Nat} (h : l < ims.length) : img ims l ∈ ims := by
  unfold img
  rw [List.getD_eq_getElem?_getD, List.getElem?_eq_getElem h]
  exact List.getElem_mem h
theorem img_at {ims : List (List Nat)} {l : Nat} (h : l < ims.length) : ims[l]? = some (img ims l) := by
  unfold img
  rw [List.getD_eq_getElem?_getD, List.getElem?_eq_getElem h]
  rfl
theorem word_lt {ims : List (List Nat)} (ok : Ims ims) : ∀ (s : Nat) {l : Nat}, l < ims.length → ∀ x ∈ word ims s l, x < ims.length
  | 0, l, h, x, hx => by
    rw [List.mem_singleton.mp hx]
    exact h
  | s + 1, l, h, x, hx => by
    obtain ⟨a, ha, hx⟩ := List.mem_flatMap.mp hx
    exact word_lt ok s (ok.lt _ (img_mem h) a ha) x hx
theorem len_pos {ims : List (List Nat)} (ok : Ims ims) : ∀ (s : Nat) {l : Nat}, l < ims.length → 0 < len ims s l
  | 0, _, _ => Nat.one_pos
  | s + 1, l, h => by
    rw [len_succ]
    cases e : img ims l with
    | nil => exact absurd e (ok.ne _ (img_mem h))
    | cons a r =>
      have := len_pos ok s (ok.lt _ (img_mem h) a (by rw [e]; exact List.mem_cons_self))
      rw [List.map_cons, List.sum_cons]
      omega
/-- the last replacement -/
theorem word_last (ims : List (List Nat)) : ∀ (s l : Nat), word ims (s + 1) l = (word ims s l).flatMap (img ims)
  | 0, l => by
    show (img ims l).flatMap (fun a => [a]) = [l].flatMap (img ims)
    simp
  | s + 1, l => by
    show (img ims l).flatMap (word ims (s + 1)) = ((img ims l).flatMap (word ims s)).flatMap (img ims)
    rw [List.flatMap_assoc]
    exact congrArg (List.flatMap · (img ims l)) (funext fun a => word_last ims s a)
/-- the letter of the image that holds an index, and the index in it -/
def within (r : Nat → Nat) : List Nat → Nat → Nat × Nat
  | [], i => (0, i)
  | a :: t, i => if i < r a then (a, i) else within r t (i - r a)
def letAt (ims : List (List Nat)) : Nat → Nat → Nat → Nat
  | 0, l, _ => l
  | s + 1, l, i => letAt ims s (within (len ims s) (img ims l) i).1 (within (len ims s) (img ims l) i).2
theorem within_in {r : Nat → Nat} : ∀ {im : List Nat} {i : Nat}, i < (im.map r).sum → (within r im i).1 ∈ im ∧ (within r im i).2 < r (within r im i).1
  | [], i, h => absurd h (Nat.not_lt_zero _)
  | a :: t, i, h => by
    show (if i < r a then (a, i) else within r t (i - r a)).1 ∈ a :: t ∧ _
    by_cases c : i < r a
    · have e : within r (a :: t) i = (a, i) := if_pos c
      rw [e, if_pos c]
      exact ⟨List.mem_cons_self, c⟩
    · have e : within r (a :: t) i = within r t (i - r a) := if_neg c
      rw [e, if_neg c]
      rw [List.map_cons, List.sum_cons] at h
      obtain ⟨h1, h2⟩ := within_in (r := r) (im := t) (i := i - r a) (by omega)
      exact ⟨List.mem_cons_of_mem _ h1, h2⟩
theorem within_flat {f : Nat → List Nat} : ∀ {im : List Nat} {i : Nat}, i < (im.map fun a => (f a).length).sum → (im.flatMap f)[i]? = (f (within (fun a => (f a).length) im i).1)[(within (fun a => (f a).length) im i).2]?
  | [], i, h => absurd h (Nat.not_lt_zero _)
  | a :: t, i, h => by
    rw [List.flatMap_cons]
    by_cases c : i < (f a).length
    · have e : within (fun a => (f a).length) (a :: t) i = (a, i) := if_pos c
      rw [e, List.getElem?_append_left c]
    · have e : within (fun a => (f a).length) (a :: t) i = within (fun a => (f a).length) t (i - (f a).length) := if_neg c
      rw [List.map_cons, List.sum_cons] at h
      rw [e, List.getElem?_append_right (by omega), within_flat (by omega)]
theorem letAt_word {ims : List (List Nat)} (ok : Ims ims) : ∀ (s : Nat) {l i : Nat}, l < ims.length → i < len ims s l → (word ims s l)[i]? = some (letAt ims s l i)
  | 0, l, i, h, hi => by
    have : i = 0 := by
      have : i < 1 := hi
      omega
    subst this
    rfl
  | s + 1, l, i, h, hi => by
    rw [len_succ] at hi
    have w := within_in hi
    have f := within_flat (f := word ims s) hi
    show ((img ims l).flatMap (word ims s))[i]? = _
    rw [f]
    exact letAt_word ok s (ok.lt _ (img_mem h) _ w.1) w.2
theorem letAt_lt {ims : List (List Nat)} (ok : Ims ims) {s l i : Nat} (h : l < ims.length) (hi : i < len ims s l) : letAt ims s l i < ims.length :=
  word_lt ok s h _ (List.mem_of_getElem? (letAt_word ok s h hi))
/-- the row of s replacements -/
def rowL (ims : List (List Nat)) (s : Nat) : List Nat := (List.range ims.length).map (len ims s)
theorem rowL_at {ims : List (List Nat)} {s l : Nat} (h : l < ims.length) : (rowL ims s)[l]? = some (len ims s l) := by
  unfold rowL
  rw [List.getElem?_map, List.getElem?_range h]
  rfl
theorem rowL_len (ims : List (List Nat)) (s : Nat) : (rowL ims s).length = ims.length := by
  unfold rowL
  rw [List.length_map, List.length_range]
/-- where the image of the letter at m begins after the last replacement -/
def hereL (ims : List (List Nat)) (W : List Nat) (m : Nat) : Nat := ((W.take m).map fun a => (img ims a).length).sum
theorem last_at {ims : List (List Nat)} {W : List Nat} {m k a : Nat} (hm : W[m]? = some a) (hk : k < (img ims a).length) : (W.flatMap (img ims))[hereL ims W m + k]? = (img ims a)[k]? := by
  have hlt := (List.getElem?_eq_some_iff.mp hm).1
  have e : W = W.take m ++ a :: W.drop (m + 1) := by
    have e2 : W[m] = a := (List.getElem?_eq_some_iff.mp hm).2
    rw [← e2, ← List.drop_eq_getElem_cons hlt, List.take_append_drop]
  have hl : ((W.take m).flatMap (img ims)).length = hereL ims W m := by
    rw [List.length_flatMap]
    rfl
  have e3 : W.flatMap (img ims) = (W.take m).flatMap (img ims) ++ (img ims a ++ (W.drop (m + 1)).flatMap (img ims)) := by
    conv => lhs; rw [e]
    rw [List.flatMap_append, List.flatMap_cons]
  rw [e3, List.getElem?_append_right (by omega), hl, show hereL ims W m + k - hereL ims W m = k by omega, List.getElem?_append_left hk]
theorem here_succ {ims : List (List Nat)} {W : List Nat} {m a : Nat} (hm : W[m]? = some a) : hereL ims W (m + 1) = hereL ims W m + (img ims a).length := by
  unfold hereL
  rw [List.take_add_one, hm, List.map_append, List.sum_append]
  simp
theorem here_lt {ims : List (List Nat)} {W : List Nat} {m k a : Nat} (hm : W[m]? = some a) (hk : k < (img ims a).length) : hereL ims W m + k < (W.flatMap (img ims)).length := by
  have := last_at (ims := ims) hm hk
  rw [List.getElem?_eq_getElem hk] at this
  exact (List.getElem?_eq_some_iff.mp this).1
/-- where the letters after the first k parts begin -/
def partL (ims : List (List Nat)) (s : Nat) (im : List Nat) (k : Nat) : Nat := ((im.take k).map (len ims s)).sum
end Mo

/-! ### max of a tuple of ints -/
namespace Mo
open PySem PySem.Spec PyProof.Rows L2
def rMaxT (K : PySem.W.Frag) : List V → Hp → VK → Prop := fun vs H Q => ∃ (a : Addr) (ns : List Int), vs = [V.ref a] ∧ SqT K H a (ns.map V.int) ∧ 0 < ns.length ∧ ∀ m, m ∈ ns → (∀ y, y ∈ ns → y ≤ m) → Q (.int m) H
theorem cr_maxT {X : Cx} (hc : X.calm = true) : CallR X (.builtin "max") (rMaxT X.K) := by
  intro pins s σ H vs us Q I r h
  obtain ⟨a, ns, rfl, hs, n0, q⟩ := h
  obtain ⟨its, rv, pt, _⟩ := I.tuple hs
  have pt : s.heap.IsTuple a its.toArray := pt
  obtain ⟨zs, ez⟩ := rv.ints.allInts.items
  have en : numsOf (intItems zs).toList = ns := by
    rw [← ez]
    exact rv.ints.numsOf
  rw [nums_intItems] at en
  subst en
  rw [ez] at pt
  have n1 : 0 < zs.size := by simpa using n0
  have la : a < s.heap.objs.size := by
    obtain ⟨_, z, _⟩ := pt
    exact Heap.lt_size z
  rw [Vals.ref1 r]
  refine call_max_walk (wpAny_pyIter_tuple pt ⟨s.heap.objs.size, [s.heap.objs.size, a], [s.heap.objs.size], _, _, _, _, rfl, Walks.tuple (A := X.A.in1) (I.ok.hd hc) s.heap.objs.size a (Nat.ne_of_lt la) (intItems zs), ?_, fun b hb => ?_, ?_, CmpOf.ints_gt (numAt zs) (fun _ _ z => intItems_at z), fun v h' tk hP hk => ?_⟩)
  · exact ⟨⟨_, Heap.get?_push_size _ rfl, rfl, rfl⟩, pt.push _⟩
  · show b < (s.heap.push _).objs.size
    rw [Heap.size_push]
    rcases List.mem_cons.mp hb with z | hb
    · rw [z]
      exact Nat.lt_succ_self _
    · rw [List.mem_singleton.mp hb]
      exact Nat.lt_succ_of_lt la
  · simpa [intItems] using n1
  · have hP : (intItems zs)[argBest (fun i j => decide (numAt zs i > numAt zs j)) ((intItems zs).size - 1)]? = some v := hP
    have es : (intItems zs).size - 1 = zs.size - 1 := by simp [intItems]
    rw [es] at hP
    obtain ⟨t, rfl⟩ := intItems_at hP
    obtain ⟨b1, b2⟩ := argBest_gt (numAt zs) (zs.size - 1)
    refine ⟨.int _, H, I.kept (t' := tk) (fun b o z => hk b o (fun hm => ?_) (Heap.get?_push_of_some _ z)), ⟨t, rfl⟩, q _ ?_ fun y hy => ?_⟩
    · have z1 := Heap.lt_size z
      rw [List.mem_singleton.mp hm] at z1
      exact absurd z1 (Nat.lt_irrefl _)
    · rw [numAt_eq]
      exact PySem.getD_mem (by rw [List.length_map, Array.length_toList]; omega)
    · obtain ⟨j, hj, rfl⟩ := mem_getD hy
      rw [List.length_map, Array.length_toList] at hj
      rw [← numAt_eq]
      exact b2 j (by omega)
theorem cr_sumK {X : Cx} {K : PySem.W.Frag} (h : X.K = K) (hc : X.calm = true) : CallR X (.builtin "sum") (rSum K) := by
  subst h
  exact cr_sum hc
end Mo

namespace Mo
open PySem PySem.Spec PyProof.Rows L2
/-! ### the pen -/
def nxtD (c : Addr) (t r : Int) : List (Key × V) := [(.inr "cells", .ref c), (.inr "next", .int t), (.inr "rest", .int r)]
theorem n_ct : ¬ ((Sum.inr "cells" : Key) = (Sum.inr "next" : Key)) := by decide +kernel
theorem n_cr : ¬ ((Sum.inr "cells" : Key) = (Sum.inr "rest" : Key)) := by decide +kernel
theorem n_tr : ¬ ((Sum.inr "next" : Key) = (Sum.inr "rest" : Key)) := by decide +kernel
theorem nxt_cells (c : Addr) (t r : Int) : valV (nxtD c t r) (Sum.inr "cells") = some (.ref c) := valV_pos rfl
theorem nxt_next (c : Addr) (t r : Int) : valV (nxtD c t r) (Sum.inr "next") = some (.int t) := by
  unfold nxtD
  rw [valV_neg n_ct, valV_pos rfl]
theorem nxt_rest (c : Addr) (t r : Int) : valV (nxtD c t r) (Sum.inr "rest") = some (.int r) := by
  unfold nxtD
  rw [valV_neg n_cr, valV_neg n_tr, valV_pos rfl]
theorem nput_next (c : Addr) (t r u : Int) : putK (nxtD c t r) (Sum.inr "next") (.int u) = nxtD c u r := by
  unfold putK nxtD
  have k1 := n_ct
  have k2 : ¬ ((Sum.inr "rest" : Key) = (Sum.inr "next" : Key)) := fun e => n_tr e.symm
  simp only [List.any_cons, List.map_cons, List.map_nil, k1, k2, if_false, if_true, decide_true, decide_false, Bool.true_or, Bool.or_true, Bool.false_or]
theorem nput_rest (c : Addr) (t r u : Int) : putK (nxtD c t r) (Sum.inr "rest") (.int u) = nxtD c t u := by
  unfold putK nxtD
  have k1 := n_cr
  have k2 := n_tr
  simp only [List.any_cons, List.map_cons, List.map_nil, k1, k2, if_false, if_true, decide_true, decide_false, Bool.true_or, Bool.or_true, Bool.false_or]
theorem nxt_merge (c : Addr) (t r : Int) : mergeK [] (nxtD c t r) = nxtD c t r := by
  have k1 := n_ct
  have k2 := n_cr
  have k3 := n_tr
  simp only [mergeK, nxtD, putK, List.foldl_cons, List.foldl_nil, List.any_nil, List.any_cons, List.nil_append, List.cons_append, k1, k2, k3, decide_false, Bool.or_false, Bool.false_eq_true, if_false]
/-- the pen at d, its cells at c, t draws done -/
def Nxt (H : Hp) (d c : Addr) (t : Nat) : Prop := ∃ (ns : List Int) (r : Int), H d = some (.dK (nxtD c t r)) ∧ H c = some (.lst (ns.map V.int)) ∧ ns.length ≤ 63 ∧ 0 ≤ r
theorem Nxt.ne {H : Hp} {d c : Addr} {t : Nat} (h : Nxt H d c t) : d ≠ c := by
  obtain ⟨ns, r, h1, h2, _⟩ := h
  exact ne_of h1 h2 (by intro z; cases z)
theorem Nxt.new {H : Hp} {d c : Addr} {t : Nat} (h : Nxt H d c t) {p : Addr} (hp : H p = none) : p ≠ d ∧ p ≠ c := by
  obtain ⟨ns, r, h1, h2, _⟩ := h
  exact ⟨(ne_of_none h1 hp).symm, (ne_of_none h2 hp).symm⟩
theorem Nxt.upd {H : Hp} {d c : Addr} {t : Nat} (h : Nxt H d c t) {p : Addr} {o : HO} (h1 : p ≠ d) (h2 : p ≠ c) : Nxt (upd H p o) d c t := by
  obtain ⟨ns, r, e1, e2, e3⟩ := h
  exact ⟨ns, r, by rw [upd_ne h1.symm]; exact e1, by rw [upd_ne h2.symm]; exact e2, e3⟩
theorem Nxt.same {H H' : Hp} {d c : Addr} {t : Nat} (h : Nxt H d c t) (s : Same H H') : Nxt H' d c t := by
  obtain ⟨ns, r, e1, e2, e3⟩ := h
  exact ⟨ns, r, s _ _ e1, s _ _ e2, e3⟩
theorem nxt_set {H : Hp} {d c : Addr} {t : Nat} (h : Nxt H d c t) {u : Nat} {r : Int} (hr : 0 ≤ r) : Nxt (L2.upd H d (.dK (nxtD c u r))) d c u := by
  have n := h.ne
  obtain ⟨ns, r0, e1, e2, e3, _⟩ := h
  exact ⟨ns, r, upd_same, by rw [upd_ne n.symm]; exact e2, e3, hr⟩
def spNDraw : Sp := fun vs H Q _ => ∃ (d c : Addr) (n : Int) (t : Nat), vs = [.ref d, .int n] ∧ Nxt H d c t ∧ 0 < n ∧ n < 1073741824 ∧ t < 1073741824 ∧
  ∀ H' k t', But d H H' → Nxt H' d c t' → t' ≤ t + 1 → 0 ≤ k → k < n → Q (.int k) H'
def spNPick (K : PySem.W.Frag) : Sp := fun vs H Q _ => ∃ (d c l : Addr) (xs : List V) (t : Nat), vs = [.ref d, .ref l] ∧ Nxt H d c t ∧ SqL K H l xs ∧ l ≠ d ∧ 0 < xs.length ∧ xs.length < 1073741824 ∧ t < 1073741824 ∧
  ∀ H' v t', But d H H' → Nxt H' d c t' → t' ≤ t + 1 → v ∈ xs → Q v H'
end Mo

/-! ### all but the pen's dict and the tables stands: one relation for what is made, drawn and called -/
namespace Mo
open PySem PySem.Spec PyProof.Rows L2
def Kp (d : Addr) (H H' : Hp) : Prop := ∀ b o, b ≠ d → H b = some o → (∀ ps, o ≠ .tbl ps) → H' b = some o
theorem Kp.refl (d : Addr) (H : Hp) : Kp d H H := fun _ _ _ e _ => e
theorem Kp.trans {d : Addr} {H H' H2 : Hp} (h : Kp d H H') (g : Kp d H' H2) : Kp d H H2 := fun b o n e t => g b o n (h b o n e t) t
theorem Kp.same {d : Addr} {H H' : Hp} (s : Same H H') : Kp d H H' := fun b o _ e _ => s b o e
theorem Kp.but {d : Addr} {H H' : Hp} (s : But d H H') : Kp d H H' := fun b o n e _ => s b o n e
theorem Kp.tabs {d : Addr} {H H' : Hp} (s : LamX.ExtN H H') : Kp d H H' := fun b o _ e t => s b o e t
theorem Kp.lst {d b : Addr} {H H' : Hp} {xs : List V} (s : Kp d H H') (n : b ≠ d) (h : H b = some (.lst xs)) : H' b = some (.lst xs) := s _ _ n h fun _ z => nomatch z
theorem Kp.tup {d b : Addr} {H H' : Hp} {xs : List V} (s : Kp d H H') (n : b ≠ d) (h : H b = some (.tup xs)) : H' b = some (.tup xs) := s _ _ n h fun _ z => nomatch z
mutual
theorem Dx.kp {d : Addr} {H H' : Hp} (s : Kp d H H') : ∀ {v : V} {e : PyData}, Dx (fun x => x = d) H v e → Dx (fun x => x = d) H' v e
  | _, _, .non => .non
  | _, _, .bl b => .bl b
  | _, _, .int i => .int i
  | _, _, .str x => .str x
  | _, _, .lst h n t => .lst (s _ _ n h fun _ z => nomatch z) n (DxAll.kp s t)
  | _, _, .tup h n t => .tup (s _ _ n h fun _ z => nomatch z) n (DxAll.kp s t)
  | _, _, .dct h n t => .dct (s _ _ n h fun _ z => nomatch z) n (DxAll.kp s t)
theorem DxAll.kp {d : Addr} {H H' : Hp} (s : Kp d H H') : ∀ {v : List V} {e : List PyData}, DxAll (fun x => x = d) H v e → DxAll (fun x => x = d) H' v e
  | _, _, .nil => .nil
  | _, _, .cons h t => .cons (Dx.kp s h) (DxAll.kp s t)
end
theorem ne_dk {d b : Addr} {H : Hp} {kvs : List (Key × V)} {o : HO} (h : H d = some (.dK kvs)) (hb : H b = some o) (n : ∀ kvs, o ≠ .dK kvs) : b ≠ d := fun z => by
  rw [z, h] at hb
  exact n _ (Option.some.inj hb).symm
end Mo

/-! ### rule sets: where they stand -/
namespace Mo
open PySem PySem.Spec PyProof.Rows L2
theorem n2v_len (im : List Nat) : ((nat2 im).map V.int).length = im.length := by rw [List.length_map, nat2_len]
theorem n2v_at {im : List Nat} {k n : Nat} (h : im[k]? = some n) : ((nat2 im).map V.int)[k]? = some (.int (n : Int)) := by
  unfold nat2
  rw [List.getElem?_map, List.getElem?_map, h]
  rfl
theorem n2v_get {im : List Nat} {k : Nat} {v : V} (h : ((nat2 im).map V.int)[k]? = some v) : ∃ n, im[k]? = some n ∧ v = .int (n : Int) := by
  unfold nat2 at h
  rw [List.getElem?_map, List.getElem?_map] at h
  cases e : im[k]? with
  | none => rw [e] at h; cases h
  | some n =>
    rw [e] at h
    exact ⟨n, rfl, (Option.some.inj h).symm⟩
theorem n2v_snoc (im : List Nat) (n : Nat) : (nat2 (im ++ [n])).map V.int = (nat2 im).map V.int ++ [.int (n : Int)] := by
  unfold nat2
  rw [List.map_append, List.map_append]
  rfl
theorem nat2_sum : ∀ l : List Nat, (nat2 l).sum = ((l.sum : Nat) : Int)
  | [] => rfl
  | n :: r => by
    show (n : Int) + (nat2 r).sum = _
    rw [nat2_sum r, List.sum_cons]
    omega
/-- tuples (or lists) of letters, one after the other -/
structure ImsAt (H : Hp) (ps : List Addr) (ims : List (List Nat)) : Prop where
  len : ps.length = ims.length
  el : ∀ (k : Nat) (p : Addr) (im : List Nat), ps[k]? = some p → ims[k]? = some im → H p = some (.tup ((nat2 im).map V.int))
theorem ImsAt.same {H H' : Hp} {ps : List Addr} {ims : List (List Nat)} (h : ImsAt H ps ims) (s : Same H H') : ImsAt H' ps ims := ⟨h.len, fun k p im a b => s _ _ (h.el k p im a b)⟩
theorem ImsAt.by {H H' : Hp} {ps : List Addr} {ims : List (List Nat)} (h : ImsAt H ps ims) (s : ∀ p xs, H p = some (.tup xs) → H' p = some (.tup xs)) : ImsAt H' ps ims := ⟨h.len, fun k p im a b => s _ _ (h.el k p im a b)⟩
/-- the tuple of letter l -/
theorem ImsAt.at {H : Hp} {ps : List Addr} {ims : List (List Nat)} (h : ImsAt H ps ims) {l : Nat} (hl : l < ims.length) : ∃ p, ps[l]? = some p ∧ H p = some (.tup ((nat2 (img ims l)).map V.int)) := by
  have e : ps[l]? = some (ps[l]'(by rw [h.len]; exact hl)) := List.getElem?_eq_getElem (by rw [h.len]; exact hl)
  exact ⟨_, e, h.el l _ _ e (img_at hl)⟩
/-- a rule set -/
def RlsAt (C : Addr) (H : Hp) (r : Addr) (ims : List (List Nat)) : Prop := ∃ (dx t : Addr) (ps : List Addr), H r = some (.ins C dx [(("table" : Str), .ref t)]) ∧ H t = some (.tup (ps.map V.ref)) ∧ ImsAt H ps ims
theorem RlsAt.same {C : Addr} {H H' : Hp} {r : Addr} {ims : List (List Nat)} (h : RlsAt C H r ims) (s : Same H H') : RlsAt C H' r ims := by
  obtain ⟨dx, t, ps, h1, h2, h3⟩ := h
  exact ⟨dx, t, ps, s _ _ h1, s _ _ h2, h3.same s⟩
theorem RlsAt.but {C d c : Addr} {n : Nat} {H H' : Hp} {r : Addr} {ims : List (List Nat)} (h : RlsAt C H r ims) (x : Nxt H d c n) (s : But d H H') : RlsAt C H' r ims := by
  obtain ⟨dx, t, ps, h1, h2, h3⟩ := h
  obtain ⟨_, _, hd, _⟩ := x
  exact ⟨dx, t, ps, s _ _ (ne_dk hd h1 (fun _ z => nomatch z)) h1, s _ _ (ne_dk hd h2 (fun _ z => nomatch z)) h2, h3.by fun p xs e => s _ _ (ne_dk hd e (fun _ z => nomatch z)) e⟩
theorem ref_at {ps : List Addr} {k : Nat} {p : Addr} (h : ps[k]? = some p) : (ps.map V.ref)[k]? = some (.ref p) := by
  rw [List.getElem?_map, h]
  rfl
theorem ref_get {ps : List Addr} {k : Nat} {v : V} (h : (ps.map V.ref)[k]? = some v) : ∃ p, ps[k]? = some p ∧ v = .ref p := by
  rw [List.getElem?_map] at h
  cases e : ps[k]? with
  | none => rw [e] at h; cases h
  | some p =>
    rw [e] at h
    exact ⟨p, rfl, (Option.some.inj h).symm⟩
/-- lists of rows, one after the other -/
structure RowsAt (H : Hp) (qs : List Addr) (rows : List (List Nat)) : Prop where
  len : qs.length = rows.length
  el : ∀ (k : Nat) (p : Addr) (row : List Nat), qs[k]? = some p → rows[k]? = some row → H p = some (.lst ((nat2 row).map V.int))
theorem RowsAt.same {H H' : Hp} {qs : List Addr} {rows : List (List Nat)} (h : RowsAt H qs rows) (s : Same H H') : RowsAt H' qs rows := ⟨h.len, fun k p im a b => s _ _ (h.el k p im a b)⟩
/-- the rows of 0 to s replacements -/
def rowsL (ims : List (List Nat)) (s : Nat) : List (List Nat) := (List.range (s + 1)).map (rowL ims)
theorem rowsL_len (ims : List (List Nat)) (s : Nat) : (rowsL ims s).length = s + 1 := by
  unfold rowsL
  rw [List.length_map, List.length_range]
theorem rowsL_at {ims : List (List Nat)} {s k : Nat} (h : k < s + 1) : (rowsL ims s)[k]? = some (rowL ims k) := by
  unfold rowsL
  rw [List.getElem?_map, List.getElem?_range h]
  rfl
theorem rowsL_succ (ims : List (List Nat)) (s : Nat) : rowsL ims (s + 1) = rowsL ims s ++ [rowL ims (s + 1)] := by
  unfold rowsL
  rw [List.range_succ (n := s + 1), List.map_append]
  rfl
theorem row0 (ims : List (List Nat)) : rowL ims 0 = List.replicate ims.length 1 := by
  unfold rowL
  rw [List.eq_replicate_iff]
  refine ⟨by rw [List.length_map, List.length_range], fun b hb => ?_⟩
  obtain ⟨l, _, rfl⟩ := List.mem_map.mp hb
  rfl
theorem row_next {ims : List (List Nat)} {s k : Nat} (hk : k < ims.length) : (rowL ims (s + 1)).take (k + 1) = (rowL ims (s + 1)).take k ++ [((img ims k).map (len ims s)).sum] := by
  rw [List.take_add_one, rowL_at hk, len_succ]
  rfl
theorem ref_last {ps : List Addr} {i : Nat} {p : Addr} (hl : ps.length = i + 1) (h : ps[i]? = some p) : atI (ps.map V.ref) (-1) = some (.ref p) := by
  have e : ps = ps.take i ++ [p] := by
    conv => lhs; rw [← List.take_length (l := ps), hl, List.take_add_one, h]
    rfl
  rw [e, List.map_append]
  exact atI_last _ _
theorem cut_last (xs : List V) : cutV xs none (some (-1)) = xs.take (xs.length - 1) := by
  have e : HT.sIx xs.length xs.length (some (-1)) = xs.length - 1 := by
    unfold HT.sIx
    simp
    omega
  unfold cutV
  rw [e, HT.sIx_none, List.drop_zero, Nat.sub_zero]
end Mo

/-! ### growing letters; images cut to four letters -/
namespace Mo
open PySem PySem.Spec PyProof.Rows L2
def growB (ims : List (List Nat)) (l : Nat) : Bool := decide ((img ims l)[0]? = some l) && decide (1 < (img ims l).length)
theorem grow_img {ims : List (List Nat)} {l : Nat} (h : growB ims l = true) : ∃ b r, img ims l = l :: b :: r := by
  unfold growB at h
  rw [Bool.and_eq_true] at h
  have h1 := of_decide_eq_true h.1
  have h2 := of_decide_eq_true h.2
  cases e : img ims l with
  | nil => rw [e] at h2; cases h2
  | cons a r =>
    rw [e] at h1 h2
    obtain rfl : a = l := Option.some.inj h1
    cases r with
    | nil => exact absurd h2 (Nat.lt_irrefl _)
    | cons b r => exact ⟨b, r, rfl⟩
theorem grow_len {ims : List (List Nat)} (ok : Ims ims) {s l : Nat} (hl : l < ims.length) (h : growB ims l = true) : len ims s l < len ims (s + 1) l := by
  obtain ⟨b, r, e⟩ := grow_img h
  rw [len_succ, e, List.map_cons, List.map_cons, List.sum_cons, List.sum_cons]
  have := len_pos ok s (ok.lt _ (img_mem hl) b (by rw [e]; simp))
  omega
theorem grow_at {ims : List (List Nat)} {s l i : Nat} (h : growB ims l = true) (hi : i < len ims s l) : letAt ims (s + 1) l i = letAt ims s l i := by
  obtain ⟨b, r, e⟩ := grow_img h
  show letAt ims s (within (len ims s) (img ims l) i).1 (within (len ims s) (img ims l) i).2 = _
  rw [e, show within (len ims s) (l :: b :: r) i = (l, i) from if_pos hi]
theorem n2v_flat (im : List Nat) : ((nat2 im).map V.int).all flatV = true := by
  rw [List.all_eq_true]
  intro v hv
  obtain ⟨n, _, rfl⟩ := List.mem_map.mp hv
  rfl
theorem neFl_selfL {K : PySem.W.Frag} {H : Hp} {p r : Addr} {xs : List V} {Q : VK} (hp : H p = some (.lst xs)) (hr : H r = some (.lst xs)) (hf : xs.all flatV = true) (q : Q (.bl false) H) : rNeFl K (.ref p) (.ref r) H Q :=
  ⟨xs, xs, ⟨p, r, rfl, rfl, hf, hf, .inl ⟨SqL.of hp, SqL.of hr⟩⟩, by rw [eqLs_self hf]; exact q⟩
theorem strs_flat (zs : List Str) : (zs.map V.str).all flatV = true := by
  rw [List.all_eq_true]
  intro v hv
  obtain ⟨n, _, rfl⟩ := List.mem_map.mp hv
  rfl
theorem bool_fits (b : Bool) : (PyData.bool b).showable = true ∧ (PyData.bool b).depth ≤ 40 ∧ (PyData.bool b).shown.length ≤ sizeLine := (odd_bl b).fit.repr (by decide) (by decide) (by decide) (by decide)
theorem inV_nats (k : Nat) (G : List Nat) : inV (.int (k : Int)) ((nat2 G).map V.int) = decide (k ∈ G) := by
  unfold inV nat2
  rw [List.map_map, List.any_map]
  by_cases h : k ∈ G
  · rw [decide_eq_true h]
    refine List.any_eq_true.mpr ⟨k, h, ?_⟩
    show ((k : Int) == (k : Int)) = true
    exact beq_self_eq_true _
  · rw [decide_eq_false h]
    cases q : G.any _ with
    | false => rfl
    | true =>
      obtain ⟨x, hx, e⟩ := List.any_eq_true.mp q
      have e : ((x : Int) == (k : Int)) = true := e
      have : x = k := Int.ofNat.inj (beq_iff_eq.mp e)
      exact absurd (this ▸ hx) h
/-- what is refused -/
structure Ref (d : Addr) (H : Hp) (v : V) (e : PyData) (a b : Int) : Prop where
  dx : Dx (fun x => x = d) H v e
  fit : Fit 30 100 3 e
  no : cntB a b e = false
theorem Ref.fit2 {d : Addr} {H : Hp} {v : V} {e : PyData} {a b : Int} (h : Ref d H v e a b) : Fit 40 1000 5 e := h.fit.mono (by decide) (by decide) (by decide)
theorem Ref.bulk {d : Addr} {H : Hp} {v : V} {e : PyData} {a b : Int} (h : Ref d H v e a b) : e.bulk ≤ 1000000 := Nat.le_trans h.fit.bulk (by decide)
theorem Ref.kp {d : Addr} {H H' : Hp} {v : V} {e : PyData} {a b : Int} (h : Ref d H v e a b) (s : Kp d H H') : Ref d H' v e a b := ⟨h.dx.kp s, h.fit, h.no⟩
theorem Ref.int {d : Addr} {H : Hp} {i a b : Int} (h : i.natAbs < 10 ^ 30) (ho : i < a ∨ b < i) : Ref d H (.int i) (.int i) a b := ⟨.int i, fitI h (by decide), cnt_out ho⟩
theorem Nxt.tabs {H H' : Hp} {d c : Addr} {t : Nat} (h : Nxt H d c t) (s : LamX.ExtN H H') : Nxt H' d c t := by
  obtain ⟨ns, r, h1, h2, h3⟩ := h
  exact ⟨ns, r, s _ _ h1 (fun _ z => nomatch z), s _ _ h2 (fun _ z => nomatch z), h3⟩
theorem Nxt.dict {H : Hp} {d c : Addr} {t : Nat} (h : Nxt H d c t) : ∃ kvs, H d = some (.dK kvs) := by
  obtain ⟨ns, r, h1, _⟩ := h
  exact ⟨_, h1⟩
/-- a rule set kept, its instance and tuples not the pen's dict -/
theorem RlsAt.kp {C d : Addr} {kvs : List (Key × V)} {H H' : Hp} {r : Addr} {ims : List (List Nat)} (h : RlsAt C H r ims) (hd : H d = some (.dK kvs)) (s : Kp d H H') : RlsAt C H' r ims := by
  obtain ⟨dx, t, ps, h1, h2, h3⟩ := h
  refine ⟨dx, t, ps, s _ _ (ne_dk hd h1 (fun _ z => nomatch z)) h1 (fun _ z => nomatch z), s.tup (ne_dk hd h2 (fun _ z => nomatch z)) h2, h3.by fun p xs e => s.tup (ne_dk hd e (fun _ z => nomatch z)) e⟩
theorem ImsAt.kp {d : Addr} {kvs : List (Key × V)} {H H' : Hp} {ps : List Addr} {ims : List (List Nat)} (h : ImsAt H ps ims) (hd : H d = some (.dK kvs)) (s : Kp d H H') : ImsAt H' ps ims :=
  h.by fun p xs e => s.tup (ne_dk hd e (fun _ z => nomatch z)) e
/-- the first four letters of each image -/
def cut4 (ims : List (List Nat)) : List (List Nat) := ims.map fun im => im.take 4
end Mo

/-! ### a list that grows by kept lambdas, each in a pair with a value -/
namespace Mo
open PySem PySem.Spec PyProof.Rows L2
/-- nothing but a table, perhaps, stood at L -/
def NoT (H : Hp) (L : Addr) : Prop := ∀ o, H L = some o → ∃ ps, o = .tbl ps
theorem noT_of {H0 H : Hp} {L : Addr} (e : LamX.ExtN H0 H) (n : H L = none) : NoT H0 L := fun o h => by
  cases o with
  | tbl ps => exact ⟨ps, rfl⟩
  | _ =>
    rw [e _ _ h (fun _ z => by cases z)] at n
    cases n
theorem extN_put {H0 H : Hp} {L : Addr} {o : HO} (e : LamX.ExtN H0 H) (n : NoT H0 L) : LamX.ExtN H0 (upd H L o) := fun b u h t => by
  have ne : b ≠ L := fun z => by
    rw [z] at h
    obtain ⟨ps, e1⟩ := n u h
    exact t ps e1
  rw [upd_ne ne]
  exact e b u h t
theorem extN_same {H H' : Hp} (s : Same H H') : LamX.ExtN H H' := fun b o h _ => s b o h
theorem ExtK.put {H : Hp} {L : Addr} {xs : List V} {o : HO} (h : H L = some (.lst xs)) : ExtK H (upd H L o) := fun b φ e => by
  rw [upd_ne (ne_of e h (fun z => by cases z))]
  exact e
theorem tabs_put {T : List (Addr × Str)} {H : Hp} {L : Addr} {xs ys : List V} (tb : LamX.Tabs T H) (h : H L = some (.lst xs)) : LamX.Tabs T (upd H L (.lst ys)) := fun p hp => by
  obtain ⟨ps, a1, a2, a3⟩ := tb p hp
  refine ⟨ps, by rw [upd_ne (ne_of a1 h (fun z => by cases z))]; exact a1, a2, fun pos cv hc => ?_⟩
  obtain ⟨c, e1, e2⟩ := a3 pos cv hc
  refine ⟨c, e1, ?_⟩
  rw [upd_ne (ne_of e2 h (fun z => by unfold LamX.CodeO at z; cases z))]
  exact e2
structure PairsAt (X : Cx) (k : Nat) (T : List (Addr × Str)) (H0 H : Hp) (L : Addr) (ps : List (Addr × V × (XK → TE))) : Prop where
  ext : LamX.ExtN H0 H
  tb : LamX.Tabs T H
  hL : H L = some (.lst (ps.map fun p => V.ref p.1))
  el : ∀ p ∈ ps, ∃ fn, H p.1 = some (.tup [.ref fn, p.2.1]) ∧ LamAt X k H fn p.2.2
section
variable {X : Cx} {k : Nat} {T : List (Addr × Str)} {H0 H H' H1 : Hp} {L p fn : Addr} {ps : List (Addr × V × (XK → TE))} {v : V} {t : XK → TE}
theorem PairsAt.same (a : PairsAt X k T H0 H L ps) (s : Same H H') : PairsAt X k T H0 H' L ps :=
  ⟨a.ext.trans (extN_same s), Tabs.same a.tb s, s _ _ a.hL, fun q hq => (a.el q hq).elim fun f z => ⟨f, s _ _ z.1, z.2.keep (.same s)⟩⟩
theorem PairsAt.one (ext : LamX.ExtN H0 H1) (tb : LamX.Tabs T H1) (la : LamAt X k H1 fn t) (np : H1 p = none) (nL : upd H1 p (.tup [.ref fn, v]) L = none) :
    PairsAt X k T H0 (upd (upd H1 p (.tup [.ref fn, v])) L (.lst [V.ref p])) L [(p, v, t)] := by
  have s1 := same_new (o := .tup [.ref fn, v]) np
  have s2 := same_new (o := .lst [V.ref p]) nL
  refine ⟨ext.trans (extN_same (s1.trans s2)), Tabs.same tb (s1.trans s2), upd_same, fun q hq => ?_⟩
  cases List.mem_singleton.mp hq
  exact ⟨fn, s2 _ _ upd_same, la.keep (.same (s1.trans s2))⟩
theorem PairsAt.list (a : PairsAt X k T H0 H L ps) (ext : LamX.ExtN H H1) (np : H1 p = none) : upd H1 p (.tup [.ref fn, v]) L = some (.lst (ps.map fun p => V.ref p.1)) :=
  same_new np _ _ (ext _ _ a.hL (fun _ z => by cases z))
theorem PairsAt.push (a : PairsAt X k T H0 H L ps) (n0 : NoT H0 L) (ext : LamX.ExtN H H1) (tb : LamX.Tabs T H1) (la : LamAt X k H1 fn t) (np : H1 p = none) :
    PairsAt X k T H0 (upd (upd H1 p (.tup [.ref fn, v])) L (.lst ((ps.map fun p => V.ref p.1) ++ [V.ref p]))) L (ps ++ [(p, v, t)]) := by
  have s1 := same_new (o := .tup [.ref fn, v]) np
  have hL := a.list (v := v) (fn := fn) ext np
  refine ⟨extN_put ((a.ext.trans ext).trans (extN_same s1)) n0, tabs_put (Tabs.same tb s1) hL, by rw [upd_same, List.map_append]; rfl, fun q hq => ?_⟩
  have far : ∀ {b : Addr} {xs : List V}, upd H1 p (.tup [.ref fn, v]) b = some (.tup xs) → b ≠ L := fun h => ne_of h hL (fun z => by cases z)
  rcases List.mem_append.mp hq with hq | hq
  · obtain ⟨f, z1, z2⟩ := a.el q hq
    have z3 := s1 _ _ (ext _ _ z1 (fun _ z => by cases z))
    exact ⟨f, by rw [upd_ne (far z3)]; exact z3, ((z2.keep (.of ext)).keep (.same s1)).keep (.put hL)⟩
  · cases List.mem_singleton.mp hq
    exact ⟨fn, by rw [upd_ne (far upd_same), upd_same], (la.keep (.same s1)).keep (.put hL)⟩
theorem PairsAt.with {R : Addr × V × (XK → TE) → Prop} (a : PairsAt X k T H0 H L ps) (h : ∀ q ∈ ps, R q) : ∃ ps' : List (Addr × V × (XK → TE)), (∀ q ∈ ps', R q) ∧ PairsAt X k T H0 H L ps' := ⟨ps, h, a⟩
end
end Mo

/-! ### a list that grows by kept lambdas -/
namespace Mo
open PySem PySem.Spec PyProof.Rows L2
theorem tabs2_hu {a b : Addr} {q r : Str} {p : Addr × Str} (ne : b ≠ a) (hp : p ∈ [(a, q), (b, r)]) (e : p.1 = a) : p.2 = q := by
  rcases List.mem_cons.mp hp with rfl | h2
  · rfl
  · cases List.mem_singleton.mp h2
    exact absurd e ne
structure LamsAt (X : Cx) (k : Nat) (T : List (Addr × Str)) (H0 H : Hp) (L : Addr) (fs : List (Addr × (XK → TE))) : Prop where
  ext : LamX.ExtN H0 H
  tb : LamX.Tabs T H
  hL : H L = some (.lst (fs.map fun q => V.ref q.1))
  el : ∀ q ∈ fs, LamAt X k H q.1 q.2
section
variable {X : Cx} {k : Nat} {T : List (Addr × Str)} {H0 H H' H1 : Hp} {L fn : Addr} {fs : List (Addr × (XK → TE))} {t : XK → TE}
theorem LamsAt.same (a : LamsAt X k T H0 H L fs) (s : Same H H') : LamsAt X k T H0 H' L fs :=
  ⟨a.ext.trans (extN_same s), Tabs.same a.tb s, s _ _ a.hL, fun q hq => (a.el q hq).keep (.same s)⟩
theorem LamsAt.one (ext : LamX.ExtN H0 H1) (tb : LamX.Tabs T H1) (la : LamAt X k H1 fn t) (nL : H1 L = none) : LamsAt X k T H0 (upd H1 L (.lst [V.ref fn])) L [(fn, t)] := by
  have s1 := same_new (o := .lst [V.ref fn]) nL
  refine ⟨ext.trans (extN_same s1), Tabs.same tb s1, upd_same, fun q hq => ?_⟩
  cases List.mem_singleton.mp hq
  exact la.keep (.same s1)
theorem LamsAt.list (a : LamsAt X k T H0 H L fs) (ext : LamX.ExtN H H1) : H1 L = some (.lst (fs.map fun q => V.ref q.1)) := ext _ _ a.hL (fun _ z => by cases z)
theorem LamsAt.push (a : LamsAt X k T H0 H L fs) (n0 : NoT H0 L) (ext : LamX.ExtN H H1) (tb : LamX.Tabs T H1) (la : LamAt X k H1 fn t) :
    LamsAt X k T H0 (upd H1 L (.lst ((fs.map fun q => V.ref q.1) ++ [V.ref fn]))) L (fs ++ [(fn, t)]) := by
  have hL := a.list ext
  refine ⟨extN_put (a.ext.trans ext) n0, tabs_put tb hL, by rw [upd_same, List.map_append]; rfl, fun q hq => ?_⟩
  rcases List.mem_append.mp hq with hq | hq
  · exact ((a.el q hq).keep (.of ext)).keep (.put hL)
  · cases List.mem_singleton.mp hq
    exact la.keep (.put hL)
theorem LamsAt.with {R : Addr × (XK → TE) → Prop} (a : LamsAt X k T H0 H L fs) (h : ∀ q ∈ fs, R q) : ∃ fs' : List (Addr × (XK → TE)), (∀ q ∈ fs', R q) ∧ LamsAt X k T H0 H L fs' := ⟨fs, h, a⟩
end
end Mo

/-! ### the text of a great int; a list extended by a tuple; the end of a law that takes both -/
namespace Mo
open PySem PySem.Spec PyProof.Rows L2
theorem repr_big {prog : Program} {w : World} {A : Around} {E : Value → Shared → Prop} {s : Shared} {a : Int} {t : Tok} {Q : Value → Shared → Prop} (hh : A.handled = none) (hn : s.heap.NoDigits) (hlt : a.natAbs < 10 ^ 4300)
    (h : Q (.str (toString a) s.toks) { s with toks := s.toks + 1 }) : wpAny (model prog w) A (call (.builtin "repr") [.int a t]) Q E s := by
  refine Calls.call_function_entry PySem.F.kind_repr PySem.F.plain_repr PySem.F.entry_repr (PySem.F.args_repr1 _) ?_
  unfold Builtin.«repr»
  refine wpAny_bind (m := oneArg "repr" _) (wpAny_pure ?_)
  have hv : [Value.int a t].any Value.onHeap = false := rfl
  simp only [cRoomFor, hv, Bool.false_eq_true, if_false, pure_bind]
  refine wpAny_bind (wpAny_specialOf (name := Str.ofString "__repr__") (typeIs_int s a t) PySem.F.slot_int_repr.lookup ?_)
  refine wpAny_bind (m := callSpecialIfBound? (Value.int a t) (Str.ofString "__repr__")) (wpAny_callSpecialIfBound?_slot (name := Str.ofString "__repr__") (typeIs_int s a t) PySem.F.slot_int_repr (call_int_repr_or (by exact hh) hn (fun _ => ?_) fun z => absurd hlt (Nat.not_lt.mpr z)))
  refine wpAny_bind (wpAny_isInstance (T := "str") (b := true) rfl isSubtype_str_str ?_)
  exact wpAny_pure ⟨_, rfl, h⟩
def rReprBig : List V → Hp → VK → Prop := fun xs H Q => ∃ i, xs = [.int i] ∧ i.natAbs < 10 ^ 4300 ∧ Q (.str (toString i)) H
theorem cr_reprBig {X : Cx} (hn : X.base.NoDigits) (hc : X.calm = true) : CallR X (.builtin "repr") rReprBig := by
  intro pins s σ H xs us Q I r h
  obtain ⟨i, rfl, hz, q⟩ := h
  obtain ⟨u, rfl, t, rfl⟩ := vals1 r
  exact repr_big (I.ok.hd hc) (hn.keeps I.bk) hz ⟨.str _, H, I.tok _, ⟨_, rfl⟩, q⟩
theorem extend_tup (l : Addr) (items : Array Value) (n : Nat) (b : Addr) (items2 : Array Value) (n2 : Nat) (di : Option Addr) (sl : Array (Option Value)) (hs0 : ¬(!items.isEmpty && Builtin.List.listTooLong (items.size + items2.size)) = true) (hs1 : items.size ≤ sizeLine) (hs2 : items.size + items2.size ≤ sizeLine + 1) :
    Meets (Builtin.«list.extend» ⟨[.ref l, .ref b], []⟩) (fun _ R s => s.heap.get? l = some { cls := .type "list", dict := none, data := .seq items n, slots := #[] } ∧ s.heap.get? b = some { cls := .type "tuple", dict := di, data := .seq items2 n2, slots := sl } ∧ R (.ok (.ret Value.none)) { s with heap := s.heap.update l (Obj.mapSeq fun x => x ++ items2), toks := s.toks }) :=
  .of_wp fun prog w A R s h => by
    obtain ⟨hp, g, d, tk, os⟩ := s; obtain ⟨hl, hb, h⟩ := h; have f1 := AutoSeq1.idx_int; have f2 := AutoSeq1.sub_tuple_tuple; have f3 := AutoSeq1.sub_list_list; have f4 := AutoSeq1.sub_tuple_list; have f5 := AutoSeq1.sub_list_tuple;
    have hz' : (items ++ items2).size ≤ sizeLine + 1 := by rw [Array.size_append]; exact hs2
    wp_walk using (wpAny_updateSeq hl rfl (hz := hs1) (_hz' := hz')), AutoSeq1.wpAny_loadPart' hl, AutoSeq1.wpAny_loadPart' hb; exact ⟨_, rfl, h⟩
def rExtendT (K : PySem.W.Frag) : V → List V → Hp → VK → Prop := fun x vs H Q => ∃ l b xs zs, x = .ref l ∧ vs = [.ref b] ∧ H l = some (.lst xs) ∧ SqT K H b zs ∧ xs.length + zs.length ≤ sizeLine ∧ Q .non (upd H l (.lst (xs ++ zs)))
theorem mt_extendT {X : Cx} : MtM X "list.extend" (rExtendT X.K) := by
  intro pins s σ H x vs v us Q I rx rv h
  obtain ⟨l, b, xs, zs, rfl, rfl, hH, hB, hz, q⟩ := h
  cases rx
  obtain ⟨u, rfl, ru⟩ := rv.one
  cases ru
  obtain ⟨z, its, n, r, hl, e⟩ := I.lstM hH
  obtain ⟨its2, r2, pt, z2⟩ := I.tuple hB
  obtain ⟨⟨c2, di2, da2, sl2⟩, e2, hc2, n2, hd2⟩ := pt
  cases hc2
  cases hd2
  have hl2 := r2.length
  have hsz : its.toArray.size + its2.toArray.size ≤ sizeLine := by rw [List.size_toArray, List.size_toArray]; omega
  have hlong : ¬ (!its.toArray.isEmpty && Builtin.List.listTooLong (its.toArray.size + its2.toArray.size)) = true := by
    rw [notLongL hsz, Bool.and_false]
    exact Bool.false_ne_true
  refine call_meets PySem.F.slot_list_extend ⟨_, e, rfl⟩ PySem.F.entry_list_extend (PySem.F.args_list_extend_2 _ _)
    (extend_tup l its.toArray n b its2.toArray n2 di2 sl2 hlong (by rw [List.size_toArray]; omega) (by omega)) ⟨e, e2, ?_⟩
  refine ⟨.non, _, I.lset (its' := its ++ its2) hH e (by simp) (r.append r2) ?_, rfl, q⟩
  rw [List.length_append]
  omega
/-- lengths are not that great -/
theorem len_le {ims : List (List Nat)} (ok : Ims ims) : ∀ (s : Nat) {l : Nat}, l < ims.length → len ims s l ≤ 64 ^ s
  | 0, _, _ => Nat.le_refl _
  | s + 1, l, h => by
    rw [len_succ]
    have few := ok.few _ (img_mem h)
    have all : ∀ a ∈ img ims l, len ims s a ≤ 64 ^ s := fun a ha => len_le ok s (ok.lt _ (img_mem h) a ha)
    have sum : ∀ (im : List Nat), (∀ a ∈ im, len ims s a ≤ 64 ^ s) → (im.map (len ims s)).sum ≤ im.length * 64 ^ s := by
      intro im
      induction im with
      | nil => intro _; exact Nat.zero_le _
      | cons a r ih =>
        intro h
        rw [List.map_cons, List.sum_cons, List.length_cons, Nat.succ_mul]
        have h1 := h a List.mem_cons_self
        have h2 := ih fun b hb => h b (List.mem_cons_of_mem _ hb)
        omega
    have := sum _ all
    have t := Nat.mul_le_mul_right (64 ^ s) few
    rw [Nat.pow_succ]
    omega
theorem p64 : 64 ^ 400 < 10 ^ 4300 := by decide +kernel
theorem len_big {ims : List (List Nat)} (ok : Ims ims) {s l : Nat} (h : l < ims.length) (hs : s ≤ 400) : (((len ims s l : Nat) : Int)).natAbs < 10 ^ 4300 := by
  rw [Int.natAbs_natCast]
  exact Nat.lt_of_le_of_lt (len_le ok s h) (Nat.lt_of_le_of_lt (Nat.pow_le_pow_right (by decide) hs) p64)
def LawD (l : PySem.W.OpenLaw) (w : World) (K : PySem.W.Frag) (CX : CXT) (k n : Nat) (x : Str) (mg : Str → Option Value) (fa : Addr) (h : Heap) : Prop :=
  ∃ (fd : FuncData) (cs : List (Addr × Addr)) (sp : Sp), (∀ p ∈ cs, h.get? p.2 = some tab0) ∧ (∀ p ∈ cs, K.lookup p.2 = none) ∧ (∀ p ∈ cs, PySem.W.codeHdIn K p.1 p.2 = true) ∧ (∀ (s : Shared) (u : Value), BindsTo s fd ⟨[u], []⟩ [(x, u)]) ∧
    (∀ (H : Hp) (a : Addr) (ns : List Int), ns.length ≤ n → (∀ p ∈ cs, H p.2 = some (.tbl #[])) → SqL K H a (ns.map V.int) → sp [.ref a] H (fun v _ => v = .bl true) fun _ _ _ => False) ∧
    ∀ base : Heap, K.In base → base.Ns mainGlobals mg → (∀ p ∈ cs, LamX.TabB base mg p.1 p.2) → (∃ mm, base.Ns sysModules mm) ∧ base.NoDigits → FnG l.prog w K mg base CX k fa fd [x] sp
theorem walkD {l : PySem.W.OpenLaw} {n k : Nat} {q : Program} {loose : List Str} {XP : (Str → Option Value) → Heap → Prop} {YP : World → Heap → Prop} {d : DefRec} {K : Params → PySem.W.Frag} {CX : World → CXT} {x : Str}
    (hn : l.most = some n) (hn2 : n ≤ sizeLine) (hdf : d.params.defaults = []) (hr : Room k callerA) (hY : ∀ (w : World) (h : Heap), YP w h → (K w.params).In h) (hi : importsNone q = true)
    (F : ∀ (w : World) (mg : Str → Option Value) (fa : Addr) (h : Heap), (K w.params).In h → h.Ns mainGlobals mg → mg d.name = some (.ref fa) → Empties q (K w.params) mg h → LawD l w (K w.params) (CX w) k n x mg fa h)
    (hCX : ∀ (w : World) (H : Hp) (s : Shared) (e : Value) (s' : Shared), CX w [] H s (fun _ _ _ => False) e s' → False) :
    PySem.W.WalkO q loose XP YP l.row.toRowW d [] (fun f vs => PySem.call f vs) := by
  refine Att.attach_call hn hdf fun w s₀ s₁ mg mb fa o pm cd doc a vs ns G Y ho hd hcd hmg hobj hints hlen hg => ?_
  have KX := hY w _ Y
  have em : Empties q (K w.params) mg s₁.heap := fun n1 a1 c1 P1 o1 fd1 hrec g1 g2 g3 g4 g5 => by
    obtain ⟨dL, hm, en⟩ := List.any_eq_true.mp hrec
    have en2 : dL.name = n1 := beq_iff_eq.mp en
    obtain ⟨a2, o2, fd2, c2, P2, t1, t2, t3, t4, _, ⟨oc, vc, u1, _, u3, u4⟩, hP⟩ := G.T.tab dL hm
    cases (by rw [en2, g1] at t1; exact t1 : some (Value.ref a1) = some (Value.ref a2))
    have x1 := (KX _ _ g2).symm.trans t2
    cases x1
    cases g3.symm.trans t3
    cases g4.symm.trans t4
    obtain ⟨ob, us, _, _, _, _, _, _, _, y1, _, y2, y3, _⟩ := PySem.W.codeHd_of_K KX g5
    cases y1.symm.trans u1
    cases y2.symm.trans u3
    cases y3.symm.trans u4
    exact hP
  obtain ⟨fd, cs, sp, hT, nT, C, hb, hsp, hF⟩ := F w mg fa _ KX G.T.g hmg em
  obtain ⟨mm, hmm, _⟩ := (G.T.seer hi).mods
  obtain ⟨mc, hmc, hmn⟩ := G.T.nodigits
  exact callT KX G.T.g G.T.b G.T.builtins G.T.nolimit hg hT nT (fun p hp => PySem.W.codeHd_of_K KX (C p hp)) G.T.bmain hobj hints (Nat.le_trans hlen hn2) hr (fun base a b c d => hF base a b c ⟨⟨mm, d _ _ hmm⟩, mc, d _ _ hmc, hmn⟩) hb (fun H hH hS => hsp H a ns hlen hH hS) fun H e s' => hCX w H s₁ e s'
end Mo

/-! ### an error of several classes that is kept behind its except suite -/
namespace Mo
open PySem PySem.Spec PyProof.Rows L2
/-- a new tuple -/
abbrev tupO (us : List Value) : Obj := { cls := .type "tuple", data := .seq us.toArray }
/-- what stands behind 'except': it is a new tuple of these classes -/
structure TestT (X : Cx) (te : Expr) (us : List Value) : Prop where
  test : ∀ (a : Addr) (oe : Obj) (pn : List (Addr × Obj)) {σ : L2.St} {H : Hp} {s : Shared} {Q : Value → Shared → Prop} {E : Value → Shared → Prop}, Inv (X.suite a ((a, oe) :: pn)) [] σ H s → Q (.ref s.heap.objs.size) { s with heap := s.heap.push (tupO us) } →
    wpAny (model X.prog X.w) (X.A.mark (some (.ref a))) (eval te X.env) Q E s
  fits : ∀ {M : Model} {h : Heap} {tp e : Addr} {cls : Value} {b : Bool}, X.K.In h → PySem.W.Looks M h (typeOf (.ref e)) cls → h.get? tp = some (tupO us) → PySem.W.exmAny X.K cls us = some b → PySem.W.Looks M h (excMatches (.ref e) (.ref tp)) b
theorem frames_kept {base h h' : Heap} (k : ∀ b o, h.get? b = some o → h'.get? b = some o) : ∀ {l : List Env}, h.FunFrames base l → h'.FunFrames base l
  | [], _ => True.intro
  | _ :: _, ⟨hk, ⟨L, o, hf, hb, ho, hd⟩, hr⟩ => ⟨hk, ⟨L, o, hf, hb, k _ _ ho, hd⟩, frames_kept k hr⟩
theorem flying_kept {base h h' : Heap} {l : List Env} {e : Addr} {Z : Obj → Prop} (k : ∀ b o, h.get? b = some o → h'.get? b = some o) (f : HandSPX.FlyingZ base l e Z h) : HandSPX.FlyingZ base l e Z h' := by
  obtain ⟨f1, f2, f3, oe, vs, T, oT, ts, h1, h2, h3, h4, h5, h6, h7, h8, h9⟩ := f
  exact ⟨fun b o q => k b o (f1 b o q), f2, frames_kept k f3, oe, vs, T, oT, ts, k _ _ h1, h2, h3, h4, h5, h6, k _ _ h7, h8, h9⟩
theorem ld_names {Y : Cx} {pins : List (Addr × Obj)} {σ : L2.St} {H : Hp} {s : Shared} {x : Str} {c : Value} {p : Pos} {Q : Value → Shared → Prop} {E : Value → Shared → Prop} (I : Inv Y pins σ H s) (hc : Names Y x c) (q : Q c s) : wpAny (model Y.prog Y.w) Y.A (eval (.Name x p) Y.env) Q E s := by
  rcases hc with ⟨hg, hdbg, hm | ⟨hm, hv, hnn⟩⟩
  · exact ld_glob I hg hm q hdbg
  · exact ld_blt I hg hm hv q hnn hdbg
theorem testT3 {X : Cx} {x1 x2 x3 : Str} {c1 c2 c3 : Value} {p1 p2 p3 pos : Pos} {k : Nat} (h1 : Names X x1 c1) (h2 : Names X x2 c2) (h3 : Names X x3 c3) : TestT X (.Tuple [.Name x1 p1, .Name x2 p2, .Name x3 p3] k pos) [c1, c2, c3] where
  test a oe pn _ _ _ _ _ S q := Tuple_ (spliced_more (ld_names S h1 (spliced_more (ld_names S h2 (spliced_more (ld_names S h3 (spliced_none (wpAny_newObj_type q))))))))
  fits K LT hp hb := PySem.W.exm_tup3 K LT hp hb
theorem testT4 {X : Cx} {x1 x2 x3 x4 : Str} {c1 c2 c3 c4 : Value} {p1 p2 p3 p4 pos : Pos} {k : Nat} (h1 : Names X x1 c1) (h2 : Names X x2 c2) (h3 : Names X x3 c3) (h4 : Names X x4 c4) : TestT X (.Tuple [.Name x1 p1, .Name x2 p2, .Name x3 p3, .Name x4 p4] k pos) [c1, c2, c3, c4] where
  test a oe pn _ _ _ _ _ S q := Tuple_ (spliced_more (ld_names S h1 (spliced_more (ld_names S h2 (spliced_more (ld_names S h3 (spliced_more (ld_names S h4 (spliced_none (wpAny_newObj_type q))))))))))
  fits K LT hp hb := PySem.W.exm_tup4 K LT hp hb
/-- what 'except (x, ..) as n: kept = n' wishes of an error of the body: n in slot i, kept in slot j; behind it the error is tracked -/
def wKeepT (K : PySem.W.Frag) (us : List Value) (i j : Nat) (Wout : WX) (D : Ends) : WX := fun cls d σ H =>
  ∃ b, PySem.W.exmAny K cls us = some b ∧ (b = true → ∀ a, H a = none → D.nx (((σ.set i (some (.ref a))).set j (some (.ref a))).set i none) (upd H a (exV a cls d))) ∧ (b = false → Wout cls d σ H)
section
variable {X : Cx} {n kx : Str} {us : List Value} {te : Expr} {i j : Nat} {body : List Stmt} {np2 kp ap pos pos' : Pos} {tb : WX → TS} {Wout : WX}
theorem ps_try_keepT (hs : X.stack = X.env :: X.outer) (hf : X.env.frame = some X.env.locals) (hN : X.N.Nodup) (hi : X.N[i]? = some n) (hj : X.N[j]? = some kx) (hln : X.env.kindOf n = some .local) (hlk : X.env.kindOf kx = some .local) (hc : TestT X te us) (tk : Takes X Wout)
    (hb : ∀ (W : WX) (pn : List (Addr × Obj)) (xe : Value → Shared → Prop), Takes (X.tr pn xe) W → PassesOwn (model X.prog X.w) X.A X.env xe → PSs (X.tr pn xe) body (tb W))
    (hsu : ∀ (a : Addr) (oe : Obj) (pn : List (Addr × Obj)), PSs (X.suite a ((a, oe) :: pn)) [.Assign [.Name kx kp] (.Name n np2) ap] (tAsg (tVar i) (gName j))) :
    PS X (.Try body [.ExceptHandler (some te) (some n) [.Assign [.Name kx kp] (.Name n np2) ap] pos'] [] [] pos) (fun D σ H => tb (wKeepT X.K us i j Wout D) D σ H) := by
  refine ⟨fun pins s σ H D I h => ?_⟩
  have ok := I.ok
  have hfr : X.A.frames = some (X.env :: X.outer) := ok.frames.trans (by rw [hs])
  refine wpAny_Try_except (wpAny_mono ((hb (wKeepT X.K us i j Wout D) (X.pn ++ pins) (fun e s₁ => wpAny (model X.prog X.w) X.A (noteFrame e X.env) (fun _ s₂ => wpAny (model X.prog X.w) X.A (setFlight e none) (fun _ s₃ =>
    wpAny (model X.prog X.w) X.A (handleBy e X.env [.ExceptHandler (some te) (some n) [.Assign [.Name kx kp] (.Name n np2) ap] pos']) (SP X pins D) X.xe s₃) X.xe s₂) X.xe s₁) (fun u s' xx => ?_) PassesOwn.looking).run [] s σ H D (I.toTry _) h) (fun f s1 hsp => ?_) (fun e s1 he => he))
  · obtain ⟨a, B, sI, pins', σ', H', cls, d, rfl, J', nb, up, sky, na, os, ag, b, hb1, hyes, hno⟩ := xx
    have J : Inv X pins σ' H' sI := J'.ofTry ok
    have sky' : Sky B (X.env :: X.outer) a (Zc cls d) X.env.locals s'.heap := hs ▸ sky
    show wpAny (model X.prog X.w) X.A (noteFrame (.ref a) X.env) _ _ _
    refine Sky.land Zc.steady hfr hf sky' fun h3 fl3 up3 => ?_
    have J3 : Inv X pins σ' H' { s' with heap := h3 } := J.landed nb fl3.1 (up.trans up3) os ag
    obtain ⟨oe3, vs3, he3, hz3, hd3⟩ := fl3.there
    have nfr : a ∉ frs (X.env :: X.outer) := fun hm => by
      obtain ⟨_, o', e', hnf⟩ := fl3.2.2.1.mem hm
      rw [he3] at e'
      cases e'
      exact hnf _ hd3
    have nL : a ≠ X.env.locals := fun z => nfr (List.mem_filterMap.mpr ⟨X.env, List.mem_cons_self, hf.trans (congrArg some z.symm)⟩)
    have nF : a ∉ X.fs := fun hm => by
      obtain ⟨e, he, q⟩ := List.mem_filterMap.mp hm
      exact nfr (List.mem_filterMap.mpr ⟨e, List.mem_cons_of_mem _ he, q⟩)
    have nB : B.get? a = none := fl3.2.1
    have nI : sI.heap.get? a = none := by
      cases q : sI.heap.get? a with
      | none => rfl
      | some o =>
        have z := nb a o q (by show a ∉ frs X.stack; rw [hs]; exact nfr)
        rw [nB] at z
        cases z
    have n0 : ∀ u, X.s_0.heap.get? a = some u → a ∈ X.ex := fun u q => by
      by_cases hx : a ∈ X.ex
      · exact hx
      · obtain ⟨o', z⟩ := J.base.there a u q hx
        rw [nI] at z
        cases z
    have npp : ∀ p ∈ X.pn ++ pins, p.1 ≠ a := fun p hp z => by
      have q := (J.pin p hp).1
      rw [z, nI] at q
      cases q
    have S3 := J3.suite he3 hd3 na nL nF
    refine wpAny_handleBy_cons (codeAny_handlers_test ?_) (by intro q; cases q)
    refine hc.test a oe3 (X.pn ++ pins) S3 ?_
    have up5 : s'.heap.UpToSlots (h3.push (tupO us)) := up3.trans (Heap.UpToSlots.of_keeps fun b o e => Heap.get?_push_of_some _ e)
    have fl5 := flying_kept (h' := h3.push (tupO us)) (fun b o e => Heap.get?_push_of_some _ e) fl3
    have J5 : Inv X pins σ' H' { s' with heap := h3.push (tupO us) } := J3.kept (t' := s'.toks) fun b o e => Heap.get?_push_of_some _ e
    have he5 : (h3.push (tupO us)).get? a = some oe3 := Heap.get?_push_of_some _ he3
    have LT : PySem.W.Looks (model X.prog X.w) (h3.push (tupO us)) (typeOf (.ref a)) cls := fun A Q E s k q => wpAny_typeOf_ref (k _ _ he5) (hz3.1 ▸ q)
    have LM := hc.fits (M := model X.prog X.w) J5.kIn LT (Heap.get?_push_size _ rfl) hb1
    refine LM.here ?_
    cases b with
    | true =>
      refine codeAny_handlers_suite_as (HandSPX.lands_againZ fl5 fun h4 fl4 up4 => ?_)
      have J4 : Inv X pins σ' H' { s' with heap := h4 } := J.landed nb fl4.1 ((up.trans up5).trans up4) os ag
      obtain ⟨oe4, vs4, he4, hz4, hd4⟩ := fl4.there
      refine store_ok (X := X.suite a ((a, oe4) :: (X.pn ++ pins))) (v := .ref a) (J4.suite he4 hd4 na nL nF) hN hi (.inl hln) rfl (fun s5 S5 => ?_) (.inr hln)
      have lenσ : i < σ'.length := by
        rw [J.len]
        exact (List.getElem?_eq_some_iff.mp hi).1
      have want : tAsg (tVar i) (gName j) { nx := fun σ6 H6 => σ6 = (σ'.set i (some (.ref a))).set j (some (.ref a)) ∧ H6 = H', rt := fun _ _ => False, bk := fun _ _ => False, ct := fun _ _ => False } (σ'.set i (some (.ref a))) H' :=
        ⟨.ref a, by rw [List.getElem?_set_self lenσ], rfl, rfl⟩
      refine wpAny_mono ((hsu a oe4 (X.pn ++ pins)).run [] s5 _ H' _ S5 want) (fun f s6 hsp => ?_) (fun _ _ z => False.elim z)
      cases f with
      | next =>
        obtain ⟨σ6, H6, S6, rfl, rfl⟩ := hsp
        obtain ⟨he6, _⟩ := S6.pin (a, oe4) (List.mem_append_left _ List.mem_cons_self)
        have J6 : Inv X pins _ H6 s6 := S6.unsuite ok
        have J7 := track J6 he6 hd4 na nL n0 npp (exV_ok he6 hz4 hd4)
        exact gone_ok J7 hN hi hln fun s7 J8 => ⟨_, _, J8, hyes rfl a na⟩
      | brk => exact hsp.elim fun _ z => z.elim fun _ z => z.2.elim
      | cont => exact hsp.elim fun _ z => z.elim fun _ z => z.2.elim
      | ret u => exact hsp.elim fun _ z => z.elim fun _ z => z.elim fun _ z => z.2.2.elim
    | false =>
      show wpAny _ X.A (handleBy (.ref a) X.env []) _ _ _
      refine wpAny_handleBy_nil ?_
      obtain ⟨k1, k2, k3, oe, vs, T, oT, ts', he, hz, hd, h1, hr⟩ := id fl5
      unfold PySem.passOn
      refine wpAny_bind (wpAny_field he hd h1 ?_)
      rw [if_neg (show ¬ ((Value.ref T == Value.none) = true) from by simp)]
      have fin : wpAny (model X.prog X.w) X.A (setFlight (.ref a) X.env.frame) (fun _ s4 => wpAny (model X.prog X.w) X.A (throw (.ref a) : Sem Flow) (SP X pins D) X.xe s4) X.xe { s' with heap := h3.push (tupO us) } := by
        rw [hf]
        refine HandSPX.setFlight_upZ fl5 fun h4 hh4 up4 => wpAny_throw (tk _ _ ⟨a, B, sI, pins, σ', H', cls, d, rfl, J, nb, (up.trans up5).trans up4, .inr (.inr (hs ▸ hh4)), na, os, ag, hno rfl⟩)
      first
        | exact wpAny_bind (wpAny_pure (wpAny_bind fin))
        | exact wpAny_bind fin
  · cases f with
    | next => exact hsp.elim fun σ1 z => z.elim fun H1 z => wpAny_execs_nil ⟨σ1, H1, z.1.ofTry ok, z.2⟩
    | brk => exact hsp.elim fun σ1 z => z.elim fun H1 z => ⟨σ1, H1, z.1.ofTry ok, z.2⟩
    | cont => exact hsp.elim fun σ1 z => z.elim fun H1 z => ⟨σ1, H1, z.1.ofTry ok, z.2⟩
    | ret u => exact hsp.elim fun v z => z.elim fun σ1 z => z.elim fun H1 z => ⟨v, σ1, H1, z.1.ofTry ok, z.2⟩
end
end Mo

/-! ### lists of truth values: count, index; statements that are never reached -/
namespace Mo
open PySem PySem.Spec PyProof.Rows L2
theorem room65 {k : Nat} {A : Around} (r : Room k A) : A.units + 65 < cLine := by have := r.un; omega
theorem pss_never {X : Cx} {b : List Stmt} : PSs X b (fun _ _ _ => False) := ⟨fun _ _ _ _ _ _ h => h.elim⟩
def rCountB (K : PySem.W.Frag) : V → List V → Hp → VK → Prop := fun x xs H Q => ∃ (p : Addr) (bs : List Bool) (b : Bool), x = .ref p ∧ xs = [.bl b] ∧ SqL K H p (bs.map V.bl) ∧ Q (.int (bs.count b : Nat)) H
def rIndexB (K : PySem.W.Frag) : V → List V → Hp → VK → Prop := fun x xs H Q => ∃ (p : Addr) (bs : List Bool) (b : Bool) (j : Nat), x = .ref p ∧ xs = [.bl b] ∧ SqL K H p (bs.map V.bl) ∧ bs[j]? = some b ∧ (∀ m, m < j → bs[m]? = some (!b)) ∧ Q (.int (j : Nat)) H
theorem bools_dp {K : PySem.W.Frag} {H : Hp} : ∀ bs : List Bool, DpAll K H (bs.map V.bl) (bs.map PyData.bool)
  | [] => .nil
  | b :: r => .cons (.bl b) (bools_dp r)
theorem bools_plain : ∀ bs : List Bool, PyData.plainAll (bs.map PyData.bool) = true
  | [] => by simp [PyData.plainAll]
  | b :: r => by simp [PyData.plainAll, PyData.plain, bools_plain r]
theorem eqv_bools (a b : Bool) : PyData.eqv (.bool a) (.bool b) = (a == b) := by cases a <;> cases b <;> rfl
theorem bools_count (b : Bool) : ∀ bs : List Bool, (bs.map PyData.bool).countP (fun y => PyData.eqv y (.bool b)) = bs.count b
  | [] => rfl
  | a :: r => by
    rw [List.map_cons, List.countP_cons, bools_count b r, eqv_bools, List.count_cons]
section
variable {X : Cx}
theorem mt_countB (hu : X.A.units + 64 < cLine) : MtR X "list.count" (rCountB X.K) := by
  intro pins s σ H x xs v us Q I rx rxs h
  obtain ⟨p, bs, b, rfl, rfl, hs, q⟩ := h
  cases rx
  obtain ⟨u, rfl, ru⟩ := rxs.one
  obtain ⟨as1, r1⟩ := Dp.reads I (.bool b) (.bl b) u (.bl b) ru
  obtain ⟨its, rv, ⟨⟨cls, dd, data, sl⟩, n, ho, hc, hdn, hd⟩, hlen⟩ := I.list hs
  simp only at hc hd
  subst hc hd
  obtain ⟨as, r2⟩ := Dp.readsAll I (bs.map PyData.bool) (bs.map V.bl) its (bools_dp bs) rv
  refine PySem.SeqAt.count_list_data (vs := its.toArray) ⟨_, ho, rfl, n, rfl⟩ (show ReadsAll s.heap its.toArray.toList _ as from r2) r1 (bools_plain bs) rfl ?_ ?_
  · have : min (PyData.depthAll (bs.map PyData.bool)) (PyData.bool b).depth ≤ (PyData.bool b).depth := Nat.min_le_right _ _
    have : (PyData.bool b).depth ≤ 1 := by simp [PyData.depth]
    omega
  · rw [bools_count]
    exact ⟨.int (bs.count b : Nat), H, I.tok _, ⟨_, rfl⟩, q⟩
theorem mt_indexB (hu : X.A.units + 65 < cLine) : MtR X "list.index" (rIndexB X.K) := by
  intro pins s σ H x xs v us Q I rx rxs h
  obtain ⟨p, bs, b, j, rfl, rfl, hs, hj, hno, q⟩ := h
  refine mt_indexD hu pins s σ H _ _ v us Q I rx rxs ⟨p, .bl b, .bool b, bs.map PyData.bool, j, .bool b, rfl, rfl, .lst hs (bools_dp bs), .bl b, ?_, rfl, by rw [List.getElem?_map, hj]; rfl, by rw [eqv_bools]; simp, fun m z' hm hz => ?_, q⟩
  · have lay : ∀ l : List Bool, PyData.canLayAll0 (l.map PyData.bool) = true := fun l => by
      induction l with
      | nil => simp [PyData.canLayAll0]
      | cons a r ih => simp [PyData.canLayAll0, PyData.canLay0, ih]
    have dep : ∀ l : List Bool, PyData.depthAll (l.map PyData.bool) ≤ 1 := fun l => by
      induction l with
      | nil => simp [PyData.depthAll]
      | cons a r ih => simp [PyData.depthAll, PyData.depth]; omega
    have := dep bs
    show ((PyData.list (bs.map PyData.bool)).canLay0 && decide ((PyData.list (bs.map PyData.bool)).depth ≤ 64)) = true
    simp [PyData.canLay0, PyData.depth, lay bs]
    omega
  · rw [List.getElem?_map, hno m hm] at hz
    cases hz
    rw [eqv_bools]
    cases b <;> rfl
theorem pe_callG0 {X : Cx} {CX : CXT} {k : Nat} {f : Addr} {fd : FuncData} {ps : List Str} {sp : Sp} {ds : List Value} {dvs : List V} {E : XK} {x : Str} {p pos : Pos} (F : FnG X.prog X.w X.K X.mg X.base CX k f fd ps sp) (hr : Room k X.A) (hu : X.A.guards = some []) (hg : Gl X x) (hm : X.mg x = some (.ref f)) (hk : PySem.W.keepIn X.K (.ref f) = true)
    (hb : Binds X.K fd ps ds) (hd : Vals dvs ds) (hx : Passes CX X E) (hdb : (x == ("__debug__" : Str)) = false := by decide) : PE X (.Call (.Name x p) [] [] pos) (tCall sp dvs E tNil) :=
  ⟨fun pins s σ H Q I h => wpAny_Call_Name_kw (ld_glob I hg hm (PySem.W.callWith_K0 I.kIn hk (run_G (us := []) F hr hu hb hd hx I .nil h)) hdb)⟩
end
end Mo

/-! ### own error classes over any of Python's errors -/
namespace Mo
open PySem PySem.Spec PyProof.Rows L2
open Builtin Builtin.ObjectAttr in
section
variable {prog : Program} {w : World} {A : Around} {E : Value → Shared → Prop} {R : Result → Shared → Prop} {hp : Heap} {g : Array GenState} {d : Drawn} {t : Nat} {os : OsState}
/-- the first field of such an error -/
theorem osaG {K : PySem.W.Frag} {nm : Str} {tk : Tok} {v : Value} {x C : Addr} {fv : Array Value} {cd : ClassData} {bmB : List Value} (X : K.In hp) (hx : hp.get? x = some { cls := .ref C, data := .fields fv }) (hcd : PySem.W.clsIn K C = some cd)
    (hm : PySem.W.excTail bmB cd.mro = true) (hne : bmB ≠ []) (hob : bmB.contains (.type "object") = true) (hps : ∀ self, refuseLoop self "__setattr__" bmB = pure ()) (hh : cd.hasDict = true) (ha : PySem.W.findIn K (.ref C) nm = some none)
    (hq : ∀ h' tk' dx, (∀ b o, b ≠ x → hp.get? b = some o → h'.get? b = some o) → hp.objs.size ≤ dx → dx ≠ x → h'.get? x = some { cls := .ref C, dict := some dx, data := .fields fv } → h'.Ns1 dx (fun y => if y = nm then some v else none) → R (.ok (.ret .none)) ⟨h', g, d, tk', os⟩) :
    codeAny (model prog w) A (.call (.builtin "object.__setattr__") ⟨[.ref x, .str nm tk, v], []⟩) R ⟨hp, g, d, t, os⟩ := by
  have J : PySem.W.InstAt hp x { cls := .ref C, data := .fields fv } C none := ⟨hx, rfl, rfl, trivial⟩
  have SO := PySem.F.store_object
  have e1 : cd.mro.isEmpty = false := by
    cases q : cd.mro with
    | nil =>
      rw [q] at hm
      exact absurd (beq_iff_eq.mp hm).symm hne
    | cons _ _ => rfl
  have e2 : cd.mro.contains (.type "object") = true := (PySem.W.excTail_contains "object" _ hm).trans hob
  have n1 : x ≠ hp.objs.size := Nat.ne_of_lt (Heap.lt_size hx)
  have su : PySem.W.Looks (model prog w) hp (isInstance (.ref x) (.type "object")) true := J.type.andThen (PySem.W.looks_mroIn X (by unfold PySem.W.mroIn; rw [hcd, Option.bind_some, if_neg (by rw [e1]; decide), e2]))
  refine codeAny_call_builtin SO.slot.plain SO.entry (@PySem.W.check_slot (model prog w) _ _ ⟨hp, g, d, t, os⟩ "object.__setattr__" "object" "__setattr__" (.ref x) [.str nm tk, v] [] _ SO.kind SO.split su (SO.args (.ref x) (.str nm tk) v) ?_)
  have l1 : PySem.W.Looks (model prog w) hp (mroOf (.ref C)) cd.mro := (PySem.W.looks_clsIn X hcd).andThen .now
  have l2 : PySem.W.Looks (model prog w) hp (storeTaker? none) none := .now
  have l3 : PySem.W.Looks (model prog w) hp (classData C) cd := PySem.W.looks_clsIn X hcd
  rw [PySem.W.osa_eq, refuse_eq]
  refine wpAny_bind (wpAny_bind (J.type.at (wpAny_bind (l1.at ?_))))
  rw [PySem.W.excTail_pass _ (hps _) _ hm]
  refine wpAny_pure (wpAny_bind (J.type.at (wpAny_bind ((PySem.W.looks_findIn X ha).at (wpAny_bind (l2.at ?_))))))
  show wpAny _ _ (storeInOwnDict (.ref x) (.ref C) (.str nm tk) nm v false) _ _ _
  obtain ⟨_, _, mro, _, _, hd, _, _, _, _, _⟩ := cd
  obtain rfl : hd = true := hh
  unfold storeInOwnDict ownDictForStores
  repeat (first | with_reducible refine PySem.HandSPX.store_in_new ?_ ?_ | with_reducible refine wpAny_loadPart_at hx ?_ | with_reducible refine l3.at ?_ | wp_step)
  · exact ⟨_, #[], _, (Heap.get?_update_ne _ _ _ _ n1.symm).trans (Heap.get?_push_at rfl rfl), rfl, fun e he => absurd he (by simp), fun _ => rfl⟩
  · intro h2 tk2 hn2 hs2
    have hx1 : (hp.push { cls := .type "dict", data := .dict #[] }).get? x = some { cls := .ref C, data := .fields fv } := Heap.get?_push_of_some _ hx
    exact hq h2 tk2 hp.objs.size (fun b o hb ho => (hs2.2 b (Nat.ne_of_lt (Heap.lt_size ho))).trans ((Heap.get?_update_ne _ _ _ _ hb).trans (Heap.get?_push_of_some _ ho))) (Nat.le_refl _) n1.symm ((hs2.2 x n1).trans (Heap.get?_update_self _ hx1 rfl)) hn2
end
/-- what the written part says of an own error class at C over Python's B -/
structure OvC (K : PySem.W.Frag) (C : Addr) (B newId initId : String) (bmB : List Value) : Prop where
  cls : ∃ nm q N bs bm sn sub ab col dd k0 k1 k2 k3 k5, K.lookup C = some (excClassObj nm q C N bs bm true sn sub ab col dd k0 k1 k2 k3 k5 newId) ∧ PySem.W.excTail bmB bm = true
  bas : ExcBaseFacts B newId initId bmB
  obj : bmB.contains (.type "object") = true
  pas : ∀ self, refuseLoop self "__setattr__" bmB = pure ()
  sa : PySem.W.findIn K (.ref C) "__setattr__" = some (some (.builtin "object.__setattr__"))
  exC : PySem.W.subIn K (.ref C) (.type "BaseException") = some true
  tyC : PySem.W.typeIn K (.ref C) = some (.type "type")
  kC : PySem.W.keepIn K (.ref C) = true
section
variable {X : Cx} {pins : List (Addr × Obj)} {σ : L2.St} {H : Hp} {s : Shared} {a C : Addr} {f : Str} {y : V} {u : Value} {Q : Unit → Shared → Prop} {E : Value → Shared → Prop} {A : Around} {B newId initId : String} {bmB : List Value}
theorem fieldG (T : OvC X.K C B newId initId bmB) (I : Inv X pins σ H s) (e : H a = some (exo a C none)) (hno : PySem.W.findIn X.K (.ref C) f = some none) (ry : RelV y u)
    (h : ∀ dx s', H dx = none → dx ≠ a → Inv X pins σ (upd (upd H dx (exd dx [(f, y)])) a (exo a C (some dx))) s' → Q () s') : wpAny (model X.prog X.w) A (setAttr (.ref a) f u) Q E s := by
  obtain ⟨nm, q, N, bs, bm, sn, sub, ab, col, dd, k0, k1, k2, k3, k5, hC, hbm⟩ := T.cls
  have hcl : ∃ cd, PySem.W.clsIn X.K C = some cd ∧ cd.mro = .ref C :: bm ∧ cd.hasDict = true := by
    refine ⟨⟨nm, bs, .ref C :: bm, N, q, true, sn, sub, ab, col, false⟩, ?_, rfl, rfl⟩
    unfold PySem.W.clsIn
    rw [hC]
  obtain ⟨cd, c1, c2, c3⟩ := hcl
  obtain ⟨t1, ho⟩ := exo_at I.hok e
  obtain ⟨hp, g, dr, tk, os⟩ := s
  refine PySem.W.set_plain I.kIn (ox := { cls := .ref C, dict := none, data := .fields #[.ref t1, .none, .none, .none, .bool false, .none] }) (od := none) ⟨ho, rfl, rfl, trivial⟩ T.sa ?_
  refine osaG I.kIn ho c1 (by rw [c2]; exact hbm) (fun z => ?_) T.obj T.pas c3 hno (fun h2 tk2 dx kp dn ne hx hn => ?_)
  · have z2 := T.obj
    rw [z] at z2
    cases z2
  have free : H dx = none := I.hok.fresh dn
  have old : ∀ {b : Addr} {o : Obj}, hp.get? b = some o → b ≠ dx := fun {b o} q => Nat.ne_of_lt (Nat.lt_of_lt_of_le (Heap.lt_size q) dn)
  have off : ∀ {b : Addr}, H b = none → b ≠ a := fun {b} n z => by
    subst z
    rw [e] at n
    cases n
  have un : Un X.fs [] H (upd (upd H dx (exd dx [(f, y)])) a (exo a C (some dx))) hp h2 := by
    constructor
    · exact fun b o q n _ _ => kp b o (off n) q
    · exact fun b o q n _ _ => ⟨o.slots, kp b o (off n) q⟩
    · exact fun b o q n _ => by
        rw [upd_ne (off n), upd_ne (old q)]
        exact n
    · intro b o q _
      by_cases hb : b = a
      · subst hb
        exact ⟨_, hx⟩
      · exact ⟨o, kp b o hb q⟩
    · exact fun b xs q => by
        rw [upd_ne (at_ne e q exo_tup), upd_ne (ne_of_none q free)]
        exact q
    · exact fun b o v q => by
        rw [upd_ne (at_ne e q exo_frz), upd_ne (ne_of_none q free)]
        exact q
    · exact fun b ps q => ⟨#[], by
        rw [upd_ne (at_ne e q exo_tbl), upd_ne (ne_of_none q free), q]
        simp⟩
  refine h dx _ free ne (I.un (t' := tk2) un fun b o q => ?_)
  by_cases hb : b = a
  · subst hb
    rw [upd_same] at q
    obtain rfl := Option.some.inj q
    exact exo_ok hx
  rw [upd_ne hb] at q
  by_cases hd : b = dx
  · subst hd
    rw [upd_same] at q
    obtain rfl := Option.some.inj q
    exact exd_ok hn (relO_put (fs := []) ry fun _ => True.intro)
  rw [upd_ne hd] at q
  refine (I.hok b o q).stay (fun c v hc z => kp c v ?_ z) (fun c hc => ?_) (fun c xs hc => ?_)
  · rcases hc with rfl | hc
    · exact hb
    · exact at_ne e hc exo_own
  · rw [upd_ne (at_ne e hc exo_own), upd_ne (ne_of_none hc free)]
    exact hc
  · rw [upd_ne (at_ne e hc exo_tup), upd_ne (ne_of_none hc free)]
    exact hc
end
/-- self.f = e, the one field of such an error -/
def tFieldG (K : PySem.W.Frag) (f : Str) (to te : TE) : TS := fun D σ H => te σ H fun y H1 => to σ H1 fun x H2 => ∃ (a C : Addr) (B newId initId : String) (bmB : List Value), x = .ref a ∧ OvC K C B newId initId bmB ∧ PySem.W.findIn K (.ref C) f = some none ∧
  H2 a = some (exo a C none) ∧ ∀ dx, H2 dx = none → dx ≠ a → D.nx σ (upd (upd H2 dx (exd dx [(f, y)])) a (exo a C (some dx)))
section
variable {X : Cx} {o e : Expr} {es : List Expr} {to te : TE} {ta : TA} {f : Str} {p q1 pos : Pos} {B newId initId : String} {bmB : List Value}
theorem ps_fieldG (ho : PE X o to) (he : PE X e te) (hs : swapsWith e (some (.Attribute o f q1)) pos.line X.env = pure false := by rfl) : PS X (.Assign [.Attribute o f q1] e pos) (tFieldG X.K f to te) := by
  refine ⟨fun pins s σ H D I h => ?_⟩
  refine plainObj_wpAny_Assign_Attribute (thn (he.run pins s σ H _ I h) fun v s1 ⟨y, H1, I1, r1, z1⟩ => thn (ho.run pins s1 σ H1 _ I1 z1) fun u s2 ⟨x, H2, I2, r2, a, C, B, newId, initId, bmB, ex, T, hno, ea, z⟩ => ?_) hs
  subst ex
  obtain rfl : u = Value.ref a := r2
  exact fieldG T I2 ea hno r1 fun dx s' n ne J => ⟨σ, _, J, z dx n ne⟩
/-- C(e, ..) where it is raised -/
theorem pmkG {CX : CXT} {x : Str} {C fI : Addr} {k : Nat} {fd : FuncData} {ps : List Str} {sp : Sp} (T : OvC X.K C B newId initId bmB) (iC : PySem.W.findIn X.K (.ref C) "__init__" = some (some (.ref fI))) (tI : PySem.W.typeIn X.K (.ref fI) = some (.type "function"))
    (F1 : FnOk X.prog X.w X.K X.mg X.base CX k fI fd ps sp) (hr : Room (k + 1) X.A) (hb : Binds X.K fd ps []) (hx : Passes CX X (fun _ _ _ => False)) (hg : Gl X x) (hm : X.mg x = some (.ref C)) (ha : PA X (e :: es) ta)
    (hdb : (x == ("__debug__" : Str)) = false := by decide) (he : starEach (e :: es) X.env = (false, eval e X.env) :: starEach es X.env := by rfl) (hpl : (backTo pos (starEach es X.env)).any (·.1) = false := by rfl) :
    PMk X (.Call (.Name x p) (e :: es) [] pos) (tMkO C sp [] ta) := by
  intro pins s σ H Q I h
  obtain ⟨nm, q, N, bs, bm, sn, sub, ab, col, dd, k0, k1, k2, k3, k5, hC, hbm⟩ := T.cls
  refine wpAny_Call_Name_kw (ld_glob I hg hm (PySem.W.callWith_K (h₀ := X.base) I.ok.mod.kin T.kC (thn (ha.run pos pins s σ H _ I h) fun us s1 ⟨vs, H1, I1, r1, hz, z1⟩ => ⟨I1.kIn, ?_⟩) he hpl) hdb)
  show wpAny _ _ (call (.ref C) us) _ _ _
  obtain ⟨hp, g, dr, tk, os⟩ := s1
  have le1 : hp.objs.size ≤ hp.objs.size + 1 := Nat.le_succ _
  have z2 := z1 (hp.objs.size + 1) (I1.hok.fresh le1)
  have keep : ∀ b o, hp.get? b = some o → ((hp.push (PySem.W.kdv_tup us)).push (PySem.HandSPX.excO C hp.objs.size)).get? b = some o := fun b o e => Heap.get?_push_of_some _ (Heap.get?_push_of_some _ e)
  have hget : ((hp.push (PySem.W.kdv_tup us)).push (PySem.HandSPX.excO C hp.objs.size)).get? (hp.objs.size + 1) = some (PySem.HandSPX.excO C hp.objs.size) := by heap_get
  have I2 := I1.laid (t' := tk) (a := hp.objs.size + 1) (o := exo (hp.objs.size + 1) C none) (h' := (hp.push (PySem.W.kdv_tup us)).push (PySem.HandSPX.excO C hp.objs.size)) keep le1 (exo_ok hget)
  rw [List.append_nil] at z2
  have r2 : Vals (V.ref (hp.objs.size + 1) :: vs) (Value.ref (hp.objs.size + 1) :: us) := .cons rfl r1
  have bi := hb ⟨(hp.push (PySem.W.kdv_tup us)).push (PySem.HandSPX.excO C hp.objs.size), g, dr, tk, os⟩ (Value.ref (hp.objs.size + 1) :: us) I2.kIn (by rw [List.append_nil]; exact r2.length.symm.trans (F1.len _ _ _ _ z2))
  rw [List.append_nil] at bi
  have hus : us.length ≤ sizeLine := by
    have := r1.length
    rw [sizeLine_eq]
    omega
  refine wpAny_call (PySem.HandSPX.call_own T.bas (fun Y => PySem.W.excTail_contains Y bm hbm) (I1.kIn _ _ hC) (PySem.W.looks_findIn I1.kIn iC) (fun self => PySem.W.bind_fn I1.kIn self tI) hus (codeAny_mono
    (F1.run _ X.stack _ _ ⟨Value.ref (hp.objs.size + 1) :: us, []⟩ (Value.ref (hp.objs.size + 1) :: us) _ _ (fun _ _ _ => False) (hr.make C us []) (I2.env0.make C us []) bi r2 z2) fun r s2 z3 => ?_))
  match r, z3 with
  | .error er, z3 => exact hx pins σ _ _ er s2 I2 z3
  | .ok (.ret u), z3 =>
    obtain ⟨v, H2, os2, bare2, un2, hok2, rv, ev, dx, fs, ea, ed, hd1, z4⟩ := z3
    subst ev
    obtain ⟨h2, g2, d2, t2, os'⟩ := s2
    exact ⟨rv, mk_end (raises_own T.exC T.tyC) I1 le1 keep un2 hok2 os2 bare2 ea ed hd1 z4⟩
end
/-- such a class with one field f, its __init__ at fI -/
structure ErrG (K : PySem.W.Frag) (C fI : Addr) (f : Str) (B newId initId : String) (bmB : List Value) : Prop where
  ov : OvC K C B newId initId bmB
  xf : XfC K C
  exc : ExcC K C
  no : PySem.W.findIn K (.ref C) f = some none
  te : PySem.W.exmOne K (.ref C) (.ref C) = some true
  iC : PySem.W.findIn K (.ref C) "__init__" = some (some (.ref fI))
  tI : PySem.W.typeIn K (.ref fI) = some (.type "function")
end Mo

/-! ### several 'except x as n: ..', each with its own suite -/
namespace Mo
open PySem PySem.Spec PyProof.Rows L2
/-- a clause: the class, the slot of its name, what its suite does -/
abbrev Cls3 := Value × Nat × (Addr → Value → Option Addr → TS)
/-- what the clauses wish of an error of the body, one after the other -/
def wEach (K : PySem.W.Frag) (Wout : WX) (D : Ends) : List Cls3 → WX
  | [] => Wout
  | (c, i, ts) :: r => fun cls d σ H => ∃ b, PySem.W.exmOne K cls c = some b ∧
      (b = true → ∀ a, H a = none → ts a cls d { nx := fun σ' H' => D.nx (σ'.set i none) H', rt := D.rt, bk := fun σ' H' => D.bk (σ'.set i none) H', ct := fun σ' H' => D.ct (σ'.set i none) H' } (σ.set i (some (.ref a))) H) ∧ (b = false → wEach K Wout D r cls d σ H)
inductive HdsAs (X : Cx) : List ExceptHandler → List Cls3 → Prop
  | nil : HdsAs X [] []
  | cons {x n : Str} {c : Value} {i : Nat} {ts : Addr → Value → Option Addr → TS} {b₀ : Stmt} {rest : List Stmt} {np ep : Pos} {hds : List ExceptHandler} {l : List Cls3} (hc : Names X x c) (hi : X.N[i]? = some n) (hln : X.env.kindOf n = some .local)
      (hsu : ∀ (a : Addr) (oe : Obj) (cls : Value) (d : Option Addr) (pn : List (Addr × Obj)), Zc cls d oe → (∃ vs, oe.data = .fields vs) → PSs (X.suite a ((a, oe) :: pn)) (b₀ :: rest) (ts a cls d)) (r : HdsAs X hds l) : HdsAs X (.ExceptHandler (some (.Name x np)) (some n) (b₀ :: rest) ep :: hds) ((c, i, ts) :: l)
section
variable {X : Cx} {body : List Stmt} {h₀ : ExceptHandler} {hds : List ExceptHandler} {l : List Cls3} {pos : Pos} {tb : WX → TS} {Wout : WX}
theorem ps_try_each (hs : X.stack = X.env :: X.outer) (hf : X.env.frame = some X.env.locals) (hN : X.N.Nodup) (tk : Takes X Wout)
    (hb : ∀ (W : WX) (pn : List (Addr × Obj)) (xe : Value → Shared → Prop), Takes (X.tr pn xe) W → PassesOwn (model X.prog X.w) X.A X.env xe → PSs (X.tr pn xe) body (tb W)) (hh : HdsAs X (h₀ :: hds) l) :
    PS X (.Try body (h₀ :: hds) [] [] pos) (fun D σ H => tb (wEach X.K Wout D l) D σ H) := by
  refine ⟨fun pins s σ H D I h => ?_⟩
  have ok := I.ok
  have hfr : X.A.frames = some (X.env :: X.outer) := ok.frames.trans (by rw [hs])
  refine wpAny_Try_except (wpAny_mono ((hb (wEach X.K Wout D l) (X.pn ++ pins) (fun e s₁ => wpAny (model X.prog X.w) X.A (noteFrame e X.env) (fun _ s₂ => wpAny (model X.prog X.w) X.A (setFlight e none) (fun _ s₃ => wpAny (model X.prog X.w) X.A (handleBy e X.env (h₀ :: hds)) (SP X pins D) X.xe s₃) X.xe s₂) X.xe s₁)
    (fun u s' xx => ?_) PassesOwn.looking).run [] s σ H D (I.toTry _) h) (fun f s1 hsp => ?_) (fun e s1 he => he))
  · obtain ⟨a, B, sI, pins', σ', H', cls, d, rfl, J', nb, up, sky, na, os, ag, w⟩ := xx
    have J : Inv X pins σ' H' sI := J'.ofTry ok
    show wpAny (model X.prog X.w) X.A (noteFrame (.ref a) X.env) _ _ _
    refine Sky.land Zc.steady hfr hf (hs ▸ sky) fun h3 fl3 up3 => ?_
    have J3 : Inv X pins σ' H' { s' with heap := h3 } := J.landed nb fl3.1 (up.trans up3) os ag
    obtain ⟨oe3, vs3, he3, hz3, hd3⟩ := fl3.there
    have nfr : a ∉ frs (X.env :: X.outer) := fun hm => by
      obtain ⟨_, o2, e2, hnf⟩ := fl3.2.2.1.mem hm
      rw [he3] at e2
      cases e2
      exact hnf _ hd3
    have nL : a ≠ X.env.locals := fun z => nfr (List.mem_filterMap.mpr ⟨X.env, List.mem_cons_self, hf.trans (congrArg some z.symm)⟩)
    have nF : a ∉ X.fs := fun hm => (List.mem_filterMap.mp hm).elim fun e z => nfr (List.mem_filterMap.mpr ⟨e, List.mem_cons_of_mem _ z.1, z.2⟩)
    have S3 := J3.suite he3 hd3 na nL nF
    have LT : PySem.W.Looks (model X.prog X.w) h3 (typeOf (.ref a)) cls := fun A Q E s k q => wpAny_typeOf_ref (k _ _ he3) (hz3.1 ▸ q)
    have go : ∀ {hs2 : List ExceptHandler} {l2 : List Cls3}, HdsAs X hs2 l2 → wEach X.K Wout D l2 cls d σ' H' → wpAny (model X.prog X.w) X.A (handleBy (.ref a) X.env hs2) (SP X pins D) X.xe { s' with heap := h3 } := by
      intro hs2 l2 hk
      induction hk with
      | nil =>
        intro w
        refine wpAny_handleBy_nil ?_
        obtain ⟨k1, k2, k3, oe, vs, T, oT, t2, he, hz, hd, h1, hr⟩ := id fl3
        unfold PySem.passOn
        refine wpAny_bind (wpAny_field he hd h1 ?_)
        rw [if_neg (show ¬ ((Value.ref T == Value.none) = true) from by simp)]
        have fin : wpAny (model X.prog X.w) X.A (setFlight (.ref a) X.env.frame) (fun _ s4 => wpAny (model X.prog X.w) X.A (throw (.ref a) : Sem Flow) (SP X pins D) X.xe s4) X.xe { s' with heap := h3 } := by
          rw [hf]
          refine HandSPX.setFlight_upZ fl3 fun h4 hh4 up4 => wpAny_throw (tk _ _ ⟨a, B, sI, pins, σ', H', cls, d, rfl, J, nb, (up.trans up3).trans up4, .inr (.inr (hs ▸ hh4)), na, os, ag, w⟩)
        first
          | exact wpAny_bind (wpAny_pure (wpAny_bind fin))
          | exact wpAny_bind fin
      | @cons x n c i ts b₀ rest np ep hds' l' hc hi hln hsu r ih =>
        rintro ⟨b, hb1, hyes, hno⟩
        refine wpAny_handleBy_cons (codeAny_handlers_test ?_) (by intro q; cases q)
        have test : ∀ {Q : Value → Shared → Prop} {E : Value → Shared → Prop}, Q c { s' with heap := h3 } → wpAny (model X.prog X.w) (X.A.mark (some (.ref a))) (eval (.Name x np) X.env) Q E { s' with heap := h3 } := fun {Q E} q => by
          rcases hc with ⟨hg, hdbg, hm | ⟨hm, hv, hnn⟩⟩
          · exact ld_glob (X := X.suite a ((a, oe3) :: (X.pn ++ pins))) S3 hg hm q hdbg
          · exact ld_blt (X := X.suite a ((a, oe3) :: (X.pn ++ pins))) S3 hg hm hv q hnn hdbg
        refine test ((PySem.W.exm_one (M := model X.prog X.w) J3.kIn LT hb1).here ?_)
        cases b with
        | false => exact ih (hno rfl)
        | true =>
          refine codeAny_handlers_suite_as (HandSPX.lands_againZ fl3 fun h4 fl4 up4 => ?_)
          have J4 : Inv X pins σ' H' { s' with heap := h4 } := J.landed nb fl4.1 ((up.trans up3).trans up4) os ag
          obtain ⟨oe4, vs4, he4, hz4, hd4⟩ := fl4.there
          refine store_ok (X := X.suite a ((a, oe4) :: (X.pn ++ pins))) (v := .ref a) (J4.suite he4 hd4 na nL nF) hN hi (.inl hln) rfl (fun s5 S5 => ?_) (.inr hln)
          refine wpAny_mono ((hsu a oe4 cls d (X.pn ++ pins) hz4 ⟨_, hd4⟩).run [] s5 _ H' _ S5 (hyes rfl a na)) (fun f s6 hsp => ?_) (fun _ _ z => False.elim z)
          cases f with
          | next => exact hsp.elim fun σ6 z => z.elim fun H6 z => gone_ok (z.1.unsuite ok) hN hi hln fun s7 J7 => ⟨_, _, J7, z.2⟩
          | brk => exact hsp.elim fun σ6 z => z.elim fun H6 z => gone_ok (z.1.unsuite ok) hN hi hln fun s7 J7 => ⟨_, _, J7, z.2⟩
          | cont => exact hsp.elim fun σ6 z => z.elim fun H6 z => gone_ok (z.1.unsuite ok) hN hi hln fun s7 J7 => ⟨_, _, J7, z.2⟩
          | ret u => exact hsp.elim fun v z => z.elim fun σ6 z => z.elim fun H6 z => gone_ok (z.1.unsuite ok) hN hi hln fun s7 J7 => ⟨v, _, _, J7, z.2.1, z.2.2⟩
    exact go hh w
  · cases f with
    | next => exact hsp.elim fun σ1 z => z.elim fun H1 z => wpAny_execs_nil ⟨σ1, H1, z.1.ofTry ok, z.2⟩
    | brk => exact hsp.elim fun σ1 z => z.elim fun H1 z => ⟨σ1, H1, z.1.ofTry ok, z.2⟩
    | cont => exact hsp.elim fun σ1 z => z.elim fun H1 z => ⟨σ1, H1, z.1.ofTry ok, z.2⟩
    | ret u => exact hsp.elim fun v z => z.elim fun σ1 z => z.elim fun H1 z => ⟨v, σ1, H1, z.1.ofTry ok, z.2⟩
end
/-! isinstance(e, c) in the suite, e an error with its own dict -/
/-- the error at a, its class at C, its dict at dd -/
def rIsS (K : PySem.W.Frag) (a : Addr) (cls : Value) (d : Option Addr) : List V → Hp → VK → Prop := fun xs H Q => ∃ (C dd : Addr) (fs : List (Str × V)) (c : V) (u : Value) (b : Bool), xs = [.ref a, c] ∧ cls = .ref C ∧ d = some dd ∧ H dd = some (.xd fs) ∧ ExcC K C ∧ ClsV c u ∧ PySem.W.kitOne K (.ref C) u = some b ∧ Q (.bl b) H
theorem cr_isS {X : Cx} {a : Addr} {oe : Obj} {cls : Value} {d : Option Addr} {pn : List (Addr × Obj)} (hz : Zc cls d oe) (hf : ∃ vs, oe.data = .fields vs) : CallR (X.suite a ((a, oe) :: pn)) (.builtin "isinstance") (rIsS X.K a cls d) := by
  intro pins s σ H xs us Q I r h
  obtain ⟨C, dd, fs, c, u, b, rfl, rfl, rfl, hd, T, k, e, q⟩ := h
  obtain ⟨u1, u2, rfl, r1, r2⟩ := vals2 r
  cases r1
  obtain rfl := k.eq r2
  obtain ⟨ha, _⟩ := I.pin (a, oe) (List.mem_append_left _ List.mem_cons_self)
  obtain ⟨vs, hv⟩ := hf
  obtain ⟨mA, hns, hr⟩ := (show ObjOk X.prog X.w H s.heap dd (.xd fs) from I.hok dd _ hd)
  obtain ⟨od, ho, hl⟩ := lookIn_ns hns
  exact PySem.W.kia_one (err_kit T) I.kIn ⟨oe, od, ha, hz.1, by unfold PySem.W.notCls; rw [hv] <;> rfl, by rw [hz.2]; exact ho⟩ e (fun z => nomatch z) fun tk => ⟨.bl b, H, I.tok tk, rfl, q⟩
/-- e.f in the suite -/
def tXs (K : PySem.W.Frag) (a : Addr) (cls : Value) (d : Option Addr) (f : Str) (te : TE) : TE := fun σ H Q => te σ H fun x H1 => ∃ (C dd : Addr) (fs : List (Str × V)) (v : V), x = .ref a ∧ cls = .ref C ∧ d = some dd ∧ H1 dd = some (.xd fs) ∧ XfC K C ∧ PySem.W.findIn K (.ref C) f = some none ∧ fs.lookup f = some v ∧ Q v H1
theorem pe_xs {X : Cx} {a : Addr} {oe : Obj} {cls : Value} {d : Option Addr} {pn : List (Addr × Obj)} {e : Expr} {te : TE} {pos : Pos} {f : Str} (hz : Zc cls d oe) (hf : ∃ vs, oe.data = .fields vs) (he : PE (X.suite a ((a, oe) :: pn)) e te)
    (hb : attributeBase e f X.env (eval e X.env) = eval e X.env := by rfl) : PE (X.suite a ((a, oe) :: pn)) (.Attribute e f pos) (tXs X.K a cls d f te) := by
  refine ⟨fun pins s σ H Q I h => attr_of hb (thn (he.run pins s σ H _ I h) fun u s1 hh => ?_)⟩
  obtain ⟨x, H1, I1, rx, C, dd, fs, v, rfl, rfl, rfl, ea, T, hno, l, q⟩ := hh
  obtain rfl : u = Value.ref a := rx
  obtain ⟨ha, _⟩ := I1.pin (a, oe) (List.mem_append_left _ List.mem_cons_self)
  obtain ⟨vs, hv⟩ := hf
  obtain ⟨mA, hns, hr⟩ := (show ObjOk X.prog X.w H1 s1.heap dd (.xd fs) from I1.hok dd _ ea)
  obtain ⟨od, ho, hl⟩ := lookIn_ns hns
  obtain ⟨u, hu, ru⟩ := RelO.some_of (v := v) (o := mA f) (l ▸ hr f)
  exact HandSPX.exc_get I1.kIn ⟨ha, hz.1, by unfold PySem.W.notCls; rw [hv] <;> rfl, by rw [hz.2]; exact ho⟩ T.ga T.gg T.exC (PySem.W.findObj_own T.hdC hno rfl (by rw [hl, hu])) (handed_of ru) ⟨v, H1, I1.tok _, ru, q⟩
end Mo

/-! ### own errors with two fields; isinstance with several classes in a suite -/
namespace Mo
open PySem PySem.Spec PyProof.Rows L2
open Builtin Builtin.ObjectAttr in
section
variable {prog : Program} {w : World} {A : Around} {E : Value → Shared → Prop} {R : Result → Shared → Prop} {hp : Heap} {g : Array GenState} {d : Drawn} {t : Nat} {os : OsState}
/-- a further field of such an error -/
theorem osaG2 {K : PySem.W.Frag} {nm : Str} {tk : Tok} {v : Value} {x C dx : Addr} {fv : Array Value} {cd : ClassData} {bmB : List Value} {m0 : Str → Option Value} {nl : List Str} (X : K.In hp) (hx : hp.get? x = some { cls := .ref C, dict := some dx, data := .fields fv })
    (hns : hp.Ns1 dx m0) (hw : Within m0 nl) (hz : nl.length ≤ 1000) (hcd : PySem.W.clsIn K C = some cd)
    (hm : PySem.W.excTail bmB cd.mro = true) (hne : bmB ≠ []) (hob : bmB.contains (.type "object") = true) (hps : ∀ self, refuseLoop self "__setattr__" bmB = pure ()) (hh : cd.hasDict = true) (ha : PySem.W.findIn K (.ref C) nm = some none)
    (hq : ∀ h' tk', (∀ b o, b ≠ dx → hp.get? b = some o → h'.get? b = some o) → h'.Ns1 dx (fun y => if y = nm then some v else m0 y) → R (.ok (.ret .none)) ⟨h', g, d, tk', os⟩) :
    codeAny (model prog w) A (.call (.builtin "object.__setattr__") ⟨[.ref x, .str nm tk, v], []⟩) R ⟨hp, g, d, t, os⟩ := by
  obtain ⟨oD, _, _, hoD, _, _⟩ := hns.count hw
  have J : PySem.W.InstAt hp x { cls := .ref C, dict := some dx, data := .fields fv } C (some oD) := ⟨hx, rfl, rfl, hoD⟩
  have SO := PySem.F.store_object
  have e1 : cd.mro.isEmpty = false := by
    cases q : cd.mro with
    | nil =>
      rw [q] at hm
      exact absurd (beq_iff_eq.mp hm).symm hne
    | cons _ _ => rfl
  have e2 : cd.mro.contains (.type "object") = true := (PySem.W.excTail_contains "object" _ hm).trans hob
  have su : PySem.W.Looks (model prog w) hp (isInstance (.ref x) (.type "object")) true := J.type.andThen (PySem.W.looks_mroIn X (by unfold PySem.W.mroIn; rw [hcd, Option.bind_some, if_neg (by rw [e1]; decide), e2]))
  refine codeAny_call_builtin SO.slot.plain SO.entry (@PySem.W.check_slot (model prog w) _ _ ⟨hp, g, d, t, os⟩ "object.__setattr__" "object" "__setattr__" (.ref x) [.str nm tk, v] [] _ SO.kind SO.split su (SO.args (.ref x) (.str nm tk) v) ?_)
  have l1 : PySem.W.Looks (model prog w) hp (mroOf (.ref C)) cd.mro := (PySem.W.looks_clsIn X hcd).andThen .now
  have l2 : PySem.W.Looks (model prog w) hp (storeTaker? none) none := .now
  have l3 : PySem.W.Looks (model prog w) hp (classData C) cd := PySem.W.looks_clsIn X hcd
  rw [PySem.W.osa_eq, refuse_eq]
  refine wpAny_bind (wpAny_bind (J.type.at (wpAny_bind (l1.at ?_))))
  rw [PySem.W.excTail_pass _ (hps _) _ hm]
  refine wpAny_pure (wpAny_bind (J.type.at (wpAny_bind ((PySem.W.looks_findIn X ha).at (wpAny_bind (l2.at ?_))))))
  show wpAny _ _ (storeInOwnDict (.ref x) (.ref C) (.str nm tk) nm v false) _ _ _
  obtain ⟨_, _, mro, _, _, hd, _, _, _, _, _⟩ := cd
  obtain rfl : hd = true := hh
  unfold storeInOwnDict ownDictForStores
  repeat (first | with_reducible refine PySem.OEX.store_in_old hns hw hz ?_ | with_reducible refine wpAny_loadPart_at hx ?_ | with_reducible refine l3.at ?_ | wp_step)
  intro h2 tk2 hn2 hs2
  exact hq h2 tk2 (fun b o hb ho => (hs2.2 b hb).trans ho) hn2
end
section
variable {X : Cx} {pins : List (Addr × Obj)} {σ : L2.St} {H : Hp} {s : Shared} {a C dx : Addr} {f : Str} {y : V} {u : Value} {fs : List (Str × V)} {Q : Unit → Shared → Prop} {E : Value → Shared → Prop} {A : Around} {B newId initId : String} {bmB : List Value}
theorem fieldG2 (T : OvC X.K C B newId initId bmB) (I : Inv X pins σ H s) (e : H a = some (exo a C (some dx))) (ed : H dx = some (exd dx fs)) (hl : fs.length ≤ 900) (hno : PySem.W.findIn X.K (.ref C) f = some none) (ry : RelV y u)
    (h : ∀ s', Inv X pins σ (upd H dx (exd dx ((f, y) :: fs))) s' → Q () s') : wpAny (model X.prog X.w) A (setAttr (.ref a) f u) Q E s := by
  obtain ⟨nm, q, N, bs, bm, sn, sub, ab, col, dd, k0, k1, k2, k3, k5, hC, hbm⟩ := T.cls
  have hcl : ∃ cd, PySem.W.clsIn X.K C = some cd ∧ cd.mro = .ref C :: bm ∧ cd.hasDict = true := by
    refine ⟨⟨nm, bs, .ref C :: bm, N, q, true, sn, sub, ab, col, false⟩, ?_, rfl, rfl⟩
    unfold PySem.W.clsIn
    rw [hC]
  obtain ⟨cd, c1, c2, c3⟩ := hcl
  obtain ⟨t1, ho⟩ := exo_at I.hok e
  obtain ⟨mA, hns, rel⟩ := exd_at I.hok ed
  have hw := within_of rel
  obtain ⟨hp, g, dr, tk, os⟩ := s
  obtain ⟨oD, _, _, hoD, _, _⟩ := hns.count hw
  refine PySem.W.set_plain I.kIn (ox := { cls := .ref C, dict := some dx, data := .fields #[.ref t1, .none, .none, .none, .bool false, .none] }) (od := some oD) ⟨ho, rfl, rfl, hoD⟩ T.sa ?_
  refine osaG2 I.kIn ho hns hw (by rw [List.length_map]; omega) c1 (by rw [c2]; exact hbm) (fun z => ?_) T.obj T.pas c3 hno (fun h2 tk2 kp hn => ?_)
  · have z2 := T.obj
    rw [z] at z2
    cases z2
  have there : ∃ o, h2.get? dx = some o := hn.elim fun o z => z.elim fun _ z => z.elim fun _ z => ⟨o, z.1⟩
  exact h _ (I.write (t' := tk2) (x := dx) (e := dx) (o := exd dx ((f, y) :: fs)) (by rw [ed]; exact True.intro) (.inl rfl) kp there (exd_ok hn (relO_put ry rel)))
end
/-- self.f = e, a further field of such an error -/
def tFieldG2 (K : PySem.W.Frag) (f : Str) (to te : TE) : TS := fun D σ H => te σ H fun y H1 => to σ H1 fun x H2 => ∃ (a C dx : Addr) (fs : List (Str × V)) (B newId initId : String) (bmB : List Value), x = .ref a ∧ OvC K C B newId initId bmB ∧ PySem.W.findIn K (.ref C) f = some none ∧
  H2 a = some (exo a C (some dx)) ∧ H2 dx = some (exd dx fs) ∧ fs.length ≤ 900 ∧ D.nx σ (upd H2 dx (exd dx ((f, y) :: fs)))
section
variable {X : Cx} {o e : Expr} {to te : TE} {f : Str} {q1 pos : Pos}
theorem ps_fieldG2 (ho : PE X o to) (he : PE X e te) (hs : swapsWith e (some (.Attribute o f q1)) pos.line X.env = pure false := by rfl) : PS X (.Assign [.Attribute o f q1] e pos) (tFieldG2 X.K f to te) := by
  refine ⟨fun pins s σ H D I h => ?_⟩
  refine plainObj_wpAny_Assign_Attribute (thn (he.run pins s σ H _ I h) fun v s1 ⟨y, H1, I1, r1, z1⟩ => thn (ho.run pins s1 σ H1 _ I1 z1) fun u s2 ⟨x, H2, I2, r2, a, C, dx, fs, B, newId, initId, bmB, ex, T, hno, ea, ed, hl, z⟩ => ?_) hs
  subst ex
  obtain rfl : u = Value.ref a := r2
  exact fieldG2 T I2 ea ed hl hno r1 fun s' J => ⟨σ, _, J, z⟩
end
/-- __init__ of such an error: self.f = y; self.g = z -/
def spInit2 (C : Addr) (f g : Str) : Sp := fun vs H Q _ => ∃ (a : Addr) (y z : V), vs = [.ref a, y, z] ∧ H a = some (exo a C none) ∧ ∀ dx, H dx = none → dx ≠ a → Q .non (upd (upd (upd H dx (exd dx [(f, y)])) a (exo a C (some dx))) dx (exd dx [(g, z), (f, y)]))
/-- raising it: what is left to be shown -/
theorem err_read2 {C : Addr} {f g : Str} {H : Hp} {v u : V} {Q : XK} (h : ∀ d H', H d = none → Same H H' → H' d = some (.xd [(g, u), (f, v)]) → Q (.ref C) (some d) H') :
    [v, u].length ≤ 1000 ∧ ∀ a, H a = none → spInit2 C f g (.ref a :: ([v, u] ++ [])) (upd H a (exo a C none)) (fun x H2 => x = .non ∧ ∃ (d : Addr) (fs : List (Str × V)), H2 a = some (exo a C (some d)) ∧ H2 d = some (exd d fs) ∧ H d = none ∧ Q (.ref C) (some d) (upd (del H2 a) d (.xd fs))) (fun _ _ _ => False) := by
  refine ⟨by show 2 ≤ 1000; decide, fun a na => ⟨a, v, u, rfl, upd_same, fun dx nd ne => ⟨rfl, dx, [(g, u), (f, v)], by rw [upd_ne (Ne.symm ne), upd_same], upd_same, ?_, ?_⟩⟩⟩
  · rw [upd_ne ne] at nd
    exact nd
  · have nd' : H dx = none := by rw [upd_ne ne] at nd; exact nd
    refine h dx _ nd' (fun b o e => ?_) upd_same
    have nb : b ≠ dx := ne_of_none e nd'
    have nba : b ≠ a := ne_of_none e na
    rw [upd_ne nb, del_ne nba, upd_ne nb, upd_ne nba, upd_ne nb, upd_ne nba]
    exact e
/-- isinstance(e, (c1, c2, ..)) in the suite -/
def rIsST (K : PySem.W.Frag) (a : Addr) (cls : Value) (d : Option Addr) : List V → Hp → VK → Prop := fun xs H Q => ∃ (C dd tp : Addr) (fs : List (Str × V)) (cs : List V) (us : List Value) (b : Bool), xs = [.ref a, .ref tp] ∧ cls = .ref C ∧ d = some dd ∧ H dd = some (.xd fs) ∧ ExcC K C ∧ H tp = some (.tup cs) ∧ Paired ClsV cs us ∧
  PySem.W.kitAny K (.ref C) us = some b ∧ Q (.bl b) H
theorem cr_isST {X : Cx} {a : Addr} {oe : Obj} {cls : Value} {d : Option Addr} {pn : List (Addr × Obj)} (hz : Zc cls d oe) (hf : ∃ vs, oe.data = .fields vs) : CallR (X.suite a ((a, oe) :: pn)) (.builtin "isinstance") (rIsST X.K a cls d) := by
  intro pins s σ H xs ws Q I r h
  obtain ⟨C, dd, tp, fs, cs, us, b, rfl, rfl, rfl, hd, T, hT, k, e, q⟩ := h
  obtain ⟨u1, u2, rfl, r1, r2⟩ := vals2 r
  cases r1
  cases (show u2 = Value.ref tp from r2)
  obtain ⟨ha, _⟩ := I.pin (a, oe) (List.mem_append_left _ List.mem_cons_self)
  obtain ⟨vs, hv⟩ := hf
  obtain ⟨mA, hns, hr⟩ := (show ObjOk X.prog X.w H s.heap dd (.xd fs) from I.hok dd _ hd)
  obtain ⟨od, ho, hl⟩ := lookIn_ns hns
  obtain ⟨_, its, rv, ⟨oc, od', dt, sl⟩, h1, h2, n, h3⟩ := (show ObjOk X.prog X.w H s.heap tp (.tup cs) from I.hok tp _ hT)
  obtain rfl := ClsV.all k rv
  simp only at h2 h3
  subst h2 h3
  exact PySem.W.kia_tup (err_kit T) I.kIn ⟨oe, od, ha, hz.1, by unfold PySem.W.notCls; rw [hv] <;> rfl, by rw [hz.2]; exact ho⟩ h1 e (fun z => nomatch z) fun tk => ⟨.bl b, H, I.tok tk, rfl, q⟩
end Mo

namespace Mo
open PySem PySem.Spec PyProof.Rows L2
/-- how often 2 divides n (0 for 0) -/
def tz (n : Nat) : Nat := if h : n = 0 then 0 else if n % 2 = 0 then tz (n / 2) + 1 else 0
termination_by n
decreasing_by omega
theorem tz_odd {n : Nat} (h : n % 2 = 1) : tz n = 0 := by
  rw [tz]
  have : n ≠ 0 := by omega
  rw [dif_neg this, if_neg (by omega)]
theorem tz_half {n : Nat} (h0 : 0 < n) (h : n % 2 = 0) : tz n = tz (n / 2) + 1 := by
  rw [tz]
  rw [dif_neg (by omega), if_pos h]
theorem tz_two {n : Nat} (h0 : 0 < n) : tz (2 * n) = tz n + 1 := by
  rw [tz_half (by omega) (by omega)]
  congr 2
  omega
theorem tz_pow : ∀ p : Nat, tz (2 ^ p) = p
  | 0 => tz_odd rfl
  | p + 1 => by
    rw [Nat.pow_succ, Nat.mul_comm, tz_two (Nat.pow_pos (by decide)), tz_pow p]
theorem tz_mirror : ∀ (p a : Nat), 0 < a → a < 2 ^ p → tz (2 ^ p - a) = tz a
  | 0, a, h0, h1 => by omega
  | p + 1, a, h0, h1 => by
    rw [Nat.pow_succ] at h1 ⊢
    rcases Nat.mod_two_eq_zero_or_one a with e | e
    · obtain ⟨b, rfl⟩ : ∃ b, a = 2 * b := ⟨a / 2, by omega⟩
      rw [show 2 ^ p * 2 - 2 * b = 2 * (2 ^ p - b) by omega, tz_two (by omega), tz_two (by omega), tz_mirror p b (by omega) (by omega)]
    · rw [tz_odd e, tz_odd (by omega)]
theorem tz_le (n : Nat) : tz n ≤ n := by
  induction n using Nat.strongRecOn with
  | ind n ih =>
    rcases Nat.eq_zero_or_pos n with e | e
    · subst e
      rw [tz]
      simp
    · rcases Nat.mod_two_eq_zero_or_one n with e2 | e2
      · have := ih (n / 2) (by omega)
        rw [tz_half e e2]
        omega
      · rw [tz_odd e2]
        omega
theorem log64 {n : Nat} (h : n < 2 ^ 64) : n.log2 < 1920 := by
  rcases Nat.eq_zero_or_pos n with e | e
  · subst e
    decide
  · have := (Nat.log2_lt (k := 64) (by omega)).mpr h
    omega
end Mo

namespace Mo
open PySem PySem.Spec PyProof.Rows L2
/-- the universal texts -/
def uni : Nat → List Int
  | 0 => []
  | n + 1 => uni n ++ [(n : Int)] ++ uni n
theorem uni_len : ∀ n : Nat, (uni n).length + 1 = 2 ^ n
  | 0 => rfl
  | n + 1 => by
    have ih := uni_len n
    rw [uni, Nat.pow_succ, List.length_append, List.length_append, List.length_singleton]
    omega
theorem uni_len12 {n : Nat} (h : n ≤ 12) : (uni n).length ≤ 4095 := by
  have h1 := uni_len n
  have h2 : 2 ^ n ≤ 2 ^ 12 := Nat.pow_le_pow_right (by decide) h
  omega
theorem uni_low : ∀ {n : Nat} {x : Int}, x ∈ uni n → 0 ≤ x ∧ x < n
  | 0, x, h => by cases h
  | n + 1, x, h => by
    rw [uni, List.mem_append, List.mem_append, List.mem_singleton] at h
    rcases h with (h | h) | h
    · have := uni_low h
      omega
    · omega
    · have := uni_low h
      omega
theorem tz_high : ∀ (n a : Nat), 0 < a → a < 2 ^ n → tz (2 ^ n + a) = tz a
  | 0, a, h0, h1 => by omega
  | n + 1, a, h0, h1 => by
    rw [Nat.pow_succ] at h1 ⊢
    rcases Nat.mod_two_eq_zero_or_one a with e | e
    · obtain ⟨b, rfl⟩ : ∃ b, a = 2 * b := ⟨a / 2, by omega⟩
      rw [show 2 ^ n * 2 + 2 * b = 2 * (2 ^ n + b) by omega, tz_two (by omega), tz_two (by omega), tz_high n b (by omega) (by omega)]
    · rw [tz_odd e, tz_odd (by omega)]
theorem uni_at : ∀ (n i : Nat), i + 1 < 2 ^ n → (uni n)[i]? = some ((tz (i + 1) : Nat) : Int)
  | 0, i, h => by omega
  | n + 1, i, h => by
    have hl := uni_len n
    rw [Nat.pow_succ] at h
    rw [uni, List.append_assoc]
    by_cases h1 : i + 1 < 2 ^ n
    · rw [List.getElem?_append_left (by omega), uni_at n i h1]
    · rw [List.getElem?_append_right (by omega)]
      by_cases h2 : i + 1 = 2 ^ n
      · rw [show i - (uni n).length = 0 by omega, h2, tz_pow]
        rfl
      · obtain ⟨j, hj⟩ : ∃ j, i = 2 ^ n + j := ⟨i - 2 ^ n, by omega⟩
        subst hj
        rw [show 2 ^ n + j - (uni n).length = j + 1 by omega, List.singleton_append, List.getElem?_cons_succ, uni_at n j (by omega), Nat.add_assoc, tz_high n (j + 1) (by omega) (by omega)]
end Mo

namespace Mo
/-- b is a border of the first n letters, or 0 -/
def Brd (t : List Int) (n b : Nat) : Prop := b < n ∧ ∀ i, i < b → t[i]? = t[n - b + i]?
instance (t : List Int) (n b : Nat) : Decidable (Brd t n b) := by
  unfold Brd
  exact instDecidableAnd
theorem Brd.zero {t : List Int} {n : Nat} (h : 0 < n) : Brd t n 0 := ⟨h, fun i hi => by omega⟩
theorem Brd.step {t : List Int} {n b : Nat} (h : b < n) : Brd t (n + 1) (b + 1) ↔ Brd t n b ∧ t[b]? = t[n]? := by
  constructor
  · rintro ⟨_, h2⟩
    refine ⟨⟨h, fun i hi => ?_⟩, ?_⟩
    · have := h2 i (by omega)
      rwa [show n + 1 - (b + 1) + i = n - b + i by omega] at this
    · have := h2 b (by omega)
      rwa [show n + 1 - (b + 1) + b = n by omega] at this
  · rintro ⟨⟨_, h2⟩, h3⟩
    refine ⟨by omega, fun i hi => ?_⟩
    by_cases e : i = b
    · subst e
      rwa [show n + 1 - (i + 1) + i = n by omega]
    · rw [h2 i (by omega), show n + 1 - (b + 1) + i = n - b + i by omega]
theorem Brd.inner {t : List Int} {n b c : Nat} (h : Brd t n b) (hc : c < b) : Brd t n c ↔ Brd t b c := by
  obtain ⟨h1, h2⟩ := h
  constructor
  · rintro ⟨_, g⟩
    refine ⟨hc, fun i hi => ?_⟩
    rw [g i hi, h2 (b - c + i) (by omega)]
    congr 1
    omega
  · rintro ⟨_, g⟩
    refine ⟨by omega, fun i hi => ?_⟩
    rw [g i hi, h2 (b - c + i) (by omega)]
    congr 1
    omega
/-- the greatest border up to m, or 0 -/
def top (t : List Int) (n : Nat) : Nat → Nat
  | 0 => 0
  | m + 1 => if Brd t n (m + 1) then m + 1 else top t n m
theorem top_le (t : List Int) (n : Nat) : ∀ m, top t n m ≤ m
  | 0 => Nat.le_refl _
  | m + 1 => by
    have := top_le t n m
    unfold top
    split <;> omega
theorem top_brd {t : List Int} {n : Nat} (h : 0 < n) : ∀ m, Brd t n (top t n m)
  | 0 => Brd.zero h
  | m + 1 => by
    unfold top
    split
    · assumption
    · exact top_brd h m
theorem top_max {t : List Int} {n : Nat} : ∀ {m c : Nat}, c ≤ m → Brd t n c → c ≤ top t n m
  | 0, c, h, _ => by omega
  | m + 1, c, h, b => by
    unfold top
    split
    · exact h
    · rename_i g
      have : c ≠ m + 1 := fun e => g (e ▸ b)
      exact top_max (by omega) b
theorem top_is {t : List Int} {n m c : Nat} (hn : 0 < n) (hc : c ≤ m) (hb : Brd t n c) (hm : ∀ e, e ≤ m → Brd t n e → e ≤ c) : top t n m = c :=
  Nat.le_antisymm (hm _ (top_le t n m) (top_brd hn m)) (top_max hc hb)
/-- the longest border of the first n letters -/
def lng (t : List Int) (n : Nat) : Nat := top t n (n - 1)
theorem lng_lt {t : List Int} {n : Nat} (h : 0 < n) : lng t n < n := by
  have := top_le t n (n - 1)
  unfold lng
  omega
theorem lng_brd {t : List Int} {n : Nat} (h : 0 < n) : Brd t n (lng t n) := top_brd h _
theorem lng_max {t : List Int} {n c : Nat} (h : Brd t n c) : c ≤ lng t n := top_max (by have := h.1; omega) h
theorem lng_one (t : List Int) : lng t 1 = 0 := rfl
theorem lng_zero (t : List Int) : lng t 0 = 0 := rfl
/-- one turn of the way back -/
theorem back_turn {t : List Int} {n b : Nat} (hb : Brd t n b) (h0 : 0 < b) (hne : t[b]? ≠ t[n]?) : top t (n + 1) (b + 1) = top t (n + 1) (lng t b + 1) := by
  have hbn := hb.1
  have hl := lng_lt (t := t) h0
  refine top_is (by omega) ?_ (top_brd (by omega) _) fun e he hE => ?_
  · have := top_le t (n + 1) (lng t b + 1)
    omega
  · cases e with
    | zero => exact Nat.zero_le _
    | succ e =>
      have hE2 := (Brd.step (by have := hE.1; omega)).mp hE
      have : e ≠ b := fun z => hne (z ▸ hE2.2)
      have hin := (Brd.inner hb (by omega)).mp hE2.1
      exact top_max (by have := lng_max hin; omega) hE
theorem back_yes {t : List Int} {n b : Nat} (hb : Brd t n b) (h : t[b]? = t[n]?) : top t (n + 1) (b + 1) = b + 1 := by
  unfold top
  rw [if_pos ((Brd.step hb.1).mpr ⟨hb, h⟩)]
theorem back_no {t : List Int} {n : Nat} (hn : 0 < n) (h : t[0]? ≠ t[n]?) : top t (n + 1) 1 = 0 := by
  unfold top
  rw [if_neg (fun z => h ((Brd.step hn).mp z).2)]
  rfl
theorem lng_step {t : List Int} {n : Nat} (h : 0 < n) : top t (n + 1) (lng t n + 1) = lng t (n + 1) := by
  have hl := lng_lt (t := t) h
  refine top_is (by omega) ?_ (lng_brd (by omega)) fun e he hE => lng_max hE
  cases q : lng t (n + 1) with
  | zero => omega
  | succ c =>
    have hb := lng_brd (t := t) (n := n + 1) (by omega)
    rw [q] at hb
    have := ((Brd.step (by have := hb.1; omega)).mp hb).1
    have := lng_max this
    omega
/-- the longest border of less than half of n -/
def hlf (t : List Int) (n : Nat) : Nat := top t n ((n - 1) / 2)
theorem hlf_brd {t : List Int} {n : Nat} (h : 0 < n) : Brd t n (hlf t n) ∧ 2 * hlf t n < n := by
  have := top_le t n ((n - 1) / 2)
  refine ⟨top_brd h _, ?_⟩
  unfold hlf
  omega
theorem hlf_max {t : List Int} {n c : Nat} (h : Brd t n c) (h2 : 2 * c < n) : c ≤ hlf t n := top_max (by omega) h
theorem hlf_one (t : List Int) : hlf t 1 = 0 := rfl
theorem hlf_zero (t : List Int) : hlf t 0 = 0 := rfl
theorem hlf_lt {t : List Int} {n : Nat} (h : 0 < n) : hlf t n < n := (hlf_brd (t := t) h).1.1
/-- what is behind extended: all half borders are at most it -/
theorem hlf_below {t : List Int} {n : Nat} (h : 0 < n) : hlf t (n + 1) ≤ top t (n + 1) (hlf t n + 1) := by
  have hb := hlf_brd (t := t) (n := n + 1) (by omega)
  cases q : hlf t (n + 1) with
  | zero => omega
  | succ c =>
    rw [q] at hb
    have := ((Brd.step (by have := hb.1.1; omega)).mp hb.1).1
    have := hlf_max this (by omega)
    exact top_max (by omega) hb.1
theorem hlf_back {t : List Int} {n x : Nat} (hx : Brd t n x) (h2 : n ≤ 2 * x) (hle : hlf t n ≤ x) : hlf t n ≤ lng t x := by
  have h0 : 0 < n := by have := hx.1; omega
  have hb := hlf_brd (t := t) h0
  exact lng_max ((Brd.inner hx (by omega)).mp hb.1)
theorem hlf_end {t : List Int} {n x : Nat} (hx : Brd t n x) (h2 : 2 * x < n) (hle : hlf t n ≤ x) : x = hlf t n := Nat.le_antisymm (hlf_max hx h2) hle
/-- the rank of the first k letters -/
def rk (t : List Int) (k : Nat) : Nat := if h : k = 0 then 0 else rk t (hlf t k) + 1
termination_by k
decreasing_by exact hlf_lt (by omega)
theorem rk_zero (t : List Int) : rk t 0 = 0 := by
  rw [rk]
  simp
theorem rk_pos {t : List Int} {k : Nat} (h : 0 < k) : rk t k = rk t (hlf t k) + 1 := by
  rw [rk, dif_neg (by omega)]
theorem rk_mono {t : List Int} : ∀ {b c : Nat}, Brd t b c → rk t c ≤ rk t b := by
  intro b
  induction b using Nat.strongRecOn with
  | ind b ih =>
    intro c h
    have hb : 0 < b := by have := h.1; omega
    rcases Nat.eq_zero_or_pos c with e | hc
    · subst e
      rw [rk_zero]
      exact Nat.zero_le _
    · rw [rk_pos hc, rk_pos hb]
      have he := hlf_brd (t := t) hc
      have hin : Brd t b (hlf t c) := (Brd.inner h (by omega)).mpr he.1
      have hm := hlf_max hin (by have := h.1; omega)
      have hh := hlf_brd (t := t) hb
      rcases Nat.lt_or_ge (hlf t c) (hlf t b) with g | g
      · have := ih (hlf t b) (by omega) ((Brd.inner hh.1 g).mp hin)
        omega
      · rw [show hlf t c = hlf t b by omega]
        exact Nat.le_refl _
/-- the law's way to say it -/
theorem rk_most {t : List Int} {n c : Nat} (h : Brd t n c) (h2 : 2 * c < n) : rk t c + 1 ≤ rk t n := by
  have hn : 0 < n := by omega
  rw [rk_pos hn]
  have hm := hlf_max h h2
  have hh := hlf_brd (t := t) hn
  rcases Nat.lt_or_ge c (hlf t n) with g | g
  · have := rk_mono ((Brd.inner hh.1 g).mp h)
    omega
  · rw [show c = hlf t n by omega]
    exact Nat.le_refl _
/-! only the first letters count -/
theorem Brd.local {t u : List Int} {n b : Nat} (h : ∀ i, i < n → t[i]? = u[i]?) : Brd t n b ↔ Brd u n b := by
  unfold Brd
  constructor
  · rintro ⟨a, g⟩
    exact ⟨a, fun i hi => by rw [← h i (by omega), g i hi, h _ (by omega)]⟩
  · rintro ⟨a, g⟩
    exact ⟨a, fun i hi => by rw [h i (by omega), g i hi, ← h _ (by omega)]⟩
theorem top_local {t u : List Int} {n : Nat} (h : ∀ i, i < n → t[i]? = u[i]?) : ∀ m, top t n m = top u n m
  | 0 => rfl
  | m + 1 => by
    unfold top
    rw [top_local h m]
    by_cases g : Brd t n (m + 1)
    · rw [if_pos g, if_pos ((Brd.local h).mp g)]
    · rw [if_neg g, if_neg (fun z => g ((Brd.local h).mpr z))]
theorem rk_local {t u : List Int} : ∀ {n : Nat}, (∀ i, i < n → t[i]? = u[i]?) → rk t n = rk u n := by
  intro n
  induction n using Nat.strongRecOn with
  | ind n ih =>
    intro h
    rcases Nat.eq_zero_or_pos n with e | hn
    · subst e
      rw [rk_zero, rk_zero]
    · have e : hlf t n = hlf u n := top_local h _
      rw [rk_pos hn, rk_pos hn, e, ih (hlf u n) (hlf_lt hn) fun i hi => h i (by have := hlf_lt (t := u) hn; omega)]
/-- a border, by slices -/
theorem brd_slices {t : List Int} {n b : Nat} (hn : n ≤ t.length) (h : b < n) : Brd t n b ↔ t.take b = (t.drop (n - b)).take b := by
  unfold Brd
  constructor
  · rintro ⟨_, g⟩
    apply List.ext_getElem?
    intro i
    rw [List.getElem?_take, List.getElem?_take, List.getElem?_drop]
    by_cases hi : i < b
    · rw [if_pos hi, if_pos hi, g i hi]
    · rw [if_neg hi, if_neg hi]
  · intro g
    refine ⟨h, fun i hi => ?_⟩
    have := congrArg (fun l : List Int => l[i]?) g
    simp only [List.getElem?_take, List.getElem?_drop, if_pos hi] at this
    exact this
end Mo

namespace Mo
/-- what stands between the two half borders of the first n letters -/
def mid (t : List Int) (n : Nat) : List Int := (t.drop (hlf t n)).take (n - hlf t n - hlf t n)
/-- m + 1 values that make the first n letters -/
def vls (t : List Int) : Nat → Nat → List (List Int)
  | n, 0 => [t.take n]
  | n, m + 1 => vls t (hlf t n) m ++ [mid t n]
theorem vls_len (t : List Int) : ∀ (m n : Nat), (vls t n m).length = m + 1
  | 0, _ => rfl
  | m + 1, n => by
    rw [vls, List.length_append, vls_len t m]
    rfl
theorem fill_app {vv : List (List Int)} {x : List Int} {us : List Int} (h : ∀ u ∈ us, 0 ≤ u ∧ u < (vv.length : Nat)) : (us.flatMap fun u => (vv ++ [x]).getD u.toNat []) = us.flatMap fun u => vv.getD u.toNat [] := by
  induction us with
  | nil => rfl
  | cons u us ih =>
    have hu := h u (List.mem_cons_self ..)
    rw [List.flatMap_cons, List.flatMap_cons, ih fun y hy => h y (List.mem_cons_of_mem _ hy), List.getD_eq_getElem?_getD, List.getD_eq_getElem?_getD, List.getElem?_append_left (by omega)]
theorem halves_make {t : List Int} {n : Nat} (hn : 0 < n) (hl : n ≤ t.length) : t.take (hlf t n) ++ mid t n ++ t.take (hlf t n) = t.take n := by
  have hb := hlf_brd (t := t) hn
  have hs := (brd_slices hl hb.1.1).mp hb.1
  have h2 := hb.2
  unfold mid
  generalize hlf t n = h at *
  have e : t.take n = t.take (h + (n - h - h) + h) := by rw [show h + (n - h - h) + h = n by omega]
  rw [e, List.take_add, List.take_add, show h + (n - h - h) = n - h by omega, ← hs]
theorem vls_make {t : List Int} : ∀ (m n : Nat), n ≤ t.length → m + 1 ≤ rk t n → ((uni (m + 1)).flatMap fun u => (vls t n m).getD u.toNat []) = t.take n
  | 0, n, hl, hr => by
    show ([] ++ [((0 : Nat) : Int)] ++ []).flatMap _ = _
    simp [vls]
  | m + 1, n, hl, hr => by
    have hn : 0 < n := by
      rcases Nat.eq_zero_or_pos n with e | e
      · subst e
        rw [rk_zero] at hr
        omega
      · exact e
    have hh := hlf_lt (t := t) hn
    have hr2 : m + 1 ≤ rk t (hlf t n) := by
      rw [rk_pos hn] at hr
      omega
    have ih := vls_make m (hlf t n) (by omega) hr2
    have low : ∀ u ∈ uni (m + 1), 0 ≤ u ∧ u < ((vls t (hlf t n) m).length : Nat) := fun u hu => by
      have := uni_low hu
      rw [vls_len]
      omega
    rw [uni, vls, List.flatMap_append, List.flatMap_append, fill_app low, ih]
    have e1 : ([((m + 1 : Nat) : Int)].flatMap fun u => (vls t (hlf t n) m ++ [mid t n]).getD u.toNat []) = mid t n := by
      rw [List.flatMap_cons, List.flatMap_nil, List.append_nil, Int.toNat_natCast, List.getD_eq_getElem?_getD, List.getElem?_append_right (by rw [vls_len]; omega), vls_len, Nat.sub_self]
      rfl
    rw [e1, halves_make hn hl]
theorem vls_filled {t : List Int} : ∀ (m n : Nat), n ≤ t.length → m + 1 ≤ rk t n → ∀ v ∈ vls t n m, v ≠ [] ∧ v.length ≤ n ∧ ∀ x ∈ v, x ∈ t
  | 0, n, hl, hr => fun v hv => by
    obtain rfl := List.mem_singleton.mp hv
    have hn : 0 < n := by
      rcases Nat.eq_zero_or_pos n with e | e
      · subst e
        rw [rk_zero] at hr
        omega
      · exact e
    refine ⟨fun z => ?_, by rw [List.length_take]; omega, fun x hx => List.mem_of_mem_take hx⟩
    have := congrArg List.length z
    rw [List.length_take] at this
    have : min n t.length = 0 := this
    omega
  | m + 1, n, hl, hr => fun v hv => by
    have hn : 0 < n := by
      rcases Nat.eq_zero_or_pos n with e | e
      · subst e
        rw [rk_zero] at hr
        omega
      · exact e
    have hh := hlf_brd (t := t) hn
    have hr2 : m + 1 ≤ rk t (hlf t n) := by
      rw [rk_pos hn] at hr
      omega
    rw [vls] at hv
    rcases List.mem_append.mp hv with g | g
    · have := vls_filled m (hlf t n) (by omega) hr2 v g
      exact ⟨this.1, by omega, this.2.2⟩
    · obtain rfl := List.mem_singleton.mp g
      have ml : (mid t n).length = n - hlf t n - hlf t n := by
        unfold mid
        rw [List.length_take, List.length_drop]
        omega
      refine ⟨fun z => ?_, by omega, fun x hx => List.mem_of_mem_drop (List.mem_of_mem_take hx)⟩
      rw [z] at ml
      have : 0 = n - hlf t n - hlf t n := ml
      omega
end Mo

namespace Mo
open PySem PySem.Spec PyProof.Rows L2
section
variable {X : Cx}
/-- x //= y of ints, a divisor that is small -/
theorem ip_fdiv : PIp X .FloorDiv (fun x y H Q => ∃ i j, x = .int i ∧ y = .int j ∧ (j ≠ 0 ∧ j.natAbs < 1073741824) ∧ Q (.int (i.fdiv j)) H) := by
  intro pins s σ H x y v u Q I r1 r2 h
  obtain ⟨i, j, e1, e2, hc, q⟩ := h
  subst e1; subst e2
  obtain ⟨t, rfl⟩ := r1
  obtain ⟨t', rfl⟩ := r2
  exact ifloordiv_int hc.1 ⟨.int _, H, I.tok _, ⟨_, rfl⟩, q⟩ (.inl (PyProof.noPylong_small hc.2))
/-- x += y of texts -/
theorem ip_addS : PIp X .Add (fun x y H Q => ∃ i j, x = .str i ∧ y = .str j ∧ i.length + j.length ≤ sizeLine ∧ Q (.str (i ++ j)) H) :=
  fun pins s σ H x y u v Q I rx ry h => iop_add_str pins s σ H x y u v Q I rx ry h
end
end Mo

namespace Mo
open PySem PySem.Spec PyProof.Rows L2
section
variable {X : Cx}
theorem intsAre_of : ∀ {ns : List Int} {vs : List Value}, Vals (ns.map V.int) vs → IntsAre vs ns
  | [], _, .nil => .nil
  | n :: ns, _, .cons ⟨t, e⟩ h => by
    subst e
    exact .cons n t (intsAre_of h)
/-- t.index(k), a tuple of ints that has it -/
theorem mt_tindexI {K : PySem.W.Frag} (hK : X.K = K) : MtR X "tuple.index" (fun x xs H Q => ∃ p, ∃ ns : List Int, ∃ k : Int, x = .ref p ∧ xs = [.int k] ∧ SqT K H p (ns.map V.int) ∧ k ∈ ns ∧ Q (.int (ns.idxOf k : Nat)) H) := by
  subst hK
  intro pins s σ H x xs v us Q I rx rs h
  obtain ⟨p, ns, k, rfl, rfl, hq, hk, q⟩ := h
  cases rx
  obtain ⟨u, rfl, t, rfl⟩ := vals1 rs
  obtain ⟨its, r, pl, hz⟩ := I.tuple hq
  have k1 : s.heap.IsTuple p its.toArray := pl
  exact PySem.SeqAt.tuple_index_ints k1 (intsAre_of r) hk ⟨.int _, H, I.tok _, ⟨_, rfl⟩, q⟩
/-- a tuple whose object has no dict -/
def Tpl (H : Hp) (p : Addr) (xs : List V) : Prop := ∃ o : Obj, o.dict = none ∧ H p = some (.frz o (.tup xs))
theorem Tpl.sq {K : PySem.W.Frag} {H : Hp} {p : Addr} {xs : List V} (h : Tpl H p xs) : SqT K H p xs := by
  obtain ⟨o, _, e⟩ := h
  exact .inl (.inr ⟨o, e⟩)
theorem Tpl.same {H H' : Hp} {p : Addr} {xs : List V} (h : Tpl H p xs) (s : Same H H') : Tpl H' p xs := by
  obtain ⟨o, d, e⟩ := h
  exact ⟨o, d, s _ _ e⟩
theorem Tpl.ne {H : Hp} {p q : Addr} {xs : List V} {o : HO} (h : Tpl H p xs) (hq : H q = some o) (n : ∀ a b, o ≠ .frz a b) : p ≠ q := by
  obtain ⟨o', d, e⟩ := h
  exact ne_of e hq (fun z => n _ _ z.symm)
/-- tuple(list), the object kept -/
theorem cr_tupF : CallR X (.type "tuple") (fun xs H Q => ∃ p ys, xs = [.ref p] ∧ SqL X.K H p ys ∧ ∀ l H', H l = none → Same H H' → Tpl H' l ys → Q (.ref l) H') := by
  intro pins s σ H xs us Q I r h
  obtain ⟨p, ys, rfl, hq, q⟩ := h
  obtain ⟨u, rfl, rx⟩ := vals1 r
  cases rx
  obtain ⟨its, r', pl, hz⟩ := I.list hq
  have hlen := r'.length
  refine call_tuple_list pl.isList (fun h' kp => ?_) (by simp only [List.size_toArray] <;> omega)
  have I1 : Inv X pins σ H { s with heap := h' } := I.kept (t' := s.toks) kp
  have I2 : Inv X pins σ (upd H h'.objs.size (.frz { cls := .type "tuple", data := .seq its.toArray } (.tup ys))) { s with heap := h'.push { cls := .type "tuple", data := .seq its.toArray } } :=
    I1.laid (t' := s.toks) (fun b o e => Heap.get?_push_of_some _ e) (Nat.le_refl _) (show ObjOk X.prog X.w _ _ _ (.frz _ (.tup ys)) from ⟨Heap.get?_push_size _ rfl, hz, its, r', IsTup.new _ _⟩)
  have nw := I1.hok.fresh (Nat.le_refl _)
  exact ⟨.ref h'.objs.size, _, I2, rfl, q _ _ nw (same_new nw) ⟨_, rfl, upd_same⟩⟩
/-- a tuple's method -/
def tTM (r : V → List V → Hp → VK → Prop) (to : TE) (t : TA) : TE := fun σ H Q => to σ H fun x H1 => (∃ p ys, x = .ref p ∧ Tpl H1 p ys) ∧ t σ H1 fun xs H2 => r x xs H2 Q
theorem pe_tm {id : String} {name : Str} {r : V → List V → Hp → VK → Prop} {o e : Expr} {es : List Expr} {to : TE} {t : TA} {apos cpos : Pos} (slot : Slot "tuple" name id) (hty : typeOf (.builtin id) = pure (.type "method_descriptor")) (hm : MtR X id r) (ho : PE X o to) (ha : PA X (e :: es) t)
    (hbase : attributeBase o name X.env (eval o X.env) = eval o X.env := by rfl)
    (hfew : ((backTo cpos (starEach (e :: es) X.env)).all (fun x => !x.1) && (backToKw cpos (keywordEach [] X.env)).all (fun x => x.1.isSome)
      && decide ((e :: es).length + ([] : List Keyword).length + (if ([] : List Keyword).isEmpty then 0 else 1) < 30)) = true := by rfl)
    (hline : (apos.endLine == cpos.line) = true := by rfl) (hs : starEach (e :: es) X.env = (false, eval e X.env) :: starEach es X.env := by rfl) (hplain : (backTo cpos (starEach es X.env)).any (·.1) = false := by rfl) :
    PE X (.Call (.Attribute o name apos) (e :: es) [] cpos) (tTM r to t) := by
  refine ⟨fun pins s σ H Q I h => ?_⟩
  refine wpAny_Call_method_late hbase hfew hline rfl (thn (ho.run pins s σ H _ I h) fun v s1 ⟨x, H1, I1, r1, ty, q1⟩ => ?_)
  obtain ⟨p, ys, rfl, ob, hob, hp⟩ := ty
  cases r1
  obtain ⟨hg, hz, its, _, o', ho', hc', _⟩ := I1.hok p _ hp
  have eo : ob = o' := Option.some.inj (hg.symm.trans ho')
  subst eo
  refine ⟨"tuple", id, PySem.F.plainAttrs_tuple, slot, hty, ⟨ob, hg, hc'⟩, fun a e => by cases e; exact ⟨ob, hg, hob⟩, ?_⟩
  have hA := ha.run cpos pins s1 σ H1 _ I1 q1
  rw [hs] at hA ⊢
  refine Calls.callWith_builtin (by show (false || (backTo cpos (starEach es X.env)).any (·.1)) = false; rw [hplain] <;> rfl) (Calls.evalArgs_plain ?_)
  exact thn hA fun us s2 ⟨vs, H2, I2, r2, q2⟩ => hm pins s2 σ H2 (.ref p) vs (.ref p) us Q I2 rfl r2 q2
theorem ix_tupK {K : PySem.W.Frag} (h : X.K = K) : IxR X (rIxT K) := by
  subst h
  exact ix_tup
end
end Mo

namespace Mo
open PySem PySem.Spec PyProof.Rows L2
section
variable {X : Cx}
theorem sl_tupAK {K : PySem.W.Frag} (h : X.K = K) : SlR X (rSlA K) := by
  subst h
  exact sl_tupA
theorem op_eqFlK {K : PySem.W.Frag} (h : X.K = K) (hu : X.A.units + 64 < cLine) : OpR X (compareOp .Eq) (rEqFl K) := by
  subst h
  exact op_eqFl hu
theorem op_neFlK {K : PySem.W.Frag} (h : X.K = K) (hu : X.A.units + 64 < cLine) : OpR X (compareOp .NotEq) (rNeFl K) := by
  subst h
  exact op_neFl hu
end
theorem Same.sqT {K : PySem.W.Frag} {H H' : Hp} {p : Addr} {xs : List V} (s : Same H H') (h : SqT K H p xs) : SqT K H' p xs := by
  rcases h with (e | ⟨o, e⟩) | e
  · exact .inl (.inl (s _ _ e))
  · exact .inl (.inr ⟨o, s _ _ e⟩)
  · exact .inr e
theorem But.sqT {K : PySem.W.Frag} {d : Addr} {H H' : Hp} {p : Addr} {xs : List V} (s : But d H H') (n : p ≠ d) (h : SqT K H p xs) : SqT K H' p xs := by
  rcases h with (e | ⟨o, e⟩) | e
  · exact .inl (.inl (s _ _ n e))
  · exact .inl (.inr ⟨o, s _ _ n e⟩)
  · exact .inr e
end Mo

namespace Mo
open PySem PySem.Spec PyProof.Rows L2
theorem call_isiK {X : Cx} {K : PySem.W.Frag} (h : X.K = K) : CallR X (.builtin "isinstance") (rIsi K) := by
  subst h
  exact call_isi
end Mo

namespace Mo
open PySem PySem.Spec PyProof.Rows L2
theorem tuple_mul1 (l : Addr) (items : Array Value) (n : Nat) (dd : Option Addr) (sl : Array (Option Value)) (u : Tok) :
    Meets (Builtin.«tuple.__mul__» ⟨[.ref l, .int 1 u], []⟩) (fun _ R s => s.heap.get? l = some { cls := .type "tuple", dict := dd, data := .seq items n, slots := sl } ∧ R (.ok (.ret (Value.ref l))) s) :=
  .of_wp fun prog w A R s h => by
    obtain ⟨hp, g, d, tk, os⟩ := s
    obtain ⟨hl, h⟩ := h
    have f1 := AutoSeq1.idx_int
    wp_walk using wpAny_loadPart' hl
    exact ⟨_, rfl, h⟩
theorem tuple_mul0 (l : Addr) (items : Array Value) (n : Nat) (dd : Option Addr) (sl : Array (Option Value)) (u : Tok) (hi : items.isEmpty = false) :
    Meets (Builtin.«tuple.__mul__» ⟨[.ref l, .int 0 u], []⟩) (fun _ R s => s.heap.get? l = some { cls := .type "tuple", dict := dd, data := .seq items n, slots := sl } ∧ 
      R (.ok (.ret (Value.ref s.heap.objs.size))) { s with heap := s.heap.push { cls := Value.type "tuple", data := Data.seq #[] }, toks := s.toks }) :=
  .of_wp fun prog w A R s h => by
    obtain ⟨hp, g, d, tk, os⟩ := s
    obtain ⟨hl, h⟩ := h
    have f1 := AutoSeq1.idx_int
    wp_walk using wpAny_loadPart' hl
    exact ⟨_, rfl, h⟩
section
variable {X : Cx}
/-- t * n for any n from 0 on: what comes is new or t itself -/
def rRepA (K : PySem.W.Frag) : R2 := fun x y H Q => ∃ (l : Addr) (n : Nat) (xs : List V), x = .ref l ∧ y = .int n ∧ H l = some (.tup xs) ∧ xs ≠ [] ∧ n ≤ 100000 ∧ xs.length * n ≤ 1000000 ∧ ∀ p H', Same H H' → H' p = some (.tup (List.replicate n xs).flatten) → Q (.ref p) H'
theorem op_repA : OpR X (binaryOp .Mult) (rRepA X.K) := by
  intro pins s σ H x y v u Q I rx ry h
  obtain ⟨l, n, xs, rfl, rfl, hT, hne, h2, hz, q⟩ := h
  by_cases h1 : 2 ≤ n
  · exact op_repG pins s σ H _ _ v u Q I rx ry ⟨l, n, xs, rfl, rfl, SqT.of hT, hne, h1, h2, hz, fun p np => q p _ (same_new np) upd_same⟩
  cases rx
  obtain ⟨t, rfl⟩ := ry
  obtain ⟨its, r, ⟨ob, ho, hc, m, hd⟩, hs⟩ := I.tuple (SqT.of (K := X.K) hT)
  obtain ⟨cls, dd, data, sl⟩ := ob
  obtain rfl : cls = .type "tuple" := hc
  obtain rfl : data = .seq its.toArray m := hd
  have hle := r.length
  have hi : its.toArray.isEmpty = false := by
    cases r with
    | nil => exact absurd rfl hne
    | cons _ _ => rfl
  refine wpAny_binaryOp_repeat_ref (T := "tuple") (U := "int") (by decide) ⟨_, ho, rfl⟩ (fun s' => typeIs_int s' n t) noFill_tuple_mul F.fills_int_mul F.slot_int_rmul repeat_tuple F.slot_int_index.lookup ?_
  refine call_meets F.slot_int_rmul (typeIs_int s n t) F.entry_int_rmul (F.args_int_rmul_2 _ _) (int_rmul_tuple n t l its.toArray m dd sl) ⟨ho, rfl, ⟨_, ho, rfl⟩, ?_⟩
  rcases (show n = 0 ∨ n = 1 by omega) with e | e
  · subst e
    refine call_meets F.slot_tuple_mul ⟨_, ho, rfl⟩ F.entry_tuple_mul (F.args_tuple_mul_2 _ _) (tuple_mul0 l its.toArray m dd sl t hi) ⟨ho, ?_⟩
    exact ⟨.ref s.heap.objs.size, _, I.laid (t' := s.toks) (o := .tup []) (fun b ob q => Heap.get?_push_of_some _ q) (Nat.le_refl _) ⟨Nat.zero_le _, [], .nil, IsTup.new _ _⟩, rfl, q _ _ (same_new (I.hok.fresh (Nat.le_refl _))) upd_same⟩
  · subst e
    refine call_meets F.slot_tuple_mul ⟨_, ho, rfl⟩ F.entry_tuple_mul (F.args_tuple_mul_2 _ _) (tuple_mul1 l its.toArray m dd sl t) ⟨ho, ?_⟩
    exact ⟨.ref l, H, I, rfl, q l H (Same.refl H) (by rw [hT]; simp)⟩
end
end Mo

/-! ### xs[::e], e a step of 1 or -1 -/
namespace Mo
open PySem PySem.Spec PyProof.Rows L2
section
variable {X : Cx}
theorem pick_one (its : List Value) : slicePick its.toArray none none (some 1) = its.toArray := by
  have h : slicePick its.toArray none none (some 1) = slicePick its.toArray none none none := rfl
  rw [h, slicePick_cut, HT.sIx_none, HT.sIx_none, List.drop_zero, Nat.sub_zero, List.take_length]
def tStepL (K : PySem.W.Frag) (te ts : TE) : TE := fun σ H Q => te σ H fun x H1 => tPart ts σ H1 fun o H2 => ∃ a xs, x = .ref a ∧ SqL K H2 a xs ∧ (o = some 1 ∨ o = some (-1)) ∧ ∀ p, H2 p = none → Q (.ref p) (upd H2 p (.lst (if o = some 1 then xs else xs.reverse)))
theorem pe_stepL {e e2 : Expr} {te ts : TE} {p3 pos : Pos} (he : PE X e te) (hs : PE X e2 ts) : PE X (.Subscript e (.Slice none none (some e2) p3) pos) (tStepL X.K te ts) := by
  refine ⟨fun pins s σ H Q I h => Subscript_ (thn (he.run pins s σ H _ I h) fun v s1 ⟨x, H1, I1, r1, q1⟩ => ?_)⟩
  refine wpAny_Slice (thn (po_none.run pins s1 σ H1 (fun o H2 => o = none ∧ H2 = H1) I1 ⟨rfl, rfl⟩) fun vl s2 ⟨l, H2, I2, pl, el, e2'⟩ => ?_)
  subst el e2'
  refine thn (po_none.run pins s2 σ H2 (fun o H3 => o = none ∧ H3 = H2) I2 ⟨rfl, rfl⟩) fun vu s3 ⟨u, H3, I3, pu, eu, e3⟩ => ?_
  subst eu e3
  refine thn ((po_some hs).run pins s3 σ H3 _ I3 q1) fun vs s4 ⟨o, H4, I4, ps, a, xs, ex, hx, ho, q⟩ => ?_
  subst ex
  cases r1
  have I5 : Inv X pins σ H4 { s4 with heap := s4.heap.push { cls := .type "slice", data := .fields #[vl, vu, vs] } } := I4.kept (t' := s4.toks) fun b ob q => Heap.get?_push_of_some _ q
  obtain ⟨its, r, ht, hz⟩ := I5.list hx
  have hlen := r.length
  show wpAny (model X.prog X.w) X.A (subscriptTail e (.Slice none none (some e2) p3) (.ref a) (.ref s4.heap.objs.size)) (EP X pins σ Q) X.xe { s4 with heap := s4.heap.push { cls := .type "slice", data := .fields #[vl, vu, vs] } }
  refine tail_any (ops := [.ref a, .ref s4.heap.objs.size]) ht.isList.typeIs (PySem.slot_list_getitem.lookup) ?_ (by with_unfolding_all rfl)
  have hfr := I5.hok.fresh (Nat.le_refl _)
  rcases ho with rfl | rfl
  · refine wpAny_getItem_list_slice ht.isList (Heap.IsSliceOf.new _ vl vu vs) pl pu ps (by decide) ?_ (by rw [List.size_toArray]; omega)
    rw [pick_one]
    exact ⟨.ref _, _, I5.laid (t' := s4.toks) (o := .lst xs) (fun b ob q => Heap.get?_push_of_some _ q) (Nat.le_refl _) ⟨hz, _, 0, r, Heap.get?_push_size _ rfl⟩, rfl, q _ hfr⟩
  · refine wpAny_getItem_list_slice ht.isList (Heap.IsSliceOf.new _ vl vu vs) pl pu ps (by decide) ?_ (by rw [List.size_toArray]; omega)
    rw [PySem.W.krv_pick]
    exact ⟨.ref _, _, I5.laid (t' := s4.toks) (o := .lst xs.reverse) (fun b ob q => Heap.get?_push_of_some _ q) (Nat.le_refl _) ⟨by rw [List.length_reverse]; exact hz, _, 0, r.reverse, Heap.get?_push_size _ rfl⟩, rfl, q _ hfr⟩
end
end Mo

namespace Mo
open PySem PySem.Spec PyProof.Rows L2
-- find_unavoidable: expression DictComp(key=Name(id='name', ctx=Load()), value=Call(func=Name(id='filled', ctx=Load()), args=[Subscript(value=Name(id='values', ctx=Load()), slice=Name(id='name', ctx=Load()), ctx=Load()), Name(id='parts', ctx=Load())], keywords=[]), generators=[comprehension(target=Name(id='name', ctx=Store()), iter=Name(id='values', ctx=Load()), ifs=[], is_async=0)])
def topS (i : Nat) : Stmt := PySem.Challenge.pw_mustoccur_k39_bounds_and_long_texts_refu.main.body.getD i (.Pass ⟨0, 0, 0, 0⟩)
abbrev sIsPattern : Stmt := topS 15
theorem scIsPattern : FnScope ["value", "name"] ["value"] (defScope sIsPattern) := ⟨rfl, rfl, rfl, by decide +kernel, rfl, by decide +kernel, by decide +kernel⟩
abbrev sIsPlainInteger : Stmt := topS 16
theorem scIsPlainInteger : FnScope ["value"] ["value"] (defScope sIsPlainInteger) := ⟨rfl, rfl, rfl, by decide +kernel, rfl, by decide +kernel, by decide +kernel⟩
abbrev sIsLetter : Stmt := topS 17
theorem scIsLetter : FnScope ["value"] ["value"] (defScope sIsLetter) := ⟨rfl, rfl, rfl, by decide +kernel, rfl, by decide +kernel, by decide +kernel⟩
abbrev sIsText : Stmt := topS 18
theorem scIsText : FnScope ["value", "letter"] ["value"] (defScope sIsText) := ⟨rfl, rfl, rfl, by decide +kernel, rfl, by decide +kernel, by decide +kernel⟩
abbrev sCheckPattern : Stmt := topS 20
theorem scCheckPattern : FnScope ["value"] ["value"] (defScope sCheckPattern) := ⟨rfl, rfl, rfl, by decide +kernel, rfl, by decide +kernel, by decide +kernel⟩
abbrev sCheckText : Stmt := topS 21
theorem scCheckText : FnScope ["value"] ["value"] (defScope sCheckText) := ⟨rfl, rfl, rfl, by decide +kernel, rfl, by decide +kernel, by decide +kernel⟩
abbrev sCheckCount : Stmt := topS 23
theorem scCheckCount : FnScope ["value", "least", "most"] ["value", "least", "most"] (defScope sCheckCount) := ⟨rfl, rfl, rfl, by decide +kernel, rfl, by decide +kernel, by decide +kernel⟩
abbrev sCheckSize : Stmt := topS 50
theorem scCheckSize : FnScope ["text"] ["text"] (defScope sCheckSize) := ⟨rfl, rfl, rfl, by decide +kernel, rfl, by decide +kernel, by decide +kernel⟩
abbrev sLongestBorders : Stmt := topS 51
theorem scLongestBorders : FnScope ["text", "found", "border", "size"] ["text"] (defScope sLongestBorders) := ⟨rfl, rfl, rfl, by decide +kernel, rfl, by decide +kernel, by decide +kernel⟩
abbrev sExtended : Stmt := topS 52
theorem scExtended : FnScope ["text", "longest", "border", "size", "letter"] ["text", "longest", "border", "size"] (defScope sExtended) := ⟨rfl, rfl, rfl, by decide +kernel, rfl, by decide +kernel, by decide +kernel⟩
abbrev sHalfBorders : Stmt := topS 53
theorem scHalfBorders : FnScope ["text", "longest", "found", "border", "size"] ["text"] (defScope sHalfBorders) := ⟨rfl, rfl, rfl, by decide +kernel, rfl, by decide +kernel, by decide +kernel⟩
abbrev sPrefixRanks : Stmt := topS 54
theorem scPrefixRanks : FnScope ["text", "ranks", "border"] ["text"] (defScope sPrefixRanks) := ⟨rfl, rfl, rfl, by decide +kernel, rfl, by decide +kernel, by decide +kernel⟩
abbrev sBorders : Stmt := topS 55
theorem scBorders : FnScope ["text", "longest", "found", "border"] ["text"] (defScope sBorders) := ⟨rfl, rfl, rfl, by decide +kernel, rfl, by decide +kernel, by decide +kernel⟩
abbrev sRank : Stmt := topS 56
theorem scRank : FnScope ["text"] ["text"] (defScope sRank) := ⟨rfl, rfl, rfl, by decide +kernel, rfl, by decide +kernel, by decide +kernel⟩
abbrev sRankValues : Stmt := topS 57
theorem scRankValues : FnScope ["text", "count", "height"] ["text", "count"] (defScope sRankValues) := ⟨rfl, rfl, rfl, by decide +kernel, rfl, by decide +kernel, by decide +kernel⟩
abbrev sBestBlock : Stmt := topS 59
theorem scBestBlock : FnScope ["text", "best", "start", "size", "height"] ["text"] (defScope sBestBlock) := ⟨rfl, rfl, rfl, by decide +kernel, rfl, by decide +kernel, by decide +kernel⟩
abbrev sFindUniversal : Stmt := topS 60
theorem scFindUniversal : FnScope ["text", "count", "start", "size", "height", "end"] ["text", "count"] (defScope sFindUniversal) := ⟨rfl, rfl, rfl, by decide +kernel, rfl, by decide +kernel, by decide +kernel⟩
abbrev sPower : Stmt := topS 61
theorem scPower : FnScope ["base", "exponent", "result", "step"] ["base", "exponent"] (defScope sPower) := ⟨rfl, rfl, rfl, by decide +kernel, rfl, by decide +kernel, by decide +kernel⟩
abbrev sLengthBound : Stmt := topS 62
theorem scLengthBound : FnScope ["count", "letters", "bound", "step"] ["count", "letters"] (defScope sLengthBound) := ⟨rfl, rfl, rfl, by decide +kernel, rfl, by decide +kernel, by decide +kernel⟩
abbrev sFindUnavoidable : Stmt := topS 63
theorem scFindUnavoidable : FnScope ["pattern", "text", "steps", "height", "start", "end", "parts", "inner", "values", "before", "name"] ["pattern", "text"] (defScope sFindUnavoidable) := ⟨rfl, rfl, rfl, by decide +kernel, rfl, by decide +kernel, by decide +kernel⟩
abbrev sLSource : Stmt := topS 66
theorem scLSource : FnScope ["_law_script"] ["_law_script"] (defScope sLSource) := ⟨rfl, rfl, rfl, by decide +kernel, rfl, by decide +kernel, by decide +kernel⟩
abbrev sLDraw : Stmt := topS 67
theorem scLDraw : FnScope ["_law_source_here", "_law_size", "_law_digit", "_law_index", "_law_cell", "_law_mixed"] ["_law_source_here", "_law_size"] (defScope sLDraw) := ⟨rfl, rfl, rfl, by decide +kernel, rfl, by decide +kernel, by decide +kernel⟩
abbrev sLPick : Stmt := topS 68
theorem scLPick : FnScope ["_law_source_here", "_law_items"] ["_law_source_here", "_law_items"] (defScope sLPick) := ⟨rfl, rfl, rfl, by decide +kernel, rfl, by decide +kernel, by decide +kernel⟩
abbrev sLRaised : Stmt := topS 69
theorem scLRaised : FnScope ["_law_call", "_law_caught", "e", "_law_kinds"] ["_law_call"] (defScope sLRaised) := ⟨rfl, rfl, rfl, by decide +kernel, rfl, by decide +kernel, by decide +kernel⟩
abbrev sLNoText : Stmt := topS 70
theorem scLNoText : FnScope ["_law_source_here", "_law_some"] ["_law_source_here"] (defScope sLNoText) := ⟨rfl, rfl, rfl, by decide +kernel, rfl, by decide +kernel, by decide +kernel⟩
abbrev sLTextsRight : Stmt := topS 71
theorem scLTextsRight : FnScope ["_law_strange", "_law_odd", "_law_calls", "_law_call"] ["_law_strange", "_law_odd"] (defScope sLTextsRight) := ⟨rfl, rfl, rfl, by decide +kernel, rfl, by decide +kernel, by decide +kernel⟩
abbrev sLBoundsRight : Stmt := topS 72
theorem scLBoundsRight : FnScope ["_law_letters", "_law_two", "_law_blocks", "_law_turn", "_law_due", "_law_count"] [] (defScope sLBoundsRight) := ⟨rfl, rfl, rfl, by decide +kernel, rfl, by decide +kernel, by decide +kernel⟩
abbrev sLaw : Stmt := topS 73
theorem scLaw : FnScope ["_law_script", "_law_source_here", "_law_wrong", "_law_word", "_law_k", "_law_long", "_law_calls", "_law_call", "_law_odd", "_law_count"] ["_law_script"] (defScope sLaw) := ⟨rfl, rfl, rfl, by decide +kernel, rfl, by decide +kernel, by decide +kernel⟩
abbrev sInitInvalidPattern : Stmt := inClass (topS 1) 0
theorem scInitInvalidPattern : FnScope ["self", "value"] ["self", "value"] (defScope sInitInvalidPattern) := ⟨rfl, rfl, rfl, by decide +kernel, rfl, by decide +kernel, by decide +kernel⟩
abbrev sInitInvalidText : Stmt := inClass (topS 2) 0
theorem scInitInvalidText : FnScope ["self", "value"] ["self", "value"] (defScope sInitInvalidText) := ⟨rfl, rfl, rfl, by decide +kernel, rfl, by decide +kernel, by decide +kernel⟩
abbrev sInitInvalidCount : Stmt := inClass (topS 4) 0
theorem scInitInvalidCount : FnScope ["self", "value"] ["self", "value"] (defScope sInitInvalidCount) := ⟨rfl, rfl, rfl, by decide +kernel, rfl, by decide +kernel, by decide +kernel⟩
abbrev sInitTooLarge : Stmt := inClass (topS 8) 0
theorem scInitTooLarge : FnScope ["self", "limit"] ["self", "limit"] (defScope sInitTooLarge) := ⟨rfl, rfl, rfl, by decide +kernel, rfl, by decide +kernel, by decide +kernel⟩
structure Txt (K : PySem.W.Frag) (mg : Str → Option Value) where
  cInvalidPattern : Addr
  eInvalidPattern : mg "InvalidPattern" = some (.ref cInvalidPattern)
  cInvalidText : Addr
  eInvalidText : mg "InvalidText" = some (.ref cInvalidText)
  cInvalidCount : Addr
  eInvalidCount : mg "InvalidCount" = some (.ref cInvalidCount)
  cTooLarge : Addr
  eTooLarge : mg "TooLarge" = some (.ref cTooLarge)
  iInvalidPattern : Addr
  dInvalidPattern : FuncData
  fInitInvalidPattern : Fun K "__init__" "InvalidPattern.__init__" sInitInvalidPattern iInvalidPattern dInvalidPattern
  bInitInvalidPattern : Binds K dInvalidPattern ["self", "value"] []
  xInvalidPattern : ErrC K cInvalidPattern iInvalidPattern "value"
  iInvalidText : Addr
  dInvalidText : FuncData
  fInitInvalidText : Fun K "__init__" "InvalidText.__init__" sInitInvalidText iInvalidText dInvalidText
  bInitInvalidText : Binds K dInvalidText ["self", "value"] []
  xInvalidText : ErrC K cInvalidText iInvalidText "value"
  iInvalidCount : Addr
  dInvalidCount : FuncData
  fInitInvalidCount : Fun K "__init__" "InvalidCount.__init__" sInitInvalidCount iInvalidCount dInvalidCount
  bInitInvalidCount : Binds K dInvalidCount ["self", "value"] []
  xInvalidCount : ErrC K cInvalidCount iInvalidCount "value"
  iTooLarge : Addr
  dTooLarge : FuncData
  fInitTooLarge : Fun K "__init__" "TooLarge.__init__" sInitTooLarge iTooLarge dTooLarge
  bInitTooLarge : Binds K dTooLarge ["self", "limit"] []
  xTooLarge : ErrG K cTooLarge iTooLarge "limit" "OverflowError" "OverflowError.__new__" "OverflowError.__init__" [.type "OverflowError", .type "ArithmeticError", .type "Exception", .type "BaseException", .type "object"]
  mInvalidCountInvalidPattern : PySem.W.exmOne K (.ref cInvalidCount) (.ref cInvalidPattern) = some false
  mInvalidCountInvalidText : PySem.W.exmOne K (.ref cInvalidCount) (.ref cInvalidText) = some false
  mInvalidCountTooLarge : PySem.W.exmOne K (.ref cInvalidCount) (.ref cTooLarge) = some false
  mInvalidPatternInvalidCount : PySem.W.exmOne K (.ref cInvalidPattern) (.ref cInvalidCount) = some false
  mInvalidPatternInvalidText : PySem.W.exmOne K (.ref cInvalidPattern) (.ref cInvalidText) = some false
  mInvalidPatternTooLarge : PySem.W.exmOne K (.ref cInvalidPattern) (.ref cTooLarge) = some false
  mInvalidTextInvalidCount : PySem.W.exmOne K (.ref cInvalidText) (.ref cInvalidCount) = some false
  mInvalidTextInvalidPattern : PySem.W.exmOne K (.ref cInvalidText) (.ref cInvalidPattern) = some false
  mInvalidTextTooLarge : PySem.W.exmOne K (.ref cInvalidText) (.ref cTooLarge) = some false
  mTooLargeInvalidCount : PySem.W.exmOne K (.ref cTooLarge) (.ref cInvalidCount) = some false
  mTooLargeInvalidPattern : PySem.W.exmOne K (.ref cTooLarge) (.ref cInvalidPattern) = some false
  mTooLargeInvalidText : PySem.W.exmOne K (.ref cTooLarge) (.ref cInvalidText) = some false
  oInvalidCountInvalidCount : PySem.W.kitOne K (.ref cInvalidCount) (.ref cInvalidCount) = some true
  oInvalidCountInvalidPattern : PySem.W.kitOne K (.ref cInvalidCount) (.ref cInvalidPattern) = some false
  oInvalidCountInvalidText : PySem.W.kitOne K (.ref cInvalidCount) (.ref cInvalidText) = some false
  oInvalidCountTooLarge : PySem.W.kitOne K (.ref cInvalidCount) (.ref cTooLarge) = some false
  oInvalidPatternInvalidCount : PySem.W.kitOne K (.ref cInvalidPattern) (.ref cInvalidCount) = some false
  oInvalidPatternInvalidPattern : PySem.W.kitOne K (.ref cInvalidPattern) (.ref cInvalidPattern) = some true
  oInvalidPatternInvalidText : PySem.W.kitOne K (.ref cInvalidPattern) (.ref cInvalidText) = some false
  oInvalidPatternTooLarge : PySem.W.kitOne K (.ref cInvalidPattern) (.ref cTooLarge) = some false
  oInvalidTextInvalidCount : PySem.W.kitOne K (.ref cInvalidText) (.ref cInvalidCount) = some false
  oInvalidTextInvalidPattern : PySem.W.kitOne K (.ref cInvalidText) (.ref cInvalidPattern) = some false
  oInvalidTextInvalidText : PySem.W.kitOne K (.ref cInvalidText) (.ref cInvalidText) = some true
  oInvalidTextTooLarge : PySem.W.kitOne K (.ref cInvalidText) (.ref cTooLarge) = some false
  oTooLargeInvalidCount : PySem.W.kitOne K (.ref cTooLarge) (.ref cInvalidCount) = some false
  oTooLargeInvalidPattern : PySem.W.kitOne K (.ref cTooLarge) (.ref cInvalidPattern) = some false
  oTooLargeInvalidText : PySem.W.kitOne K (.ref cTooLarge) (.ref cInvalidText) = some false
  oTooLargeTooLarge : PySem.W.kitOne K (.ref cTooLarge) (.ref cTooLarge) = some true
  oInvalidCountValueError : PySem.W.kitOne K (.ref cInvalidCount) (.type "ValueError") = some true
  oInvalidPatternValueError : PySem.W.kitOne K (.ref cInvalidPattern) (.type "ValueError") = some true
  oInvalidTextValueError : PySem.W.kitOne K (.ref cInvalidText) (.type "ValueError") = some true
  oTooLargeOverflowError : PySem.W.kitOne K (.ref cTooLarge) (.type "OverflowError") = some true
  aIsPattern : Addr
  dIsPattern : FuncData
  fIsPattern : Fun K "is_pattern" "is_pattern" sIsPattern aIsPattern dIsPattern
  bIsPattern : Binds K dIsPattern ["value"] []
  gIsPattern : mg "is_pattern" = some (.ref aIsPattern)
  aIsPlainInteger : Addr
  dIsPlainInteger : FuncData
  fIsPlainInteger : Fun K "is_plain_integer" "is_plain_integer" sIsPlainInteger aIsPlainInteger dIsPlainInteger
  bIsPlainInteger : Binds K dIsPlainInteger ["value"] []
  gIsPlainInteger : mg "is_plain_integer" = some (.ref aIsPlainInteger)
  aIsLetter : Addr
  dIsLetter : FuncData
  fIsLetter : Fun K "is_letter" "is_letter" sIsLetter aIsLetter dIsLetter
  bIsLetter : Binds K dIsLetter ["value"] []
  gIsLetter : mg "is_letter" = some (.ref aIsLetter)
  aIsText : Addr
  dIsText : FuncData
  fIsText : Fun K "is_text" "is_text" sIsText aIsText dIsText
  bIsText : Binds K dIsText ["value"] []
  gIsText : mg "is_text" = some (.ref aIsText)
  aCheckPattern : Addr
  dCheckPattern : FuncData
  fCheckPattern : Fun K "check_pattern" "check_pattern" sCheckPattern aCheckPattern dCheckPattern
  bCheckPattern : Binds K dCheckPattern ["value"] []
  gCheckPattern : mg "check_pattern" = some (.ref aCheckPattern)
  aCheckText : Addr
  dCheckText : FuncData
  fCheckText : Fun K "check_text" "check_text" sCheckText aCheckText dCheckText
  bCheckText : Binds K dCheckText ["value"] []
  gCheckText : mg "check_text" = some (.ref aCheckText)
  aCheckCount : Addr
  dCheckCount : FuncData
  fCheckCount : Fun K "check_count" "check_count" sCheckCount aCheckCount dCheckCount
  bCheckCount : Binds K dCheckCount ["value", "least", "most"] []
  gCheckCount : mg "check_count" = some (.ref aCheckCount)
  aCheckSize : Addr
  dCheckSize : FuncData
  fCheckSize : Fun K "check_size" "check_size" sCheckSize aCheckSize dCheckSize
  bCheckSize : Binds K dCheckSize ["text"] []
  gCheckSize : mg "check_size" = some (.ref aCheckSize)
  aLongestBorders : Addr
  dLongestBorders : FuncData
  fLongestBorders : Fun K "longest_borders" "longest_borders" sLongestBorders aLongestBorders dLongestBorders
  bLongestBorders : Binds K dLongestBorders ["text"] []
  gLongestBorders : mg "longest_borders" = some (.ref aLongestBorders)
  aExtended : Addr
  dExtended : FuncData
  fExtended : Fun K "extended" "extended" sExtended aExtended dExtended
  bExtended : Binds K dExtended ["text", "longest", "border", "size"] []
  gExtended : mg "extended" = some (.ref aExtended)
  aHalfBorders : Addr
  dHalfBorders : FuncData
  fHalfBorders : Fun K "half_borders" "half_borders" sHalfBorders aHalfBorders dHalfBorders
  bHalfBorders : Binds K dHalfBorders ["text"] []
  gHalfBorders : mg "half_borders" = some (.ref aHalfBorders)
  aPrefixRanks : Addr
  dPrefixRanks : FuncData
  fPrefixRanks : Fun K "prefix_ranks" "prefix_ranks" sPrefixRanks aPrefixRanks dPrefixRanks
  bPrefixRanks : Binds K dPrefixRanks ["text"] []
  gPrefixRanks : mg "prefix_ranks" = some (.ref aPrefixRanks)
  aBorders : Addr
  dBorders : FuncData
  fBorders : Fun K "borders" "borders" sBorders aBorders dBorders
  bBorders : Binds K dBorders ["text"] []
  gBorders : mg "borders" = some (.ref aBorders)
  aRank : Addr
  dRank : FuncData
  fRank : Fun K "rank" "rank" sRank aRank dRank
  bRank : Binds K dRank ["text"] []
  gRank : mg "rank" = some (.ref aRank)
  aRankValues : Addr
  dRankValues : FuncData
  fRankValues : Fun K "rank_values" "rank_values" sRankValues aRankValues dRankValues
  bRankValues : Binds K dRankValues ["text", "count"] []
  gRankValues : mg "rank_values" = some (.ref aRankValues)
  aBestBlock : Addr
  dBestBlock : FuncData
  fBestBlock : Fun K "best_block" "best_block" sBestBlock aBestBlock dBestBlock
  bBestBlock : Binds K dBestBlock ["text"] []
  gBestBlock : mg "best_block" = some (.ref aBestBlock)
  aFindUniversal : Addr
  dFindUniversal : FuncData
  fFindUniversal : Fun K "find_universal" "find_universal" sFindUniversal aFindUniversal dFindUniversal
  bFindUniversal : Binds K dFindUniversal ["text", "count"] []
  gFindUniversal : mg "find_universal" = some (.ref aFindUniversal)
  aPower : Addr
  dPower : FuncData
  fPower : Fun K "power" "power" sPower aPower dPower
  bPower : Binds K dPower ["base", "exponent"] []
  gPower : mg "power" = some (.ref aPower)
  aLengthBound : Addr
  dLengthBound : FuncData
  fLengthBound : Fun K "length_bound" "length_bound" sLengthBound aLengthBound dLengthBound
  bLengthBound : Binds K dLengthBound ["count", "letters"] []
  gLengthBound : mg "length_bound" = some (.ref aLengthBound)
  aFindUnavoidable : Addr
  dFindUnavoidable : FuncData
  fFindUnavoidable : Fun K "find_unavoidable" "find_unavoidable" sFindUnavoidable aFindUnavoidable dFindUnavoidable
  bFindUnavoidable : Binds K dFindUnavoidable ["pattern", "text"] []
  gFindUnavoidable : mg "find_unavoidable" = some (.ref aFindUnavoidable)
  aLSource : Addr
  dLSource : FuncData
  fLSource : Fun K "_law_source" "_law_source" sLSource aLSource dLSource
  bLSource : Binds K dLSource ["_law_script"] []
  gLSource : mg "_law_source" = some (.ref aLSource)
  aLDraw : Addr
  dLDraw : FuncData
  fLDraw : Fun K "_law_draw" "_law_draw" sLDraw aLDraw dLDraw
  bLDraw : Binds K dLDraw ["_law_source_here", "_law_size"] []
  gLDraw : mg "_law_draw" = some (.ref aLDraw)
  aLPick : Addr
  dLPick : FuncData
  fLPick : Fun K "_law_pick" "_law_pick" sLPick aLPick dLPick
  bLPick : Binds K dLPick ["_law_source_here", "_law_items"] []
  gLPick : mg "_law_pick" = some (.ref aLPick)
  aLRaised : Addr
  dLRaised : FuncData
  fLRaised : Fun K "_law_raised" "_law_raised" sLRaised aLRaised dLRaised
  bLRaised : Binds K dLRaised ["_law_call"] []
  gLRaised : mg "_law_raised" = some (.ref aLRaised)
  aLNoText : Addr
  dLNoText : FuncData
  fLNoText : Fun K "_law_no_text" "_law_no_text" sLNoText aLNoText dLNoText
  bLNoText : Binds K dLNoText ["_law_source_here"] []
  gLNoText : mg "_law_no_text" = some (.ref aLNoText)
  aLTextsRight : Addr
  dLTextsRight : FuncData
  fLTextsRight : Fun K "_law_texts_right" "_law_texts_right" sLTextsRight aLTextsRight dLTextsRight
  bLTextsRight : Binds K dLTextsRight ["_law_strange", "_law_odd"] []
  gLTextsRight : mg "_law_texts_right" = some (.ref aLTextsRight)
  aLBoundsRight : Addr
  dLBoundsRight : FuncData
  fLBoundsRight : Fun K "_law_bounds_right" "_law_bounds_right" sLBoundsRight aLBoundsRight dLBoundsRight
  bLBoundsRight : Binds K dLBoundsRight [] []
  gLBoundsRight : mg "_law_bounds_right" = some (.ref aLBoundsRight)
  aLaw : Addr
  dLaw : FuncData
  fLaw : Fun K "law" "law" sLaw aLaw dLaw
  bLaw : Binds K dLaw ["_law_script"] []
  gLaw : mg "law" = some (.ref aLaw)
  cdLaw : Addr
  pdLaw : Addr
  kdLaw : dLaw.code = .ref cdLaw
  hdLaw : PySem.W.codeHdIn K cdLaw pdLaw = true
  npLaw : K.lookup pdLaw = none
  cdLTextsRight : Addr
  pdLTextsRight : Addr
  kdLTextsRight : dLTextsRight.code = .ref cdLTextsRight
  hdLTextsRight : PySem.W.codeHdIn K cdLTextsRight pdLTextsRight = true
  npLTextsRight : K.lookup pdLTextsRight = none
  pqLTextsRight : pdLTextsRight ≠ pdLaw
  t_VARIABLES : Tok
  m_VARIABLES : mg "VARIABLES" = some (.str "abcdefghijklmnopqrstuvwxyz" t_VARIABLES)
  t_LONGEST_PATTERN : Tok
  m_LONGEST_PATTERN : mg "LONGEST_PATTERN" = some (.int 40 t_LONGEST_PATTERN)
  t_MOST_VARIABLES : Tok
  m_MOST_VARIABLES : mg "MOST_VARIABLES" = some (.int 8 t_MOST_VARIABLES)
  t_LONGEST_TEXT : Tok
  m_LONGEST_TEXT : mg "LONGEST_TEXT" = some (.int 4096 t_LONGEST_TEXT)
  t_GREATEST_LETTER : Tok
  m_GREATEST_LETTER : mg "GREATEST_LETTER" = some (.int 999999 t_GREATEST_LETTER)
  t_GREATEST_COUNT : Tok
  m_GREATEST_COUNT : mg "GREATEST_COUNT" = some (.int 12 t_GREATEST_COUNT)
  t_LONGEST_RANKED : Tok
  m_LONGEST_RANKED : mg "LONGEST_RANKED" = some (.int 400 t_LONGEST_RANKED)
  m_all : mg "all" = none
  m_len : mg "len" = none
  m_set : mg "set" = none
  m_isinstance : mg "isinstance" = none
  m_str : mg "str" = none
  m_bool : mg "bool" = none
  m_int : mg "int" = none
  m_tuple : mg "tuple" = none
  m_range : mg "range" = none
  m_enumerate : mg "enumerate" = none
  m_list : mg "list" = none
  m_abs : mg "abs" = none
  m_repr : mg "repr" = none
  m_ValueError : mg "ValueError" = none
  m_OverflowError : mg "OverflowError" = none
end Mo

namespace Mo
open PySem PySem.Spec PyProof.Rows L2
section
variable {P : Program} {w : World} {K : PySem.W.Frag} {mg : Str → Option Value} {base : Heap}
theorem ok_plainX {k : Nat} (T : Txt K mg) : FnOk P w K mg base CX0 (k + 1) T.aIsPlainInteger T.dIsPlainInteger ["value"] (spAsk plainD) := by
  refine T.fIsPlainInteger.ok scIsPlainInteger (fun vs H Q E h => ?_) (fun cdv A outer s H vs Q E hr h => ?_)
  · obtain ⟨_, _, _, rfl, _⟩ := h
    rfl
  · obtain ⟨N, x, d, rfl, hd, _, q⟩ := h
    refine ⟨_, (pss_one (ps_ret (pe_and (pe_callB call_isi (by rfl) T.m_isinstance (by decide +kernel) (pa_cons (pv 0) (pa_cons (pe_bltn (v := .ty "int") (by rfl) T.m_int (by decide +kernel) rfl) pa_nil))) (pe_one (pe_not (pe_callB call_isi (by rfl) T.m_isinstance (by decide +kernel) (pa_cons (pv 0) (pa_cons (pe_bltn (v := .ty "bool") (by rfl) T.m_bool (by decide +kernel) rfl) pa_nil)))))))), ?_⟩
    have ty := hd.ty (K := K)
    have q0 := q H (Same.refl H)
    unfold plainD at q0
    refine ⟨_, rfl, _, _, .type (tyD d), .type "int", isIntD d, rfl, .ty "int", ty, kit_ty (kit_int d), isIntD d, rfl, ?_⟩
    cases e : isIntD d with
    | false => rw [e] at q0; exact q0
    | true =>
      rw [e] at q0
      exact ⟨_, rfl, _, _, .type (tyD d), .type "bool", isBoolD d, rfl, .ty "bool", ty, kit_ty (kit_bool d), isBoolD d, rfl, q0⟩
theorem ok_letterX {k : Nat} (T : Txt K mg) : FnOk P w K mg base CX0 (k + 2) T.aIsLetter T.dIsLetter ["value"] (spAsk letterD) := by
  have GIsPlainInteger : FnOk P w K mg base CX0 (k + 1) T.aIsPlainInteger T.dIsPlainInteger ["value"] (spAsk plainD) := ok_plainX T
  refine T.fIsLetter.ok scIsLetter (fun vs H Q E h => ?_) (fun cdv A outer s H vs Q E hr h => ?_)
  · obtain ⟨_, _, _, rfl, _⟩ := h
    rfl
  · obtain ⟨N, x, d, rfl, hd, hb, q⟩ := h
    refine ⟨_, (pss_one (ps_ret (pe_and (pe_call GIsPlainInteger hr (by rfl) T.gIsPlainInteger T.fIsPlainInteger.kp T.bIsPlainInteger .nil pass0 (pa_cons (pv 0) pa_nil)) (pe_one (pe_chain op_le op_le pe_int (pv 0) (pe_glob (v := .int 999999) rfl T.m_GREATEST_LETTER ⟨_, rfl⟩)))))), ?_⟩
    refine ⟨_, rfl, N, x, d, rfl, hd, hb, fun H1 s1 => ?_⟩
    have q0 := q H1 s1
    cases e : plainD d with
    | false =>
      refine ⟨false, rfl, ?_⟩
      have z : letterD d = false := by
        cases hd <;> first | rfl | exact absurd (show true = false from e) (by decide)
      rw [z] at q0
      exact q0
    | true =>
      obtain ⟨i, rfl, rfl⟩ := plain_int hd e
      refine ⟨true, rfl, iteT ⟨_, rfl, 0, i, rfl, rfl, decide (0 ≤ i), rfl, ?_⟩⟩
      have z : letterD (.int i) = (decide (0 ≤ i) && decide (i ≤ 999999)) := rfl
      rw [z] at q0
      cases e0 : decide (0 ≤ i) with
      | false => rw [e0] at q0; exact q0
      | true => rw [e0] at q0; exact ⟨i, 999999, rfl, rfl, q0⟩
theorem ok_isTextX {k : Nat} (T : Txt K mg) : FnOk P w K mg base CX0 (k + 3) T.aIsText T.dIsText ["value"] (spAsk textD) := by
  have GIsLetter : FnOk P w K mg base CX0 (k + 2) T.aIsLetter T.dIsLetter ["value"] (spAsk letterD) := ok_letterX T
  refine T.fIsText.ok scIsText (fun vs H Q E h => ?_) (fun cdv A outer s H vs Q E hr h => ?_)
  · obtain ⟨_, _, _, rfl, _⟩ := h
    rfl
  · obtain ⟨N, x, d, rfl, hd, hb, q⟩ := h
    refine ⟨_, (pss_cons (ps_if (PW.pt (pw_or (pt_not (pt_val (pe_callB call_isi (by rfl) T.m_isinstance (by decide +kernel) (pa_cons (pv 0) (pa_cons (pe_bltn (v := .ty "tuple") (by rfl) T.m_tuple (by decide +kernel) rfl) pa_nil))))) (pw_or1 (pt_cmpR op_gt (pe_callB call_len_seq (by rfl) T.m_len PySem.boot_len (pa_cons (pv 0) pa_nil)) (pe_glob (v := .int 4096) rfl T.m_LONGEST_TEXT ⟨_, rfl⟩) (nomark _))))) (pss_one (ps_ret pe_bl)) pss_nil)
      (pss_one (ps_ret (pe_callB (cr_all rfl) (by rfl) T.m_all (by decide +kernel) (pa_cons (pe_lc (own := [("letter", 1)]) (g := gName 1) (tt := tYes) rfl scIsText.nd (pi_tup (pv 0)) (blkOk_by (N := ["value", "letter"]) (sc := defScope sIsText) (by decide +kernel)) (fun _ _ _ _ _ => pg_name (i := 1) scIsText.nd rfl (Or.inl rfl)) (fun _ _ _ _ _ => pts_nil) (fun _ _ _ _ _ => (pe_call GIsLetter hr (by rfl) T.gIsLetter T.fIsLetter.kp T.bIsLetter .nil pass0 (pa_cons (pv 1) pa_nil)))) pa_nil))))), ?_⟩
    have ty := hd.ty (K := K)
    refine ⟨_, rfl, _, _, .type (tyD d), .type "tuple", isTupD d, rfl, .ty "tuple", ty, kit_ty (kit_tup d), isTupD d, rfl, ?_⟩
    cases e : isTupD d with
    | false =>
      have q0 := q H (Same.refl H)
      rw [notTup e] at q0
      exact iteT q0
    | true =>
      obtain ⟨a, xs, ds, rfl, rfl, ha, _, hx⟩ := tup_dx hd e
      have hl := hx.length
      simp only [PyData.bulk] at hb
      have hb2 := bulk_len ds
      have zt : textD (.tuple ds) = (decide (ds.length ≤ 4096) && ds.all letterD) := rfl
      refine iteF ⟨_, rfl, a, xs, rfl, .inr (SqT.of ha), _, _, rfl, rfl, _, rfl, ite2 (fun e => ?_) (fun e => ?_)⟩
      · have h1 := of_decide_eq_true e
        have q0 := q H (Same.refl H)
        rw [zt, decide_eq_false (by omega)] at q0
        exact q0
      · have h1 : ¬ (4096 : Int) < xs.length := fun z => e (decide_eq_true z)
        rw [zt, decide_eq_true (by omega), Bool.true_and] at q
        refine ⟨_, rfl, a, rfl, ⟨xs, SqT.of ha⟩, fun D nD => lc_it (walk_tup (xs := xs)) (fun i H' => Same H H' ∧ H' D = some (.lst (((ds.take i).map letterD).map V.bl))) ?_ ?_ ?_ ?_⟩
        · exact ⟨same_new nD, upd_same⟩
        · exact fun i H' _ h => SqT.of (h.1 _ _ ha)
        · rintro i x H1 H2 hi ⟨s1, hD⟩ ⟨rfl, hx1⟩
          obtain ⟨dd, hdd, hxd⟩ := (hx.same s1).get hx1
          have hm := bulk_mem (List.mem_of_getElem? hdd)
          refine ⟨rfl, _, rfl, N, x, dd, rfl, hxd, by omega, fun H3 s3 => ⟨_, s3 _ _ hD, fitsLt (by rw [List.length_map, List.length_map, List.length_take]; omega), Same.put (s1.trans s3) nD, ?_⟩⟩
          rw [upd_same, List.take_add_one, hdd, List.map_append, List.map_append]
          rfl
        · rintro H1 ⟨s1, hD⟩
          rw [hl, List.take_length] at hD
          refine ⟨D, ds.map letterD, rfl, SqL.of hD, ?_⟩
          rw [show (ds.map letterD).all id = ds.all letterD by rw [List.all_map]; rfl]
          exact q H1 s1
theorem ok_initText {k : Nat} (T : Txt K mg) : FnOk P w K mg base CX0 (k + 1) T.iInvalidText T.dInvalidText ["self", "value"] (spInit T.cInvalidText "value") := by
  refine T.fInitInvalidText.ok scInitInvalidText (fun vs H Q E h => ?_) (fun cdv A outer s H vs Q E hr h => ?_)
  · obtain ⟨a, y, rfl, _⟩ := h
    rfl
  · obtain ⟨a, y, rfl, ha, q⟩ := h
    refine ⟨_, pss_one (ps_ost (pv 0) (pv 1)), ?_⟩
    exact ⟨_, rfl, _, rfl, a, T.cInvalidText, rfl, T.xInvalidText.oex, T.xInvalidText.no, .inl ⟨ha, fun dx nd ne => q dx nd ne⟩⟩
theorem ok_chkT {k : Nat} (T : Txt K mg) : FnOk P w K mg base (L2.CX P w) (k + 4) T.aCheckText T.dCheckText ["value"] (spChkT T.cInvalidText) := by
  have GIsText : FnOk P w K mg base CX0 (k + 3) T.aIsText T.dIsText ["value"] (spAsk textD) := ok_isTextX T
  have GInitInvalidText : FnOk P w K mg base CX0 (k + 2) T.iInvalidText T.dInvalidText ["self", "value"] (spInit T.cInvalidText "value") := ok_initText T
  refine T.fCheckText.okX scCheckText (fun vs H Q E h => ?_) (fun cdv A outer s H vs Q E hr h => ?_)
  · obtain ⟨_, _, _, rfl, _⟩ := h
    rfl
  · obtain ⟨N, x, d, rfl, hd, hb, q1, q2⟩ := h
    refine ⟨_, (pss_one (ps_if (pt_not (pt_val (pe_call GIsText hr (by rfl) T.gIsText T.fIsText.kp T.bIsText .nil pass0 (pa_cons (pv 0) pa_nil)))) (pss_one (ps_raise rfl (takes_of rfl rfl rfl rfl) (pmk_oex T.xInvalidText.oex T.xInvalidText.iC T.xInvalidText.tI GInitInvalidText hr T.bInitInvalidText .nil pass0 (by rfl) T.eInvalidText (pa_cons (pv 0) pa_nil)))) pss_nil)), ?_⟩
    refine ⟨_, rfl, N, x, d, rfl, hd, hb, fun H1 s1 => ⟨textD d, rfl, ?_⟩⟩
    cases e : textD d with
    | false => exact iteT ⟨_, rfl, err_read fun dd H' nd s2 hdx => q2 e dd H' (s1.free nd) (s1.trans s2) hdx⟩
    | true => exact iteF (q1 e H1 s1)
end
end Mo

namespace Mo
open PySem PySem.Spec PyProof.Rows L2
section
variable {P : Program} {w : World} {K : PySem.W.Frag} {mg : Str → Option Value} {base : Heap}
theorem ok_initCount {k : Nat} (T : Txt K mg) : FnOk P w K mg base CX0 (k + 1) T.iInvalidCount T.dInvalidCount ["self", "value"] (spInit T.cInvalidCount "value") := by
  refine T.fInitInvalidCount.ok scInitInvalidCount (fun vs H Q E h => ?_) (fun cdv A outer s H vs Q E hr h => ?_)
  · obtain ⟨a, y, rfl, _⟩ := h
    rfl
  · obtain ⟨a, y, rfl, ha, q⟩ := h
    refine ⟨_, pss_one (ps_ost (pv 0) (pv 1)), ?_⟩
    exact ⟨_, rfl, _, rfl, a, T.cInvalidCount, rfl, T.xInvalidCount.oex, T.xInvalidCount.no, .inl ⟨ha, fun dx nd ne => q dx nd ne⟩⟩
theorem ok_cntX {k : Nat} (T : Txt K mg) : FnOk P w K mg base (L2.CX P w) (k + 3) T.aCheckCount T.dCheckCount ["value", "least", "most"] (spCnt T.cInvalidCount) := by
  have GIsPlainInteger : FnOk P w K mg base CX0 (k + 2) T.aIsPlainInteger T.dIsPlainInteger ["value"] (spAsk plainD) := ok_plainX T
  have GInitInvalidCount : FnOk P w K mg base CX0 (k + 1) T.iInvalidCount T.dInvalidCount ["self", "value"] (spInit T.cInvalidCount "value") := ok_initCount T
  refine T.fCheckCount.okX scCheckCount (fun vs H Q E h => ?_) (fun cdv A outer s H vs Q E hr h => ?_)
  · obtain ⟨_, _, _, _, _, rfl, _⟩ := h
    rfl
  · obtain ⟨N, x, d, a, b, rfl, hd, hb, q1, q2⟩ := h
    refine ⟨_, (pss_one (ps_if (PW.pt (pw_or (pt_not (pt_val (pe_call GIsPlainInteger hr (by rfl) T.gIsPlainInteger T.fIsPlainInteger.kp T.bIsPlainInteger .nil pass0 (pa_cons (pv 0) pa_nil)))) (pw_or (pt_cmpR op_lt (pv 0) (pv 1) (nomark _)) (pw_or1 (pt_cmpR op_gt (pv 0) (pv 2) (nomark _)))))) (pss_one (ps_raise rfl (takes_of rfl rfl rfl rfl) (pmk_oex T.xInvalidCount.oex T.xInvalidCount.iC T.xInvalidCount.tI GInitInvalidCount hr T.bInitInvalidCount .nil pass0 (by rfl) T.eInvalidCount (pa_cons (pv 0) pa_nil)))) pss_nil)), ?_⟩
    have fin : cntB a b d = false → ∀ H1, Same H H1 → ∀ dd H', H1 dd = none → Same H1 H' → H' dd = some (.xd [("value", x)]) → E (.ref T.cInvalidCount) (some dd) H' := fun e H1 s1 dd H' nd s2 hd => q2 e dd H' (s1.free nd) (s1.trans s2) hd
    refine ⟨_, rfl, N, x, d, rfl, hd, hb, fun H1 s1 => ⟨plainD d, rfl, ?_⟩⟩
    cases e : plainD d with
    | false => exact iteT ⟨_, rfl, err_read (fin (cnt_no e) H1 s1)⟩
    | true =>
      obtain ⟨i, rfl, rfl⟩ := plain_int hd e
      refine iteF ⟨_, rfl, _, rfl, i, a, rfl, rfl, decide (i < a), rfl, ?_⟩
      by_cases h1 : i < a
      · rw [decide_eq_true h1]
        refine iteT ⟨_, rfl, err_read (fin ?_ H1 s1)⟩
        show (decide (a ≤ i) && decide (i ≤ b)) = false
        rw [decide_eq_false (show ¬ a ≤ i by omega)]
        rfl
      · rw [decide_eq_false h1]
        refine iteF ⟨_, rfl, _, rfl, i, b, rfl, rfl, decide (i > b), rfl, ?_⟩
        by_cases h2 : i > b
        · rw [decide_eq_true h2]
          refine iteT ⟨_, rfl, err_read (fin ?_ H1 s1)⟩
          show (decide (a ≤ i) && decide (i ≤ b)) = false
          rw [decide_eq_false (show ¬ i ≤ b by omega), Bool.and_false]
        · rw [decide_eq_false h2]
          refine iteF (q1 ?_ H1 s1)
          show (decide (a ≤ i) && decide (i ≤ b)) = true
          rw [decide_eq_true (show a ≤ i by omega), decide_eq_true (show i ≤ b by omega)]
          rfl
end
end Mo

namespace Mo
open PySem PySem.Spec PyProof.Rows L2
/-! ### letters -/
def lett : List Nat := [97, 98, 99, 100, 101, 102, 103, 104, 105, 106, 107, 108, 109, 110, 111, 112, 113, 114, 115, 116, 117, 118, 119, 120, 121, 122]
theorem lett_text : (Str.ofString "abcdefghijklmnopqrstuvwxyz").cps.toList = lett := by decide +kernel
theorem lett_tx : Str.ofString "abcdefghijklmnopqrstuvwxyz" = tx lett := by decide +kernel
theorem lett_asc : lett.Pairwise (· < ·) := by decide
theorem lett_low {c : Nat} (h : c ∈ lett) : 97 ≤ c ∧ c ≤ 122 := (show ∀ c ∈ lett, 97 ≤ c ∧ c ≤ 122 by decide) c h
theorem asc_eq : ∀ a b : List Nat, a.Pairwise (· < ·) → b.Pairwise (· < ·) → (∀ x, x ∈ a ↔ x ∈ b) → a = b
  | [], [], _, _, _ => rfl
  | [], y :: b, _, _, h => absurd ((h y).mpr List.mem_cons_self) (by simp)
  | x :: a, [], _, _, h => absurd ((h x).mp List.mem_cons_self) (by simp)
  | x :: a, y :: b, ha, hb, h => by
    have ha2 := List.pairwise_cons.mp ha
    have hb2 := List.pairwise_cons.mp hb
    have e : x = y := by
      rcases List.mem_cons.mp ((h x).mp List.mem_cons_self) with q | q
      · exact q
      · rcases List.mem_cons.mp ((h y).mpr List.mem_cons_self) with q' | q'
        · exact q'.symm
        · have := hb2.1 x q
          have := ha2.1 y q'
          omega
    subst e
    congr 1
    refine asc_eq a b ha2.2 hb2.2 fun z => ⟨fun hz => ?_, fun hz => ?_⟩
    · rcases List.mem_cons.mp ((h z).mp (List.mem_cons_of_mem _ hz)) with q | q
      · have := ha2.1 z hz
        omega
      · exact q
    · rcases List.mem_cons.mp ((h z).mpr (List.mem_cons_of_mem _ hz)) with q | q
      · have := hb2.1 z hz
        omega
      · exact q
theorem lt_one (x p : Nat) : ltCps [x] [p] = decide (x < p) := by
  by_cases h : x < p
  · simp [ltCps, h]
  · by_cases h2 : x = p
    · simp [ltCps, h2]
    · simp [ltCps, h, h2]
theorem rising_le : ∀ (ls : List Nat) (p : Nat), risingS (⟨#[p]⟩ : Str) (ls.map fun c => (⟨#[c]⟩ : Str)) = true → (p :: ls).Pairwise (· ≤ ·)
  | [], p, _ => by simp
  | x :: ls, p, h => by
    have h2 : (!ltCps [x] [p] && risingS (⟨#[x]⟩ : Str) (ls.map fun c => (⟨#[c]⟩ : Str))) = true := h
    obtain ⟨h3, h4⟩ := Bool.and_eq_true_iff.mp h2
    rw [lt_one] at h3
    have h5 : ¬ x < p := by simpa using h3
    have ih := rising_le ls x h4
    refine List.pairwise_cons.mpr ⟨fun y hy => ?_, ih⟩
    rcases List.mem_cons.mp hy with q | q
    · omega
    · have := (List.pairwise_cons.mp ih).1 y q
      omega
theorem sorted_asc {ls : List Nat} (h : sortedS (ls.map fun c => (⟨#[c]⟩ : Str)) = true) (hn : ls.Nodup) : ls.Pairwise (· < ·) := by
  have h1 : ls.Pairwise (· ≤ ·) := by
    cases ls with
    | nil => exact List.Pairwise.nil
    | cons p r => exact rising_le r p h
  exact List.Pairwise.imp₂ (fun a b h1 h2 => by have : a ≠ b := h2; omega) h1 hn
theorem signs_of : ∀ (ys : List Str), (∀ y ∈ ys, ∃ c : Nat, y = ⟨#[c]⟩) → ∃ ls : List Nat, ys = ls.map fun c => (⟨#[c]⟩ : Str)
  | [], _ => ⟨[], rfl⟩
  | y :: ys, h => by
    obtain ⟨c, rfl⟩ := h y List.mem_cons_self
    obtain ⟨ls, rfl⟩ := signs_of ys fun z hz => h z (List.mem_cons_of_mem _ hz)
    exact ⟨c :: ls, rfl⟩
theorem sign_map_inj {a b : List Nat} (h : (a.map fun c => (⟨#[c]⟩ : Str)).Perm (b.map fun c => (⟨#[c]⟩ : Str))) : a.Perm b := by
  have q := h.map fun y : Str => y.cps.getD 0 0
  rw [List.map_map, List.map_map] at q
  have e : ((fun y : Str => y.cps.getD 0 0) ∘ fun c => (⟨#[c]⟩ : Str)) = id := by
    funext c
    rfl
  rwa [e, List.map_id, List.map_id] at q
theorem nodup_sub_len : ∀ (a b : List Nat), a.Nodup → (∀ x ∈ a, x ∈ b) → a.length ≤ b.length
  | [], b, _, _ => Nat.zero_le _
  | x :: a, b, hn, hs => by
    have hx : x ∈ b := hs x List.mem_cons_self
    have hn2 := List.nodup_cons.mp hn
    have ih := nodup_sub_len a (b.erase x) hn2.2 fun y hy => by
      have ne : y ≠ x := fun e => hn2.1 (e ▸ hy)
      exact (List.mem_erase_of_ne ne).mpr (hs y (List.mem_cons_of_mem _ hy))
    rw [List.length_erase_of_mem hx] at ih
    have := List.length_pos_of_mem hx
    rw [List.length_cons]
    omega
theorem met_sub_len {zs cs : List Nat} (h : ∀ x ∈ zs, x ∈ cs) : (met zs).length ≤ cs.length := nodup_sub_len _ _ (met_nodup zs) fun x hx => h x (mem_met.mp hx)
/-! ### patterns -/
def patL (cs : List Nat) : Bool := decide (cs.length ≤ 40) && (decide ((met cs).length ≤ 8) && cs.all fun c => decide (c ∈ lett))
def patD : PyData → Bool
  | .str z => patL z.cps.toList
  | _ => false
structure OkP (cs : List Nat) : Prop where
  len : cs.length ≤ 40
  few : (met cs).length ≤ 8
  low : ∀ c ∈ cs, c ∈ lett
theorem OkP.pat {cs : List Nat} (h : OkP cs) : patL cs = true := by
  unfold patL
  rw [decide_eq_true h.len, decide_eq_true h.few, Bool.true_and, Bool.true_and, List.all_eq_true]
  exact fun c hc => decide_eq_true (h.low c hc)
theorem OkP.of {cs : List Nat} (h : patL cs = true) : OkP cs := by
  unfold patL at h
  obtain ⟨h1, h2⟩ := Bool.and_eq_true_iff.mp h
  obtain ⟨h2, h3⟩ := Bool.and_eq_true_iff.mp h2
  exact ⟨of_decide_eq_true h1, of_decide_eq_true h2, fun c hc => of_decide_eq_true (List.all_eq_true.mp h3 c hc)⟩
theorem OkP.sub {zs ls : List Nat} (h1 : zs.length ≤ 40) (h2 : ls.length ≤ 8) (hl : ∀ c ∈ ls, c ∈ lett) (h : ∀ c ∈ zs, c ∈ ls) : OkP zs := ⟨h1, Nat.le_trans (met_sub_len h) h2, fun c hc => hl c (h c hc)⟩
theorem signs_map (zs : List Nat) : zs.map sg = (zs.map fun c => (⟨#[c]⟩ : Str)).map V.str := by rw [List.map_map]; rfl
theorem signs_room {zs : List Nat} (h : zs.length ≤ 100000) : ((zs.map fun c => (⟨#[c]⟩ : Str)).map (·.length)).sum + (zs.map fun c => (⟨#[c]⟩ : Str)).length * (Str.ofString "").length ≤ 16777216 := by
  have e : ((zs.map fun c => (⟨#[c]⟩ : Str)).map (·.length)) = zs.map fun _ => 1 := by
    rw [List.map_map]
    rfl
  have e2 : ∀ l : List Nat, (l.map fun _ => 1).sum = l.length := by
    intro l
    induction l with
    | nil => rfl
    | cons x l ih => simp [ih]; omega
  have e3 : (Str.ofString "").length = 0 := by decide
  rw [e, e2, e3]
  omega
/-! ### what occurs once -/
theorem cnt_pos {c : Nat} : ∀ {l : List Nat}, cnt c l = 1 → c ∈ l := fun {l} h => by
  by_cases q : c ∈ l
  · exact q
  · rw [cnt_none c l q] at h
    cases h
theorem count_tx (cs : List Nat) (c : Nat) : Txt.count (tx cs) ⟨#[c]⟩ = cnt c cs := count_is (tx cs) c
def alone (cs : List Nat) : List Nat := lett.filter fun c => decide (cnt c cs = 1)
def once (cs : List Nat) : List Nat := (met cs).filter fun c => decide (cnt c cs = 1)
theorem alone_asc (cs : List Nat) : (alone cs).Pairwise (· < ·) := List.Pairwise.filter _ lett_asc
theorem mem_alone {cs : List Nat} (h : OkP cs) {c : Nat} : c ∈ alone cs ↔ c ∈ once cs := by
  unfold alone once
  rw [List.mem_filter, List.mem_filter, mem_met]
  refine ⟨fun ⟨_, b⟩ => ⟨cnt_pos (of_decide_eq_true b), b⟩, fun ⟨a, b⟩ => ⟨h.low c a, b⟩⟩
theorem alone_len (cs : List Nat) : (alone cs).length ≤ 26 := List.length_filter_le _ _
theorem alone_low {cs : List Nat} {c : Nat} (h : c ∈ alone cs) : c ∈ lett := (List.mem_filter.mp h).1
theorem once_sorted {cs : List Nat} (h : OkP cs) {ys : List Str} (p : ys.Perm ((once cs).map fun c => (⟨#[c]⟩ : Str))) (s : sortedS ys = true) : ys = (alone cs).map fun c => (⟨#[c]⟩ : Str) := by
  obtain ⟨ls, rfl⟩ := signs_of ys fun y hy => by
    obtain ⟨c, _, rfl⟩ := List.mem_map.mp (p.mem_iff.mp hy)
    exact ⟨c, rfl⟩
  have q := sign_map_inj p
  have nd : ls.Nodup := q.nodup_iff.mpr ((met_nodup cs).sublist List.filter_sublist)
  rw [asc_eq ls (alone cs) (sorted_asc s nd) (alone_asc cs) fun x => (q.mem_iff).trans (mem_alone h).symm]
theorem once_len (cs : List Nat) (h : OkP cs) : (once cs).length ≤ 8 := Nat.le_trans (List.length_filter_le _ _) h.few
/-! ### the parts -/
def pstep (al : List Nat) (st : List (List Nat) × List Nat) (c : Nat) : List (List Nat) × List Nat := if c ∈ al then (st.1 ++ [st.2], []) else (st.1, st.2 ++ [c])
def full (l : List (List Nat)) : List (List Nat) := l.filter fun p => !decide (p = [])
def parts (al cs : List Nat) : List (List Nat) := full ((cs.foldl (pstep al) ([], [])).1 ++ [(cs.foldl (pstep al) ([], [])).2])
def mark (al cs : List Nat) : List Nat := cs.map fun c => if c ∈ al then 32 else c
theorem full_app (a b : List (List Nat)) : full (a ++ b) = full a ++ full b := List.filter_append ..
theorem full_one (p : List Nat) : full [p] = if p = [] then [] else [p] := by
  by_cases h : p = []
  · rw [if_pos h]
    unfold full
    rw [List.filter_cons_of_neg (by simp [h])]
    rfl
  · rw [if_neg h]
    unfold full
    rw [List.filter_cons_of_pos (by simp [h])]
    rfl
theorem space32 : Unicode.isSpace 32 = true := by decide +kernel
theorem space_no : ∀ c ∈ lett, Unicode.isSpace c = false := by decide +kernel
theorem fold_mark (al : List Nat) : ∀ (cs : List Nat), (∀ c ∈ cs, c ∈ lett) → ∀ (f : List (List Nat)) (p : List Nat), (mark al cs).foldl TL.wstep (full f, p) = (full (cs.foldl (pstep al) (f, p)).1, (cs.foldl (pstep al) (f, p)).2)
  | [], _, f, p => rfl
  | c :: r, h, f, p => by
    have ih := fold_mark al r fun x hx => h x (List.mem_cons_of_mem _ hx)
    show (mark al r).foldl TL.wstep (TL.wstep (full f, p) (if c ∈ al then 32 else c)) = _
    rw [List.foldl_cons]
    by_cases g : c ∈ al
    · rw [if_pos g]
      have e1 : pstep al (f, p) c = (f ++ [p], []) := if_pos g
      rw [e1, ← ih (f ++ [p]) [], full_app, full_one]
      by_cases z : p = []
      · have e2 : TL.wstep (full f, p) 32 = (full f, p) := (if_pos space32).trans (if_pos z)
        rw [e2, if_pos z, List.append_nil, z]
      · have e2 : TL.wstep (full f, p) 32 = (full f ++ [p], []) := (if_pos space32).trans (if_neg z)
        rw [e2, if_neg z]
    · rw [if_neg g]
      have e1 : pstep al (f, p) c = (f, p ++ [c]) := if_neg g
      have e2 : TL.wstep (full f, p) c = (full f, p ++ [c]) := if_neg (by rw [space_no c (h c List.mem_cons_self)]; exact Bool.false_ne_true)
      rw [e1, e2]
      exact ih f (p ++ [c])
theorem words_mark {al cs : List Nat} (h : ∀ c ∈ cs, c ∈ lett) : Txt.words (tx (mark al cs)) = (parts al cs).map tx := by
  have e := TL.words_tl (tx (mark al cs))
  have e2 : TL.wfin ((mark al cs).foldl TL.wstep ([], [])) = parts al cs := by
    have q := fold_mark al cs h [] []
    rw [show (full [] : List (List Nat)) = [] from rfl] at q
    rw [q]
    unfold TL.wfin parts
    rw [full_app, full_one]
    by_cases z : (cs.foldl (pstep al) ([], [])).2 = []
    · rw [if_pos z, if_pos z, List.append_nil]
    · rw [if_neg z, if_neg z]
  have e3 : (Txt.words (tx (mark al cs))).map (fun z : Str => z.cps.toList) = parts al cs := e.trans e2
  have e4 := congrArg (List.map tx) e3
  rw [List.map_map] at e4
  have e5 : (tx ∘ fun z : Str => z.cps.toList) = id := by
    funext z
    rfl
  rw [e5, List.map_id] at e4
  exact e4
/-- the parts lie within the pattern -/
theorem fold_in (al : List Nat) : ∀ (cs : List Nat) (f : List (List Nat)) (p : List Nat), (∀ q ∈ f, q.length ≤ 40 ∧ ∀ c ∈ q, c ∈ lett) → (∀ c ∈ p, c ∈ lett) → p.length + cs.length ≤ 40 → (∀ c ∈ cs, c ∈ lett) → f.length + cs.length ≤ 40 →
    (∀ q ∈ (cs.foldl (pstep al) (f, p)).1 ++ [(cs.foldl (pstep al) (f, p)).2], q.length ≤ 40 ∧ ∀ c ∈ q, c ∈ lett) ∧ (cs.foldl (pstep al) (f, p)).1.length ≤ 40
  | [], f, p, h1, h2, h3, _, h5 => by
    refine ⟨fun q hq => ?_, by simpa using h5⟩
    rcases List.mem_append.mp hq with z | z
    · exact h1 q z
    · rw [List.mem_singleton.mp z]
      exact ⟨by simpa using h3, h2⟩
  | c :: r, f, p, h1, h2, h3, h4, h5 => by
    rw [List.length_cons] at h3 h5
    rw [List.foldl_cons]
    by_cases g : c ∈ al
    · rw [show pstep al (f, p) c = (f ++ [p], []) from if_pos g]
      refine fold_in al r (f ++ [p]) [] (fun q hq => ?_) (fun c hc => nomatch hc) (by rw [List.length_nil]; omega) (fun x hx => h4 x (List.mem_cons_of_mem _ hx)) (by rw [List.length_append, List.length_singleton]; omega)
      rcases List.mem_append.mp hq with z | z
      · exact h1 q z
      · rw [List.mem_singleton.mp z]
        exact ⟨by omega, h2⟩
    · rw [show pstep al (f, p) c = (f, p ++ [c]) from if_neg g]
      refine fold_in al r f (p ++ [c]) h1 (fun x hx => ?_) (by rw [List.length_append, List.length_singleton]; omega) (fun x hx => h4 x (List.mem_cons_of_mem _ hx)) (by omega)
      rcases List.mem_append.mp hx with z | z
      · exact h2 x z
      · rw [List.mem_singleton.mp z]
        exact h4 c List.mem_cons_self
theorem fold_ok {cs : List Nat} (h : OkP cs) (al : List Nat) (i : Nat) : (∀ q ∈ ((cs.take i).foldl (pstep al) ([], [])).1 ++ [((cs.take i).foldl (pstep al) ([], [])).2], q.length ≤ 40 ∧ ∀ c ∈ q, c ∈ lett) ∧ ((cs.take i).foldl (pstep al) ([], [])).1.length ≤ 40 := by
  have hl : (cs.take i).length ≤ 40 := Nat.le_trans (List.length_take_le' ..) h.len
  exact fold_in al (cs.take i) [] [] (fun q hq => nomatch hq) (fun c hc => nomatch hc) (by rw [List.length_nil]; omega) (fun x hx => h.low x (List.mem_of_mem_take hx)) (by rw [List.length_nil]; omega)
theorem fold_succ {cs : List Nat} (al : List Nat) {i c : Nat} (hc : cs[i]? = some c) : (cs.take (i + 1)).foldl (pstep al) ([], []) = pstep al ((cs.take i).foldl (pstep al) ([], [])) c := by
  rw [List.take_add_one, hc, List.foldl_append]
  rfl
theorem full_in {l : List (List Nat)} : (full l).length ≤ l.length := List.length_filter_le ..
theorem full_take {l : List (List Nat)} {i : Nat} {q : List Nat} (h : l[i]? = some q) : full (l.take (i + 1)) = full (l.take i) ++ full [q] := by
  rw [List.take_add_one, h, full_app]
  rfl
theorem parts_in {cs : List Nat} (h : OkP cs) (al : List Nat) : (∀ q ∈ parts al cs, q.length ≤ 40 ∧ ∀ c ∈ q, c ∈ lett) ∧ (parts al cs).length ≤ 41 := by
  obtain ⟨h1, h2⟩ := fold_in al cs [] [] (fun q hq => nomatch hq) (fun c hc => nomatch hc) (by rw [List.length_nil]; have := h.len; omega) h.low (by rw [List.length_nil]; have := h.len; omega)
  refine ⟨fun q hq => h1 q ((List.mem_filter.mp hq).1), ?_⟩
  refine Nat.le_trans (List.length_filter_le _ _) ?_
  rw [List.length_append, List.length_singleton]
  omega
end Mo

namespace Mo
open PySem PySem.Spec PyProof.Rows L2
section
variable {P : Program} {w : World} {K : PySem.W.Frag} {mg : Str → Option Value} {base : Heap}
theorem notStr {d : PyData} (h : isStrD d = false) : patD d = false := by
  cases d <;> first | rfl | exact absurd (show true = false from h) (by decide)
theorem ok_pat {k : Nat} (T : Txt K mg) : FnOk P w K mg base CX0 (k + 1) T.aIsPattern T.dIsPattern ["value"] (spAsk patD) := by
  refine T.fIsPattern.ok scIsPattern (fun vs H Q E h => ?_) (fun cdv A outer s H vs Q E hr h => ?_)
  · obtain ⟨_, _, _, rfl, _⟩ := h
    rfl
  · obtain ⟨N, x, d, rfl, hd, hb, q⟩ := h
    refine ⟨_, (pss_cons (ps_if (PW.pt (pw_or (pt_not (pt_val (pe_callB call_isi (by rfl) T.m_isinstance (by decide +kernel) (pa_cons (pv 0) (pa_cons (pe_bltn (v := .ty "str") (by rfl) T.m_str (by decide +kernel) rfl) pa_nil))))) (pw_or1 (pt_cmpR op_gt (pe_callB call_len_str (by rfl) T.m_len PySem.boot_len (pa_cons (pv 0) pa_nil)) (pe_glob (v := .int 40) rfl T.m_LONGEST_PATTERN ⟨_, rfl⟩) (nomark _))))) (pss_one (ps_ret pe_bl)) pss_nil)
      (pss_one (ps_ret (pe_and (pe_cmpR op_le (pe_callB Mo.cr_lenK (by rfl) T.m_len PySem.boot_len (pa_cons (pe_callTy (Mo.cr_setS rfl) (by rfl) T.m_set (by decide +kernel) (pa_cons (pv 0) pa_nil)) pa_nil)) (pe_glob (v := .int 8) rfl T.m_MOST_VARIABLES ⟨_, rfl⟩) (nomark _)) (pe_one (pe_callB (cr_all rfl) (by rfl) T.m_all (by decide +kernel) (pa_cons (pe_lc (own := [("name", 1)]) (g := gName 1) (tt := tYes) rfl scIsPattern.nd (pi_str (pv 0)) (blkOk_by (N := ["value", "name"]) (sc := defScope sIsPattern) (by decide +kernel)) (fun _ _ _ _ _ => pg_name (i := 1) scIsPattern.nd rfl (Or.inl rfl)) (fun _ _ _ _ _ => pts_nil) (fun _ _ _ _ _ => (pe_cmpR op_in_sign (pv 1) (pe_glob (v := .str "abcdefghijklmnopqrstuvwxyz") rfl T.m_VARIABLES ⟨_, rfl⟩) rfl))) pa_nil))))))), ?_⟩
    have ty := hd.ty (K := K)
    refine ⟨_, rfl, _, _, .type (tyD d), .type "str", isStrD d, rfl, .ty "str", ty, kit_ty (kit_str d), isStrD d, rfl, ?_⟩
    cases e : isStrD d with
    | false =>
      have q0 := q H (Same.refl H)
      rw [notStr e] at q0
      exact iteT q0
    | true =>
      obtain ⟨cs, rfl, rfl⟩ := str_dx hd e
      simp only [PyData.bulk] at hb
      rw [tx_size] at hb
      have zp : patD (.str (tx cs)) = (decide (cs.length ≤ 40) && (decide ((met cs).length ≤ 8) && cs.all fun c => decide (c ∈ lett))) := rfl
      refine iteF ⟨_, rfl, _, rfl, Nat.le_trans (by rw [tx_len]; exact hb) (by decide), _, _, rfl, rfl, _, rfl, ite2 (fun e => ?_) (fun e => ?_)⟩
      · have h1 := of_decide_eq_true e
        rw [tx_len] at h1
        have q0 := q H (Same.refl H)
        rw [zp, decide_eq_false (by omega)] at q0
        exact q0
      · have h1 : ¬ (40 : Int) < (tx cs).length := fun z => e (decide_eq_true z)
        rw [tx_len] at h1
        rw [zp, decide_eq_true (by omega), Bool.true_and] at q
        refine ⟨_, rfl, tx cs, rfl, by rw [tx_size]; omega, fun p np => ?_⟩
        have hml := met_length_le cs
        refine ⟨p, _, _, rfl, upd_same, by rw [tx_list]; omega, _, _, rfl, rfl, decide ((met cs).length ≤ 8), congrArg V.bl (decide_eq_decide.mpr (by rw [tx_list]; omega)), ?_⟩
        have sm := same_new (o := SetK P w p (inS (tx cs).cps.toList) (met (tx cs).cps.toList).length) np
        cases e8 : decide ((met cs).length ≤ 8) with
        | false =>
          rw [e8] at q
          exact q _ sm
        | true =>
          rw [e8, Bool.true_and] at q
          refine iteT ⟨_, rfl, tx cs, rfl, fun D nD => lc_it walk_str (fun i H' => Same (upd H p (SetK P w p (inS (tx cs).cps.toList) (met (tx cs).cps.toList).length)) H' ∧ H' D = some (.lst (((cs.take i).map fun c => decide (c ∈ lett)).map V.bl))) ?_ ?_ ?_ ?_⟩
          · exact ⟨same_new nD, upd_same⟩
          · exact fun _ _ _ _ => trivial
          · rintro i x H1 H2 hi ⟨s1, hD⟩ ⟨rfl, c, hc, rfl⟩
            rw [tx_get] at hc
            refine ⟨rfl, _, rfl, c, _, rfl, rfl, _, hD, fitsLt (by rw [List.length_map, List.length_map, List.length_take]; omega), Same.put s1 nD, ?_⟩
            rw [upd_same, lett_text, List.take_add_one, hc, List.map_append, List.map_append]
            rfl
          · rintro H1 ⟨s1, hD⟩
            rw [tx_size, List.take_length] at hD
            refine ⟨D, cs.map fun c => decide (c ∈ lett), rfl, SqL.of hD, ?_⟩
            rw [show (cs.map fun c => decide (c ∈ lett)).all id = cs.all fun c => decide (c ∈ lett) by rw [List.all_map]; rfl]
            exact q H1 (sm.trans s1)
def spChkP (C : Addr) : Sp := fun vs H Q E => ∃ (N : Addr → Prop) (x : V) (d : PyData), vs = [x] ∧ Dx N H x d ∧ d.bulk ≤ 1000000 ∧ (patD d = true → ∀ H', Same H H' → Q .non H') ∧
  (patD d = false → ∀ dd H', H dd = none → Same H H' → H' dd = some (.xd [("value", x)]) → E (.ref C) (some dd) H')
theorem ok_initPat {k : Nat} (T : Txt K mg) : FnOk P w K mg base CX0 (k + 1) T.iInvalidPattern T.dInvalidPattern ["self", "value"] (spInit T.cInvalidPattern "value") := by
  refine T.fInitInvalidPattern.ok scInitInvalidPattern (fun vs H Q E h => ?_) (fun cdv A outer s H vs Q E hr h => ?_)
  · obtain ⟨a, y, rfl, _⟩ := h
    rfl
  · obtain ⟨a, y, rfl, ha, q⟩ := h
    refine ⟨_, pss_one (ps_ost (pv 0) (pv 1)), ?_⟩
    exact ⟨_, rfl, _, rfl, a, T.cInvalidPattern, rfl, T.xInvalidPattern.oex, T.xInvalidPattern.no, .inl ⟨ha, fun dx nd ne => q dx nd ne⟩⟩
theorem ok_chkP {k : Nat} (T : Txt K mg) : FnOk P w K mg base (L2.CX P w) (k + 4) T.aCheckPattern T.dCheckPattern ["value"] (spChkP T.cInvalidPattern) := by
  have GIsPattern : FnOk P w K mg base CX0 (k + 3) T.aIsPattern T.dIsPattern ["value"] (spAsk patD) := ok_pat T
  have GInitInvalidPattern : FnOk P w K mg base CX0 (k + 2) T.iInvalidPattern T.dInvalidPattern ["self", "value"] (spInit T.cInvalidPattern "value") := ok_initPat T
  refine T.fCheckPattern.okX scCheckPattern (fun vs H Q E h => ?_) (fun cdv A outer s H vs Q E hr h => ?_)
  · obtain ⟨_, _, _, rfl, _⟩ := h
    rfl
  · obtain ⟨N, x, d, rfl, hd, hb, q1, q2⟩ := h
    refine ⟨_, (pss_one (ps_if (pt_not (pt_val (pe_call GIsPattern hr (by rfl) T.gIsPattern T.fIsPattern.kp T.bIsPattern .nil pass0 (pa_cons (pv 0) pa_nil)))) (pss_one (ps_raise rfl (takes_of rfl rfl rfl rfl) (pmk_oex T.xInvalidPattern.oex T.xInvalidPattern.iC T.xInvalidPattern.tI GInitInvalidPattern hr T.bInitInvalidPattern .nil pass0 (by rfl) T.eInvalidPattern (pa_cons (pv 0) pa_nil)))) pss_nil)), ?_⟩
    refine ⟨_, rfl, N, x, d, rfl, hd, hb, fun H1 s1 => ⟨patD d, rfl, ?_⟩⟩
    cases e : patD d with
    | false => exact iteT ⟨_, rfl, err_read fun dd H' nd s2 hdx => q2 e dd H' (s1.free nd) (s1.trans s2) hdx⟩
    | true => exact iteF (q1 e H1 s1)
end
end Mo

namespace Mo
open PySem PySem.Spec PyProof.Rows L2
/-- what may be refused: by the error of this class, with the value x in the field f -/
def OutF (f : Str) (C : Addr) (H : Hp) (E : XK) (x : V) : Prop := ∀ dd H', H dd = none → Same H H' → H' dd = some (.xd [(f, x)]) → E (.ref C) (some dd) H'
theorem OutF.same {f : Str} {C : Addr} {H H1 : Hp} {E : XK} {x : V} (h : OutF f C H E x) (s : Same H H1) : OutF f C H1 E x := fun dd H' nd s2 hd => h dd H' (s.free nd) (s.trans s2) hd
/-- data that repr writes -/
def Shw (e : PyData) : Prop := e.showable = true ∧ e.depth ≤ 40 ∧ e.shown.length ≤ sizeLine
/-- what _law_raised tells of a value -/
def TVal (C : Addr) (wd : Str) : (XK → Hp → VK → Prop) → Hp → VK → Prop := fun tl H Q => ∃ (N : Addr → Prop) (x : V) (e : PyData), Dx N H x e ∧ Shw e ∧ (∀ (E : XK) (Q1 : VK), OutF "value" C H E x → tl E H Q1) ∧
  ∀ H' p, Same H H' → H' p = some (.tup [.str wd, .str e.shown]) → Q (.ref p) H'
def TBig (C : Addr) : (XK → Hp → VK → Prop) → Hp → VK → Prop := fun tl H Q => (∀ (E : XK) (Q1 : VK), OutF "limit" C H E (.int 400) → tl E H Q1) ∧
  ∀ H' p, Same H H' → H' p = some (.tup [.str (Str.ofString "large"), .str (Str.ofString "400")]) → Q (.ref p) H'
def TRai (c0 c1 c2 c3 : Addr) : (XK → Hp → VK → Prop) → Hp → VK → Prop := fun tl H Q =>
  TVal c0 (Str.ofString "count") tl H Q ∨ TVal c1 (Str.ofString "pattern") tl H Q ∨ TVal c2 (Str.ofString "text") tl H Q ∨ TBig c3 tl H Q
section
variable {P : Program} {w : World} {K : PySem.W.Frag} {mg : Str → Option Value} {base : Heap}
theorem anyInvalidCount (T : Txt K mg) : PySem.W.exmAny K (.ref T.cInvalidCount) [.ref T.cInvalidCount, .ref T.cInvalidPattern, .ref T.cInvalidText, .ref T.cTooLarge] = some true := by
  simp [PySem.W.exmAny, T.xInvalidCount.te, T.mInvalidCountInvalidPattern, T.mInvalidCountInvalidText, T.mInvalidCountTooLarge]
theorem anyInvalidPattern (T : Txt K mg) : PySem.W.exmAny K (.ref T.cInvalidPattern) [.ref T.cInvalidCount, .ref T.cInvalidPattern, .ref T.cInvalidText, .ref T.cTooLarge] = some true := by
  simp [PySem.W.exmAny, T.mInvalidPatternInvalidCount, T.xInvalidPattern.te, T.mInvalidPatternInvalidText, T.mInvalidPatternTooLarge]
theorem anyInvalidText (T : Txt K mg) : PySem.W.exmAny K (.ref T.cInvalidText) [.ref T.cInvalidCount, .ref T.cInvalidPattern, .ref T.cInvalidText, .ref T.cTooLarge] = some true := by
  simp [PySem.W.exmAny, T.mInvalidTextInvalidCount, T.mInvalidTextInvalidPattern, T.xInvalidText.te, T.mInvalidTextTooLarge]
theorem anyTooLarge (T : Txt K mg) : PySem.W.exmAny K (.ref T.cTooLarge) [.ref T.cInvalidCount, .ref T.cInvalidPattern, .ref T.cInvalidText, .ref T.cTooLarge] = some true := by
  simp [PySem.W.exmAny, T.mTooLargeInvalidCount, T.mTooLargeInvalidPattern, T.mTooLargeInvalidText, T.xTooLarge.te]
theorem shown400 : (PyData.int 400).shown = Str.ofString "400" := by decide +kernel
theorem givesLRaised (T : Txt K mg) (hbm : ∃ mm, base.Ns sysModules mm) {N : List Str} {qual : Str} {sc : Scope} {f0 : Addr} {cd0 : Value} {A : Around} {outer : List Env} {s0 : Shared} {H0 : Hp} {E0 : XK} {k : Nat} {q : Str} (hgd : A.guards = some []) :
    ∀ cdv : Value, GivesF (cxOf CX0 P w K mg base N qual sc f0 cd0 A outer s0 H0 E0).nox ["_law_call", "_law_caught", "e", "_law_kinds"] "_law_raised" (defScope sLRaised) T.aLRaised cdv (defBody sLRaised) "_law_call" q k (TRai T.cInvalidCount T.cInvalidPattern T.cInvalidText T.cTooLarge) := by
  intro cdv fn cc F s H Q tl _ hr act hco hfn h
  refine ⟨_, (pss_cons (ps_set (i := 1) scLRaised.nd rfl (Or.inl rfl) pe_non)
      (pss_cons (Mo.ps_try_keepT (i := 2) (j := 1) rfl rfl scLRaised.nd rfl rfl rfl rfl (Mo.testT4 ⟨rfl, by decide, Or.inl T.eInvalidCount⟩ ⟨rfl, by decide, Or.inl T.eInvalidPattern⟩ ⟨rfl, by decide, Or.inl T.eInvalidText⟩ ⟨rfl, by decide, Or.inl T.eTooLarge⟩) takes0 (fun W pn xe tk _ => (pss_one (ps_expr (act _ _ _ _ _ tk)))) (fun a oe pn => pss_one (ps_set (i := 1) scLRaised.nd rfl (Or.inl rfl) (pv 2))))
      (pss_cons (ps_set (i := 3) scLRaised.nd rfl (Or.inl rfl) (pe_lst (pa_cons (pe_callB Mo.cr_isX (by rfl) T.m_isinstance (by decide +kernel) (pa_cons (pv 1) (pa_cons (pe_glob (v := .ref T.cInvalidCount) rfl T.eInvalidCount rfl) pa_nil))) (pa_cons (pe_callB Mo.cr_isX (by rfl) T.m_isinstance (by decide +kernel) (pa_cons (pv 1) (pa_cons (pe_glob (v := .ref T.cInvalidPattern) rfl T.eInvalidPattern rfl) pa_nil))) (pa_cons (pe_callB Mo.cr_isX (by rfl) T.m_isinstance (by decide +kernel) (pa_cons (pv 1) (pa_cons (pe_glob (v := .ref T.cInvalidText) rfl T.eInvalidText rfl) pa_nil))) pa_nil)))))
      (pss_cons (ps_expr (pe_bm PySem.F.plainAttrs_list PySem.F.slot_list_append PySem.F.type_list_append mt_append (pv 3) (pa_cons (pe_callB Mo.cr_isX (by rfl) T.m_isinstance (by decide +kernel) (pa_cons (pv 1) (pa_cons (pe_glob (v := .ref T.cTooLarge) rfl T.eTooLarge rfl) pa_nil))) pa_nil)))
      (pss_cons (ps_if (pt_cmpR op_ne (pe_bm PySem.F.plainAttrs_list PySem.F.slot_list_count PySem.F.type_list_count (Mo.mt_countB hr.units) (pv 3) (pa_cons pe_bl pa_nil)) pe_int (nomark _)) (pss_one (ps_ret (pe_tup (pa_cons pe_str (pa_cons pe_non pa_nil))))) pss_nil)
      (pss_cons (ps_if (pt_val (pe_callB Mo.cr_isX (by rfl) T.m_isinstance (by decide +kernel) (pa_cons (pv 1) (pa_cons (pe_glob (v := .ref T.cTooLarge) rfl T.eTooLarge rfl) pa_nil)))) (pss_one (ps_ret (pe_tup (pa_cons (pe_ifExp (pt_val (pe_callB Mo.cr_isX (by rfl) T.m_isinstance (by decide +kernel) (pa_cons (pv 1) (pa_cons (pe_bltn (v := .ty "OverflowError") (by rfl) T.m_OverflowError (by decide +kernel) rfl) pa_nil)))) pe_str pe_str) (pa_cons (pe_callB (Mo.cr_reprX hbm hgd hr.units) (by rfl) T.m_repr (by decide +kernel) (pa_cons (Mo.pe_xv (pv 1)) pa_nil)) pa_nil))))) pss_nil)
      (pss_cons (ps_if (pt_not (pt_val (pe_callB Mo.cr_isX (by rfl) T.m_isinstance (by decide +kernel) (pa_cons (pv 1) (pa_cons (pe_bltn (v := .ty "ValueError") (by rfl) T.m_ValueError (by decide +kernel) rfl) pa_nil))))) (pss_one (ps_ret (pe_tup (pa_cons pe_str (pa_cons pe_non pa_nil))))) pss_nil)
      (pss_one (ps_ret (pe_tup (pa_cons (pe_ix ix_list (pe_lst (pa_cons pe_str (pa_cons pe_str (pa_cons pe_str pa_nil)))) (pe_bm PySem.F.plainAttrs_list PySem.F.slot_list_index PySem.F.type_list_index (Mo.mt_indexB (Mo.room65 hr)) (pv 3) (pa_cons pe_bl pa_nil)) (fun _ _ => rfl)) (pa_cons (pe_callB (Mo.cr_reprX hbm hgd hr.units) (by rfl) T.m_repr (by decide +kernel) (pa_cons (Mo.pe_xv (pv 1)) pa_nil)) pa_nil)))))))))))), ?_⟩
  refine ⟨rfl, hco, hfn, fun cls d H' => _, fun cls d H' z => z, ?_⟩
  rcases h with ⟨N0, x, e, dx, ⟨f1, f2, f3⟩, hE, q⟩ | ⟨N0, x, e, dx, ⟨f1, f2, f3⟩, hE, q⟩ | ⟨N0, x, e, dx, ⟨f1, f2, f3⟩, hE, q⟩ | ⟨hE, q⟩
  · refine hE _ _ fun dd H1 nd s1 hd => ⟨true, anyInvalidCount T, fun _ a na => ?_, fun z => nomatch z⟩
    have s2 := same_new (o := exV a (.ref T.cInvalidCount) (some dd)) na
    have er : ErrAt (upd H1 a (exV a (.ref T.cInvalidCount) (some dd))) a T.cInvalidCount dd [("value", x)] := ⟨upd_same, s2 _ _ hd⟩
    have s12 := s1.trans s2
    generalize upd H1 a (exV a (.ref T.cInvalidCount) (some dd)) = H2 at *
    refine ⟨_, rfl, a, T.cInvalidCount, dd, _, .ref T.cInvalidCount, .ref T.cInvalidCount, true, rfl, er, T.xInvalidCount.exc, .own _, T.oInvalidCountInvalidCount, _, rfl, a, T.cInvalidCount, dd, _, .ref T.cInvalidPattern, .ref T.cInvalidPattern, false, rfl, er, T.xInvalidCount.exc, .own _, T.oInvalidCountInvalidPattern, _, rfl, a, T.cInvalidCount, dd, _, .ref T.cInvalidText, .ref T.cInvalidText, false, rfl, er, T.xInvalidCount.exc, .own _, T.oInvalidCountInvalidText, by show 3 ≤ sizeLine; decide, fun l nl => ?_⟩
    have s3 := same_new (o := .lst [V.bl true, V.bl false, V.bl false]) nl
    have hl : upd H2 l (.lst [V.bl true, V.bl false, V.bl false]) l = some (.lst [V.bl true, V.bl false, V.bl false]) := upd_same
    have er3 : ErrAt (upd H2 l (.lst [V.bl true, V.bl false, V.bl false])) a T.cInvalidCount dd [("value", x)] := ⟨s3 _ _ er.1, s3 _ _ er.2⟩
    refine ⟨_, rfl, .inl ⟨rfl, _, SqL.of hl⟩, _, rfl, a, T.cInvalidCount, dd, _, .ref T.cTooLarge, .ref T.cTooLarge, false, rfl, er3, T.xInvalidCount.exc, .own _, T.oInvalidCountTooLarge, l, _, _, rfl, rfl, hl, by show 3 < sizeLine; decide, ?_⟩
    have hl4 : upd (upd H2 l (.lst [V.bl true, V.bl false, V.bl false])) l (.lst ([V.bl true, V.bl false, V.bl false] ++ [V.bl false])) l = some (.lst ([true, false, false, false].map V.bl)) := upd_same
    have er4 : ErrAt (upd (upd H2 l (.lst [V.bl true, V.bl false, V.bl false])) l (.lst ([V.bl true, V.bl false, V.bl false] ++ [V.bl false]))) a T.cInvalidCount dd [("value", x)] :=
      ⟨by rw [upd_ne (ne_of er3.1 hl (fun z => by unfold exV at z; cases z))]; exact er3.1, by rw [upd_ne (ne_of er3.2 hl (fun z => by cases z))]; exact er3.2⟩
    have s14 : Same H (upd (upd H2 l (.lst [V.bl true, V.bl false, V.bl false])) l (.lst ([V.bl true, V.bl false, V.bl false] ++ [V.bl false]))) := s12.trans (Same.put s3 nl)
    generalize upd (upd H2 l (.lst [V.bl true, V.bl false, V.bl false])) l (.lst ([V.bl true, V.bl false, V.bl false] ++ [V.bl false])) = H4 at *
    refine ⟨_, rfl, .inl ⟨rfl, _, SqL.of hl4⟩, l, [true, false, false, false], true, rfl, rfl, SqL.of hl4, rfl, false, rfl, iteF ?_⟩
    refine ⟨_, rfl, a, T.cInvalidCount, dd, _, .ref T.cTooLarge, .ref T.cTooLarge, false, rfl, er4, T.xInvalidCount.exc, .own _, T.oInvalidCountTooLarge, false, rfl, ?_⟩
    refine iteF ⟨_, rfl, a, T.cInvalidCount, dd, _, .ty "ValueError", .type "ValueError", true, rfl, er4, T.xInvalidCount.exc, .ty _, T.oInvalidCountValueError, true, rfl, iteF ?_⟩
    refine ⟨by show 3 ≤ sizeLine; decide, fun m nm => ?_⟩
    have s5 := same_new (o := .lst [V.str (Str.ofString "count"), V.str (Str.ofString "pattern"), V.str (Str.ofString "text")]) nm
    have hm : upd H4 m (.lst [V.str (Str.ofString "count"), V.str (Str.ofString "pattern"), V.str (Str.ofString "text")]) m = some (.lst [V.str (Str.ofString "count"), V.str (Str.ofString "pattern"), V.str (Str.ofString "text")]) := upd_same
    refine ⟨_, rfl, .inl ⟨rfl, _, SqL.of (s5 _ _ hl4)⟩, l, [true, false, false, false], true, 0, rfl, rfl, SqL.of (s5 _ _ hl4), rfl, by decide, m, _, ((0 : Nat) : Int), _, rfl, rfl, SqL.of hm, atI_nat (j := 0) rfl, ?_⟩
    refine ⟨_, rfl, a, T.cInvalidCount, dd, _, x, rfl, ⟨s5 _ _ er4.1, s5 _ _ er4.2⟩, T.xInvalidCount.xf, T.xInvalidCount.no, by simp [List.lookup], N0, x, e, rfl, dx.same (s14.trans s5), f1, f2, f3, ?_⟩
    refine ⟨by show 2 ≤ sizeLine; decide, fun p np => ?_⟩
    exact q _ p ((s14.trans s5).trans (same_new np)) upd_same
  · refine hE _ _ fun dd H1 nd s1 hd => ⟨true, anyInvalidPattern T, fun _ a na => ?_, fun z => nomatch z⟩
    have s2 := same_new (o := exV a (.ref T.cInvalidPattern) (some dd)) na
    have er : ErrAt (upd H1 a (exV a (.ref T.cInvalidPattern) (some dd))) a T.cInvalidPattern dd [("value", x)] := ⟨upd_same, s2 _ _ hd⟩
    have s12 := s1.trans s2
    generalize upd H1 a (exV a (.ref T.cInvalidPattern) (some dd)) = H2 at *
    refine ⟨_, rfl, a, T.cInvalidPattern, dd, _, .ref T.cInvalidCount, .ref T.cInvalidCount, false, rfl, er, T.xInvalidPattern.exc, .own _, T.oInvalidPatternInvalidCount, _, rfl, a, T.cInvalidPattern, dd, _, .ref T.cInvalidPattern, .ref T.cInvalidPattern, true, rfl, er, T.xInvalidPattern.exc, .own _, T.oInvalidPatternInvalidPattern, _, rfl, a, T.cInvalidPattern, dd, _, .ref T.cInvalidText, .ref T.cInvalidText, false, rfl, er, T.xInvalidPattern.exc, .own _, T.oInvalidPatternInvalidText, by show 3 ≤ sizeLine; decide, fun l nl => ?_⟩
    have s3 := same_new (o := .lst [V.bl false, V.bl true, V.bl false]) nl
    have hl : upd H2 l (.lst [V.bl false, V.bl true, V.bl false]) l = some (.lst [V.bl false, V.bl true, V.bl false]) := upd_same
    have er3 : ErrAt (upd H2 l (.lst [V.bl false, V.bl true, V.bl false])) a T.cInvalidPattern dd [("value", x)] := ⟨s3 _ _ er.1, s3 _ _ er.2⟩
    refine ⟨_, rfl, .inl ⟨rfl, _, SqL.of hl⟩, _, rfl, a, T.cInvalidPattern, dd, _, .ref T.cTooLarge, .ref T.cTooLarge, false, rfl, er3, T.xInvalidPattern.exc, .own _, T.oInvalidPatternTooLarge, l, _, _, rfl, rfl, hl, by show 3 < sizeLine; decide, ?_⟩
    have hl4 : upd (upd H2 l (.lst [V.bl false, V.bl true, V.bl false])) l (.lst ([V.bl false, V.bl true, V.bl false] ++ [V.bl false])) l = some (.lst ([false, true, false, false].map V.bl)) := upd_same
    have er4 : ErrAt (upd (upd H2 l (.lst [V.bl false, V.bl true, V.bl false])) l (.lst ([V.bl false, V.bl true, V.bl false] ++ [V.bl false]))) a T.cInvalidPattern dd [("value", x)] :=
      ⟨by rw [upd_ne (ne_of er3.1 hl (fun z => by unfold exV at z; cases z))]; exact er3.1, by rw [upd_ne (ne_of er3.2 hl (fun z => by cases z))]; exact er3.2⟩
    have s14 : Same H (upd (upd H2 l (.lst [V.bl false, V.bl true, V.bl false])) l (.lst ([V.bl false, V.bl true, V.bl false] ++ [V.bl false]))) := s12.trans (Same.put s3 nl)
    generalize upd (upd H2 l (.lst [V.bl false, V.bl true, V.bl false])) l (.lst ([V.bl false, V.bl true, V.bl false] ++ [V.bl false])) = H4 at *
    refine ⟨_, rfl, .inl ⟨rfl, _, SqL.of hl4⟩, l, [false, true, false, false], true, rfl, rfl, SqL.of hl4, rfl, false, rfl, iteF ?_⟩
    refine ⟨_, rfl, a, T.cInvalidPattern, dd, _, .ref T.cTooLarge, .ref T.cTooLarge, false, rfl, er4, T.xInvalidPattern.exc, .own _, T.oInvalidPatternTooLarge, false, rfl, ?_⟩
    refine iteF ⟨_, rfl, a, T.cInvalidPattern, dd, _, .ty "ValueError", .type "ValueError", true, rfl, er4, T.xInvalidPattern.exc, .ty _, T.oInvalidPatternValueError, true, rfl, iteF ?_⟩
    refine ⟨by show 3 ≤ sizeLine; decide, fun m nm => ?_⟩
    have s5 := same_new (o := .lst [V.str (Str.ofString "count"), V.str (Str.ofString "pattern"), V.str (Str.ofString "text")]) nm
    have hm : upd H4 m (.lst [V.str (Str.ofString "count"), V.str (Str.ofString "pattern"), V.str (Str.ofString "text")]) m = some (.lst [V.str (Str.ofString "count"), V.str (Str.ofString "pattern"), V.str (Str.ofString "text")]) := upd_same
    refine ⟨_, rfl, .inl ⟨rfl, _, SqL.of (s5 _ _ hl4)⟩, l, [false, true, false, false], true, 1, rfl, rfl, SqL.of (s5 _ _ hl4), rfl, by decide, m, _, ((1 : Nat) : Int), _, rfl, rfl, SqL.of hm, atI_nat (j := 1) rfl, ?_⟩
    refine ⟨_, rfl, a, T.cInvalidPattern, dd, _, x, rfl, ⟨s5 _ _ er4.1, s5 _ _ er4.2⟩, T.xInvalidPattern.xf, T.xInvalidPattern.no, by simp [List.lookup], N0, x, e, rfl, dx.same (s14.trans s5), f1, f2, f3, ?_⟩
    refine ⟨by show 2 ≤ sizeLine; decide, fun p np => ?_⟩
    exact q _ p ((s14.trans s5).trans (same_new np)) upd_same
  · refine hE _ _ fun dd H1 nd s1 hd => ⟨true, anyInvalidText T, fun _ a na => ?_, fun z => nomatch z⟩
    have s2 := same_new (o := exV a (.ref T.cInvalidText) (some dd)) na
    have er : ErrAt (upd H1 a (exV a (.ref T.cInvalidText) (some dd))) a T.cInvalidText dd [("value", x)] := ⟨upd_same, s2 _ _ hd⟩
    have s12 := s1.trans s2
    generalize upd H1 a (exV a (.ref T.cInvalidText) (some dd)) = H2 at *
    refine ⟨_, rfl, a, T.cInvalidText, dd, _, .ref T.cInvalidCount, .ref T.cInvalidCount, false, rfl, er, T.xInvalidText.exc, .own _, T.oInvalidTextInvalidCount, _, rfl, a, T.cInvalidText, dd, _, .ref T.cInvalidPattern, .ref T.cInvalidPattern, false, rfl, er, T.xInvalidText.exc, .own _, T.oInvalidTextInvalidPattern, _, rfl, a, T.cInvalidText, dd, _, .ref T.cInvalidText, .ref T.cInvalidText, true, rfl, er, T.xInvalidText.exc, .own _, T.oInvalidTextInvalidText, by show 3 ≤ sizeLine; decide, fun l nl => ?_⟩
    have s3 := same_new (o := .lst [V.bl false, V.bl false, V.bl true]) nl
    have hl : upd H2 l (.lst [V.bl false, V.bl false, V.bl true]) l = some (.lst [V.bl false, V.bl false, V.bl true]) := upd_same
    have er3 : ErrAt (upd H2 l (.lst [V.bl false, V.bl false, V.bl true])) a T.cInvalidText dd [("value", x)] := ⟨s3 _ _ er.1, s3 _ _ er.2⟩
    refine ⟨_, rfl, .inl ⟨rfl, _, SqL.of hl⟩, _, rfl, a, T.cInvalidText, dd, _, .ref T.cTooLarge, .ref T.cTooLarge, false, rfl, er3, T.xInvalidText.exc, .own _, T.oInvalidTextTooLarge, l, _, _, rfl, rfl, hl, by show 3 < sizeLine; decide, ?_⟩
    have hl4 : upd (upd H2 l (.lst [V.bl false, V.bl false, V.bl true])) l (.lst ([V.bl false, V.bl false, V.bl true] ++ [V.bl false])) l = some (.lst ([false, false, true, false].map V.bl)) := upd_same
    have er4 : ErrAt (upd (upd H2 l (.lst [V.bl false, V.bl false, V.bl true])) l (.lst ([V.bl false, V.bl false, V.bl true] ++ [V.bl false]))) a T.cInvalidText dd [("value", x)] :=
      ⟨by rw [upd_ne (ne_of er3.1 hl (fun z => by unfold exV at z; cases z))]; exact er3.1, by rw [upd_ne (ne_of er3.2 hl (fun z => by cases z))]; exact er3.2⟩
    have s14 : Same H (upd (upd H2 l (.lst [V.bl false, V.bl false, V.bl true])) l (.lst ([V.bl false, V.bl false, V.bl true] ++ [V.bl false]))) := s12.trans (Same.put s3 nl)
    generalize upd (upd H2 l (.lst [V.bl false, V.bl false, V.bl true])) l (.lst ([V.bl false, V.bl false, V.bl true] ++ [V.bl false])) = H4 at *
    refine ⟨_, rfl, .inl ⟨rfl, _, SqL.of hl4⟩, l, [false, false, true, false], true, rfl, rfl, SqL.of hl4, rfl, false, rfl, iteF ?_⟩
    refine ⟨_, rfl, a, T.cInvalidText, dd, _, .ref T.cTooLarge, .ref T.cTooLarge, false, rfl, er4, T.xInvalidText.exc, .own _, T.oInvalidTextTooLarge, false, rfl, ?_⟩
    refine iteF ⟨_, rfl, a, T.cInvalidText, dd, _, .ty "ValueError", .type "ValueError", true, rfl, er4, T.xInvalidText.exc, .ty _, T.oInvalidTextValueError, true, rfl, iteF ?_⟩
    refine ⟨by show 3 ≤ sizeLine; decide, fun m nm => ?_⟩
    have s5 := same_new (o := .lst [V.str (Str.ofString "count"), V.str (Str.ofString "pattern"), V.str (Str.ofString "text")]) nm
    have hm : upd H4 m (.lst [V.str (Str.ofString "count"), V.str (Str.ofString "pattern"), V.str (Str.ofString "text")]) m = some (.lst [V.str (Str.ofString "count"), V.str (Str.ofString "pattern"), V.str (Str.ofString "text")]) := upd_same
    refine ⟨_, rfl, .inl ⟨rfl, _, SqL.of (s5 _ _ hl4)⟩, l, [false, false, true, false], true, 2, rfl, rfl, SqL.of (s5 _ _ hl4), rfl, by decide, m, _, ((2 : Nat) : Int), _, rfl, rfl, SqL.of hm, atI_nat (j := 2) rfl, ?_⟩
    refine ⟨_, rfl, a, T.cInvalidText, dd, _, x, rfl, ⟨s5 _ _ er4.1, s5 _ _ er4.2⟩, T.xInvalidText.xf, T.xInvalidText.no, by simp [List.lookup], N0, x, e, rfl, dx.same (s14.trans s5), f1, f2, f3, ?_⟩
    refine ⟨by show 2 ≤ sizeLine; decide, fun p np => ?_⟩
    exact q _ p ((s14.trans s5).trans (same_new np)) upd_same
  · refine hE _ _ fun dd H1 nd s1 hd => ⟨true, anyTooLarge T, fun _ a na => ?_, fun z => nomatch z⟩
    have s2 := same_new (o := exV a (.ref T.cTooLarge) (some dd)) na
    have er : ErrAt (upd H1 a (exV a (.ref T.cTooLarge) (some dd))) a T.cTooLarge dd [("limit", .int 400)] := ⟨upd_same, s2 _ _ hd⟩
    have s12 := s1.trans s2
    generalize upd H1 a (exV a (.ref T.cTooLarge) (some dd)) = H2 at *
    refine ⟨_, rfl, a, T.cTooLarge, dd, _, .ref T.cInvalidCount, .ref T.cInvalidCount, false, rfl, er, T.xTooLarge.exc, .own _, T.oTooLargeInvalidCount, _, rfl, a, T.cTooLarge, dd, _, .ref T.cInvalidPattern, .ref T.cInvalidPattern, false, rfl, er, T.xTooLarge.exc, .own _, T.oTooLargeInvalidPattern, _, rfl, a, T.cTooLarge, dd, _, .ref T.cInvalidText, .ref T.cInvalidText, false, rfl, er, T.xTooLarge.exc, .own _, T.oTooLargeInvalidText, by show 3 ≤ sizeLine; decide, fun l nl => ?_⟩
    have s3 := same_new (o := .lst [V.bl false, V.bl false, V.bl false]) nl
    have hl : upd H2 l (.lst [V.bl false, V.bl false, V.bl false]) l = some (.lst [V.bl false, V.bl false, V.bl false]) := upd_same
    have er3 : ErrAt (upd H2 l (.lst [V.bl false, V.bl false, V.bl false])) a T.cTooLarge dd [("limit", .int 400)] := ⟨s3 _ _ er.1, s3 _ _ er.2⟩
    refine ⟨_, rfl, .inl ⟨rfl, _, SqL.of hl⟩, _, rfl, a, T.cTooLarge, dd, _, .ref T.cTooLarge, .ref T.cTooLarge, true, rfl, er3, T.xTooLarge.exc, .own _, T.oTooLargeTooLarge, l, _, _, rfl, rfl, hl, by show 3 < sizeLine; decide, ?_⟩
    have hl4 : upd (upd H2 l (.lst [V.bl false, V.bl false, V.bl false])) l (.lst ([V.bl false, V.bl false, V.bl false] ++ [V.bl true])) l = some (.lst ([false, false, false, true].map V.bl)) := upd_same
    have er4 : ErrAt (upd (upd H2 l (.lst [V.bl false, V.bl false, V.bl false])) l (.lst ([V.bl false, V.bl false, V.bl false] ++ [V.bl true]))) a T.cTooLarge dd [("limit", .int 400)] :=
      ⟨by rw [upd_ne (ne_of er3.1 hl (fun z => by unfold exV at z; cases z))]; exact er3.1, by rw [upd_ne (ne_of er3.2 hl (fun z => by cases z))]; exact er3.2⟩
    have s14 : Same H (upd (upd H2 l (.lst [V.bl false, V.bl false, V.bl false])) l (.lst ([V.bl false, V.bl false, V.bl false] ++ [V.bl true]))) := s12.trans (Same.put s3 nl)
    generalize upd (upd H2 l (.lst [V.bl false, V.bl false, V.bl false])) l (.lst ([V.bl false, V.bl false, V.bl false] ++ [V.bl true])) = H4 at *
    refine ⟨_, rfl, .inl ⟨rfl, _, SqL.of hl4⟩, l, [false, false, false, true], true, rfl, rfl, SqL.of hl4, rfl, false, rfl, iteF ?_⟩
    refine ⟨_, rfl, a, T.cTooLarge, dd, _, .ref T.cTooLarge, .ref T.cTooLarge, true, rfl, er4, T.xTooLarge.exc, .own _, T.oTooLargeTooLarge, true, rfl, ?_⟩
    refine iteT ⟨_, rfl, a, T.cTooLarge, dd, _, .ty "OverflowError", .type "OverflowError", true, rfl, er4, T.xTooLarge.exc, .ty _, T.oTooLargeOverflowError, true, rfl, iteT ?_⟩
    refine ⟨_, rfl, a, T.cTooLarge, dd, _, .int 400, rfl, er4, T.xTooLarge.xf, T.xTooLarge.no, by simp [List.lookup], fun _ => True, .int 400, .int 400, rfl, .int 400, by decide, by decide, by rw [shown400]; decide, ?_⟩
    refine ⟨by show 2 ≤ sizeLine; decide, fun p np => ?_⟩
    rw [shown400]
    exact q _ p (s14.trans (same_new np)) upd_same
end
end Mo

namespace Mo
open PySem PySem.Spec PyProof.Rows L2
/-- letters -/
def Ltrs (t : List Int) : Prop := ∀ x ∈ t, 0 ≤ x ∧ x ≤ 999999
section
variable {P : Program} {w : World} {K : PySem.W.Frag} {mg : Str → Option Value} {base : Heap}
def spPlain : Sp := fun vs H Q _ => ∃ i : Int, vs = [.int i] ∧ ∀ H', Same H H' → Q (.bl true) H'
theorem ok_plain {k : Nat} (T : Txt K mg) : FnOk P w K mg base CX0 (k + 1) T.aIsPlainInteger T.dIsPlainInteger ["value"] spPlain := by
  refine T.fIsPlainInteger.ok scIsPlainInteger (fun vs H Q E h => ?_) (fun cdv A outer s H vs Q E hr h => ?_)
  · obtain ⟨i, rfl, _⟩ := h
    rfl
  · obtain ⟨i, rfl, q⟩ := h
    refine ⟨_, (pss_one (ps_ret (pe_and (pe_callB call_isi (by rfl) T.m_isinstance (by decide +kernel) (pa_cons (pv 0) (pa_cons (pe_bltn (v := .ty "int") (by rfl) T.m_int (by decide +kernel) rfl) pa_nil))) (pe_one (pe_not (pe_callB call_isi (by rfl) T.m_isinstance (by decide +kernel) (pa_cons (pv 0) (pa_cons (pe_bltn (v := .ty "bool") (by rfl) T.m_bool (by decide +kernel) rfl) pa_nil)))))))), ?_⟩
    refine ⟨_, rfl, _, _, .type "int", .type "int", true, rfl, .ty "int", .base (.int _), kit_ty (by decide +kernel), true, rfl, iteT ?_⟩
    refine ⟨_, rfl, _, _, .type "int", .type "bool", false, rfl, .ty "bool", .base (.int _), kit_ty (by decide +kernel), false, rfl, q H (Same.refl _)⟩
def spLetter : Sp := fun vs H Q _ => ∃ i : Int, vs = [.int i] ∧ 0 ≤ i ∧ i ≤ 999999 ∧ ∀ H', Same H H' → Q (.bl true) H'
theorem ok_letter {k : Nat} (T : Txt K mg) : FnOk P w K mg base CX0 (k + 2) T.aIsLetter T.dIsLetter ["value"] spLetter := by
  have GIsPlainInteger : FnOk P w K mg base CX0 (k + 1) T.aIsPlainInteger T.dIsPlainInteger ["value"] spPlain := ok_plain T
  refine T.fIsLetter.ok scIsLetter (fun vs H Q E h => ?_) (fun cdv A outer s H vs Q E hr h => ?_)
  · obtain ⟨i, rfl, _⟩ := h
    rfl
  · obtain ⟨i, rfl, h0, h1, q⟩ := h
    refine ⟨_, (pss_one (ps_ret (pe_and (pe_call GIsPlainInteger hr (by rfl) T.gIsPlainInteger T.fIsPlainInteger.kp T.bIsPlainInteger .nil pass0 (pa_cons (pv 0) pa_nil)) (pe_one (pe_chain op_le op_le pe_int (pv 0) (pe_glob (v := .int 999999) rfl T.m_GREATEST_LETTER ⟨_, rfl⟩)))))), ?_⟩
    refine ⟨_, rfl, i, rfl, fun H1 s1 => ⟨true, rfl, iteT ?_⟩⟩
    refine ⟨_, rfl, 0, i, rfl, rfl, true, congrArg V.bl (decide_eq_true h0), iteT ⟨i, 999999, rfl, rfl, ?_⟩⟩
    have e : decide (i ≤ (999999 : Int)) = true := decide_eq_true h1
    have z := q H1 s1
    rw [← e] at z
    exact z
def spTxt (R : Nat) (v : V) : Sp := fun vs H Q _ => ∃ (p : Addr) (t : List Int), vs = [.ref p] ∧ H p = some (.tup (t.map V.int)) ∧ t.length ≤ R ∧ Ltrs t ∧ ∀ H', Same H H' → Q v H'
theorem ok_istext {k : Nat} (T : Txt K mg) : FnOk P w K mg base CX0 (k + 3) T.aIsText T.dIsText ["value"] (spTxt 4096 (.bl true)) := by
  have GIsLetter : FnOk P w K mg base CX0 (k + 2) T.aIsLetter T.dIsLetter ["value"] spLetter := ok_letter T
  refine T.fIsText.ok scIsText (fun vs H Q E h => ?_) (fun cdv A outer s H vs Q E hr h => ?_)
  · obtain ⟨p, t, rfl, _⟩ := h
    rfl
  · obtain ⟨p, t, rfl, hp, hl, ht, q⟩ := h
    refine ⟨_, (pss_cons (ps_if (PW.pt (pw_or (pt_not (pt_val (pe_callB call_isi (by rfl) T.m_isinstance (by decide +kernel) (pa_cons (pv 0) (pa_cons (pe_bltn (v := .ty "tuple") (by rfl) T.m_tuple (by decide +kernel) rfl) pa_nil))))) (pw_or1 (pt_cmpR op_gt (pe_callB call_len_seq (by rfl) T.m_len PySem.boot_len (pa_cons (pv 0) pa_nil)) (pe_glob (v := .int 4096) rfl T.m_LONGEST_TEXT ⟨_, rfl⟩) (nomark _))))) (pss_one (ps_ret pe_bl)) pss_nil)
      (pss_one (ps_ret (pe_callB (cr_all rfl) (by rfl) T.m_all (by decide +kernel) (pa_cons (pe_lc (own := [("letter", 1)]) (g := gName 1) (tt := tYes) rfl scIsText.nd (pi_tup (pv 0)) (blkOk_by (N := ["value", "letter"]) (sc := defScope sIsText) (by decide +kernel)) (fun _ _ _ _ _ => pg_name (i := 1) scIsText.nd rfl (Or.inl rfl)) (fun _ _ _ _ _ => pts_nil) (fun _ _ _ _ _ => (pe_call GIsLetter hr (by rfl) T.gIsLetter T.fIsLetter.kp T.bIsLetter .nil pass0 (pa_cons (pv 1) pa_nil)))) pa_nil))))), ?_⟩
    refine ⟨_, rfl, _, _, .type "tuple", .type "tuple", true, rfl, .ty "tuple", .base (.tup hp), kit_ty (by decide +kernel), true, rfl, iteF ?_⟩
    refine ⟨_, rfl, p, _, rfl, .inr (SqT.of hp), _, 4096, rfl, rfl, false, congrArg V.bl (decide_eq_false (by rw [List.length_map]; omega)), iteF ?_⟩
    refine ⟨_, rfl, p, rfl, ⟨_, SqT.of hp⟩, fun D nD => lc_tup (xs := t.map V.int) (fun i H' => Same H H' ∧ H' D = some (.lst ((List.replicate i true).map V.bl))) ?_ ?_ ?_ ?_⟩
    · exact ⟨same_new nD, upd_same⟩
    · rintro i H1 _ ⟨s1, _⟩
      exact SqT.of (s1 _ _ hp)
    · rintro i x H1 hx ⟨s1, hD⟩
      rw [List.getElem?_map] at hx
      cases e : t[i]? with
      | none => rw [e] at hx; cases hx
      | some n =>
        rw [e] at hx
        cases hx
        have hn := ht n (List.mem_of_getElem? e)
        have hi := (List.getElem?_eq_some_iff.mp e).1
        refine ⟨rfl, _, rfl, n, rfl, hn.1, hn.2, fun H2 s2 => ⟨_, s2 _ _ hD, fitsLt (by rw [List.length_map, List.length_replicate]; omega), Same.put (s1.trans s2) nD, ?_⟩⟩
        rw [upd_same, List.replicate_succ', List.map_append]
        rfl
    · rintro H1 ⟨s1, hD⟩
      refine ⟨D, _, rfl, SqL.of hD, ?_⟩
      rw [show (List.replicate (t.map V.int).length true).all id = true by simp]
      exact q H1 s1
theorem ok_checkText {k : Nat} (T : Txt K mg) : FnOk P w K mg base CX0 (k + 4) T.aCheckText T.dCheckText ["value"] (spTxt 4096 .non) := by
  have GIsText : FnOk P w K mg base CX0 (k + 3) T.aIsText T.dIsText ["value"] (spTxt 4096 (.bl true)) := ok_istext T
  refine T.fCheckText.ok scCheckText (fun vs H Q E h => ?_) (fun cdv A outer s H vs Q E hr h => ?_)
  · obtain ⟨p, t, rfl, _⟩ := h
    rfl
  · obtain ⟨p, t, rfl, hp, hl, ht, q⟩ := h
    refine ⟨_, (pss_one (ps_if (pt_not (pt_val (pe_call GIsText hr (by rfl) T.gIsText T.fIsText.kp T.bIsText .nil pass0 (pa_cons (pv 0) pa_nil)))) (pss_one ps_never) pss_nil)), ?_⟩
    exact ⟨_, rfl, p, t, rfl, hp, hl, ht, fun H1 s1 => ⟨true, rfl, iteF (q H1 s1)⟩⟩
theorem ok_checkSize {k : Nat} (T : Txt K mg) : FnOk P w K mg base CX0 (k + 1) T.aCheckSize T.dCheckSize ["text"] (spTxt 400 .non) := by
  refine T.fCheckSize.ok scCheckSize (fun vs H Q E h => ?_) (fun cdv A outer s H vs Q E hr h => ?_)
  · obtain ⟨p, t, rfl, _⟩ := h
    rfl
  · obtain ⟨p, t, rfl, hp, hl, ht, q⟩ := h
    refine ⟨_, (pss_one (ps_if (pt_cmpR op_gt (pe_callB call_len_seq (by rfl) T.m_len PySem.boot_len (pa_cons (pv 0) pa_nil)) (pe_glob (v := .int 400) rfl T.m_LONGEST_RANKED ⟨_, rfl⟩) (nomark _)) (pss_one ps_never) pss_nil)), ?_⟩
    exact ⟨_, rfl, p, _, rfl, .inr (SqT.of hp), _, 400, rfl, rfl, false, congrArg V.bl (decide_eq_false (by rw [List.length_map]; omega)), iteF (q H (Same.refl H))⟩
/-- extended -/
def spExt : Sp := fun vs H Q _ => ∃ (p l : Addr) (t : List Int) (xs : List Int) (b n : Nat), vs = [.ref p, .ref l, .int b, .int ((n + 1 : Nat) : Int)] ∧ H p = some (.tup (t.map V.int)) ∧ H l = some (.lst (xs.map V.int)) ∧
  n < t.length ∧ Brd t n b ∧ (∀ k, k ≤ b → xs[k]? = some ((lng t k : Nat) : Int)) ∧ Q (.int (top t (n + 1) (b + 1) : Nat)) H
theorem ok_ext {k : Nat} (T : Txt K mg) : FnOk P w K mg base CX0 (k + 1) T.aExtended T.dExtended ["text", "longest", "border", "size"] spExt := by
  refine T.fExtended.ok scExtended (fun vs H Q E h => ?_) (fun cdv A outer s H vs Q E hr h => ?_)
  · obtain ⟨p, l, t, xs, b, n, rfl, _⟩ := h
    rfl
  · obtain ⟨p, l, t, xs, b, n, rfl, hp, hl, hn, hb, hx, q⟩ := h
    refine ⟨_, (pss_cons (ps_set (i := 4) scExtended.nd rfl (Or.inl rfl) (pe_ix ix_tup (pv 0) (pe_op op_sub (pv 3) pe_int) (fun _ _ => rfl)))
      (Evl.pss_cut (ps_while PassesOwn.never (PW.pt (pw_and (pt_cmpR op_gt (pv 2) pe_int (nomark _)) (pw_and1 (pt_cmpR op_ne (pe_ix ix_tup (pv 0) (pv 2) (fun _ _ => rfl)) (pv 4) (nomark _))))) (pss_one (ps_set (i := 2) scExtended.nd rfl (Or.inl rfl) (pe_ix ix_list (pv 1) (pv 2) (fun _ _ => rfl)))))
      (pss_one (ps_ret (pe_ifExp (pt_cmpR op_eq (pe_ix ix_tup (pv 0) (pv 2) (fun _ _ => rfl)) (pv 4) (nomark _)) (pe_op op_add (pv 2) pe_int) pe_int))))), ?_⟩
    have at' : ∀ j : Nat, j < t.length → atI (t.map V.int) (j : Int) = some (.int (t.getD j 0)) := fun j hj => atI_nat (by rw [List.getElem?_map, List.getD_eq_getElem?_getD, List.getElem?_eq_getElem hj]; rfl)
    have same : ∀ i j : Nat, i < t.length → j < t.length → (t.getD i 0 = t.getD j 0 ↔ t[i]? = t[j]?) := fun i j hi hj => by
      rw [List.getD_eq_getElem?_getD, List.getD_eq_getElem?_getD, List.getElem?_eq_getElem hi, List.getElem?_eq_getElem hj]
      simp
    refine ⟨_, rfl, _, rfl, _, 1, rfl, rfl, p, _, _, .int (t.getD n 0), rfl, rfl, SqT.of hp, ?_, ?_⟩
    · rw [show ((n + 1 : Nat) : Int) - 1 = (n : Nat) by omega]
      exact at' n hn
    refine ⟨fun σ H' => ∃ c : Nat, σ = [some (.ref p), some (.ref l), some (.int (c : Nat)), some (.int ((n + 1 : Nat) : Int)), some (.int (t.getD n 0))] ∧ H' = H ∧ Brd t n c ∧ top t (n + 1) (c + 1) = top t (n + 1) (b + 1) ∧ (c = 0 ∨ t.getD c 0 = t.getD n 0), ?_, ?_⟩
    · refine while_by (fun σ H' => ∃ c : Nat, σ = [some (.ref p), some (.ref l), some (.int (c : Nat)), some (.int ((n + 1 : Nat) : Int)), some (.int (t.getD n 0))] ∧ H' = H ∧ Brd t n c ∧ c ≤ b ∧ top t (n + 1) (c + 1) = top t (n + 1) (b + 1)) (fun σ H' => match σ with | [_, _, some (.int c), _, _] => c.toNat | _ => 0) ?_ ?_ ?_
      · exact ⟨b, rfl, rfl, hb, Nat.le_refl _, rfl⟩
      · rintro σ H1 ⟨c, rfl, rfl, hc, hcb, htop⟩
        have hcn := hc.1
        by_cases e1 : (c : Int) > 0
        · refine ⟨_, rfl, _, 0, rfl, rfl, true, congrArg V.bl (decide_eq_true e1), iteT ?_⟩
          by_cases e2 : t.getD c 0 = t.getD n 0
          · refine ⟨_, rfl, _, rfl, p, _, _, _, rfl, rfl, SqT.of hp, at' c (by omega), _, rfl, rfl, false, ?_, iteF ⟨c, rfl, rfl, hc, htop, .inr e2⟩⟩
            rw [e2]
            simp
          · refine ⟨_, rfl, _, rfl, p, _, _, _, rfl, rfl, SqT.of hp, at' c (by omega), _, rfl, rfl, true, ?_, iteT ?_⟩
            · rw [decide_eq_false (fun z => e2 (V.int.inj z))]
              rfl
            have hlt := lng_lt (t := t) (n := c) (by omega)
            refine ⟨_, rfl, _, rfl, l, _, _, .int ((lng t c : Nat) : Int), rfl, rfl, SqL.of hl, atI_nat (by rw [List.getElem?_map, hx c hcb]; rfl), ⟨⟨lng t c, rfl, rfl, (Brd.inner hc hlt).mpr (lng_brd (by omega)), by omega, ?_⟩, ?_⟩⟩
            · rw [← back_turn hc (by omega) (fun z => e2 ((same c n (by omega) hn).mpr z)), htop]
            · show ((lng t c : Nat) : Int).toNat < ((c : Nat) : Int).toNat
              omega
        · exact ⟨_, rfl, _, 0, rfl, rfl, false, congrArg V.bl (decide_eq_false e1), iteF ⟨c, rfl, rfl, hc, htop, .inl (by omega)⟩⟩
      · rintro σ H2 Q1 Q2 hq ⟨v, h1, i, j, h2, h3, k', h4, h5⟩
        refine ⟨v, h1, i, j, h2, h3, k', h4, ?_⟩
        cases k' with
        | false => exact hq _ _ h5
        | true =>
          obtain ⟨v2, g1, v3, g2, a1, xs1, i1, x1, e1, e2, sq, at1, v4, g4, f1, k2, e5, fin⟩ := h5
          exact ⟨v2, g1, v3, g2, a1, xs1, i1, x1, e1, e2, sq, at1, v4, g4, f1, k2, e5, hq _ _ fin⟩
    · rintro σ H1 ⟨c, rfl, rfl, hc, htop, hfin⟩
      have hcn := hc.1
      by_cases e2 : t.getD c 0 = t.getD n 0
      · refine ⟨_, rfl, _, rfl, p, _, _, _, rfl, rfl, SqT.of hp, at' c (by omega), _, rfl, rfl, true, ?_, iteT ?_⟩
        · rw [e2]
          simp
        rw [← htop, back_yes hc ((same c n (by omega) hn).mp e2)] at q
        exact ⟨_, rfl, c, 1, rfl, rfl, q⟩
      · refine ⟨_, rfl, _, rfl, p, _, _, _, rfl, rfl, SqT.of hp, at' c (by omega), _, rfl, rfl, false, congrArg V.bl (decide_eq_false (fun z => e2 (V.int.inj z))), iteF ?_⟩
        have c0 : c = 0 := hfin.resolve_right e2
        subst c0
        rw [← htop, back_no hcn (fun z => e2 ((same 0 n (by omega) hn).mpr z))] at q
        exact q
theorem nums_set {f g : Nat → Nat} {m j v : Nat} (hj : j < m) (hv : g j = v) (hg : ∀ k, k < m → k ≠ j → g k = f k) :
    (((List.range m).map fun k => ((f k : Nat) : Int)).map V.int).set j (V.int (v : Int)) = ((List.range m).map fun k => ((g k : Nat) : Int)).map V.int := by
  apply List.ext_getElem?
  intro i
  rw [List.getElem?_set]
  simp only [List.getElem?_map, List.length_map, List.length_range]
  by_cases hi : i < m
  · rw [List.getElem?_range hi]
    by_cases e : j = i
    · subst e
      rw [if_pos rfl, if_pos hj, ← hv]
      rfl
    · rw [if_neg e]
      show some (V.int ((f i : Nat) : Int)) = some (V.int ((g i : Nat) : Int))
      rw [hg i hi (fun z => e z.symm)]
  · rw [List.getElem?_eq_none (by rw [List.length_range]; omega)]
    by_cases e : j = i
    · omega
    · rw [if_neg e]
      rfl
/-- a new list of these numbers -/
def spNums (F : List Int → Nat → Nat) : Sp := fun vs H Q _ => ∃ (p : Addr) (t : List Int), vs = [.ref p] ∧ H p = some (.tup (t.map V.int)) ∧ t.length ≤ 400 ∧ ∀ H' l, Same H H' → H l = none → H' l = some (.lst (((List.range (t.length + 1)).map fun k => ((F t k : Nat) : Int)).map V.int)) → Q (.ref l) H'
theorem zeros (n : Nat) : (List.replicate n [V.int 0]).flatten = ((List.range n).map fun k => (((fun _ => 0 : Nat → Nat) k : Nat) : Int)).map V.int := by
  induction n with
  | zero => rfl
  | succ n ih =>
    rw [List.replicate_succ', List.flatten_append, ih, List.range_succ, List.map_append, List.map_append]
    rfl
theorem ok_lngs {k : Nat} (T : Txt K mg) : FnOk P w K mg base CX0 (k + 2) T.aLongestBorders T.dLongestBorders ["text"] (spNums lng) := by
  have GExtended : FnOk P w K mg base CX0 (k + 1) T.aExtended T.dExtended ["text", "longest", "border", "size"] spExt := ok_ext T
  refine T.fLongestBorders.ok scLongestBorders (fun vs H Q E h => ?_) (fun cdv A outer s H vs Q E hr h => ?_)
  · obtain ⟨p, t, rfl, _⟩ := h
    rfl
  · obtain ⟨p, t, rfl, hp, hl, q⟩ := h
    refine ⟨_, (pss_cons (ps_set (i := 1) scLongestBorders.nd rfl (Or.inl rfl) (pe_op op_rep (pe_lst (pa_cons pe_int pa_nil)) (pe_op op_add (pe_callB call_len_seq (by rfl) T.m_len PySem.boot_len (pa_cons (pv 0) pa_nil)) pe_int)))
      (pss_cons (ps_set (i := 2) scLongestBorders.nd rfl (Or.inl rfl) pe_int)
      (pss_cons (ps_for PassesOwn.never rfl (pi_range2 (by rfl) T.m_range (pa_cons pe_int (pa_cons (pe_op op_add (pe_callB call_len_seq (by rfl) T.m_len PySem.boot_len (pa_cons (pv 0) pa_nil)) pe_int) pa_nil))) (pg_name (i := 3) scLongestBorders.nd rfl (Or.inl rfl)) (pss_cons (ps_set (i := 2) scLongestBorders.nd rfl (Or.inl rfl) (pe_call GExtended hr (by rfl) T.gExtended T.fExtended.kp T.bExtended .nil pass0 (pa_cons (pv 0) (pa_cons (pv 1) (pa_cons (pv 2) (pa_cons (pv 3) pa_nil))))))
      (pss_one (ps_asg (pv 2) (pg_sub (pv 1) (pv 3) set_list)))))
      (pss_one (ps_ret (pv 1)))))), ?_⟩
    refine ⟨by show 1 ≤ sizeLine; decide, fun z nz => ?_⟩
    have s1 := same_new (o := .lst [V.int 0]) nz
    refine ⟨_, rfl, p, _, rfl, .inr (SqT.of (s1 _ _ hp)), _, 1, rfl, rfl, z, _, [V.int 0], rfl, rfl, upd_same, ?_, ?_, ?_, fun l nl => ?_⟩
    · rw [List.length_map]
      omega
    · rw [List.length_map]
      omega
    · rw [List.length_map]
      exact fits5 (by show 1 * _ ≤ _; omega)
    have em : ((((t.map V.int).length : Nat) : Int) + 1).toNat = t.length + 1 := by rw [List.length_map]; omega
    have s2 := same_new (o := .lst (List.replicate ((((t.map V.int).length : Nat) : Int) + 1).toNat [V.int 0]).flatten) nl
    have nl0 : H l = none := s1.free nl
    have hl2 : (upd (upd H z (.lst [V.int 0])) l (.lst (List.replicate ((((t.map V.int).length : Nat) : Int) + 1).toNat [V.int 0]).flatten)) l = some (.lst (((List.range (t.length + 1)).map fun k => (((fun k => if k < 2 then lng t k else 0 : Nat → Nat) k : Nat) : Int)).map V.int)) := by
      rw [upd_same, em, zeros]
      refine congrArg (fun z => some (HO.lst (z.map V.int))) (List.map_congr_left fun k _ => ?_)
      by_cases g : k < 2
      · simp only [if_pos g]
        match k, g with
        | 0, _ => rfl
        | 1, _ => rfl
      · simp only [if_neg g]
    have s12 := s1.trans s2
    generalize upd (upd H z (.lst [V.int 0])) l (.lst (List.replicate ((((t.map V.int).length : Nat) : Int) + 1).toNat [V.int 0]).flatten) = H2 at *
    have hp2 := s12 _ _ hp
    refine ⟨_, rfl, p, _, rfl, .inr (SqT.of hp2), _, 1, rfl, rfl, 2, _, rfl, ⟨by decide, by decide, by rw [List.length_map]; omega, by rw [List.length_map]; omega⟩, for_range (lo := 2) (fun i σ H' => ∃ o3 : Option V, σ = [some (.ref p), some (.ref l), some (.int ((lng t (i + 1) : Nat) : Int)), o3] ∧ Same H H' ∧ H' l = some (.lst (((List.range (t.length + 1)).map fun k => (((fun k => if k < i + 2 then lng t k else 0 : Nat → Nat) k : Nat) : Int)).map V.int))) ?_ ?_ ?_⟩
    · exact ⟨_, rfl, s12, hl2⟩
    · rintro i σ H3 hi ⟨o3, rfl, s3, hl3⟩
      have hi2 : i + 2 ≤ t.length := by
        have h2 : i < ((((t.map V.int).length : Nat) : Int) + 1 - 2).toNat := hi
        rw [List.length_map] at h2
        omega
      refine ⟨_, rfl, _, rfl, _, rfl, _, rfl, p, l, t, _, lng t (i + 1), i + 1, ?_, s3 _ _ hp, hl3, by omega, lng_brd (by omega), fun k hk => ?_, ?_⟩
      · show [V.ref p, V.ref l, V.int ((lng t (i + 1) : Nat) : Int), V.int (2 + (i : Int))] = _
        rw [show (2 : Int) + (i : Int) = ((i + 1 + 1 : Nat) : Int) by omega]
      · have := lng_lt (t := t) (n := i + 1) (by omega)
        rw [List.getElem?_map, List.getElem?_range (by omega)]
        show some ((((if k < i + 2 then lng t k else 0 : Nat)) : Nat) : Int) = _
        rw [if_pos (by omega)]
      rw [lng_step (by omega)]
      refine ⟨_, rfl, _, rfl, _, rfl, l, _, _, i + 2, rfl, rfl, hl3, ?_, ?_⟩
      · unfold ixN
        rw [List.length_map, List.length_map, List.length_range, if_pos (by omega), if_pos (by omega)]
        exact congrArg some (by omega)
      refine ⟨_, rfl, Same.put s3 nl0, ?_⟩
      rw [upd_same]
      refine congrArg (fun z => some (HO.lst z)) ?_
      exact nums_set (f := fun k => if k < i + 2 then lng t k else 0) (g := fun k => if k < i + 1 + 2 then lng t k else 0) (j := i + 2) (by omega) (if_pos (by omega)) fun k hk e => by
        show (if k < i + 1 + 2 then lng t k else 0) = if k < i + 2 then lng t k else 0
        by_cases g : k < i + 2
        · rw [if_pos g, if_pos (by omega)]
        · rw [if_neg g, if_neg (by omega)]
    · rintro σ H3 ⟨o3, rfl, s3, hl3⟩
      refine ⟨_, rfl, q H3 l s3 nl0 ?_⟩
      rw [hl3]
      refine congrArg (fun z => some (HO.lst (z.map V.int))) (List.map_congr_left fun k hk => ?_)
      have hk2 := List.mem_range.mp hk
      have : k < ((((t.map V.int).length : Nat) : Int) + 1 - 2).toNat + 2 := by
        rw [List.length_map]
        omega
      simp only [if_pos this]
end
end Mo

namespace Mo
open PySem PySem.Spec PyProof.Rows L2
section
variable {P : Program} {w : World} {K : PySem.W.Frag} {mg : Str → Option Value} {base : Heap}
theorem ok_hlfs {k : Nat} (T : Txt K mg) : FnOk P w K mg base CX0 (k + 3) T.aHalfBorders T.dHalfBorders ["text"] (spNums hlf) := by
  have GExtended : FnOk P w K mg base CX0 (k + 2) T.aExtended T.dExtended ["text", "longest", "border", "size"] spExt := ok_ext T
  have GLongestBorders : FnOk P w K mg base CX0 (k + 2) T.aLongestBorders T.dLongestBorders ["text"] (spNums lng) := ok_lngs T
  refine T.fHalfBorders.ok scHalfBorders (fun vs H Q E h => ?_) (fun cdv A outer s H vs Q E hr h => ?_)
  · obtain ⟨p, t, rfl, _⟩ := h
    rfl
  · obtain ⟨p, t, rfl, hp, hl, q⟩ := h
    refine ⟨_, (pss_cons (ps_set (i := 1) scHalfBorders.nd rfl (Or.inl rfl) (pe_call GLongestBorders hr (by rfl) T.gLongestBorders T.fLongestBorders.kp T.bLongestBorders .nil pass0 (pa_cons (pv 0) pa_nil)))
      (pss_cons (ps_set (i := 2) scHalfBorders.nd rfl (Or.inl rfl) (pe_op op_rep (pe_lst (pa_cons pe_int pa_nil)) (pe_op op_add (pe_callB call_len_seq (by rfl) T.m_len PySem.boot_len (pa_cons (pv 0) pa_nil)) pe_int)))
      (pss_cons (ps_set (i := 3) scHalfBorders.nd rfl (Or.inl rfl) pe_int)
      (pss_cons (ps_for PassesOwn.never rfl (pi_range2 (by rfl) T.m_range (pa_cons pe_int (pa_cons (pe_op op_add (pe_callB call_len_seq (by rfl) T.m_len PySem.boot_len (pa_cons (pv 0) pa_nil)) pe_int) pa_nil))) (pg_name (i := 4) scHalfBorders.nd rfl (Or.inl rfl)) (pss_cons (ps_set (i := 3) scHalfBorders.nd rfl (Or.inl rfl) (pe_call GExtended hr (by rfl) T.gExtended T.fExtended.kp T.bExtended .nil pass0 (pa_cons (pv 0) (pa_cons (pv 1) (pa_cons (pv 3) (pa_cons (pv 4) pa_nil))))))
      (Evl.pss_cut (ps_while PassesOwn.never (pt_cmpR op_ge (pe_op op_mul pe_int (pv 3)) (pv 4) (nomark _)) (pss_one (ps_set (i := 3) scHalfBorders.nd rfl (Or.inl rfl) (pe_ix ix_list (pv 1) (pv 3) (fun _ _ => rfl)))))
      (pss_one (ps_asg (pv 3) (pg_sub (pv 2) (pv 4) set_list))))))
      (pss_one (ps_ret (pv 2))))))), ?_⟩
    refine ⟨_, rfl, p, t, rfl, hp, hl, fun H0 l0 s0 nl00 hl0 => ?_⟩
    refine ⟨by show 1 ≤ sizeLine; decide, fun z nz => ?_⟩
    have s1 := same_new (o := .lst [V.int 0]) nz
    refine ⟨_, rfl, p, _, rfl, .inr (SqT.of (s1 _ _ (s0 _ _ hp))), _, 1, rfl, rfl, z, _, [V.int 0], rfl, rfl, upd_same, ?_, ?_, ?_, fun l nl => ?_⟩
    · rw [List.length_map]
      omega
    · rw [List.length_map]
      omega
    · rw [List.length_map]
      exact fits5 (by show 1 * _ ≤ _; omega)
    have em : ((((t.map V.int).length : Nat) : Int) + 1).toNat = t.length + 1 := by rw [List.length_map]; omega
    have s2 := same_new (o := .lst (List.replicate ((((t.map V.int).length : Nat) : Int) + 1).toNat [V.int 0]).flatten) nl
    have nlA : H0 l = none := s1.free nl
    have nl0 : H l = none := s0.free nlA
    have nll : l0 ≠ l := ne_of_none hl0 nlA
    have hl2 : (upd (upd H0 z (.lst [V.int 0])) l (.lst (List.replicate ((((t.map V.int).length : Nat) : Int) + 1).toNat [V.int 0]).flatten)) l = some (.lst (((List.range (t.length + 1)).map fun k => (((fun k => if k < 2 then hlf t k else 0 : Nat → Nat) k : Nat) : Int)).map V.int)) := by
      rw [upd_same, em, zeros]
      refine congrArg (fun z => some (HO.lst (z.map V.int))) (List.map_congr_left fun k _ => ?_)
      by_cases g : k < 2
      · simp only [if_pos g]
        match k, g with
        | 0, _ => rfl
        | 1, _ => rfl
      · simp only [if_neg g]
    have s12 := (s0.trans s1).trans s2
    have hl02 := s2 _ _ (s1 _ _ hl0)
    generalize upd (upd H0 z (.lst [V.int 0])) l (.lst (List.replicate ((((t.map V.int).length : Nat) : Int) + 1).toNat [V.int 0]).flatten) = H2 at *
    have hp2 := s12 _ _ hp
    refine ⟨_, rfl, p, _, rfl, .inr (SqT.of hp2), _, 1, rfl, rfl, 2, _, rfl, ⟨by decide, by decide, by rw [List.length_map]; omega, by rw [List.length_map]; omega⟩, for_range (lo := 2) (fun i σ H' => ∃ o3 : Option V, σ = [some (.ref p), some (.ref l0), some (.ref l), some (.int ((hlf t (i + 1) : Nat) : Int)), o3] ∧ Same H H' ∧ H' l0 = some (.lst (((List.range (t.length + 1)).map fun k => ((lng t k : Nat) : Int)).map V.int)) ∧ H' l = some (.lst (((List.range (t.length + 1)).map fun k => (((fun k => if k < i + 2 then hlf t k else 0 : Nat → Nat) k : Nat) : Int)).map V.int))) ?_ ?_ ?_⟩
    · exact ⟨_, rfl, s12, hl02, hl2⟩
    · rintro i σ H3 hi ⟨o3, rfl, s3, hl03, hl3⟩
      have hi2 : i + 2 ≤ t.length := by
        have h2 : i < ((((t.map V.int).length : Nat) : Int) + 1 - 2).toNat := hi
        rw [List.length_map] at h2
        omega
      have esz : (2 : Int) + (i : Int) = ((i + 1 + 1 : Nat) : Int) := by omega
      have at0 : ∀ k, k ≤ t.length → ((List.range (t.length + 1)).map fun k => ((lng t k : Nat) : Int))[k]? = some ((lng t k : Nat) : Int) := fun k hk => by
        rw [List.getElem?_map, List.getElem?_range (by omega)]
        rfl
      have hlt1 := hlf_lt (t := t) (n := i + 1) (by omega)
      refine ⟨_, rfl, _, rfl, _, rfl, _, rfl, p, l0, t, _, hlf t (i + 1), i + 1, ?_, s3 _ _ hp, hl03, by omega, (hlf_brd (by omega)).1, fun k hk => at0 k (by omega), ?_⟩
      · show [V.ref p, V.ref l0, V.int ((hlf t (i + 1) : Nat) : Int), V.int (2 + (i : Int))] = _
        rw [esz]
      -- back to a half
      refine ⟨fun σ H' => σ = [some (.ref p), some (.ref l0), some (.ref l), some (.int ((hlf t (i + 1 + 1) : Nat) : Int)), some (.int (2 + (i : Int)))] ∧ H' = H3, ?_, ?_⟩
      · refine while_by (fun σ H' => ∃ x : Nat, σ = [some (.ref p), some (.ref l0), some (.ref l), some (.int (x : Int)), some (.int (2 + (i : Int)))] ∧ H' = H3 ∧ Brd t (i + 1 + 1) x ∧ hlf t (i + 1 + 1) ≤ x) (fun σ H' => match σ with | [_, _, _, some (.int c), _] => c.toNat | _ => 0) ?_ ?_ ?_
        · exact ⟨_, rfl, rfl, top_brd (by omega) _, hlf_below (by omega)⟩
        · rintro σ H4 ⟨x, rfl, rfl, hx, hle⟩
          have hx1 := hx.1
          by_cases e1 : (2 : Int) * (x : Int) ≥ 2 + (i : Int)
          · refine ⟨_, rfl, 2, x, rfl, rfl, .inl ⟨by decide, by decide⟩, _, rfl, _, _, rfl, rfl, true, congrArg V.bl (decide_eq_true e1), iteT ?_⟩
            have hlx := lng_lt (t := t) (n := x) (by omega)
            refine ⟨_, rfl, _, rfl, l0, _, _, .int ((lng t x : Nat) : Int), rfl, rfl, SqL.of hl03, atI_nat (by rw [List.getElem?_map, at0 x (by omega)]; rfl), ⟨⟨lng t x, rfl, rfl, (Brd.inner hx hlx).mpr (lng_brd (by omega)), hlf_back hx (by omega) hle⟩, ?_⟩⟩
            show ((lng t x : Nat) : Int).toNat < ((x : Nat) : Int).toNat
            omega
          · have e2 := hlf_end hx (by omega) hle
            subst e2
            exact ⟨_, rfl, 2, _, rfl, rfl, .inl ⟨by decide, by decide⟩, _, rfl, _, _, rfl, rfl, false, congrArg V.bl (decide_eq_false e1), iteF ⟨rfl, rfl⟩⟩
        · rintro σ H4 Q1 Q2 hq ⟨v, h1, i1, j1, h2, h3, h4, v2, h5, i2, j2, h6, h7, k2, h8, h9⟩
          exact ⟨v, h1, i1, j1, h2, h3, h4, v2, h5, i2, j2, h6, h7, k2, h8, hq _ _ h9⟩
      · rintro σ H4 ⟨rfl, rfl⟩
        refine ⟨_, rfl, _, rfl, _, rfl, l, _, _, i + 2, rfl, rfl, hl3, ?_, ?_⟩
        · unfold ixN
          rw [List.length_map, List.length_map, List.length_range, if_pos (by omega), if_pos (by omega)]
          exact congrArg some (by omega)
        refine ⟨_, rfl, Same.put s3 nl0, by rw [upd_ne nll]; exact hl03, ?_⟩
        rw [upd_same]
        refine congrArg (fun z => some (HO.lst z)) ?_
        exact nums_set (f := fun k => if k < i + 2 then hlf t k else 0) (g := fun k => if k < i + 1 + 2 then hlf t k else 0) (j := i + 2) (by omega) (if_pos (by omega)) fun k hk e => by
          show (if k < i + 1 + 2 then hlf t k else 0) = if k < i + 2 then hlf t k else 0
          by_cases g : k < i + 2
          · rw [if_pos g, if_pos (by omega)]
          · rw [if_neg g, if_neg (by omega)]
    · rintro σ H3 ⟨o3, rfl, s3, _, hl3⟩
      refine ⟨_, rfl, q H3 l s3 nl0 ?_⟩
      rw [hl3]
      refine congrArg (fun z => some (HO.lst (z.map V.int))) (List.map_congr_left fun k hk => ?_)
      have hk2 := List.mem_range.mp hk
      have : k < ((((t.map V.int).length : Nat) : Int) + 1 - 2).toNat + 2 := by
        rw [List.length_map]
        omega
      simp only [if_pos this]
theorem ok_ranks {k : Nat} (T : Txt K mg) : FnOk P w K mg base CX0 (k + 4) T.aPrefixRanks T.dPrefixRanks ["text"] (spNums rk) := by
  have GHalfBorders : FnOk P w K mg base CX0 (k + 3) T.aHalfBorders T.dHalfBorders ["text"] (spNums hlf) := ok_hlfs T
  refine T.fPrefixRanks.ok scPrefixRanks (fun vs H Q E h => ?_) (fun cdv A outer s H vs Q E hr h => ?_)
  · obtain ⟨p, t, rfl, _⟩ := h
    rfl
  · obtain ⟨p, t, rfl, hp, hl, q⟩ := h
    refine ⟨_, (pss_cons (ps_set (i := 1) scPrefixRanks.nd rfl (Or.inl rfl) (pe_lst (pa_cons pe_int pa_nil)))
      (pss_cons (ps_for PassesOwn.never rfl (pi_list (pe_slice sl_list (pe_call GHalfBorders hr (by rfl) T.gHalfBorders T.fHalfBorders.kp T.bHalfBorders .nil pass0 (pa_cons (pv 0) pa_nil)) (po_some pe_int) po_none)) (pg_name (i := 2) scPrefixRanks.nd rfl (Or.inl rfl)) (pss_one (ps_expr (pe_bm PySem.F.plainAttrs_list PySem.F.slot_list_append PySem.F.type_list_append mt_append (pv 1) (pa_cons (pe_op op_add (pe_ix ix_list (pv 1) (pv 2) (fun _ _ => rfl)) pe_int) pa_nil)))))
      (pss_one (ps_ret (pv 1))))), ?_⟩
    refine ⟨by show 1 ≤ sizeLine; decide, fun r nr => ?_⟩
    have s1 := same_new (o := .lst [V.int 0]) nr
    refine ⟨_, rfl, p, t, rfl, s1 _ _ hp, hl, fun H2 l s2 nl hl2 => ?_⟩
    refine ⟨1, rfl, l, _, rfl, SqL.of hl2, fun m nm => ?_⟩
    have ec : cutV (((List.range (t.length + 1)).map fun k => ((hlf t k : Nat) : Int)).map V.int) (some 1) none = ((List.range t.length).map fun k => ((hlf t (k + 1) : Nat) : Int)).map V.int := by
      rw [show (some (1 : Int)) = some ((1 : Nat) : Int) from rfl, cut_from, List.range_succ_eq_map, List.map_cons, List.map_cons, List.drop_succ_cons, List.drop_zero, List.map_map, List.map_map, List.map_map]
      rfl
    have s3 := same_new (o := .lst (cutV (((List.range (t.length + 1)).map fun k => ((hlf t k : Nat) : Int)).map V.int) (some 1) none)) nm
    have hr3 := s3 _ _ (s2 _ _ (upd_same (H := H) (a := r) (o := .lst [V.int 0])))
    have nmr : m ≠ r := (ne_of_none (s2 _ _ (upd_same (H := H) (a := r) (o := .lst [V.int 0]))) nm).symm
    rw [ec] at s3 hr3 ⊢
    have hm3 : (upd H2 m (.lst (((List.range t.length).map fun k => ((hlf t (k + 1) : Nat) : Int)).map V.int))) m = some (.lst (((List.range t.length).map fun k => ((hlf t (k + 1) : Nat) : Int)).map V.int)) := upd_same
    have s123 := (s1.trans s2).trans s3
    generalize upd H2 m (.lst (((List.range t.length).map fun k => ((hlf t (k + 1) : Nat) : Int)).map V.int)) = H3 at *
    refine ⟨m, rfl, ⟨_, SqL.of hm3⟩, for_list (K := K) (a := m) (xs := ((List.range t.length).map fun k => ((hlf t (k + 1) : Nat) : Int)).map V.int) (fun i σ H' => ∃ o2 : Option V, σ = [some (.ref p), some (.ref r), o2] ∧ Same H H' ∧ H' m = some (.lst (((List.range t.length).map fun k => ((hlf t (k + 1) : Nat) : Int)).map V.int)) ∧ H' r = some (.lst (((List.range (i + 1)).map fun k => ((rk t k : Nat) : Int)).map V.int))) ?_ ?_ ?_ ?_⟩
    · refine ⟨_, rfl, s123, hm3, ?_⟩
      rw [hr3]
      show some (HO.lst [V.int 0]) = some (HO.lst [V.int ((rk t 0 : Nat) : Int)])
      rw [rk_zero]
      rfl
    · rintro i σ H4 _ ⟨o2, rfl, _, hm4, _⟩
      exact SqL.of hm4
    · rintro i x σ H4 hx ⟨o2, rfl, s4, hm4, hr4⟩
      have hi : i < t.length := by
        have := (List.getElem?_eq_some_iff.mp hx).1
        rw [List.length_map, List.length_map, List.length_range] at this
        exact this
      rw [List.getElem?_map, List.getElem?_map, List.getElem?_range hi] at hx
      cases hx
      have hlt := hlf_lt (t := t) (n := i + 1) (by omega)
      refine ⟨_, rfl, .inl ⟨rfl, _, SqL.of hr4⟩, _, rfl, _, rfl, r, _, _, .int ((rk t (hlf t (i + 1)) : Nat) : Int), rfl, rfl, SqL.of hr4, atI_nat (by rw [List.getElem?_map, List.getElem?_map, List.getElem?_range (by omega)]; rfl), _, 1, rfl, rfl, r, _, _, rfl, rfl, hr4, fitsLt (by rw [List.length_map, List.length_map, List.length_range]; omega), ?_⟩
      refine ⟨_, rfl, Same.put s4 nr, by rw [upd_ne nmr]; exact hm4, ?_⟩
      rw [upd_same, List.range_succ (n := i + 1), List.map_append, List.map_append]
      show some (HO.lst (_ ++ [V.int (((rk t (hlf t (i + 1)) : Nat) : Int) + 1)])) = some (HO.lst (_ ++ [V.int ((rk t (i + 1) : Nat) : Int)]))
      rw [rk_pos (k := i + 1) (by omega), Int.natCast_add]
      rfl
    · rintro σ H4 ⟨o2, rfl, s4, _, hr4⟩
      rw [List.length_map, List.length_map, List.length_range] at hr4
      exact ⟨_, rfl, q H4 r s4 nr hr4⟩
/-- rank -/
def spRank : Sp := fun vs H Q _ => ∃ (p : Addr) (t : List Int), vs = [.ref p] ∧ H p = some (.tup (t.map V.int)) ∧ t.length ≤ 400 ∧ Ltrs t ∧ ∀ H', Same H H' → Q (.int (rk t t.length : Nat)) H'
theorem last_nums {f : Nat → Nat} (n : Nat) : atI (((List.range (n + 1)).map fun k => ((f k : Nat) : Int)).map V.int) (-1) = some (.int ((f n : Nat) : Int)) := by
  rw [List.range_succ, List.map_append, List.map_append]
  exact atI_last _ _
theorem ok_rank {k : Nat} (T : Txt K mg) : FnOk P w K mg base CX0 (k + 5) T.aRank T.dRank ["text"] spRank := by
  have GCheckText : FnOk P w K mg base CX0 (k + 4) T.aCheckText T.dCheckText ["value"] (spTxt 4096 .non) := ok_checkText T
  have GCheckSize : FnOk P w K mg base CX0 (k + 4) T.aCheckSize T.dCheckSize ["text"] (spTxt 400 .non) := ok_checkSize T
  have GPrefixRanks : FnOk P w K mg base CX0 (k + 4) T.aPrefixRanks T.dPrefixRanks ["text"] (spNums rk) := ok_ranks T
  refine T.fRank.ok scRank (fun vs H Q E h => ?_) (fun cdv A outer s H vs Q E hr h => ?_)
  · obtain ⟨p, t, rfl, _⟩ := h
    rfl
  · obtain ⟨p, t, rfl, hp, hl, ht, q⟩ := h
    refine ⟨_, (pss_cons (ps_expr (pe_call GCheckText hr (by rfl) T.gCheckText T.fCheckText.kp T.bCheckText .nil pass0 (pa_cons (pv 0) pa_nil)))
      (pss_cons (ps_expr (pe_call GCheckSize hr (by rfl) T.gCheckSize T.fCheckSize.kp T.bCheckSize .nil pass0 (pa_cons (pv 0) pa_nil)))
      (pss_one (ps_ret (pe_ix ix_list (pe_call GPrefixRanks hr (by rfl) T.gPrefixRanks T.fPrefixRanks.kp T.bPrefixRanks .nil pass0 (pa_cons (pv 0) pa_nil)) (pe_un un_neg pe_int) (fun _ _ => rfl)))))), ?_⟩
    refine ⟨_, rfl, p, t, rfl, hp, by omega, ht, fun H1 s1 => ?_⟩
    refine ⟨_, rfl, p, t, rfl, s1 _ _ hp, hl, ht, fun H2 s2 => ?_⟩
    refine ⟨_, rfl, p, t, rfl, s2 _ _ (s1 _ _ hp), hl, fun H3 l s3 nl hl3 => ?_⟩
    exact ⟨1, rfl, l, _, -1, _, rfl, rfl, SqL.of hl3, last_nums _, q H3 ((s1.trans s2).trans s3)⟩
end
end Mo

namespace Mo
open PySem PySem.Spec PyProof.Rows L2
/-- the borders above b -/
def above (t : List Int) (n b : Nat) : List Nat := (List.range n).filter fun x => decide (Brd t n x ∧ b < x)
theorem filter_first {p : Nat → Bool} {b : Nat} (hp : ∀ x, p x = true → b < x) : ∀ {n : Nat}, b < n → (List.range n).filter (fun x => decide (x = b) || p x) = b :: (List.range n).filter p
  | 0, h => by omega
  | n + 1, h => by
    rw [List.range_succ, List.filter_append, List.filter_append]
    by_cases e : b = n
    · subst e
      have h1 : (List.range b).filter (fun x => decide (x = b) || p x) = [] := by
        rw [List.filter_eq_nil_iff]
        intro x hx
        have := List.mem_range.mp hx
        cases q : p x with
        | false => simp; omega
        | true => have := hp x q; omega
      have h2 : (List.range b).filter p = [] := by
        rw [List.filter_eq_nil_iff]
        intro x hx
        have := List.mem_range.mp hx
        intro q
        have := hp x q
        omega
      have h3 : p b = false := by
        cases q : p b with
        | false => rfl
        | true => have := hp b q; omega
      rw [h1, h2]
      simp [h3]
    · rw [filter_first hp (show b < n by omega)]
      have h4 : [n].filter (fun x => decide (x = b) || p x) = [n].filter p := List.filter_congr fun x hx => by
        rw [List.mem_singleton.mp hx, decide_eq_false (fun z => e z.symm), Bool.false_or]
      rw [h4, List.cons_append]
theorem above_step {t : List Int} {n b : Nat} (hb : Brd t n b) (h0 : 0 < b) : above t n (lng t b) = b :: above t n b := by
  have hl := lng_lt (t := t) h0
  unfold above
  rw [← filter_first (p := fun x => decide (Brd t n x ∧ b < x)) (fun x hx => (of_decide_eq_true hx).2) hb.1]
  refine List.filter_congr fun x _ => ?_
  by_cases e : x = b
  · subst e
    rw [decide_eq_true (show Brd t n x ∧ lng t x < x from ⟨hb, hl⟩), decide_eq_true rfl]
    rfl
  · rw [decide_eq_false e, Bool.false_or]
    refine decide_eq_decide.mpr ⟨fun ⟨a1, a2⟩ => ⟨a1, ?_⟩, fun ⟨a1, a2⟩ => ⟨a1, by omega⟩⟩
    rcases Nat.lt_or_ge x b with g | g
    · have := lng_max ((Brd.inner hb g).mp a1)
      omega
    · omega
theorem above_top {t : List Int} {n : Nat} : above t n (lng t n) = [] := by
  unfold above
  rw [List.filter_eq_nil_iff]
  intro x hx z
  have z := of_decide_eq_true z
  have := lng_max z.1
  omega
/-- all borders, as the law lists them -/
theorem above_law {t : List Int} (n : Nat) : above t n 0 = ((List.range (n - 1)).filter fun j => decide (Brd t n (j + 1))).map fun j => j + 1 := by
  unfold above
  cases n with
  | zero => rfl
  | succ n =>
    rw [List.range_succ_eq_map, List.filter_cons, decide_eq_false (fun z => by omega), if_neg (by simp), List.filter_map, Nat.add_sub_cancel]
    refine congrArg (List.map _) (List.filter_congr fun x _ => ?_)
    show decide (Brd t (n + 1) (x + 1) ∧ 0 < x + 1) = _
    exact decide_eq_decide.mpr ⟨fun h => h.1, fun h => ⟨h, by omega⟩⟩
theorem above_len (t : List Int) (n b : Nat) : (above t n b).length ≤ n := by
  have := List.length_filter_le (fun x => decide (Brd t n x ∧ b < x)) (List.range n)
  rwa [List.length_range] at this
theorem above_lt {t : List Int} {n b x : Nat} (h : x ∈ above t n b) : x < n := List.mem_range.mp (List.mem_filter.mp h).1
section
variable {P : Program} {w : World} {K : PySem.W.Frag} {mg : Str → Option Value} {base : Heap}
theorem last_numsB {f : Nat → Nat} (n : Nat) : atI (((List.range (n + 1)).map fun k => ((f k : Nat) : Int)).map V.int) (-1) = some (.int ((f n : Nat) : Int)) := by
  rw [List.range_succ, List.map_append, List.map_append]
  exact atI_last _ _
def nums (xs : List Nat) : List Int := xs.map fun x : Nat => (x : Int)
def spBord : Sp := fun vs H Q _ => ∃ (p : Addr) (t : List Int), vs = [.ref p] ∧ H p = some (.tup (t.map V.int)) ∧ t.length ≤ 400 ∧ Ltrs t ∧ ∀ H' l, Same H H' → H l = none → H' l = some (.lst ((nums (above t t.length 0)).map V.int)) → Q (.ref l) H'
theorem ok_bord {k : Nat} (T : Txt K mg) : FnOk P w K mg base CX0 (k + 5) T.aBorders T.dBorders ["text"] spBord := by
  have GCheckText : FnOk P w K mg base CX0 (k + 4) T.aCheckText T.dCheckText ["value"] (spTxt 4096 .non) := ok_checkText T
  have GCheckSize : FnOk P w K mg base CX0 (k + 4) T.aCheckSize T.dCheckSize ["text"] (spTxt 400 .non) := ok_checkSize T
  have GLongestBorders : FnOk P w K mg base CX0 (k + 4) T.aLongestBorders T.dLongestBorders ["text"] (spNums lng) := ok_lngs T
  refine T.fBorders.ok scBorders (fun vs H Q E h => ?_) (fun cdv A outer s H vs Q E hr h => ?_)
  · obtain ⟨p, t, rfl, _⟩ := h
    rfl
  · obtain ⟨p, t, rfl, hp, hl, ht, q⟩ := h
    refine ⟨_, (pss_cons (ps_expr (pe_call GCheckText hr (by rfl) T.gCheckText T.fCheckText.kp T.bCheckText .nil pass0 (pa_cons (pv 0) pa_nil)))
      (pss_cons (ps_expr (pe_call GCheckSize hr (by rfl) T.gCheckSize T.fCheckSize.kp T.bCheckSize .nil pass0 (pa_cons (pv 0) pa_nil)))
      (pss_cons (ps_set (i := 1) scBorders.nd rfl (Or.inl rfl) (pe_call GLongestBorders hr (by rfl) T.gLongestBorders T.fLongestBorders.kp T.bLongestBorders .nil pass0 (pa_cons (pv 0) pa_nil)))
      (pss_cons (ps_set (i := 2) scBorders.nd rfl (Or.inl rfl) (pe_lst pa_nil))
      (pss_cons (ps_set (i := 3) scBorders.nd rfl (Or.inl rfl) (pe_ix ix_list (pv 1) (pe_un un_neg pe_int) (fun _ _ => rfl)))
      (pss_cons (ps_while PassesOwn.never (pt_cmpR op_gt (pv 3) pe_int (nomark _)) (pss_cons (ps_set (i := 2) scBorders.nd rfl (Or.inl rfl) (pe_op op_cat (pe_lst (pa_cons (pv 3) pa_nil)) (pv 2)))
      (pss_one (ps_set (i := 3) scBorders.nd rfl (Or.inl rfl) (pe_ix ix_list (pv 1) (pv 3) (fun _ _ => rfl))))))
      (pss_one (ps_ret (pv 2))))))))), ?_⟩
    refine ⟨_, rfl, p, t, rfl, hp, by omega, ht, fun H1 s1 => ?_⟩
    refine ⟨_, rfl, p, t, rfl, s1 _ _ hp, hl, ht, fun H2 s2 => ?_⟩
    refine ⟨_, rfl, p, t, rfl, s2 _ _ (s1 _ _ hp), hl, fun H3 l s3 nl hl3 => ?_⟩
    have s03 := (s1.trans s2).trans s3
    refine ⟨Nat.zero_le _, fun f nf => ?_⟩
    have s4 := same_new (o := .lst []) nf
    refine ⟨_, rfl, 1, rfl, l, _, -1, _, rfl, rfl, SqL.of (s4 _ _ hl3), last_numsB _, ?_⟩
    refine while_by (fun σ H' => ∃ (g : Addr) (b : Nat), σ = [some (.ref p), some (.ref l), some (.ref g), some (.int (b : Int))] ∧ Same H3 H' ∧ H3 g = none ∧ H' g = some (.lst ((nums (above t t.length b)).map V.int)) ∧ (0 < b → Brd t t.length b)) (fun σ H' => match σ with | [_, _, _, some (.int c)] => c.toNat | _ => 0) ?_ ?_ ?_
    · refine ⟨f, lng t t.length, rfl, s4, nf, ?_, fun h0 => ?_⟩
      · rw [above_top]
        exact upd_same
      · refine lng_brd ?_
        rcases Nat.eq_zero_or_pos t.length with e | e
        · rw [e, lng_zero] at h0
          omega
        · exact e
    · rintro σ H5 ⟨g, b, rfl, s5, ng, hg, hb⟩
      by_cases e : (b : Int) > 0
      · refine ⟨_, rfl, _, 0, rfl, rfl, true, congrArg V.bl (decide_eq_true e), iteT ?_⟩
        have hb' := hb (by omega)
        have hlt := lng_lt (t := t) (n := b) (by omega)
        refine ⟨_, rfl, by show 1 ≤ sizeLine; decide, fun o no => ?_⟩
        have s6 := same_new (o := .lst [V.int (b : Int)]) no
        refine ⟨_, rfl, o, g, _, _, rfl, rfl, upd_same, s6 _ _ hg, fits5 (by
          have := above_len t t.length b
          unfold nums
          rw [List.length_map, List.length_map]
          show 1 + _ ≤ _
          omega), fun g2 ng2 => ?_⟩
        have s7 := same_new (o := .lst ([V.int (b : Int)] ++ (nums (above t t.length b)).map V.int)) ng2
        have s57 := (s5.trans s6).trans s7
        refine ⟨_, rfl, _, rfl, l, _, _, .int ((lng t b : Nat) : Int), rfl, rfl, SqL.of (s57 _ _ hl3), atI_nat (by rw [List.getElem?_map, List.getElem?_map, List.getElem?_range (by have := hb'.1; omega)]; rfl), ⟨⟨g2, lng t b, rfl, s57, (s5.trans s6).free ng2, ?_, fun h0 => (Brd.inner hb' hlt).mpr (lng_brd (by omega))⟩, ?_⟩⟩
        · rw [upd_same, above_step hb' (by omega)]
          rfl
        · show ((lng t b : Nat) : Int).toNat < ((b : Nat) : Int).toNat
          omega
      · refine ⟨_, rfl, _, 0, rfl, rfl, false, congrArg V.bl (decide_eq_false e), iteF ?_⟩
        obtain rfl : b = 0 := by omega
        exact ⟨_, rfl, q H5 g (s03.trans s5) (s03.free ng) hg⟩
    · rintro σ H5 Q1 Q2 hq ⟨v, h1, i1, j1, h2, h3, k2, h4, h5⟩
      exact ⟨v, h1, i1, j1, h2, h3, k2, h4, hq _ _ h5⟩
end
end Mo

/-! ### blocks and their ranks -/
namespace Mo
/-- no block that begins at i has rank c -/
def Less (t : List Int) (c i : Nat) : Prop := ∀ j, i + j ≤ t.length → rk (t.drop i) j < c
def First (t : List Int) (c i j : Nat) : Prop := i < t.length ∧ i + j ≤ t.length ∧ c ≤ rk (t.drop i) j ∧ (∀ j', j' < j → rk (t.drop i) j' < c) ∧ ∀ i', i' < i → Less t c i'
theorem First.uniq {t : List Int} {c i j i' j' : Nat} (h : First t c i j) (g : First t c i' j') : i = i' ∧ j = j' := by
  obtain ⟨a1, a2, a3, a4, a5⟩ := h
  obtain ⟨b1, b2, b3, b4, b5⟩ := g
  have e : i = i' := by
    rcases Nat.lt_trichotomy i i' with z | z | z
    · have := b5 i z j a2
      omega
    · exact z
    · have := a5 i' z j' b2
      omega
  subst e
  refine ⟨rfl, ?_⟩
  rcases Nat.lt_trichotomy j j' with z | z | z
  · have := b4 j z
    omega
  · exact z
  · have := a4 j' z
    omega
/-- the ranks of the blocks that begin at i, their begins and ends -/
def row (t : List Int) (i n : Nat) : List (List Int) := (List.range n).map fun k => [((rk (t.drop i) (k + 1) : Nat) : Int), ((i : Nat) : Int), ((i + (k + 1) : Nat) : Int)]
def blks (t : List Int) : Nat → List (List Int)
  | 0 => []
  | i + 1 => blks t i ++ row t i (t.length - i)
theorem row_len (t : List Int) (i n : Nat) : (row t i n).length = n := by
  unfold row
  rw [List.length_map, List.length_range]
theorem blks_len {t : List Int} : ∀ i, (blks t i).length ≤ i * t.length
  | 0 => Nat.zero_le _
  | i + 1 => by
    have := blks_len (t := t) i
    rw [blks, List.length_append, row_len, Nat.succ_mul]
    omega
theorem row_succ (t : List Int) (i n : Nat) : row t i (n + 1) = row t i n ++ [[((rk (t.drop i) (n + 1) : Nat) : Int), ((i : Nat) : Int), ((i + (n + 1) : Nat) : Int)]] := by
  unfold row
  rw [List.range_succ, List.map_append]
  rfl
theorem blks_cons {t : List Int} : ∀ {i : Nat} {v : List Int}, v ∈ blks t i → ∃ y r, v = y :: r
  | 0, v, h => by cases h
  | i + 1, v, h => by
    rw [blks] at h
    rcases List.mem_append.mp h with g | g
    · exact blks_cons g
    · obtain ⟨k, _, rfl⟩ := List.mem_map.mp g
      exact ⟨_, _, rfl⟩
def high (c : Nat) (v : List Int) : Bool := decide ((c : Int) ≤ v.headD 0)
theorem row_first {t : List Int} {c i : Nat} (hc : 0 < c) : ∀ n : Nat, ((row t i n).filter (high c) = [] ∧ ∀ j, j ≤ n → rk (t.drop i) j < c) ∨
    ∃ j rest, j ≤ n ∧ c ≤ rk (t.drop i) j ∧ (∀ j', j' < j → rk (t.drop i) j' < c) ∧ (row t i n).filter (high c) = [((rk (t.drop i) j : Nat) : Int), ((i : Nat) : Int), ((i + j : Nat) : Int)] :: rest
  | 0 => .inl ⟨rfl, fun j hj => by
      obtain rfl : j = 0 := by omega
      rw [rk_zero]
      exact hc⟩
  | n + 1 => by
    rcases row_first (t := t) (i := i) hc n with ⟨h1, h2⟩ | ⟨j, rest, h1, h2, h3, h4⟩
    · by_cases e : c ≤ rk (t.drop i) (n + 1)
      · refine .inr ⟨n + 1, [], Nat.le_refl _, e, fun j' hj => h2 j' (by omega), ?_⟩
        rw [row_succ, List.filter_append, h1, List.nil_append, List.filter_cons, if_pos (show high c _ = true from decide_eq_true (by show (c : Int) ≤ ((rk (t.drop i) (n + 1) : Nat) : Int); omega))]
        rfl
      · refine .inl ⟨?_, fun j hj => ?_⟩
        · rw [row_succ, List.filter_append, h1, List.nil_append, List.filter_cons, if_neg (show ¬ high c _ = true from fun z => by have z2 : (c : Int) ≤ ((rk (t.drop i) (n + 1) : Nat) : Int) := of_decide_eq_true z; omega)]
          rfl
        · rcases Nat.lt_or_ge j (n + 1) with g | g
          · exact h2 j (by omega)
          · obtain rfl : j = n + 1 := by omega
            omega
    · refine .inr ⟨j, rest ++ (([[((rk (t.drop i) (n + 1) : Nat) : Int), ((i : Nat) : Int), ((i + (n + 1) : Nat) : Int)]] : List (List Int)).filter (high c)), by omega, h2, h3, ?_⟩
      rw [row_succ, List.filter_append, h4]
      rfl
theorem blk_first {t : List Int} {c : Nat} (hc : 0 < c) : ∀ n : Nat, n ≤ t.length → ((blks t n).filter (high c) = [] ∧ ∀ i, i < n → Less t c i) ∨
    ∃ i j rest, First t c i j ∧ (blks t n).filter (high c) = [((rk (t.drop i) j : Nat) : Int), ((i : Nat) : Int), ((i + j : Nat) : Int)] :: rest
  | 0, _ => .inl ⟨rfl, fun i hi => by omega⟩
  | n + 1, hn => by
    rcases blk_first (t := t) hc n (by omega) with ⟨h1, h2⟩ | ⟨i, j, rest, h1, h2⟩
    · rcases row_first (t := t) (i := n) hc (t.length - n) with ⟨g1, g2⟩ | ⟨j, rest, g1, g2, g3, g4⟩
      · refine .inl ⟨by rw [blks, List.filter_append, h1, g1]; rfl, fun i hi => ?_⟩
        rcases Nat.lt_or_ge i n with z | z
        · exact h2 i z
        · obtain rfl : i = n := by omega
          exact fun j hj => g2 j (by omega)
      · refine .inr ⟨n, j, rest, ⟨by omega, by omega, g2, g3, h2⟩, ?_⟩
        rw [blks, List.filter_append, h1, g4]
        rfl
    · refine .inr ⟨i, j, rest ++ (row t n (t.length - n)).filter (high c), h1, ?_⟩
      rw [blks, List.filter_append, h2]
      rfl
theorem rk_pow {t : List Int} : ∀ n : Nat, 2 ^ rk t n ≤ n + 1 := by
  intro n
  induction n using Nat.strongRecOn with
  | ind n ih =>
    rcases Nat.eq_zero_or_pos n with e | hn
    · subst e
      rw [rk_zero]
      decide
    · have h1 := hlf_brd (t := t) hn
      have h2 := ih (hlf t n) h1.1.1
      rw [rk_pos hn, Nat.pow_succ]
      omega
/-- a first letter that does not come again -/
theorem rk_once {t : List Int} {n : Nat} (h : ∀ i, 0 < i → i < n → t[0]? ≠ t[i]?) : rk t n ≤ 1 := by
  rcases Nat.eq_zero_or_pos n with e | hn
  · subst e
    rw [rk_zero]
    omega
  · have h1 := hlf_brd (t := t) hn
    rcases Nat.eq_zero_or_pos (hlf t n) with e | hb
    · rw [rk_pos hn, e, rk_zero]
      omega
    · have := h1.1.2 0 hb
      exact absurd this (h (n - hlf t n + 0) (by omega) (by omega))
/-- all letters unlike but those at a and b -/
def Twin (u : List Int) (a b : Nat) : Prop := a + 2 ≤ b ∧ b < u.length ∧ u[a]? = u[b]? ∧ ∀ i j, i < j → j < u.length → u[i]? = u[j]? → i = a ∧ j = b
theorem twin_first {u : List Int} {a b : Nat} (h : Twin u a b) : First u 2 a (b + 1 - a) := by
  obtain ⟨h1, h2, h3, h4⟩ := h
  have small : ∀ i j, i + j ≤ u.length → (i ≠ a ∨ i + j ≤ b) → rk (u.drop i) j < 2 := fun i j hj hne => by
    have := rk_once (t := u.drop i) (n := j) fun k k0 k1 e => by
      rw [List.getElem?_drop, List.getElem?_drop, Nat.add_zero] at e
      have := h4 i (i + k) (by omega) (by omega) e
      omega
    omega
  refine ⟨by omega, by omega, ?_, fun j' hj => small a j' (by omega) (by omega), fun i' hi j hj => small i' j hj (by omega)⟩
  have hb : Brd (u.drop a) (b + 1 - a) 1 := ⟨by omega, fun i hi => by
    obtain rfl : i = 0 := by omega
    rw [List.getElem?_drop, List.getElem?_drop, Nat.add_zero, show a + (b + 1 - a - 1 + 0) = b by omega]
    exact h3⟩
  have := rk_most hb (by omega)
  rw [rk_pos (t := u.drop a) (k := 1) (by omega), hlf_one, rk_zero] at this
  omega
theorem twin_hlf {u : List Int} {a b : Nat} (h : Twin u a b) : hlf ((u.drop a).take (b + 1 - a)) (b + 1 - a) = 1 := by
  obtain ⟨h1, h2, h3, h4⟩ := h
  have at_ : ∀ i, i < b + 1 - a → ((u.drop a).take (b + 1 - a))[i]? = u[a + i]? := fun i hi => by
    rw [List.getElem?_take, if_pos hi, List.getElem?_drop]
  have hb : Brd ((u.drop a).take (b + 1 - a)) (b + 1 - a) 1 := ⟨by omega, fun i hi => by
    obtain rfl : i = 0 := by omega
    rw [at_ 0 (by omega), at_ _ (by omega), show a + (b + 1 - a - 1 + 0) = b by omega]
    exact h3⟩
  have hm := hlf_max hb (by omega)
  have hh := hlf_brd (t := (u.drop a).take (b + 1 - a)) (n := b + 1 - a) (by omega)
  generalize hlf ((u.drop a).take (b + 1 - a)) (b + 1 - a) = x at *
  have := hh.1.2 0 (by omega)
  rw [at_ 0 (by omega), at_ _ (by omega)] at this
  have := h4 _ _ (by omega) (by omega) this
  omega
theorem twin_vls {u : List Int} {a b : Nat} (h : Twin u a b) : vls ((u.drop a).take (b + 1 - a)) (b + 1 - a) 1 = [(u.drop a).take 1, (u.drop (a + 1)).take (b - (a + 1))] := by
  have hh := twin_hlf h
  have h1 := h.1
  rw [vls, vls, hh]
  unfold mid
  rw [hh, List.take_take, Nat.min_eq_left (by omega), List.drop_take, List.drop_drop, List.take_take, Nat.min_eq_left (by omega), show b + 1 - a - 1 - 1 = b - (a + 1) by omega]
  rfl
/-! ### universal texts in other letters -/
theorem unif_at {f : Int → Int} {m c : Nat} (h : m ≤ c) {i : Nat} (hi : i + 1 < 2 ^ m) : ((uni c).map f)[i]? = ((uni m).map f)[i]? := by
  have : 2 ^ m ≤ 2 ^ c := Nat.pow_le_pow_right (by decide) h
  rw [List.getElem?_map, List.getElem?_map, uni_at c i (by omega), uni_at m i hi]
/-- t begins with the universal text of c, in other letters -/
def Beg (t : List Int) (f : Int → Int) (c : Nat) : Prop := ∀ i, i + 1 < 2 ^ c → t[i]? = ((uni c).map f)[i]?
theorem Beg.low {t : List Int} {f : Int → Int} {c m : Nat} (h : Beg t f c) (hm : m ≤ c) : Beg t f m := fun i hi => by
  have : 2 ^ m ≤ 2 ^ c := Nat.pow_le_pow_right (by decide) hm
  rw [h i (by omega), unif_at hm hi]
theorem Beg.hlf {t : List Int} {f : Int → Int} {c : Nat} (h : Beg t f (c + 1)) : Mo.hlf t (2 ^ (c + 1) - 1) = 2 ^ c - 1 := by
  have p : 0 < 2 ^ c := Nat.pow_pos (by decide)
  have e : 2 ^ (c + 1) = 2 ^ c + 2 ^ c := by rw [Nat.pow_succ]; omega
  have hb : Brd t (2 ^ (c + 1) - 1) (2 ^ c - 1) := ⟨by omega, fun i hi => by
    rw [h i (by omega), h (2 ^ (c + 1) - 1 - (2 ^ c - 1) + i) (by omega), List.getElem?_map, List.getElem?_map, uni_at _ i (by omega), uni_at _ _ (by omega), show 2 ^ (c + 1) - 1 - (2 ^ c - 1) + i + 1 = 2 ^ c + (i + 1) by omega, tz_high c (i + 1) (by omega) (by omega)]⟩
  have h1 := hlf_max hb (by omega)
  have h2 := hlf_brd (t := t) (n := 2 ^ (c + 1) - 1) (by omega)
  omega
theorem Beg.rk {t : List Int} {f : Int → Int} : ∀ {c : Nat}, Beg t f c → Mo.rk t (2 ^ c - 1) = c
  | 0, _ => rk_zero t
  | c + 1, h => by
    have p : 0 < 2 ^ c := Nat.pow_pos (by decide)
    rw [rk_pos (by rw [Nat.pow_succ]; omega), h.hlf, Beg.rk (h.low (Nat.le_succ c))]
theorem drop_one {t : List Int} {n : Nat} {x : Int} (h : t[n]? = some x) : (t.drop n).take 1 = [x] := by
  have e : (t.drop n)[0]? = some x := by rw [List.getElem?_drop, Nat.add_zero]; exact h
  cases g : t.drop n with
  | nil => rw [g] at e; cases e
  | cons y r =>
    rw [g] at e
    cases e
    rfl
theorem Beg.vls {t : List Int} {f : Int → Int} : ∀ {c : Nat}, Beg t f (c + 1) → Mo.vls t (2 ^ (c + 1) - 1) c = (List.range (c + 1)).map fun k => [f ((k : Nat) : Int)]
  | 0, h => by
    show [t.take 1] = [[f ((0 : Nat) : Int)]]
    have h0 := h 0 (by decide)
    rw [List.getElem?_map, uni_at 1 0 (by decide), show tz (0 + 1) = 0 from tz_odd rfl] at h0
    have := drop_one h0
    rw [List.drop_zero] at this
    rw [this]
  | c + 1, h => by
    have p : 0 < 2 ^ (c + 1) := Nat.pow_pos (by decide)
    have e : 2 ^ (c + 1 + 1) = 2 ^ (c + 1) + 2 ^ (c + 1) := by rw [Nat.pow_succ]; omega
    rw [Mo.vls, h.hlf, Beg.vls (h.low (Nat.le_succ _)), List.range_succ (n := c + 1), List.map_append]
    refine congrArg (_ ++ ·) ?_
    have hm := h (2 ^ (c + 1) - 1) (by omega)
    rw [List.getElem?_map, uni_at _ _ (by omega), show 2 ^ (c + 1) - 1 + 1 = 2 ^ (c + 1) by omega, tz_pow] at hm
    unfold mid
    rw [h.hlf, show 2 ^ (c + 1 + 1) - 1 - (2 ^ (c + 1) - 1) - (2 ^ (c + 1) - 1) = 1 by omega, drop_one hm]
    rfl
def lett_of (own : List Int) (x : Int) : Int := own.getD x.toNat 0
/-- the universal text in the letters own, between unlike other letters, a of them ahead -/
def Grt (u own : List Int) (a : Nat) : Prop := ∃ pre post : List Int, u = pre ++ ((uni own.length).map (lett_of own) ++ post) ∧ pre.length = a ∧ (pre ++ (own ++ post)).Nodup
theorem lett_mem {own : List Int} {x : Int} (h : x ∈ uni own.length) : lett_of own x ∈ own := by
  have := uni_low h
  unfold lett_of
  rw [List.getD_eq_getElem?_getD, List.getElem?_eq_getElem (by omega)]
  exact List.getElem_mem _
theorem Grt.ahead {u own : List Int} {a : Nat} (h : Grt u own a) {i k : Nat} (hi : i < a) (hk : 0 < k) : u[i]? ≠ u[i + k]? ∨ u.length ≤ i + k := by
  obtain ⟨pre, post, rfl, ha, hn⟩ := h
  rcases Nat.lt_or_ge (i + k) (pre ++ ((uni own.length).map (lett_of own) ++ post)).length with g | g
  · refine .inl fun e => ?_
    rw [List.getElem?_append_left (by omega)] at e
    have hn2 := List.nodup_append.mp hn
    rcases Nat.lt_or_ge (i + k) pre.length with z | z
    · rw [List.getElem?_append_left z, List.getElem?_eq_getElem (by omega), List.getElem?_eq_getElem z] at e
      have := (List.getElem_inj (h₀ := by omega) (h₁ := z) hn2.1).mp (Option.some.inj e)
      omega
    · rw [List.getElem?_append_right z, List.getElem?_eq_getElem (by omega)] at e
      have hm := List.mem_of_getElem? e.symm
      have hp : pre[i] ∈ pre := List.getElem_mem _
      refine hn2.2.2 _ hp _ ?_ rfl
      rcases List.mem_append.mp hm with y | y
      · obtain ⟨x, hx, ex⟩ := List.mem_map.mp y
        rw [← ex]
        exact List.mem_append_left _ (lett_mem hx)
      · exact List.mem_append_right _ y
  · exact .inr g
theorem Grt.beg {u own : List Int} {a : Nat} (h : Grt u own a) : Beg (u.drop a) (lett_of own) own.length := by
  obtain ⟨pre, post, rfl, rfl, hn⟩ := h
  intro i hi
  have hl := uni_len own.length
  rw [List.drop_left, List.getElem?_append_left (by rw [List.length_map]; omega)]
theorem Grt.len {u own : List Int} {a : Nat} (h : Grt u own a) : a + (2 ^ own.length - 1) ≤ u.length := by
  obtain ⟨pre, post, rfl, rfl, hn⟩ := h
  have hl := uni_len own.length
  rw [List.length_append, List.length_append, List.length_map]
  omega
theorem Grt.first {u own : List Int} {a : Nat} (h : Grt u own a) (hc : 2 ≤ own.length) : First u own.length a (2 ^ own.length - 1) := by
  have hl := h.len
  have p : 2 ^ 1 ≤ 2 ^ own.length := Nat.pow_le_pow_right (by decide) (by omega)
  refine ⟨by omega, hl, Nat.le_of_eq h.beg.rk.symm, fun j' hj => ?_, fun i' hi j hj => ?_⟩
  · rcases Nat.lt_or_ge (rk (u.drop a) j') own.length with g | g
    · exact g
    · have h1 := rk_pow (t := u.drop a) j'
      have h2 : 2 ^ own.length ≤ 2 ^ rk (u.drop a) j' := Nat.pow_le_pow_right (by decide) g
      omega
  · have := rk_once (t := u.drop i') (n := j) fun k k0 k1 e => by
      rw [List.getElem?_drop, List.getElem?_drop, Nat.add_zero] at e
      rcases h.ahead hi k0 with z | z
      · exact z e
      · omega
    omega
theorem Grt.vls {u own : List Int} {a m : Nat} (h : Grt u own a) (hc : own.length = m + 1) : Mo.vls ((u.drop a).take (2 ^ (m + 1) - 1)) (2 ^ (m + 1) - 1) m = own.map fun x => [x] := by
  have hb := h.beg
  rw [hc] at hb
  have hb2 : Beg ((u.drop a).take (2 ^ (m + 1) - 1)) (lett_of own) (m + 1) := fun i hi => by
    rw [List.getElem?_take, if_pos (by omega)]
    exact hb i hi
  rw [hb2.vls, ← hc]
  apply List.ext_getElem?
  intro i
  rw [List.getElem?_map, List.getElem?_map]
  rcases Nat.lt_or_ge i own.length with g | g
  · rw [List.getElem?_range g, List.getElem?_eq_getElem g]
    show some [lett_of own ((i : Nat) : Int)] = some [own[i]]
    unfold lett_of
    rw [Int.toNat_natCast, List.getD_eq_getElem?_getD, List.getElem?_eq_getElem g]
    rfl
  · rw [List.getElem?_eq_none (by rw [List.length_range]; exact g), List.getElem?_eq_none g]
    rfl
end Mo

namespace Mo
/-- no block has a rank above b -/
def Top (t : List Int) (b : Nat) : Prop := ∀ i, i < t.length → Less t (b + 1) i
/-- some block has the rank b -/
def Has (t : List Int) (b : Nat) : Prop := b = 0 ∨ ∃ i j, i < t.length ∧ i + j ≤ t.length ∧ rk (t.drop i) j = b
theorem top_uniq {t : List Int} {b c : Nat} (h1 : Top t b) (h2 : Has t b) (g1 : Top t c) (g2 : Has t c) : b = c := by
  have le : ∀ {b c : Nat}, Has t b → Top t c → b ≤ c := fun {b c} h g => by
    rcases h with e | ⟨i, j, hi, hj, e⟩
    · omega
    · have := g i hi j hj
      omega
  exact Nat.le_antisymm (le h2 g1) (le g2 h1)
/-- the first of the best blocks, (0, 0, 0) if there is none -/
def Best (t : List Int) (b i j : Nat) : Prop := Top t b ∧ ((b = 0 ∧ i = 0 ∧ j = 0) ∨ (0 < b ∧ First t b i j))
theorem Best.has {t : List Int} {b i j : Nat} (h : Best t b i j) : Has t b := by
  rcases h.2 with ⟨e, _⟩ | ⟨_, hF⟩
  · exact .inl e
  · have := h.1 i hF.1 j hF.2.1
    have := hF.2.2.1
    exact .inr ⟨i, j, hF.1, hF.2.1, by omega⟩
theorem rk_first {t : List Int} : rk t 1 = 1 := by rw [rk_pos (by omega), hlf_one, rk_zero]
theorem Best.low {t : List Int} {b i j : Nat} (h : Best t b i j) (h0 : 0 < t.length) : 0 < b := by
  have := h.1 0 h0 1 (by omega)
  rw [List.drop_zero, rk_first] at this
  omega
theorem Best.uniq {t : List Int} {b i j b' i' j' : Nat} (h : Best t b i j) (g : Best t b' i' j') : b = b' ∧ i = i' ∧ j = j' := by
  have e := top_uniq h.1 h.has g.1 g.has
  subst e
  rcases h.2 with ⟨e, e1, e2⟩ | ⟨e, hF⟩ <;> rcases g.2 with ⟨d, d1, d2⟩ | ⟨d, gF⟩
  · omega
  · omega
  · omega
  · exact ⟨rfl, hF.uniq gF⟩
theorem Best.of {t : List Int} {b i j : Nat} (h : Top t b) (hb : 0 < b) (hF : First t b i j) : Best t b i j := ⟨h, .inr ⟨hb, hF⟩⟩
theorem Best.rank {t : List Int} {b i j : Nat} (h : Best t b i j) (hb : 0 < b) : rk (t.drop i) j = b := by
  rcases h.2 with ⟨e, _⟩ | ⟨_, hF⟩
  · omega
  · have := h.1 i hF.1 j hF.2.1
    have := hF.2.2.1
    omega
/-- what stands among the blocks -/
theorem mem_blks {t : List Int} : ∀ {n : Nat} {v : List Int}, n ≤ t.length → v ∈ blks t n → ∃ i k, i < n ∧ i + (k + 1) ≤ t.length ∧ v = [((rk (t.drop i) (k + 1) : Nat) : Int), ((i : Nat) : Int), ((i + (k + 1) : Nat) : Int)]
  | 0, v, _, h => by cases h
  | n + 1, v, hn, h => by
    rw [blks] at h
    rcases List.mem_append.mp h with g | g
    · obtain ⟨i, k, h1, h2, h3⟩ := mem_blks (by omega) g
      exact ⟨i, k, by omega, h2, h3⟩
    · obtain ⟨k, hk, rfl⟩ := List.mem_map.mp g
      have := List.mem_range.mp hk
      exact ⟨n, k, by omega, by omega, rfl⟩
theorem blks_mem {t : List Int} : ∀ {n i k : Nat}, i < n → i + (k + 1) ≤ t.length → [((rk (t.drop i) (k + 1) : Nat) : Int), ((i : Nat) : Int), ((i + (k + 1) : Nat) : Int)] ∈ blks t n
  | 0, i, k, h, _ => by omega
  | n + 1, i, k, h, hk => by
    rw [blks]
    rcases Nat.lt_or_ge i n with g | g
    · exact List.mem_append_left _ (blks_mem g hk)
    · obtain rfl : i = n := by omega
      exact List.mem_append_right _ (List.mem_map.mpr ⟨k, List.mem_range.mpr (by omega), rfl⟩)
def lone (b : Nat) (v : List Int) : Bool := decide (v.headD 0 = (b : Int))
theorem blk_best {t : List Int} {b i j : Nat} (h : Best t b i j) : ∃ rest, (blks t t.length).filter (lone b) ++ [[0, 0, 0]] = [((b : Nat) : Int), ((i : Nat) : Int), ((i + j : Nat) : Int)] :: rest := by
  rcases h.2 with ⟨rfl, rfl, rfl⟩ | ⟨hb, hF⟩
  · have e : t.length = 0 := by
      rcases Nat.eq_zero_or_pos t.length with e | e
      · exact e
      · have := h.low e
        omega
    rw [e]
    exact ⟨[], rfl⟩
  · have e : (blks t t.length).filter (lone b) = (blks t t.length).filter (high b) := by
      refine List.filter_congr fun v hv => ?_
      obtain ⟨i', k, h1, h2, rfl⟩ := mem_blks (Nat.le_refl _) hv
      have := h.1 i' h1 (k + 1) h2
      unfold lone high
      show decide (((rk (t.drop i') (k + 1) : Nat) : Int) = (b : Int)) = decide ((b : Int) ≤ ((rk (t.drop i') (k + 1) : Nat) : Int))
      by_cases z : ((rk (t.drop i') (k + 1) : Nat) : Int) = (b : Int)
      · rw [decide_eq_true z, decide_eq_true (by omega)]
      · rw [decide_eq_false z, decide_eq_false (by omega)]
    rcases blk_first (t := t) hb t.length (Nat.le_refl _) with ⟨g1, g2⟩ | ⟨i0, j0, rest, g1, g2⟩
    · have := g2 i hF.1 j hF.2.1
      have := hF.2.2.1
      omega
    · obtain ⟨e1, e2⟩ := hF.uniq g1
      subst e1 e2
      rw [e, g2, h.rank hb]
      exact ⟨_, rfl⟩
/-! ### the long texts -/
theorem brd_two {t : List Int} {n : Nat} (h : 2 ≤ rk t n) : 0 < hlf t n ∧ 0 < n := by
  rcases Nat.eq_zero_or_pos n with e | hn
  · subst e
    rw [rk_zero] at h
    omega
  · rcases Nat.eq_zero_or_pos (hlf t n) with e | hb
    · rw [rk_pos hn, e, rk_zero] at h
      omega
    · exact ⟨hb, hn⟩
theorem twin_top {u : List Int} {a b : Nat} (h : Twin u a b) : Top u 2 := by
  obtain ⟨h1, h2, h3, h4⟩ := h
  intro i hi j hj
  rcases Nat.lt_or_ge (rk (u.drop i) j) 3 with g | g
  · exact g
  · obtain ⟨b1, b2⟩ := brd_two (t := u.drop i) (n := j) (by omega)
    have hb := hlf_brd (t := u.drop i) b2
    rw [rk_pos b2] at g
    obtain ⟨c1, c2⟩ := brd_two (t := u.drop i) (n := hlf (u.drop i) j) (by omega)
    have hc := hlf_brd (t := u.drop i) c2
    generalize hlf (u.drop i) j = x at *
    have e0 := hb.1.2 0 (by omega)
    have e1 := hb.1.2 1 (by omega)
    rw [List.getElem?_drop, List.getElem?_drop] at e0 e1
    have d0 := h4 _ _ (by omega) (by omega) e0
    have d1 := h4 _ _ (by omega) (by omega) e1
    omega
theorem twin_best {u : List Int} {a b : Nat} (h : Twin u a b) : Best u 2 a (b + 1 - a) := .of (twin_top h) (by decide) (twin_first h)
theorem twin_whole {u : List Int} {a b : Nat} (h : Twin u a b) (hn : ¬ (a = 0 ∧ b + 1 = u.length)) : rk u u.length = 1 := by
  obtain ⟨h1, h2, h3, h4⟩ := h
  have p := rk_pos (t := u) (k := u.length) (by omega)
  rcases Nat.lt_or_ge (rk u u.length) 2 with g | g
  · omega
  · obtain ⟨b1, b2⟩ := brd_two g
    have hb := hlf_brd (t := u) b2
    generalize hlf u u.length = x at *
    have e0 := hb.1.2 0 (by omega)
    have d0 := h4 _ _ (by omega) (by omega) e0
    rcases Nat.lt_or_ge 1 x with z | z
    · have e1 := hb.1.2 1 (by omega)
      have d1 := h4 _ _ (by omega) (by omega) e1
      omega
    · omega
/-- behind the universal text nothing comes twice -/
theorem Grt.behind {u own : List Int} {a : Nat} (h : Grt u own a) {i k : Nat} (hk : a + (2 ^ own.length - 1) ≤ k) (hl : k < u.length) (hi : i < k) : u[i]? ≠ u[k]? := by
  obtain ⟨pre, post, rfl, rfl, hn⟩ := h
  have hul := uni_len own.length
  intro e
  have hn2 := List.nodup_append.mp hn
  have hn3 := List.nodup_append.mp hn2.2.1
  have ml : ((uni own.length).map (lett_of own)).length = 2 ^ own.length - 1 := by rw [List.length_map]; omega
  have ek : (pre ++ ((uni own.length).map (lett_of own) ++ post))[k]? = post[k - pre.length - (2 ^ own.length - 1)]? := by
    rw [List.getElem?_append_right (by omega), List.getElem?_append_right (by omega), ml]
  have hl2 : k - pre.length - (2 ^ own.length - 1) < post.length := by
    rw [List.length_append, List.length_append, ml] at hl
    omega
  rw [ek] at e
  rw [List.getElem?_eq_getElem hl2] at e
  have hp : post[k - pre.length - (2 ^ own.length - 1)] ∈ post := List.getElem_mem _
  rcases Nat.lt_or_ge i pre.length with z | z
  · rw [List.getElem?_append_left z] at e
    have hm := List.mem_of_getElem? e
    exact hn2.2.2 _ hm _ (List.mem_append_right _ hp) rfl
  · rw [List.getElem?_append_right z] at e
    rcases Nat.lt_or_ge (i - pre.length) (2 ^ own.length - 1) with y | y
    · rw [List.getElem?_append_left (by omega)] at e
      have hm := List.mem_of_getElem? e
      obtain ⟨x, hx, ex⟩ := List.mem_map.mp hm
      exact hn3.2.2 _ (lett_mem hx) _ hp ex
    · rw [List.getElem?_append_right (by omega), ml] at e
      have hl3 : i - pre.length - (2 ^ own.length - 1) < post.length := by omega
      rw [List.getElem?_eq_getElem hl3] at e
      have := (List.getElem_inj (h₀ := hl3) (h₁ := hl2) hn3.2.1).mp (Option.some.inj e)
      omega
/-- a block that repeats its first letters lies within the universal text -/
theorem Grt.within {u own : List Int} {a : Nat} (h : Grt u own a) {i j : Nat} (hj : i + j ≤ u.length) (hr : 2 ≤ rk (u.drop i) j) : a ≤ i ∧ i + j ≤ a + (2 ^ own.length - 1) := by
  obtain ⟨b1, b2⟩ := brd_two hr
  have hb := hlf_brd (t := u.drop i) b2
  generalize hlf (u.drop i) j = x at *
  have e0 := hb.1.2 0 (by omega)
  have e1 := hb.1.2 (x - 1) (by omega)
  rw [List.getElem?_drop, List.getElem?_drop] at e0 e1
  constructor
  · rcases Nat.lt_or_ge i a with g | g
    · rcases h.ahead g (k := j - x) (by omega) with z | z
      · exact absurd e0 (by rw [Nat.add_zero, show i + (j - x + 0) = i + (j - x) by omega]; exact z)
      · omega
    · exact g
  · rcases Nat.lt_or_ge (a + (2 ^ own.length - 1)) (i + j) with g | g
    · refine absurd e1 ?_
      rw [show i + (j - x + (x - 1)) = i + j - 1 by omega]
      exact h.behind (by omega) (by omega) (by omega)
    · exact g
theorem Grt.top {u own : List Int} {a : Nat} (h : Grt u own a) (hc : 2 ≤ own.length) : Top u own.length := by
  intro i hi j hj
  rcases Nat.lt_or_ge (rk (u.drop i) j) (own.length + 1) with g | g
  · exact g
  · have hw := h.within hj (by omega)
    have h1 := rk_pow (t := u.drop i) j
    have h2 : 2 ^ (own.length + 1) ≤ 2 ^ rk (u.drop i) j := Nat.pow_le_pow_right (by decide) g
    rw [Nat.pow_succ] at h2
    have : 0 < 2 ^ own.length := Nat.pow_pos (by decide)
    omega
theorem Grt.best {u own : List Int} {a : Nat} (h : Grt u own a) (hc : 2 ≤ own.length) : Best u own.length a (2 ^ own.length - 1) := .of (h.top hc) (by omega) (h.first hc)
theorem Grt.whole {u own : List Int} {a : Nat} (h : Grt u own a) (hc : 2 ≤ own.length) (hn : ¬ (a = 0 ∧ 2 ^ own.length - 1 = u.length)) : rk u u.length = 1 := by
  have hl := h.len
  have p2 : 2 ^ 1 ≤ 2 ^ own.length := Nat.pow_le_pow_right (by decide) (by omega)
  have p := rk_pos (t := u) (k := u.length) (by omega)
  rcases Nat.lt_or_ge (rk u u.length) 2 with g | g
  · omega
  · have := h.within (i := 0) (j := u.length) (by omega) (by rw [List.drop_zero]; exact g)
    omega
end Mo
namespace Mo
theorem best_of {t : List Int} {b : Nat} (h : Top t b) (g : Has t b) : ∃ i j, Best t b i j := by
  rcases Nat.eq_zero_or_pos b with e | hb
  · exact ⟨0, 0, h, .inl ⟨e, rfl, rfl⟩⟩
  · rcases blk_first (t := t) hb t.length (Nat.le_refl _) with ⟨_, g2⟩ | ⟨i, j, _, g1, _⟩
    · rcases g with e | ⟨i, j, hi, hj, e⟩
      · omega
      · have := g2 i hi j hj
        omega
    · exact ⟨i, j, h, .inr ⟨hb, g1⟩⟩
theorem Best.small {t : List Int} {b i j : Nat} (h : Best t b i j) : b ≤ t.length ∧ i ≤ t.length ∧ i + j ≤ t.length := by
  rcases h.2 with ⟨rfl, rfl, rfl⟩ | ⟨hb, hF⟩
  · omega
  · have h1 := h.rank hb
    have h2 := rk_pow (t := t.drop i) j
    rw [h1] at h2
    have h3 := Nat.lt_two_pow_self (n := b)
    have := hF.1
    have := hF.2.1
    omega
theorem best_nil : Best [] 0 0 0 := ⟨fun i hi => absurd hi (Nat.not_lt_zero i), .inl ⟨rfl, rfl, rfl⟩⟩
end Mo

namespace Mo
/-! long texts have blocks of rank n: two of many blocks are equal -/
/-- the bound for rank n + 1, k letters -/
def bndL (k : Nat) : Nat → Nat
  | 0 => 1
  | n + 1 => (k ^ bndL k n + 1) * (bndL k n + 1) - 1
theorem bndL_pos (k : Nat) : ∀ n, 1 ≤ bndL k n
  | 0 => Nat.le_refl _
  | n + 1 => by
    have h := bndL_pos k n
    have h2 : 1 * 2 ≤ (k ^ bndL k n + 1) * (bndL k n + 1) := Nat.mul_le_mul (by omega) (by omega)
    unfold bndL
    omega
/-- where a letter stands in a list of letters -/
def posL : List Int → Int → Nat
  | [], _ => 0
  | y :: r, x => if y = x then 0 else posL r x + 1
theorem posL_lt : ∀ {L : List Int} {x : Int}, x ∈ L → posL L x < L.length
  | [], _, h => absurd h List.not_mem_nil
  | y :: r, x, h => by
    unfold posL
    by_cases e : y = x
    · rw [if_pos e]
      exact Nat.succ_pos _
    · rw [if_neg e, List.length_cons]
      rcases List.mem_cons.mp h with z | z
      · exact absurd z.symm e
      · have := posL_lt z
        omega
theorem posL_inj : ∀ {L : List Int} {x y : Int}, x ∈ L → y ∈ L → posL L x = posL L y → x = y
  | [], _, _, h, _, _ => absurd h List.not_mem_nil
  | z :: r, x, y, hx, hy, e => by
    unfold posL at e
    by_cases ex : z = x
    · by_cases ey : z = y
      · exact ex.symm.trans ey
      · rw [if_pos ex, if_neg ey] at e
        omega
    · by_cases ey : z = y
      · rw [if_neg ex, if_pos ey] at e
        omega
      · rw [if_neg ex, if_neg ey] at e
        rcases List.mem_cons.mp hx with q | q
        · exact absurd q.symm ex
        · rcases List.mem_cons.mp hy with q2 | q2
          · exact absurd q2.symm ey
          · exact posL_inj q q2 (by omega)
def codeL (L : List Int) : List Int → Nat
  | [] => 0
  | x :: r => posL L x + L.length * codeL L r
theorem codeL_lt {L : List Int} : ∀ {w : List Int}, (∀ x ∈ w, x ∈ L) → codeL L w < L.length ^ w.length
  | [], _ => by
    show 0 < 1
    decide
  | x :: r, h => by
    have h1 := posL_lt (h x (List.mem_cons_self ..))
    have h2 := codeL_lt (w := r) fun z hz => h z (List.mem_cons_of_mem _ hz)
    have h3 : L.length * (codeL L r + 1) ≤ L.length * L.length ^ r.length := Nat.mul_le_mul_left _ h2
    rw [Nat.mul_succ] at h3
    rw [List.length_cons, Nat.pow_succ, Nat.mul_comm (L.length ^ r.length)]
    unfold codeL
    omega
theorem codeL_inj {L : List Int} : ∀ {w v : List Int}, (∀ x ∈ w, x ∈ L) → (∀ x ∈ v, x ∈ L) → w.length = v.length → codeL L w = codeL L v → w = v
  | [], [], _, _, _, _ => rfl
  | [], _ :: _, _, _, h, _ => absurd h (by simp)
  | _ :: _, [], _, _, h, _ => absurd h (by simp)
  | x :: r, y :: q, hw, hv, hl, e => by
    have px := posL_lt (hw x (List.mem_cons_self ..))
    have py := posL_lt (hv y (List.mem_cons_self ..))
    unfold codeL at e
    have e1 := congrArg (· % L.length) e
    have e2 := congrArg (· / L.length) e
    simp only [Nat.add_mul_mod_self_left, Nat.mod_eq_of_lt px, Nat.mod_eq_of_lt py] at e1
    simp only [Nat.add_mul_div_left _ _ (show 0 < L.length by omega), Nat.div_eq_of_lt px, Nat.div_eq_of_lt py, Nat.zero_add] at e2
    rw [posL_inj (hw x (List.mem_cons_self ..)) (hv y (List.mem_cons_self ..)) e1, codeL_inj (fun z hz => hw z (List.mem_cons_of_mem _ hz)) (fun z hz => hv z (List.mem_cons_of_mem _ hz)) (by simpa using hl) e2]
theorem two_alike {f : Nat → Nat} {n : Nat} (h : ∀ s, s ≤ n → f s < n) : ∃ s s', s < s' ∧ s' ≤ n ∧ f s = f s' := by
  apply Classical.byContradiction
  intro no
  have nd : ((List.range (n + 1)).map f).Nodup := by
    refine List.pairwise_map.mpr (List.Pairwise.imp_of_mem (fun {s s'} hs hs' lt e => ?_) List.pairwise_lt_range)
    exact no ⟨s, s', lt, by have := List.mem_range.mp hs'; omega, e⟩
  have := L2.nat_nodup_len ((List.range (n + 1)).map f) (List.range n) nd fun x hx => by
    obtain ⟨s, hs, rfl⟩ := List.mem_map.mp hx
    exact List.mem_range.mpr (h s (by have := List.mem_range.mp hs; omega))
  rw [List.length_map, List.length_range, List.length_range] at this
  omega
theorem has_rank {L : List Int} : ∀ (n : Nat) (t : List Int), (∀ x ∈ t, x ∈ L) → bndL L.length n ≤ t.length → ∃ i j, i + j ≤ t.length ∧ i < t.length ∧ n + 1 ≤ rk (t.drop i) j
  | 0, t, _, h => ⟨0, 1, by have : 1 ≤ t.length := h; omega, h, by rw [rk_first]; exact Nat.le_refl _⟩
  | n + 1, t, hL, h => by
    have hb := bndL_pos L.length n
    have ih := has_rank (L := L) n
    unfold bndL at h
    generalize bndL L.length n = b at *
    have pos : ∀ s, s ≤ L.length ^ b → s * (b + 1) + b ≤ t.length := fun s hs => by
      have h1 : s * (b + 1) ≤ L.length ^ b * (b + 1) := Nat.mul_le_mul_right _ hs
      rw [Nat.add_mul] at h
      omega
    have blen : ∀ s, s ≤ L.length ^ b → ((t.drop (s * (b + 1))).take b).length = b := fun s hs => by
      have := pos s hs
      rw [List.length_take, List.length_drop]
      omega
    have bmem : ∀ s, ∀ x ∈ (t.drop (s * (b + 1))).take b, x ∈ L := fun s x hx => hL x (List.mem_of_mem_drop (List.mem_of_mem_take hx))
    obtain ⟨s, s', lt, hs', e⟩ := two_alike (f := fun s => codeL L ((t.drop (s * (b + 1))).take b)) (n := L.length ^ b) fun s hs => by
      have := codeL_lt (bmem s)
      rw [blen s hs] at this
      exact this
    have eb := codeL_inj (bmem s) (bmem s') ((blen s (by omega)).trans (blen s' hs').symm) e
    obtain ⟨i, j, hij, _, hr⟩ := ih ((t.drop (s * (b + 1))).take b) (bmem s) (by rw [blen s (by omega)]; exact Nat.le_refl _)
    rw [blen s (by omega)] at hij
    have hd : s * (b + 1) + (b + 1) ≤ s' * (b + 1) := by
      have := Nat.mul_le_mul_right (b + 1) (show s + 1 ≤ s' from lt)
      rw [Nat.add_mul, Nat.one_mul] at this
      exact this
    have hp' := pos s' hs'
    have at1 : ∀ r m, m < b → t[r * (b + 1) + m]? = ((t.drop (r * (b + 1))).take b)[m]? := fun r m hm => by
      rw [List.getElem?_take, if_pos hm, List.getElem?_drop]
    have loc : rk (((t.drop (s * (b + 1))).take b).drop i) j = rk (t.drop (s * (b + 1) + i)) j := rk_local fun m hm => by
      rw [List.getElem?_drop, List.getElem?_drop, ← at1 s (i + m) (by omega)]
      congr 1
      omega
    have brd : Brd (t.drop (s * (b + 1) + i)) (s' * (b + 1) - s * (b + 1) + j) j := by
      refine ⟨by omega, fun m hm => ?_⟩
      rw [List.getElem?_drop, List.getElem?_drop]
      have a1 := at1 s (i + m) (by omega)
      have a2 := at1 s' (i + m) (by omega)
      rw [eb, ← a2] at a1
      rw [show s * (b + 1) + i + m = s * (b + 1) + (i + m) by omega, a1]
      congr 1
      omega
    have most := rk_most brd (by omega)
    exact ⟨s * (b + 1) + i, s' * (b + 1) - s * (b + 1) + j, by omega, by omega, by omega⟩
theorem first_exists {t : List Int} {c i j : Nat} (hi : i < t.length) (hij : i + j ≤ t.length) (h : c ≤ rk (t.drop i) j) : ¬ ∀ i, i < t.length → Less t c i := fun z => by
  have := z i hi j hij
  omega
end Mo

namespace Mo
open PySem PySem.Spec PyProof.Rows L2
section
variable {P : Program} {w : World} {K : PySem.W.Frag} {mg : Str → Option Value} {base : Heap}
def spCount : Sp := fun vs H Q _ => ∃ i a b : Int, vs = [.int i, .int a, .int b] ∧ a ≤ i ∧ i ≤ b ∧ ∀ H', Same H H' → Q .non H'
theorem ok_count {k : Nat} (T : Txt K mg) : FnOk P w K mg base CX0 (k + 2) T.aCheckCount T.dCheckCount ["value", "least", "most"] spCount := by
  have GIsPlainInteger : FnOk P w K mg base CX0 (k + 1) T.aIsPlainInteger T.dIsPlainInteger ["value"] spPlain := ok_plain T
  refine T.fCheckCount.ok scCheckCount (fun vs H Q E h => ?_) (fun cdv A outer s H vs Q E hr h => ?_)
  · obtain ⟨i, a, b, rfl, _⟩ := h
    rfl
  · obtain ⟨i, a, b, rfl, h1, h2, q⟩ := h
    refine ⟨_, (pss_one (ps_if (PW.pt (pw_or (pt_not (pt_val (pe_call GIsPlainInteger hr (by rfl) T.gIsPlainInteger T.fIsPlainInteger.kp T.bIsPlainInteger .nil pass0 (pa_cons (pv 0) pa_nil)))) (pw_or (pt_cmpR op_lt (pv 0) (pv 1) (nomark _)) (pw_or1 (pt_cmpR op_gt (pv 0) (pv 2) (nomark _)))))) (pss_one ps_never) pss_nil)), ?_⟩
    refine ⟨_, rfl, i, rfl, fun H1 s1 => ⟨true, rfl, iteF ?_⟩⟩
    refine ⟨_, rfl, _, rfl, _, _, rfl, rfl, _, rfl, ite2 (fun e => ?_) (fun e => ?_)⟩
    · exact absurd (of_decide_eq_true e) (by omega)
    refine ⟨_, rfl, _, rfl, _, _, rfl, rfl, _, rfl, ite2 (fun e => ?_) (fun e => ?_)⟩
    · exact absurd (of_decide_eq_true e) (by omega)
    exact q H1 s1
end
end Mo

namespace Mo
open PySem PySem.Spec PyProof.Rows L2
section
variable {X : Cx}
/-- x *= y of ints -/
theorem ip_mul : PIp X .Mult (fun x y H Q => ∃ i j, x = .int i ∧ y = .int j ∧ CMul i j ∧ Q (.int (i * j)) H) :=
  fun pins s σ H x y u v Q I rx ry h => iop_mul pins s σ H x y u v Q I rx ry h
end
end Mo

namespace Mo
open PySem PySem.Spec PyProof.Rows L2
section
variable {P : Program} {w : World} {K : PySem.W.Frag} {mg : Str → Option Value} {base : Heap}
def spPow : Sp := fun vs H Q _ => ∃ b e : Nat, vs = [.int b, .int e] ∧ b ≤ 4 ∧ e ≤ 20 ∧ ∀ H', Same H H' → Q (.int ((b ^ e : Nat) : Int)) H'
theorem ok_pow {k : Nat} (T : Txt K mg) : FnOk P w K mg base CX0 (k + 1) T.aPower T.dPower ["base", "exponent"] spPow := by
  refine T.fPower.ok scPower (fun vs H Q E h => ?_) (fun cdv A outer s H vs Q E hr h => ?_)
  · obtain ⟨b, e, rfl, _⟩ := h
    rfl
  · obtain ⟨b, e, rfl, hb, he, q⟩ := h
    refine ⟨_, (pss_cons (ps_set (i := 2) scPower.nd rfl (Or.inl rfl) pe_int)
      (pss_cons (ps_for PassesOwn.never rfl (pi_range1 (by rfl) T.m_range (pa_cons (pv 1) pa_nil)) (pg_name (i := 3) scPower.nd rfl (Or.inl rfl)) (pss_one (ps_aug (i := 2) scPower.nd rfl (Or.inl rfl) (pv 0) Mo.ip_mul)))
      (pss_one (ps_ret (pv 2))))), ?_⟩
    refine ⟨_, rfl, _, rfl, by omega, by omega, for_range (lo := 0) (fun i σ H' => ∃ o3 : Option V, σ = [some (.int b), some (.int e), some (.int ((b ^ i : Nat) : Int)), o3] ∧ Same H H') ?_ ?_ ?_⟩
    · exact ⟨_, rfl, Same.refl H⟩
    · rintro i σ H1 hi ⟨o3, rfl, s1⟩
      refine ⟨_, rfl, _, rfl, _, _, rfl, rfl, .inr ⟨by omega, by omega⟩, some (.int (0 + (i : Int))), ?_, s1⟩
      rw [Nat.pow_succ, Int.natCast_mul]
      rfl
    · rintro σ H1 ⟨o3, rfl, s1⟩
      refine ⟨_, rfl, ?_⟩
      have z := q H1 s1
      rw [show e = ((e : Nat) : Int).toNat by omega] at z
      exact z
def spLen : Sp := fun vs H Q _ => ∃ n m : Nat, vs = [.int ((n + 1 : Nat) : Int), .int m] ∧ n ≤ 2 ∧ 1 ≤ m ∧ m ≤ 4 ∧ ∀ H', Same H H' → Q (.int ((bndL m n : Nat) : Int)) H'
theorem ok_len {k : Nat} (T : Txt K mg) : FnOk P w K mg base CX0 (k + 3) T.aLengthBound T.dLengthBound ["count", "letters"] spLen := by
  have GCheckCount : FnOk P w K mg base CX0 (k + 2) T.aCheckCount T.dCheckCount ["value", "least", "most"] spCount := ok_count T
  have GPower : FnOk P w K mg base CX0 (k + 2) T.aPower T.dPower ["base", "exponent"] spPow := ok_pow T
  refine T.fLengthBound.ok scLengthBound (fun vs H Q E h => ?_) (fun cdv A outer s H vs Q E hr h => ?_)
  · obtain ⟨n, m, rfl, _⟩ := h
    rfl
  · obtain ⟨n, m, rfl, hn, hm, hm4, q⟩ := h
    refine ⟨_, (pss_cons (ps_expr (pe_call GCheckCount hr (by rfl) T.gCheckCount T.fCheckCount.kp T.bCheckCount .nil pass0 (pa_cons (pv 0) (pa_cons pe_int (pa_cons pe_int pa_nil)))))
      (pss_cons (ps_expr (pe_call GCheckCount hr (by rfl) T.gCheckCount T.fCheckCount.kp T.bCheckCount .nil pass0 (pa_cons (pv 1) (pa_cons pe_int (pa_cons pe_int pa_nil)))))
      (pss_cons (ps_set (i := 2) scLengthBound.nd rfl (Or.inl rfl) pe_int)
      (pss_cons (ps_for PassesOwn.never rfl (pi_range1 (by rfl) T.m_range (pa_cons (pe_op op_sub (pv 0) pe_int) pa_nil)) (pg_name (i := 3) scLengthBound.nd rfl (Or.inl rfl)) (pss_one (ps_set (i := 2) scLengthBound.nd rfl (Or.inl rfl) (pe_op op_sub (pe_op op_mul (pe_op op_add (pe_call GPower hr (by rfl) T.gPower T.fPower.kp T.bPower .nil pass0 (pa_cons (pv 1) (pa_cons (pv 2) pa_nil))) pe_int) (pe_op op_add (pv 2) pe_int)) pe_int))))
      (pss_one (ps_ret (pv 2))))))), ?_⟩
    refine ⟨_, rfl, ((n + 1 : Nat) : Int), 1, 3, rfl, by omega, by omega, fun H1 s1 => ?_⟩
    refine ⟨_, rfl, ((m : Nat) : Int), 1, 4, rfl, by omega, by omega, fun H2 s2 => ?_⟩
    have s12 := s1.trans s2
    refine ⟨_, rfl, _, 1, rfl, rfl, _, rfl, by omega, by omega, for_range (lo := 0) (fun i σ H' => ∃ o3 : Option V, σ = [some (.int ((n + 1 : Nat) : Int)), some (.int m), some (.int ((bndL m i : Nat) : Int)), o3] ∧ Same H H') ?_ ?_ ?_⟩
    · exact ⟨_, rfl, s12⟩
    · rintro i σ H3 hi ⟨o3, rfl, s3⟩
      have hi2 : i < n := by
        have h3 : i < Int.toNat _ := hi
        omega
      have b9 : bndL m i ≤ 9 := by
        match i, hi2 with
        | 0, _ => show 1 ≤ 9; decide
        | 1, _ =>
          show (m ^ 1 + 1) * (1 + 1) - 1 ≤ 9
          rw [Nat.pow_one]
          omega
        | i + 2, h => omega
      refine ⟨_, rfl, _, rfl, m, bndL m i, rfl, hm4, by omega, fun H4 s4 => ?_⟩
      refine ⟨_, 1, rfl, rfl, _, rfl, _, 1, rfl, rfl, _, _, rfl, rfl, .inr ⟨by omega, by omega⟩, _, 1, rfl, rfl, ?_⟩
      have p1 : 1 ≤ (m ^ bndL m i + 1) * (bndL m i + 1) := Nat.mul_le_mul (show 1 ≤ m ^ bndL m i + 1 by omega) (show 1 ≤ bndL m i + 1 by omega)
      have ec : (((m ^ bndL m i : Nat) : Int) + 1) * (((bndL m i : Nat) : Int) + 1) - 1 = ((bndL m (i + 1) : Nat) : Int) := by
        have e1 : (((m ^ bndL m i : Nat) : Int) + 1) * (((bndL m i : Nat) : Int) + 1) = (((m ^ bndL m i + 1) * (bndL m i + 1) : Nat) : Int) := by
          rw [Int.natCast_mul, Int.natCast_add, Int.natCast_add]
          rfl
        rw [e1]
        show _ = (((m ^ bndL m i + 1) * (bndL m i + 1) - 1 : Nat) : Int)
        omega
      exact ⟨_, congrArg (fun z => [some (V.int ((n + 1 : Nat) : Int)), some (V.int m), some (V.int z), some (V.int (0 + (i : Int)))]) ec, s3.trans s4⟩
    · rintro σ H3 ⟨o3, rfl, s3⟩
      refine ⟨_, rfl, ?_⟩
      have z := q H3 s3
      rw [show n = (((n + 1 : Nat) : Int) - 1 : Int).toNat by omega] at z
      exact z
end
end Mo

namespace Mo
open PySem PySem.Spec PyProof.Rows L2
/-! ### what is refused, and what is not -/
def BadT (C : Addr) (H : Hp) (E : XK) (x : V) : Prop := ∃ (N : Addr → Prop) (d : PyData), Dx N H x d ∧ d.bulk ≤ 1000000 ∧ textD d = false ∧ OutF "value" C H E x
def BadC (C : Addr) (a b : Int) (H : Hp) (E : XK) (x : V) : Prop := ∃ (N : Addr → Prop) (d : PyData), Dx N H x d ∧ d.bulk ≤ 1000000 ∧ cntB a b d = false ∧ OutF "value" C H E x
def BadP (C : Addr) (H : Hp) (E : XK) (x : V) : Prop := ∃ (N : Addr → Prop) (d : PyData), Dx N H x d ∧ d.bulk ≤ 1000000 ∧ patD d = false ∧ OutF "value" C H E x
def GoodC (a b : Int) (x : V) : Prop := ∃ c : Int, x = .int c ∧ a ≤ c ∧ c ≤ b
def GoodP (x : V) : Prop := ∃ z : Str, x = .str z ∧ (PyData.str z).bulk ≤ 1000000 ∧ patD (.str z) = true
structure LongT (H : Hp) (x : V) (p : Addr) (t : List Int) : Prop where
  eq : x = .ref p
  at_ : H p = some (.tup (t.map V.int))
  lo : 400 < t.length
  hi : t.length ≤ 4096
  ltr : ∀ y ∈ t, 0 ≤ y ∧ y ≤ 999999
theorem BadT.same {C : Addr} {H H1 : Hp} {E : XK} {x : V} (h : BadT C H E x) (s : Same H H1) : BadT C H1 E x := by
  obtain ⟨N, d, h1, h2, h3, h4⟩ := h
  exact ⟨N, d, h1.same s, h2, h3, h4.same s⟩
theorem BadC.same {C : Addr} {a b : Int} {H H1 : Hp} {E : XK} {x : V} (h : BadC C a b H E x) (s : Same H H1) : BadC C a b H1 E x := by
  obtain ⟨N, d, h1, h2, h3, h4⟩ := h
  exact ⟨N, d, h1.same s, h2, h3, h4.same s⟩
theorem LongT.same {H H1 : Hp} {x : V} {p : Addr} {t : List Int} (h : LongT H x p t) (s : Same H H1) : LongT H1 x p t := ⟨h.eq, s _ _ h.at_, h.lo, h.hi, h.ltr⟩
theorem ints_text {t : List Int} (hl : t.length ≤ 4096) (h : ∀ y ∈ t, 0 ≤ y ∧ y ≤ 999999) : textD (.tuple (t.map PyData.int)) = true := by
  show (decide ((t.map PyData.int).length ≤ 4096) && (t.map PyData.int).all letterD) = true
  rw [List.length_map, decide_eq_true hl, Bool.true_and, List.all_map, List.all_eq_true]
  intro y hy
  obtain ⟨h1, h2⟩ := h y hy
  show (decide (0 ≤ y) && decide (y ≤ 999999)) = true
  rw [decide_eq_true h1, decide_eq_true h2]
  rfl
theorem chkT_bad {C : Addr} {H : Hp} {E : XK} {x : V} {Q : VK} (h : BadT C H E x) : spChkT C [x] H Q E := by
  obtain ⟨N, d, h1, h2, h3, h4⟩ := h
  exact ⟨N, x, d, rfl, h1, h2, fun z => (by rw [h3] at z; cases z), fun _ => h4⟩
theorem chkT_good {C : Addr} {H : Hp} {E : XK} {x : V} {Q : VK} {p : Addr} {t : List Int} (h : LongT H x p t) (q : ∀ H', Same H H' → Q .non H') : spChkT C [x] H Q E := by
  have hi := h.hi
  refine ⟨fun _ => False, x, .tuple (t.map PyData.int), rfl, h.eq ▸ tupI_dx h.at_, ?_, fun _ => q, fun z => ?_⟩
  · have b := bulk_ints t
    simp only [PyData.bulk]
    omega
  rw [ints_text h.hi h.ltr] at z
  cases z
theorem chkC_bad {C : Addr} {a b : Int} {H : Hp} {E : XK} {x : V} {Q : VK} (h : BadC C a b H E x) : spCnt C [x, .int a, .int b] H Q E := by
  obtain ⟨N, d, h1, h2, h3, h4⟩ := h
  exact ⟨N, x, d, a, b, rfl, h1, h2, fun z => (by rw [h3] at z; cases z), fun _ => h4⟩
theorem chkC_good {C : Addr} {a b : Int} {H : Hp} {E : XK} {x : V} {Q : VK} (h : GoodC a b x) (q : ∀ H', Same H H' → Q .non H') : spCnt C [x, .int a, .int b] H Q E := by
  obtain ⟨c, rfl, h1, h2⟩ := h
  refine ⟨fun _ => False, _, .int c, a, b, rfl, .int c, by simp [PyData.bulk], fun _ => q, fun z => ?_⟩
  have z : (decide (a ≤ c) && decide (c ≤ b)) = false := z
  rw [decide_eq_true h1, decide_eq_true h2] at z
  cases z
theorem chkP_bad {C : Addr} {H : Hp} {E : XK} {x : V} {Q : VK} (h : BadP C H E x) : spChkP C [x] H Q E := by
  obtain ⟨N, d, h1, h2, h3, h4⟩ := h
  exact ⟨N, x, d, rfl, h1, h2, fun z => (by rw [h3] at z; cases z), fun _ => h4⟩
theorem chkP_good {C : Addr} {H : Hp} {E : XK} {x : V} {Q : VK} (h : GoodP x) (q : ∀ H', Same H H' → Q .non H') : spChkP C [x] H Q E := by
  obtain ⟨z, rfl, h1, h2⟩ := h
  exact ⟨fun _ => False, _, .str z, rfl, .str z, h1, fun _ => q, fun z => (by rw [h2] at z; cases z)⟩
section
variable {P : Program} {w : World} {K : PySem.W.Frag} {mg : Str → Option Value} {base : Heap}
theorem ok_initL {k : Nat} (T : Txt K mg) : FnOk P w K mg base CX0 (k + 1) T.iTooLarge T.dTooLarge ["self", "limit"] (spInit T.cTooLarge "limit") := by
  refine T.fInitTooLarge.ok scInitTooLarge (fun vs H Q E h => ?_) (fun cdv A outer s H vs Q E hr h => ?_)
  · obtain ⟨a, y, rfl, _⟩ := h
    rfl
  · obtain ⟨a, y, rfl, ha, q⟩ := h
    refine ⟨_, pss_one (Mo.ps_fieldG (pv 0) (pv 1)), ?_⟩
    exact ⟨_, rfl, _, rfl, a, T.cTooLarge, _, _, _, _, rfl, T.xTooLarge.ov, T.xTooLarge.no, ha, fun dx nd ne => q dx nd ne⟩
def spCS (C : Addr) : Sp := fun vs H _ E => ∃ (x : V) (p : Addr) (t : List Int), vs = [x] ∧ LongT H x p t ∧ OutF "limit" C H E (.int 400)
theorem ok_csX {k : Nat} (T : Txt K mg) : FnOk P w K mg base (L2.CX P w) (k + 3) T.aCheckSize T.dCheckSize ["text"] (spCS T.cTooLarge) := by
  have GInitTooLarge : FnOk P w K mg base CX0 (k + 1) T.iTooLarge T.dTooLarge ["self", "limit"] (spInit T.cTooLarge "limit") := ok_initL T
  refine T.fCheckSize.okX scCheckSize (fun vs H Q E h => ?_) (fun cdv A outer s H vs Q E hr h => ?_)
  · obtain ⟨_, _, _, rfl, _⟩ := h
    rfl
  · obtain ⟨x, p, t, rfl, lt, out⟩ := h
    refine ⟨_, (pss_one (ps_if (pt_cmpR op_gt (pe_callB call_len_seq (by rfl) T.m_len PySem.boot_len (pa_cons (pv 0) pa_nil)) (pe_glob (v := .int 400) rfl T.m_LONGEST_RANKED ⟨_, rfl⟩) (nomark _)) (pss_one (ps_raise rfl (takes_of rfl rfl rfl rfl) (Mo.pmkG T.xTooLarge.ov T.xTooLarge.iC T.xTooLarge.tI GInitTooLarge hr T.bInitTooLarge pass0 (by rfl) T.eTooLarge (pa_cons (pe_glob (v := .int 400) rfl T.m_LONGEST_RANKED ⟨_, rfl⟩) pa_nil)))) pss_nil)), ?_⟩
    have := lt.lo
    refine ⟨_, rfl, p, _, congrArg (fun z => [z]) lt.eq, .inr (SqT.of lt.at_), _, _, rfl, rfl, true, ?_, iteT (err_read out)⟩
    show V.bl (decide (((t.map V.int).length : Int) > 400)) = V.bl true
    rw [List.length_map, decide_eq_true (by omega)]
/-- borders, rank, best_block -/
def spTL (cT cL : Addr) : Sp := fun vs H _ E => ∃ x : V, vs = [x] ∧ (BadT cT H E x ∨ ∃ p t, LongT H x p t ∧ OutF "limit" cL H E (.int 400))
def spTC (cT cC cL : Addr) : Sp := fun vs H _ E => ∃ x y : V, vs = [x, y] ∧ (BadT cT H E x ∨ ∃ p t, LongT H x p t ∧ (BadC cC 1 12 H E y ∨ (GoodC 1 12 y ∧ OutF "limit" cL H E (.int 400))))
def spPT (cP cT cL : Addr) : Sp := fun vs H _ E => ∃ x y : V, vs = [x, y] ∧ (BadP cP H E x ∨ (GoodP x ∧ (BadT cT H E y ∨ ∃ p t, LongT H y p t ∧ OutF "limit" cL H E (.int 400))))
def spLB (cC : Addr) : Sp := fun vs H _ E => ∃ x y : V, vs = [x, y] ∧ (BadC cC 1 3 H E x ∨ (GoodC 1 3 x ∧ BadC cC 1 4 H E y))
theorem ok_bordX {k : Nat} (T : Txt K mg) : FnOk P w K mg base (L2.CX P w) (k + 6) T.aBorders T.dBorders ["text"] (spTL T.cInvalidText T.cTooLarge) := by
  have GCheckTextX : FnOk P w K mg base (L2.CX P w) (k + 5) T.aCheckText T.dCheckText ["value"] (spChkT T.cInvalidText) := ok_chkT T
  have GCheckSizeX : FnOk P w K mg base (L2.CX P w) (k + 5) T.aCheckSize T.dCheckSize ["text"] (spCS T.cTooLarge) := ok_csX T
  have GCheckCountX : FnOk P w K mg base (L2.CX P w) (k + 5) T.aCheckCount T.dCheckCount ["value", "least", "most"] (spCnt T.cInvalidCount) := ok_cntX T
  have GCheckPatternX : FnOk P w K mg base (L2.CX P w) (k + 5) T.aCheckPattern T.dCheckPattern ["value"] (spChkP T.cInvalidPattern) := ok_chkP T
  refine T.fBorders.okX scBorders (fun vs H Q E h => ?_) (fun cdv A outer s H vs Q E hr h => ?_)
  · obtain ⟨_, rfl, _⟩ := h
    rfl
  · obtain ⟨x, rfl, h⟩ := h
    refine ⟨_, (pss_cons (ps_expr (pe_call GCheckTextX hr (by rfl) T.gCheckText T.fCheckText.kp T.bCheckText .nil (passes_call (takes_of rfl rfl rfl rfl) (fun _ _ _ _ h => h)) (pa_cons (pv 0) pa_nil)))
      (pss_cons (ps_expr (pe_call GCheckSizeX hr (by rfl) T.gCheckSize T.fCheckSize.kp T.bCheckSize .nil (passes_call (takes_of rfl rfl rfl rfl) (fun _ _ _ _ h => h)) (pa_cons (pv 0) pa_nil)))
      Mo.pss_never)), ?_⟩
    rcases h with bad | ⟨p, t, lt, out⟩
    · refine ⟨_, rfl, ?_⟩
      dsimp only [tNil, tCons, tC]
      show spChkT T.cInvalidText ([x] ++ []) H _ E
      exact chkT_bad bad
    · refine ⟨_, rfl, ?_⟩
      dsimp only [tNil, tCons, tC]
      show spChkT T.cInvalidText ([x] ++ []) H _ E
      exact chkT_good lt fun H1 s1 => ⟨_, rfl, x, p, t, rfl, lt.same s1, out.same s1⟩
theorem ok_rankX {k : Nat} (T : Txt K mg) : FnOk P w K mg base (L2.CX P w) (k + 6) T.aRank T.dRank ["text"] (spTL T.cInvalidText T.cTooLarge) := by
  have GCheckTextX : FnOk P w K mg base (L2.CX P w) (k + 5) T.aCheckText T.dCheckText ["value"] (spChkT T.cInvalidText) := ok_chkT T
  have GCheckSizeX : FnOk P w K mg base (L2.CX P w) (k + 5) T.aCheckSize T.dCheckSize ["text"] (spCS T.cTooLarge) := ok_csX T
  have GCheckCountX : FnOk P w K mg base (L2.CX P w) (k + 5) T.aCheckCount T.dCheckCount ["value", "least", "most"] (spCnt T.cInvalidCount) := ok_cntX T
  have GCheckPatternX : FnOk P w K mg base (L2.CX P w) (k + 5) T.aCheckPattern T.dCheckPattern ["value"] (spChkP T.cInvalidPattern) := ok_chkP T
  refine T.fRank.okX scRank (fun vs H Q E h => ?_) (fun cdv A outer s H vs Q E hr h => ?_)
  · obtain ⟨_, rfl, _⟩ := h
    rfl
  · obtain ⟨x, rfl, h⟩ := h
    refine ⟨_, (pss_cons (ps_expr (pe_call GCheckTextX hr (by rfl) T.gCheckText T.fCheckText.kp T.bCheckText .nil (passes_call (takes_of rfl rfl rfl rfl) (fun _ _ _ _ h => h)) (pa_cons (pv 0) pa_nil)))
      (pss_cons (ps_expr (pe_call GCheckSizeX hr (by rfl) T.gCheckSize T.fCheckSize.kp T.bCheckSize .nil (passes_call (takes_of rfl rfl rfl rfl) (fun _ _ _ _ h => h)) (pa_cons (pv 0) pa_nil)))
      Mo.pss_never)), ?_⟩
    rcases h with bad | ⟨p, t, lt, out⟩
    · refine ⟨_, rfl, ?_⟩
      dsimp only [tNil, tCons, tC]
      show spChkT T.cInvalidText ([x] ++ []) H _ E
      exact chkT_bad bad
    · refine ⟨_, rfl, ?_⟩
      dsimp only [tNil, tCons, tC]
      show spChkT T.cInvalidText ([x] ++ []) H _ E
      exact chkT_good lt fun H1 s1 => ⟨_, rfl, x, p, t, rfl, lt.same s1, out.same s1⟩
theorem ok_bestX {k : Nat} (T : Txt K mg) : FnOk P w K mg base (L2.CX P w) (k + 6) T.aBestBlock T.dBestBlock ["text"] (spTL T.cInvalidText T.cTooLarge) := by
  have GCheckTextX : FnOk P w K mg base (L2.CX P w) (k + 5) T.aCheckText T.dCheckText ["value"] (spChkT T.cInvalidText) := ok_chkT T
  have GCheckSizeX : FnOk P w K mg base (L2.CX P w) (k + 5) T.aCheckSize T.dCheckSize ["text"] (spCS T.cTooLarge) := ok_csX T
  have GCheckCountX : FnOk P w K mg base (L2.CX P w) (k + 5) T.aCheckCount T.dCheckCount ["value", "least", "most"] (spCnt T.cInvalidCount) := ok_cntX T
  have GCheckPatternX : FnOk P w K mg base (L2.CX P w) (k + 5) T.aCheckPattern T.dCheckPattern ["value"] (spChkP T.cInvalidPattern) := ok_chkP T
  refine T.fBestBlock.okX scBestBlock (fun vs H Q E h => ?_) (fun cdv A outer s H vs Q E hr h => ?_)
  · obtain ⟨_, rfl, _⟩ := h
    rfl
  · obtain ⟨x, rfl, h⟩ := h
    refine ⟨_, (pss_cons (ps_expr (pe_call GCheckTextX hr (by rfl) T.gCheckText T.fCheckText.kp T.bCheckText .nil (passes_call (takes_of rfl rfl rfl rfl) (fun _ _ _ _ h => h)) (pa_cons (pv 0) pa_nil)))
      (pss_cons (ps_expr (pe_call GCheckSizeX hr (by rfl) T.gCheckSize T.fCheckSize.kp T.bCheckSize .nil (passes_call (takes_of rfl rfl rfl rfl) (fun _ _ _ _ h => h)) (pa_cons (pv 0) pa_nil)))
      Mo.pss_never)), ?_⟩
    rcases h with bad | ⟨p, t, lt, out⟩
    · refine ⟨_, rfl, ?_⟩
      dsimp only [tNil, tCons, tC]
      show spChkT T.cInvalidText ([x] ++ []) H _ E
      exact chkT_bad bad
    · refine ⟨_, rfl, ?_⟩
      dsimp only [tNil, tCons, tC]
      show spChkT T.cInvalidText ([x] ++ []) H _ E
      exact chkT_good lt fun H1 s1 => ⟨_, rfl, x, p, t, rfl, lt.same s1, out.same s1⟩
theorem ok_rvX {k : Nat} (T : Txt K mg) : FnOk P w K mg base (L2.CX P w) (k + 6) T.aRankValues T.dRankValues ["text", "count"] (spTC T.cInvalidText T.cInvalidCount T.cTooLarge) := by
  have GCheckTextX : FnOk P w K mg base (L2.CX P w) (k + 5) T.aCheckText T.dCheckText ["value"] (spChkT T.cInvalidText) := ok_chkT T
  have GCheckSizeX : FnOk P w K mg base (L2.CX P w) (k + 5) T.aCheckSize T.dCheckSize ["text"] (spCS T.cTooLarge) := ok_csX T
  have GCheckCountX : FnOk P w K mg base (L2.CX P w) (k + 5) T.aCheckCount T.dCheckCount ["value", "least", "most"] (spCnt T.cInvalidCount) := ok_cntX T
  have GCheckPatternX : FnOk P w K mg base (L2.CX P w) (k + 5) T.aCheckPattern T.dCheckPattern ["value"] (spChkP T.cInvalidPattern) := ok_chkP T
  refine T.fRankValues.okX scRankValues (fun vs H Q E h => ?_) (fun cdv A outer s H vs Q E hr h => ?_)
  · obtain ⟨_, _, rfl, _⟩ := h
    rfl
  · obtain ⟨x, y, rfl, h⟩ := h
    refine ⟨_, (pss_cons (ps_expr (pe_call GCheckTextX hr (by rfl) T.gCheckText T.fCheckText.kp T.bCheckText .nil (passes_call (takes_of rfl rfl rfl rfl) (fun _ _ _ _ h => h)) (pa_cons (pv 0) pa_nil)))
      (pss_cons (ps_expr (pe_call GCheckCountX hr (by rfl) T.gCheckCount T.fCheckCount.kp T.bCheckCount .nil (passes_call (takes_of rfl rfl rfl rfl) (fun _ _ _ _ h => h)) (pa_cons (pv 1) (pa_cons pe_int (pa_cons (pe_glob (v := .int 12) rfl T.m_GREATEST_COUNT ⟨_, rfl⟩) pa_nil)))))
      (pss_cons (ps_expr (pe_call GCheckSizeX hr (by rfl) T.gCheckSize T.fCheckSize.kp T.bCheckSize .nil (passes_call (takes_of rfl rfl rfl rfl) (fun _ _ _ _ h => h)) (pa_cons (pv 0) pa_nil)))
      Mo.pss_never))), ?_⟩
    rcases h with bad | ⟨p, t, lt, bad | ⟨good, out⟩⟩
    · refine ⟨_, rfl, ?_⟩
      dsimp only [tNil, tCons, tC]
      show spChkT T.cInvalidText ([x] ++ []) H _ E
      exact chkT_bad bad
    · refine ⟨_, rfl, ?_⟩
      dsimp only [tNil, tCons, tC]
      show spChkT T.cInvalidText ([x] ++ []) H _ E
      refine chkT_good lt fun H1 s1 => ?_
      refine ⟨_, rfl, ?_⟩
      dsimp only [tNil, tCons, tC]
      show spCnt T.cInvalidCount ([y, .int 1, .int 12] ++ []) H1 _ E
      exact chkC_bad (bad.same s1)
    · refine ⟨_, rfl, ?_⟩
      dsimp only [tNil, tCons, tC]
      show spChkT T.cInvalidText ([x] ++ []) H _ E
      refine chkT_good lt fun H1 s1 => ?_
      refine ⟨_, rfl, ?_⟩
      dsimp only [tNil, tCons, tC]
      show spCnt T.cInvalidCount ([y, .int 1, .int 12] ++ []) H1 _ E
      exact chkC_good good fun H2 s2 => ⟨_, rfl, x, p, t, rfl, (lt.same s1).same s2, (out.same s1).same s2⟩
theorem ok_fuX {k : Nat} (T : Txt K mg) : FnOk P w K mg base (L2.CX P w) (k + 6) T.aFindUniversal T.dFindUniversal ["text", "count"] (spTC T.cInvalidText T.cInvalidCount T.cTooLarge) := by
  have GCheckTextX : FnOk P w K mg base (L2.CX P w) (k + 5) T.aCheckText T.dCheckText ["value"] (spChkT T.cInvalidText) := ok_chkT T
  have GCheckSizeX : FnOk P w K mg base (L2.CX P w) (k + 5) T.aCheckSize T.dCheckSize ["text"] (spCS T.cTooLarge) := ok_csX T
  have GCheckCountX : FnOk P w K mg base (L2.CX P w) (k + 5) T.aCheckCount T.dCheckCount ["value", "least", "most"] (spCnt T.cInvalidCount) := ok_cntX T
  have GCheckPatternX : FnOk P w K mg base (L2.CX P w) (k + 5) T.aCheckPattern T.dCheckPattern ["value"] (spChkP T.cInvalidPattern) := ok_chkP T
  refine T.fFindUniversal.okX scFindUniversal (fun vs H Q E h => ?_) (fun cdv A outer s H vs Q E hr h => ?_)
  · obtain ⟨_, _, rfl, _⟩ := h
    rfl
  · obtain ⟨x, y, rfl, h⟩ := h
    refine ⟨_, (pss_cons (ps_expr (pe_call GCheckTextX hr (by rfl) T.gCheckText T.fCheckText.kp T.bCheckText .nil (passes_call (takes_of rfl rfl rfl rfl) (fun _ _ _ _ h => h)) (pa_cons (pv 0) pa_nil)))
      (pss_cons (ps_expr (pe_call GCheckCountX hr (by rfl) T.gCheckCount T.fCheckCount.kp T.bCheckCount .nil (passes_call (takes_of rfl rfl rfl rfl) (fun _ _ _ _ h => h)) (pa_cons (pv 1) (pa_cons pe_int (pa_cons (pe_glob (v := .int 12) rfl T.m_GREATEST_COUNT ⟨_, rfl⟩) pa_nil)))))
      (pss_cons (ps_expr (pe_call GCheckSizeX hr (by rfl) T.gCheckSize T.fCheckSize.kp T.bCheckSize .nil (passes_call (takes_of rfl rfl rfl rfl) (fun _ _ _ _ h => h)) (pa_cons (pv 0) pa_nil)))
      Mo.pss_never))), ?_⟩
    rcases h with bad | ⟨p, t, lt, bad | ⟨good, out⟩⟩
    · refine ⟨_, rfl, ?_⟩
      dsimp only [tNil, tCons, tC]
      show spChkT T.cInvalidText ([x] ++ []) H _ E
      exact chkT_bad bad
    · refine ⟨_, rfl, ?_⟩
      dsimp only [tNil, tCons, tC]
      show spChkT T.cInvalidText ([x] ++ []) H _ E
      refine chkT_good lt fun H1 s1 => ?_
      refine ⟨_, rfl, ?_⟩
      dsimp only [tNil, tCons, tC]
      show spCnt T.cInvalidCount ([y, .int 1, .int 12] ++ []) H1 _ E
      exact chkC_bad (bad.same s1)
    · refine ⟨_, rfl, ?_⟩
      dsimp only [tNil, tCons, tC]
      show spChkT T.cInvalidText ([x] ++ []) H _ E
      refine chkT_good lt fun H1 s1 => ?_
      refine ⟨_, rfl, ?_⟩
      dsimp only [tNil, tCons, tC]
      show spCnt T.cInvalidCount ([y, .int 1, .int 12] ++ []) H1 _ E
      exact chkC_good good fun H2 s2 => ⟨_, rfl, x, p, t, rfl, (lt.same s1).same s2, (out.same s1).same s2⟩
theorem ok_unavX {k : Nat} (T : Txt K mg) : FnOk P w K mg base (L2.CX P w) (k + 6) T.aFindUnavoidable T.dFindUnavoidable ["pattern", "text"] (spPT T.cInvalidPattern T.cInvalidText T.cTooLarge) := by
  have GCheckTextX : FnOk P w K mg base (L2.CX P w) (k + 5) T.aCheckText T.dCheckText ["value"] (spChkT T.cInvalidText) := ok_chkT T
  have GCheckSizeX : FnOk P w K mg base (L2.CX P w) (k + 5) T.aCheckSize T.dCheckSize ["text"] (spCS T.cTooLarge) := ok_csX T
  have GCheckCountX : FnOk P w K mg base (L2.CX P w) (k + 5) T.aCheckCount T.dCheckCount ["value", "least", "most"] (spCnt T.cInvalidCount) := ok_cntX T
  have GCheckPatternX : FnOk P w K mg base (L2.CX P w) (k + 5) T.aCheckPattern T.dCheckPattern ["value"] (spChkP T.cInvalidPattern) := ok_chkP T
  refine T.fFindUnavoidable.okX scFindUnavoidable (fun vs H Q E h => ?_) (fun cdv A outer s H vs Q E hr h => ?_)
  · obtain ⟨_, _, rfl, _⟩ := h
    rfl
  · obtain ⟨x, y, rfl, h⟩ := h
    refine ⟨_, (pss_cons (ps_expr (pe_call GCheckPatternX hr (by rfl) T.gCheckPattern T.fCheckPattern.kp T.bCheckPattern .nil (passes_call (takes_of rfl rfl rfl rfl) (fun _ _ _ _ h => h)) (pa_cons (pv 0) pa_nil)))
      (pss_cons (ps_expr (pe_call GCheckTextX hr (by rfl) T.gCheckText T.fCheckText.kp T.bCheckText .nil (passes_call (takes_of rfl rfl rfl rfl) (fun _ _ _ _ h => h)) (pa_cons (pv 1) pa_nil)))
      (pss_cons (ps_expr (pe_call GCheckSizeX hr (by rfl) T.gCheckSize T.fCheckSize.kp T.bCheckSize .nil (passes_call (takes_of rfl rfl rfl rfl) (fun _ _ _ _ h => h)) (pa_cons (pv 1) pa_nil)))
      Mo.pss_never))), ?_⟩
    rcases h with bad | ⟨good, bad | ⟨p, t, lt, out⟩⟩
    · refine ⟨_, rfl, ?_⟩
      dsimp only [tNil, tCons, tC]
      show spChkP T.cInvalidPattern ([x] ++ []) H _ E
      exact chkP_bad bad
    · refine ⟨_, rfl, ?_⟩
      dsimp only [tNil, tCons, tC]
      show spChkP T.cInvalidPattern ([x] ++ []) H _ E
      refine chkP_good good fun H1 s1 => ?_
      refine ⟨_, rfl, ?_⟩
      dsimp only [tNil, tCons, tC]
      show spChkT T.cInvalidText ([y] ++ []) H1 _ E
      exact chkT_bad (bad.same s1)
    · refine ⟨_, rfl, ?_⟩
      dsimp only [tNil, tCons, tC]
      show spChkP T.cInvalidPattern ([x] ++ []) H _ E
      refine chkP_good good fun H1 s1 => ?_
      refine ⟨_, rfl, ?_⟩
      dsimp only [tNil, tCons, tC]
      show spChkT T.cInvalidText ([y] ++ []) H1 _ E
      exact chkT_good (lt.same s1) fun H2 s2 => ⟨_, rfl, y, p, t, rfl, (lt.same s1).same s2, (out.same s1).same s2⟩
theorem ok_lenX {k : Nat} (T : Txt K mg) : FnOk P w K mg base (L2.CX P w) (k + 6) T.aLengthBound T.dLengthBound ["count", "letters"] (spLB T.cInvalidCount) := by
  have GCheckTextX : FnOk P w K mg base (L2.CX P w) (k + 5) T.aCheckText T.dCheckText ["value"] (spChkT T.cInvalidText) := ok_chkT T
  have GCheckSizeX : FnOk P w K mg base (L2.CX P w) (k + 5) T.aCheckSize T.dCheckSize ["text"] (spCS T.cTooLarge) := ok_csX T
  have GCheckCountX : FnOk P w K mg base (L2.CX P w) (k + 5) T.aCheckCount T.dCheckCount ["value", "least", "most"] (spCnt T.cInvalidCount) := ok_cntX T
  have GCheckPatternX : FnOk P w K mg base (L2.CX P w) (k + 5) T.aCheckPattern T.dCheckPattern ["value"] (spChkP T.cInvalidPattern) := ok_chkP T
  refine T.fLengthBound.okX scLengthBound (fun vs H Q E h => ?_) (fun cdv A outer s H vs Q E hr h => ?_)
  · obtain ⟨_, _, rfl, _⟩ := h
    rfl
  · obtain ⟨x, y, rfl, h⟩ := h
    refine ⟨_, (pss_cons (ps_expr (pe_call GCheckCountX hr (by rfl) T.gCheckCount T.fCheckCount.kp T.bCheckCount .nil (passes_call (takes_of rfl rfl rfl rfl) (fun _ _ _ _ h => h)) (pa_cons (pv 0) (pa_cons pe_int (pa_cons pe_int pa_nil)))))
      (pss_cons (ps_expr (pe_call GCheckCountX hr (by rfl) T.gCheckCount T.fCheckCount.kp T.bCheckCount .nil (passes_call (takes_of rfl rfl rfl rfl) (fun _ _ _ _ h => h)) (pa_cons (pv 1) (pa_cons pe_int (pa_cons pe_int pa_nil)))))
      Mo.pss_never)), ?_⟩
    rcases h with bad | ⟨good, bad⟩
    · refine ⟨_, rfl, ?_⟩
      dsimp only [tNil, tCons, tC]
      show spCnt T.cInvalidCount ([x, .int 1, .int 3] ++ []) H _ E
      exact chkC_bad bad
    · refine ⟨_, rfl, ?_⟩
      dsimp only [tNil, tCons, tC]
      show spCnt T.cInvalidCount ([x, .int 1, .int 3] ++ []) H _ E
      refine chkC_good good fun H1 s1 => ?_
      refine ⟨_, rfl, ?_⟩
      dsimp only [tNil, tCons, tC]
      show spCnt T.cInvalidCount ([y, .int 1, .int 4] ++ []) H1 _ E
      exact chkC_bad (bad.same s1)
end
end Mo

namespace Mo
open PySem PySem.Spec PyProof.Rows L2
section
variable {P : Program} {w : World} {K : PySem.W.Frag} {mg : Str → Option Value} {base : Heap}
theorem ints_dp {H : Hp} : ∀ ns : List Int, DpAll K H (ns.map V.int) (ns.map PyData.int)
  | [] => .nil
  | n :: ns => .cons (.int n) (ints_dp ns)
theorem mod_in {a b : Int} (h : 0 < b) : 0 ≤ a.fmod b ∧ a.fmod b < b := by
  rw [Int.fmod_eq_emod_of_nonneg _ (Int.le_of_lt h)]
  exact ⟨Int.emod_nonneg _ (by omega), Int.emod_lt_of_pos _ h⟩
theorem div_in {a b : Int} (h : 0 < b) (ha : 0 ≤ a) : 0 ≤ a.fdiv b := by
  rw [Int.fdiv_eq_ediv_of_nonneg _ (Int.le_of_lt h)]
  exact Int.ediv_nonneg ha (Int.le_of_lt h)
theorem nat_of {i : Int} (h : 0 ≤ i) : ∃ j : Nat, i = (j : Int) := ⟨i.toNat, by omega⟩
theorem ok_draw {k : Nat} (T : Txt K mg) : FnOk P w K mg base CX0 (k + 1) T.aLDraw T.dLDraw ["_law_source_here", "_law_size"] spSDraw := by
  refine T.fLDraw.ok scLDraw (fun vs H Q E h => ?_) (fun cdv A outer s H vs Q E hr h => ?_)
  · obtain ⟨d, c, n, t, rfl, _⟩ := h
    rfl
  · obtain ⟨d, c, n, t, rfl, src, n0, n1, ht, q⟩ := h
    have hu := hu_of hr
    obtain ⟨ns, r, hd, hc, hl, r0⟩ := id src
    have ndc := src.ne
    have gC := DGet.k (k := Sum.inr "cells") hd
    have gT := DGet.k (k := Sum.inr "index") hd
    have gR := DGet.k (k := Sum.inr "rest") hd
    rw [src_cells] at gC
    rw [src_index] at gT
    rw [src_rest] at gR
    have nz : n ≠ 0 := by omega
    have na : n.natAbs < 1073741824 := by omega
    refine ⟨_, (pss_cons (ps_if (pt_cmpR op_gt (pe_dget hu (pv 0) pe_str (fun _ _ => rfl)) pe_int (nomark _)) (pss_cons (ps_set (i := 2) scLDraw.nd rfl (Or.inl rfl) (pe_op op_modN (pe_dget hu (pv 0) pe_str (fun _ _ => rfl)) (pv 1)))
      (pss_cons (ps_dput hu (pv 0) pe_str (pe_op op_fdivN (pe_dget hu (pv 0) pe_str (fun _ _ => rfl)) (pv 1)) rfl)
      (pss_one (ps_ret (pv 2))))) pss_nil)
      (pss_cons (ps_set (i := 3) scLDraw.nd rfl (Or.inl rfl) (pe_dget hu (pv 0) pe_str (fun _ _ => rfl)))
      (pss_cons (ps_dput hu (pv 0) pe_str (pe_op op_add (pv 3) pe_int) rfl)
      (pss_cons (ps_set (i := 4) scLDraw.nd rfl (Or.inl rfl) (pe_op op_add (pe_op op_mul pe_int (pv 3)) pe_int))
      (Evl.pss_cut (ps_if (pt_cmpR (op_neD hr.units) (pe_dget hu (pv 0) pe_str (fun _ _ => rfl)) (pe_lst pa_nil) (nomark _)) (pss_one (ps_set (i := 4) scLDraw.nd rfl (Or.inl rfl) (pe_ix ix_list (pe_dget hu (pv 0) pe_str (fun _ _ => rfl)) (pe_op op_modN (pv 3) (pe_callB call_len_seq (by rfl) T.m_len PySem.boot_len (pa_cons (pe_dget hu (pv 0) pe_str (fun _ _ => rfl)) pa_nil))) (fun _ _ => rfl)))) pss_nil)
      (Evl.pss_cut (ps_if (PW.pt (pw_and (pt_cmpR op_lt (pv 3) (pe_callB call_len_seq (by rfl) T.m_len PySem.boot_len (pa_cons (pe_dget hu (pv 0) pe_str (fun _ _ => rfl)) pa_nil)) (nomark _)) (pw_and1 (pt_cmpR op_ge (pe_callB call_abs (by rfl) T.m_abs (by decide +kernel) (pa_cons (pv 4) pa_nil)) (pe_op op_pow pe_int pe_int) (nomark _))))) (pss_cons (ps_dput hu (pv 0) pe_str (pe_op op_fdivN (pe_op op_sub (pe_callB call_abs (by rfl) T.m_abs (by decide +kernel) (pa_cons (pv 4) pa_nil)) (pe_op op_pow pe_int pe_int)) (pv 1)) rfl)
      (pss_one (ps_ret (pe_op op_modN (pe_op op_sub (pe_callB call_abs (by rfl) T.m_abs (by decide +kernel) (pa_cons (pv 4) pa_nil)) (pe_op op_pow pe_int pe_int)) (pv 1))))) pss_nil)
      (pss_cons (ps_set (i := 5) scLDraw.nd rfl (Or.inl rfl) (pe_op op_modN (pe_op op_add (pe_op op_add (pe_op op_mul (pe_op op_modN (pv 4) pe_int) pe_int) (pe_op op_mul (pe_op op_mul pe_int (pv 3)) (pv 3))) pe_int) pe_int))
      (pss_cons (ps_set (i := 5) scLDraw.nd rfl (Or.inl rfl) (pe_op op_modN (pe_op op_mul (pv 5) (pe_op op_add (pv 5) pe_int)) pe_int))
      (pss_one (ps_ret (pe_op op_modN (pe_op op_fdivN (pe_op op_modN (pe_op op_mul (pv 5) (pv 5)) pe_int) pe_int) (pv 1)))))))))))), ?_⟩
    refine ⟨_, rfl, d, _, rfl, gR, _, _, rfl, rfl, _, rfl, ite2 (fun e => ?_) (fun e => ?_)⟩
    · -- a digit of the rest
      refine ⟨_, rfl, d, _, rfl, gR, _, rfl, r, n, rfl, rfl, nz, ?_⟩
      refine ⟨_, rfl, d, _, rfl, gR, _, rfl, r, n, rfl, rfl, ⟨nz, na⟩, _, rfl, d, _, rfl, DPut.k (k := Sum.inr "rest") hd (by show 3 < sizeLine; decide), ?_⟩
      rw [sput_rest]
      exact ⟨_, rfl, q _ _ t But.set (src_set src (div_in n0 r0)) (Nat.le_succ _) (mod_in n0).1 (mod_in n0).2⟩
    · -- turn, turn + 1
      refine ⟨_, rfl, d, _, rfl, gT, ?_⟩
      refine ⟨_, rfl, t, 1, rfl, rfl, _, rfl, d, _, rfl, DPut.k (k := Sum.inr "index") hd (by show 3 < sizeLine; decide), ?_⟩
      rw [sput_index, show (t : Int) + 1 = ((t + 1 : Nat) : Int) by omega]
      have src1 : Src (upd H d (.dK (srcD c ((t + 1 : Nat) : Int) r))) d c (t + 1) := src_set src r0
      have but1 : But d H (upd H d (.dK (srcD c ((t + 1 : Nat) : Int) r))) := But.set
      generalize eH1 : upd H d (.dK (srcD c ((t + 1 : Nat) : Int) r)) = H1 at *
      have hc1 : H1 c = some (.lst (ns.map V.int)) := but1 _ _ ndc.symm hc
      have hd1 : H1 d = some (.dK (srcD c ((t + 1 : Nat) : Int) r)) := by rw [← eH1, upd_same]
      have gC1 := DGet.k (k := Sum.inr "cells") hd1
      rw [src_cells] at gC1
      -- cell
      refine ⟨_, rfl, 29, t, rfl, rfl, .inl ⟨by decide, by decide⟩, _, 17, rfl, rfl, ?_⟩
      -- if cells != []
      refine ⟨fun σ' H' => ∃ (v : Int) (o2 o5 : Option V), σ' = [some (.ref d), some (.int n), o2, some (.int t), some (.int v), o5] ∧ Same H1 H', ?_, ?_⟩
      · refine ⟨_, rfl, d, _, rfl, gC1, Nat.zero_le _, fun p np => ?_⟩
        have sm := same_new (o := .lst []) np
        refine ⟨.list (ns.map PyData.int), .list [], .lst (SqL.of (sm _ _ hc1)) (ints_dp ns), .lst (SqL.of upd_same) .nil, PySem.W.ke_shaped_ints ns, rfl, _, rfl, ite2 (fun e => ?_) (fun e => ?_)⟩
        · have hne : ns ≠ [] := by
            rintro rfl
            exact absurd e (by decide)
          have gC2 := DGet.k (k := Sum.inr "cells") (sm _ _ hd1)
          rw [src_cells] at gC2
          have hlen : 0 < ns.length := List.length_pos_iff.mpr hne
          obtain ⟨j, hj⟩ := nat_of (mod_in (a := t) (b := ((ns.map V.int).length : Int)) (by rw [List.length_map]; omega)).1
          have hj2 : j < ns.length := by
            have h2 := (mod_in (a := t) (b := ((ns.map V.int).length : Int)) (by rw [List.length_map]; omega)).2
            rw [hj, List.length_map] at h2
            omega
          refine ⟨_, rfl, d, _, rfl, gC2, _, rfl, _, rfl, d, _, rfl, gC2, c, _, rfl, .inl (SqL.of (sm _ _ hc1)), t, _, rfl, rfl, (by rw [List.length_map]; omega), c, ns.map V.int, _, .int ns[j], rfl, rfl, SqL.of (sm _ _ hc1), ?_, ?_⟩
          · rw [hj]
            exact atI_nat (by rw [List.getElem?_map, List.getElem?_eq_getElem hj2]; rfl)
          · exact ⟨_, _, _, rfl, sm⟩
        · exact ⟨_, _, _, rfl, sm⟩
      · rintro σ' H2 ⟨v, o2, o5, rfl, sm⟩
        have hd2 := sm _ _ hd1
        have hc2 := sm _ _ hc1
        have src2 : Src H2 d c (t + 1) := src1.same sm
        have but2 : But d H H2 := but1.trans (But.same sm)
        have gC2 := DGet.k (k := Sum.inr "cells") hd2
        rw [src_cells] at gC2
        clear e hd hc gC gT gR hd1 hc1 gC1 src1 but1 eH1 sm src
        -- if turn < len(cells) and abs(cell) >= 10 ** 18
        refine ⟨fun σ' H' => σ' = [some (.ref d), some (.int n), o2, some (.int t), some (.int v), o5] ∧ H' = H2, ?_, ?_⟩
        · refine ⟨_, rfl, _, rfl, d, _, rfl, gC2, c, _, rfl, .inl (SqL.of hc2), _, _, rfl, rfl, _, rfl, ite2 (fun e1 => ?_) (fun e1 => ?_)⟩
          · refine ⟨_, rfl, _, rfl, 10, 18, rfl, rfl, ⟨by decide, by decide, by decide⟩, _, _, rfl, rfl, _, rfl, ite2 (fun e2 => ?_) (fun e2 => ⟨rfl, rfl⟩)⟩
            have ab : (0 : Int) ≤ (if v < 0 then -v else v) - 10 ^ 18 := by
              have h2 := of_decide_eq_true e2
              have h3 : (10 : Int) ^ (18 : Int).toNat = 10 ^ 18 := rfl
              omega
            refine ⟨_, rfl, _, rfl, 10, 18, rfl, rfl, ⟨by decide, by decide, by decide⟩, _, _, rfl, rfl, _, rfl, _, _, rfl, rfl, ⟨nz, na⟩, _, rfl, d, _, rfl, DPut.k (k := Sum.inr "rest") hd2 (by show 3 < sizeLine; decide), ?_⟩
            rw [sput_rest]
            refine ⟨_, rfl, _, rfl, 10, 18, rfl, rfl, ⟨by decide, by decide, by decide⟩, _, _, rfl, rfl, _, rfl, _, _, rfl, rfl, nz, ?_⟩
            exact q _ _ (t + 1) (but2.trans But.set) (src_set src2 (div_in n0 ab)) (Nat.le_refl _) (mod_in n0).1 (mod_in n0).2
          · exact ⟨rfl, rfl⟩
        · rintro σ' H' ⟨rfl, rfl⟩
          refine ⟨_, rfl, _, 2147483629, rfl, rfl, (by show (2147483629 : Int) ≠ 0; decide), _, 69621, rfl, rfl, .inr ⟨by decide, by decide⟩, ?_⟩
          refine ⟨_, rfl, 40014, t, rfl, rfl, .inl ⟨by decide, by decide⟩, _, rfl, _, t, rfl, rfl, .inr ⟨by omega, by omega⟩, _, _, rfl, rfl, _, 12345, rfl, rfl, _, 2147483587, rfl, rfl, (by show (2147483587 : Int) ≠ 0; decide), ?_⟩
          have m1 := mod_in (a := v.fmod 2147483629 * 69621 + 40014 * (t : Int) * t + 12345) (b := 2147483587) (by decide)
          generalize em : (v.fmod 2147483629 * 69621 + 40014 * (t : Int) * t + 12345).fmod 2147483587 = m at m1
          refine ⟨_, rfl, _, rfl, m, 16807, congrArg V.int em, rfl, m, _, congrArg V.int em, rfl, .inl ⟨by omega, by omega⟩, _, 2147483563, rfl, rfl, (by show (2147483563 : Int) ≠ 0; decide), ?_⟩
          have m2 := mod_in (a := m * (m + 16807)) (b := 2147483563) (by decide)
          generalize em' : (m * (m + 16807)).fmod 2147483563 = m' at m2
          refine ⟨_, rfl, _, rfl, m', m', congrArg V.int em', congrArg V.int em', .inl ⟨by omega, by omega⟩, _, 2147483647, rfl, rfl, (by show (2147483647 : Int) ≠ 0; decide), _, 128, rfl, rfl, ⟨by decide, by decide⟩, _, rfl, _, n, rfl, rfl, nz, ?_⟩
          exact q _ _ (t + 1) but2 src2 (Nat.le_refl _) (mod_in n0).1 (mod_in n0).2
end
end Mo

namespace Mo
open PySem PySem.Spec PyProof.Rows L2
section
variable {P : Program} {w : World} {K : PySem.W.Frag} {mg : Str → Option Value} {base : Heap}
theorem ok_pick {k : Nat} (T : Txt K mg) : FnOk P w K mg base CX0 (k + 2) T.aLPick T.dLPick ["_law_source_here", "_law_items"] (spSPick K) := by
  have GLDraw : FnOk P w K mg base CX0 (k + 1) T.aLDraw T.dLDraw ["_law_source_here", "_law_size"] spSDraw := ok_draw T
  refine T.fLPick.ok scLPick (fun vs H Q E h => ?_) (fun cdv A outer s H vs Q E hr h => ?_)
  · obtain ⟨d, c, l, xs, t, rfl, _⟩ := h
    rfl
  · obtain ⟨d, c, l, xs, t, rfl, src, hl, nld, h0, h1, ht, q⟩ := h
    refine ⟨_, (pss_one (ps_ret (pe_ix ix_list (pv 1) (pe_call GLDraw hr (by rfl) T.gLDraw T.fLDraw.kp T.bLDraw .nil pass0 (pa_cons (pv 0) (pa_cons (pe_callB call_len_seq (by rfl) T.m_len PySem.boot_len (pa_cons (pv 1) pa_nil)) pa_nil))) (fun _ _ => rfl)))), ?_⟩
    refine ⟨_, rfl, _, rfl, _, rfl, l, xs, rfl, .inl hl, d, c, _, t, rfl, src, by omega, by omega, ht, fun H' k t' but src' ht' k0 k1 => ?_⟩
    obtain ⟨j, rfl⟩ := nat_of k0
    have hj : j < xs.length := by omega
    have hl' : SqL K H' l xs := by
      rcases hl with (e | ⟨o, e⟩) | e
      · exact .inl (.inl (but _ _ nld e))
      · exact .inl (.inr ⟨o, but _ _ nld e⟩)
      · exact .inr e
    exact ⟨l, xs, j, xs[j], rfl, rfl, hl', atI_nat (List.getElem?_eq_getElem hj), q H' _ t' but src' ht' (List.getElem_mem hj)⟩
end
end Mo

namespace Mo
open PySem PySem.Spec PyProof.Rows L2
section
variable {P : Program} {w : World} {K : PySem.W.Frag} {mg : Str → Option Value} {base : Heap}
def spSource (K : PySem.W.Frag) : Sp := fun vs H Q _ => ∃ (a : Addr) (ns : List Int), vs = [.ref a] ∧ SqL K H a (ns.map V.int) ∧ ns.length ≤ 63 ∧ ∀ H' d c, Same H H' → H d = none → Src H' d c 0 → Q (.ref d) H'
theorem ok_source {k : Nat} (T : Txt K mg) : FnOk P w K mg base CX0 (k + 1) T.aLSource T.dLSource ["_law_script"] (spSource K) := by
  refine T.fLSource.ok scLSource (fun vs H Q E h => ?_) (fun cdv A outer s H vs Q E hr h => ?_)
  · obtain ⟨a, ns, rfl, _⟩ := h
    rfl
  · obtain ⟨a, ns, rfl, hs, hn, q⟩ := h
    refine ⟨_, (pss_one (ps_ret (pe_disp (pps_cons pe_str (pe_callTy call_list_of (by rfl) T.m_list (by decide +kernel) (pa_cons (pe_slice sl_list (pv 0) po_none (po_some pe_int)) pa_nil)) (pps_cons pe_str pe_int (pps_cons pe_str pe_int pps_nil))) (by rfl) (by rfl) (fun z => by cases z) (by decide)))), ?_⟩
    intro d nd
    have s1 := same_new (o := .dK []) nd
    refine ⟨_, rfl, 63, rfl, a, _, rfl, s1.seq hs, fun p np => ?_⟩
    have s2 := same_new (o := .lst (cutV (ns.map V.int) none (some 63))) np
    refine ⟨p, _, rfl, .inl (SqL.of upd_same), fun c nc => ?_⟩
    have s3 := same_new (o := .lst (cutV (ns.map V.int) none (some 63))) nc
    have ec : cutV (ns.map V.int) none (some 63) = ns.map V.int := by
      unfold cutV
      rw [HT.sIx_none, show (some (63 : Int)) = some ((63 : Nat) : Int) from rfl, HT.sIx_nat, List.drop_zero, Nat.sub_zero, List.length_map]
      exact List.take_of_length_le (by rw [List.length_map]; omega)
    rw [ec] at nc s2 s3 ⊢
    have hd3 := s3 _ _ (s2 _ _ (upd_same (H := H) (a := d) (o := .dK [])))
    refine ⟨hd3, srcD c 0 0, rfl, by show 3 ≤ 15; decide, ?_⟩
    rw [src_merge]
    have ncd : c ≠ d := (ne_of_none (s2 _ _ (upd_same (H := H) (a := d) (o := .dK []))) nc).symm
    refine q _ d c (Same.put ((s1.trans s2).trans s3) nd) nd ⟨ns, 0, upd_same, by rw [upd_ne ncd, upd_same], hn, Int.le_refl 0⟩
end
end Mo

namespace Mo
open PySem PySem.Spec PyProof.Rows L2
theorem asg_lit {te : TE} {d : PyData} (h : LitE te d) {i : Nat} {u : TS} {D} {σ : L2.St} {H : Hp} (q : ∀ H' v, Same H H' → Dx (Was H) H' v d → u D (σ.set i (some v)) H') : tSeq (tAsg te (gName i)) u D σ H := h σ H _ q
/-- no text, and repr writes it -/
structure NoTx (e : PyData) : Prop where
  no : textD e = false
  fit : Fit 40 100000 10 e
theorem NoTx.shw {e : PyData} (h : NoTx e) : Shw e := h.fit.repr (by decide) (by decide) (by decide) (by decide)
theorem fit4097 : Fit 40 100000 10 (repD 4097 [.int 0]) := by
  have e : repD 4097 [PyData.int 0] = repD 4097 [PyData.int ((0 : Nat) : Int)] := rfl
  rw [e, repD_nat2]
  have hl : (nat2 (List.replicate 4097 0)).length = 4097 := by unfold nat2; rw [List.length_map, List.length_replicate]
  have h0 : ∀ n ∈ nat2 (List.replicate 4097 0), n.natAbs < 10 ^ 20 := fun n hn => by
    unfold nat2 at hn
    obtain ⟨m, hm, rfl⟩ := List.mem_map.mp hn
    rw [(List.mem_replicate.mp hm).2]
    decide
  have f := (ints_fitAll h0).tup
  rw [hl] at f
  exact f.mono (by decide) (by decide) (by decide)
theorem noTx_all : ∀ e ∈ [PyData.list [.int 1], .tuple [.int ((10 : Int) ^ (6 : Int).toNat)], .tuple [.int 1, .int (-1)], .tuple [.bool true], .tuple [.none], .tuple [.str (Str.ofString "a")], .str (Str.ofString ""), .str (Str.ofString "aba"), .none, .int 0, .dict [], .tuple [.tuple [.int 1]], .list []] ++ [PyData.tuple [.int 0, .list [.int 1]], .list [.int 1, .int 2, .int 1]], NoTx e := fun e he => by
  simp only [List.mem_append, List.mem_cons, List.not_mem_nil, or_false] at he
  rcases he with (rfl | rfl | rfl | rfl | rfl | rfl | rfl | rfl | rfl | rfl | rfl | rfl | rfl) | (rfl | rfl)
  all_goals exact ⟨by decide +kernel, ⟨by first | (simp [okD, okAll, okKv]; done) | (simp [okD, okAll, okKv]; decide +kernel), by decide +kernel, by decide +kernel⟩⟩
section
variable {P : Program} {w : World} {K : PySem.W.Frag} {mg : Str → Option Value} {base : Heap}
theorem rep4097_no : textD (repD 4097 [.int 0]) = false := by
  have e : repD 4097 [PyData.int 0] = repD 4097 [PyData.int ((0 : Nat) : Int)] := rfl
  rw [e, repD_nat2]
  have hl : (nat2 (List.replicate 4097 0)).length = 4097 := by unfold nat2; rw [List.length_map, List.length_replicate]
  show (decide (((nat2 (List.replicate 4097 0)).map PyData.int).length ≤ 4096) && ((nat2 (List.replicate 4097 0)).map PyData.int).all letterD) = false
  rw [List.length_map, hl]
  rfl
/-- no text -/
def spNoT : Sp := fun vs H Q _ => ∃ (d c : Addr) (t : Nat), vs = [.ref d] ∧ Src H d c t ∧ t < 1073741824 ∧
  ∀ H' v t' e, But d H H' → Src H' d c t' → t' ≤ t + 1 → Dx (fun x => x = d) H' v e → NoTx e → Q v H'
theorem ok_noT {k : Nat} (T : Txt K mg) : FnOk P w K mg base CX0 (k + 3) T.aLNoText T.dLNoText ["_law_source_here"] spNoT := by
  have GLPick : FnOk P w K mg base CX0 (k + 2) T.aLPick T.dLPick ["_law_source_here", "_law_items"] (spSPick K) := ok_pick T
  refine T.fLNoText.ok scLNoText (fun vs H Q E h => ?_) (fun cdv A outer s H vs Q E hr h => ?_)
  · obtain ⟨_, _, _, rfl, _⟩ := h
    rfl
  · obtain ⟨d, c, t, rfl, src, ht, q⟩ := h
    refine ⟨_, (pss_cons (ps_set (i := 1) scLNoText.nd rfl (Or.inl rfl) (pe_lst (pa_cons (pe_lst (pa_cons pe_int pa_nil)) (pa_cons (pe_tup (pa_cons (pe_op op_pow pe_int pe_int) pa_nil)) (pa_cons (pe_tup (pa_cons pe_int (pa_cons (pe_un un_neg pe_int) pa_nil))) (pa_cons (pe_tup (pa_cons pe_bl pa_nil)) (pa_cons (pe_tup (pa_cons pe_non pa_nil)) (pa_cons (pe_tup (pa_cons pe_str pa_nil)) (pa_cons pe_str (pa_cons pe_str (pa_cons pe_non (pa_cons pe_int (pa_cons pe_dnewK (pa_cons (pe_tup (pa_cons (pe_tup (pa_cons pe_int pa_nil)) pa_nil)) (pa_cons (pe_op Mo.op_repN (pe_tup (pa_cons pe_int pa_nil)) pe_int) (pa_cons (pe_lst pa_nil) pa_nil))))))))))))))))
      (pss_one (ps_ret (pe_call GLPick hr (by rfl) T.gLPick T.fLPick.kp T.bLPick .nil pass0 (pa_cons (pv 0) (pa_cons (pe_op op_cat (pv 1) (pe_lst (pa_cons (pe_tup (pa_cons pe_int (pa_cons (pe_lst (pa_cons pe_int pa_nil)) pa_nil))) (pa_cons (pe_lst (pa_cons pe_int (pa_cons pe_int (pa_cons pe_int pa_nil)))) pa_nil)))) pa_nil)))))), ?_⟩
    have hd0 : H d ≠ none := by
      obtain ⟨_, _, h1, _⟩ := src
      rw [h1]
      exact Option.some_ne_none _
    refine asg_lit (lit_lst (lit_cons (lit_lst (lit_cons lit_int lit_nil)) (lit_cons (lit_tup (lit_cons (lit_pow ⟨by decide, by decide, by decide⟩) lit_nil)) (lit_cons (lit_tup (lit_cons lit_int (lit_cons (lit_negE lit_int) lit_nil))) (lit_cons (lit_tup (lit_cons lit_bl lit_nil)) (lit_cons (lit_tup (lit_cons lit_non lit_nil)) (lit_cons (lit_tup (lit_cons lit_str lit_nil)) (lit_cons lit_str (lit_cons lit_str (lit_cons lit_non (lit_cons lit_int (lit_cons lit_dnew (lit_cons (lit_tup (lit_cons (lit_tup (lit_cons lit_int lit_nil)) lit_nil)) (lit_cons (lit_rep1 ⟨by decide, by decide⟩) (lit_cons (lit_lst lit_nil) lit_nil))))))))))))))) (fun H1 v1 s1 hv1 => ?_)
    obtain ⟨a1, xs, rfl, ha1, _, hxs⟩ := lst_dx hv1
    have hl1 := hxs.length
    refine ⟨_, rfl, _, rfl, ?_⟩
    refine (lit_lst (lit_cons (lit_tup (lit_cons lit_int (lit_cons (lit_lst (lit_cons lit_int lit_nil)) lit_nil))) (lit_cons (lit_lst (lit_cons lit_int (lit_cons lit_int (lit_cons lit_int lit_nil)))) lit_nil))).use fun H2 v2 s2 hv2 => ?_
    obtain ⟨a2, ys, rfl, ha2, _, hys⟩ := lst_dx hv2
    have hl2 := hys.length
    have hxl : xs.length = 14 := hl1
    have hyl : ys.length = 2 := hl2
    refine ⟨a1, a2, xs, ys, rfl, rfl, s2 _ _ ha1, ha2, by rw [hxl, hyl]; decide, fun l nl => ?_⟩
    have s3 := same_new (o := .lst (xs ++ ys)) nl
    have s13 := (s1.trans s2).trans s3
    have src3 := src.same s13
    have nld : l ≠ d := fun z => by
      rw [← z] at hd0
      exact hd0 ((s1.trans s2).free nl)
    refine ⟨d, c, l, _, t, rfl, src3, SqL.of upd_same, nld, by rw [List.length_append]; omega, by rw [List.length_append, hxl, hyl]; decide, ht, fun H4 v t4 but4 src4 ht4 hv => ?_⟩
    rcases List.mem_append.mp hv with hv | hv
    · obtain ⟨e, he, dx⟩ := hxs.mem hv
      refine q H4 v t4 e ((But.same s13).trans but4) src4 ht4 ((dx.same (s2.trans s3)).keep hd0 but4) ?_
      simp only [List.mem_cons, List.not_mem_nil, or_false] at he
      rcases he with rfl | rfl | rfl | rfl | rfl | rfl | rfl | rfl | rfl | rfl | rfl | rfl | rfl | rfl
      all_goals first | exact ⟨rep4097_no, fit4097⟩ | exact noTx_all _ (by simp)
    · obtain ⟨e, he, dx⟩ := hys.mem hv
      refine q H4 v t4 e ((But.same s13).trans but4) src4 ht4 ((dx.same s3).keep (fun z => hd0 (s1.free z)) but4) ?_
      simp only [List.mem_cons, List.not_mem_nil, or_false] at he
      rcases he with rfl | rfl
      all_goals exact noTx_all _ (by simp)
def spBR : Sp := fun vs H Q _ => vs = [] ∧ ∀ H', Same H H' → Q (.bl true) H'
theorem ok_br {k : Nat} (T : Txt K mg) (hbm : ∃ mm, base.Ns sysModules mm) : FnG P w K mg base CX0 (k + 4) T.aLBoundsRight T.dLBoundsRight [] spBR := by
  have GLengthBound : FnOk P w K mg base CX0 (k + 3) T.aLengthBound T.dLengthBound ["count", "letters"] spLen := ok_len T
  refine okG T.fLBoundsRight scLBoundsRight (fun vs H Q E h => ?_) (fun cdv A outer s H vs Q E hr hgd h => ?_)
  · obtain ⟨rfl, _⟩ := h
    rfl
  · obtain ⟨rfl, q⟩ := h
    refine ⟨_, (pss_cons (ps_for PassesOwn.never rfl (pi_range2 (by rfl) T.m_range (pa_cons pe_int (pa_cons pe_int pa_nil))) (pg_name (i := 0) scLBoundsRight.nd rfl (Or.inr rfl)) (pss_cons (ps_set (i := 1) scLBoundsRight.nd rfl (Or.inl rfl) (pe_op op_add (pe_op op_mul pe_int (pv 0)) pe_int))
      (pss_cons (ps_set (i := 2) scLBoundsRight.nd rfl (Or.inl rfl) pe_int)
      (pss_cons (ps_for PassesOwn.never rfl (pi_range1 (by rfl) T.m_range (pa_cons (pv 1) pa_nil)) (pg_name (i := 3) scLBoundsRight.nd rfl (Or.inl rfl)) (pss_one (ps_set (i := 2) scLBoundsRight.nd rfl (Or.inl rfl) (pe_op op_mul (pv 2) (pv 0)))))
      (pss_cons (ps_set (i := 4) scLBoundsRight.nd rfl (Or.inl rfl) (pe_lst (pa_cons pe_int (pa_cons (pv 1) (pa_cons (pe_op op_sub (pe_op op_mul (pe_op op_add (pv 2) pe_int) (pe_op op_add (pv 1) pe_int)) pe_int) pa_nil)))))
      (pss_one (ps_if (pt_cmpR op_ne (pe_callB (Mo.cr_reprX hbm hgd hr.units) (by rfl) T.m_repr (by decide +kernel) (pa_cons (pe_lc (own := [("_law_count", 5)]) (g := gName 5) (tt := tYes) rfl scLBoundsRight.nd (pi_tup (pe_tup (pa_cons pe_int (pa_cons pe_int (pa_cons pe_int pa_nil))))) (blkOk_by (N := ["_law_letters", "_law_two", "_law_blocks", "_law_turn", "_law_due", "_law_count"]) (sc := defScope sLBoundsRight) (by decide +kernel)) (fun _ _ _ _ _ => pg_name (i := 5) scLBoundsRight.nd rfl (Or.inl rfl)) (fun _ _ _ _ _ => pts_nil) (fun _ _ _ _ _ => (pe_call GLengthBound hr (by rfl) T.gLengthBound T.fLengthBound.kp T.bLengthBound .nil pass0 (pa_cons (pv 5) (pa_cons (pv 0) pa_nil))))) pa_nil)) (pe_callB (Mo.cr_reprX hbm hgd hr.units) (by rfl) T.m_repr (by decide +kernel) (pa_cons (pv 4) pa_nil)) (nomark _)) (pss_one (ps_ret pe_bl)) pss_nil)))))))
      (pss_one (ps_ret pe_bl))), ?_⟩
    refine ⟨1, 5, rfl, ⟨by decide, by decide, by decide, by decide⟩, for_range (lo := 1) (fun i σ H' => ∃ o0 o1 o2 o3 o4 : Option V, σ = [o0, o1, o2, o3, o4, none] ∧ Same H H') ?_ ?_ ?_⟩
    · exact ⟨_, _, _, _, _, rfl, Same.refl H⟩
    · rintro i σ H1 hi ⟨o0, o1, o2, o3, o4, rfl, s1⟩
      have hi2 : i < 4 := hi
      obtain ⟨m, hm⟩ : ∃ m : Nat, m = i + 1 := ⟨_, rfl⟩
      have em : (1 : Int) + (i : Int) = (m : Int) := by omega
      have m1 : 1 ≤ m := by omega
      have m4 : m ≤ 4 := by omega
      rw [em]
      refine ⟨_, rfl, 2, _, rfl, rfl, .inl ⟨by decide, by decide⟩, _, 1, rfl, rfl, ?_⟩
      obtain ⟨w2, hw⟩ : ∃ w2 : Nat, w2 = 2 * m + 1 := ⟨_, rfl⟩
      have ew : (2 : Int) * (m : Int) + 1 = (w2 : Int) := by omega
      dsimp only
      rw [ew]
      refine ⟨_, rfl, _, rfl, by omega, by omega, for_range (lo := 0) (fun j σ H' => ∃ o3 : Option V, σ = [some (.int m), some (.int w2), some (.int ((m ^ j : Nat) : Int)), o3, o4, none] ∧ Same H H') ?_ ?_ ?_⟩
      · exact ⟨_, rfl, s1⟩
      · rintro j σ H2 hj ⟨o3, rfl, s2⟩
        refine ⟨_, rfl, _, rfl, _, _, rfl, rfl, .inr ⟨by omega, by omega⟩, some (.int (0 + (j : Int))), ?_, s2⟩
        rw [Nat.pow_succ, Int.natCast_mul]
        rfl
      · rintro σ H2 ⟨o3, rfl, s2⟩
        rw [show ((w2 : Nat) : Int).toNat = w2 by omega]
        refine ⟨_, rfl, _, rfl, _, 1, rfl, rfl, _, rfl, _, 1, rfl, rfl, _, _, rfl, rfl, .inr ⟨by omega, by omega⟩, _, 1, rfl, rfl, by show 3 ≤ sizeLine; decide, fun l nl => ?_⟩
        have b1 : bndL m 1 = w2 := by
          show (m ^ 1 + 1) * (1 + 1) - 1 = w2
          rw [Nat.pow_one]
          omega
        have b2 : ((bndL m 2 : Nat) : Int) = (((m ^ w2 : Nat) : Int) + 1) * ((w2 : Int) + 1) - 1 := by
          show (((m ^ bndL m 1 + 1) * (bndL m 1 + 1) - 1 : Nat) : Int) = _
          rw [b1]
          have pos : 1 ≤ (m ^ w2 + 1) * (w2 + 1) := Nat.mul_pos (by omega) (by omega)
          have e := Int.natCast_mul (m ^ w2 + 1) (w2 + 1)
          rw [Int.natCast_add, Int.natCast_add] at e
          have e2 : ((1 : Nat) : Int) = 1 := rfl
          rw [e2] at e
          rw [← e]
          omega
        have p9 : m ^ w2 ≤ 4 ^ 9 := Nat.le_trans (Nat.pow_le_pow_left m4 w2) (Nat.pow_le_pow_right (by decide) (by omega))
        have b3 : bndL m 2 ≤ 262145 * 10 := by
          show (m ^ bndL m 1 + 1) * (bndL m 1 + 1) - 1 ≤ _
          rw [b1]
          have p9' : m ^ w2 + 1 ≤ 262145 := by
            have : (4 : Nat) ^ 9 = 262144 := by decide
            omega
          have := Nat.mul_le_mul p9' (show w2 + 1 ≤ 10 by omega)
          omega
        dsimp only
        rw [← b2]
        have el : [V.int 1, V.int (w2 : Int), V.int ((bndL m 2 : Nat) : Int)] = ((List.range 3).map fun n => ((bndL m n : Nat) : Int)).map V.int := by
          rw [← b1]
          rfl
        have hsm : ∀ x ∈ (List.range 3).map (fun n => ((bndL m n : Nat) : Int)), x.natAbs < 10 ^ 20 := fun x hx => by
          obtain ⟨n, hn, rfl⟩ := List.mem_map.mp hx
          have hn3 := List.mem_range.mp hn
          have b0 : bndL m 0 = 1 := rfl
          rcases (show n = 0 ∨ n = 1 ∨ n = 2 by omega) with rfl | rfl | rfl
          · rw [b0]; decide
          · rw [b1]; omega
          · omega
        have rp := lstI_repr hsm (by rw [List.length_map, List.length_range]; decide)
        have s3 := same_new (o := .lst [V.int 1, V.int (w2 : Int), V.int ((bndL m 2 : Nat) : Int)]) nl
        rw [el] at s3 ⊢
        have hl : upd H2 l (.lst (((List.range 3).map fun n => ((bndL m n : Nat) : Int)).map V.int)) l = some (.lst (((List.range 3).map fun n => ((bndL m n : Nat) : Int)).map V.int)) := upd_same
        have s13 := s2.trans s3
        generalize upd H2 l (.lst (((List.range 3).map fun n => ((bndL m n : Nat) : Int)).map V.int)) = H3 at *
        refine ⟨by show 3 ≤ sizeLine; decide, fun tp ntp => ?_⟩
        have s4 := same_new (o := .tup [V.int 1, V.int 2, V.int 3]) ntp
        have htp : upd H3 tp (.tup [V.int 1, V.int 2, V.int 3]) tp = some (.tup [V.int 1, V.int 2, V.int 3]) := upd_same
        generalize upd H3 tp (.tup [V.int 1, V.int 2, V.int 3]) = H4 at *
        refine ⟨tp, rfl, ⟨_, SqT.of htp⟩, fun D nD => lc_tup (K := K) (a := tp) (xs := [V.int 1, V.int 2, V.int 3]) (fun n H' => Same H4 H' ∧ H' D = some (.lst (((List.range n).map fun n => ((bndL m n : Nat) : Int)).map V.int))) ⟨same_new nD, upd_same⟩ (fun _ H' _ z => SqT.of (z.1 _ _ htp)) ?_ ?_⟩
        · rintro n x H5 hx ⟨s5, hD⟩
          have hn : n < 3 := (List.getElem?_eq_some_iff.mp hx).1
          have ex : x = V.int ((n + 1 : Nat) : Int) := by
            rcases (show n = 0 ∨ n = 1 ∨ n = 2 by omega) with rfl | rfl | rfl <;> (cases hx; rfl)
          subst ex
          refine ⟨rfl, _, rfl, _, rfl, n, m, rfl, by omega, m1, m4, fun H6 s6 => ⟨_, s6 _ _ hD, fitsLt (by rw [List.length_map, List.length_map, List.length_range]; omega), Same.put (s5.trans s6) nD, ?_⟩⟩
          rw [upd_same, List.range_succ, List.map_append, List.map_append]
          rfl
        · rintro H5 ⟨s5, hD⟩
          refine ⟨fun _ => False, _, _, rfl, .lst hD (fun z => z) (ints_dx _), rp.1, rp.2.1, rp.2.2, ?_⟩
          refine ⟨_, rfl, fun _ => False, _, _, rfl, .lst (s5 _ _ (s4 _ _ hl)) (fun z => z) (ints_dx _), rp.1, rp.2.1, rp.2.2, rfl, false, same_ne _, iteF ?_⟩
          exact ⟨_, _, _, _, _, rfl, (s13.trans s4).trans s5⟩
    · rintro σ H1 ⟨o0, o1, o2, o3, o4, rfl, s1⟩
      exact q H1 s1
end
end Mo

namespace Mo
open PySem PySem.Spec PyProof.Rows L2
theorem good_aa : GoodP (.str (Str.ofString "aa")) := ⟨_, rfl, by decide +kernel, by decide +kernel⟩
/-- no pattern, and repr writes it -/
structure NoPa (e : PyData) : Prop where
  no : patD e = false
  fit : Fit 40 1000 5 e
theorem NoPa.shw {e : PyData} (h : NoPa e) : Shw e := h.fit.repr (by decide) (by decide) (by decide) (by decide)
section
variable {P : Program} {w : World} {K : PySem.W.Frag} {mg : Str → Option Value} {base : Heap}
def lamLTextsRight : Str := (envOfC "_law_texts_right" (defScope sLTextsRight) 0 0 .none).qual ++ "<lambda>"
def spTR (pd : Addr) : Sp := fun vs H Q _ => ∃ (N M : Addr → Prop) (x o : V) (ex eo : PyData), vs = [x, o] ∧ Dx N H x ex ∧ NoTx ex ∧ Dx M H o eo ∧ NoPa eo ∧ LamX.Tabs [(pd, lamLTextsRight)] H ∧ ∀ H', LamX.ExtN H H' → Q (.bl true) H'
theorem ok_tr {k : Nat} (T : Txt K mg) (TB : LamX.TabB base mg T.cdLTextsRight T.pdLTextsRight) (hbm : ∃ mm, base.Ns sysModules mm) : FnG P w K mg base CX0 (k + 9) T.aLTextsRight T.dLTextsRight ["_law_strange", "_law_odd"] (spTR T.pdLTextsRight) := by
  have GBordersX : FnOk P w K mg base (L2.CX P w) (k + 6) T.aBorders T.dBorders ["text"] (spTL T.cInvalidText T.cTooLarge) := ok_bordX T
  have GRankX : FnOk P w K mg base (L2.CX P w) (k + 6) T.aRank T.dRank ["text"] (spTL T.cInvalidText T.cTooLarge) := ok_rankX T
  have GBestBlockX : FnOk P w K mg base (L2.CX P w) (k + 6) T.aBestBlock T.dBestBlock ["text"] (spTL T.cInvalidText T.cTooLarge) := ok_bestX T
  have GRankValuesX : FnOk P w K mg base (L2.CX P w) (k + 6) T.aRankValues T.dRankValues ["text", "count"] (spTC T.cInvalidText T.cInvalidCount T.cTooLarge) := ok_rvX T
  have GFindUniversalX : FnOk P w K mg base (L2.CX P w) (k + 6) T.aFindUniversal T.dFindUniversal ["text", "count"] (spTC T.cInvalidText T.cInvalidCount T.cTooLarge) := ok_fuX T
  have GFindUnavoidableX : FnOk P w K mg base (L2.CX P w) (k + 6) T.aFindUnavoidable T.dFindUnavoidable ["pattern", "text"] (spPT T.cInvalidPattern T.cInvalidText T.cTooLarge) := ok_unavX T
  refine okT T.fLTextsRight T.kdLTextsRight scLTextsRight (fun vs H Q E h => ?_) (fun A outer s H vs Q E hr hgd h => ?_)
  · obtain ⟨_, _, _, _, _, _, rfl, _⟩ := h
    rfl
  · obtain ⟨N, M, x, o, ex, eo, rfl, dx, nx, dy, ny, tb, q⟩ := h
    refine ⟨_, (pss_cons (ps_set (i := 2) scLTextsRight.nd rfl (Or.inl rfl) (pe_lst (pa_cons (Mo.pe_lamV (T := [(T.pdLTextsRight, _)]) TB rfl (List.mem_singleton.mpr rfl) (fun p hp _ => by rw [List.mem_singleton.mp hp]) (LamX.lamS_by (sc := defScope sLTextsRight) (by decide +kernel)) rfl (fun _ _ _ _ _ => rfl) (fun A outer s' H' E fn cc hr hgu => (pe_call GBordersX hr (by rfl) T.gBorders T.fBorders.kp T.bBorders .nil (passes_call (takes_of rfl rfl rfl rfl) (fun _ _ _ _ h => h)) (pa_cons (pv 0) pa_nil)))) pa_nil)))
      (pss_cons (ps_expr (pe_bm PySem.F.plainAttrs_list PySem.F.slot_list_append PySem.F.type_list_append mt_append (pv 2) (pa_cons (Mo.pe_lamV (T := [(T.pdLTextsRight, _)]) TB rfl (List.mem_singleton.mpr rfl) (fun p hp _ => by rw [List.mem_singleton.mp hp]) (LamX.lamS_by (sc := defScope sLTextsRight) (by decide +kernel)) rfl (fun _ _ _ _ _ => rfl) (fun A outer s' H' E fn cc hr hgu => (pe_call GRankX hr (by rfl) T.gRank T.fRank.kp T.bRank .nil (passes_call (takes_of rfl rfl rfl rfl) (fun _ _ _ _ h => h)) (pa_cons (pv 0) pa_nil)))) pa_nil)))
      (pss_cons (ps_expr (pe_bm PySem.F.plainAttrs_list PySem.F.slot_list_append PySem.F.type_list_append mt_append (pv 2) (pa_cons (Mo.pe_lamV (T := [(T.pdLTextsRight, _)]) TB rfl (List.mem_singleton.mpr rfl) (fun p hp _ => by rw [List.mem_singleton.mp hp]) (LamX.lamS_by (sc := defScope sLTextsRight) (by decide +kernel)) rfl (fun _ _ _ _ _ => rfl) (fun A outer s' H' E fn cc hr hgu => (pe_call GBestBlockX hr (by rfl) T.gBestBlock T.fBestBlock.kp T.bBestBlock .nil (passes_call (takes_of rfl rfl rfl rfl) (fun _ _ _ _ h => h)) (pa_cons (pv 0) pa_nil)))) pa_nil)))
      (pss_cons (ps_expr (pe_bm PySem.F.plainAttrs_list PySem.F.slot_list_append PySem.F.type_list_append mt_append (pv 2) (pa_cons (Mo.pe_lamV (T := [(T.pdLTextsRight, _)]) TB rfl (List.mem_singleton.mpr rfl) (fun p hp _ => by rw [List.mem_singleton.mp hp]) (LamX.lamS_by (sc := defScope sLTextsRight) (by decide +kernel)) rfl (fun _ _ _ _ _ => rfl) (fun A outer s' H' E fn cc hr hgu => (pe_call GRankValuesX hr (by rfl) T.gRankValues T.fRankValues.kp T.bRankValues .nil (passes_call (takes_of rfl rfl rfl rfl) (fun _ _ _ _ h => h)) (pa_cons (pv 0) (pa_cons pe_int pa_nil))))) pa_nil)))
      (pss_cons (ps_expr (pe_bm PySem.F.plainAttrs_list PySem.F.slot_list_append PySem.F.type_list_append mt_append (pv 2) (pa_cons (Mo.pe_lamV (T := [(T.pdLTextsRight, _)]) TB rfl (List.mem_singleton.mpr rfl) (fun p hp _ => by rw [List.mem_singleton.mp hp]) (LamX.lamS_by (sc := defScope sLTextsRight) (by decide +kernel)) rfl (fun _ _ _ _ _ => rfl) (fun A outer s' H' E fn cc hr hgu => (pe_call GFindUniversalX hr (by rfl) T.gFindUniversal T.fFindUniversal.kp T.bFindUniversal .nil (passes_call (takes_of rfl rfl rfl rfl) (fun _ _ _ _ h => h)) (pa_cons (pv 0) (pa_cons pe_int pa_nil))))) pa_nil)))
      (pss_cons (ps_expr (pe_bm PySem.F.plainAttrs_list PySem.F.slot_list_append PySem.F.type_list_append mt_append (pv 2) (pa_cons (Mo.pe_lamV (T := [(T.pdLTextsRight, _)]) TB rfl (List.mem_singleton.mpr rfl) (fun p hp _ => by rw [List.mem_singleton.mp hp]) (LamX.lamS_by (sc := defScope sLTextsRight) (by decide +kernel)) rfl (fun _ _ _ _ _ => rfl) (fun A outer s' H' E fn cc hr hgu => (pe_call GFindUnavoidableX hr (by rfl) T.gFindUnavoidable T.fFindUnavoidable.kp T.bFindUnavoidable .nil (passes_call (takes_of rfl rfl rfl rfl) (fun _ _ _ _ h => h)) (pa_cons pe_str (pa_cons (pv 0) pa_nil))))) pa_nil)))
      (pss_cons (ps_if (pt_cmpR (Mo.op_neNil hr.units) (Mo.pe_lcW (own := [("_law_call", 3)]) (g := gName 3) rfl scLTextsRight.nd (pi_list (pv 2)) (blkOk_by (N := ["_law_strange", "_law_odd", "_law_calls", "_law_call"]) (sc := defScope sLTextsRight) (by decide +kernel)) (fun _ _ _ _ _ => pg_name (i := 3) scLTextsRight.nd rfl (Or.inl rfl)) (fun _ _ _ _ _ _ _ B => pts_one (pt_cmpR (Mo.op_neFlK (K := K) rfl hr.units) (Mo.pe_callW B T.fLRaised T.bLRaised scLRaised (by rfl) T.gLRaised rfl (Or.inl rfl) (givesLRaised T hbm hgd) hr (pv 3)) (pe_tup (pa_cons pe_str (pa_cons (pe_callB (Mo.cr_reprX hbm hgd hr.units) (by rfl) T.m_repr (by decide +kernel) (pa_cons (pv 0) pa_nil)) pa_nil))) (nomark _))) (fun _ _ _ _ _ _ _ B => (pv 3))) (pe_lst pa_nil) (nomark _)) (pss_one (ps_ret pe_bl)) pss_nil)
      (pss_one (ps_ret (pe_cmpR (Mo.op_eqFl hr.units) (Mo.pe_callL T.fLRaised T.bLRaised scLRaised (by rfl) T.gLRaised rfl (Or.inl rfl) (givesLRaised T hbm hgd) hr (Mo.pe_lamV (T := [(T.pdLTextsRight, _)]) TB rfl (List.mem_singleton.mpr rfl) (fun p hp _ => by rw [List.mem_singleton.mp hp]) (LamX.lamS_by (sc := defScope sLTextsRight) (by decide +kernel)) rfl (fun _ _ _ _ _ => rfl) (fun A outer s' H' E fn cc hr hgu => (pe_call GFindUnavoidableX hr (by rfl) T.gFindUnavoidable T.fFindUnavoidable.kp T.bFindUnavoidable .nil (passes_call (takes_of rfl rfl rfl rfl) (fun _ _ _ _ h => h)) (pa_cons (pv 1) (pa_cons (pv 0) pa_nil)))))) (pe_tup (pa_cons pe_str (pa_cons (pe_callB (Mo.cr_reprX hbm hgd hr.units) (by rfl) T.m_repr (by decide +kernel) (pa_cons (pv 1) pa_nil)) pa_nil))) (nomark _))))))))))), ?_⟩
    have bx : ex.bulk ≤ 1000000 := Nat.le_trans nx.fit.bulk (by decide)
    have by_ : eo.bulk ≤ 1000000 := Nat.le_trans ny.fit.bulk (by decide)
    obtain ⟨z1, z2, z3⟩ := nx.shw
    obtain ⟨g1, g2, g3⟩ := ny.shw
    refine ⟨tb, fun f1 G1 nf1 ex1 tg1 la1 => ⟨by show 1 ≤ sizeLine; decide, fun L nL => ?_⟩⟩
    have P1 := LamsAt.one (H0 := H) ex1 tg1 la1 nL
    have nL0 : NoT H L := noT_of ex1 nL
    generalize upd G1 L (.lst [V.ref f1]) = J1 at *
    refine ⟨_, rfl, .inl ⟨rfl, _, SqL.of P1.hL⟩, P1.tb, fun f2 G2 nf2 ex2 tg2 la2 => ⟨L, _, _, rfl, rfl, P1.list ex2, by show 1 < sizeLine; decide, ?_⟩⟩
    have P2 := P1.push nL0 ex2 tg2 la2
    generalize upd G2 L _ = J2 at *
    refine ⟨_, rfl, .inl ⟨rfl, _, SqL.of P2.hL⟩, P2.tb, fun f3 G3 nf3 ex3 tg3 la3 => ⟨L, _, _, rfl, rfl, P2.list ex3, by show 2 < sizeLine; decide, ?_⟩⟩
    have P3 := P2.push nL0 ex3 tg3 la3
    generalize upd G3 L _ = J3 at *
    refine ⟨_, rfl, .inl ⟨rfl, _, SqL.of P3.hL⟩, P3.tb, fun f4 G4 nf4 ex4 tg4 la4 => ⟨L, _, _, rfl, rfl, P3.list ex4, by show 3 < sizeLine; decide, ?_⟩⟩
    have P4 := P3.push nL0 ex4 tg4 la4
    generalize upd G4 L _ = J4 at *
    refine ⟨_, rfl, .inl ⟨rfl, _, SqL.of P4.hL⟩, P4.tb, fun f5 G5 nf5 ex5 tg5 la5 => ⟨L, _, _, rfl, rfl, P4.list ex5, by show 4 < sizeLine; decide, ?_⟩⟩
    have P5 := P4.push nL0 ex5 tg5 la5
    generalize upd G5 L _ = J5 at *
    refine ⟨_, rfl, .inl ⟨rfl, _, SqL.of P5.hL⟩, P5.tb, fun f6 G6 nf6 ex6 tg6 la6 => ⟨L, _, _, rfl, rfl, P5.list ex6, by show 5 < sizeLine; decide, ?_⟩⟩
    have P6 := P5.push nL0 ex6 tg6 la6
    generalize upd G6 L _ = J6 at *
    obtain ⟨fs, good, PS⟩ := P6.with (R := fun q => ∀ G, LamX.ExtN H G → ∀ (E : XK) (Q1 : VK), OutF "value" T.cInvalidText G E x → q.2 E [some x, some o, some (.ref L), none] G Q1) (by
      intro q hq G ex' E Q1 out
      have bad : BadT T.cInvalidText G E x := ⟨N, ex, dx.tabs ex', bx, nx.no, out⟩
      simp only [List.mem_append, List.mem_singleton] at hq
      rcases hq with ((((rfl | rfl) | rfl) | rfl) | rfl) | rfl
      · exact ⟨_, rfl, x, rfl, .inl bad⟩
      · exact ⟨_, rfl, x, rfl, .inl bad⟩
      · exact ⟨_, rfl, x, rfl, .inl bad⟩
      · exact ⟨_, rfl, x, _, rfl, .inl bad⟩
      · exact ⟨_, rfl, x, _, rfl, .inl bad⟩
      · exact ⟨_, rfl, _, x, rfl, .inr ⟨good_aa, .inl bad⟩⟩)
    refine ⟨_, rfl, L, rfl, ⟨_, SqL.of PS.hL⟩, fun D nD => lc_list (K := K) (a := L) (xs := fs.map fun p => V.ref p.1) (fun _ H' => Same J6 H' ∧ H' D = some (.lst [])) ⟨same_new nD, upd_same⟩ (fun _ H' _ z => SqL.of (z.1 _ _ PS.hL)) ?_ ?_⟩
    · rintro j v H9 hx ⟨s9, hD9⟩
      rw [List.getElem?_map] at hx
      obtain ⟨qq, hq1, rfl⟩ := Option.map_eq_some_iff.mp hx
      have hq := List.mem_of_getElem? hq1
      have PS9 := PS.same s9
      refine ⟨rfl, _, rfl, qq.1, qq.2, rfl, PS9.el qq hq, .inr (.inr (.inl ⟨N, x, ex, dx.tabs PS9.ext, nx.shw, fun E Q1 out => good qq hq H9 PS9.ext E Q1 out, fun H10 p10 s10 h10 => ?_⟩))⟩
      refine ⟨_, rfl, N, x, ex, rfl, (dx.tabs PS9.ext).same s10, z1, z2, z3, by show 2 ≤ sizeLine; decide, fun p11 np11 => ?_⟩
      have s11 := same_new (o := .tup [.str (Str.ofString "text"), .str ex.shown]) np11
      refine neFl_self (s11 _ _ h10) upd_same rfl ⟨false, rfl, iteF ?_⟩
      exact ⟨(s9.trans s10).trans s11, s11 _ _ (s10 _ _ hD9)⟩
    · rintro H9 ⟨s9, hD9⟩
      refine ⟨Nat.zero_le _, fun z nz => ⟨D, z, [], rfl, rfl, SqL.of (same_new nz _ _ hD9), SqL.of upd_same, false, rfl, iteF ?_⟩⟩
      have PS10 := PS.same (s9.trans (same_new (o := .lst []) nz))
      generalize upd H9 z (.lst []) = H10 at *
      refine ⟨PS10.tb, fun f7 G7 nf7 ex7 tg7 la7 => ⟨f7, _, rfl, la7, .inr (.inl ⟨M, o, eo, dy.tabs (PS10.ext.trans ex7), ny.shw, fun E Q1 out => ?_, fun H' p s' h' => ?_⟩)⟩⟩
      · exact ⟨_, rfl, _, rfl, o, x, rfl, .inl ⟨M, eo, dy.tabs (PS10.ext.trans ex7), by_, ny.no, out⟩⟩
      · refine ⟨_, rfl, M, o, eo, rfl, (dy.tabs (PS10.ext.trans ex7)).same s', g1, g2, g3, by show 2 ≤ sizeLine; decide, fun p11 np11 => ?_⟩
        have s11 := same_new (o := .tup [.str (Str.ofString "pattern"), .str eo.shown]) np11
        exact eqFl_self (s11 _ _ h') upd_same rfl (q _ ((PS10.ext.trans ex7).trans (extN_same (s'.trans s11))))
end
end Mo

namespace Mo
open PySem PySem.Spec PyProof.Rows L2
/-! ### a word many times -/
theorem rep_at {W : List Int} : ∀ {n i : Nat}, i < n * W.length → ((List.replicate n W).flatten)[i]? = W[i % W.length]?
  | 0, i, h => by omega
  | n + 1, i, h => by
    rw [List.replicate_succ, List.flatten_cons]
    by_cases c : i < W.length
    · rw [List.getElem?_append_left c, Nat.mod_eq_of_lt c]
    · rw [List.getElem?_append_right (by omega), rep_at (n := n) (by rw [Nat.succ_mul] at h; omega), Nat.mod_eq_sub_mod (show W.length ≤ i by omega)]
theorem rep_len (n : Nat) (W : List Int) : ((List.replicate n W).flatten).length = n * W.length := by
  rw [List.length_flatten, List.map_replicate, List.sum_replicate_nat]
theorem rep_map (n : Nat) (W : List Int) : (List.replicate n (W.map V.int)).flatten = ((List.replicate n W).flatten).map V.int := by
  rw [List.map_flatten, List.map_replicate]
def lgT (W : List Int) (m : Nat) : List Int := ((List.replicate 450 W).flatten).take m
theorem lgT_len {W : List Int} {m : Nat} (h : 1 ≤ W.length) (hm : m ≤ 450) : (lgT W m).length = m := by
  unfold lgT
  rw [List.length_take, rep_len]
  have : 450 * 1 ≤ 450 * W.length := Nat.mul_le_mul_left _ h
  omega
theorem lgT_at {W : List Int} {m i : Nat} (h : 1 ≤ W.length) (hm : m ≤ 450) (hi : i < m) : (lgT W m)[i]? = W[i % W.length]? := by
  unfold lgT
  rw [List.getElem?_take_of_lt hi, rep_at]
  have : 450 * 1 ≤ 450 * W.length := Nat.mul_le_mul_left _ h
  omega
theorem lgT_take {W : List Int} {m k : Nat} (h : k ≤ m) : (lgT W m).take k = lgT W k := by
  unfold lgT
  rw [List.take_take, Nat.min_eq_left h]
theorem lgT_ltr {W : List Int} {m : Nat} (h : ∀ y ∈ W, 0 ≤ y ∧ y < 3) : ∀ y ∈ lgT W m, 0 ≤ y ∧ y ≤ 999999 := fun y hy => by
  unfold lgT at hy
  obtain ⟨w, hw, hy2⟩ := List.mem_flatten.mp (List.mem_of_mem_take hy)
  rw [(List.mem_replicate.mp hw).2] at hy2
  have := h y hy2
  omega
theorem lgT_brd {W : List Int} (h : 1 ≤ W.length) (h5 : W.length ≤ 5) : Brd (lgT W 400) 400 (400 - W.length) := by
  refine ⟨by omega, fun i hi => ?_⟩
  rw [show 400 - (400 - W.length) + i = i + W.length by omega, lgT_at h (by decide) (by omega), lgT_at h (by decide) (by omega), Nat.add_mod_right]
theorem in_nums {x : Nat} {xs : List Nat} (h : x ∈ xs) : inV (V.int (x : Int)) ((nums xs).map V.int) = true := by
  unfold inV
  rw [List.any_eq_true]
  refine ⟨V.int (x : Int), List.mem_map.mpr ⟨(x : Int), List.mem_map.mpr ⟨x, h, rfl⟩, rfl⟩, ?_⟩
  simp [eqV]
theorem LongT.ext {H H1 : Hp} {x : V} {p : Addr} {t : List Int} (h : LongT H x p t) (s : LamX.ExtN H H1) : LongT H1 x p t := ⟨h.eq, s _ _ h.at_ (fun _ z => by cases z), h.lo, h.hi, h.ltr⟩
theorem kit1_self {K : PySem.W.Frag} {C : Addr} : PySem.W.kitOne K (.ref C) (.ref C) = some true := by
  show (if (Value.ref C == Value.ref C) = true then some true else _) = some true
  rw [if_pos (beq_self_eq_true _)]
theorem st_a : Str.ofString "a" = tx [97] := by decide +kernel
theorem src_put {H : Hp} {d c D : Addr} {t : Nat} {o : HO} (h : Src H d c t) (n1 : d ≠ D) (n2 : c ≠ D) : Src (upd H D o) d c t := by
  obtain ⟨ns, r, h1, h2, h3⟩ := h
  exact ⟨ns, r, by rw [upd_ne n1]; exact h1, by rw [upd_ne n2]; exact h2, h3⟩
section
variable {P : Program} {w : World} {K : PySem.W.Frag} {mg : Str → Option Value} {base : Heap}
def lamQ : Str := (envOfC "law" (defScope sLaw) 0 0 .none).qual ++ "<lambda>"
def tb2 (T : Txt K mg) : List (Addr × Str) := [(T.pdLaw, lamQ), (T.pdLTextsRight, lamLTextsRight)]
def spLaw (K : PySem.W.Frag) (pd pe : Addr) : Sp := fun vs H Q _ => ∃ (a : Addr) (ns : List Int), vs = [.ref a] ∧ SqL K H a (ns.map V.int) ∧ ns.length ≤ 63 ∧ H pd = some (.tbl #[]) ∧ H pe = some (.tbl #[]) ∧ ∀ H', Q (.bl true) H'
theorem tb2_nil {T : Txt K mg} {H : Hp} (h1 : H T.pdLaw = some (.tbl #[])) (h2 : H T.pdLTextsRight = some (.tbl #[])) : LamX.Tabs (tb2 T) H := fun p hp => by
  rcases List.mem_cons.mp hp with rfl | hp2
  · exact .nil h1
  · cases List.mem_singleton.mp hp2
    exact .nil h2
theorem ok_law {k : Nat} (T : Txt K mg) (TB : LamX.TabB base mg T.cdLaw T.pdLaw) (TBT : LamX.TabB base mg T.cdLTextsRight T.pdLTextsRight) (hbm : ∃ mm, base.Ns sysModules mm) : FnG P w K mg base CX0 (k + 10) T.aLaw T.dLaw ["_law_script"] (spLaw K T.pdLaw T.pdLTextsRight) := by
  have GLSource : FnOk P w K mg base CX0 (k + 9) T.aLSource T.dLSource ["_law_script"] (spSource K) := ok_source T
  have GLDraw : FnOk P w K mg base CX0 (k + 9) T.aLDraw T.dLDraw ["_law_source_here", "_law_size"] spSDraw := ok_draw T
  have GLPick : FnOk P w K mg base CX0 (k + 9) T.aLPick T.dLPick ["_law_source_here", "_law_items"] (spSPick K) := ok_pick T
  have GLNoText : FnOk P w K mg base CX0 (k + 9) T.aLNoText T.dLNoText ["_law_source_here"] spNoT := ok_noT T
  have GLBoundsRight : FnG P w K mg base CX0 (k + 9) T.aLBoundsRight T.dLBoundsRight [] spBR := ok_br T hbm
  have GLTextsRight : FnG P w K mg base CX0 (k + 9) T.aLTextsRight T.dLTextsRight ["_law_strange", "_law_odd"] (spTR T.pdLTextsRight) := ok_tr T TBT hbm
  have GRank : FnOk P w K mg base CX0 (k + 9) T.aRank T.dRank ["text"] spRank := ok_rank T
  have GBorders : FnOk P w K mg base CX0 (k + 9) T.aBorders T.dBorders ["text"] spBord := ok_bord T
  have GBordersX : FnOk P w K mg base (L2.CX P w) (k + 7) T.aBorders T.dBorders ["text"] (spTL T.cInvalidText T.cTooLarge) := ok_bordX T
  have GRankX : FnOk P w K mg base (L2.CX P w) (k + 7) T.aRank T.dRank ["text"] (spTL T.cInvalidText T.cTooLarge) := ok_rankX T
  have GBestBlockX : FnOk P w K mg base (L2.CX P w) (k + 7) T.aBestBlock T.dBestBlock ["text"] (spTL T.cInvalidText T.cTooLarge) := ok_bestX T
  have GRankValuesX : FnOk P w K mg base (L2.CX P w) (k + 7) T.aRankValues T.dRankValues ["text", "count"] (spTC T.cInvalidText T.cInvalidCount T.cTooLarge) := ok_rvX T
  have GFindUniversalX : FnOk P w K mg base (L2.CX P w) (k + 7) T.aFindUniversal T.dFindUniversal ["text", "count"] (spTC T.cInvalidText T.cInvalidCount T.cTooLarge) := ok_fuX T
  have GFindUnavoidableX : FnOk P w K mg base (L2.CX P w) (k + 7) T.aFindUnavoidable T.dFindUnavoidable ["pattern", "text"] (spPT T.cInvalidPattern T.cInvalidText T.cTooLarge) := ok_unavX T
  have GLengthBoundX : FnOk P w K mg base (L2.CX P w) (k + 7) T.aLengthBound T.dLengthBound ["count", "letters"] (spLB T.cInvalidCount) := ok_lenX T
  refine okT T.fLaw T.kdLaw scLaw (fun vs H Q E h => ?_) (fun A outer s H vs Q E hr hgd h => ?_)
  · obtain ⟨a, ns, rfl, _⟩ := h
    rfl
  · obtain ⟨a, ns, rfl, hs, hn, htb, htb2, q⟩ := h
    refine ⟨_, (pss_cons (ps_set (i := 1) scLaw.nd rfl (Or.inr rfl) (pe_call GLSource hr (by rfl) T.gLSource T.fLSource.kp T.bLSource .nil pass0 (pa_cons (pv 0) pa_nil)))
      (pss_cons (ps_set (i := 2) scLaw.nd rfl (Or.inr rfl) (pe_call GLPick hr (by rfl) T.gLPick T.fLPick.kp T.bLPick .nil pass0 (pa_cons (pv 1) (pa_cons (pe_lst (pa_cons pe_int (pa_cons (pe_un un_neg pe_int) (pa_cons pe_int (pa_cons pe_int (pa_cons pe_bl (pa_cons pe_str (pa_cons pe_non (pa_cons (pe_tup (pa_cons pe_int pa_nil)) (pa_cons (pe_op op_pow pe_int pe_int) pa_nil)))))))))) pa_nil))))
      (pss_cons (ps_if (PW.pt (pw_or (pt_not (pt_val (Mo.pe_callG0 GLBoundsRight hr hgd (by rfl) T.gLBoundsRight T.fLBoundsRight.kp T.bLBoundsRight .nil pass0))) (pw_or1 (pt_cmpR (Mo.op_neFl hr.units) (Mo.pe_callL T.fLRaised T.bLRaised scLRaised (by rfl) T.gLRaised rfl (Or.inl rfl) (givesLRaised T hbm hgd) hr (Mo.pe_lamV (T := [(T.pdLaw, _), (T.pdLTextsRight, lamLTextsRight)]) TB rfl List.mem_cons_self (fun p hp e => Mo.tabs2_hu T.pqLTextsRight hp e) (LamX.lamS_by (sc := defScope sLaw) (by decide +kernel)) rfl (fun _ _ _ _ _ => rfl) (fun A outer s' H' E fn cc hr hgu => (pe_call GLengthBoundX hr (by rfl) T.gLengthBound T.fLengthBound.kp T.bLengthBound .nil (passes_call (takes_of rfl rfl rfl rfl) (fun _ _ _ _ h => h)) (pa_cons (pv 2) (pa_cons pe_int pa_nil)))))) (pe_tup (pa_cons pe_str (pa_cons (pe_callB (Mo.cr_reprX hbm hgd hr.units) (by rfl) T.m_repr (by decide +kernel) (pa_cons (pv 2) pa_nil)) pa_nil))) (nomark _))))) (pss_one (ps_ret pe_bl)) pss_nil)
      (pss_cons (ps_if (pt_cmpR (Mo.op_neFl hr.units) (Mo.pe_callL T.fLRaised T.bLRaised scLRaised (by rfl) T.gLRaised rfl (Or.inl rfl) (givesLRaised T hbm hgd) hr (Mo.pe_lamV (T := [(T.pdLaw, _), (T.pdLTextsRight, lamLTextsRight)]) TB rfl List.mem_cons_self (fun p hp e => Mo.tabs2_hu T.pqLTextsRight hp e) (LamX.lamS_by (sc := defScope sLaw) (by decide +kernel)) rfl (fun _ _ _ _ _ => rfl) (fun A outer s' H' E fn cc hr hgu => (pe_call GLengthBoundX hr (by rfl) T.gLengthBound T.fLengthBound.kp T.bLengthBound .nil (passes_call (takes_of rfl rfl rfl rfl) (fun _ _ _ _ h => h)) (pa_cons pe_int (pa_cons (pv 2) pa_nil)))))) (pe_tup (pa_cons pe_str (pa_cons (pe_callB (Mo.cr_reprX hbm hgd hr.units) (by rfl) T.m_repr (by decide +kernel) (pa_cons (pv 2) pa_nil)) pa_nil))) (nomark _)) (pss_one (ps_ret pe_bl)) pss_nil)
      (pss_cons (ps_set (i := 3) scLaw.nd rfl (Or.inl rfl) (pe_callTy call_tuple_of (by rfl) T.m_tuple (by decide +kernel) (pa_cons (pe_lc (own := [("_law_k", 4)]) (g := gName 4) (tt := tYes) rfl scLaw.nd (pi_range1 (by rfl) T.m_range (pa_cons (pe_op op_add pe_int (pe_call GLDraw hr (by rfl) T.gLDraw T.fLDraw.kp T.bLDraw .nil pass0 (pa_cons (pv 1) (pa_cons pe_int pa_nil)))) pa_nil)) (blkOk_by (N := ["_law_script", "_law_source_here", "_law_wrong", "_law_word", "_law_k", "_law_long", "_law_calls", "_law_call", "_law_odd", "_law_count"]) (sc := defScope sLaw) (by decide +kernel)) (fun _ _ _ _ _ => pg_name (i := 4) scLaw.nd rfl (Or.inl rfl)) (fun _ _ _ _ _ => pts_nil) (fun _ _ _ _ _ => (pe_call GLDraw hr (by rfl) T.gLDraw T.fLDraw.kp T.bLDraw .nil pass0 (pa_cons (pv 1) (pa_cons pe_int pa_nil))))) pa_nil)))
      (pss_cons (ps_set (i := 5) scLaw.nd rfl (Or.inr rfl) (pe_slice sl_tupA (pe_op Mo.op_repN (pv 3) pe_int) po_none (po_some (pe_op op_add pe_int (pe_call GLDraw hr (by rfl) T.gLDraw T.fLDraw.kp T.bLDraw .nil pass0 (pa_cons (pv 1) (pa_cons pe_int pa_nil)))))))
      (pss_cons (ps_set (i := 6) scLaw.nd rfl (Or.inl rfl) (pe_lst (pa_cons (Mo.pe_lamV (T := [(T.pdLaw, _), (T.pdLTextsRight, lamLTextsRight)]) TB rfl List.mem_cons_self (fun p hp e => Mo.tabs2_hu T.pqLTextsRight hp e) (LamX.lamS_by (sc := defScope sLaw) (by decide +kernel)) rfl (fun _ _ _ _ _ => rfl) (fun A outer s' H' E fn cc hr hgu => (pe_call GBordersX hr (by rfl) T.gBorders T.fBorders.kp T.bBorders .nil (passes_call (takes_of rfl rfl rfl rfl) (fun _ _ _ _ h => h)) (pa_cons (pv 5) pa_nil)))) pa_nil)))
      (pss_cons (ps_expr (pe_bm PySem.F.plainAttrs_list PySem.F.slot_list_append PySem.F.type_list_append mt_append (pv 6) (pa_cons (Mo.pe_lamV (T := [(T.pdLaw, _), (T.pdLTextsRight, lamLTextsRight)]) TB rfl List.mem_cons_self (fun p hp e => Mo.tabs2_hu T.pqLTextsRight hp e) (LamX.lamS_by (sc := defScope sLaw) (by decide +kernel)) rfl (fun _ _ _ _ _ => rfl) (fun A outer s' H' E fn cc hr hgu => (pe_call GRankX hr (by rfl) T.gRank T.fRank.kp T.bRank .nil (passes_call (takes_of rfl rfl rfl rfl) (fun _ _ _ _ h => h)) (pa_cons (pv 5) pa_nil)))) pa_nil)))
      (pss_cons (ps_expr (pe_bm PySem.F.plainAttrs_list PySem.F.slot_list_append PySem.F.type_list_append mt_append (pv 6) (pa_cons (Mo.pe_lamV (T := [(T.pdLaw, _), (T.pdLTextsRight, lamLTextsRight)]) TB rfl List.mem_cons_self (fun p hp e => Mo.tabs2_hu T.pqLTextsRight hp e) (LamX.lamS_by (sc := defScope sLaw) (by decide +kernel)) rfl (fun _ _ _ _ _ => rfl) (fun A outer s' H' E fn cc hr hgu => (pe_call GBestBlockX hr (by rfl) T.gBestBlock T.fBestBlock.kp T.bBestBlock .nil (passes_call (takes_of rfl rfl rfl rfl) (fun _ _ _ _ h => h)) (pa_cons (pv 5) pa_nil)))) pa_nil)))
      (pss_cons (ps_expr (pe_bm PySem.F.plainAttrs_list PySem.F.slot_list_append PySem.F.type_list_append mt_append (pv 6) (pa_cons (Mo.pe_lamV (T := [(T.pdLaw, _), (T.pdLTextsRight, lamLTextsRight)]) TB rfl List.mem_cons_self (fun p hp e => Mo.tabs2_hu T.pqLTextsRight hp e) (LamX.lamS_by (sc := defScope sLaw) (by decide +kernel)) rfl (fun _ _ _ _ _ => rfl) (fun A outer s' H' E fn cc hr hgu => (pe_call GRankValuesX hr (by rfl) T.gRankValues T.fRankValues.kp T.bRankValues .nil (passes_call (takes_of rfl rfl rfl rfl) (fun _ _ _ _ h => h)) (pa_cons (pv 5) (pa_cons pe_int pa_nil))))) pa_nil)))
      (pss_cons (ps_expr (pe_bm PySem.F.plainAttrs_list PySem.F.slot_list_append PySem.F.type_list_append mt_append (pv 6) (pa_cons (Mo.pe_lamV (T := [(T.pdLaw, _), (T.pdLTextsRight, lamLTextsRight)]) TB rfl List.mem_cons_self (fun p hp e => Mo.tabs2_hu T.pqLTextsRight hp e) (LamX.lamS_by (sc := defScope sLaw) (by decide +kernel)) rfl (fun _ _ _ _ _ => rfl) (fun A outer s' H' E fn cc hr hgu => (pe_call GFindUniversalX hr (by rfl) T.gFindUniversal T.fFindUniversal.kp T.bFindUniversal .nil (passes_call (takes_of rfl rfl rfl rfl) (fun _ _ _ _ h => h)) (pa_cons (pv 5) (pa_cons pe_int pa_nil))))) pa_nil)))
      (pss_cons (ps_expr (pe_bm PySem.F.plainAttrs_list PySem.F.slot_list_append PySem.F.type_list_append mt_append (pv 6) (pa_cons (Mo.pe_lamV (T := [(T.pdLaw, _), (T.pdLTextsRight, lamLTextsRight)]) TB rfl List.mem_cons_self (fun p hp e => Mo.tabs2_hu T.pqLTextsRight hp e) (LamX.lamS_by (sc := defScope sLaw) (by decide +kernel)) rfl (fun _ _ _ _ _ => rfl) (fun A outer s' H' E fn cc hr hgu => (pe_call GFindUnavoidableX hr (by rfl) T.gFindUnavoidable T.fFindUnavoidable.kp T.bFindUnavoidable .nil (passes_call (takes_of rfl rfl rfl rfl) (fun _ _ _ _ h => h)) (pa_cons pe_str (pa_cons (pv 5) pa_nil))))) pa_nil)))
      (pss_cons (ps_if (pt_cmpR (Mo.op_neNil hr.units) (Mo.pe_lcW (own := [("_law_call", 7)]) (g := gName 7) rfl scLaw.nd (pi_list (pv 6)) (blkOk_by (N := ["_law_script", "_law_source_here", "_law_wrong", "_law_word", "_law_k", "_law_long", "_law_calls", "_law_call", "_law_odd", "_law_count"]) (sc := defScope sLaw) (by decide +kernel)) (fun _ _ _ _ _ => pg_name (i := 7) scLaw.nd rfl (Or.inl rfl)) (fun _ _ _ _ _ _ _ B => pts_one (pt_cmpR (Mo.op_neFlK (K := K) rfl hr.units) (Mo.pe_callW B T.fLRaised T.bLRaised scLRaised (by rfl) T.gLRaised rfl (Or.inl rfl) (givesLRaised T hbm hgd) hr (pv 7)) (pe_tup (pa_cons pe_str (pa_cons pe_str pa_nil))) (nomark _))) (fun _ _ _ _ _ _ _ B => (pv 7))) (pe_lst pa_nil) (nomark _)) (pss_one (ps_ret pe_bl)) pss_nil)
      (pss_cons (ps_set (i := 8) scLaw.nd rfl (Or.inr rfl) (pe_call GLPick hr (by rfl) T.gLPick T.fLPick.kp T.bLPick .nil pass0 (pa_cons (pv 1) (pa_cons (pe_lst (pa_cons pe_str (pa_cons pe_str (pa_cons pe_int (pa_cons pe_non (pa_cons pe_str (pa_cons (pe_op Mo.op_mulS pe_str pe_int) pa_nil))))))) pa_nil))))
      (pss_cons (ps_if (pt_cmpR (Mo.op_neFl hr.units) (Mo.pe_callL T.fLRaised T.bLRaised scLRaised (by rfl) T.gLRaised rfl (Or.inl rfl) (givesLRaised T hbm hgd) hr (Mo.pe_lamV (T := [(T.pdLaw, _), (T.pdLTextsRight, lamLTextsRight)]) TB rfl List.mem_cons_self (fun p hp e => Mo.tabs2_hu T.pqLTextsRight hp e) (LamX.lamS_by (sc := defScope sLaw) (by decide +kernel)) rfl (fun _ _ _ _ _ => rfl) (fun A outer s' H' E fn cc hr hgu => (pe_call GFindUnavoidableX hr (by rfl) T.gFindUnavoidable T.fFindUnavoidable.kp T.bFindUnavoidable .nil (passes_call (takes_of rfl rfl rfl rfl) (fun _ _ _ _ h => h)) (pa_cons (pv 8) (pa_cons (pv 5) pa_nil)))))) (pe_tup (pa_cons pe_str (pa_cons (pe_callB (Mo.cr_reprX hbm hgd hr.units) (by rfl) T.m_repr (by decide +kernel) (pa_cons (pv 8) pa_nil)) pa_nil))) (nomark _)) (pss_one (ps_ret pe_bl)) pss_nil)
      (pss_cons (ps_set (i := 9) scLaw.nd rfl (Or.inr rfl) (pe_call GLPick hr (by rfl) T.gLPick T.fLPick.kp T.bLPick .nil pass0 (pa_cons (pv 1) (pa_cons (pe_lst (pa_cons pe_int (pa_cons pe_int (pa_cons (pe_un un_neg pe_int) (pa_cons pe_bl (pa_cons pe_non (pa_cons pe_str pa_nil))))))) pa_nil))))
      (pss_cons (ps_if (pt_cmpR (Mo.op_neFl hr.units) (Mo.pe_callL T.fLRaised T.bLRaised scLRaised (by rfl) T.gLRaised rfl (Or.inl rfl) (givesLRaised T hbm hgd) hr (Mo.pe_lamV (T := [(T.pdLaw, _), (T.pdLTextsRight, lamLTextsRight)]) TB rfl List.mem_cons_self (fun p hp e => Mo.tabs2_hu T.pqLTextsRight hp e) (LamX.lamS_by (sc := defScope sLaw) (by decide +kernel)) rfl (fun _ _ _ _ _ => rfl) (fun A outer s' H' E fn cc hr hgu => (pe_call GRankValuesX hr (by rfl) T.gRankValues T.fRankValues.kp T.bRankValues .nil (passes_call (takes_of rfl rfl rfl rfl) (fun _ _ _ _ h => h)) (pa_cons (pv 5) (pa_cons (pv 9) pa_nil)))))) (pe_tup (pa_cons pe_str (pa_cons (pe_callB (Mo.cr_reprX hbm hgd hr.units) (by rfl) T.m_repr (by decide +kernel) (pa_cons (pv 9) pa_nil)) pa_nil))) (nomark _)) (pss_one (ps_ret pe_bl)) pss_nil)
      (pss_cons (ps_if (pt_cmpR (Mo.op_neFl hr.units) (Mo.pe_callL T.fLRaised T.bLRaised scLRaised (by rfl) T.gLRaised rfl (Or.inl rfl) (givesLRaised T hbm hgd) hr (Mo.pe_lamV (T := [(T.pdLaw, _), (T.pdLTextsRight, lamLTextsRight)]) TB rfl List.mem_cons_self (fun p hp e => Mo.tabs2_hu T.pqLTextsRight hp e) (LamX.lamS_by (sc := defScope sLaw) (by decide +kernel)) rfl (fun _ _ _ _ _ => rfl) (fun A outer s' H' E fn cc hr hgu => (pe_call GFindUniversalX hr (by rfl) T.gFindUniversal T.fFindUniversal.kp T.bFindUniversal .nil (passes_call (takes_of rfl rfl rfl rfl) (fun _ _ _ _ h => h)) (pa_cons (pv 5) (pa_cons (pv 9) pa_nil)))))) (pe_tup (pa_cons pe_str (pa_cons (pe_callB (Mo.cr_reprX hbm hgd hr.units) (by rfl) T.m_repr (by decide +kernel) (pa_cons (pv 9) pa_nil)) pa_nil))) (nomark _)) (pss_one (ps_ret pe_bl)) pss_nil)
      (pss_cons (ps_if (pt_not (pt_val (Mo.pe_callG GLTextsRight hr hgd (by rfl) T.gLTextsRight T.fLTextsRight.kp T.bLTextsRight .nil pass0 (pa_cons (pe_call GLNoText hr (by rfl) T.gLNoText T.fLNoText.kp T.bLNoText .nil pass0 (pa_cons (pv 1) pa_nil)) (pa_cons (pv 8) pa_nil))))) (pss_one (ps_ret pe_bl)) pss_nil)
      (pss_one (ps_ret (pe_and (pe_cmpR op_gt (pe_call GRank hr (by rfl) T.gRank T.fRank.kp T.bRank .nil pass0 (pa_cons (pe_slice sl_tupA (pv 5) po_none (po_some pe_int)) pa_nil)) pe_int (nomark _)) (pe_one (pe_cmpR op_in_seq (pe_op op_sub pe_int (pe_callB call_len_seq (by rfl) T.m_len PySem.boot_len (pa_cons (pv 3) pa_nil))) (pe_call GBorders hr (by rfl) T.gBorders T.fBorders.kp T.bBorders .nil pass0 (pa_cons (pe_slice sl_tupA (pv 5) po_none (po_some pe_int)) pa_nil)) rfl)))))))))))))))))))))))), ?_⟩
    refine ⟨_, rfl, a, ns, rfl, hs, hn, fun H0 d c s0 nd src0 => ?_⟩
    have tb0 : LamX.Tabs (tb2 T) H0 := tb2_nil (s0 _ _ htb) (s0 _ _ htb2)
    have hd0 : H0 d ≠ none := by
      obtain ⟨_, _, h1, _⟩ := src0
      rw [h1]
      exact Option.some_ne_none _
    -- a wrong count
    refine ⟨_, rfl, ?_⟩
    refine (lit_lst (lit_cons lit_int (lit_cons (lit_negE lit_int) (lit_cons lit_int (lit_cons lit_int (lit_cons lit_bl (lit_cons lit_str (lit_cons lit_non (lit_cons (lit_tup (lit_cons lit_int lit_nil)) (lit_cons (lit_pow ⟨by decide, by decide, by decide⟩) lit_nil)))))))))).use fun H1 v1 s1 hv1 => ?_
    obtain ⟨l1, xs1, rfl, hl1, nl1, hx1⟩ := lst_dx hv1
    have hn1 : xs1.length = 9 := hx1.length
    refine ⟨d, c, l1, _, 0, rfl, src0.same s1, SqL.of hl1, fun z => nl1 (by rw [z]; exact hd0), by rw [hn1]; decide, by rw [hn1]; decide, by decide, fun H2 wr t2 but2 src2 ht2 hv2 => ?_⟩
    obtain ⟨ew, hew, dx2⟩ := hx1.mem hv2
    have dw2 : Dx (fun x => x = d) H2 wr ew := dx2.keep hd0 but2
    have okw : cntB 1 3 ew = false ∧ cntB 1 4 ew = false ∧ Fit 40 1000 5 ew := by
      simp only [List.mem_cons, List.not_mem_nil, or_false] at hew
      rcases hew with rfl | rfl | rfl | rfl | rfl | rfl | rfl | rfl | rfl
      all_goals exact ⟨by decide +kernel, by decide +kernel, ⟨by first | (simp [okD, okAll, okKv]; done) | (simp [okD, okAll, okKv]; decide +kernel), by decide +kernel, by decide +kernel⟩⟩
    obtain ⟨w3, w4, wf⟩ := okw
    obtain ⟨wz1, wz2, wz3⟩ := wf.repr (by decide) (by decide) (by decide) (by decide)
    have wb : ew.bulk ≤ 1000000 := Nat.le_trans wf.bulk (by decide)
    obtain ⟨kv1, hkv1⟩ := (src0.same s1).dict
    have tb2' : LamX.Tabs (tb2 T) H2 := Tabs.but (Tabs.same tb0 s1) hkv1 but2
    clear hv2 hew dx2 hx1 hl1 nl1 hv1 hkv1
    refine ⟨rfl, fun H3 s3 => ⟨true, rfl, iteF ?_⟩⟩
    have tb3 := Tabs.same tb2' s3
    have src3 := src2.same s3
    have dw3 := dw2.same s3
    clear tb2' src2 dw2 but2
    -- length_bound refused
    refine ⟨tb3, fun fn G nf ex tg la => ⟨fn, _, rfl, la, .inl ⟨(fun x => x = d), wr, ew, dw3.tabs ex, ⟨wz1, wz2, wz3⟩, fun E Q1 out => ?_, fun H' p s' h' => ?_⟩⟩⟩
    · exact ⟨_, rfl, wr, _, rfl, .inl ⟨_, ew, dw3.tabs ex, wb, w3, out⟩⟩
    refine ⟨_, rfl, (fun x => x = d), wr, ew, rfl, (dw3.tabs ex).same s', wz1, wz2, wz3, by show 2 ≤ sizeLine; decide, fun p2 np2 => ?_⟩
    have s2' := same_new (o := .tup [.str (Str.ofString "count"), .str ew.shown]) np2
    refine neFl_self (s2' _ _ h') upd_same rfl ⟨false, rfl, iteF ?_⟩
    have exN : LamX.ExtN H3 (upd H' p2 (.tup [.str (Str.ofString "count"), .str ew.shown])) := ex.trans (extN_same (s'.trans s2'))
    have tb4 := Tabs.same tg (s'.trans s2')
    generalize upd H' p2 (.tup [.str (Str.ofString "count"), .str ew.shown]) = H4 at *
    have src4 := src3.tabs exN
    have dw4 := dw3.tabs exN
    clear h' s2' np2 tg ex la nf s' exN
    refine ⟨tb4, fun fn G nf ex tg la => ⟨fn, _, rfl, la, .inl ⟨(fun x => x = d), wr, ew, dw4.tabs ex, ⟨wz1, wz2, wz3⟩, fun E Q1 out => ?_, fun H' p s' h' => ?_⟩⟩⟩
    · exact ⟨_, rfl, _, wr, rfl, .inr ⟨⟨2, rfl, by decide, by decide⟩, _, ew, dw4.tabs ex, wb, w4, out⟩⟩
    refine ⟨_, rfl, (fun x => x = d), wr, ew, rfl, (dw4.tabs ex).same s', wz1, wz2, wz3, by show 2 ≤ sizeLine; decide, fun p2 np2 => ?_⟩
    have s2' := same_new (o := .tup [.str (Str.ofString "count"), .str ew.shown]) np2
    refine neFl_self (s2' _ _ h') upd_same rfl ⟨false, rfl, iteF ?_⟩
    have exN : LamX.ExtN H4 (upd H' p2 (.tup [.str (Str.ofString "count"), .str ew.shown])) := ex.trans (extN_same (s'.trans s2'))
    have tb5 := Tabs.same tg (s'.trans s2')
    generalize upd H' p2 (.tup [.str (Str.ofString "count"), .str ew.shown]) = H5 at *
    have src5 := src4.tabs exN
    clear h' s2' np2 tg ex la nf s' exN
    -- the word
    refine ⟨_, rfl, d, c, 5, t2, rfl, src5, by decide, by decide, by omega, fun H6 x t6 but6 src6 ht6 x0 x1 => ⟨1, x, rfl, rfl, _, rfl, by omega, by omega, fun D nD => ?_⟩⟩
    obtain ⟨kv5, hkv5⟩ := src5.dict
    have tb6 := Tabs.but tb5 hkv5 but6
    have ncD : c ≠ D := by
      obtain ⟨_, _, _, h2, _⟩ := src6
      exact ne_of_none h2 nD
    have ndD : d ≠ D := by
      obtain ⟨_, _, h1, _⟩ := src6
      exact ne_of_none h1 nD
    refine lc_range (lo := 0) (fun j H' => ∃ (ws : List Int) (t' : Nat), H' D = some (.lst (ws.map V.int)) ∧ ws.length = j ∧ (∀ y ∈ ws, 0 ≤ y ∧ y < 3) ∧ Src H' d c t' ∧ t' ≤ t6 + j ∧ LamX.Tabs (tb2 T) H') ?_ ?_ ?_
    · exact ⟨[], t6, upd_same, rfl, (fun y hy => by cases hy), src6.same (same_new nD), by omega, Tabs.same tb6 (same_new nD)⟩
    · rintro j H7 hj ⟨ws, t7, hD7, hlen, hws, src7, ht7, tb7⟩
      have hj5 : j < 5 := by
        have : j < ((1 : Int) + x).toNat := hj
        omega
      refine ⟨rfl, _, rfl, d, c, 3, t7, rfl, src7, by decide, by decide, by omega, fun H8 y t8 but8 src8 ht8 y0 y1 => ?_⟩
      have hD8 := but8 _ _ ndD.symm hD7
      obtain ⟨kv7, hkv7⟩ := src7.dict
      refine ⟨_, hD8, fitsLt (by rw [List.length_map, hlen]; omega), ws ++ [y], t8, by rw [upd_same, List.map_append]; rfl, by rw [List.length_append, hlen]; rfl, fun z hz => ?_, src_put src8 ndD ncD, by omega, tabs_put (Tabs.but tb7 hkv7 but8) hD8⟩
      rcases List.mem_append.mp hz with hz | hz
      · exact hws z hz
      · cases List.mem_singleton.mp hz
        exact ⟨y0, y1⟩
    rintro H7 ⟨W, t7, hD7, hlen, hW, src7, ht7, tb7⟩
    have W1 : 1 ≤ W.length := by omega
    have W5 : W.length ≤ 5 := by omega
    refine ⟨D, _, rfl, .inl ⟨SqL.of hD7, fun pw npw => ?_⟩⟩
    have s8 := same_new (o := .tup (W.map V.int)) npw
    have hpw8 : upd H7 pw (.tup (W.map V.int)) pw = some (.tup (W.map V.int)) := upd_same
    have src8 := src7.same s8
    have tb8 := Tabs.same tb7 s8
    generalize upd H7 pw (.tup (W.map V.int)) = H8 at *
    clear hD7 src7 tb7 s8 npw hlen
    -- the long text
    refine ⟨_, rfl, pw, 450, _, rfl, rfl, SqT.of hpw8, fun z => ?_, by decide, by decide, by rw [List.length_map]; omega, fun r nr => ?_⟩
    · rw [List.map_eq_nil_iff] at z
      rw [z] at W1
      exact absurd W1 (by decide)
    have s9 := same_new (o := .tup (List.replicate 450 (W.map V.int)).flatten) nr
    have hr9 : upd H8 r (.tup (List.replicate 450 (W.map V.int)).flatten) r = some (.tup (((List.replicate 450 W).flatten).map V.int)) := by rw [upd_same, rep_map]
    have hpw9 := s9 _ _ hpw8
    have src9 := src8.same s9
    have tb9 := Tabs.same tb8 s9
    generalize upd H8 r (.tup (List.replicate 450 (W.map V.int)).flatten) = H9 at *
    refine ⟨_, rfl, d, c, 50, t7, rfl, src9, by decide, by decide, by omega, fun H10 y t10 but10 src10 ht10 y0 y1 => ⟨_, _, rfl, rfl, _, rfl, ?_⟩⟩
    obtain ⟨kv9, hkv9⟩ := src9.dict
    have tb10 := Tabs.but tb9 hkv9 but10
    have nd : ∀ {b : Addr} {zs : List V}, H9 b = some (.tup zs) → b ≠ d := fun h => ne_of h hkv9 (fun z => by cases z)
    have hr10 := but10 _ _ (nd hr9) hr9
    have hpw10 := but10 _ _ (nd hpw9) hpw9
    obtain ⟨y, rfl⟩ := nat_of y0
    refine slA_any hr10 fun pl H11 s11 hpl _ => ?_
    obtain ⟨m, hm⟩ : ∃ m : Nat, m = 401 + y := ⟨_, rfl⟩
    have hpl11 : H11 pl = some (.tup ((lgT W m).map V.int)) := by
      rw [hpl, show (401 : Int) + (y : Int) = (m : Int) by omega, cut_to, ← List.map_take]
      rfl
    have hm4 : m ≤ 450 := by omega
    have lt11 : LongT H11 (.ref pl) pl (lgT W m) := ⟨rfl, hpl11, by rw [lgT_len W1 hm4]; omega, by rw [lgT_len W1 hm4]; omega, lgT_ltr hW⟩
    have hpw11 := s11 _ _ hpw10
    have src11 := src10.same s11
    have tb11 := Tabs.same tb10 s11
    clear hpl hpl11 s11 hr10 hpw10 src10 tb10 but10 nd hr9 hpw9 src9 tb9 s9 hpw8 src8 tb8 hkv9
    -- six calls
    refine ⟨tb11, fun f1 G1 nf1 ex1 tg1 la1 => ⟨by show 1 ≤ sizeLine; decide, fun L nL => ?_⟩⟩
    have P1 := LamsAt.one (H0 := H11) ex1 tg1 la1 nL
    have nL0 : NoT H11 L := noT_of ex1 nL
    generalize upd G1 L (.lst [V.ref f1]) = J1 at *
    refine ⟨_, rfl, .inl ⟨rfl, _, SqL.of P1.hL⟩, P1.tb, fun f2 G2 nf2 ex2 tg2 la2 => ⟨L, _, _, rfl, rfl, P1.list ex2, by show 1 < sizeLine; decide, ?_⟩⟩
    have P2 := P1.push nL0 ex2 tg2 la2
    generalize upd G2 L _ = J2 at *
    refine ⟨_, rfl, .inl ⟨rfl, _, SqL.of P2.hL⟩, P2.tb, fun f3 G3 nf3 ex3 tg3 la3 => ⟨L, _, _, rfl, rfl, P2.list ex3, by show 2 < sizeLine; decide, ?_⟩⟩
    have P3 := P2.push nL0 ex3 tg3 la3
    generalize upd G3 L _ = J3 at *
    refine ⟨_, rfl, .inl ⟨rfl, _, SqL.of P3.hL⟩, P3.tb, fun f4 G4 nf4 ex4 tg4 la4 => ⟨L, _, _, rfl, rfl, P3.list ex4, by show 3 < sizeLine; decide, ?_⟩⟩
    have P4 := P3.push nL0 ex4 tg4 la4
    generalize upd G4 L _ = J4 at *
    refine ⟨_, rfl, .inl ⟨rfl, _, SqL.of P4.hL⟩, P4.tb, fun f5 G5 nf5 ex5 tg5 la5 => ⟨L, _, _, rfl, rfl, P4.list ex5, by show 4 < sizeLine; decide, ?_⟩⟩
    have P5 := P4.push nL0 ex5 tg5 la5
    generalize upd G5 L _ = J5 at *
    refine ⟨_, rfl, .inl ⟨rfl, _, SqL.of P5.hL⟩, P5.tb, fun f6 G6 nf6 ex6 tg6 la6 => ⟨L, _, _, rfl, rfl, P5.list ex6, by show 5 < sizeLine; decide, ?_⟩⟩
    have P6 := P5.push nL0 ex6 tg6 la6
    generalize upd G6 L _ = J6 at *
    obtain ⟨fs, good, PS⟩ := P6.with (R := fun q => ∀ G, LamX.ExtN H11 G → ∀ (E : XK) (Q1 : VK), OutF "limit" T.cTooLarge G E (.int 400) → q.2 E [some (.ref a), some (.ref d), some wr, some (.ref pw), none, some (.ref pl), some (.ref L), none, none, none] G Q1) (by
      intro q hq G ex' E Q1 out
      have lt := lt11.ext ex'
      simp only [List.mem_append, List.mem_singleton] at hq
      rcases hq with ((((rfl | rfl) | rfl) | rfl) | rfl) | rfl
      · exact ⟨_, rfl, _, rfl, .inr ⟨_, _, lt, out⟩⟩
      · exact ⟨_, rfl, _, rfl, .inr ⟨_, _, lt, out⟩⟩
      · exact ⟨_, rfl, _, rfl, .inr ⟨_, _, lt, out⟩⟩
      · exact ⟨_, rfl, _, _, rfl, .inr ⟨_, _, lt, .inr ⟨⟨1, rfl, by decide, by decide⟩, out⟩⟩⟩
      · exact ⟨_, rfl, _, _, rfl, .inr ⟨_, _, lt, .inr ⟨⟨12, rfl, by decide, by decide⟩, out⟩⟩⟩
      · exact ⟨_, rfl, _, _, rfl, .inr ⟨good_aa, .inr ⟨_, _, lt, out⟩⟩⟩)
    clear P1 P2 P3 P4 P5 P6 la1 la2 la3 la4 la5 la6 tg1 tg2 tg3 tg4 tg5 tg6
    refine ⟨_, rfl, L, rfl, ⟨_, SqL.of PS.hL⟩, fun D2 nD2 => lc_list (K := K) (a := L) (xs := fs.map fun p => V.ref p.1) (fun _ H' => Same J6 H' ∧ H' D2 = some (.lst [])) ⟨same_new nD2, upd_same⟩ (fun _ H' _ z => SqL.of (z.1 _ _ PS.hL)) ?_ ?_⟩
    · rintro j v H12 hx ⟨s12, hD12⟩
      rw [List.getElem?_map] at hx
      obtain ⟨qq, hq1, rfl⟩ := Option.map_eq_some_iff.mp hx
      have hq := List.mem_of_getElem? hq1
      have PS12 := PS.same s12
      refine ⟨rfl, _, rfl, qq.1, qq.2, rfl, PS12.el qq hq, .inr (.inr (.inr ⟨fun E Q1 out => good qq hq H12 PS12.ext E Q1 out, fun H10 p10 s10 h10 => ?_⟩))⟩
      refine ⟨by show 2 ≤ sizeLine; decide, fun p11 np11 => ?_⟩
      have s13 := same_new (o := .tup [.str (Str.ofString "large"), .str (Str.ofString "400")]) np11
      refine neFl_self (s13 _ _ h10) upd_same rfl ⟨false, rfl, iteF ?_⟩
      exact ⟨(s12.trans s10).trans s13, s13 _ _ (s10 _ _ hD12)⟩
    rintro H12 ⟨s12, hD12⟩
    refine ⟨Nat.zero_le _, fun z nz => ⟨D2, z, [], rfl, rfl, SqL.of (same_new nz _ _ hD12), SqL.of upd_same, false, rfl, iteF ?_⟩⟩
    have PS13 := PS.same (s12.trans (same_new (o := .lst []) nz))
    generalize upd H12 z (.lst []) = H13 at *
    have src13 := src11.tabs PS13.ext
    have lt13 := lt11.ext PS13.ext
    have hpw13 := PS13.ext _ _ hpw11 (fun _ z => by cases z)
    have tb13 := PS13.tb
    clear PS PS13 good src11 lt11 hpw11 tb11 hD12 s12
    -- no pattern
    refine ⟨_, rfl, [97], 41, congrArg V.str st_a, rfl, by decide, by decide, by show 6 ≤ sizeLine; decide, fun lo nlo => ?_⟩
    have s14 := same_new (o := .lst [V.str (Str.ofString "A"), V.str (Str.ofString "a b"), V.int 7, V.non, V.str (Str.ofString "abcdefghi"), V.str (tx (mulS [97] 41))]) nlo
    have nlod : lo ≠ d := by
      obtain ⟨kv, hkv⟩ := src13.dict
      exact (ne_of_none hkv nlo).symm
    refine ⟨d, c, lo, _, t10, rfl, src13.same s14, SqL.of upd_same, nlod, by show 0 < 6; decide, by show 6 < _; decide, by omega, fun H15 od t15 but15 src15 ht15 hv15 => ?_⟩
    obtain ⟨eo, do15, noo⟩ : ∃ eo, Dx (fun x => x = d) H15 od eo ∧ NoPa eo := by
      simp only [List.mem_cons, List.not_mem_nil, or_false] at hv15
      rcases hv15 with e | e | e | e | e | e <;> rw [e]
      · exact ⟨_, .str _, by decide +kernel, ⟨by first | (simp [okD, okAll, okKv]; done) | (simp [okD, okAll, okKv]; decide +kernel), by decide +kernel, by decide +kernel⟩⟩
      · exact ⟨_, .str _, by decide +kernel, ⟨by first | (simp [okD, okAll, okKv]; done) | (simp [okD, okAll, okKv]; decide +kernel), by decide +kernel, by decide +kernel⟩⟩
      · exact ⟨_, .int _, by decide +kernel, ⟨by first | (simp [okD, okAll, okKv]; done) | (simp [okD, okAll, okKv]; decide +kernel), by decide +kernel, by decide +kernel⟩⟩
      · exact ⟨_, .non, by decide +kernel, ⟨by first | (simp [okD, okAll, okKv]; done) | (simp [okD, okAll, okKv]; decide +kernel), by decide +kernel, by decide +kernel⟩⟩
      · exact ⟨_, .str _, by decide +kernel, ⟨by first | (simp [okD, okAll, okKv]; done) | (simp [okD, okAll, okKv]; decide +kernel), by decide +kernel, by decide +kernel⟩⟩
      · exact ⟨_, .str _, by decide +kernel, ⟨by first | (simp [okD, okAll, okKv]; done) | (simp [okD, okAll, okKv]; decide +kernel), by decide +kernel, by decide +kernel⟩⟩
    obtain ⟨kv14, hkv14⟩ := (src13.same s14).dict
    have tb15 := Tabs.but (Tabs.same tb13 s14) hkv14 but15
    have kp15 : Kp d H13 H15 := (Kp.same s14).trans (.but but15)
    have ntd : ∀ {b : Addr} {zs : List V}, H13 b = some (.tup zs) → b ≠ d := fun h => by
      obtain ⟨kv, hkv⟩ := src13.dict
      exact ne_of h hkv (fun z => by cases z)
    have lt15 : LongT H15 (.ref pl) pl (lgT W m) := ⟨rfl, kp15.tup (ntd lt13.at_) lt13.at_, lt13.lo, lt13.hi, lt13.ltr⟩
    have hpw15 := kp15.tup (ntd hpw13) hpw13
    obtain ⟨oz1, oz2, oz3⟩ := noo.shw
    have ob : eo.bulk ≤ 1000000 := Nat.le_trans noo.fit.bulk (by decide)
    clear hv15 but15 s14 kp15 ntd hkv14 src13 lt13 hpw13 tb13
    refine ⟨tb15, fun fn G nf ex tg la => ⟨fn, _, rfl, la, .inr <| .inl ⟨(fun x => x = d), od, eo, do15.tabs ex, ⟨oz1, oz2, oz3⟩, fun E Q1 out => ?_, fun H' p s' h' => ?_⟩⟩⟩
    · exact ⟨_, rfl, _, rfl, od, _, rfl, .inl ⟨_, eo, do15.tabs ex, ob, noo.no, out⟩⟩
    refine ⟨_, rfl, (fun x => x = d), od, eo, rfl, (do15.tabs ex).same s', oz1, oz2, oz3, by show 2 ≤ sizeLine; decide, fun p2 np2 => ?_⟩
    have s2' := same_new (o := .tup [.str (Str.ofString "pattern"), .str eo.shown]) np2
    refine neFl_self (s2' _ _ h') upd_same rfl ⟨false, rfl, iteF ?_⟩
    have exN : LamX.ExtN H15 (upd H' p2 (.tup [.str (Str.ofString "pattern"), .str eo.shown])) := ex.trans (extN_same (s'.trans s2'))
    have tb16 := Tabs.same tg (s'.trans s2')
    generalize upd H' p2 (.tup [.str (Str.ofString "pattern"), .str eo.shown]) = H16 at *
    have src16 := src15.tabs exN
    have lt16 := lt15.ext exN
    have hpw16 := exN _ _ hpw15 (fun _ z => by cases z)
    have do16 := do15.tabs exN
    clear h' s2' np2 tg ex la nf s' exN
    -- a wrong count once more
    refine ⟨_, rfl, 1, rfl, by show 6 ≤ sizeLine; decide, fun lc nlc => ?_⟩
    have s17 := same_new (o := .lst [V.int 0, V.int 13, V.int (-1), V.bl true, V.non, V.str (Str.ofString "1")]) nlc
    have nlcd : lc ≠ d := by
      obtain ⟨kv, hkv⟩ := src16.dict
      exact (ne_of_none hkv nlc).symm
    refine ⟨d, c, lc, _, t15, rfl, src16.same s17, SqL.of upd_same, nlcd, by show 0 < 6; decide, by show 6 < _; decide, by omega, fun H18 ct t18 but18 src18 ht18 hv18 => ?_⟩
    obtain ⟨ec, dc18, noc, fc⟩ : ∃ ec, Dx (fun x => x = d) H18 ct ec ∧ cntB 1 12 ec = false ∧ Fit 40 1000 5 ec := by
      simp only [List.mem_cons, List.not_mem_nil, or_false] at hv18
      rcases hv18 with e | e | e | e | e | e <;> rw [e]
      · exact ⟨_, .int _, by decide +kernel, ⟨by first | (simp [okD, okAll, okKv]; done) | (simp [okD, okAll, okKv]; decide +kernel), by decide +kernel, by decide +kernel⟩⟩
      · exact ⟨_, .int _, by decide +kernel, ⟨by first | (simp [okD, okAll, okKv]; done) | (simp [okD, okAll, okKv]; decide +kernel), by decide +kernel, by decide +kernel⟩⟩
      · exact ⟨_, .int _, by decide +kernel, ⟨by first | (simp [okD, okAll, okKv]; done) | (simp [okD, okAll, okKv]; decide +kernel), by decide +kernel, by decide +kernel⟩⟩
      · exact ⟨_, .bl _, by decide +kernel, ⟨by first | (simp [okD, okAll, okKv]; done) | (simp [okD, okAll, okKv]; decide +kernel), by decide +kernel, by decide +kernel⟩⟩
      · exact ⟨_, .non, by decide +kernel, ⟨by first | (simp [okD, okAll, okKv]; done) | (simp [okD, okAll, okKv]; decide +kernel), by decide +kernel, by decide +kernel⟩⟩
      · exact ⟨_, .str _, by decide +kernel, ⟨by first | (simp [okD, okAll, okKv]; done) | (simp [okD, okAll, okKv]; decide +kernel), by decide +kernel, by decide +kernel⟩⟩
    obtain ⟨kv17, hkv17⟩ := (src16.same s17).dict
    have tb18 := Tabs.but (Tabs.same tb16 s17) hkv17 but18
    have kp18 : Kp d H16 H18 := (Kp.same s17).trans (.but but18)
    have ntd : ∀ {b : Addr} {zs : List V}, H16 b = some (.tup zs) → b ≠ d := fun h => by
      obtain ⟨kv, hkv⟩ := src16.dict
      exact ne_of h hkv (fun z => by cases z)
    have lt18 : LongT H18 (.ref pl) pl (lgT W m) := ⟨rfl, kp18.tup (ntd lt16.at_) lt16.at_, lt16.lo, lt16.hi, lt16.ltr⟩
    have hpw18 := kp18.tup (ntd hpw16) hpw16
    have do18 := do16.kp kp18
    obtain ⟨cz1, cz2, cz3⟩ := fc.repr (by decide) (by decide) (by decide) (by decide)
    have cb : ec.bulk ≤ 1000000 := Nat.le_trans fc.bulk (by decide)
    clear hv18 but18 s17 kp18 ntd hkv17 src16 lt16 hpw16 tb16 do16
    refine ⟨tb18, fun fn G nf ex tg la => ⟨fn, _, rfl, la, .inl ⟨(fun x => x = d), ct, ec, dc18.tabs ex, ⟨cz1, cz2, cz3⟩, fun E Q1 out => ?_, fun H' p s' h' => ?_⟩⟩⟩
    · exact ⟨_, rfl, _, rfl, _, ct, rfl, .inr ⟨_, _, lt18.ext ex, .inl ⟨_, ec, dc18.tabs ex, cb, noc, out⟩⟩⟩
    refine ⟨_, rfl, (fun x => x = d), ct, ec, rfl, (dc18.tabs ex).same s', cz1, cz2, cz3, by show 2 ≤ sizeLine; decide, fun p2 np2 => ?_⟩
    have s2' := same_new (o := .tup [.str (Str.ofString "count"), .str ec.shown]) np2
    refine neFl_self (s2' _ _ h') upd_same rfl ⟨false, rfl, iteF ?_⟩
    have exN : LamX.ExtN H18 (upd H' p2 (.tup [.str (Str.ofString "count"), .str ec.shown])) := ex.trans (extN_same (s'.trans s2'))
    have tb19 := Tabs.same tg (s'.trans s2')
    generalize upd H' p2 (.tup [.str (Str.ofString "count"), .str ec.shown]) = H19 at *
    have src19 := src18.tabs exN
    have lt19 := lt18.ext exN
    have hpw19 := exN _ _ hpw18 (fun _ z => by cases z)
    have do19 := do18.tabs exN
    have dc19 := dc18.tabs exN
    clear h' s2' np2 tg ex la nf s' exN
    refine ⟨tb19, fun fn G nf ex tg la => ⟨fn, _, rfl, la, .inl ⟨(fun x => x = d), ct, ec, dc19.tabs ex, ⟨cz1, cz2, cz3⟩, fun E Q1 out => ?_, fun H' p s' h' => ?_⟩⟩⟩
    · exact ⟨_, rfl, _, rfl, _, ct, rfl, .inr ⟨_, _, lt19.ext ex, .inl ⟨_, ec, dc19.tabs ex, cb, noc, out⟩⟩⟩
    refine ⟨_, rfl, (fun x => x = d), ct, ec, rfl, (dc19.tabs ex).same s', cz1, cz2, cz3, by show 2 ≤ sizeLine; decide, fun p2 np2 => ?_⟩
    have s2' := same_new (o := .tup [.str (Str.ofString "count"), .str ec.shown]) np2
    refine neFl_self (s2' _ _ h') upd_same rfl ⟨false, rfl, iteF ?_⟩
    have exN : LamX.ExtN H19 (upd H' p2 (.tup [.str (Str.ofString "count"), .str ec.shown])) := ex.trans (extN_same (s'.trans s2'))
    have tb20 := Tabs.same tg (s'.trans s2')
    generalize upd H' p2 (.tup [.str (Str.ofString "count"), .str ec.shown]) = H20 at *
    have src20 := src19.tabs exN
    have lt20 := lt19.ext exN
    have hpw20 := exN _ _ hpw19 (fun _ z => by cases z)
    have do20 := do19.tabs exN
    clear h' s2' np2 tg ex la nf s' exN
    -- no text
    refine ⟨_, rfl, d, c, t18, rfl, src20, by omega, fun H21 v t21 e but21 src21 ht21 dv21 nt => ?_⟩
    obtain ⟨kv20, hkv20⟩ := src20.dict
    have tb21 := Tabs.but tb20 hkv20 but21
    have ntd : ∀ {b : Addr} {zs : List V}, H20 b = some (.tup zs) → b ≠ d := fun h => ne_of h hkv20 (fun z => by cases z)
    have hl21 := but21 _ _ (ntd lt20.at_) lt20.at_
    have hpw21 := but21 _ _ (ntd hpw20) hpw20
    refine ⟨_, rfl, _, _, v, od, e, eo, rfl, dv21, nt, do20.pen but21, noo, fun p hp => tb21 p (List.mem_cons_of_mem _ hp), fun H22 ex22 => ⟨true, rfl, iteF ?_⟩⟩
    have hl22 := ex22 _ _ hl21 (fun _ z => by cases z)
    have hpw22 := ex22 _ _ hpw21 (fun _ z => by cases z)
    -- the end
    have cut : cutV ((lgT W m).map V.int) none (some (400 : Int)) = (lgT W 400).map V.int := by
      rw [show (400 : Int) = ((400 : Nat) : Int) from rfl, cut_to, ← List.map_take, lgT_take (by omega)]
    have l400 : (lgT W 400).length = 400 := lgT_len W1 (by decide)
    refine ⟨_, rfl, 400, rfl, slA_any hl22 fun p23 H23 s23 h23 _ => ?_⟩
    rw [cut] at h23
    refine ⟨p23, lgT W 400, rfl, h23, by omega, lgT_ltr hW, fun H24 s24 => ⟨_, _, rfl, rfl, true, ?_, iteT ?_⟩⟩
    · show V.bl (decide ((0 : Int) < ((rk (lgT W 400) (lgT W 400).length : Nat) : Int))) = V.bl true
      rw [l400, rk_pos (by decide), decide_eq_true (by omega)]
    have s22 := s23.trans s24
    refine ⟨_, rfl, pw, _, rfl, .inr (SqT.of (s22 _ _ hpw22)), _, _, rfl, rfl, ?_⟩
    refine ⟨_, rfl, 400, rfl, slA_any (s22 _ _ hl22) fun p25 H25 s25 h25 _ => ?_⟩
    rw [cut] at h25
    refine ⟨p25, lgT W 400, rfl, h25, by omega, lgT_ltr hW, fun H26 lb s26 nlb hlb => ?_⟩
    rw [l400] at hlb
    refine ⟨lb, _, rfl, .inl (SqL.of hlb), rfl, flat_ints _, ?_⟩
    have mem : 400 - W.length ∈ above (lgT W 400) 400 0 := List.mem_filter.mpr ⟨List.mem_range.mpr (by omega), decide_eq_true ⟨lgT_brd W1 W5, by omega⟩⟩
    have hin := in_nums mem
    have ev : ((400 : Int) - ((W.map V.int).length : Int)) = ((400 - W.length : Nat) : Int) := by
      rw [List.length_map]
      omega
    show Q (.bl (inV (V.int ((400 : Int) - ((W.map V.int).length : Int))) _)) H26
    rw [ev, hin]
    exact q H26
end
end Mo

namespace Mo
open PySem PySem.Spec PyProof.Rows L2
theorem txt_mk {K : PySem.W.Frag} {h : Heap} {mg : Str → Option Value} {fa : Addr} (X : K.In h) (G : h.Ns mainGlobals mg) (hfa : mg "law" = some (.ref fa))
    {cInvalidPattern : Addr} (eInvalidPattern : PySem.W.nsIn K mainGlobals "InvalidPattern" = some (some (.ref cInvalidPattern)))
    {cInvalidText : Addr} (eInvalidText : PySem.W.nsIn K mainGlobals "InvalidText" = some (some (.ref cInvalidText)))
    {cInvalidCount : Addr} (eInvalidCount : PySem.W.nsIn K mainGlobals "InvalidCount" = some (some (.ref cInvalidCount)))
    {cTooLarge : Addr} (eTooLarge : PySem.W.nsIn K mainGlobals "TooLarge" = some (some (.ref cTooLarge)))
    {nmInvalidPattern qInvalidPattern : Str} {NInvalidPattern : Addr} {bsInvalidPattern : List Value} {snInvalidPattern : List Str} {subInvalidPattern : List Value} {abInvalidPattern : Bool} {colInvalidPattern : Option Bool} {ddInvalidPattern : Option Addr} {u0InvalidPattern u1InvalidPattern u2InvalidPattern u3InvalidPattern u5InvalidPattern : Option Value}
    (xLInvalidPattern : K.lookup cInvalidPattern = some (excClassObj nmInvalidPattern qInvalidPattern cInvalidPattern NInvalidPattern bsInvalidPattern [.type "ValueError", .type "Exception", .type "BaseException", .type "object"] true snInvalidPattern subInvalidPattern abInvalidPattern colInvalidPattern ddInvalidPattern u0InvalidPattern u1InvalidPattern u2InvalidPattern u3InvalidPattern u5InvalidPattern "ValueError.__new__"))
    (saInvalidPattern : PySem.W.findIn K (.ref cInvalidPattern) "__setattr__" = some (some (.builtin "object.__setattr__")))
    (gaInvalidPattern : PySem.W.findIn K (.ref cInvalidPattern) "__getattribute__" = some (some (.builtin "BaseException.__getattribute__")))
    (ggInvalidPattern : PySem.W.findIn K (.ref cInvalidPattern) "__getattr__" = some none)
    (nbInvalidPattern : PySem.W.findIn K (.ref cInvalidPattern) "value" = some none)
    (exInvalidPattern : PySem.W.subIn K (.ref cInvalidPattern) (.type "BaseException") = some true)
    (tyInvalidPattern : PySem.W.typeIn K (.ref cInvalidPattern) = some (.type "type"))
    (hdInvalidPattern : PySem.W.hasDictIn K cInvalidPattern = true)
    (kCInvalidPattern : PySem.W.keepIn K (.ref cInvalidPattern) = true)
    (sCInvalidPattern : PySem.W.subIn K (.ref cInvalidPattern) (.ref cInvalidPattern) = some true)
    (caInvalidPattern : PySem.W.findIn K (.ref cInvalidPattern) "__class__" = some (some (.builtin "object.__class__")))
    (cnInvalidPattern : PySem.W.specialIn K (.builtin "object.__class__") "__get__" = some (some (.builtin "getset_descriptor.__get__")))
    (ctInvalidPattern : PySem.W.takesIn K (.builtin "object.__class__") = some true)
    (cmInvalidPattern : PySem.W.mroIn K cInvalidPattern (.type "object") = some true)
    {iInvalidPattern : Addr} (iCInvalidPattern : PySem.W.findIn K (.ref cInvalidPattern) "__init__" = some (some (.ref iInvalidPattern))) (tIInvalidPattern : PySem.W.typeIn K (.ref iInvalidPattern) = some (.type "function"))
    {iodInvalidPattern ianInvalidPattern : Option Addr} {islInvalidPattern : Array (Option Value)} {iocInvalidPattern ikVInvalidPattern idcInvalidPattern ipmInvalidPattern icdInvalidPattern ictInvalidPattern : Value} (iLInvalidPattern : K.lookup iInvalidPattern = some ⟨iocInvalidPattern, iodInvalidPattern, .func (PySem.W.fnOf "__init__" "InvalidPattern.__init__" (defArgs sInitInvalidPattern) (defBody sInitInvalidPattern) (defScope sInitInvalidPattern) .none ikVInvalidPattern idcInvalidPattern ipmInvalidPattern ianInvalidPattern icdInvalidPattern ictInvalidPattern), islInvalidPattern⟩) (iDInvalidPattern : PySem.W.codeIn K icdInvalidPattern "InvalidPattern.__init__" = true) (iKInvalidPattern : PySem.W.keepIn K (.ref iInvalidPattern) = true)
    {nmInvalidText qInvalidText : Str} {NInvalidText : Addr} {bsInvalidText : List Value} {snInvalidText : List Str} {subInvalidText : List Value} {abInvalidText : Bool} {colInvalidText : Option Bool} {ddInvalidText : Option Addr} {u0InvalidText u1InvalidText u2InvalidText u3InvalidText u5InvalidText : Option Value}
    (xLInvalidText : K.lookup cInvalidText = some (excClassObj nmInvalidText qInvalidText cInvalidText NInvalidText bsInvalidText [.type "ValueError", .type "Exception", .type "BaseException", .type "object"] true snInvalidText subInvalidText abInvalidText colInvalidText ddInvalidText u0InvalidText u1InvalidText u2InvalidText u3InvalidText u5InvalidText "ValueError.__new__"))
    (saInvalidText : PySem.W.findIn K (.ref cInvalidText) "__setattr__" = some (some (.builtin "object.__setattr__")))
    (gaInvalidText : PySem.W.findIn K (.ref cInvalidText) "__getattribute__" = some (some (.builtin "BaseException.__getattribute__")))
    (ggInvalidText : PySem.W.findIn K (.ref cInvalidText) "__getattr__" = some none)
    (nbInvalidText : PySem.W.findIn K (.ref cInvalidText) "value" = some none)
    (exInvalidText : PySem.W.subIn K (.ref cInvalidText) (.type "BaseException") = some true)
    (tyInvalidText : PySem.W.typeIn K (.ref cInvalidText) = some (.type "type"))
    (hdInvalidText : PySem.W.hasDictIn K cInvalidText = true)
    (kCInvalidText : PySem.W.keepIn K (.ref cInvalidText) = true)
    (sCInvalidText : PySem.W.subIn K (.ref cInvalidText) (.ref cInvalidText) = some true)
    (caInvalidText : PySem.W.findIn K (.ref cInvalidText) "__class__" = some (some (.builtin "object.__class__")))
    (cnInvalidText : PySem.W.specialIn K (.builtin "object.__class__") "__get__" = some (some (.builtin "getset_descriptor.__get__")))
    (ctInvalidText : PySem.W.takesIn K (.builtin "object.__class__") = some true)
    (cmInvalidText : PySem.W.mroIn K cInvalidText (.type "object") = some true)
    {iInvalidText : Addr} (iCInvalidText : PySem.W.findIn K (.ref cInvalidText) "__init__" = some (some (.ref iInvalidText))) (tIInvalidText : PySem.W.typeIn K (.ref iInvalidText) = some (.type "function"))
    {iodInvalidText ianInvalidText : Option Addr} {islInvalidText : Array (Option Value)} {iocInvalidText ikVInvalidText idcInvalidText ipmInvalidText icdInvalidText ictInvalidText : Value} (iLInvalidText : K.lookup iInvalidText = some ⟨iocInvalidText, iodInvalidText, .func (PySem.W.fnOf "__init__" "InvalidText.__init__" (defArgs sInitInvalidText) (defBody sInitInvalidText) (defScope sInitInvalidText) .none ikVInvalidText idcInvalidText ipmInvalidText ianInvalidText icdInvalidText ictInvalidText), islInvalidText⟩) (iDInvalidText : PySem.W.codeIn K icdInvalidText "InvalidText.__init__" = true) (iKInvalidText : PySem.W.keepIn K (.ref iInvalidText) = true)
    {nmInvalidCount qInvalidCount : Str} {NInvalidCount : Addr} {bsInvalidCount : List Value} {snInvalidCount : List Str} {subInvalidCount : List Value} {abInvalidCount : Bool} {colInvalidCount : Option Bool} {ddInvalidCount : Option Addr} {u0InvalidCount u1InvalidCount u2InvalidCount u3InvalidCount u5InvalidCount : Option Value}
    (xLInvalidCount : K.lookup cInvalidCount = some (excClassObj nmInvalidCount qInvalidCount cInvalidCount NInvalidCount bsInvalidCount [.type "ValueError", .type "Exception", .type "BaseException", .type "object"] true snInvalidCount subInvalidCount abInvalidCount colInvalidCount ddInvalidCount u0InvalidCount u1InvalidCount u2InvalidCount u3InvalidCount u5InvalidCount "ValueError.__new__"))
    (saInvalidCount : PySem.W.findIn K (.ref cInvalidCount) "__setattr__" = some (some (.builtin "object.__setattr__")))
    (gaInvalidCount : PySem.W.findIn K (.ref cInvalidCount) "__getattribute__" = some (some (.builtin "BaseException.__getattribute__")))
    (ggInvalidCount : PySem.W.findIn K (.ref cInvalidCount) "__getattr__" = some none)
    (nbInvalidCount : PySem.W.findIn K (.ref cInvalidCount) "value" = some none)
    (exInvalidCount : PySem.W.subIn K (.ref cInvalidCount) (.type "BaseException") = some true)
    (tyInvalidCount : PySem.W.typeIn K (.ref cInvalidCount) = some (.type "type"))
    (hdInvalidCount : PySem.W.hasDictIn K cInvalidCount = true)
    (kCInvalidCount : PySem.W.keepIn K (.ref cInvalidCount) = true)
    (sCInvalidCount : PySem.W.subIn K (.ref cInvalidCount) (.ref cInvalidCount) = some true)
    (caInvalidCount : PySem.W.findIn K (.ref cInvalidCount) "__class__" = some (some (.builtin "object.__class__")))
    (cnInvalidCount : PySem.W.specialIn K (.builtin "object.__class__") "__get__" = some (some (.builtin "getset_descriptor.__get__")))
    (ctInvalidCount : PySem.W.takesIn K (.builtin "object.__class__") = some true)
    (cmInvalidCount : PySem.W.mroIn K cInvalidCount (.type "object") = some true)
    {iInvalidCount : Addr} (iCInvalidCount : PySem.W.findIn K (.ref cInvalidCount) "__init__" = some (some (.ref iInvalidCount))) (tIInvalidCount : PySem.W.typeIn K (.ref iInvalidCount) = some (.type "function"))
    {iodInvalidCount ianInvalidCount : Option Addr} {islInvalidCount : Array (Option Value)} {iocInvalidCount ikVInvalidCount idcInvalidCount ipmInvalidCount icdInvalidCount ictInvalidCount : Value} (iLInvalidCount : K.lookup iInvalidCount = some ⟨iocInvalidCount, iodInvalidCount, .func (PySem.W.fnOf "__init__" "InvalidCount.__init__" (defArgs sInitInvalidCount) (defBody sInitInvalidCount) (defScope sInitInvalidCount) .none ikVInvalidCount idcInvalidCount ipmInvalidCount ianInvalidCount icdInvalidCount ictInvalidCount), islInvalidCount⟩) (iDInvalidCount : PySem.W.codeIn K icdInvalidCount "InvalidCount.__init__" = true) (iKInvalidCount : PySem.W.keepIn K (.ref iInvalidCount) = true)
    {nmTooLarge qTooLarge : Str} {NTooLarge : Addr} {bsTooLarge : List Value} {snTooLarge : List Str} {subTooLarge : List Value} {abTooLarge : Bool} {colTooLarge : Option Bool} {ddTooLarge : Option Addr} {u0TooLarge u1TooLarge u2TooLarge u3TooLarge u5TooLarge : Option Value}
    (xLTooLarge : K.lookup cTooLarge = some (excClassObj nmTooLarge qTooLarge cTooLarge NTooLarge bsTooLarge [.type "OverflowError", .type "ArithmeticError", .type "Exception", .type "BaseException", .type "object"] true snTooLarge subTooLarge abTooLarge colTooLarge ddTooLarge u0TooLarge u1TooLarge u2TooLarge u3TooLarge u5TooLarge "OverflowError.__new__"))
    (saTooLarge : PySem.W.findIn K (.ref cTooLarge) "__setattr__" = some (some (.builtin "object.__setattr__")))
    (gaTooLarge : PySem.W.findIn K (.ref cTooLarge) "__getattribute__" = some (some (.builtin "BaseException.__getattribute__")))
    (ggTooLarge : PySem.W.findIn K (.ref cTooLarge) "__getattr__" = some none)
    (nbTooLarge : PySem.W.findIn K (.ref cTooLarge) "limit" = some none)
    (exTooLarge : PySem.W.subIn K (.ref cTooLarge) (.type "BaseException") = some true)
    (tyTooLarge : PySem.W.typeIn K (.ref cTooLarge) = some (.type "type"))
    (hdTooLarge : PySem.W.hasDictIn K cTooLarge = true)
    (kCTooLarge : PySem.W.keepIn K (.ref cTooLarge) = true)
    (sCTooLarge : PySem.W.subIn K (.ref cTooLarge) (.ref cTooLarge) = some true)
    (caTooLarge : PySem.W.findIn K (.ref cTooLarge) "__class__" = some (some (.builtin "object.__class__")))
    (cnTooLarge : PySem.W.specialIn K (.builtin "object.__class__") "__get__" = some (some (.builtin "getset_descriptor.__get__")))
    (ctTooLarge : PySem.W.takesIn K (.builtin "object.__class__") = some true)
    (cmTooLarge : PySem.W.mroIn K cTooLarge (.type "object") = some true)
    {iTooLarge : Addr} (iCTooLarge : PySem.W.findIn K (.ref cTooLarge) "__init__" = some (some (.ref iTooLarge))) (tITooLarge : PySem.W.typeIn K (.ref iTooLarge) = some (.type "function"))
    {iodTooLarge ianTooLarge : Option Addr} {islTooLarge : Array (Option Value)} {iocTooLarge ikVTooLarge idcTooLarge ipmTooLarge icdTooLarge ictTooLarge : Value} (iLTooLarge : K.lookup iTooLarge = some ⟨iocTooLarge, iodTooLarge, .func (PySem.W.fnOf "__init__" "TooLarge.__init__" (defArgs sInitTooLarge) (defBody sInitTooLarge) (defScope sInitTooLarge) .none ikVTooLarge idcTooLarge ipmTooLarge ianTooLarge icdTooLarge ictTooLarge), islTooLarge⟩) (iDTooLarge : PySem.W.codeIn K icdTooLarge "TooLarge.__init__" = true) (iKTooLarge : PySem.W.keepIn K (.ref iTooLarge) = true)
    (suInvalidCountInvalidPattern : PySem.W.subIn K (.ref cInvalidCount) (.ref cInvalidPattern) = some false)
    (suInvalidCountInvalidText : PySem.W.subIn K (.ref cInvalidCount) (.ref cInvalidText) = some false)
    (suInvalidCountTooLarge : PySem.W.subIn K (.ref cInvalidCount) (.ref cTooLarge) = some false)
    (suInvalidPatternInvalidCount : PySem.W.subIn K (.ref cInvalidPattern) (.ref cInvalidCount) = some false)
    (suInvalidPatternInvalidText : PySem.W.subIn K (.ref cInvalidPattern) (.ref cInvalidText) = some false)
    (suInvalidPatternTooLarge : PySem.W.subIn K (.ref cInvalidPattern) (.ref cTooLarge) = some false)
    (suInvalidTextInvalidCount : PySem.W.subIn K (.ref cInvalidText) (.ref cInvalidCount) = some false)
    (suInvalidTextInvalidPattern : PySem.W.subIn K (.ref cInvalidText) (.ref cInvalidPattern) = some false)
    (suInvalidTextTooLarge : PySem.W.subIn K (.ref cInvalidText) (.ref cTooLarge) = some false)
    (suTooLargeInvalidCount : PySem.W.subIn K (.ref cTooLarge) (.ref cInvalidCount) = some false)
    (suTooLargeInvalidPattern : PySem.W.subIn K (.ref cTooLarge) (.ref cInvalidPattern) = some false)
    (suTooLargeInvalidText : PySem.W.subIn K (.ref cTooLarge) (.ref cInvalidText) = some false)
    (icInvalidPattern : PySem.W.isClsIn K cInvalidPattern = true)
    (itInvalidPattern : PySem.W.typeIn K (.ref cInvalidPattern) = some (.type "type"))
    (icInvalidText : PySem.W.isClsIn K cInvalidText = true)
    (itInvalidText : PySem.W.typeIn K (.ref cInvalidText) = some (.type "type"))
    (icTooLarge : PySem.W.isClsIn K cTooLarge = true)
    (itTooLarge : PySem.W.typeIn K (.ref cTooLarge) = some (.type "type"))
    (icInvalidCount : PySem.W.isClsIn K cInvalidCount = true)
    (itInvalidCount : PySem.W.typeIn K (.ref cInvalidCount) = some (.type "type"))
    (suInvalidCountValueError : PySem.W.subIn K (.ref cInvalidCount) (.type "ValueError") = some true)
    (suInvalidPatternValueError : PySem.W.subIn K (.ref cInvalidPattern) (.type "ValueError") = some true)
    (suInvalidTextValueError : PySem.W.subIn K (.ref cInvalidText) (.type "ValueError") = some true)
    (suTooLargeOverflowError : PySem.W.subIn K (.ref cTooLarge) (.type "OverflowError") = some true)
    {od0 an0 : Option Addr} {sl0 : Array (Option Value)} {oc0 kV0 dc0 pm0 cd0 ct0 : Value} {f0 : Addr}
    (a0 : PySem.W.nsIn K mainGlobals "is_pattern" = some (some (.ref f0))) (l0 : K.lookup f0 = some ⟨oc0, od0, .func (PySem.W.fnOf "is_pattern" "is_pattern" (defArgs sIsPattern) (defBody sIsPattern) (defScope sIsPattern) .none kV0 dc0 pm0 an0 cd0 ct0), sl0⟩) (c0 : PySem.W.codeIn K cd0 "is_pattern" = true) (k0 : PySem.W.keepIn K (.ref f0) = true)
    {od1 an1 : Option Addr} {sl1 : Array (Option Value)} {oc1 kV1 dc1 pm1 cd1 ct1 : Value} {f1 : Addr}
    (a1 : PySem.W.nsIn K mainGlobals "is_plain_integer" = some (some (.ref f1))) (l1 : K.lookup f1 = some ⟨oc1, od1, .func (PySem.W.fnOf "is_plain_integer" "is_plain_integer" (defArgs sIsPlainInteger) (defBody sIsPlainInteger) (defScope sIsPlainInteger) .none kV1 dc1 pm1 an1 cd1 ct1), sl1⟩) (c1 : PySem.W.codeIn K cd1 "is_plain_integer" = true) (k1 : PySem.W.keepIn K (.ref f1) = true)
    {od2 an2 : Option Addr} {sl2 : Array (Option Value)} {oc2 kV2 dc2 pm2 cd2 ct2 : Value} {f2 : Addr}
    (a2 : PySem.W.nsIn K mainGlobals "is_letter" = some (some (.ref f2))) (l2 : K.lookup f2 = some ⟨oc2, od2, .func (PySem.W.fnOf "is_letter" "is_letter" (defArgs sIsLetter) (defBody sIsLetter) (defScope sIsLetter) .none kV2 dc2 pm2 an2 cd2 ct2), sl2⟩) (c2 : PySem.W.codeIn K cd2 "is_letter" = true) (k2 : PySem.W.keepIn K (.ref f2) = true)
    {od3 an3 : Option Addr} {sl3 : Array (Option Value)} {oc3 kV3 dc3 pm3 cd3 ct3 : Value} {f3 : Addr}
    (a3 : PySem.W.nsIn K mainGlobals "is_text" = some (some (.ref f3))) (l3 : K.lookup f3 = some ⟨oc3, od3, .func (PySem.W.fnOf "is_text" "is_text" (defArgs sIsText) (defBody sIsText) (defScope sIsText) .none kV3 dc3 pm3 an3 cd3 ct3), sl3⟩) (c3 : PySem.W.codeIn K cd3 "is_text" = true) (k3 : PySem.W.keepIn K (.ref f3) = true)
    {od4 an4 : Option Addr} {sl4 : Array (Option Value)} {oc4 kV4 dc4 pm4 cd4 ct4 : Value} {f4 : Addr}
    (a4 : PySem.W.nsIn K mainGlobals "check_pattern" = some (some (.ref f4))) (l4 : K.lookup f4 = some ⟨oc4, od4, .func (PySem.W.fnOf "check_pattern" "check_pattern" (defArgs sCheckPattern) (defBody sCheckPattern) (defScope sCheckPattern) .none kV4 dc4 pm4 an4 cd4 ct4), sl4⟩) (c4 : PySem.W.codeIn K cd4 "check_pattern" = true) (k4 : PySem.W.keepIn K (.ref f4) = true)
    {od5 an5 : Option Addr} {sl5 : Array (Option Value)} {oc5 kV5 dc5 pm5 cd5 ct5 : Value} {f5 : Addr}
    (a5 : PySem.W.nsIn K mainGlobals "check_text" = some (some (.ref f5))) (l5 : K.lookup f5 = some ⟨oc5, od5, .func (PySem.W.fnOf "check_text" "check_text" (defArgs sCheckText) (defBody sCheckText) (defScope sCheckText) .none kV5 dc5 pm5 an5 cd5 ct5), sl5⟩) (c5 : PySem.W.codeIn K cd5 "check_text" = true) (k5 : PySem.W.keepIn K (.ref f5) = true)
    {od6 an6 : Option Addr} {sl6 : Array (Option Value)} {oc6 kV6 dc6 pm6 cd6 ct6 : Value} {f6 : Addr}
    (a6 : PySem.W.nsIn K mainGlobals "check_count" = some (some (.ref f6))) (l6 : K.lookup f6 = some ⟨oc6, od6, .func (PySem.W.fnOf "check_count" "check_count" (defArgs sCheckCount) (defBody sCheckCount) (defScope sCheckCount) .none kV6 dc6 pm6 an6 cd6 ct6), sl6⟩) (c6 : PySem.W.codeIn K cd6 "check_count" = true) (k6 : PySem.W.keepIn K (.ref f6) = true)
    {od7 an7 : Option Addr} {sl7 : Array (Option Value)} {oc7 kV7 dc7 pm7 cd7 ct7 : Value} {f7 : Addr}
    (a7 : PySem.W.nsIn K mainGlobals "check_size" = some (some (.ref f7))) (l7 : K.lookup f7 = some ⟨oc7, od7, .func (PySem.W.fnOf "check_size" "check_size" (defArgs sCheckSize) (defBody sCheckSize) (defScope sCheckSize) .none kV7 dc7 pm7 an7 cd7 ct7), sl7⟩) (c7 : PySem.W.codeIn K cd7 "check_size" = true) (k7 : PySem.W.keepIn K (.ref f7) = true)
    {od8 an8 : Option Addr} {sl8 : Array (Option Value)} {oc8 kV8 dc8 pm8 cd8 ct8 : Value} {f8 : Addr}
    (a8 : PySem.W.nsIn K mainGlobals "longest_borders" = some (some (.ref f8))) (l8 : K.lookup f8 = some ⟨oc8, od8, .func (PySem.W.fnOf "longest_borders" "longest_borders" (defArgs sLongestBorders) (defBody sLongestBorders) (defScope sLongestBorders) .none kV8 dc8 pm8 an8 cd8 ct8), sl8⟩) (c8 : PySem.W.codeIn K cd8 "longest_borders" = true) (k8 : PySem.W.keepIn K (.ref f8) = true)
    {od9 an9 : Option Addr} {sl9 : Array (Option Value)} {oc9 kV9 dc9 pm9 cd9 ct9 : Value} {f9 : Addr}
    (a9 : PySem.W.nsIn K mainGlobals "extended" = some (some (.ref f9))) (l9 : K.lookup f9 = some ⟨oc9, od9, .func (PySem.W.fnOf "extended" "extended" (defArgs sExtended) (defBody sExtended) (defScope sExtended) .none kV9 dc9 pm9 an9 cd9 ct9), sl9⟩) (c9 : PySem.W.codeIn K cd9 "extended" = true) (k9 : PySem.W.keepIn K (.ref f9) = true)
    {od10 an10 : Option Addr} {sl10 : Array (Option Value)} {oc10 kV10 dc10 pm10 cd10 ct10 : Value} {f10 : Addr}
    (a10 : PySem.W.nsIn K mainGlobals "half_borders" = some (some (.ref f10))) (l10 : K.lookup f10 = some ⟨oc10, od10, .func (PySem.W.fnOf "half_borders" "half_borders" (defArgs sHalfBorders) (defBody sHalfBorders) (defScope sHalfBorders) .none kV10 dc10 pm10 an10 cd10 ct10), sl10⟩) (c10 : PySem.W.codeIn K cd10 "half_borders" = true) (k10 : PySem.W.keepIn K (.ref f10) = true)
    {od11 an11 : Option Addr} {sl11 : Array (Option Value)} {oc11 kV11 dc11 pm11 cd11 ct11 : Value} {f11 : Addr}
    (a11 : PySem.W.nsIn K mainGlobals "prefix_ranks" = some (some (.ref f11))) (l11 : K.lookup f11 = some ⟨oc11, od11, .func (PySem.W.fnOf "prefix_ranks" "prefix_ranks" (defArgs sPrefixRanks) (defBody sPrefixRanks) (defScope sPrefixRanks) .none kV11 dc11 pm11 an11 cd11 ct11), sl11⟩) (c11 : PySem.W.codeIn K cd11 "prefix_ranks" = true) (k11 : PySem.W.keepIn K (.ref f11) = true)
    {od12 an12 : Option Addr} {sl12 : Array (Option Value)} {oc12 kV12 dc12 pm12 cd12 ct12 : Value} {f12 : Addr}
    (a12 : PySem.W.nsIn K mainGlobals "borders" = some (some (.ref f12))) (l12 : K.lookup f12 = some ⟨oc12, od12, .func (PySem.W.fnOf "borders" "borders" (defArgs sBorders) (defBody sBorders) (defScope sBorders) .none kV12 dc12 pm12 an12 cd12 ct12), sl12⟩) (c12 : PySem.W.codeIn K cd12 "borders" = true) (k12 : PySem.W.keepIn K (.ref f12) = true)
    {od13 an13 : Option Addr} {sl13 : Array (Option Value)} {oc13 kV13 dc13 pm13 cd13 ct13 : Value} {f13 : Addr}
    (a13 : PySem.W.nsIn K mainGlobals "rank" = some (some (.ref f13))) (l13 : K.lookup f13 = some ⟨oc13, od13, .func (PySem.W.fnOf "rank" "rank" (defArgs sRank) (defBody sRank) (defScope sRank) .none kV13 dc13 pm13 an13 cd13 ct13), sl13⟩) (c13 : PySem.W.codeIn K cd13 "rank" = true) (k13 : PySem.W.keepIn K (.ref f13) = true)
    {od14 an14 : Option Addr} {sl14 : Array (Option Value)} {oc14 kV14 dc14 pm14 cd14 ct14 : Value} {f14 : Addr}
    (a14 : PySem.W.nsIn K mainGlobals "rank_values" = some (some (.ref f14))) (l14 : K.lookup f14 = some ⟨oc14, od14, .func (PySem.W.fnOf "rank_values" "rank_values" (defArgs sRankValues) (defBody sRankValues) (defScope sRankValues) .none kV14 dc14 pm14 an14 cd14 ct14), sl14⟩) (c14 : PySem.W.codeIn K cd14 "rank_values" = true) (k14 : PySem.W.keepIn K (.ref f14) = true)
    {od15 an15 : Option Addr} {sl15 : Array (Option Value)} {oc15 kV15 dc15 pm15 cd15 ct15 : Value} {f15 : Addr}
    (a15 : PySem.W.nsIn K mainGlobals "best_block" = some (some (.ref f15))) (l15 : K.lookup f15 = some ⟨oc15, od15, .func (PySem.W.fnOf "best_block" "best_block" (defArgs sBestBlock) (defBody sBestBlock) (defScope sBestBlock) .none kV15 dc15 pm15 an15 cd15 ct15), sl15⟩) (c15 : PySem.W.codeIn K cd15 "best_block" = true) (k15 : PySem.W.keepIn K (.ref f15) = true)
    {od16 an16 : Option Addr} {sl16 : Array (Option Value)} {oc16 kV16 dc16 pm16 cd16 ct16 : Value} {f16 : Addr}
    (a16 : PySem.W.nsIn K mainGlobals "find_universal" = some (some (.ref f16))) (l16 : K.lookup f16 = some ⟨oc16, od16, .func (PySem.W.fnOf "find_universal" "find_universal" (defArgs sFindUniversal) (defBody sFindUniversal) (defScope sFindUniversal) .none kV16 dc16 pm16 an16 cd16 ct16), sl16⟩) (c16 : PySem.W.codeIn K cd16 "find_universal" = true) (k16 : PySem.W.keepIn K (.ref f16) = true)
    {od17 an17 : Option Addr} {sl17 : Array (Option Value)} {oc17 kV17 dc17 pm17 cd17 ct17 : Value} {f17 : Addr}
    (a17 : PySem.W.nsIn K mainGlobals "power" = some (some (.ref f17))) (l17 : K.lookup f17 = some ⟨oc17, od17, .func (PySem.W.fnOf "power" "power" (defArgs sPower) (defBody sPower) (defScope sPower) .none kV17 dc17 pm17 an17 cd17 ct17), sl17⟩) (c17 : PySem.W.codeIn K cd17 "power" = true) (k17 : PySem.W.keepIn K (.ref f17) = true)
    {od18 an18 : Option Addr} {sl18 : Array (Option Value)} {oc18 kV18 dc18 pm18 cd18 ct18 : Value} {f18 : Addr}
    (a18 : PySem.W.nsIn K mainGlobals "length_bound" = some (some (.ref f18))) (l18 : K.lookup f18 = some ⟨oc18, od18, .func (PySem.W.fnOf "length_bound" "length_bound" (defArgs sLengthBound) (defBody sLengthBound) (defScope sLengthBound) .none kV18 dc18 pm18 an18 cd18 ct18), sl18⟩) (c18 : PySem.W.codeIn K cd18 "length_bound" = true) (k18 : PySem.W.keepIn K (.ref f18) = true)
    {od19 an19 : Option Addr} {sl19 : Array (Option Value)} {oc19 kV19 dc19 pm19 cd19 ct19 : Value} {f19 : Addr}
    (a19 : PySem.W.nsIn K mainGlobals "find_unavoidable" = some (some (.ref f19))) (l19 : K.lookup f19 = some ⟨oc19, od19, .func (PySem.W.fnOf "find_unavoidable" "find_unavoidable" (defArgs sFindUnavoidable) (defBody sFindUnavoidable) (defScope sFindUnavoidable) .none kV19 dc19 pm19 an19 cd19 ct19), sl19⟩) (c19 : PySem.W.codeIn K cd19 "find_unavoidable" = true) (k19 : PySem.W.keepIn K (.ref f19) = true)
    {od20 an20 : Option Addr} {sl20 : Array (Option Value)} {oc20 kV20 dc20 pm20 cd20 ct20 : Value} {f20 : Addr}
    (a20 : PySem.W.nsIn K mainGlobals "_law_source" = some (some (.ref f20))) (l20 : K.lookup f20 = some ⟨oc20, od20, .func (PySem.W.fnOf "_law_source" "_law_source" (defArgs sLSource) (defBody sLSource) (defScope sLSource) .none kV20 dc20 pm20 an20 cd20 ct20), sl20⟩) (c20 : PySem.W.codeIn K cd20 "_law_source" = true) (k20 : PySem.W.keepIn K (.ref f20) = true)
    {od21 an21 : Option Addr} {sl21 : Array (Option Value)} {oc21 kV21 dc21 pm21 cd21 ct21 : Value} {f21 : Addr}
    (a21 : PySem.W.nsIn K mainGlobals "_law_draw" = some (some (.ref f21))) (l21 : K.lookup f21 = some ⟨oc21, od21, .func (PySem.W.fnOf "_law_draw" "_law_draw" (defArgs sLDraw) (defBody sLDraw) (defScope sLDraw) .none kV21 dc21 pm21 an21 cd21 ct21), sl21⟩) (c21 : PySem.W.codeIn K cd21 "_law_draw" = true) (k21 : PySem.W.keepIn K (.ref f21) = true)
    {od22 an22 : Option Addr} {sl22 : Array (Option Value)} {oc22 kV22 dc22 pm22 cd22 ct22 : Value} {f22 : Addr}
    (a22 : PySem.W.nsIn K mainGlobals "_law_pick" = some (some (.ref f22))) (l22 : K.lookup f22 = some ⟨oc22, od22, .func (PySem.W.fnOf "_law_pick" "_law_pick" (defArgs sLPick) (defBody sLPick) (defScope sLPick) .none kV22 dc22 pm22 an22 cd22 ct22), sl22⟩) (c22 : PySem.W.codeIn K cd22 "_law_pick" = true) (k22 : PySem.W.keepIn K (.ref f22) = true)
    {od23 an23 : Option Addr} {sl23 : Array (Option Value)} {oc23 kV23 dc23 pm23 cd23 ct23 : Value} {f23 : Addr}
    (a23 : PySem.W.nsIn K mainGlobals "_law_raised" = some (some (.ref f23))) (l23 : K.lookup f23 = some ⟨oc23, od23, .func (PySem.W.fnOf "_law_raised" "_law_raised" (defArgs sLRaised) (defBody sLRaised) (defScope sLRaised) .none kV23 dc23 pm23 an23 cd23 ct23), sl23⟩) (c23 : PySem.W.codeIn K cd23 "_law_raised" = true) (k23 : PySem.W.keepIn K (.ref f23) = true)
    {od24 an24 : Option Addr} {sl24 : Array (Option Value)} {oc24 kV24 dc24 pm24 cd24 ct24 : Value} {f24 : Addr}
    (a24 : PySem.W.nsIn K mainGlobals "_law_no_text" = some (some (.ref f24))) (l24 : K.lookup f24 = some ⟨oc24, od24, .func (PySem.W.fnOf "_law_no_text" "_law_no_text" (defArgs sLNoText) (defBody sLNoText) (defScope sLNoText) .none kV24 dc24 pm24 an24 cd24 ct24), sl24⟩) (c24 : PySem.W.codeIn K cd24 "_law_no_text" = true) (k24 : PySem.W.keepIn K (.ref f24) = true)
    {cdLTextsRight pdLTextsRight : Addr}
    {od25 an25 : Option Addr} {sl25 : Array (Option Value)} {oc25 kV25 dc25 pm25 ct25 : Value} {f25 : Addr}
    (a25 : PySem.W.nsIn K mainGlobals "_law_texts_right" = some (some (.ref f25))) (l25 : K.lookup f25 = some ⟨oc25, od25, .func (PySem.W.fnOf "_law_texts_right" "_law_texts_right" (defArgs sLTextsRight) (defBody sLTextsRight) (defScope sLTextsRight) .none kV25 dc25 pm25 an25 (.ref cdLTextsRight) ct25), sl25⟩) (c25 : PySem.W.codeIn K (.ref cdLTextsRight) "_law_texts_right" = true) (k25 : PySem.W.keepIn K (.ref f25) = true)
    {ecLTextsRight : Value} {dcLTextsRight : Option Addr} {vcLTextsRight : Array Value} {scLTextsRight : Array (Option Value)} (lcLTextsRight : K.lookup cdLTextsRight = some ⟨ecLTextsRight, dcLTextsRight, .fields vcLTextsRight, scLTextsRight⟩) (lpLTextsRight : vcLTextsRight[11]? = some (.ref pdLTextsRight)) (hdLTextsRight : ∀ K' : PySem.W.Frag, K'.lookup cdLTextsRight = some ⟨ecLTextsRight, dcLTextsRight, .fields vcLTextsRight, scLTextsRight⟩ → PySem.W.codeHdIn K' cdLTextsRight pdLTextsRight = true) (npLTextsRight : K.lookup pdLTextsRight = none)
    {od26 an26 : Option Addr} {sl26 : Array (Option Value)} {oc26 kV26 dc26 pm26 cd26 ct26 : Value} {f26 : Addr}
    (a26 : PySem.W.nsIn K mainGlobals "_law_bounds_right" = some (some (.ref f26))) (l26 : K.lookup f26 = some ⟨oc26, od26, .func (PySem.W.fnOf "_law_bounds_right" "_law_bounds_right" (defArgs sLBoundsRight) (defBody sLBoundsRight) (defScope sLBoundsRight) .none kV26 dc26 pm26 an26 cd26 ct26), sl26⟩) (c26 : PySem.W.codeIn K cd26 "_law_bounds_right" = true) (k26 : PySem.W.keepIn K (.ref f26) = true)
    {cdLaw pdLaw : Addr}
    {od27 an27 : Option Addr} {sl27 : Array (Option Value)} {oc27 kV27 dc27 pm27 ct27 : Value} {f27 : Addr}
    (a27 : PySem.W.nsIn K mainGlobals "law" = some (some (.ref f27))) (l27 : K.lookup f27 = some ⟨oc27, od27, .func (PySem.W.fnOf "law" "law" (defArgs sLaw) (defBody sLaw) (defScope sLaw) .none kV27 dc27 pm27 an27 (.ref cdLaw) ct27), sl27⟩) (c27 : PySem.W.codeIn K (.ref cdLaw) "law" = true) (k27 : PySem.W.keepIn K (.ref f27) = true)
    {ecLaw : Value} {dcLaw : Option Addr} {vcLaw : Array Value} {scLaw : Array (Option Value)} (lcLaw : K.lookup cdLaw = some ⟨ecLaw, dcLaw, .fields vcLaw, scLaw⟩) (lpLaw : vcLaw[11]? = some (.ref pdLaw)) (hdLaw : ∀ K' : PySem.W.Frag, K'.lookup cdLaw = some ⟨ecLaw, dcLaw, .fields vcLaw, scLaw⟩ → PySem.W.codeHdIn K' cdLaw pdLaw = true) (npLaw : K.lookup pdLaw = none)
    (pqLTextsRight : pdLTextsRight ≠ pdLaw)
    {t_VARIABLES : Tok} (z_VARIABLES : PySem.W.nsIn K mainGlobals "VARIABLES" = some (some (.str "abcdefghijklmnopqrstuvwxyz" t_VARIABLES)))
    {t_LONGEST_PATTERN : Tok} (z_LONGEST_PATTERN : PySem.W.nsIn K mainGlobals "LONGEST_PATTERN" = some (some (.int 40 t_LONGEST_PATTERN)))
    {t_MOST_VARIABLES : Tok} (z_MOST_VARIABLES : PySem.W.nsIn K mainGlobals "MOST_VARIABLES" = some (some (.int 8 t_MOST_VARIABLES)))
    {t_LONGEST_TEXT : Tok} (z_LONGEST_TEXT : PySem.W.nsIn K mainGlobals "LONGEST_TEXT" = some (some (.int 4096 t_LONGEST_TEXT)))
    {t_GREATEST_LETTER : Tok} (z_GREATEST_LETTER : PySem.W.nsIn K mainGlobals "GREATEST_LETTER" = some (some (.int 999999 t_GREATEST_LETTER)))
    {t_GREATEST_COUNT : Tok} (z_GREATEST_COUNT : PySem.W.nsIn K mainGlobals "GREATEST_COUNT" = some (some (.int 12 t_GREATEST_COUNT)))
    {t_LONGEST_RANKED : Tok} (z_LONGEST_RANKED : PySem.W.nsIn K mainGlobals "LONGEST_RANKED" = some (some (.int 400 t_LONGEST_RANKED)))
    (z_all : PySem.W.nsIn K mainGlobals "all" = some none)
    (z_len : PySem.W.nsIn K mainGlobals "len" = some none)
    (z_set : PySem.W.nsIn K mainGlobals "set" = some none)
    (z_isinstance : PySem.W.nsIn K mainGlobals "isinstance" = some none)
    (z_str : PySem.W.nsIn K mainGlobals "str" = some none)
    (z_bool : PySem.W.nsIn K mainGlobals "bool" = some none)
    (z_int : PySem.W.nsIn K mainGlobals "int" = some none)
    (z_tuple : PySem.W.nsIn K mainGlobals "tuple" = some none)
    (z_range : PySem.W.nsIn K mainGlobals "range" = some none)
    (z_enumerate : PySem.W.nsIn K mainGlobals "enumerate" = some none)
    (z_list : PySem.W.nsIn K mainGlobals "list" = some none)
    (z_abs : PySem.W.nsIn K mainGlobals "abs" = some none)
    (z_repr : PySem.W.nsIn K mainGlobals "repr" = some none)
    (z_ValueError : PySem.W.nsIn K mainGlobals "ValueError" = some none)
    (z_OverflowError : PySem.W.nsIn K mainGlobals "OverflowError" = some none) :
    ∃ T : Txt K mg, T.aLaw = fa ∧ ∀ (s : Shared) (v : Value), BindsTo s T.dLaw ⟨[v], []⟩ [("_law_script", v)] := by
  have e := hfa.symm.trans (PySem.W.mg_of X G a27)
  cases e
  have F0 := fun_mk (st := sIsPattern) l0 c0 k0
  have F1 := fun_mk (st := sIsPlainInteger) l1 c1 k1
  have F2 := fun_mk (st := sIsLetter) l2 c2 k2
  have F3 := fun_mk (st := sIsText) l3 c3 k3
  have F4 := fun_mk (st := sCheckPattern) l4 c4 k4
  have F5 := fun_mk (st := sCheckText) l5 c5 k5
  have F6 := fun_mk (st := sCheckCount) l6 c6 k6
  have F7 := fun_mk (st := sCheckSize) l7 c7 k7
  have F8 := fun_mk (st := sLongestBorders) l8 c8 k8
  have F9 := fun_mk (st := sExtended) l9 c9 k9
  have F10 := fun_mk (st := sHalfBorders) l10 c10 k10
  have F11 := fun_mk (st := sPrefixRanks) l11 c11 k11
  have F12 := fun_mk (st := sBorders) l12 c12 k12
  have F13 := fun_mk (st := sRank) l13 c13 k13
  have F14 := fun_mk (st := sRankValues) l14 c14 k14
  have F15 := fun_mk (st := sBestBlock) l15 c15 k15
  have F16 := fun_mk (st := sFindUniversal) l16 c16 k16
  have F17 := fun_mk (st := sPower) l17 c17 k17
  have F18 := fun_mk (st := sLengthBound) l18 c18 k18
  have F19 := fun_mk (st := sFindUnavoidable) l19 c19 k19
  have F20 := fun_mk (st := sLSource) l20 c20 k20
  have F21 := fun_mk (st := sLDraw) l21 c21 k21
  have F22 := fun_mk (st := sLPick) l22 c22 k22
  have F23 := fun_mk (st := sLRaised) l23 c23 k23
  have F24 := fun_mk (st := sLNoText) l24 c24 k24
  have F25 := fun_mk (st := sLTextsRight) l25 c25 k25
  have F26 := fun_mk (st := sLBoundsRight) l26 c26 k26
  have F27 := fun_mk (st := sLaw) l27 c27 k27
  have FIInvalidPattern := fun_mk (st := sInitInvalidPattern) iLInvalidPattern iDInvalidPattern iKInvalidPattern
  have FIInvalidText := fun_mk (st := sInitInvalidText) iLInvalidText iDInvalidText iKInvalidText
  have FIInvalidCount := fun_mk (st := sInitInvalidCount) iLInvalidCount iDInvalidCount iKInvalidCount
  have FITooLarge := fun_mk (st := sInitTooLarge) iLTooLarge iDTooLarge iKTooLarge
  exact ⟨⟨_, PySem.W.mg_of X G eInvalidPattern, _, PySem.W.mg_of X G eInvalidText, _, PySem.W.mg_of X G eInvalidCount, _, PySem.W.mg_of X G eTooLarge, _, _, FIInvalidPattern, FIInvalidPattern.binds (ps := ["self", "value"]) fun _ _ _ _ _ _ us hl => match us, hl with | [_, _], _ => rfl, ⟨⟨⟨_, _, _, _, _, _, _, _, _, _, _, _, _, _, _, xLInvalidPattern, by decide +kernel⟩, saInvalidPattern, exInvalidPattern, tyInvalidPattern, kCInvalidPattern⟩, ⟨gaInvalidPattern, ggInvalidPattern, exInvalidPattern, hdInvalidPattern⟩, ⟨gaInvalidPattern, ggInvalidPattern, exInvalidPattern, hdInvalidPattern, caInvalidPattern, cnInvalidPattern, ctInvalidPattern, cmInvalidPattern⟩, nbInvalidPattern, PySem.W.exm_ref exInvalidPattern hdInvalidPattern tyInvalidPattern sCInvalidPattern, iCInvalidPattern, tIInvalidPattern⟩, _, _, FIInvalidText, FIInvalidText.binds (ps := ["self", "value"]) fun _ _ _ _ _ _ us hl => match us, hl with | [_, _], _ => rfl, ⟨⟨⟨_, _, _, _, _, _, _, _, _, _, _, _, _, _, _, xLInvalidText, by decide +kernel⟩, saInvalidText, exInvalidText, tyInvalidText, kCInvalidText⟩, ⟨gaInvalidText, ggInvalidText, exInvalidText, hdInvalidText⟩, ⟨gaInvalidText, ggInvalidText, exInvalidText, hdInvalidText, caInvalidText, cnInvalidText, ctInvalidText, cmInvalidText⟩, nbInvalidText, PySem.W.exm_ref exInvalidText hdInvalidText tyInvalidText sCInvalidText, iCInvalidText, tIInvalidText⟩, _, _, FIInvalidCount, FIInvalidCount.binds (ps := ["self", "value"]) fun _ _ _ _ _ _ us hl => match us, hl with | [_, _], _ => rfl, ⟨⟨⟨_, _, _, _, _, _, _, _, _, _, _, _, _, _, _, xLInvalidCount, by decide +kernel⟩, saInvalidCount, exInvalidCount, tyInvalidCount, kCInvalidCount⟩, ⟨gaInvalidCount, ggInvalidCount, exInvalidCount, hdInvalidCount⟩, ⟨gaInvalidCount, ggInvalidCount, exInvalidCount, hdInvalidCount, caInvalidCount, cnInvalidCount, ctInvalidCount, cmInvalidCount⟩, nbInvalidCount, PySem.W.exm_ref exInvalidCount hdInvalidCount tyInvalidCount sCInvalidCount, iCInvalidCount, tIInvalidCount⟩, _, _, FITooLarge, FITooLarge.binds (ps := ["self", "limit"]) fun _ _ _ _ _ _ us hl => match us, hl with | [_, _], _ => rfl, ⟨⟨⟨_, _, _, _, _, _, _, _, _, _, _, _, _, _, _, xLTooLarge, by decide +kernel⟩, PySem.F.excBase_OverflowError, by decide +kernel, fun self => by kernel_rfl, saTooLarge, exTooLarge, tyTooLarge, kCTooLarge⟩, ⟨gaTooLarge, ggTooLarge, exTooLarge, hdTooLarge⟩, ⟨gaTooLarge, ggTooLarge, exTooLarge, hdTooLarge, caTooLarge, cnTooLarge, ctTooLarge, cmTooLarge⟩, nbTooLarge, PySem.W.exm_ref exTooLarge hdTooLarge tyTooLarge sCTooLarge, iCTooLarge, tITooLarge⟩, PySem.W.exm_ref exInvalidPattern hdInvalidPattern tyInvalidPattern suInvalidCountInvalidPattern, PySem.W.exm_ref exInvalidText hdInvalidText tyInvalidText suInvalidCountInvalidText, PySem.W.exm_ref exTooLarge hdTooLarge tyTooLarge suInvalidCountTooLarge, PySem.W.exm_ref exInvalidCount hdInvalidCount tyInvalidCount suInvalidPatternInvalidCount, PySem.W.exm_ref exInvalidText hdInvalidText tyInvalidText suInvalidPatternInvalidText, PySem.W.exm_ref exTooLarge hdTooLarge tyTooLarge suInvalidPatternTooLarge, PySem.W.exm_ref exInvalidCount hdInvalidCount tyInvalidCount suInvalidTextInvalidCount, PySem.W.exm_ref exInvalidPattern hdInvalidPattern tyInvalidPattern suInvalidTextInvalidPattern, PySem.W.exm_ref exTooLarge hdTooLarge tyTooLarge suInvalidTextTooLarge, PySem.W.exm_ref exInvalidCount hdInvalidCount tyInvalidCount suTooLargeInvalidCount, PySem.W.exm_ref exInvalidPattern hdInvalidPattern tyInvalidPattern suTooLargeInvalidPattern, PySem.W.exm_ref exInvalidText hdInvalidText tyInvalidText suTooLargeInvalidText, kit1_self, kit1_ref suInvalidCountInvalidPattern sCInvalidCount icInvalidPattern itInvalidPattern, kit1_ref suInvalidCountInvalidText sCInvalidCount icInvalidText itInvalidText, kit1_ref suInvalidCountTooLarge sCInvalidCount icTooLarge itTooLarge, kit1_ref suInvalidPatternInvalidCount sCInvalidPattern icInvalidCount itInvalidCount, kit1_self, kit1_ref suInvalidPatternInvalidText sCInvalidPattern icInvalidText itInvalidText, kit1_ref suInvalidPatternTooLarge sCInvalidPattern icTooLarge itTooLarge, kit1_ref suInvalidTextInvalidCount sCInvalidText icInvalidCount itInvalidCount, kit1_ref suInvalidTextInvalidPattern sCInvalidText icInvalidPattern itInvalidPattern, kit1_self, kit1_ref suInvalidTextTooLarge sCInvalidText icTooLarge itTooLarge, kit1_ref suTooLargeInvalidCount sCTooLarge icInvalidCount itInvalidCount, kit1_ref suTooLargeInvalidPattern sCTooLarge icInvalidPattern itInvalidPattern, kit1_ref suTooLargeInvalidText sCTooLarge icInvalidText itInvalidText, kit1_self, kit1_type suInvalidCountValueError (by decide +kernel), kit1_type suInvalidPatternValueError (by decide +kernel), kit1_type suInvalidTextValueError (by decide +kernel), kit1_type suTooLargeOverflowError (by decide +kernel), _, _, F0, F0.binds (ps := ["value"]) fun _ _ _ _ _ _ us hl => match us, hl with | [_], _ => rfl, PySem.W.mg_of X G a0, _, _, F1, F1.binds (ps := ["value"]) fun _ _ _ _ _ _ us hl => match us, hl with | [_], _ => rfl, PySem.W.mg_of X G a1, _, _, F2, F2.binds (ps := ["value"]) fun _ _ _ _ _ _ us hl => match us, hl with | [_], _ => rfl, PySem.W.mg_of X G a2, _, _, F3, F3.binds (ps := ["value"]) fun _ _ _ _ _ _ us hl => match us, hl with | [_], _ => rfl, PySem.W.mg_of X G a3, _, _, F4, F4.binds (ps := ["value"]) fun _ _ _ _ _ _ us hl => match us, hl with | [_], _ => rfl, PySem.W.mg_of X G a4, _, _, F5, F5.binds (ps := ["value"]) fun _ _ _ _ _ _ us hl => match us, hl with | [_], _ => rfl, PySem.W.mg_of X G a5, _, _, F6, F6.binds (ps := ["value", "least", "most"]) fun _ _ _ _ _ _ us hl => match us, hl with | [_, _, _], _ => rfl, PySem.W.mg_of X G a6, _, _, F7, F7.binds (ps := ["text"]) fun _ _ _ _ _ _ us hl => match us, hl with | [_], _ => rfl, PySem.W.mg_of X G a7, _, _, F8, F8.binds (ps := ["text"]) fun _ _ _ _ _ _ us hl => match us, hl with | [_], _ => rfl, PySem.W.mg_of X G a8, _, _, F9, F9.binds (ps := ["text", "longest", "border", "size"]) fun _ _ _ _ _ _ us hl => match us, hl with | [_, _, _, _], _ => rfl, PySem.W.mg_of X G a9, _, _, F10, F10.binds (ps := ["text"]) fun _ _ _ _ _ _ us hl => match us, hl with | [_], _ => rfl, PySem.W.mg_of X G a10, _, _, F11, F11.binds (ps := ["text"]) fun _ _ _ _ _ _ us hl => match us, hl with | [_], _ => rfl, PySem.W.mg_of X G a11, _, _, F12, F12.binds (ps := ["text"]) fun _ _ _ _ _ _ us hl => match us, hl with | [_], _ => rfl, PySem.W.mg_of X G a12, _, _, F13, F13.binds (ps := ["text"]) fun _ _ _ _ _ _ us hl => match us, hl with | [_], _ => rfl, PySem.W.mg_of X G a13, _, _, F14, F14.binds (ps := ["text", "count"]) fun _ _ _ _ _ _ us hl => match us, hl with | [_, _], _ => rfl, PySem.W.mg_of X G a14, _, _, F15, F15.binds (ps := ["text"]) fun _ _ _ _ _ _ us hl => match us, hl with | [_], _ => rfl, PySem.W.mg_of X G a15, _, _, F16, F16.binds (ps := ["text", "count"]) fun _ _ _ _ _ _ us hl => match us, hl with | [_, _], _ => rfl, PySem.W.mg_of X G a16, _, _, F17, F17.binds (ps := ["base", "exponent"]) fun _ _ _ _ _ _ us hl => match us, hl with | [_, _], _ => rfl, PySem.W.mg_of X G a17, _, _, F18, F18.binds (ps := ["count", "letters"]) fun _ _ _ _ _ _ us hl => match us, hl with | [_, _], _ => rfl, PySem.W.mg_of X G a18, _, _, F19, F19.binds (ps := ["pattern", "text"]) fun _ _ _ _ _ _ us hl => match us, hl with | [_, _], _ => rfl, PySem.W.mg_of X G a19, _, _, F20, F20.binds (ps := ["_law_script"]) fun _ _ _ _ _ _ us hl => match us, hl with | [_], _ => rfl, PySem.W.mg_of X G a20, _, _, F21, F21.binds (ps := ["_law_source_here", "_law_size"]) fun _ _ _ _ _ _ us hl => match us, hl with | [_, _], _ => rfl, PySem.W.mg_of X G a21, _, _, F22, F22.binds (ps := ["_law_source_here", "_law_items"]) fun _ _ _ _ _ _ us hl => match us, hl with | [_, _], _ => rfl, PySem.W.mg_of X G a22, _, _, F23, F23.binds (ps := ["_law_call"]) fun _ _ _ _ _ _ us hl => match us, hl with | [_], _ => rfl, PySem.W.mg_of X G a23, _, _, F24, F24.binds (ps := ["_law_source_here"]) fun _ _ _ _ _ _ us hl => match us, hl with | [_], _ => rfl, PySem.W.mg_of X G a24, _, _, F25, F25.binds (ps := ["_law_strange", "_law_odd"]) fun _ _ _ _ _ _ us hl => match us, hl with | [_, _], _ => rfl, PySem.W.mg_of X G a25, _, _, F26, F26.binds (ps := []) fun _ _ _ _ _ _ us hl => match us, hl with | [], _ => rfl, PySem.W.mg_of X G a26, _, _, F27, F27.binds (ps := ["_law_script"]) fun _ _ _ _ _ _ us hl => match us, hl with | [_], _ => rfl, PySem.W.mg_of X G a27, _, _, rfl, hdLaw K lcLaw, npLaw, _, _, rfl, hdLTextsRight K lcLTextsRight, npLTextsRight, pqLTextsRight, _, PySem.W.mg_of X G z_VARIABLES, _, PySem.W.mg_of X G z_LONGEST_PATTERN, _, PySem.W.mg_of X G z_MOST_VARIABLES, _, PySem.W.mg_of X G z_LONGEST_TEXT, _, PySem.W.mg_of X G z_GREATEST_LETTER, _, PySem.W.mg_of X G z_GREATEST_COUNT, _, PySem.W.mg_of X G z_LONGEST_RANKED, PySem.W.mg_none_of X G z_all, PySem.W.mg_none_of X G z_len, PySem.W.mg_none_of X G z_set, PySem.W.mg_none_of X G z_isinstance, PySem.W.mg_none_of X G z_str, PySem.W.mg_none_of X G z_bool, PySem.W.mg_none_of X G z_int, PySem.W.mg_none_of X G z_tuple, PySem.W.mg_none_of X G z_range, PySem.W.mg_none_of X G z_enumerate, PySem.W.mg_none_of X G z_list, PySem.W.mg_none_of X G z_abs, PySem.W.mg_none_of X G z_repr, PySem.W.mg_none_of X G z_ValueError, PySem.W.mg_none_of X G z_OverflowError⟩, rfl, fun s v => .of_eq rfl⟩
theorem all_mk {l : PySem.W.OpenLaw} {q : Program} {w : World} {K : PySem.W.Frag} {mg : Str → Option Value} {fa : Addr} {h : Heap} (hT : ∃ T : Txt K mg, T.aLaw = fa ∧ ∀ (s : Shared) (v : Value), BindsTo s T.dLaw ⟨[v], []⟩ [("_law_script", v)]) (em : Empties q K mg h) (rLaw : ((recsOf q).any fun e => e.name == "law") = true) (rLTextsRight : ((recsOf q).any fun e => e.name == "_law_texts_right") = true) :
    LawT l w K CX0 10 63 "_law_script" mg fa h := by
  obtain ⟨T, rfl, hb⟩ := hT
  have tLaw : h.get? T.pdLaw = some tab0 := by
    obtain ⟨oc, od, kV, doc, pm, an, cdv, ct, osl, e, lk, hcd⟩ := T.fLaw.ex
    exact em _ _ _ _ _ _ rLaw T.gLaw lk rfl (by first | exact T.kdLaw | (rw [← e]; exact T.kdLaw)) T.hdLaw
  have tLTextsRight : h.get? T.pdLTextsRight = some tab0 := by
    obtain ⟨oc, od, kV, doc, pm, an, cdv, ct, osl, e, lk, hcd⟩ := T.fLTextsRight.ex
    exact em _ _ _ _ _ _ rLTextsRight T.gLTextsRight lk rfl (by first | exact T.kdLTextsRight | (rw [← e]; exact T.kdLTextsRight)) T.hdLTextsRight
  refine ⟨T.dLaw, [(T.cdLaw, T.pdLaw), (T.cdLTextsRight, T.pdLTextsRight)], spLaw K T.pdLaw T.pdLTextsRight, ?_, ?_, ?_, hb, ?_, ?_⟩
  · intro p hp
    simp only [List.mem_cons, List.not_mem_nil, or_false] at hp
    rcases hp with rfl | rfl
    · exact tLaw
    · exact tLTextsRight
  · intro p hp
    simp only [List.mem_cons, List.not_mem_nil, or_false] at hp
    rcases hp with rfl | rfl
    · exact T.npLaw
    · exact T.npLTextsRight
  · intro p hp
    simp only [List.mem_cons, List.not_mem_nil, or_false] at hp
    rcases hp with rfl | rfl
    · exact T.hdLaw
    · exact T.hdLTextsRight
  · intro H a ns hl hH hS
    exact ⟨a, ns, rfl, hS, hl, hH (T.cdLaw, T.pdLaw) (by simp), hH (T.cdLTextsRight, T.pdLTextsRight) (by simp), fun _ => rfl⟩
  · intro base _ _ TB hbm
    exact ok_law (k := 0) T (TB (T.cdLaw, T.pdLaw) (by simp)) (TB (T.cdLTextsRight, T.pdLTextsRight) (by simp)) hbm
end Mo
open PySem PySem.W PyProof.Rows
set_option maxHeartbeats 0 in
theorem PySem.Challenge.cw_mustoccur_k39_bounds_and_long_texts_refu_holds : PySem.Challenge.rw_mustoccur_k39_bounds_and_long_texts_refu.Holds := by
  w_on; o_law; k_head; (case hw => w_witness2)
  k_fill
  refine Mo.walkT (l := PySem.Challenge.rw_mustoccur_k39_bounds_and_long_texts_refu) (n := 63) (k := 10) (x := "_law_script") (CX := fun _ => L2.CX0) rfl (by decide) rfl ⟨rfl, by decide, by decide⟩ (fun w h Y => PySem.W.km_in_of Y) (by decide +kernel) ?F (fun _ _ _ _ _ h => h)
  case F =>
    intro w mg fa h KX G hmg em
    refine Mo.all_mk ?_ em (by decide +kernel) (by decide +kernel)
    refine' Mo.txt_mk KX G hmg ?eInvalidPattern ?eInvalidText ?eInvalidCount ?eTooLarge ?xLInvalidPattern ?saInvalidPattern ?gaInvalidPattern ?ggInvalidPattern ?nbInvalidPattern ?exInvalidPattern ?tyInvalidPattern ?hdInvalidPattern ?kCInvalidPattern ?sCInvalidPattern ?caInvalidPattern ?cnInvalidPattern ?ctInvalidPattern ?cmInvalidPattern ?iCInvalidPattern ?tIInvalidPattern ?iLInvalidPattern ?iDInvalidPattern ?iKInvalidPattern ?xLInvalidText ?saInvalidText ?gaInvalidText ?ggInvalidText ?nbInvalidText ?exInvalidText ?tyInvalidText ?hdInvalidText ?kCInvalidText ?sCInvalidText ?caInvalidText ?cnInvalidText ?ctInvalidText ?cmInvalidText ?iCInvalidText ?tIInvalidText ?iLInvalidText ?iDInvalidText ?iKInvalidText ?xLInvalidCount ?saInvalidCount ?gaInvalidCount ?ggInvalidCount ?nbInvalidCount ?exInvalidCount ?tyInvalidCount ?hdInvalidCount ?kCInvalidCount ?sCInvalidCount ?caInvalidCount ?cnInvalidCount ?ctInvalidCount ?cmInvalidCount ?iCInvalidCount ?tIInvalidCount ?iLInvalidCount ?iDInvalidCount ?iKInvalidCount ?xLTooLarge ?saTooLarge ?gaTooLarge ?ggTooLarge ?nbTooLarge ?exTooLarge ?tyTooLarge ?hdTooLarge ?kCTooLarge ?sCTooLarge ?caTooLarge ?cnTooLarge ?ctTooLarge ?cmTooLarge ?iCTooLarge ?tITooLarge ?iLTooLarge ?iDTooLarge ?iKTooLarge ?suInvalidCountInvalidPattern ?suInvalidCountInvalidText ?suInvalidCountTooLarge ?suInvalidPatternInvalidCount ?suInvalidPatternInvalidText ?suInvalidPatternTooLarge ?suInvalidTextInvalidCount ?suInvalidTextInvalidPattern ?suInvalidTextTooLarge ?suTooLargeInvalidCount ?suTooLargeInvalidPattern ?suTooLargeInvalidText ?icInvalidPattern ?itInvalidPattern ?icInvalidText ?itInvalidText ?icTooLarge ?itTooLarge ?icInvalidCount ?itInvalidCount ?suInvalidCountValueError ?suInvalidPatternValueError ?suInvalidTextValueError ?suTooLargeOverflowError ?a0 ?l0 ?c0 ?k0 ?a1 ?l1 ?c1 ?k1 ?a2 ?l2 ?c2 ?k2 ?a3 ?l3 ?c3 ?k3 ?a4 ?l4 ?c4 ?k4 ?a5 ?l5 ?c5 ?k5 ?a6 ?l6 ?c6 ?k6 ?a7 ?l7 ?c7 ?k7 ?a8 ?l8 ?c8 ?k8 ?a9 ?l9 ?c9 ?k9 ?a10 ?l10 ?c10 ?k10 ?a11 ?l11 ?c11 ?k11 ?a12 ?l12 ?c12 ?k12 ?a13 ?l13 ?c13 ?k13 ?a14 ?l14 ?c14 ?k14 ?a15 ?l15 ?c15 ?k15 ?a16 ?l16 ?c16 ?k16 ?a17 ?l17 ?c17 ?k17 ?a18 ?l18 ?c18 ?k18 ?a19 ?l19 ?c19 ?k19 ?a20 ?l20 ?c20 ?k20 ?a21 ?l21 ?c21 ?k21 ?a22 ?l22 ?c22 ?k22 ?a23 ?l23 ?c23 ?k23 ?a24 ?l24 ?c24 ?k24 ?a25 ?l25 ?c25 ?k25 ?lcLTextsRight ?lpLTextsRight ?hdLTextsRight ?npLTextsRight ?a26 ?l26 ?c26 ?k26 ?a27 ?l27 ?c27 ?k27 ?lcLaw ?lpLaw ?hdLaw ?npLaw ?pqLTextsRight ?z_VARIABLES ?z_LONGEST_PATTERN ?z_MOST_VARIABLES ?z_LONGEST_TEXT ?z_GREATEST_LETTER ?z_GREATEST_COUNT ?z_LONGEST_RANKED ?z_all ?z_len ?z_set ?z_isinstance ?z_str ?z_bool ?z_int ?z_tuple ?z_range ?z_enumerate ?z_list ?z_abs ?z_repr ?z_ValueError ?z_OverflowError
    (case eInvalidPattern => k_is); (case eInvalidText => k_is); (case eInvalidCount => k_is); (case eTooLarge => k_is); (case xLInvalidPattern => k_is); (case saInvalidPattern => k_is); (case gaInvalidPattern => k_is); (case ggInvalidPattern => k_is); (case nbInvalidPattern => k_is); (case exInvalidPattern => k_is); (case tyInvalidPattern => k_is); (case hdInvalidPattern => k_is); (case kCInvalidPattern => k_is); (case sCInvalidPattern => k_is); (case caInvalidPattern => k_is); (case cnInvalidPattern => k_is); (case ctInvalidPattern => k_is); (case cmInvalidPattern => k_is); (case iCInvalidPattern => k_is); (case tIInvalidPattern => k_is); (case iLInvalidPattern => k_is); (case iDInvalidPattern => k_is); (case iKInvalidPattern => k_is); (case xLInvalidText => k_is); (case saInvalidText => k_is); (case gaInvalidText => k_is); (case ggInvalidText => k_is); (case nbInvalidText => k_is); (case exInvalidText => k_is); (case tyInvalidText => k_is); (case hdInvalidText => k_is); (case kCInvalidText => k_is); (case sCInvalidText => k_is); (case caInvalidText => k_is); (case cnInvalidText => k_is); (case ctInvalidText => k_is); (case cmInvalidText => k_is); (case iCInvalidText => k_is); (case tIInvalidText => k_is); (case iLInvalidText => k_is); (case iDInvalidText => k_is); (case iKInvalidText => k_is); (case xLInvalidCount => k_is); (case saInvalidCount => k_is); (case gaInvalidCount => k_is); (case ggInvalidCount => k_is); (case nbInvalidCount => k_is); (case exInvalidCount => k_is); (case tyInvalidCount => k_is); (case hdInvalidCount => k_is); (case kCInvalidCount => k_is); (case sCInvalidCount => k_is); (case caInvalidCount => k_is); (case cnInvalidCount => k_is); (case ctInvalidCount => k_is); (case cmInvalidCount => k_is); (case iCInvalidCount => k_is); (case tIInvalidCount => k_is); (case iLInvalidCount => k_is); (case iDInvalidCount => k_is); (case iKInvalidCount => k_is); (case xLTooLarge => k_is); (case saTooLarge => k_is); (case gaTooLarge => k_is); (case ggTooLarge => k_is); (case nbTooLarge => k_is); (case exTooLarge => k_is); (case tyTooLarge => k_is); (case hdTooLarge => k_is); (case kCTooLarge => k_is); (case sCTooLarge => k_is); (case caTooLarge => k_is); (case cnTooLarge => k_is); (case ctTooLarge => k_is); (case cmTooLarge => k_is); (case iCTooLarge => k_is); (case tITooLarge => k_is); (case iLTooLarge => k_is); (case iDTooLarge => k_is); (case iKTooLarge => k_is); (case suInvalidCountInvalidPattern => k_is); (case suInvalidCountInvalidText => k_is); (case suInvalidCountTooLarge => k_is); (case suInvalidPatternInvalidCount => k_is); (case suInvalidPatternInvalidText => k_is); (case suInvalidPatternTooLarge => k_is); (case suInvalidTextInvalidCount => k_is); (case suInvalidTextInvalidPattern => k_is); (case suInvalidTextTooLarge => k_is); (case suTooLargeInvalidCount => k_is); (case suTooLargeInvalidPattern => k_is); (case suTooLargeInvalidText => k_is); (case icInvalidPattern => k_is); (case itInvalidPattern => k_is); (case icInvalidText => k_is); (case itInvalidText => k_is); (case icTooLarge => k_is); (case itTooLarge => k_is); (case icInvalidCount => k_is); (case itInvalidCount => k_is); (case suInvalidCountValueError => k_is); (case suInvalidPatternValueError => k_is); (case suInvalidTextValueError => k_is); (case suTooLargeOverflowError => k_is); (case a0 => k_is); (case l0 => k_is); (case c0 => k_is); (case k0 => k_is); (case a1 => k_is); (case l1 => k_is); (case c1 => k_is); (case k1 => k_is); (case a2 => k_is); (case l2 => k_is); (case c2 => k_is); (case k2 => k_is); (case a3 => k_is); (case l3 => k_is); (case c3 => k_is); (case k3 => k_is); (case a4 => k_is); (case l4 => k_is); (case c4 => k_is); (case k4 => k_is); (case a5 => k_is); (case l5 => k_is); (case c5 => k_is); (case k5 => k_is); (case a6 => k_is); (case l6 => k_is); (case c6 => k_is); (case k6 => k_is); (case a7 => k_is); (case l7 => k_is); (case c7 => k_is); (case k7 => k_is); (case a8 => k_is); (case l8 => k_is); (case c8 => k_is); (case k8 => k_is); (case a9 => k_is); (case l9 => k_is); (case c9 => k_is); (case k9 => k_is); (case a10 => k_is); (case l10 => k_is); (case c10 => k_is); (case k10 => k_is); (case a11 => k_is); (case l11 => k_is); (case c11 => k_is); (case k11 => k_is); (case a12 => k_is); (case l12 => k_is); (case c12 => k_is); (case k12 => k_is); (case a13 => k_is); (case l13 => k_is); (case c13 => k_is); (case k13 => k_is); (case a14 => k_is); (case l14 => k_is); (case c14 => k_is); (case k14 => k_is); (case a15 => k_is); (case l15 => k_is); (case c15 => k_is); (case k15 => k_is); (case a16 => k_is); (case l16 => k_is); (case c16 => k_is); (case k16 => k_is); (case a17 => k_is); (case l17 => k_is); (case c17 => k_is); (case k17 => k_is); (case a18 => k_is); (case l18 => k_is); (case c18 => k_is); (case k18 => k_is); (case a19 => k_is); (case l19 => k_is); (case c19 => k_is); (case k19 => k_is); (case a20 => k_is); (case l20 => k_is); (case c20 => k_is); (case k20 => k_is); (case a21 => k_is); (case l21 => k_is); (case c21 => k_is); (case k21 => k_is); (case a22 => k_is); (case l22 => k_is); (case c22 => k_is); (case k22 => k_is); (case a23 => k_is); (case l23 => k_is); (case c23 => k_is); (case k23 => k_is); (case a24 => k_is); (case l24 => k_is); (case c24 => k_is); (case k24 => k_is); (case a25 => k_is); (case l25 => k_is); (case c25 => k_is); (case k25 => k_is); (case lcLTextsRight => k_is); (case lpLTextsRight => rfl); (case hdLTextsRight => (intro K' h; unfold PySem.W.codeHdIn; rw [h]; rfl)); (case npLTextsRight => rfl); (case a26 => k_is); (case l26 => k_is); (case c26 => k_is); (case k26 => k_is); (case a27 => k_is); (case l27 => k_is); (case c27 => k_is); (case k27 => k_is); (case lcLaw => k_is); (case lpLaw => rfl); (case hdLaw => (intro K' h; unfold PySem.W.codeHdIn; rw [h]; rfl)); (case npLaw => rfl); (case pqLTextsRight => decide); (case z_VARIABLES => k_is); (case z_LONGEST_PATTERN => k_is); (case z_MOST_VARIABLES => k_is); (case z_LONGEST_TEXT => k_is); (case z_GREATEST_LETTER => k_is); (case z_GREATEST_COUNT => k_is); (case z_LONGEST_RANKED => k_is); (case z_all => k_is); (case z_len => k_is); (case z_set => k_is); (case z_isinstance => k_is); (case z_str => k_is); (case z_bool => k_is); (case z_int => k_is); (case z_tuple => k_is); (case z_range => k_is); (case z_enumerate => k_is); (case z_list => k_is); (case z_abs => k_is); (case z_repr => k_is); (case z_ValueError => k_is); (case z_OverflowError => k_is)
