import PyProof.Rows.All
import Wide.All
import OpenK.AllK
import Wide.FinOn
import HandS.ForMost
import HandS.SetKeys
import HandS.Walk
import HandS.Style
import HandS.SetFor
import HandS.IsInst
import HandS.Wide
import PyProof.Draws
import PyProof.EnumMake
import HandS.Replace
import HandS.TupSets
import HandS.Exc
import HandS.WordsExc
import HandS.ExcInit
import HandS.ExcField
import HandS.ExcIs
import HandS.TryOnly
import HandS.CallSlots
import HandS.ExcOwn
import PyProof.ReprRoads
import HandS.TupAny
import HandS.TupMul
import PyProof.TupleOfStr
import PyProof.NeKinds
import PyProof.EqAt
import PyProof.ReprBulk
import PyProof.Rows.StrBin
import PyProof.Rows.ReprOcc
import PyProof.ReprLen
import HandS.Ends
import HandS.RaiseMore
import KE.KIndexOf
import HandS.Evl
import KE.KEqSeq
import HandS.EndOwn
import KE.KExcInit
import PyProof.ExcBaseAll.OverflowError
import PySem.Challenge.RW_mustoccur_k40_whole_long_texts_have_bloc
set_option Elab.async false
set_option linter.all false
set_option maxRecDepth 100000
set_option maxHeartbeats 8000000
/-! Rules that the laws of this program want and the layer lacks: repr and reversal of a text, enumerate of a text, the set of a text's signs and its size. -/
namespace Mo
open PySem PySem.Spec PyProof.Rows L2
/-! ### signs met, in the order of first occurrence -/
def metStep (acc : List Nat) (c : Nat) : List Nat := if c ∈ acc then acc else acc ++ [c]
def met (cs : List Nat) : List Nat := cs.foldl metStep []
theorem met_snoc (cs : List Nat) (c : Nat) : met (cs ++ [c]) = metStep (met cs) c := by
  unfold met
  rw [List.foldl_append]
  rfl
theorem mem_metStep {acc : List Nat} {c d : Nat} : d ∈ metStep acc c ↔ d ∈ acc ∨ d = c := by
  unfold metStep
  by_cases h : c ∈ acc
  · rw [if_pos h]
    constructor
    · exact Or.inl
    · rintro (q | q)
      · exact q
      · rw [q]; exact h
  · rw [if_neg h, List.mem_append, List.mem_singleton]
theorem mem_fold : ∀ (cs acc : List Nat) (d : Nat), d ∈ cs.foldl metStep acc ↔ d ∈ acc ∨ d ∈ cs
  | [], acc, d => by simp
  | c :: cs, acc, d => by
    rw [List.foldl_cons, mem_fold cs (metStep acc c) d, mem_metStep, List.mem_cons, or_assoc]
theorem mem_met {cs : List Nat} {d : Nat} : d ∈ met cs ↔ d ∈ cs := by
  unfold met
  rw [mem_fold]
  simp
theorem metStep_length (acc : List Nat) (c : Nat) : (metStep acc c).length = if c ∈ acc then acc.length else acc.length + 1 := by
  unfold metStep
  split <;> simp
theorem metStep_nodup {acc : List Nat} (h : acc.Nodup) (c : Nat) : (metStep acc c).Nodup := by
  unfold metStep
  by_cases q : c ∈ acc
  · rw [if_pos q]; exact h
  · rw [if_neg q]
    exact List.nodup_append.mpr ⟨h, by simp, by rintro a ha b hb rfl; exact q (by rw [← List.mem_singleton.mp hb]; exact ha)⟩
theorem fold_nodup : ∀ (cs acc : List Nat), acc.Nodup → (cs.foldl metStep acc).Nodup
  | [], _, h => h
  | c :: cs, _, h => fold_nodup cs _ (metStep_nodup h c)
theorem met_nodup (cs : List Nat) : (met cs).Nodup := fold_nodup cs [] List.nodup_nil
theorem met_length_le : ∀ cs : List Nat, (met cs).length ≤ cs.length := fun cs => by
  have key : ∀ (cs acc : List Nat), (cs.foldl metStep acc).length ≤ acc.length + cs.length := by
    intro cs
    induction cs with
    | nil => intro acc; simp
    | cons c cs ih =>
      intro acc
      rw [List.foldl_cons]
      have h1 := ih (metStep acc c)
      have h2 := metStep_length acc c
      rw [List.length_cons]
      split at h2 <;> omega
  have h := key cs []
  simpa [met] using h
/-- the keys that are signs of cs -/
def inS (cs : List Nat) (k : Key) : Bool := cs.any fun c => decide (k = Sum.inr (⟨#[c]⟩ : Str))
theorem sign_inj {c d : Nat} (h : (⟨#[c]⟩ : Str) = ⟨#[d]⟩) : c = d := by
  injection h with h
  simpa using h
theorem inS_sign (cs : List Nat) (c : Nat) : inS cs (Sum.inr ⟨#[c]⟩) = decide (c ∈ cs) := by
  unfold inS
  by_cases h : c ∈ cs
  · rw [decide_eq_true h]
    exact List.any_eq_true.mpr ⟨c, h, decide_eq_true rfl⟩
  · rw [decide_eq_false h]
    cases q : cs.any fun d => decide ((Sum.inr ⟨#[c]⟩ : Key) = Sum.inr ⟨#[d]⟩) with
    | false => rfl
    | true =>
      obtain ⟨d, hd, e⟩ := List.any_eq_true.mp q
      exact absurd (by rw [sign_inj (Sum.inr.inj (of_decide_eq_true e))]; exact hd) h
section
variable {P : Program} {w : World} {A : Around} {E : Value → Shared → Prop} {s : Shared}
theorem signs_loop {I : Addr} {fp wr : List Addr} {G : Array GenState → Array GenState → Prop} {n : Nat} {Pv : Nat → Value → Prop} {St : Nat → Shared → Prop} {R : Result → Shared → Prop}
    (W : WalksS P w A.in1 I fp wr G n Pv St) (D : Addr) (hD : D ∉ fp) (cs : List Nat) (hn : n = cs.length) (hb : cs.length + 1 < scanBound)
    (hval : ∀ i v, Pv i v → ∃ c t, cs[i]? = some c ∧ v = .str ⟨#[c]⟩ t) :
    ∀ (k i : Nat) (s : Shared), n - i = k → i ≤ n → St i s → s.heap.SetOf (mixKind P w) D (inS (cs.take i)) (met (cs.take i)).length →
      (∀ s', Moved (D :: wr) G s s' → s'.heap.SetOf (mixKind P w) D (inS cs) (met cs).length → R (.ok (.ret .none)) s') →
      codeAny (model P w) A (.builtin "set.update.loop" ⟨[.ref D, .ref I], []⟩) R s := by
  have hDw : D ∉ wr := fun h => hD (W.sub _ h)
  have up : ∀ b ∈ wr, b ∈ D :: wr := fun b q => List.mem_cons_of_mem _ q
  intro k
  induction k with
  | zero =>
    intro i s hk hi hst hS hR
    obtain rfl : i = n := by omega
    refine codeAny_builtin PyProof.Rows.F.entry_set_update_loop (by
      rw [Around.under_plainId PyProof.Rows.F.plain_set_update_loop _]
      show wpAny _ A.in1 (pyNext (.ref I) >>= _) _ _ s
      refine wpAny_bind (W.done s _ _ hst fun s' hm => wpAny_pure (hR s' (hm.mono up) ?_))
      rw [List.take_of_length_le (by omega)] at hS
      obtain ⟨o, es, ep, t, ho, rest⟩ := hS
      exact ⟨o, es, ep, t, hm.heap D _ hDw ho, rest⟩)
  | succ k ih =>
    intro i s hk hi hst hS hR
    have hlt : i < n := by omega
    refine codeAny_builtin PyProof.Rows.F.entry_set_update_loop (by
      rw [Around.under_plainId PyProof.Rows.F.plain_set_update_loop _]
      show wpAny _ A.in1 (pyNext (.ref I) >>= _) _ _ s
      refine wpAny_bind (W.item i s _ _ hlt hst fun v s' hP hst' hm => ?_)
      obtain ⟨c, t, hc, rfl⟩ := hval i v hP
      have hS' : s'.heap.SetOf (mixKind P w) D (inS (cs.take i)) (met (cs.take i)).length := by
        obtain ⟨o, es, ep, tb, ho, rest⟩ := hS
        exact ⟨o, es, ep, tb, hm.heap D _ hDw ho, rest⟩
      show wpAny _ A.in1 (holding [Value.str ⟨#[c]⟩ t] (setAdd D (.str ⟨#[c]⟩ t)) >>= _) _ _ s'
      refine wpAny_bind (wpAny_holding (by
        unfold setAdd
        refine wpAny_holding (wpAny_bind ((mixKind P w).pyHash (k := Sum.inr ⟨#[c]⟩) (mixKind_str _ _ _ _) ?_))
        have room : (met (cs.take i)).length + 1 < scanBound := by
          have h1 := met_length_le (cs.take i)
          rw [List.length_take] at h1
          omega
        refine wpAny_setAddHashed_of (knd := mixKind P w) (s := { s' with toks := s'.toks + 1 }) (mixKind_str _ _ _ _) rfl hS' room fun h' hsb hS2 => ?_
        have e3 : cs.take (i + 1) = cs.take i ++ [c] := by
          rw [List.take_add_one, hc]
          rfl
        have hS3 : h'.SetOf (mixKind P w) D (inS (cs.take (i + 1))) (met (cs.take (i + 1))).length := by
          have f1 : (fun k' => inS (cs.take i) k' || decide (k' = Sum.inr (⟨#[c]⟩ : Str))) = inS (cs.take (i + 1)) := by
            funext k'
            rw [e3]
            unfold inS
            rw [List.any_append]
            simp
          have f2 : (if inS (cs.take i) (Sum.inr ⟨#[c]⟩) = true then (met (cs.take i)).length else (met (cs.take i)).length + 1) = (met (cs.take (i + 1))).length := by
            rw [e3, met_snoc, metStep_length, inS_sign]
            by_cases q : c ∈ cs.take i
            · rw [if_pos (decide_eq_true q), if_pos (mem_met.mpr q)]
            · rw [if_neg (by rw [decide_eq_false q]; exact Bool.false_ne_true), if_neg (fun z => q (mem_met.mp z))]
          rw [← f1, ← f2]
          exact hS2
        refine wpAny_pure ⟨plainId_quiet PyProof.Rows.F.plain_set_update_loop _, ih (i + 1) _ (by omega) hlt (W.frame _ s' _ _ hst' (Nat.le_succ _) fun b q o e => ?_) hS3 fun s2 hm2 hS4 => ?_⟩
        · rw [hsb.2 b (fun z : b = D => hD (by rw [← z]; exact q))]
          exact e
        · refine hR s2 (Moved.trans W.gtrans ((hm.mono up).then_heap (Nat.le_succ _) fun b o q e => ?_) hm2) hS4
          rw [hsb.2 b (fun z : b = D => q (by rw [z]; exact List.mem_cons_self))]
          exact e)))

set_option maxHeartbeats 8000000 in
/-- set(a text) -/
theorem call_set_signs {z : Str} {t : Tok} {Q : Value → Shared → Prop} (hh : A.handled = none) (hb : z.cps.size + 1 < scanBound)
    (h : ∀ (h' : Heap) (tk : Nat), h'.SetOf (mixKind P w) s.heap.objs.size (inS z.cps.toList) (met z.cps.toList).length → (∀ b o, s.heap.get? b = some o → h'.get? b = some o) → Q (.ref s.heap.objs.size) { s with heap := h', toks := tk }) :
    wpAny (model P w) A (call (.type "set") [.str z t]) Q E s := by
  obtain ⟨c, tl, hmro⟩ := PySem.F.called_set.mro
  have hmade := PySem.F.called_set.made; have hsub := PySem.F.called_set.sub
  refine wpAny_call (codeAny_of_tree (by
    show wpAny _ _ (callAny (.type "set") _) _ _ _
    refine wpAny_pure ⟨Code.quiet_builtin _ (by decide +kernel), codeAny_builtin PySem.F.entry_type_call ?_⟩
    rw [Around.under_plain (weight_type_call_type "set" [.str z t] []) rfl]
    have h1 := PySem.F.called_set.notType; have h2 := PySem.F.called_set.canCreate
    have hct := PySem.F.typeCall_set_1 (.str z t)
    repeat (any_goals (first | assumption | wp_step))
    refine codeAny_mono (code_set_new_1 (.str z t) (E := E) (Q₁ := fun obj s₁ => ∃ led : Bool, obj = .ref s.heap.objs.size ∧ s₁ = { s with heap := s.heap.push { cls := .type "set", dict := none, data := .set #[] 0 (.fresh 0 0 led) } }) fun led => ⟨led, rfl, rfl⟩) fun r s₁ hr => ?_
    cases r with
    | error e => exact hr
    | ok fl =>
      cases fl with
      | ret obj =>
        obtain ⟨led, rfl, rfl⟩ := hr
        generalize hNew : ({ cls := .type "set", dict := none, data := .set #[] 0 (.fresh 0 0 led) } : Obj) = nw
        have hfr : ∀ (h : Heap) (a : Addr), h.get? a = some nw → h.SetOf (mixKind P w) a (inS []) (met []).length := by
          intro h a e
          rw [← hNew] at e
          exact ⟨_, #[], 0, _, e, ⟨rfl, rfl, rfl⟩, rfl, (fun e he => by simp at he), (fun k => by simp [inS]), (by decide), (by rfl), rfl⟩
        have hcls : nw.cls = .type "set" := by rw [← hNew]
        have hnf : nw.isFreed = false := by rw [← hNew]; rfl
        have hS : (s.heap.push nw).get? s.heap.objs.size = some nw := Heap.get?_push_size _ hnf
        have hT : Shared.TypeIs { s with heap := s.heap.push nw } (.ref s.heap.objs.size) "set" := ⟨_, hS, hcls⟩
        have hli := PySem.F.called_set.init.lookup; have hbi := PySem.F.called_set.init.bind (.ref s.heap.objs.size)
        repeat (any_goals (first | assumption | wp_step))
        refine codeAny_mono (codeAny_call_builtin (R := wants (fun r s₂ => r = .none ∧ ∃ h' tk, s₂ = { s with heap := h', toks := tk } ∧ h'.SetOf (mixKind P w) s.heap.objs.size (inS z.cps.toList) (met z.cps.toList).length ∧
          (∀ b o, s.heap.get? b = some o → h'.get? b = some o)) E) PySem.F.called_set.init.plain PySem.F.entry_set_init (check_set_init_1 hT ?_)) fun r₂ s₂ hr₂ => ?_
        · subst hNew
          have n1 : isSubtype (.type "str") (.type "set") = pure false := by rw [isSubtype_type]; kernel_rfl
          have n2 : isSubtype (.type "str") (.type "frozenset") = pure false := by rw [isSubtype_type]; kernel_rfl
          have n3 : (Value.type "str" == Value.type "dict") = false := by decide
          unfold Builtin.«set.__init__» noKeywords Builtin.Frozenset.updateFrom
          generalize hPI : pyIter = PI
          wp_walk
          subst hPI
          have hh3 : A.in1.in1.in1.handled = none := by simp [hh]
          generalize hNew : ({ cls := .type "set", data := .set #[] 0 (.fresh 0 0 led) } : Obj) = nw at *
          have hz1 : (s.heap.push nw).objs.size = s.heap.objs.size + 1 := Heap.size_push ..
          have fin : ∀ (ty : String) (wk : Walks P w A.in1.in1.in1 (s.heap.push nw).objs.size [(s.heap.push nw).objs.size] [(s.heap.push nw).objs.size] z.cps.size (SignAt z) (fun i h => h.IsStrIter (s.heap.push nw).objs.size ty z t i))
              (Rk : Result → Shared → Prop), (∀ h' tk, h'.SetOf (mixKind P w) s.heap.objs.size (inS z.cps.toList) (met z.cps.toList).length → (∀ b o, s.heap.get? b = some o → h'.get? b = some o) → Rk (.ok (.ret .none)) { s with heap := h', toks := tk }) →
              codeAny (model P w) A.in1.in1 (.builtin "set.update.loop" ⟨[.ref s.heap.objs.size, .ref (s.heap.push nw).objs.size], []⟩) Rk
                { s with heap := (s.heap.push nw).push { cls := .type ty, data := .fields #[.str z t, .int 0 0] } } := by
            intro ty wk Rk hR
            refine signs_loop (wk.toS) s.heap.objs.size (by rw [hz1]; simp) z.cps.toList (by simp) (by simpa using hb) (fun i v hv => ?_) (z.cps.size - 0) 0 _ (by omega) (Nat.zero_le _) ⟨_, Heap.get?_push_size _ rfl, rfl, rfl⟩ ?_ ?_
            · obtain ⟨c, u, hc, rfl⟩ := hv
              exact ⟨c, u, by rw [Array.getElem?_toList]; exact hc, rfl⟩
            · exact hfr _ _ (Heap.get?_push_of_some _ hS)
            · intro s' hm hS'
              obtain ⟨h', g', d', tk', os'⟩ := s'
              obtain rfl : g' = s.gens := hm.gens
              obtain rfl : d' = s.drawn := hm.drawn
              obtain rfl : os' = s.os := hm.os
              refine hR h' tk' hS' fun b o e => ?_
              have hb0 : b < s.heap.objs.size := Heap.lt_size e
              have n1 : b ∉ s.heap.objs.size :: [(s.heap.push nw).objs.size] := by
                rw [hz1]
                intro q
                rcases List.mem_cons.mp q with q | q
                · exact Nat.ne_of_lt hb0 q
                · exact Nat.ne_of_lt (Nat.lt_succ_of_lt hb0) (List.mem_singleton.mp q)
              exact hm.heap b o n1 (Heap.get?_push_of_some _ (Heap.get?_push_of_some _ e))
          cases ha : z.cps.all (· < 128)
          · refine wpAny_pyIter_wide ha (wpAny_bind (wpAny_runValue (fin _ (Walks.strWide hh3 _ z t) _ fun h' tk hS2 hk2 => wpAny_pure ?_)))
            exact wpAny_pure ⟨rfl, h', tk, rfl, hS2, hk2⟩
          · refine wpAny_pyIter_ascii ha (wpAny_bind (wpAny_runValue (fin _ (Walks.strAscii hh3 _ z t) _ fun h' tk hS2 hk2 => wpAny_pure ?_)))
            exact wpAny_pure ⟨rfl, h', tk, rfl, hS2, hk2⟩
        · cases r₂ with
          | error e => exact hr₂
          | ok fl₂ =>
            cases fl₂ with
            | ret r =>
              obtain ⟨rfl, h', tk, rfl, hS', hk'⟩ := hr₂
              repeat (any_goals (first | assumption | wp_step))
              exact h _ _ hS' hk'
            | _ => exact hr₂.elim
      | _ => exact hr.elim))
end
end Mo

namespace Mo
open PySem PySem.Spec PyProof.Rows L2
/-! ### the rules over the layer -/
section
variable {X : Cx}
def rSetS (P : Program) (w : World) : List V → Hp → VK → Prop := fun xs H Q => ∃ z : Str, xs = [.str z] ∧ z.cps.size ≤ 4000 ∧ ∀ p, H p = none → Q (.ref p) (upd H p (SetK P w p (inS z.cps.toList) (met z.cps.toList).length))
/-- set(z), z a text -/
theorem cr_setS (hc : X.calm = true) : CallR X (.type "set") (rSetS X.prog X.w) := by
  intro pins s σ H xs us Q I r h
  obtain ⟨z, rfl, hz, q⟩ := h
  obtain ⟨u, rfl, t, rfl⟩ := vals1 r
  refine call_set_signs (I.ok.hd hc) (by unfold scanBound; omega) fun h' tk hS hk => ?_
  exact ⟨.ref _, _, I.laid (t' := tk) hk (Nat.le_refl _) (setK_new hS), rfl, q _ (I.hok.fresh (Nat.le_refl _))⟩
def rLenK (P : Program) (w : World) : List V → Hp → VK → Prop := fun xs H Q => ∃ a S n, xs = [V.ref a] ∧ H a = some (SetK P w a S n) ∧ (n : Int) < 2 ^ 62 ∧ Q (.int (n : Nat)) H
/-- len(a set) -/
theorem cr_lenK : CallR X (.builtin "len") (rLenK X.prog X.w) := by
  intro pins s σ H xs us Q I r h
  obtain ⟨a, S, n, rfl, ha, hn, q⟩ := h
  obtain ⟨u, rfl, ru⟩ := vals1 r
  cases ru
  obtain ⟨o, es, ep, t, ho, hex, hd, _, _, _, hf, hes⟩ := setK_get I ha
  refine call_len_set ho hex hd hf (by rw [hes]; omega) ⟨.int (n : Nat), H, I.tok _, ⟨_, by rw [hes]⟩, q⟩
/-- repr(z), z a text -/
theorem cr_reprS : CallR X (.builtin "repr") (fun xs H Q => ∃ z : Str, xs = [.str z] ∧ (reprText z).length ≤ sizeLine ∧ Q (.str (reprText z)) H) := by
  intro pins s σ H xs us Q I r h
  obtain ⟨z, rfl, hz, q⟩ := h
  obtain ⟨u, rfl, t, rfl⟩ := vals1 r
  exact PySem.P.repr_of_str ⟨.str _, H, I.tok _, ⟨_, rfl⟩, q⟩ hz
/-! rules within a comprehension's block: the written part named, so that the reading is the same in every block -/
def rLenSq (K : PySem.W.Frag) : List V → Hp → VK → Prop := fun xs H Q => ∃ p ys, xs = [.ref p] ∧ (SqL K H p ys ∨ SqT K H p ys) ∧ Q (.int ys.length) H
theorem call_len_seqK {K : PySem.W.Frag} (h : X.K = K) : CallR X (.builtin "len") (rLenSq K) := by
  subst h
  exact call_len_seq
theorem ix_listK {K : PySem.W.Frag} (h : X.K = K) : IxR X (rIxL K) := by
  subst h
  exact ix_list
theorem op_notIn_seqK {K : PySem.W.Frag} (h : X.K = K) : OpR X (compareOp .NotIn) (rIn K true) := by
  subst h
  exact op_notIn_seq
theorem op_in_seqK {K : PySem.W.Frag} (h : X.K = K) : OpR X (compareOp .In) (rIn K false) := by
  subst h
  exact op_in_seq
theorem pg_tupK {K : PySem.W.Frag} {es : List Expr} {t : TGs} {k n : Nat} {pos : Pos} (h : X.K = K) (hc : X.calm = true) (hs : PGs X es t)
    (hn : (assignEach es X.env).length = n := by rfl) (hst : (assignEach es X.env).findIdx? (·.1) = none := by rfl) : PG X (.Tuple es k pos) (gTup K n t) := by
  subst h
  exact pg_tup hc hs hn hst
/-- z[::-1], z a text -/
def revS (z : Str) : Str := ⟨z.cps.toList.reverse.toArray⟩
def tRevS (te : TE) : TE := fun σ H Q => te σ H fun x H1 => ∃ z, x = .str z ∧ z.length ≤ sizeLine ∧ Q (.str (revS z)) H1
theorem back_idx (n : Nat) : Builtin.Str.strSliceIndices none none (-1) n = (List.range n).reverse := by
  show sliceRange ((n : Int) - 1) (-1) (-1) = _
  rw [PySem.W.krv_sliceRange, PySem.W.krv_range]
theorem back_pick (z : Str) : ((Builtin.Str.strSliceIndices none none (-1) z.length).filterMap (z.cps[·]?)).toArray = z.cps.toList.reverse.toArray := by
  rw [back_idx, List.filterMap_reverse]
  show ((List.range z.cps.size).filterMap (z.cps[·]?)).reverse.toArray = _
  rw [PySem.W.krv_all]
theorem pe_revS {e : Expr} {te : TE} {k : Nat} {p1 p2 p3 pos : Pos} (he : PE X e te) : PE X (.Subscript e (.Slice none none (some (.UnaryOp .USub (.Constant (.int 1) k p1) p2)) p3) pos) (tRevS te) := by
  refine ⟨fun pins s σ H Q I h => ?_⟩
  refine Subscript_ (thn (he.run pins s σ H _ I h) fun v s1 ⟨x, H1, I1, r1, z, ez, hz, q⟩ => ?_)
  subst ez
  obtain ⟨t, rfl⟩ := r1
  have hst : PO X (some (.UnaryOp .USub (.Constant (.int 1) k p1) p2)) (tPart (tUn (rU fun i => .int (-i)) (tC (.int 1)))) := po_some (pe_un un_neg pe_int)
  refine wpAny_Slice (thn (po_none.run pins s1 σ H1 (fun o H2 => o = none ∧ H2 = H1) I1 ⟨rfl, rfl⟩) fun vl s2 ⟨l, H2, I2, pl, el, e2⟩ => ?_)
  subst el e2
  refine thn (po_none.run pins s2 σ H2 (fun o H3 => o = none ∧ H3 = H2) I2 ⟨rfl, rfl⟩) fun vu s3 ⟨u, H3, I3, pu, eu, e3⟩ => ?_
  subst eu e3
  refine thn (hst.run pins s3 σ H3 (fun o H4 => o = some (-1) ∧ H4 = H3) I3 ⟨1, rfl, -1, rfl, rfl, rfl⟩) fun vs s4 ⟨o, H4, I4, ps, eo, e4⟩ => ?_
  subst eo e4
  have I5 : Inv X pins σ H4 { s4 with heap := s4.heap.push { cls := .type "slice", data := .fields #[vl, vu, vs] } } := I4.kept (t' := s4.toks) fun b ob q => Heap.get?_push_of_some _ q
  obtain ⟨l, rfl, el⟩ := IsPart.raw pl
  obtain ⟨u, rfl, eu⟩ := IsPart.raw pu
  obtain ⟨sp, rfl, es⟩ := IsPart.raw ps
  show wpAny (model X.prog X.w) X.A (subscriptTail e (.Slice none none (some (.UnaryOp .USub (.Constant (.int 1) k p1) p2)) p3) (.str z t) (.ref s4.heap.objs.size)) (EP X pins σ Q) X.xe { s4 with heap := s4.heap.push { cls := .type "slice", data := .fields #[partValue l, partValue u, partValue sp] } }
  refine tail_any (ops := [.str z t, .ref s4.heap.objs.size]) (typeIs_str _ _ _) (F.slot_str_getitem.lookup) ?_ (by with_unfolding_all rfl)
  refine wpAny_getItem_str_slice (l := l) (u := u) (st := sp) ⟨_, Heap.get?_push_size _ rfl, rfl, rfl⟩ (by rw [es]; rfl) ?_
  unfold sliceMade slicePicked
  rw [el, eu, es]
  show Made.post (Made.str ⟨((Builtin.Str.strSliceIndices none none (-1) z.length).filterMap (z.cps[·]?)).toArray⟩) (EP X pins σ Q) _
  rw [back_pick]
  refine ⟨?_, .str (revS z), H4, I5.tok _, ⟨_, rfl⟩, q⟩
  show (z.cps.toList.reverse.toArray).size ≤ sizeLine
  rw [List.size_toArray, List.length_reverse, Array.length_toList]
  exact hz
/-! ### enumerate(z), z a text -/
def IteS (z : Str) : It := ⟨fun i _ => i < z.cps.size, fun i H v H' => ∃ T c, v = .ref T ∧ H T = none ∧ z.cps[i]? = some c ∧ H' = upd H T (.tup [.int (i : Nat), .str ⟨#[c]⟩]), fun i _ => z.cps.size ≤ i⟩
theorem strIter_kind (z : Str) : strIterType z = "str_ascii_iterator" ∨ strIterType z = "str_iterator" := by
  unfold strIterType
  split
  · exact .inl rfl
  · exact .inr rfl
theorem draws_str {P : Program} {w : World} {A : Around} (hh : A.handled = none) (it : Addr) (z : Str) (t : Tok) :
    Draws P w A it [it] z.cps.size (fun i v => ∃ c u, z.cps[i]? = some c ∧ v = .str ⟨#[c]⟩ u) (fun i h => h.IsStrIter it (strIterType z) z t i) := by
  rcases strIter_kind z with e | e
  · rw [e]; exact Draws.strAscii hh it z t
  · rw [e]; exact Draws.strWide hh it z t
theorem turn_enumS {P : Program} {w : World} {K : PySem.W.Frag} {elts : List Expr} {kk : Nat} {tpos : Pos} (z : Str) (t : Tok) (e it : Addr) :
    Turn P w K (.Tuple elts kk tpos) (IteS z) [e, it] e (fun i h => (∃ old, IsEnum h e it ((i : Nat) : Int) old) ∧ h.IsStrIter it (strIterType z) z t i ∧ e ≠ it ∧ i ≤ z.cps.size) where
  mem := by simp
  obj := fun i h st b hb => by
    obtain ⟨⟨old, he⟩, ⟨o, ho, hc, hd⟩, _⟩ := st
    rcases (by simpa using hb : b = e ∨ b = it) with q | q
    · rw [q]; exact ⟨_, he, fun v q => nomatch q⟩
    · rw [q]; exact ⟨o, ho, fun v q => by rw [hd] at q; cases q⟩
  keep := fun i h h' st k => let ⟨⟨old, he⟩, ⟨o, ho, r⟩, hne⟩ := st; ⟨⟨old, k e (by simp) _ he⟩, ⟨o, k it (by simp) o ho, r⟩, hne⟩
  item := by
    intro X hP hw hK hc i pins s σ H E I hf st hg
    subst hP hw hK
    obtain ⟨⟨old, he⟩, hit, hne, hle⟩ := st
    have hi : i < z.cps.size := hg
    have hel : e < s.heap.objs.size := Heap.lt_size he
    have hil : it < s.heap.objs.size := by obtain ⟨_, q, _⟩ := hit; exact Heap.lt_size q
    have hh : X.A.in1.handled = none := by simpa using I.ok.hd hc
    refine wpAny_pyNext_enum_itemD (draws_str hh it z t) he hit hi hne (by simpa using hne) fun x h' tk hP ho hit' hT hsz hk => ?_
    obtain ⟨c, u, hcx, rfl⟩ := hP
    refine ⟨_, rfl, wpAny_letOwnedTupleGo_enum (s := { s with heap := h', toks := tk + 1 }) ho fun h2 he' sb => ?_⟩
    have hT2 := (sb.2 _ (Nat.ne_of_gt hel)).trans hT
    have new : ObjOk X.prog X.w (upd H s.heap.objs.size (.tup [.int (i : Nat), .str ⟨#[c]⟩])) h2 s.heap.objs.size (.tup [.int (i : Nat), .str ⟨#[c]⟩]) :=
      ⟨by show 2 ≤ sizeLine; decide, [.int i tk, .str ⟨#[c]⟩ u], .cons ⟨_, rfl⟩ (.cons ⟨_, rfl⟩ .nil), ⟨_, hT2, rfl, _, rfl⟩⟩
    have I1 : Inv X pins σ (upd H s.heap.objs.size (.tup [.int (i : Nat), .str ⟨#[c]⟩])) { s with heap := h2, toks := tk + 1 } :=
      I.turnedNew (ch := [e, it]) (fun b ob hb q => (sb.2 b (fun z => hb (by simp [z]))).trans (hk b ob (fun z => hb (by simp [z])) (fun z => hb (by simp [z])) q)) hf (Nat.le_refl _) new
    obtain ⟨oi, hoi, r⟩ := hit'
    refine ⟨.ref s.heap.objs.size, _, I1, rfl, ⟨_, c, rfl, I.hok.fresh (Nat.le_refl _), hcx, rfl⟩, ⟨⟨.str ⟨#[c]⟩ u, ?_⟩, ⟨oi, (sb.2 it (Ne.symm hne)).trans hoi, r⟩, hne, hi⟩, fun b hb => ?_⟩
    · have e1 : ((i + 1 : Nat) : Int) = (i : Int) + 1 := by omega
      rw [e1]; exact he'
    · have hb' : b < s.heap.objs.size := by
        rcases (by simpa using hb : b = e ∨ b = it) with q | q
        · rw [q]; exact hel
        · rw [q]; exact hil
      rw [upd_ne (Nat.ne_of_lt hb')]
      exact (hf b hb).1
  done := by
    intro X hP hw hK hc i pins s σ H E I hf st hg
    subst hP hw hK
    obtain ⟨⟨old, he⟩, hit, hne, hle⟩ := st
    have hi : i = z.cps.size := Nat.le_antisymm hle hg
    subst hi
    obtain ⟨f0, f1, f2, f3, f4, f5⟩ := hf it (by simp)
    have hh : X.A.in1.handled = none := by simpa using I.ok.hd hc
    exact wpAny_pyNext_enum_endD (draws_str hh it z t) he hit fun h' eb => ⟨rfl, I.turned (t' := s.toks) (fun b o hb q => eb b o hb q) f0 f1 f3 f4 f5⟩
  self := fun A i s Q E st h => let ⟨⟨_, he⟩, _⟩ := st; wpAny_pyIter_enum he h
def iEnumS (ta : TA) : TI := fun σ H R => ta σ H fun vs H1 => ∃ z : Str, vs = [.str z] ∧ R (IteS z) H1
theorem pi_enumS {e : Expr} {ta : TA} {p pos tpos : Pos} {elts : List Expr} {kk : Nat} (hg : Gl X "enumerate") (hm : X.mg "enumerate" = none) (ha : PA X [e] ta) (hs : starEach [e] X.env = [(false, eval e X.env)] := by rfl) :
    PI X (.Tuple elts kk tpos) (.Call (.Name "enumerate" p) [e] [] pos) (iEnumS ta) := by
  refine ⟨fun pins s σ H R I h => ?_⟩
  refine Call_ (ld_blt I hg hm boot_enumerate (PyProof.Rows.callWith_type1 (thn (ha.run pos pins s σ H _ I h) fun us s1 ⟨vs, H1, I1, r1, q1⟩ => ?_) hs rfl))
  obtain ⟨z, rfl, q⟩ := q1
  obtain ⟨u, rfl, t, rfl⟩ := vals1 r1
  refine call_enumerate_str fun h' he hit hsz hk => wpAny_pyIter_enum he ?_
  have I2 : Inv X pins σ H1 { s1 with heap := h' } := I1.kept (t' := s1.toks) hk
  refine ⟨s1.heap.objs.size + 1, [s1.heap.objs.size + 1, s1.heap.objs.size], _, _, H1, rfl, I2, turn_enumS z t (s1.heap.objs.size + 1) s1.heap.objs.size, ⟨⟨.none, he⟩, hit, Nat.succ_ne_self _, Nat.zero_le _⟩, fun b hb => ?_, q⟩
  have hle : s1.heap.objs.size ≤ b := by
    rcases (by simpa using hb : b = s1.heap.objs.size + 1 ∨ b = s1.heap.objs.size) with q | q
    · rw [q]; exact Nat.le_add_right _ _
    · rw [q]; exact Nat.le_refl _
  exact I1.fpOk hle (I1.hok.fresh hle)
theorem walk_enumS {z : Str} : Walk (IteS z) z.cps.size (fun _ => True) (YPair (fun i => some (.int (i : Nat))) (fun i => z.cps[i]?.map fun c => .str ⟨#[c]⟩)) :=
  ⟨fun _ _ hi _ => hi, fun _ _ => Nat.le_refl _, fun i H v H' _ _ ⟨T, c, h1, h2, h3, h4⟩ => ⟨T, .int (i : Nat), .str ⟨#[c]⟩, h1, h2, h4, rfl, by show Option.map _ z.cps[i]? = _; rw [h3]; rfl⟩⟩
end
end Mo

namespace Mo
open PySem PySem.Spec PyProof.Rows L2
/-! ### texts as lists of codes -/
def tx (cs : List Nat) : Str := ⟨cs.toArray⟩
abbrev sg (c : Nat) : V := .str ⟨#[c]⟩
theorem tx_eta (z : Str) : tx z.cps.toList = z := rfl
theorem tx_list (cs : List Nat) : (tx cs).cps.toList = cs := rfl
theorem tx_len (cs : List Nat) : (tx cs).length = cs.length := by show cs.toArray.size = _; simp
theorem tx_size (cs : List Nat) : (tx cs).cps.size = cs.length := by show cs.toArray.size = _; simp
theorem tx_inj {a b : List Nat} (h : tx a = tx b) : a = b := by
  have q := congrArg (fun z : Str => z.cps.toList) h
  exact q
theorem tx_app (a b : List Nat) : tx a ++ tx b = tx (a ++ b) := by
  show (⟨a.toArray ++ b.toArray⟩ : Str) = ⟨(a ++ b).toArray⟩
  simp
theorem tx_app1 (a : List Nat) (c : Nat) : tx a ++ (⟨#[c]⟩ : Str) = tx (a ++ [c]) := tx_app a [c]
theorem tx_get {cs : List Nat} {i : Nat} : (tx cs).cps[i]? = cs[i]? := by
  show cs.toArray[i]? = cs[i]?
  simp
theorem fits5 {n : Nat} (h : n ≤ 100000) : n ≤ sizeLine := Nat.le_trans h (by decide)
theorem fitsLt {n : Nat} (h : n ≤ 100000) : n < sizeLine := Nat.lt_of_le_of_lt h (by decide)
/-- small letters alone -/
def Low (cs : List Nat) : Prop := ∀ c ∈ cs, 97 ≤ c ∧ c ≤ 122
theorem tx_nil : Str.ofString "" = tx [] := by decide +kernel
theorem join_signs : ∀ cs : List Nat, Txt.join (Str.ofString "") (cs.map fun c => (⟨#[c]⟩ : Str)) = tx cs := by
  have key : ∀ cs : List Nat, Str.join (tx []) (cs.map fun c => (⟨#[c]⟩ : Str)) = tx cs := by
    intro cs
    induction cs with
    | nil => rfl
    | cons c r ih =>
      cases r with
      | nil => rfl
      | cons e r =>
        show (⟨#[c]⟩ : Str) ++ tx [] ++ Str.join (tx []) ((e :: r).map fun c => (⟨#[c]⟩ : Str)) = tx (c :: e :: r)
        rw [ih]
        show tx [c] ++ tx [] ++ tx (e :: r) = _
        rw [tx_app, tx_app]
        rfl
  intro cs
  show Builtin.Str.glued _ _ = _
  rw [StrLaws.glued_eq_join, tx_nil]
  exact key cs
/-! ### the pen -/
def penD (c : Addr) (t r : Int) : List (Key × V) := [(.inr "cells", .ref c), (.inr "turn", .int t), (.inr "rest", .int r)]
theorem k_ct : ¬ ((Sum.inr "cells" : Key) = (Sum.inr "turn" : Key)) := by decide +kernel
theorem k_cr : ¬ ((Sum.inr "cells" : Key) = (Sum.inr "rest" : Key)) := by decide +kernel
theorem k_tr : ¬ ((Sum.inr "turn" : Key) = (Sum.inr "rest" : Key)) := by decide +kernel
theorem pen_cells (c : Addr) (t r : Int) : valV (penD c t r) (Sum.inr "cells") = some (.ref c) := valV_pos rfl
theorem pen_turn (c : Addr) (t r : Int) : valV (penD c t r) (Sum.inr "turn") = some (.int t) := by
  unfold penD
  rw [valV_neg k_ct, valV_pos rfl]
theorem pen_rest (c : Addr) (t r : Int) : valV (penD c t r) (Sum.inr "rest") = some (.int r) := by
  unfold penD
  rw [valV_neg k_cr, valV_neg k_tr, valV_pos rfl]
theorem put_turn (c : Addr) (t r u : Int) : putK (penD c t r) (Sum.inr "turn") (.int u) = penD c u r := by
  unfold putK penD
  have k1 := k_ct
  have k2 : ¬ ((Sum.inr "rest" : Key) = (Sum.inr "turn" : Key)) := fun e => k_tr e.symm
  simp only [List.any_cons, List.map_cons, List.map_nil, k1, k2, if_false, if_true, decide_true, decide_false, Bool.true_or, Bool.or_true, Bool.false_or]
theorem put_rest (c : Addr) (t r u : Int) : putK (penD c t r) (Sum.inr "rest") (.int u) = penD c t u := by
  unfold putK penD
  have k1 := k_cr
  have k2 := k_tr
  simp only [List.any_cons, List.map_cons, List.map_nil, k1, k2, if_false, if_true, decide_true, decide_false, Bool.true_or, Bool.or_true, Bool.false_or]
theorem pen_merge (c : Addr) (t r : Int) : mergeK [] (penD c t r) = penD c t r := by
  have k1 := k_ct
  have k2 := k_cr
  have k3 := k_tr
  simp only [mergeK, penD, putK, List.foldl_cons, List.foldl_nil, List.any_nil, List.any_cons, List.nil_append, List.cons_append, k1, k2, k3, decide_false, Bool.or_false, Bool.false_eq_true, if_false]
/-- the pen at d, its cells at c, t draws done -/
def Pen (H : Hp) (d c : Addr) (t : Nat) : Prop := ∃ (ns : List Int) (r : Int), H d = some (.dK (penD c t r)) ∧ H c = some (.lst (ns.map V.int)) ∧ ns.length ≤ 63 ∧ 0 ≤ r
theorem Pen.ne {H : Hp} {d c : Addr} {t : Nat} (h : Pen H d c t) : d ≠ c := by
  obtain ⟨ns, r, h1, h2, _⟩ := h
  exact ne_of h1 h2 (by intro z; cases z)
/-- all but d is as it was -/
def But (d : Addr) (H H' : Hp) : Prop := ∀ b o, b ≠ d → H b = some o → H' b = some o
theorem But.refl (d : Addr) (H : Hp) : But d H H := fun _ _ _ h => h
theorem But.trans {d : Addr} {H H1 H2 : Hp} (a : But d H H1) (b : But d H1 H2) : But d H H2 := fun c o n h => b c o n (a c o n h)
theorem But.same {d : Addr} {H H1 : Hp} (a : Same H H1) : But d H H1 := fun c o _ h => a c o h
theorem But.none {d : Addr} {H H1 : Hp} (a : But d H H1) {p : Addr} (h : H1 p = none) (n : p ≠ d) : H p = none := by
  cases q : H p with
  | none => rfl
  | some o =>
    rw [a p o n q] at h
    cases h
theorem Pen.new {H : Hp} {d c : Addr} {t : Nat} (h : Pen H d c t) {p : Addr} (hp : H p = none) : p ≠ d ∧ p ≠ c := by
  obtain ⟨ns, r, h1, h2, _⟩ := h
  exact ⟨(ne_of_none h1 hp).symm, (ne_of_none h2 hp).symm⟩
theorem Pen.upd {H : Hp} {d c : Addr} {t : Nat} (h : Pen H d c t) {p : Addr} {o : HO} (h1 : p ≠ d) (h2 : p ≠ c) : Pen (upd H p o) d c t := by
  obtain ⟨ns, r, e1, e2, e3⟩ := h
  exact ⟨ns, r, by rw [upd_ne h1.symm]; exact e1, by rw [upd_ne h2.symm]; exact e2, e3⟩
theorem Pen.same {H H' : Hp} {d c : Addr} {t : Nat} (h : Pen H d c t) (s : Same H H') : Pen H' d c t := by
  obtain ⟨ns, r, e1, e2, e3⟩ := h
  exact ⟨ns, r, s _ _ e1, s _ _ e2, e3⟩
theorem same_new {H : Hp} {p : Addr} {o : HO} (h : H p = none) : Same H (L2.upd H p o) := fun b x e => by
  rw [upd_ne (ne_of_none e h)]
  exact e
theorem But.set {d : Addr} {H : Hp} {o : HO} : But d H (L2.upd H d o) := fun b x n e => by
  rw [upd_ne n]
  exact e
theorem But.put {d : Addr} {H H' : Hp} {o : HO} (b : But d H H') {D : Addr} (n : H D = Option.none) : But d H (L2.upd H' D o) := fun x y nx e => by
  rw [upd_ne (ne_of_none e n)]
  exact b x y nx e
theorem Same.put {H H' : Hp} {o : HO} (b : Same H H') {D : Addr} (n : H D = Option.none) : Same H (L2.upd H' D o) := fun x y e => by
  rw [upd_ne (ne_of_none e n)]
  exact b x y e
theorem pen_set {H : Hp} {d c : Addr} {t : Nat} (h : Pen H d c t) {u : Nat} {r : Int} (hr : 0 ≤ r) : Pen (L2.upd H d (.dK (penD c u r))) d c u := by
  have n := h.ne
  obtain ⟨ns, r0, e1, e2, e3, _⟩ := h
  exact ⟨ns, r, upd_same, by rw [upd_ne n.symm]; exact e2, e3, hr⟩
def spDraw : Sp := fun vs H Q _ => ∃ (d c : Addr) (n : Int) (t : Nat), vs = [.ref d, .int n] ∧ Pen H d c t ∧ 0 < n ∧ n < 1073741824 ∧ t < 1073741824 ∧
  ∀ H' k t', But d H H' → Pen H' d c t' → t' ≤ t + 1 → 0 ≤ k → k < n → Q (.int k) H'
def spPick (K : PySem.W.Frag) : Sp := fun vs H Q _ => ∃ (d c l : Addr) (xs : List V) (t : Nat), vs = [.ref d, .ref l] ∧ Pen H d c t ∧ SqL K H l xs ∧ l ≠ d ∧ 0 < xs.length ∧ xs.length < 1073741824 ∧ t < 1073741824 ∧
  ∀ H' v t', But d H H' → Pen H' d c t' → t' ≤ t + 1 → v ∈ xs → Q v H'
end Mo

namespace Mo
/-- b is a border of the first n letters, or 0 -/
def Brd (t : List Int) (n b : Nat) : Prop := b < n ∧ ∀ i, i < b → t[i]? = t[n - b + i]?
instance (t : List Int) (n b : Nat) : Decidable (Brd t n b) := by
  unfold Brd
  exact instDecidableAnd
theorem Brd.zero {t : List Int} {n : Nat} (h : 0 < n) : Brd t n 0 := ⟨h, fun i hi => by omega⟩
theorem Brd.step {t : List Int} {n b : Nat} (h : b < n) : Brd t (n + 1) (b + 1) ↔ Brd t n b ∧ t[b]? = t[n]? := by
  constructor
  · rintro ⟨_, h2⟩
    refine ⟨⟨h, fun i hi => ?_⟩, ?_⟩
    · have := h2 i (by omega)
      rwa [show n + 1 - (b + 1) + i = n - b + i by omega] at this
    · have := h2 b (by omega)
      rwa [show n + 1 - (b + 1) + b = n by omega] at this
  · rintro ⟨⟨_, h2⟩, h3⟩
    refine ⟨by omega, fun i hi => ?_⟩
    by_cases e : i = b
    · subst e
      rwa [show n + 1 - (i + 1) + i = n by omega]
    · rw [h2 i (by omega), show n + 1 - (b + 1) + i = n - b + i by omega]
theorem Brd.inner {t : List Int} {n b c : Nat} (h : Brd t n b) (hc : c < b) : Brd t n c ↔ Brd t b c := by
  obtain ⟨h1, h2⟩ := h
  constructor
  · rintro ⟨_, g⟩
    refine ⟨hc, fun i hi => ?_⟩
    rw [g i hi, h2 (b - c + i) (by omega)]
    congr 1
    omega
  · rintro ⟨_, g⟩
    refine ⟨by omega, fun i hi => ?_⟩
    rw [g i hi, h2 (b - c + i) (by omega)]
    congr 1
    omega
/-- the greatest border up to m, or 0 -/
def top (t : List Int) (n : Nat) : Nat → Nat
  | 0 => 0
  | m + 1 => if Brd t n (m + 1) then m + 1 else top t n m
theorem top_le (t : List Int) (n : Nat) : ∀ m, top t n m ≤ m
  | 0 => Nat.le_refl _
  | m + 1 => by
    have := top_le t n m
    unfold top
    split <;> omega
theorem top_brd {t : List Int} {n : Nat} (h : 0 < n) : ∀ m, Brd t n (top t n m)
  | 0 => Brd.zero h
  | m + 1 => by
    unfold top
    split
    · assumption
    · exact top_brd h m
theorem top_max {t : List Int} {n : Nat} : ∀ {m c : Nat}, c ≤ m → Brd t n c → c ≤ top t n m
  | 0, c, h, _ => by omega
  | m + 1, c, h, b => by
    unfold top
    split
    · exact h
    · rename_i g
      have : c ≠ m + 1 := fun e => g (e ▸ b)
      exact top_max (by omega) b
theorem top_is {t : List Int} {n m c : Nat} (hn : 0 < n) (hc : c ≤ m) (hb : Brd t n c) (hm : ∀ e, e ≤ m → Brd t n e → e ≤ c) : top t n m = c :=
  Nat.le_antisymm (hm _ (top_le t n m) (top_brd hn m)) (top_max hc hb)
/-- the longest border of the first n letters -/
def lng (t : List Int) (n : Nat) : Nat := top t n (n - 1)
theorem lng_lt {t : List Int} {n : Nat} (h : 0 < n) : lng t n < n := by
  have := top_le t n (n - 1)
  unfold lng
  omega
theorem lng_brd {t : List Int} {n : Nat} (h : 0 < n) : Brd t n (lng t n) := top_brd h _
theorem lng_max {t : List Int} {n c : Nat} (h : Brd t n c) : c ≤ lng t n := top_max (by have := h.1; omega) h
theorem lng_one (t : List Int) : lng t 1 = 0 := rfl
theorem lng_zero (t : List Int) : lng t 0 = 0 := rfl
/-- one turn of the way back -/
theorem back_turn {t : List Int} {n b : Nat} (hb : Brd t n b) (h0 : 0 < b) (hne : t[b]? ≠ t[n]?) : top t (n + 1) (b + 1) = top t (n + 1) (lng t b + 1) := by
  have hbn := hb.1
  have hl := lng_lt (t := t) h0
  refine top_is (by omega) ?_ (top_brd (by omega) _) fun e he hE => ?_
  · have := top_le t (n + 1) (lng t b + 1)
    omega
  · cases e with
    | zero => exact Nat.zero_le _
    | succ e =>
      have hE2 := (Brd.step (by have := hE.1; omega)).mp hE
      have : e ≠ b := fun z => hne (z ▸ hE2.2)
      have hin := (Brd.inner hb (by omega)).mp hE2.1
      exact top_max (by have := lng_max hin; omega) hE
theorem back_yes {t : List Int} {n b : Nat} (hb : Brd t n b) (h : t[b]? = t[n]?) : top t (n + 1) (b + 1) = b + 1 := by
  unfold top
  rw [if_pos ((Brd.step hb.1).mpr ⟨hb, h⟩)]
theorem back_no {t : List Int} {n : Nat} (hn : 0 < n) (h : t[0]? ≠ t[n]?) : top t (n + 1) 1 = 0 := by
  unfold top
  rw [if_neg (fun z => h ((Brd.step hn).mp z).2)]
  rfl
theorem lng_step {t : List Int} {n : Nat} (h : 0 < n) : top t (n + 1) (lng t n + 1) = lng t (n + 1) := by
  have hl := lng_lt (t := t) h
  refine top_is (by omega) ?_ (lng_brd (by omega)) fun e he hE => lng_max hE
  cases q : lng t (n + 1) with
  | zero => omega
  | succ c =>
    have hb := lng_brd (t := t) (n := n + 1) (by omega)
    rw [q] at hb
    have := ((Brd.step (by have := hb.1; omega)).mp hb).1
    have := lng_max this
    omega
/-- the longest border of less than half of n -/
def hlf (t : List Int) (n : Nat) : Nat := top t n ((n - 1) / 2)
theorem hlf_brd {t : List Int} {n : Nat} (h : 0 < n) : Brd t n (hlf t n) ∧ 2 * hlf t n < n := by
  have := top_le t n ((n - 1) / 2)
  refine ⟨top_brd h _, ?_⟩
  unfold hlf
  omega
theorem hlf_max {t : List Int} {n c : Nat} (h : Brd t n c) (h2 : 2 * c < n) : c ≤ hlf t n := top_max (by omega) h
theorem hlf_one (t : List Int) : hlf t 1 = 0 := rfl
theorem hlf_zero (t : List Int) : hlf t 0 = 0 := rfl
theorem hlf_lt {t : List Int} {n : Nat} (h : 0 < n) : hlf t n < n := (hlf_brd (t := t) h).1.1
/-- what is behind extended: all half borders are at most it -/
theorem hlf_below {t : List Int} {n : Nat} (h : 0 < n) : hlf t (n + 1) ≤ top t (n + 1) (hlf t n + 1) := by
  have hb := hlf_brd (t := t) (n := n + 1) (by omega)
  cases q : hlf t (n + 1) with
  | zero => omega
  | succ c =>
    rw [q] at hb
    have := ((Brd.step (by have := hb.1.1; omega)).mp hb.1).1
    have := hlf_max this (by omega)
    exact top_max (by omega) hb.1
theorem hlf_back {t : List Int} {n x : Nat} (hx : Brd t n x) (h2 : n ≤ 2 * x) (hle : hlf t n ≤ x) : hlf t n ≤ lng t x := by
  have h0 : 0 < n := by have := hx.1; omega
  have hb := hlf_brd (t := t) h0
  exact lng_max ((Brd.inner hx (by omega)).mp hb.1)
theorem hlf_end {t : List Int} {n x : Nat} (hx : Brd t n x) (h2 : 2 * x < n) (hle : hlf t n ≤ x) : x = hlf t n := Nat.le_antisymm (hlf_max hx h2) hle
/-- the rank of the first k letters -/
def rk (t : List Int) (k : Nat) : Nat := if h : k = 0 then 0 else rk t (hlf t k) + 1
termination_by k
decreasing_by exact hlf_lt (by omega)
theorem rk_zero (t : List Int) : rk t 0 = 0 := by
  rw [rk]
  simp
theorem rk_pos {t : List Int} {k : Nat} (h : 0 < k) : rk t k = rk t (hlf t k) + 1 := by
  rw [rk, dif_neg (by omega)]
theorem rk_mono {t : List Int} : ∀ {b c : Nat}, Brd t b c → rk t c ≤ rk t b := by
  intro b
  induction b using Nat.strongRecOn with
  | ind b ih =>
    intro c h
    have hb : 0 < b := by have := h.1; omega
    rcases Nat.eq_zero_or_pos c with e | hc
    · subst e
      rw [rk_zero]
      exact Nat.zero_le _
    · rw [rk_pos hc, rk_pos hb]
      have he := hlf_brd (t := t) hc
      have hin : Brd t b (hlf t c) := (Brd.inner h (by omega)).mpr he.1
      have hm := hlf_max hin (by have := h.1; omega)
      have hh := hlf_brd (t := t) hb
      rcases Nat.lt_or_ge (hlf t c) (hlf t b) with g | g
      · have := ih (hlf t b) (by omega) ((Brd.inner hh.1 g).mp hin)
        omega
      · rw [show hlf t c = hlf t b by omega]
        exact Nat.le_refl _
/-- the law's way to say it -/
theorem rk_most {t : List Int} {n c : Nat} (h : Brd t n c) (h2 : 2 * c < n) : rk t c + 1 ≤ rk t n := by
  have hn : 0 < n := by omega
  rw [rk_pos hn]
  have hm := hlf_max h h2
  have hh := hlf_brd (t := t) hn
  rcases Nat.lt_or_ge c (hlf t n) with g | g
  · have := rk_mono ((Brd.inner hh.1 g).mp h)
    omega
  · rw [show c = hlf t n by omega]
    exact Nat.le_refl _
/-! only the first letters count -/
theorem Brd.local {t u : List Int} {n b : Nat} (h : ∀ i, i < n → t[i]? = u[i]?) : Brd t n b ↔ Brd u n b := by
  unfold Brd
  constructor
  · rintro ⟨a, g⟩
    exact ⟨a, fun i hi => by rw [← h i (by omega), g i hi, h _ (by omega)]⟩
  · rintro ⟨a, g⟩
    exact ⟨a, fun i hi => by rw [h i (by omega), g i hi, ← h _ (by omega)]⟩
theorem top_local {t u : List Int} {n : Nat} (h : ∀ i, i < n → t[i]? = u[i]?) : ∀ m, top t n m = top u n m
  | 0 => rfl
  | m + 1 => by
    unfold top
    rw [top_local h m]
    by_cases g : Brd t n (m + 1)
    · rw [if_pos g, if_pos ((Brd.local h).mp g)]
    · rw [if_neg g, if_neg (fun z => g ((Brd.local h).mpr z))]
theorem rk_local {t u : List Int} : ∀ {n : Nat}, (∀ i, i < n → t[i]? = u[i]?) → rk t n = rk u n := by
  intro n
  induction n using Nat.strongRecOn with
  | ind n ih =>
    intro h
    rcases Nat.eq_zero_or_pos n with e | hn
    · subst e
      rw [rk_zero, rk_zero]
    · have e : hlf t n = hlf u n := top_local h _
      rw [rk_pos hn, rk_pos hn, e, ih (hlf u n) (hlf_lt hn) fun i hi => h i (by have := hlf_lt (t := u) hn; omega)]
/-- a border, by slices -/
theorem brd_slices {t : List Int} {n b : Nat} (hn : n ≤ t.length) (h : b < n) : Brd t n b ↔ t.take b = (t.drop (n - b)).take b := by
  unfold Brd
  constructor
  · rintro ⟨_, g⟩
    apply List.ext_getElem?
    intro i
    rw [List.getElem?_take, List.getElem?_take, List.getElem?_drop]
    by_cases hi : i < b
    · rw [if_pos hi, if_pos hi, g i hi]
    · rw [if_neg hi, if_neg hi]
  · intro g
    refine ⟨h, fun i hi => ?_⟩
    have := congrArg (fun l : List Int => l[i]?) g
    simp only [List.getElem?_take, List.getElem?_drop, if_pos hi] at this
    exact this
end Mo

namespace Mo
open PySem PySem.Spec PyProof.Rows L2
/-- how often 2 divides n (0 for 0) -/
def tz (n : Nat) : Nat := if h : n = 0 then 0 else if n % 2 = 0 then tz (n / 2) + 1 else 0
termination_by n
decreasing_by omega
theorem tz_odd {n : Nat} (h : n % 2 = 1) : tz n = 0 := by
  rw [tz]
  have : n ≠ 0 := by omega
  rw [dif_neg this, if_neg (by omega)]
theorem tz_half {n : Nat} (h0 : 0 < n) (h : n % 2 = 0) : tz n = tz (n / 2) + 1 := by
  rw [tz]
  rw [dif_neg (by omega), if_pos h]
theorem tz_two {n : Nat} (h0 : 0 < n) : tz (2 * n) = tz n + 1 := by
  rw [tz_half (by omega) (by omega)]
  congr 2
  omega
theorem tz_pow : ∀ p : Nat, tz (2 ^ p) = p
  | 0 => tz_odd rfl
  | p + 1 => by
    rw [Nat.pow_succ, Nat.mul_comm, tz_two (Nat.pow_pos (by decide)), tz_pow p]
theorem tz_mirror : ∀ (p a : Nat), 0 < a → a < 2 ^ p → tz (2 ^ p - a) = tz a
  | 0, a, h0, h1 => by omega
  | p + 1, a, h0, h1 => by
    rw [Nat.pow_succ] at h1 ⊢
    rcases Nat.mod_two_eq_zero_or_one a with e | e
    · obtain ⟨b, rfl⟩ : ∃ b, a = 2 * b := ⟨a / 2, by omega⟩
      rw [show 2 ^ p * 2 - 2 * b = 2 * (2 ^ p - b) by omega, tz_two (by omega), tz_two (by omega), tz_mirror p b (by omega) (by omega)]
    · rw [tz_odd e, tz_odd (by omega)]
theorem tz_le (n : Nat) : tz n ≤ n := by
  induction n using Nat.strongRecOn with
  | ind n ih =>
    rcases Nat.eq_zero_or_pos n with e | e
    · subst e
      rw [tz]
      simp
    · rcases Nat.mod_two_eq_zero_or_one n with e2 | e2
      · have := ih (n / 2) (by omega)
        rw [tz_half e e2]
        omega
      · rw [tz_odd e2]
        omega
theorem log64 {n : Nat} (h : n < 2 ^ 64) : n.log2 < 1920 := by
  rcases Nat.eq_zero_or_pos n with e | e
  · subst e
    decide
  · have := (Nat.log2_lt (k := 64) (by omega)).mpr h
    omega
end Mo

namespace Mo
open PySem PySem.Spec PyProof.Rows L2
/-- the universal texts -/
def uni : Nat → List Int
  | 0 => []
  | n + 1 => uni n ++ [(n : Int)] ++ uni n
theorem uni_len : ∀ n : Nat, (uni n).length + 1 = 2 ^ n
  | 0 => rfl
  | n + 1 => by
    have ih := uni_len n
    rw [uni, Nat.pow_succ, List.length_append, List.length_append, List.length_singleton]
    omega
theorem uni_len12 {n : Nat} (h : n ≤ 12) : (uni n).length ≤ 4095 := by
  have h1 := uni_len n
  have h2 : 2 ^ n ≤ 2 ^ 12 := Nat.pow_le_pow_right (by decide) h
  omega
theorem uni_low : ∀ {n : Nat} {x : Int}, x ∈ uni n → 0 ≤ x ∧ x < n
  | 0, x, h => by cases h
  | n + 1, x, h => by
    rw [uni, List.mem_append, List.mem_append, List.mem_singleton] at h
    rcases h with (h | h) | h
    · have := uni_low h
      omega
    · omega
    · have := uni_low h
      omega
theorem tz_high : ∀ (n a : Nat), 0 < a → a < 2 ^ n → tz (2 ^ n + a) = tz a
  | 0, a, h0, h1 => by omega
  | n + 1, a, h0, h1 => by
    rw [Nat.pow_succ] at h1 ⊢
    rcases Nat.mod_two_eq_zero_or_one a with e | e
    · obtain ⟨b, rfl⟩ : ∃ b, a = 2 * b := ⟨a / 2, by omega⟩
      rw [show 2 ^ n * 2 + 2 * b = 2 * (2 ^ n + b) by omega, tz_two (by omega), tz_two (by omega), tz_high n b (by omega) (by omega)]
    · rw [tz_odd e, tz_odd (by omega)]
theorem uni_at : ∀ (n i : Nat), i + 1 < 2 ^ n → (uni n)[i]? = some ((tz (i + 1) : Nat) : Int)
  | 0, i, h => by omega
  | n + 1, i, h => by
    have hl := uni_len n
    rw [Nat.pow_succ] at h
    rw [uni, List.append_assoc]
    by_cases h1 : i + 1 < 2 ^ n
    · rw [List.getElem?_append_left (by omega), uni_at n i h1]
    · rw [List.getElem?_append_right (by omega)]
      by_cases h2 : i + 1 = 2 ^ n
      · rw [show i - (uni n).length = 0 by omega, h2, tz_pow]
        rfl
      · obtain ⟨j, hj⟩ : ∃ j, i = 2 ^ n + j := ⟨i - 2 ^ n, by omega⟩
        subst hj
        rw [show 2 ^ n + j - (uni n).length = j + 1 by omega, List.singleton_append, List.getElem?_cons_succ, uni_at n j (by omega), Nat.add_assoc, tz_high n (j + 1) (by omega) (by omega)]
end Mo

namespace Mo
/-- what stands between the two half borders of the first n letters -/
def mid (t : List Int) (n : Nat) : List Int := (t.drop (hlf t n)).take (n - hlf t n - hlf t n)
/-- m + 1 values that make the first n letters -/
def vls (t : List Int) : Nat → Nat → List (List Int)
  | n, 0 => [t.take n]
  | n, m + 1 => vls t (hlf t n) m ++ [mid t n]
theorem vls_len (t : List Int) : ∀ (m n : Nat), (vls t n m).length = m + 1
  | 0, _ => rfl
  | m + 1, n => by
    rw [vls, List.length_append, vls_len t m]
    rfl
theorem fill_app {vv : List (List Int)} {x : List Int} {us : List Int} (h : ∀ u ∈ us, 0 ≤ u ∧ u < (vv.length : Nat)) : (us.flatMap fun u => (vv ++ [x]).getD u.toNat []) = us.flatMap fun u => vv.getD u.toNat [] := by
  induction us with
  | nil => rfl
  | cons u us ih =>
    have hu := h u (List.mem_cons_self ..)
    rw [List.flatMap_cons, List.flatMap_cons, ih fun y hy => h y (List.mem_cons_of_mem _ hy), List.getD_eq_getElem?_getD, List.getD_eq_getElem?_getD, List.getElem?_append_left (by omega)]
theorem halves_make {t : List Int} {n : Nat} (hn : 0 < n) (hl : n ≤ t.length) : t.take (hlf t n) ++ mid t n ++ t.take (hlf t n) = t.take n := by
  have hb := hlf_brd (t := t) hn
  have hs := (brd_slices hl hb.1.1).mp hb.1
  have h2 := hb.2
  unfold mid
  generalize hlf t n = h at *
  have e : t.take n = t.take (h + (n - h - h) + h) := by rw [show h + (n - h - h) + h = n by omega]
  rw [e, List.take_add, List.take_add, show h + (n - h - h) = n - h by omega, ← hs]
theorem vls_make {t : List Int} : ∀ (m n : Nat), n ≤ t.length → m + 1 ≤ rk t n → ((uni (m + 1)).flatMap fun u => (vls t n m).getD u.toNat []) = t.take n
  | 0, n, hl, hr => by
    show ([] ++ [((0 : Nat) : Int)] ++ []).flatMap _ = _
    simp [vls]
  | m + 1, n, hl, hr => by
    have hn : 0 < n := by
      rcases Nat.eq_zero_or_pos n with e | e
      · subst e
        rw [rk_zero] at hr
        omega
      · exact e
    have hh := hlf_lt (t := t) hn
    have hr2 : m + 1 ≤ rk t (hlf t n) := by
      rw [rk_pos hn] at hr
      omega
    have ih := vls_make m (hlf t n) (by omega) hr2
    have low : ∀ u ∈ uni (m + 1), 0 ≤ u ∧ u < ((vls t (hlf t n) m).length : Nat) := fun u hu => by
      have := uni_low hu
      rw [vls_len]
      omega
    rw [uni, vls, List.flatMap_append, List.flatMap_append, fill_app low, ih]
    have e1 : ([((m + 1 : Nat) : Int)].flatMap fun u => (vls t (hlf t n) m ++ [mid t n]).getD u.toNat []) = mid t n := by
      rw [List.flatMap_cons, List.flatMap_nil, List.append_nil, Int.toNat_natCast, List.getD_eq_getElem?_getD, List.getElem?_append_right (by rw [vls_len]; omega), vls_len, Nat.sub_self]
      rfl
    rw [e1, halves_make hn hl]
theorem vls_filled {t : List Int} : ∀ (m n : Nat), n ≤ t.length → m + 1 ≤ rk t n → ∀ v ∈ vls t n m, v ≠ [] ∧ v.length ≤ n ∧ ∀ x ∈ v, x ∈ t
  | 0, n, hl, hr => fun v hv => by
    obtain rfl := List.mem_singleton.mp hv
    have hn : 0 < n := by
      rcases Nat.eq_zero_or_pos n with e | e
      · subst e
        rw [rk_zero] at hr
        omega
      · exact e
    refine ⟨fun z => ?_, by rw [List.length_take]; omega, fun x hx => List.mem_of_mem_take hx⟩
    have := congrArg List.length z
    rw [List.length_take] at this
    have : min n t.length = 0 := this
    omega
  | m + 1, n, hl, hr => fun v hv => by
    have hn : 0 < n := by
      rcases Nat.eq_zero_or_pos n with e | e
      · subst e
        rw [rk_zero] at hr
        omega
      · exact e
    have hh := hlf_brd (t := t) hn
    have hr2 : m + 1 ≤ rk t (hlf t n) := by
      rw [rk_pos hn] at hr
      omega
    rw [vls] at hv
    rcases List.mem_append.mp hv with g | g
    · have := vls_filled m (hlf t n) (by omega) hr2 v g
      exact ⟨this.1, by omega, this.2.2⟩
    · obtain rfl := List.mem_singleton.mp g
      have ml : (mid t n).length = n - hlf t n - hlf t n := by
        unfold mid
        rw [List.length_take, List.length_drop]
        omega
      refine ⟨fun z => ?_, by omega, fun x hx => List.mem_of_mem_drop (List.mem_of_mem_take hx)⟩
      rw [z] at ml
      have : 0 = n - hlf t n - hlf t n := ml
      omega
end Mo

/-! ### blocks and their ranks -/
namespace Mo
/-- no block that begins at i has rank c -/
def Less (t : List Int) (c i : Nat) : Prop := ∀ j, i + j ≤ t.length → rk (t.drop i) j < c
def First (t : List Int) (c i j : Nat) : Prop := i < t.length ∧ i + j ≤ t.length ∧ c ≤ rk (t.drop i) j ∧ (∀ j', j' < j → rk (t.drop i) j' < c) ∧ ∀ i', i' < i → Less t c i'
theorem First.uniq {t : List Int} {c i j i' j' : Nat} (h : First t c i j) (g : First t c i' j') : i = i' ∧ j = j' := by
  obtain ⟨a1, a2, a3, a4, a5⟩ := h
  obtain ⟨b1, b2, b3, b4, b5⟩ := g
  have e : i = i' := by
    rcases Nat.lt_trichotomy i i' with z | z | z
    · have := b5 i z j a2
      omega
    · exact z
    · have := a5 i' z j' b2
      omega
  subst e
  refine ⟨rfl, ?_⟩
  rcases Nat.lt_trichotomy j j' with z | z | z
  · have := b4 j z
    omega
  · exact z
  · have := a4 j' z
    omega
/-- the ranks of the blocks that begin at i, their begins and ends -/
def row (t : List Int) (i n : Nat) : List (List Int) := (List.range n).map fun k => [((rk (t.drop i) (k + 1) : Nat) : Int), ((i : Nat) : Int), ((i + (k + 1) : Nat) : Int)]
def blks (t : List Int) : Nat → List (List Int)
  | 0 => []
  | i + 1 => blks t i ++ row t i (t.length - i)
theorem row_len (t : List Int) (i n : Nat) : (row t i n).length = n := by
  unfold row
  rw [List.length_map, List.length_range]
theorem blks_len {t : List Int} : ∀ i, (blks t i).length ≤ i * t.length
  | 0 => Nat.zero_le _
  | i + 1 => by
    have := blks_len (t := t) i
    rw [blks, List.length_append, row_len, Nat.succ_mul]
    omega
theorem row_succ (t : List Int) (i n : Nat) : row t i (n + 1) = row t i n ++ [[((rk (t.drop i) (n + 1) : Nat) : Int), ((i : Nat) : Int), ((i + (n + 1) : Nat) : Int)]] := by
  unfold row
  rw [List.range_succ, List.map_append]
  rfl
theorem blks_cons {t : List Int} : ∀ {i : Nat} {v : List Int}, v ∈ blks t i → ∃ y r, v = y :: r
  | 0, v, h => by cases h
  | i + 1, v, h => by
    rw [blks] at h
    rcases List.mem_append.mp h with g | g
    · exact blks_cons g
    · obtain ⟨k, _, rfl⟩ := List.mem_map.mp g
      exact ⟨_, _, rfl⟩
def high (c : Nat) (v : List Int) : Bool := decide ((c : Int) ≤ v.headD 0)
theorem row_first {t : List Int} {c i : Nat} (hc : 0 < c) : ∀ n : Nat, ((row t i n).filter (high c) = [] ∧ ∀ j, j ≤ n → rk (t.drop i) j < c) ∨
    ∃ j rest, j ≤ n ∧ c ≤ rk (t.drop i) j ∧ (∀ j', j' < j → rk (t.drop i) j' < c) ∧ (row t i n).filter (high c) = [((rk (t.drop i) j : Nat) : Int), ((i : Nat) : Int), ((i + j : Nat) : Int)] :: rest
  | 0 => .inl ⟨rfl, fun j hj => by
      obtain rfl : j = 0 := by omega
      rw [rk_zero]
      exact hc⟩
  | n + 1 => by
    rcases row_first (t := t) (i := i) hc n with ⟨h1, h2⟩ | ⟨j, rest, h1, h2, h3, h4⟩
    · by_cases e : c ≤ rk (t.drop i) (n + 1)
      · refine .inr ⟨n + 1, [], Nat.le_refl _, e, fun j' hj => h2 j' (by omega), ?_⟩
        rw [row_succ, List.filter_append, h1, List.nil_append, List.filter_cons, if_pos (show high c _ = true from decide_eq_true (by show (c : Int) ≤ ((rk (t.drop i) (n + 1) : Nat) : Int); omega))]
        rfl
      · refine .inl ⟨?_, fun j hj => ?_⟩
        · rw [row_succ, List.filter_append, h1, List.nil_append, List.filter_cons, if_neg (show ¬ high c _ = true from fun z => by have z2 : (c : Int) ≤ ((rk (t.drop i) (n + 1) : Nat) : Int) := of_decide_eq_true z; omega)]
          rfl
        · rcases Nat.lt_or_ge j (n + 1) with g | g
          · exact h2 j (by omega)
          · obtain rfl : j = n + 1 := by omega
            omega
    · refine .inr ⟨j, rest ++ (([[((rk (t.drop i) (n + 1) : Nat) : Int), ((i : Nat) : Int), ((i + (n + 1) : Nat) : Int)]] : List (List Int)).filter (high c)), by omega, h2, h3, ?_⟩
      rw [row_succ, List.filter_append, h4]
      rfl
theorem blk_first {t : List Int} {c : Nat} (hc : 0 < c) : ∀ n : Nat, n ≤ t.length → ((blks t n).filter (high c) = [] ∧ ∀ i, i < n → Less t c i) ∨
    ∃ i j rest, First t c i j ∧ (blks t n).filter (high c) = [((rk (t.drop i) j : Nat) : Int), ((i : Nat) : Int), ((i + j : Nat) : Int)] :: rest
  | 0, _ => .inl ⟨rfl, fun i hi => by omega⟩
  | n + 1, hn => by
    rcases blk_first (t := t) hc n (by omega) with ⟨h1, h2⟩ | ⟨i, j, rest, h1, h2⟩
    · rcases row_first (t := t) (i := n) hc (t.length - n) with ⟨g1, g2⟩ | ⟨j, rest, g1, g2, g3, g4⟩
      · refine .inl ⟨by rw [blks, List.filter_append, h1, g1]; rfl, fun i hi => ?_⟩
        rcases Nat.lt_or_ge i n with z | z
        · exact h2 i z
        · obtain rfl : i = n := by omega
          exact fun j hj => g2 j (by omega)
      · refine .inr ⟨n, j, rest, ⟨by omega, by omega, g2, g3, h2⟩, ?_⟩
        rw [blks, List.filter_append, h1, g4]
        rfl
    · refine .inr ⟨i, j, rest ++ (row t n (t.length - n)).filter (high c), h1, ?_⟩
      rw [blks, List.filter_append, h2]
      rfl
theorem rk_pow {t : List Int} : ∀ n : Nat, 2 ^ rk t n ≤ n + 1 := by
  intro n
  induction n using Nat.strongRecOn with
  | ind n ih =>
    rcases Nat.eq_zero_or_pos n with e | hn
    · subst e
      rw [rk_zero]
      decide
    · have h1 := hlf_brd (t := t) hn
      have h2 := ih (hlf t n) h1.1.1
      rw [rk_pos hn, Nat.pow_succ]
      omega
/-- a first letter that does not come again -/
theorem rk_once {t : List Int} {n : Nat} (h : ∀ i, 0 < i → i < n → t[0]? ≠ t[i]?) : rk t n ≤ 1 := by
  rcases Nat.eq_zero_or_pos n with e | hn
  · subst e
    rw [rk_zero]
    omega
  · have h1 := hlf_brd (t := t) hn
    rcases Nat.eq_zero_or_pos (hlf t n) with e | hb
    · rw [rk_pos hn, e, rk_zero]
      omega
    · have := h1.1.2 0 hb
      exact absurd this (h (n - hlf t n + 0) (by omega) (by omega))
/-- all letters unlike but those at a and b -/
def Twin (u : List Int) (a b : Nat) : Prop := a + 2 ≤ b ∧ b < u.length ∧ u[a]? = u[b]? ∧ ∀ i j, i < j → j < u.length → u[i]? = u[j]? → i = a ∧ j = b
theorem twin_first {u : List Int} {a b : Nat} (h : Twin u a b) : First u 2 a (b + 1 - a) := by
  obtain ⟨h1, h2, h3, h4⟩ := h
  have small : ∀ i j, i + j ≤ u.length → (i ≠ a ∨ i + j ≤ b) → rk (u.drop i) j < 2 := fun i j hj hne => by
    have := rk_once (t := u.drop i) (n := j) fun k k0 k1 e => by
      rw [List.getElem?_drop, List.getElem?_drop, Nat.add_zero] at e
      have := h4 i (i + k) (by omega) (by omega) e
      omega
    omega
  refine ⟨by omega, by omega, ?_, fun j' hj => small a j' (by omega) (by omega), fun i' hi j hj => small i' j hj (by omega)⟩
  have hb : Brd (u.drop a) (b + 1 - a) 1 := ⟨by omega, fun i hi => by
    obtain rfl : i = 0 := by omega
    rw [List.getElem?_drop, List.getElem?_drop, Nat.add_zero, show a + (b + 1 - a - 1 + 0) = b by omega]
    exact h3⟩
  have := rk_most hb (by omega)
  rw [rk_pos (t := u.drop a) (k := 1) (by omega), hlf_one, rk_zero] at this
  omega
theorem twin_hlf {u : List Int} {a b : Nat} (h : Twin u a b) : hlf ((u.drop a).take (b + 1 - a)) (b + 1 - a) = 1 := by
  obtain ⟨h1, h2, h3, h4⟩ := h
  have at_ : ∀ i, i < b + 1 - a → ((u.drop a).take (b + 1 - a))[i]? = u[a + i]? := fun i hi => by
    rw [List.getElem?_take, if_pos hi, List.getElem?_drop]
  have hb : Brd ((u.drop a).take (b + 1 - a)) (b + 1 - a) 1 := ⟨by omega, fun i hi => by
    obtain rfl : i = 0 := by omega
    rw [at_ 0 (by omega), at_ _ (by omega), show a + (b + 1 - a - 1 + 0) = b by omega]
    exact h3⟩
  have hm := hlf_max hb (by omega)
  have hh := hlf_brd (t := (u.drop a).take (b + 1 - a)) (n := b + 1 - a) (by omega)
  generalize hlf ((u.drop a).take (b + 1 - a)) (b + 1 - a) = x at *
  have := hh.1.2 0 (by omega)
  rw [at_ 0 (by omega), at_ _ (by omega)] at this
  have := h4 _ _ (by omega) (by omega) this
  omega
theorem twin_vls {u : List Int} {a b : Nat} (h : Twin u a b) : vls ((u.drop a).take (b + 1 - a)) (b + 1 - a) 1 = [(u.drop a).take 1, (u.drop (a + 1)).take (b - (a + 1))] := by
  have hh := twin_hlf h
  have h1 := h.1
  rw [vls, vls, hh]
  unfold mid
  rw [hh, List.take_take, Nat.min_eq_left (by omega), List.drop_take, List.drop_drop, List.take_take, Nat.min_eq_left (by omega), show b + 1 - a - 1 - 1 = b - (a + 1) by omega]
  rfl
/-! ### universal texts in other letters -/
theorem unif_at {f : Int → Int} {m c : Nat} (h : m ≤ c) {i : Nat} (hi : i + 1 < 2 ^ m) : ((uni c).map f)[i]? = ((uni m).map f)[i]? := by
  have : 2 ^ m ≤ 2 ^ c := Nat.pow_le_pow_right (by decide) h
  rw [List.getElem?_map, List.getElem?_map, uni_at c i (by omega), uni_at m i hi]
/-- t begins with the universal text of c, in other letters -/
def Beg (t : List Int) (f : Int → Int) (c : Nat) : Prop := ∀ i, i + 1 < 2 ^ c → t[i]? = ((uni c).map f)[i]?
theorem Beg.low {t : List Int} {f : Int → Int} {c m : Nat} (h : Beg t f c) (hm : m ≤ c) : Beg t f m := fun i hi => by
  have : 2 ^ m ≤ 2 ^ c := Nat.pow_le_pow_right (by decide) hm
  rw [h i (by omega), unif_at hm hi]
theorem Beg.hlf {t : List Int} {f : Int → Int} {c : Nat} (h : Beg t f (c + 1)) : Mo.hlf t (2 ^ (c + 1) - 1) = 2 ^ c - 1 := by
  have p : 0 < 2 ^ c := Nat.pow_pos (by decide)
  have e : 2 ^ (c + 1) = 2 ^ c + 2 ^ c := by rw [Nat.pow_succ]; omega
  have hb : Brd t (2 ^ (c + 1) - 1) (2 ^ c - 1) := ⟨by omega, fun i hi => by
    rw [h i (by omega), h (2 ^ (c + 1) - 1 - (2 ^ c - 1) + i) (by omega), List.getElem?_map, List.getElem?_map, uni_at _ i (by omega), uni_at _ _ (by omega), show 2 ^ (c + 1) - 1 - (2 ^ c - 1) + i + 1 = 2 ^ c + (i + 1) by omega, tz_high c (i + 1) (by omega) (by omega)]⟩
  have h1 := hlf_max hb (by omega)
  have h2 := hlf_brd (t := t) (n := 2 ^ (c + 1) - 1) (by omega)
  omega
theorem Beg.rk {t : List Int} {f : Int → Int} : ∀ {c : Nat}, Beg t f c → Mo.rk t (2 ^ c - 1) = c
  | 0, _ => rk_zero t
  | c + 1, h => by
    have p : 0 < 2 ^ c := Nat.pow_pos (by decide)
    rw [rk_pos (by rw [Nat.pow_succ]; omega), h.hlf, Beg.rk (h.low (Nat.le_succ c))]
theorem drop_one {t : List Int} {n : Nat} {x : Int} (h : t[n]? = some x) : (t.drop n).take 1 = [x] := by
  have e : (t.drop n)[0]? = some x := by rw [List.getElem?_drop, Nat.add_zero]; exact h
  cases g : t.drop n with
  | nil => rw [g] at e; cases e
  | cons y r =>
    rw [g] at e
    cases e
    rfl
theorem Beg.vls {t : List Int} {f : Int → Int} : ∀ {c : Nat}, Beg t f (c + 1) → Mo.vls t (2 ^ (c + 1) - 1) c = (List.range (c + 1)).map fun k => [f ((k : Nat) : Int)]
  | 0, h => by
    show [t.take 1] = [[f ((0 : Nat) : Int)]]
    have h0 := h 0 (by decide)
    rw [List.getElem?_map, uni_at 1 0 (by decide), show tz (0 + 1) = 0 from tz_odd rfl] at h0
    have := drop_one h0
    rw [List.drop_zero] at this
    rw [this]
  | c + 1, h => by
    have p : 0 < 2 ^ (c + 1) := Nat.pow_pos (by decide)
    have e : 2 ^ (c + 1 + 1) = 2 ^ (c + 1) + 2 ^ (c + 1) := by rw [Nat.pow_succ]; omega
    rw [Mo.vls, h.hlf, Beg.vls (h.low (Nat.le_succ _)), List.range_succ (n := c + 1), List.map_append]
    refine congrArg (_ ++ ·) ?_
    have hm := h (2 ^ (c + 1) - 1) (by omega)
    rw [List.getElem?_map, uni_at _ _ (by omega), show 2 ^ (c + 1) - 1 + 1 = 2 ^ (c + 1) by omega, tz_pow] at hm
    unfold mid
    rw [h.hlf, show 2 ^ (c + 1 + 1) - 1 - (2 ^ (c + 1) - 1) - (2 ^ (c + 1) - 1) = 1 by omega, drop_one hm]
    rfl
def lett_of (own : List Int) (x : Int) : Int := own.getD x.toNat 0
/-- the universal text in the letters own, between unlike other letters, a of them ahead -/
def Grt (u own : List Int) (a : Nat) : Prop := ∃ pre post : List Int, u = pre ++ ((uni own.length).map (lett_of own) ++ post) ∧ pre.length = a ∧ (pre ++ (own ++ post)).Nodup
theorem lett_mem {own : List Int} {x : Int} (h : x ∈ uni own.length) : lett_of own x ∈ own := by
  have := uni_low h
  unfold lett_of
  rw [List.getD_eq_getElem?_getD, List.getElem?_eq_getElem (by omega)]
  exact List.getElem_mem _
theorem Grt.ahead {u own : List Int} {a : Nat} (h : Grt u own a) {i k : Nat} (hi : i < a) (hk : 0 < k) : u[i]? ≠ u[i + k]? ∨ u.length ≤ i + k := by
  obtain ⟨pre, post, rfl, ha, hn⟩ := h
  rcases Nat.lt_or_ge (i + k) (pre ++ ((uni own.length).map (lett_of own) ++ post)).length with g | g
  · refine .inl fun e => ?_
    rw [List.getElem?_append_left (by omega)] at e
    have hn2 := List.nodup_append.mp hn
    rcases Nat.lt_or_ge (i + k) pre.length with z | z
    · rw [List.getElem?_append_left z, List.getElem?_eq_getElem (by omega), List.getElem?_eq_getElem z] at e
      have := (List.getElem_inj (h₀ := by omega) (h₁ := z) hn2.1).mp (Option.some.inj e)
      omega
    · rw [List.getElem?_append_right z, List.getElem?_eq_getElem (by omega)] at e
      have hm := List.mem_of_getElem? e.symm
      have hp : pre[i] ∈ pre := List.getElem_mem _
      refine hn2.2.2 _ hp _ ?_ rfl
      rcases List.mem_append.mp hm with y | y
      · obtain ⟨x, hx, ex⟩ := List.mem_map.mp y
        rw [← ex]
        exact List.mem_append_left _ (lett_mem hx)
      · exact List.mem_append_right _ y
  · exact .inr g
theorem Grt.beg {u own : List Int} {a : Nat} (h : Grt u own a) : Beg (u.drop a) (lett_of own) own.length := by
  obtain ⟨pre, post, rfl, rfl, hn⟩ := h
  intro i hi
  have hl := uni_len own.length
  rw [List.drop_left, List.getElem?_append_left (by rw [List.length_map]; omega)]
theorem Grt.len {u own : List Int} {a : Nat} (h : Grt u own a) : a + (2 ^ own.length - 1) ≤ u.length := by
  obtain ⟨pre, post, rfl, rfl, hn⟩ := h
  have hl := uni_len own.length
  rw [List.length_append, List.length_append, List.length_map]
  omega
theorem Grt.first {u own : List Int} {a : Nat} (h : Grt u own a) (hc : 2 ≤ own.length) : First u own.length a (2 ^ own.length - 1) := by
  have hl := h.len
  have p : 2 ^ 1 ≤ 2 ^ own.length := Nat.pow_le_pow_right (by decide) (by omega)
  refine ⟨by omega, hl, Nat.le_of_eq h.beg.rk.symm, fun j' hj => ?_, fun i' hi j hj => ?_⟩
  · rcases Nat.lt_or_ge (rk (u.drop a) j') own.length with g | g
    · exact g
    · have h1 := rk_pow (t := u.drop a) j'
      have h2 : 2 ^ own.length ≤ 2 ^ rk (u.drop a) j' := Nat.pow_le_pow_right (by decide) g
      omega
  · have := rk_once (t := u.drop i') (n := j) fun k k0 k1 e => by
      rw [List.getElem?_drop, List.getElem?_drop, Nat.add_zero] at e
      rcases h.ahead hi k0 with z | z
      · exact z e
      · omega
    omega
theorem Grt.vls {u own : List Int} {a m : Nat} (h : Grt u own a) (hc : own.length = m + 1) : Mo.vls ((u.drop a).take (2 ^ (m + 1) - 1)) (2 ^ (m + 1) - 1) m = own.map fun x => [x] := by
  have hb := h.beg
  rw [hc] at hb
  have hb2 : Beg ((u.drop a).take (2 ^ (m + 1) - 1)) (lett_of own) (m + 1) := fun i hi => by
    rw [List.getElem?_take, if_pos (by omega)]
    exact hb i hi
  rw [hb2.vls, ← hc]
  apply List.ext_getElem?
  intro i
  rw [List.getElem?_map, List.getElem?_map]
  rcases Nat.lt_or_ge i own.length with g | g
  · rw [List.getElem?_range g, List.getElem?_eq_getElem g]
    show some [lett_of own ((i : Nat) : Int)] = some [own[i]]
    unfold lett_of
    rw [Int.toNat_natCast, List.getD_eq_getElem?_getD, List.getElem?_eq_getElem g]
    rfl
  · rw [List.getElem?_eq_none (by rw [List.length_range]; exact g), List.getElem?_eq_none g]
    rfl
end Mo

namespace Mo
/-- no block has a rank above b -/
def Top (t : List Int) (b : Nat) : Prop := ∀ i, i < t.length → Less t (b + 1) i
/-- some block has the rank b -/
def Has (t : List Int) (b : Nat) : Prop := b = 0 ∨ ∃ i j, i < t.length ∧ i + j ≤ t.length ∧ rk (t.drop i) j = b
theorem top_uniq {t : List Int} {b c : Nat} (h1 : Top t b) (h2 : Has t b) (g1 : Top t c) (g2 : Has t c) : b = c := by
  have le : ∀ {b c : Nat}, Has t b → Top t c → b ≤ c := fun {b c} h g => by
    rcases h with e | ⟨i, j, hi, hj, e⟩
    · omega
    · have := g i hi j hj
      omega
  exact Nat.le_antisymm (le h2 g1) (le g2 h1)
/-- the first of the best blocks, (0, 0, 0) if there is none -/
def Best (t : List Int) (b i j : Nat) : Prop := Top t b ∧ ((b = 0 ∧ i = 0 ∧ j = 0) ∨ (0 < b ∧ First t b i j))
theorem Best.has {t : List Int} {b i j : Nat} (h : Best t b i j) : Has t b := by
  rcases h.2 with ⟨e, _⟩ | ⟨_, hF⟩
  · exact .inl e
  · have := h.1 i hF.1 j hF.2.1
    have := hF.2.2.1
    exact .inr ⟨i, j, hF.1, hF.2.1, by omega⟩
theorem rk_first {t : List Int} : rk t 1 = 1 := by rw [rk_pos (by omega), hlf_one, rk_zero]
theorem Best.low {t : List Int} {b i j : Nat} (h : Best t b i j) (h0 : 0 < t.length) : 0 < b := by
  have := h.1 0 h0 1 (by omega)
  rw [List.drop_zero, rk_first] at this
  omega
theorem Best.uniq {t : List Int} {b i j b' i' j' : Nat} (h : Best t b i j) (g : Best t b' i' j') : b = b' ∧ i = i' ∧ j = j' := by
  have e := top_uniq h.1 h.has g.1 g.has
  subst e
  rcases h.2 with ⟨e, e1, e2⟩ | ⟨e, hF⟩ <;> rcases g.2 with ⟨d, d1, d2⟩ | ⟨d, gF⟩
  · omega
  · omega
  · omega
  · exact ⟨rfl, hF.uniq gF⟩
theorem Best.of {t : List Int} {b i j : Nat} (h : Top t b) (hb : 0 < b) (hF : First t b i j) : Best t b i j := ⟨h, .inr ⟨hb, hF⟩⟩
theorem Best.rank {t : List Int} {b i j : Nat} (h : Best t b i j) (hb : 0 < b) : rk (t.drop i) j = b := by
  rcases h.2 with ⟨e, _⟩ | ⟨_, hF⟩
  · omega
  · have := h.1 i hF.1 j hF.2.1
    have := hF.2.2.1
    omega
/-- what stands among the blocks -/
theorem mem_blks {t : List Int} : ∀ {n : Nat} {v : List Int}, n ≤ t.length → v ∈ blks t n → ∃ i k, i < n ∧ i + (k + 1) ≤ t.length ∧ v = [((rk (t.drop i) (k + 1) : Nat) : Int), ((i : Nat) : Int), ((i + (k + 1) : Nat) : Int)]
  | 0, v, _, h => by cases h
  | n + 1, v, hn, h => by
    rw [blks] at h
    rcases List.mem_append.mp h with g | g
    · obtain ⟨i, k, h1, h2, h3⟩ := mem_blks (by omega) g
      exact ⟨i, k, by omega, h2, h3⟩
    · obtain ⟨k, hk, rfl⟩ := List.mem_map.mp g
      have := List.mem_range.mp hk
      exact ⟨n, k, by omega, by omega, rfl⟩
theorem blks_mem {t : List Int} : ∀ {n i k : Nat}, i < n → i + (k + 1) ≤ t.length → [((rk (t.drop i) (k + 1) : Nat) : Int), ((i : Nat) : Int), ((i + (k + 1) : Nat) : Int)] ∈ blks t n
  | 0, i, k, h, _ => by omega
  | n + 1, i, k, h, hk => by
    rw [blks]
    rcases Nat.lt_or_ge i n with g | g
    · exact List.mem_append_left _ (blks_mem g hk)
    · obtain rfl : i = n := by omega
      exact List.mem_append_right _ (List.mem_map.mpr ⟨k, List.mem_range.mpr (by omega), rfl⟩)
def lone (b : Nat) (v : List Int) : Bool := decide (v.headD 0 = (b : Int))
theorem blk_best {t : List Int} {b i j : Nat} (h : Best t b i j) : ∃ rest, (blks t t.length).filter (lone b) ++ [[0, 0, 0]] = [((b : Nat) : Int), ((i : Nat) : Int), ((i + j : Nat) : Int)] :: rest := by
  rcases h.2 with ⟨rfl, rfl, rfl⟩ | ⟨hb, hF⟩
  · have e : t.length = 0 := by
      rcases Nat.eq_zero_or_pos t.length with e | e
      · exact e
      · have := h.low e
        omega
    rw [e]
    exact ⟨[], rfl⟩
  · have e : (blks t t.length).filter (lone b) = (blks t t.length).filter (high b) := by
      refine List.filter_congr fun v hv => ?_
      obtain ⟨i', k, h1, h2, rfl⟩ := mem_blks (Nat.le_refl _) hv
      have := h.1 i' h1 (k + 1) h2
      unfold lone high
      show decide (((rk (t.drop i') (k + 1) : Nat) : Int) = (b : Int)) = decide ((b : Int) ≤ ((rk (t.drop i') (k + 1) : Nat) : Int))
      by_cases z : ((rk (t.drop i') (k + 1) : Nat) : Int) = (b : Int)
      · rw [decide_eq_true z, decide_eq_true (by omega)]
      · rw [decide_eq_false z, decide_eq_false (by omega)]
    rcases blk_first (t := t) hb t.length (Nat.le_refl _) with ⟨g1, g2⟩ | ⟨i0, j0, rest, g1, g2⟩
    · have := g2 i hF.1 j hF.2.1
      have := hF.2.2.1
      omega
    · obtain ⟨e1, e2⟩ := hF.uniq g1
      subst e1 e2
      rw [e, g2, h.rank hb]
      exact ⟨_, rfl⟩
/-! ### the long texts -/
theorem brd_two {t : List Int} {n : Nat} (h : 2 ≤ rk t n) : 0 < hlf t n ∧ 0 < n := by
  rcases Nat.eq_zero_or_pos n with e | hn
  · subst e
    rw [rk_zero] at h
    omega
  · rcases Nat.eq_zero_or_pos (hlf t n) with e | hb
    · rw [rk_pos hn, e, rk_zero] at h
      omega
    · exact ⟨hb, hn⟩
theorem twin_top {u : List Int} {a b : Nat} (h : Twin u a b) : Top u 2 := by
  obtain ⟨h1, h2, h3, h4⟩ := h
  intro i hi j hj
  rcases Nat.lt_or_ge (rk (u.drop i) j) 3 with g | g
  · exact g
  · obtain ⟨b1, b2⟩ := brd_two (t := u.drop i) (n := j) (by omega)
    have hb := hlf_brd (t := u.drop i) b2
    rw [rk_pos b2] at g
    obtain ⟨c1, c2⟩ := brd_two (t := u.drop i) (n := hlf (u.drop i) j) (by omega)
    have hc := hlf_brd (t := u.drop i) c2
    generalize hlf (u.drop i) j = x at *
    have e0 := hb.1.2 0 (by omega)
    have e1 := hb.1.2 1 (by omega)
    rw [List.getElem?_drop, List.getElem?_drop] at e0 e1
    have d0 := h4 _ _ (by omega) (by omega) e0
    have d1 := h4 _ _ (by omega) (by omega) e1
    omega
theorem twin_best {u : List Int} {a b : Nat} (h : Twin u a b) : Best u 2 a (b + 1 - a) := .of (twin_top h) (by decide) (twin_first h)
theorem twin_whole {u : List Int} {a b : Nat} (h : Twin u a b) (hn : ¬ (a = 0 ∧ b + 1 = u.length)) : rk u u.length = 1 := by
  obtain ⟨h1, h2, h3, h4⟩ := h
  have p := rk_pos (t := u) (k := u.length) (by omega)
  rcases Nat.lt_or_ge (rk u u.length) 2 with g | g
  · omega
  · obtain ⟨b1, b2⟩ := brd_two g
    have hb := hlf_brd (t := u) b2
    generalize hlf u u.length = x at *
    have e0 := hb.1.2 0 (by omega)
    have d0 := h4 _ _ (by omega) (by omega) e0
    rcases Nat.lt_or_ge 1 x with z | z
    · have e1 := hb.1.2 1 (by omega)
      have d1 := h4 _ _ (by omega) (by omega) e1
      omega
    · omega
/-- behind the universal text nothing comes twice -/
theorem Grt.behind {u own : List Int} {a : Nat} (h : Grt u own a) {i k : Nat} (hk : a + (2 ^ own.length - 1) ≤ k) (hl : k < u.length) (hi : i < k) : u[i]? ≠ u[k]? := by
  obtain ⟨pre, post, rfl, rfl, hn⟩ := h
  have hul := uni_len own.length
  intro e
  have hn2 := List.nodup_append.mp hn
  have hn3 := List.nodup_append.mp hn2.2.1
  have ml : ((uni own.length).map (lett_of own)).length = 2 ^ own.length - 1 := by rw [List.length_map]; omega
  have ek : (pre ++ ((uni own.length).map (lett_of own) ++ post))[k]? = post[k - pre.length - (2 ^ own.length - 1)]? := by
    rw [List.getElem?_append_right (by omega), List.getElem?_append_right (by omega), ml]
  have hl2 : k - pre.length - (2 ^ own.length - 1) < post.length := by
    rw [List.length_append, List.length_append, ml] at hl
    omega
  rw [ek] at e
  rw [List.getElem?_eq_getElem hl2] at e
  have hp : post[k - pre.length - (2 ^ own.length - 1)] ∈ post := List.getElem_mem _
  rcases Nat.lt_or_ge i pre.length with z | z
  · rw [List.getElem?_append_left z] at e
    have hm := List.mem_of_getElem? e
    exact hn2.2.2 _ hm _ (List.mem_append_right _ hp) rfl
  · rw [List.getElem?_append_right z] at e
    rcases Nat.lt_or_ge (i - pre.length) (2 ^ own.length - 1) with y | y
    · rw [List.getElem?_append_left (by omega)] at e
      have hm := List.mem_of_getElem? e
      obtain ⟨x, hx, ex⟩ := List.mem_map.mp hm
      exact hn3.2.2 _ (lett_mem hx) _ hp ex
    · rw [List.getElem?_append_right (by omega), ml] at e
      have hl3 : i - pre.length - (2 ^ own.length - 1) < post.length := by omega
      rw [List.getElem?_eq_getElem hl3] at e
      have := (List.getElem_inj (h₀ := hl3) (h₁ := hl2) hn3.2.1).mp (Option.some.inj e)
      omega
/-- a block that repeats its first letters lies within the universal text -/
theorem Grt.within {u own : List Int} {a : Nat} (h : Grt u own a) {i j : Nat} (hj : i + j ≤ u.length) (hr : 2 ≤ rk (u.drop i) j) : a ≤ i ∧ i + j ≤ a + (2 ^ own.length - 1) := by
  obtain ⟨b1, b2⟩ := brd_two hr
  have hb := hlf_brd (t := u.drop i) b2
  generalize hlf (u.drop i) j = x at *
  have e0 := hb.1.2 0 (by omega)
  have e1 := hb.1.2 (x - 1) (by omega)
  rw [List.getElem?_drop, List.getElem?_drop] at e0 e1
  constructor
  · rcases Nat.lt_or_ge i a with g | g
    · rcases h.ahead g (k := j - x) (by omega) with z | z
      · exact absurd e0 (by rw [Nat.add_zero, show i + (j - x + 0) = i + (j - x) by omega]; exact z)
      · omega
    · exact g
  · rcases Nat.lt_or_ge (a + (2 ^ own.length - 1)) (i + j) with g | g
    · refine absurd e1 ?_
      rw [show i + (j - x + (x - 1)) = i + j - 1 by omega]
      exact h.behind (by omega) (by omega) (by omega)
    · exact g
theorem Grt.top {u own : List Int} {a : Nat} (h : Grt u own a) (hc : 2 ≤ own.length) : Top u own.length := by
  intro i hi j hj
  rcases Nat.lt_or_ge (rk (u.drop i) j) (own.length + 1) with g | g
  · exact g
  · have hw := h.within hj (by omega)
    have h1 := rk_pow (t := u.drop i) j
    have h2 : 2 ^ (own.length + 1) ≤ 2 ^ rk (u.drop i) j := Nat.pow_le_pow_right (by decide) g
    rw [Nat.pow_succ] at h2
    have : 0 < 2 ^ own.length := Nat.pow_pos (by decide)
    omega
theorem Grt.best {u own : List Int} {a : Nat} (h : Grt u own a) (hc : 2 ≤ own.length) : Best u own.length a (2 ^ own.length - 1) := .of (h.top hc) (by omega) (h.first hc)
theorem Grt.whole {u own : List Int} {a : Nat} (h : Grt u own a) (hc : 2 ≤ own.length) (hn : ¬ (a = 0 ∧ 2 ^ own.length - 1 = u.length)) : rk u u.length = 1 := by
  have hl := h.len
  have p2 : 2 ^ 1 ≤ 2 ^ own.length := Nat.pow_le_pow_right (by decide) (by omega)
  have p := rk_pos (t := u) (k := u.length) (by omega)
  rcases Nat.lt_or_ge (rk u u.length) 2 with g | g
  · omega
  · have := h.within (i := 0) (j := u.length) (by omega) (by rw [List.drop_zero]; exact g)
    omega
end Mo
namespace Mo
theorem best_of {t : List Int} {b : Nat} (h : Top t b) (g : Has t b) : ∃ i j, Best t b i j := by
  rcases Nat.eq_zero_or_pos b with e | hb
  · exact ⟨0, 0, h, .inl ⟨e, rfl, rfl⟩⟩
  · rcases blk_first (t := t) hb t.length (Nat.le_refl _) with ⟨_, g2⟩ | ⟨i, j, _, g1, _⟩
    · rcases g with e | ⟨i, j, hi, hj, e⟩
      · omega
      · have := g2 i hi j hj
        omega
    · exact ⟨i, j, h, .inr ⟨hb, g1⟩⟩
theorem Best.small {t : List Int} {b i j : Nat} (h : Best t b i j) : b ≤ t.length ∧ i ≤ t.length ∧ i + j ≤ t.length := by
  rcases h.2 with ⟨rfl, rfl, rfl⟩ | ⟨hb, hF⟩
  · omega
  · have h1 := h.rank hb
    have h2 := rk_pow (t := t.drop i) j
    rw [h1] at h2
    have h3 := Nat.lt_two_pow_self (n := b)
    have := hF.1
    have := hF.2.1
    omega
theorem best_nil : Best [] 0 0 0 := ⟨fun i hi => absurd hi (Nat.not_lt_zero i), .inl ⟨rfl, rfl, rfl⟩⟩
end Mo

namespace Mo
/-! ranks by halves: what a rank of n or more means -/
def Rkd : Nat → List Int → Prop
  | 0, _ => True
  | n + 1, t => t ≠ [] ∧ (n = 0 ∨ ∃ u v, v ≠ [] ∧ t = u ++ (v ++ u) ∧ Rkd n u)
theorem brd_halves {t : List Int} {b : Nat} (h : Brd t t.length b) (h2 : 2 * b < t.length) : ∃ u v, v ≠ [] ∧ u.length = b ∧ t = u ++ (v ++ u) ∧ u = t.take b := by
  have e := (brd_slices (Nat.le_refl _) h.1).mp h
  have e2 : (t.drop (t.length - b)).take b = t.drop (t.length - b) := List.take_of_length_le (by rw [List.length_drop]; omega)
  rw [e2] at e
  refine ⟨t.take b, (t.drop b).take (t.length - 2 * b), ?_, ?_, ?_, rfl⟩
  · intro z
    have := congrArg List.length z
    rw [List.length_take, List.length_drop, List.length_nil] at this
    omega
  · rw [List.length_take]
    omega
  · have e3 : t.drop (t.length - b) = (t.drop b).drop (t.length - 2 * b) := by
      rw [List.drop_drop]
      congr 1
      omega
    have e4 : (t.drop b).take (t.length - 2 * b) ++ t.take b = t.drop b := by
      rw [e, e3]
      exact List.take_append_drop _ _
    rw [e4]
    exact (List.take_append_drop b t).symm
theorem halves_brd {u v : List Int} (hv : v ≠ []) : Brd (u ++ (v ++ u)) (u ++ (v ++ u)).length u.length ∧ 2 * u.length < (u ++ (v ++ u)).length := by
  have h0 : 0 < v.length := by
    cases v with
    | nil => exact absurd rfl hv
    | cons a r => exact Nat.succ_pos _
  have hl : (u ++ (v ++ u)).length = u.length + (v.length + u.length) := by rw [List.length_append, List.length_append]
  refine ⟨⟨by omega, fun i hi => ?_⟩, by omega⟩
  rw [List.getElem?_append_left hi, List.getElem?_append_right (by omega), List.getElem?_append_right (by omega)]
  congr 1
  omega
theorem rk_take {t : List Int} {b : Nat} (h : b ≤ t.length) : rk t b = rk (t.take b) (t.take b).length := by
  have e : (t.take b).length = b := by rw [List.length_take]; omega
  rw [e]
  exact rk_local fun i hi => by rw [List.getElem?_take, if_pos hi]
theorem rkd_iff : ∀ (n : Nat) (t : List Int), n ≤ rk t t.length ↔ Rkd n t
  | 0, t => ⟨fun _ => trivial, fun _ => Nat.zero_le _⟩
  | n + 1, t => by
    constructor
    · intro h
      have h0 : 0 < t.length := by
        rcases Nat.eq_zero_or_pos t.length with e | e
        · rw [e, rk_zero] at h
          omega
        · exact e
      refine ⟨fun e => by rw [e] at h0; exact absurd h0 (by decide), ?_⟩
      rw [rk_pos h0] at h
      obtain ⟨hb, h2⟩ := hlf_brd (t := t) h0
      obtain ⟨u, v, hv, hu, et, eu⟩ := brd_halves hb h2
      refine .inr ⟨u, v, hv, et, (rkd_iff n u).mp ?_⟩
      rw [eu, ← rk_take (by omega)]
      omega
    · rintro ⟨hne, h⟩
      have h0 : 0 < t.length := by
        cases t with
        | nil => exact absurd rfl hne
        | cons a r => exact Nat.succ_pos _
      rcases h with rfl | ⟨u, v, hv, rfl, hu⟩
      · rw [rk_pos h0]
        omega
      · have hb := halves_brd (u := u) hv
        have h1 := rk_most hb.1 hb.2
        have h2 := (rkd_iff n u).mpr hu
        have h3 : rk (u ++ (v ++ u)) u.length = rk u u.length := rk_local fun i hi => List.getElem?_append_left hi
        omega
theorem Rkd.len : ∀ {n : Nat} {t : List Int}, Rkd n t → 2 ^ n ≤ t.length + 1
  | 0, t, _ => by
    show 1 ≤ _
    omega
  | n + 1, t, h => by
    obtain ⟨hne, h⟩ := h
    have h0 : 0 < t.length := by
      cases t with
      | nil => exact absurd rfl hne
      | cons a r => exact Nat.succ_pos _
    rcases h with rfl | ⟨u, v, hv, rfl, hu⟩
    · show 2 ≤ _
      omega
    · have ih := Rkd.len hu
      have hv0 : 0 < v.length := by
        cases v with
        | nil => exact absurd rfl hv
        | cons a r => exact Nat.succ_pos _
      rw [List.length_append, List.length_append, Nat.pow_succ]
      omega
theorem Rkd.rev : ∀ {n : Nat} {t : List Int}, Rkd n t → Rkd n t.reverse
  | 0, t, _ => trivial
  | n + 1, t, h => by
    obtain ⟨hne, h⟩ := h
    refine ⟨fun e => hne (List.reverse_eq_nil_iff.mp e), ?_⟩
    rcases h with rfl | ⟨u, v, hv, rfl, hu⟩
    · exact .inl rfl
    · refine .inr ⟨u.reverse, v.reverse, fun e => hv (List.reverse_eq_nil_iff.mp e), ?_, Rkd.rev hu⟩
      rw [List.reverse_append, List.reverse_append, List.append_assoc]
theorem Rkd.flat {g : Int → List Int} : ∀ {n : Nat} {t : List Int}, Rkd n t → (∀ x ∈ t, g x ≠ []) → Rkd n (t.flatMap g)
  | 0, t, _, _ => trivial
  | n + 1, t, h, hg => by
    obtain ⟨hne, h⟩ := h
    have nn : ∀ {w : List Int}, w ≠ [] → (∀ x ∈ w, g x ≠ []) → w.flatMap g ≠ [] := fun {w} hw hx e => by
      cases w with
      | nil => exact hw rfl
      | cons a r =>
        rw [List.flatMap_cons] at e
        exact hx a (List.mem_cons_self ..) (List.append_eq_nil_iff.mp e).1
    refine ⟨nn hne hg, ?_⟩
    rcases h with rfl | ⟨u, v, hv, rfl, hu⟩
    · exact .inl rfl
    · refine .inr ⟨u.flatMap g, v.flatMap g, nn hv fun x hx => hg x ?_, ?_, Rkd.flat hu fun x hx => hg x (List.mem_append_left _ hx)⟩
      · exact List.mem_append_right _ (List.mem_append_left _ hx)
      · rw [List.flatMap_append, List.flatMap_append]
theorem Rkd.uni : ∀ n : Nat, Rkd n (uni n)
  | 0 => trivial
  | n + 1 => by
    unfold Mo.uni
    refine ⟨by simp, ?_⟩
    cases n with
    | zero => exact .inl rfl
    | succ m => exact .inr ⟨Mo.uni (m + 1), [((m + 1 : Nat) : Int)], List.cons_ne_nil _ _, List.append_assoc .., Rkd.uni (m + 1)⟩
/-! what the law asks -/
theorem rank_pow (t : List Int) : 2 ^ rk t t.length ≤ t.length + 1 := ((rkd_iff _ t).mp (Nat.le_refl _)).len
theorem rank_made {vv : List (List Int)} (h : ∀ v ∈ vv, v ≠ []) : vv.length ≤ rk ((uni vv.length).flatMap fun u => vv.getD u.toNat []) ((uni vv.length).flatMap fun u => vv.getD u.toNat []).length := by
  refine (rkd_iff _ _).mpr ((Rkd.uni _).flat fun x hx => ?_)
  have hx2 := uni_low hx
  have hi : x.toNat < vv.length := by omega
  rw [List.getD_eq_getElem?_getD, List.getElem?_eq_getElem hi]
  exact h _ (List.getElem_mem hi)
theorem rank_rev (t : List Int) : rk t.reverse t.reverse.length = rk t t.length := by
  refine Nat.le_antisymm ?_ ((rkd_iff _ _).mpr ((rkd_iff _ t).mp (Nat.le_refl _)).rev)
  have h := ((rkd_iff _ t.reverse).mp (Nat.le_refl _)).rev
  rw [List.reverse_reverse] at h
  exact (rkd_iff _ _).mpr h
theorem rank_flat {t : List Int} {g : Int → List Int} (h : ∀ x ∈ t, g x ≠ []) : rk t t.length ≤ rk (t.flatMap g) (t.flatMap g).length :=
  (rkd_iff _ _).mpr (((rkd_iff _ t).mp (Nat.le_refl _)).flat h)
theorem rank_map {t : List Int} {f g : Int → Int} (h : ∀ x ∈ t, g (f x) = x) : rk (t.map f) (t.map f).length = rk t t.length := by
  have key : ∀ (t : List Int) (f : Int → Int), rk t t.length ≤ rk (t.map f) (t.map f).length := fun t f => by
    have := rank_flat (t := t) (g := fun x => [f x]) fun x _ => List.cons_ne_nil _ _
    rwa [show t.flatMap (fun x => [f x]) = t.map f from (List.map_eq_flatMap ..).symm] at this
  refine Nat.le_antisymm ?_ (key t f)
  have := key (t.map f) g
  have e : (t.map f).map g = t := by
    rw [List.map_map]
    exact (List.map_congr_left (g := id) fun x hx => h x hx).trans (List.map_id t)
  rw [e] at this
  exact this
theorem best_full {t : List Int} {b i j : Nat} (h : Best t b i j) : rk t t.length ≤ b := by
  rcases Nat.eq_zero_or_pos t.length with e | e
  · rw [e, rk_zero]
    exact Nat.zero_le _
  · have := h.1 0 e t.length (by omega)
    rw [List.drop_zero] at this
    omega
theorem best_inner {a m c : List Int} {b i j b' i' j' : Nat} (h : Best m b i j) (g : Best (a ++ m ++ c) b' i' j') : b ≤ b' := by
  rcases h.has with e | ⟨x, y, hx, hy, e⟩
  · omega
  · have hl : (a ++ m ++ c).length = a.length + m.length + c.length := by rw [List.length_append, List.length_append]
    have h1 := g.1 (a.length + x) (by omega) y (by omega)
    have h2 : rk ((a ++ m ++ c).drop (a.length + x)) y = rk (m.drop x) y := rk_local fun k hk => by
      rw [List.getElem?_drop, List.getElem?_drop, List.append_assoc, List.getElem?_append_right (by omega), List.getElem?_append_left (by omega)]
      congr 1
      omega
    omega
theorem best_slice {t : List Int} {b i j s e : Nat} (h : Best t b i j) (hs : s ≤ e) (he : e ≤ t.length) : rk ((t.drop s).take (e - s)) ((t.drop s).take (e - s)).length ≤ b := by
  rw [← rk_take (by rw [List.length_drop]; omega)]
  rcases Nat.eq_zero_or_pos (e - s) with z | z
  · rw [z, rk_zero]
    exact Nat.zero_le _
  · have := h.1 s (by omega) (e - s) (by omega)
    omega
end Mo

namespace Mo
/-! long texts have blocks of rank n: two of many blocks are equal -/
/-- the bound for rank n + 1, k letters -/
def bndL (k : Nat) : Nat → Nat
  | 0 => 1
  | n + 1 => (k ^ bndL k n + 1) * (bndL k n + 1) - 1
theorem bndL_pos (k : Nat) : ∀ n, 1 ≤ bndL k n
  | 0 => Nat.le_refl _
  | n + 1 => by
    have h := bndL_pos k n
    have h2 : 1 * 2 ≤ (k ^ bndL k n + 1) * (bndL k n + 1) := Nat.mul_le_mul (by omega) (by omega)
    unfold bndL
    omega
/-- where a letter stands in a list of letters -/
def posL : List Int → Int → Nat
  | [], _ => 0
  | y :: r, x => if y = x then 0 else posL r x + 1
theorem posL_lt : ∀ {L : List Int} {x : Int}, x ∈ L → posL L x < L.length
  | [], _, h => absurd h List.not_mem_nil
  | y :: r, x, h => by
    unfold posL
    by_cases e : y = x
    · rw [if_pos e]
      exact Nat.succ_pos _
    · rw [if_neg e, List.length_cons]
      rcases List.mem_cons.mp h with z | z
      · exact absurd z.symm e
      · have := posL_lt z
        omega
theorem posL_inj : ∀ {L : List Int} {x y : Int}, x ∈ L → y ∈ L → posL L x = posL L y → x = y
  | [], _, _, h, _, _ => absurd h List.not_mem_nil
  | z :: r, x, y, hx, hy, e => by
    unfold posL at e
    by_cases ex : z = x
    · by_cases ey : z = y
      · exact ex.symm.trans ey
      · rw [if_pos ex, if_neg ey] at e
        omega
    · by_cases ey : z = y
      · rw [if_neg ex, if_pos ey] at e
        omega
      · rw [if_neg ex, if_neg ey] at e
        rcases List.mem_cons.mp hx with q | q
        · exact absurd q.symm ex
        · rcases List.mem_cons.mp hy with q2 | q2
          · exact absurd q2.symm ey
          · exact posL_inj q q2 (by omega)
def codeL (L : List Int) : List Int → Nat
  | [] => 0
  | x :: r => posL L x + L.length * codeL L r
theorem codeL_lt {L : List Int} : ∀ {w : List Int}, (∀ x ∈ w, x ∈ L) → codeL L w < L.length ^ w.length
  | [], _ => by
    show 0 < 1
    decide
  | x :: r, h => by
    have h1 := posL_lt (h x (List.mem_cons_self ..))
    have h2 := codeL_lt (w := r) fun z hz => h z (List.mem_cons_of_mem _ hz)
    have h3 : L.length * (codeL L r + 1) ≤ L.length * L.length ^ r.length := Nat.mul_le_mul_left _ h2
    rw [Nat.mul_succ] at h3
    rw [List.length_cons, Nat.pow_succ, Nat.mul_comm (L.length ^ r.length)]
    unfold codeL
    omega
theorem codeL_inj {L : List Int} : ∀ {w v : List Int}, (∀ x ∈ w, x ∈ L) → (∀ x ∈ v, x ∈ L) → w.length = v.length → codeL L w = codeL L v → w = v
  | [], [], _, _, _, _ => rfl
  | [], _ :: _, _, _, h, _ => absurd h (by simp)
  | _ :: _, [], _, _, h, _ => absurd h (by simp)
  | x :: r, y :: q, hw, hv, hl, e => by
    have px := posL_lt (hw x (List.mem_cons_self ..))
    have py := posL_lt (hv y (List.mem_cons_self ..))
    unfold codeL at e
    have e1 := congrArg (· % L.length) e
    have e2 := congrArg (· / L.length) e
    simp only [Nat.add_mul_mod_self_left, Nat.mod_eq_of_lt px, Nat.mod_eq_of_lt py] at e1
    simp only [Nat.add_mul_div_left _ _ (show 0 < L.length by omega), Nat.div_eq_of_lt px, Nat.div_eq_of_lt py, Nat.zero_add] at e2
    rw [posL_inj (hw x (List.mem_cons_self ..)) (hv y (List.mem_cons_self ..)) e1, codeL_inj (fun z hz => hw z (List.mem_cons_of_mem _ hz)) (fun z hz => hv z (List.mem_cons_of_mem _ hz)) (by simpa using hl) e2]
theorem two_alike {f : Nat → Nat} {n : Nat} (h : ∀ s, s ≤ n → f s < n) : ∃ s s', s < s' ∧ s' ≤ n ∧ f s = f s' := by
  apply Classical.byContradiction
  intro no
  have nd : ((List.range (n + 1)).map f).Nodup := by
    refine List.pairwise_map.mpr (List.Pairwise.imp_of_mem (fun {s s'} hs hs' lt e => ?_) List.pairwise_lt_range)
    exact no ⟨s, s', lt, by have := List.mem_range.mp hs'; omega, e⟩
  have := L2.nat_nodup_len ((List.range (n + 1)).map f) (List.range n) nd fun x hx => by
    obtain ⟨s, hs, rfl⟩ := List.mem_map.mp hx
    exact List.mem_range.mpr (h s (by have := List.mem_range.mp hs; omega))
  rw [List.length_map, List.length_range, List.length_range] at this
  omega
theorem has_rank {L : List Int} : ∀ (n : Nat) (t : List Int), (∀ x ∈ t, x ∈ L) → bndL L.length n ≤ t.length → ∃ i j, i + j ≤ t.length ∧ i < t.length ∧ n + 1 ≤ rk (t.drop i) j
  | 0, t, _, h => ⟨0, 1, by have : 1 ≤ t.length := h; omega, h, by rw [rk_first]; exact Nat.le_refl _⟩
  | n + 1, t, hL, h => by
    have hb := bndL_pos L.length n
    have ih := has_rank (L := L) n
    unfold bndL at h
    generalize bndL L.length n = b at *
    have pos : ∀ s, s ≤ L.length ^ b → s * (b + 1) + b ≤ t.length := fun s hs => by
      have h1 : s * (b + 1) ≤ L.length ^ b * (b + 1) := Nat.mul_le_mul_right _ hs
      rw [Nat.add_mul] at h
      omega
    have blen : ∀ s, s ≤ L.length ^ b → ((t.drop (s * (b + 1))).take b).length = b := fun s hs => by
      have := pos s hs
      rw [List.length_take, List.length_drop]
      omega
    have bmem : ∀ s, ∀ x ∈ (t.drop (s * (b + 1))).take b, x ∈ L := fun s x hx => hL x (List.mem_of_mem_drop (List.mem_of_mem_take hx))
    obtain ⟨s, s', lt, hs', e⟩ := two_alike (f := fun s => codeL L ((t.drop (s * (b + 1))).take b)) (n := L.length ^ b) fun s hs => by
      have := codeL_lt (bmem s)
      rw [blen s hs] at this
      exact this
    have eb := codeL_inj (bmem s) (bmem s') ((blen s (by omega)).trans (blen s' hs').symm) e
    obtain ⟨i, j, hij, _, hr⟩ := ih ((t.drop (s * (b + 1))).take b) (bmem s) (by rw [blen s (by omega)]; exact Nat.le_refl _)
    rw [blen s (by omega)] at hij
    have hd : s * (b + 1) + (b + 1) ≤ s' * (b + 1) := by
      have := Nat.mul_le_mul_right (b + 1) (show s + 1 ≤ s' from lt)
      rw [Nat.add_mul, Nat.one_mul] at this
      exact this
    have hp' := pos s' hs'
    have at1 : ∀ r m, m < b → t[r * (b + 1) + m]? = ((t.drop (r * (b + 1))).take b)[m]? := fun r m hm => by
      rw [List.getElem?_take, if_pos hm, List.getElem?_drop]
    have loc : rk (((t.drop (s * (b + 1))).take b).drop i) j = rk (t.drop (s * (b + 1) + i)) j := rk_local fun m hm => by
      rw [List.getElem?_drop, List.getElem?_drop, ← at1 s (i + m) (by omega)]
      congr 1
      omega
    have brd : Brd (t.drop (s * (b + 1) + i)) (s' * (b + 1) - s * (b + 1) + j) j := by
      refine ⟨by omega, fun m hm => ?_⟩
      rw [List.getElem?_drop, List.getElem?_drop]
      have a1 := at1 s (i + m) (by omega)
      have a2 := at1 s' (i + m) (by omega)
      rw [eb, ← a2] at a1
      rw [show s * (b + 1) + i + m = s * (b + 1) + (i + m) by omega, a1]
      congr 1
      omega
    have most := rk_most brd (by omega)
    exact ⟨s * (b + 1) + i, s' * (b + 1) - s * (b + 1) + j, by omega, by omega, by omega⟩
theorem first_exists {t : List Int} {c i j : Nat} (hi : i < t.length) (hij : i + j ≤ t.length) (h : c ≤ rk (t.drop i) j) : ¬ ∀ i, i < t.length → Less t c i := fun z => by
  have := z i hi j hij
  omega
end Mo

namespace Mo
open PySem PySem.Spec PyProof.Rows L2
/-! ### an error that is kept behind its except suite -/
/-- at a: an error of the class cls, its own dict d -/
def exV (a : Addr) (cls : Value) (d : Option Addr) : HO := .ext fun h => ∃ oe vs, h.get? a = some oe ∧ Zc cls d oe ∧ oe.data = .fields vs
section
variable {X : Cx} {pins : List (Addr × Obj)} {σ : L2.St} {H : Hp} {s : Shared}
/-- an object that was not there at the entry is tracked from now on -/
theorem track {a : Addr} {oe : Obj} {vs : Array Value} {o : HO} (I : Inv X pins σ H s) (ha : s.heap.get? a = some oe) (hd : oe.data = .fields vs) (na : H a = none) (nL : a ≠ X.env.locals)
    (n0 : ∀ u, X.s_0.heap.get? a = some u → a ∈ X.ex) (np : ∀ p ∈ X.pn ++ pins, p.1 ≠ a) (new : ObjOk X.prog X.w (upd H a o) s.heap a o) : Inv X pins σ (upd H a o) s := by
  have ne : ∀ b u, H b = some u → b ≠ a := fun b u e => ne_of_none e na
  refine ⟨I.ok, I.os, I.bare, ⟨I.base.keep, I.base.slot, fun b u q n hx => ?_, I.base.there, fun b xs e => ?_, fun b u w e => ?_, fun b ps e => ?_⟩, I.loc, I.cell, ?_, fun x c e => ?_, fun p hp => ?_, fun b u e => ?_, I.len⟩
  · rw [upd_ne (fun z : b = a => hx (by rw [z]; exact n0 u (by rw [← z]; exact q)))]
    exact I.base.free b u q n hx
  · have q := I.base.tups b xs e
    rw [upd_ne (ne _ _ q)]
    exact q
  · have q := I.base.frzs b u w e
    rw [upd_ne (ne _ _ q)]
    exact q
  · obtain ⟨more, q⟩ := I.base.tbls b ps e
    exact ⟨more, by rw [upd_ne (ne _ _ q)]; exact q⟩
  · rw [upd_ne nL.symm]
    exact I.free
  · obtain ⟨v, oc, hoc, hcc⟩ := I.cell x c e
    have nca : c ≠ a := fun z => by
      rw [z, ha] at hoc
      cases hoc
      rw [hd] at hcc
      cases hcc
    rw [upd_ne nca]
    exact I.freeC x c e
  · obtain ⟨h1, h2, h3⟩ := I.pin p hp
    exact ⟨h1, by rw [upd_ne (np p hp)]; exact h2, h3⟩
  · by_cases hb : b = a
    · subst hb
      rw [upd_same] at e
      cases e
      exact new
    · rw [upd_ne hb] at e
      refine (I.hok b u e).stay (fun c v _ q => q) (fun c q => ?_) fun c xs q => ?_
      · rw [upd_ne (ne _ _ q)]
        exact q
      · rw [upd_ne (ne _ _ q)]
        exact q
theorem exV_ok {P : Program} {w : World} {H : Hp} {h : Heap} {a : Addr} {cls : Value} {d : Option Addr} {oe : Obj} {vs : Array Value} (e : h.get? a = some oe) (z : Zc cls d oe) (hd : oe.data = .fields vs) : ObjOk P w H h a (exV a cls d) :=
  ⟨⟨oe, vs, e, z, hd⟩, ⟨oe, e⟩, fun h1 h2 ⟨o1, v1, e1, z1, d1⟩ k => ⟨o1, v1, k _ e1, z1, d1⟩⟩
theorem exV_at {a : Addr} {cls : Value} {d : Option Addr} (I : Inv X pins σ H s) (e : H a = some (exV a cls d)) : ∃ oe vs, s.heap.get? a = some oe ∧ Zc cls d oe ∧ oe.data = .fields vs := (I.hok a _ e).1
end
/-- what 'except x as n: kept = n' wishes of an error of the body: n in slot i, kept in slot j; behind it the error is tracked -/
def wKeep (K : PySem.W.Frag) (c : Value) (i j : Nat) (Wout : WX) (D : Ends) : WX := fun cls d σ H =>
  ∃ b, PySem.W.exmOne K cls c = some b ∧ (b = true → ∀ a, H a = none → D.nx (((σ.set i (some (.ref a))).set j (some (.ref a))).set i none) (upd H a (exV a cls d))) ∧ (b = false → Wout cls d σ H)
section
variable {X : Cx} {x n kx : Str} {c : Value} {i j : Nat} {body : List Stmt} {np np2 kp ap pos pos' : Pos} {tb : WX → TS} {Wout : WX}
theorem ps_try_keep (hs : X.stack = X.env :: X.outer) (hf : X.env.frame = some X.env.locals) (hN : X.N.Nodup) (hi : X.N[i]? = some n) (hj : X.N[j]? = some kx) (hln : X.env.kindOf n = some .local) (hlk : X.env.kindOf kx = some .local) (hc : Names X x c) (tk : Takes X Wout)
    (hb : ∀ (W : WX) (pn : List (Addr × Obj)) (xe : Value → Shared → Prop), Takes (X.tr pn xe) W → PassesOwn (model X.prog X.w) X.A X.env xe → PSs (X.tr pn xe) body (tb W))
    (hsu : ∀ (a : Addr) (oe : Obj) (pn : List (Addr × Obj)), PSs (X.suite a ((a, oe) :: pn)) [.Assign [.Name kx kp] (.Name n np2) ap] (tAsg (tVar i) (gName j))) :
    PS X (.Try body [.ExceptHandler (some (.Name x np)) (some n) [.Assign [.Name kx kp] (.Name n np2) ap] pos'] [] [] pos) (fun D σ H => tb (wKeep X.K c i j Wout D) D σ H) := by
  refine ⟨fun pins s σ H D I h => ?_⟩
  have ok := I.ok
  have hfr : X.A.frames = some (X.env :: X.outer) := ok.frames.trans (by rw [hs])
  refine wpAny_Try_except (wpAny_mono ((hb (wKeep X.K c i j Wout D) (X.pn ++ pins) (fun e s₁ => wpAny (model X.prog X.w) X.A (noteFrame e X.env) (fun _ s₂ => wpAny (model X.prog X.w) X.A (setFlight e none) (fun _ s₃ =>
    wpAny (model X.prog X.w) X.A (handleBy e X.env [.ExceptHandler (some (.Name x np)) (some n) [.Assign [.Name kx kp] (.Name n np2) ap] pos']) (SP X pins D) X.xe s₃) X.xe s₂) X.xe s₁) (fun u s' xx => ?_) PassesOwn.looking).run [] s σ H D (I.toTry _) h) (fun f s1 hsp => ?_) (fun e s1 he => he))
  · obtain ⟨a, B, sI, pins', σ', H', cls, d, rfl, J', nb, up, sky, na, os, ag, b, hb1, hyes, hno⟩ := xx
    have J : Inv X pins σ' H' sI := J'.ofTry ok
    have sky' : Sky B (X.env :: X.outer) a (Zc cls d) X.env.locals s'.heap := hs ▸ sky
    show wpAny (model X.prog X.w) X.A (noteFrame (.ref a) X.env) _ _ _
    refine Sky.land Zc.steady hfr hf sky' fun h3 fl3 up3 => ?_
    have J3 : Inv X pins σ' H' { s' with heap := h3 } := J.landed nb fl3.1 (up.trans up3) os ag
    obtain ⟨oe3, vs3, he3, hz3, hd3⟩ := fl3.there
    have nfr : a ∉ frs (X.env :: X.outer) := fun hm => by
      obtain ⟨_, o', e', hnf⟩ := fl3.2.2.1.mem hm
      rw [he3] at e'
      cases e'
      exact hnf _ hd3
    have nL : a ≠ X.env.locals := fun z => nfr (List.mem_filterMap.mpr ⟨X.env, List.mem_cons_self, hf.trans (congrArg some z.symm)⟩)
    have nF : a ∉ X.fs := fun hm => by
      obtain ⟨e, he, q⟩ := List.mem_filterMap.mp hm
      exact nfr (List.mem_filterMap.mpr ⟨e, List.mem_cons_of_mem _ he, q⟩)
    have nB : B.get? a = none := fl3.2.1
    have nI : sI.heap.get? a = none := by
      cases q : sI.heap.get? a with
      | none => rfl
      | some o =>
        have z := nb a o q (by show a ∉ frs X.stack; rw [hs]; exact nfr)
        rw [nB] at z
        cases z
    have n0 : ∀ u, X.s_0.heap.get? a = some u → a ∈ X.ex := fun u q => by
      by_cases hx : a ∈ X.ex
      · exact hx
      · obtain ⟨o', z⟩ := J.base.there a u q hx
        rw [nI] at z
        cases z
    have npp : ∀ p ∈ X.pn ++ pins, p.1 ≠ a := fun p hp z => by
      have q := (J.pin p hp).1
      rw [z, nI] at q
      cases q
    have S3 := J3.suite he3 hd3 na nL nF
    refine wpAny_handleBy_cons (codeAny_handlers_test ?_) (by intro q; cases q)
    have LT : PySem.W.Looks (model X.prog X.w) h3 (typeOf (.ref a)) cls := fun A Q E s k q => wpAny_typeOf_ref (k _ _ he3) (hz3.1 ▸ q)
    have LM := PySem.W.exm_one (M := model X.prog X.w) J3.kIn LT hb1
    have test : ∀ {Q : Value → Shared → Prop} {E : Value → Shared → Prop}, Q c { s' with heap := h3 } → wpAny (model X.prog X.w) (X.A.mark (some (.ref a))) (eval (.Name x np) X.env) Q E { s' with heap := h3 } := fun {Q E} q => by
      rcases hc with ⟨hg, hdbg, hm | ⟨hm, hv, hnn⟩⟩
      · exact ld_glob (X := X.suite a ((a, oe3) :: (X.pn ++ pins))) S3 hg hm q hdbg
      · exact ld_blt (X := X.suite a ((a, oe3) :: (X.pn ++ pins))) S3 hg hm hv q hnn hdbg
    refine test (LM.here ?_)
    cases b with
    | true =>
      refine codeAny_handlers_suite_as (HandSPX.lands_againZ fl3 fun h4 fl4 up4 => ?_)
      have J4 : Inv X pins σ' H' { s' with heap := h4 } := J.landed nb fl4.1 ((up.trans up3).trans up4) os ag
      obtain ⟨oe4, vs4, he4, hz4, hd4⟩ := fl4.there
      refine store_ok (X := X.suite a ((a, oe4) :: (X.pn ++ pins))) (v := .ref a) (J4.suite he4 hd4 na nL nF) hN hi (.inl hln) rfl (fun s5 S5 => ?_) (.inr hln)
      have lenσ : i < σ'.length := by
        rw [J.len]
        exact (List.getElem?_eq_some_iff.mp hi).1
      have want : tAsg (tVar i) (gName j) { nx := fun σ6 H6 => σ6 = (σ'.set i (some (.ref a))).set j (some (.ref a)) ∧ H6 = H', rt := fun _ _ => False, bk := fun _ _ => False, ct := fun _ _ => False } (σ'.set i (some (.ref a))) H' :=
        ⟨.ref a, by rw [List.getElem?_set_self lenσ], rfl, rfl⟩
      refine wpAny_mono ((hsu a oe4 (X.pn ++ pins)).run [] s5 _ H' _ S5 want) (fun f s6 hsp => ?_) (fun _ _ z => False.elim z)
      cases f with
      | next =>
        obtain ⟨σ6, H6, S6, rfl, rfl⟩ := hsp
        obtain ⟨he6, _⟩ := S6.pin (a, oe4) (List.mem_append_left _ List.mem_cons_self)
        have J6 : Inv X pins _ H6 s6 := S6.unsuite ok
        have J7 := track J6 he6 hd4 na nL n0 npp (exV_ok he6 hz4 hd4)
        exact gone_ok J7 hN hi hln fun s7 J8 => ⟨_, _, J8, hyes rfl a na⟩
      | brk => exact hsp.elim fun _ z => z.elim fun _ z => z.2.elim
      | cont => exact hsp.elim fun _ z => z.elim fun _ z => z.2.elim
      | ret u => exact hsp.elim fun _ z => z.elim fun _ z => z.elim fun _ z => z.2.2.elim
    | false =>
      show wpAny _ X.A (handleBy (.ref a) X.env []) _ _ _
      refine wpAny_handleBy_nil ?_
      obtain ⟨k1, k2, k3, oe, vs, T, oT, ts', he, hz, hd, h1, hr⟩ := id fl3
      unfold PySem.passOn
      refine wpAny_bind (wpAny_field he hd h1 ?_)
      rw [if_neg (show ¬ ((Value.ref T == Value.none) = true) from by simp)]
      have fin : wpAny (model X.prog X.w) X.A (setFlight (.ref a) X.env.frame) (fun _ s4 => wpAny (model X.prog X.w) X.A (throw (.ref a) : Sem Flow) (SP X pins D) X.xe s4) X.xe { s' with heap := h3 } := by
        rw [hf]
        refine HandSPX.setFlight_upZ fl3 fun h4 hh4 up4 => wpAny_throw (tk _ _ ⟨a, B, sI, pins, σ', H', cls, d, rfl, J, nb, (up.trans up3).trans up4, .inr (.inr (hs ▸ hh4)), na, os, ag, hno rfl⟩)
      first
        | exact wpAny_bind (wpAny_pure (wpAny_bind fin))
        | exact wpAny_bind fin
  · cases f with
    | next => exact hsp.elim fun σ1 z => z.elim fun H1 z => wpAny_execs_nil ⟨σ1, H1, z.1.ofTry ok, z.2⟩
    | brk => exact hsp.elim fun σ1 z => z.elim fun H1 z => ⟨σ1, H1, z.1.ofTry ok, z.2⟩
    | cont => exact hsp.elim fun σ1 z => z.elim fun H1 z => ⟨σ1, H1, z.1.ofTry ok, z.2⟩
    | ret u => exact hsp.elim fun v z => z.elim fun σ1 z => z.elim fun H1 z => ⟨v, σ1, H1, z.1.ofTry ok, z.2⟩
end
end Mo

/-! ### isinstance and the fields of an error that has its own dict -/
namespace Mo
open PySem PySem.W PySem.Spec PySem.Calls PyProof.Rows
section
variable {prog : Program} {w : World} {A : Around} {E : Value → Shared → Prop} {s : Shared} {K : Frag} {x D : Addr} {ox oy : Obj}
theorem err_class {Q : Option Value → Shared → Prop} (C : L2.ExcC K D) (X : K.In s.heap) (I : PySem.W.InstAt s.heap x ox D (some oy)) (h : Q (some (.ref D)) { s with toks := s.toks + 1 }) : wpAny (model prog w) A (getAttr? (.ref x) "__class__") Q E s := by
  have hf : findObj K D (some oy) "__class__" = some (.bind (.builtin "getset_descriptor.__get__") (.builtin "object.__class__")) := findObj_data (by obtain ⟨cd, hc, _⟩ := any_some C.hd; rw [hc]; rfl) C.ha C.hn C.ht
  obtain ⟨hp, g, d, t, os⟩ := s
  have a0 := I.type (M := model prog w)
  have a1 := looks_findIn (M := model prog w) X C.hg
  have a2 := looks_findIn (M := model prog w) X C.hk
  have a3 := looks_find (M := model prog w) X I hf
  have sub : Looks (model prog w) hp (isInstance (.ref x) (.type "BaseException")) true := a0.andThen (looks_subIn X C.hs)
  have y2 : (Value.builtin "BaseException.__getattribute__" == Value.builtin "object.__getattribute__") = false := by decide +kernel
  have y1 : (onTheHeap (Value.ref D) && Value.builtin "BaseException.__getattribute__" == Value.builtin "object.__getattribute__") = false := by rw [y2]; rfl
  have y0 : (false && onTheHeap (Value.builtin "BaseException.__getattribute__")) = false := rfl
  unfold getAttr? getAttrBy? getAttrBy
  refine wpAny_bind (wpAny_mkText (wpAny_bind (wpAny_attempt (wpAny_holding (wpAny_bind (a0.at (wpAny_bind (a1.at ?_))))))))
  show wpAny _ _ (if (onTheHeap (Value.ref D) && Value.builtin "BaseException.__getattribute__" == Value.builtin "object.__getattribute__") = true then _ else _) _ _ _
  rw [y1, if_neg Bool.false_ne_true]
  unfold getAttrByItsOwn hookBefore
  refine wpAny_bind (by
    rw [if_pos (show onTheHeap (Value.ref D) = true from rfl)]
    refine a2.at (wpAny_bind (wpAny_attempt (wpAny_holding ?_)))
    unfold callGetattribute
    rw [y0, if_neg Bool.false_ne_true]
    unfold boundAndCalled
    rw [PySem.F.excAttr_ValueError.ga.bind (.ref x)]
    refine wpAny_bind (wpAny_pure (by
      show wpAny _ _ (call (.builtin "BaseException.__getattribute__") [.ref x, .str "__class__" t]) _ _ _
      refine wpAny_call (codeAny_call_builtin PySem.F.excAttr_ValueError.ga.plain PySem.F.entry_bexc_ga (@check_slot (model prog w) _ _ ⟨hp, g, d, t + 1, os⟩ "BaseException.__getattribute__" "BaseException" "__getattribute__" (.ref x) [.str "__class__" t] [] _ (by decide +kernel) (by decide +kernel) sub (PySem.F.args_bexc_ga (.ref x) (.str "__class__" t)) ?_))
      unfold Builtin.«object.__getattribute__»
      refine wpAny_bind (wpAny_of_eq (a := ((Value.ref x : Value), [Value.str "__class__" t])) (by first | rfl | (simp only [slotArgs]; rfl)) (wpAny_bind (wpAny_pure (wpAny_bind (a0.at (wpAny_bind (a3.at ?_)))))))
      show wpAny _ _ (holding [Value.builtin "object.__class__"] (call (.builtin "getset_descriptor.__get__") [.builtin "object.__class__", .ref x, .ref D]) >>= ret) _ _ _
      refine wpAny_bind (wpAny_holding (wpAny_call (class_get (s := ⟨hp, g, d, t + 1, os⟩) (ox := ox) (od := some oy) X I C.hm (wpAny_pure ?_))))
      show wpAny _ _ (handedOut (.ref D)) _ _ _
      rw [handedOut_of (v := .ref D) rfl]
      first | exact wpAny_pure (wpAny_pure h) | exact wpAny_pure h | exact wpAny_pure (wpAny_bind (wpAny_pure (wpAny_pure h))))))
theorem err_kit (C : L2.ExcC K D) : KitX K (.ref x) (.ref D) (fun h => ∃ ox oy, PySem.W.InstAt h x ox D (some oy)) where
  ty := fun _ _ _ ⟨_, _, I⟩ => I.type
  it := fun M h X _ => by
    obtain ⟨cd, hc, _⟩ := any_some C.hd
    unfold clsIn at hc
    split at hc
    · rename_i c' d' cd' sl' ho
      intro A' Q' E' s' k q
      unfold isType loadHead
      exact wpAny_bind (wpAny_loadPart (k _ _ (X _ _ ho)) (wpAny_pure q))
    · cases hc
  ne := fun h tp dd its n sl X htp => by
    obtain ⟨cd, hc, _⟩ := any_some C.hd
    refine Bool.eq_false_iff.mpr fun q => ?_
    obtain rfl : D = tp := Value.ref.inj (beq_iff_eq.mp q)
    unfold clsIn at hc
    split at hc
    · rename_i c' d' cd' sl' ho
      cases (X _ _ ho).symm.trans htp
    · cases hc
  ca := fun X ⟨_, _, I⟩ k => err_class C X I k
end
end Mo
namespace Mo
open PySem PySem.Spec PyProof.Rows L2
section
variable {X : Cx} {pins : List (Addr × Obj)} {σ : L2.St} {H : Hp} {s : Shared}
/-- an error at a, its class at C, its dict at dd with the fields fs -/
def ErrAt (H : Hp) (a C dd : Addr) (fs : List (Str × V)) : Prop := H a = some (exV a (.ref C) (some dd)) ∧ H dd = some (.xd fs)
theorem ErrAt.inst {a C dd : Addr} {fs : List (Str × V)} (e : ErrAt H a C dd fs) (I : Inv X pins σ H s) : ∃ ox od mA, PySem.W.InstAt s.heap a ox C (some od) ∧ s.heap.Ns1 dd mA ∧ (∀ f, RelO (fs.lookup f) (mA f)) ∧ ∀ f, PySem.W.lookIn f od = some (mA f) := by
  obtain ⟨oe, vs, ha, hz, hd⟩ := exV_at I e.1
  obtain ⟨mA, hns, hr⟩ := (show ObjOk X.prog X.w H s.heap dd (.xd fs) from I.hok dd _ e.2)
  obtain ⟨od, ho, hl⟩ := lookIn_ns hns
  exact ⟨oe, od, mA, ⟨ha, hz.1, by unfold PySem.W.notCls; rw [hd] <;> rfl, by rw [hz.2]; exact ho⟩, hns, hr, hl⟩
/-- isinstance(err, c) -/
def rIsX (K : PySem.W.Frag) : List V → Hp → VK → Prop := fun xs H Q => ∃ (a C dd : Addr) (fs : List (Str × V)) (c : V) (u : Value) (b : Bool), xs = [.ref a, c] ∧ ErrAt H a C dd fs ∧ ExcC K C ∧ ClsV c u ∧ PySem.W.kitOne K (.ref C) u = some b ∧ Q (.bl b) H
theorem cr_isX : CallR X (.builtin "isinstance") (rIsX X.K) := by
  intro pins s σ H xs us Q I r h
  obtain ⟨a, C, dd, fs, c, u, b, rfl, ea, T, k, e, q⟩ := h
  obtain ⟨u1, u2, rfl, r1, r2⟩ := vals2 r
  cases r1
  obtain rfl := k.eq r2
  obtain ⟨ox, od, mA, J, _⟩ := ea.inst I
  exact PySem.W.kia_one (err_kit T) I.kIn ⟨ox, od, J⟩ e (fun z => nomatch z) fun tk => ⟨.bl b, H, I.tok tk, rfl, q⟩
/-- isinstance(err, (c1, c2, ..)) -/
def rIsXT (K : PySem.W.Frag) : List V → Hp → VK → Prop := fun xs H Q => ∃ (a C dd tp : Addr) (fs : List (Str × V)) (cs : List V) (us : List Value) (b : Bool), xs = [.ref a, .ref tp] ∧ ErrAt H a C dd fs ∧ ExcC K C ∧ H tp = some (.tup cs) ∧ Paired ClsV cs us ∧ PySem.W.kitAny K (.ref C) us = some b ∧ Q (.bl b) H
theorem cr_isXT : CallR X (.builtin "isinstance") (rIsXT X.K) := by
  intro pins s σ H xs us Q I r h
  obtain ⟨a, C, dd, tp, fs, cs, ws, b, rfl, ea, T, hT, k, e, q⟩ := h
  obtain ⟨u1, u2, rfl, r1, r2⟩ := vals2 r
  cases r1
  cases (show u2 = Value.ref tp from r2)
  obtain ⟨ox, od, mA, J, _⟩ := ea.inst I
  obtain ⟨_, its, rv, ⟨oc, od', dt, sl⟩, h1, h2, n, h3⟩ := (show ObjOk X.prog X.w H s.heap tp (.tup cs) from I.hok tp _ hT)
  obtain rfl := ClsV.all k rv
  simp only at h2 h3
  subst h2 h3
  exact PySem.W.kia_tup (err_kit T) I.kIn ⟨ox, od, J⟩ h1 e (fun z => nomatch z) fun tk => ⟨.bl b, H, I.tok tk, rfl, q⟩
/-- err.f -/
def tXv (K : PySem.W.Frag) (f : Str) (te : TE) : TE := fun σ H Q => te σ H fun x H1 => ∃ (a C dd : Addr) (fs : List (Str × V)) (v : V), x = .ref a ∧ ErrAt H1 a C dd fs ∧ XfC K C ∧ PySem.W.findIn K (.ref C) f = some none ∧ fs.lookup f = some v ∧ Q v H1
theorem pe_xv {e : Expr} {te : TE} {pos : Pos} {f : Str} (he : PE X e te) (hb : attributeBase e f X.env (eval e X.env) = eval e X.env := by rfl) : PE X (.Attribute e f pos) (tXv X.K f te) := by
  refine ⟨fun pins s σ H Q I h => ?_⟩
  refine attr_of hb (thn (he.run pins s σ H _ I h) fun u s1 hh => ?_)
  obtain ⟨x, H1, I1, rx, a, C, dd, fs, v, rfl, ea, T, hno, l, q⟩ := hh
  obtain rfl : u = Value.ref a := rx
  obtain ⟨ox, od, mA, J, hns, hr, hl⟩ := ea.inst I1
  obtain ⟨u, hu, ru⟩ := RelO.some_of (v := v) (o := mA f) (by rw [← l]; exact hr f)
  exact HandSPX.exc_get I1.kIn J T.ga T.gg T.exC (PySem.W.findObj_own T.hdC hno rfl (by rw [hl, hu])) (handed_of ru) ⟨v, H1, I1.tok _, ru, q⟩
end
end Mo

/-! ### defs called where no repr is under way: then repr of lists, tuples and dicts is known to the letter -/
namespace Mo
open PySem PySem.Spec PyProof.Rows L2
/-- as FnOk, for callers under no guard -/
structure FnG (P : Program) (w : World) (K : PySem.W.Frag) (mg : Str → Option Value) (base : Heap) (CX : CXT) (k : Nat) (f : Addr) (fd : FuncData) (ps : List Str) (sp : Sp) : Prop where
  len : ∀ vs H Q E, sp vs H Q E → vs.length = ps.length
  run : ∀ (A : Around) (outer : List Env) (s : Shared) (H : Hp) (args : Args) (us : List Value) (vs : List V) (Q : VK) (E : XK), Room k A → A.guards = some [] → Env0 P w K mg base A outer s H → BindsTo s fd args (ps.zip us) → Vals vs us → sp vs H Q E →
    codeAny (model P w) A (.call (.ref f) args) (CR CX outer P w H s Q E) s
section
variable {P : Program} {w : World} {K : PySem.W.Frag} {mg : Str → Option Value} {base : Heap} {CX : CXT} {k : Nat} {f : Addr} {fd : FuncData} {ps : List Str} {sp : Sp}
theorem FnG.of (F : FnOk P w K mg base CX k f fd ps sp) : FnG P w K mg base CX k f fd ps sp := ⟨F.len, fun A o s H a us vs Q E hr _ => F.run A o s H a us vs Q E hr⟩
/-- a def by its body, its guards told -/
theorem okG_of {x qual : Str} {st : Stmt} {N : List Str} (F : Fun K x qual st f fd) (S : FnScope N ps (defScope st)) (len : ∀ vs H Q E, sp vs H Q E → vs.length = ps.length)
    (hbody : ∀ (cdv : Value) (A : Around) (outer : List Env) (s : Shared) (H : Hp) (vs : List V) (Q : VK) (E : XK), Room k (A.deeper (envOfC qual (defScope st) s.heap.objs.size f cdv)) → A.guards = some [] → sp vs H Q E →
      ∃ t, PSs (cxOf CX P w K mg base N qual (defScope st) f cdv A outer s H E) (defBody st) t ∧ t { nx := fun _ H' => Q .non H', rt := Q } (start N vs) H) : FnG P w K mg base CX (k + 1) f fd ps sp := by
  obtain ⟨oc, od, kV, doc, pm, an, cdv, ct, osl, rfl, lk, hcd⟩ := F.ex
  refine ⟨len, fun A outer s H args us vs Q E hr hg e0 hb r hsp => ?_⟩
  have kept : ∀ b o, base.get? b = some o → s.heap.get? b = some o := fun b o e => (e0.bs b o e).1
  have KX : K.In s.heap := e0.mod.kin.keeps kept
  have kinds : ∀ y ∈ ps.zip us, (defScope st).names.lookup y.1 = some .local ∨ ((defScope st).names.lookup y.1 = some .cell ∧ ((cellsFrom (s.heap.objs.size + 1) (defScope st).names []).lookup y.1).isSome = true) := fun y hy =>
    (S.par y.1 (List.of_mem_zip (a := y.1) (b := y.2) hy).1).elim .inl fun q => .inr ⟨q, PySem.W.cellsFrom_some _ _ _ (.inl q)⟩
  refine codeAny_call_function hr.depth (KX _ _ lk) rfl S.co S.gen rfl (PySem.W.codeRec_of KX hcd) (hb _ _ _ _ (wpAny_newFunctionEnv_cells S.kind kinds fun env he s1 x => ?_))
  subst he
  refine ⟨(e0.mod.nolimit.keeps kept).keeps x.toInCall.keep, codeAny_func ?_⟩
  obtain ⟨t, ht, hq⟩ := hbody cdv A outer s H vs Q E (hr.deeper _) hg hsp
  have I : Inv (cxOf CX P w K mg base N qual (defScope st) f cdv A outer s H E) [] (start N vs) H s1 := inv_start S hr.hd e0 (len _ _ _ _ hsp) r x
  refine wpAny_mono (ht.run [] s1 (start N vs) H _ I hq) (fun fl s' hs => ?_) fun e s' hs => hs
  cases fl with
  | ret u => exact hs.elim fun v z => z.elim fun σ' z => z.elim fun H' z => ⟨v, H', z.1.os, z.1.bare, z.1.base, z.1.hok, z.2.1, z.2.2⟩
  | next => exact hs.elim fun σ' z => z.elim fun H' z => ⟨V.non, H', z.1.os, z.1.bare, z.1.base, z.1.hok, rfl, z.2⟩
  | brk => exact hs.elim fun _ z => z.elim fun _ z => z.2.elim
  | cont => exact hs.elim fun _ z => z.elim fun _ z => z.2.elim
/-- a def that raises nothing -/
theorem okG {x qual : Str} {st : Stmt} {N : List Str} (F : Fun K x qual st f fd) (S : FnScope N ps (defScope st)) (len : ∀ vs H Q E, sp vs H Q E → vs.length = ps.length)
    (hbody : ∀ (cdv : Value) (A : Around) (outer : List Env) (s : Shared) (H : Hp) (vs : List V) (Q : VK) (E : XK), Room k (A.deeper (envOfC qual (defScope st) s.heap.objs.size f cdv)) → A.guards = some [] → sp vs H Q E →
      ∃ t, PSs (cxOf CX0 P w K mg base N qual (defScope st) f cdv A outer s H E).nox (defBody st) t ∧ t { nx := fun _ H' => Q .non H', rt := Q } (start N vs) H) : FnG P w K mg base CX0 (k + 1) f fd ps sp :=
  okG_of F S len fun cdv A outer s H vs Q E hr hg hsp => (hbody cdv A outer s H vs Q E hr hg hsp).elim fun t z => ⟨t, z.1.nox, z.2⟩
end
section
variable {X : Cx} {CX : CXT} {x : Str} {f : Addr} {k : Nat} {fd : FuncData} {ps : List Str} {sp : Sp} {ds : List Value} {dvs : List V} {E : XK} {e : Expr} {es : List Expr} {t : TA} {p pos : Pos}
theorem run_G {pins : List (Addr × Obj)} {σ : L2.St} {H : Hp} {s : Shared} {Q : VK} {us : List Value} {vs : List V} (F : FnG X.prog X.w X.K X.mg X.base CX k f fd ps sp) (hr : Room k X.A) (hu : X.A.guards = some []) (hb : Binds X.K fd ps ds) (hd : Vals dvs ds) (hx : Passes CX X E)
    (I : Inv X pins σ H s) (r : Vals vs us) (h : sp (vs ++ dvs) H Q E) : wpAny (model X.prog X.w) X.A (call (.ref f) us) (EP X pins σ Q) X.xe s := by
  have rr : Vals (vs ++ dvs) (us ++ ds) := r.append hd
  refine wpAny_call (codeAny_mono (F.run X.A X.stack s H ⟨us, []⟩ (us ++ ds) (vs ++ dvs) Q E hr hu I.env0 (hb s us I.kIn (rr.length.symm.trans (F.len _ _ _ _ h))) rr h) fun r s' hq => ?_)
  cases r with
  | error e => exact hx pins σ H s e s' I hq
  | ok fl =>
    cases fl with
    | ret u => exact I.after hq
    | next => exact hq.elim
    | brk => exact hq.elim
    | cont => exact hq.elim
/-- f(e, ..), f by FnG -/
theorem pe_callG (F : FnG X.prog X.w X.K X.mg X.base CX k f fd ps sp) (hr : Room k X.A) (hu : X.A.guards = some []) (hg : Gl X x) (hm : X.mg x = some (.ref f)) (hk : PySem.W.keepIn X.K (.ref f) = true) (hb : Binds X.K fd ps ds) (hd : Vals dvs ds) (hx : Passes CX X E)
    (ha : PA X (e :: es) t) (hdb : (x == ("__debug__" : Str)) = false := by decide) (he : starEach (e :: es) X.env = (false, eval e X.env) :: starEach es X.env := by rfl) (hpl : (backTo pos (starEach es X.env)).any (·.1) = false := by rfl) :
    PE X (.Call (.Name x p) (e :: es) [] pos) (tCall sp dvs E t) :=
  ⟨fun pins s σ H Q I h => wpAny_Call_Name_kw (ld_glob I hg hm (PySem.W.callWith_K (h₀ := X.base) I.ok.mod.kin hk (thn (ha.run pos pins s σ H _ I h) fun us s1 ⟨vs, H1, I1, r, q⟩ => ⟨I1.kIn, run_G F hr hu hb hd hx I1 r q⟩) he hpl) hdb)⟩
end
/-! ### repr of data -/
/-- data with the empty dict -/
def Dat (K : PySem.W.Frag) (H : Hp) (x : V) (d : PyData) : Prop := Dp K H x d ∨ ∃ a, x = .ref a ∧ H a = some (.dK []) ∧ d = .dict []
section
variable {X : Cx} {pins : List (Addr × Obj)} {σ : L2.St} {H : Hp} {s : Shared}
theorem Dat.reads {x : V} {u : Value} {d : PyData} (I : Inv X pins σ H s) (h : Dat X.K H x d) (r : RelV x u) : ∃ as, Reads s.heap u d as ∧ (d.hasDict = true → sysModules ∉ as) := by
  rcases h with h | ⟨a, rfl, ha, rfl⟩
  · obtain ⟨as, q⟩ := Dp.reads I d x u h r
    have key : ∀ {x : V} {d : PyData}, Dp X.K H x d → d.hasDict = false := by
      intro x d h
      refine Dp.rec (motive_1 := fun _ d _ => d.hasDict = false) (motive_2 := fun _ ds _ => PyData.hasDictAll ds = false) ?_ ?_ ?_ ?_ ?_ ?_ ?_ ?_ h
      · rfl
      · intro b; rfl
      · intro i; rfl
      · intro z; rfl
      · intro a xs ds _ _ ih; exact ih
      · intro a xs ds _ _ ih; exact ih
      · rfl
      · intro v vs d ds _ _ i1 i2
        show (PyData.hasDict d || PyData.hasDictAll ds) = false
        rw [i1, i2]
        rfl
    exact ⟨as, q, fun z => by rw [key h] at z; cases z⟩
  · obtain rfl : u = Value.ref a := r
    obtain ⟨_, hs, vs, kv, o, es, ep, ho, hc, hdt, hes⟩ := (show ObjOk X.prog X.w H s.heap a (.dK []) from I.hok a _ ha)
    cases kv
    have e0 : es.toList = [] := by
      obtain ⟨_, hp, _⟩ := hes
      cases q : es.toList with
      | nil => rfl
      | cons x r => rw [q] at hp; cases hp
    refine ⟨_, .dict (as := []) (bs := []) ho hc.1 hdt (by rw [e0]; exact .nil) (by rw [e0]; exact .nil), fun _ z => ?_⟩
    rw [List.append_nil, List.mem_singleton] at z
    rw [← z] at hs
    simp at hs
/-- repr(data) -/
def rReprD (K : PySem.W.Frag) : List V → Hp → VK → Prop := fun xs H Q => ∃ (x : V) (d : PyData), xs = [x] ∧ Dat K H x d ∧ d.showable = true ∧ d.depth ≤ 40 ∧ d.shown.length ≤ sizeLine ∧ Q (.str d.shown) H
theorem cr_reprD (hg : X.A.guards = some []) (hu : X.A.units + 64 < cLine) : CallR X (.builtin "repr") (rReprD X.K) := by
  intro pins s σ H xs us Q I r h
  obtain ⟨x, d, rfl, hd, hs, hdp, hz, q⟩ := h
  obtain ⟨u, rfl, ru⟩ := vals1 r
  obtain ⟨as, rd, hsm⟩ := hd.reads I ru
  cases rd with
  | none => exact PySem.P.repr_of_none ⟨.str _, H, I.tok _, ⟨_, rfl⟩, q⟩
  | bool b => exact PySem.P.repr_of_bool ⟨.str _, H, I.tok _, ⟨_, rfl⟩, q⟩
  | int i t => exact PySem.P.repr_of_int (of_decide_eq_true hs) ⟨.str _, H, I.tok _, ⟨_, rfl⟩, q⟩
  | str z t => exact PySem.P.repr_of_str ⟨.str _, H, I.tok _, ⟨_, rfl⟩, q⟩ hz
  | list a1 a2 a3 a4 => exact repr_of_reads' (.list a1 a2 a3 a4) hs hsm hg (by omega) (fun _ _ e => e) (fun h' u' tk hk => ⟨.str _, H, I.kept (t' := tk) hk, ⟨_, rfl⟩, q⟩) hz
  | tuple a1 a2 a3 a4 => exact repr_of_reads' (.tuple a1 a2 a3 a4) hs hsm hg (by omega) (fun _ _ e => e) (fun h' u' tk hk => ⟨.str _, H, I.kept (t' := tk) hk, ⟨_, rfl⟩, q⟩) hz
  | dict a1 a2 a3 a4 a5 => exact repr_of_reads' (.dict a1 a2 a3 a4 a5) hs hsm hg (by omega) (fun _ _ e => e) (fun h' u' tk hk => ⟨.str _, H, I.kept (t' := tk) hk, ⟨_, rfl⟩, q⟩) hz
end
end Mo
namespace Mo
open PySem PySem.Spec PyProof.Rows L2
/-- an own error class over ValueError with one field f, its __init__ at fI -/
structure ErrC (K : PySem.W.Frag) (C fI : Addr) (f : Str) : Prop where
  oex : OexC K C
  xf : XfC K C
  exc : ExcC K C
  no : PySem.W.findIn K (.ref C) f = some none
  te : PySem.W.exmOne K (.ref C) (.ref C) = some true
  iC : PySem.W.findIn K (.ref C) "__init__" = some (some (.ref fI))
  tI : PySem.W.typeIn K (.ref fI) = some (.type "function")
/-- its __init__: self.f = y -/
def spInit (C : Addr) (f : Str) : Sp := fun vs H Q _ => ∃ (a : Addr) (y : V), vs = [.ref a, y] ∧ H a = some (exo a C none) ∧ ∀ dx, H dx = none → dx ≠ a → Q .non (upd (upd H dx (exd dx [(f, y)])) a (exo a C (some dx)))
/-- raising it: what is left to be shown -/
theorem err_read {C : Addr} {f : Str} {H : Hp} {v : V} {Q : XK} (h : ∀ d H', H d = none → Same H H' → H' d = some (.xd [(f, v)]) → Q (.ref C) (some d) H') :
    [v].length ≤ 1000 ∧ ∀ a, H a = none → spInit C f (.ref a :: ([v] ++ [])) (upd H a (exo a C none)) (fun x H2 => x = .non ∧ ∃ (d : Addr) (fs : List (Str × V)), H2 a = some (exo a C (some d)) ∧ H2 d = some (exd d fs) ∧ H d = none ∧ Q (.ref C) (some d) (upd (del H2 a) d (.xd fs))) (fun _ _ _ => False) := by
  refine ⟨by show 1 ≤ 1000; decide, fun a na => ⟨a, v, rfl, upd_same, fun dx nd ne => ⟨rfl, dx, [(f, v)], upd_same, by rw [upd_ne ne, upd_same], ?_, ?_⟩⟩⟩
  · rw [upd_ne ne] at nd
    exact nd
  · have nd' : H dx = none := by rw [upd_ne ne] at nd; exact nd
    refine h dx _ nd' (fun b o e => ?_) upd_same
    have nb : b ≠ dx := ne_of_none e nd'
    have nba : b ≠ a := ne_of_none e na
    rw [upd_ne nb, del_ne nba, upd_ne nba, upd_ne nb, upd_ne nba]
    exact e
theorem kit1_type {K : PySem.W.Frag} {C : Addr} {T : String} {b : Bool} (h : PySem.W.subIn K (.ref C) (.type T) = some b) (hm : PySem.W.kitMeta T = true) : PySem.W.kitOne K (.ref C) (.type T) = some b := by
  show (if (Value.ref C == Value.type T) = true then some true else (if PySem.W.kitMeta T = true then PySem.W.subIn K (.ref C) (.type T) else none)) = some b
  rw [if_neg (by intro z; cases beq_iff_eq.mp z), if_pos hm]
  exact h
theorem kit1_ref {K : PySem.W.Frag} {C D : Addr} (h : PySem.W.subIn K (.ref C) (.ref D) = some false) (hs : PySem.W.subIn K (.ref C) (.ref C) = some true) (hc : PySem.W.isClsIn K D = true) (ht : PySem.W.typeIn K (.ref D) = some (.type "type")) : PySem.W.kitOne K (.ref C) (.ref D) = some false := by
  have hc2 : (PySem.W.clsIn K D).isSome = true := hc
  show (if (Value.ref C == Value.ref D) = true then some true else (if ((PySem.W.clsIn K D).isSome && PySem.W.typeIn K (.ref D) == some (.type "type")) = true then PySem.W.subIn K (.ref C) (.ref D) else none)) = some false
  rw [if_neg (by intro z; rw [← beq_iff_eq.mp z, hs] at h; cases h), if_pos (by rw [hc2, ht]; rfl)]
  exact h
end Mo

/-! ### data of any kind: None, bools, ints, texts, lists, tuples, dicts (keys ints and texts), at any depth -/
namespace Mo
open PySem PySem.Spec PyProof.Rows L2
def keyD : Key → PyData
  | .inl i => .int i
  | .inr x => .str x
mutual
inductive Dx (N : Addr → Prop) (H : Hp) : V → PyData → Prop
  | non : Dx N H .non .none
  | bl (b : Bool) : Dx N H (.bl b) (.bool b)
  | int (i : Int) : Dx N H (.int i) (.int i)
  | str (x : Str) : Dx N H (.str x) (.str x)
  | lst {a : Addr} {xs : List V} {ds : List PyData} : H a = some (.lst xs) → ¬ N a → DxAll N H xs ds → Dx N H (.ref a) (.list ds)
  | tup {a : Addr} {xs : List V} {ds : List PyData} : H a = some (.tup xs) → ¬ N a → DxAll N H xs ds → Dx N H (.ref a) (.tuple ds)
  | dct {a : Addr} {kvs : List (Key × V)} {ds : List PyData} : H a = some (.dK kvs) → ¬ N a → DxAll N H (kvs.map (·.2)) ds → Dx N H (.ref a) (.dict ((kvs.map fun kv => keyD kv.1).zip ds))
inductive DxAll (N : Addr → Prop) (H : Hp) : List V → List PyData → Prop
  | nil : DxAll N H [] []
  | cons {v : V} {vs : List V} {d : PyData} {ds : List PyData} : Dx N H v d → DxAll N H vs ds → DxAll N H (v :: vs) (d :: ds)
end
theorem DxAll.length {N : Addr → Prop} {H : Hp} : ∀ {vs : List V} {ds : List PyData}, DxAll N H vs ds → vs.length = ds.length
  | _, _, .nil => rfl
  | _, _, .cons _ t => by rw [List.length_cons, List.length_cons, DxAll.length t]
mutual
theorem Dx.same {N : Addr → Prop} {H H' : Hp} (s : Same H H') : ∀ {v : V} {d : PyData}, Dx N H v d → Dx N H' v d
  | _, _, .non => .non
  | _, _, .bl b => .bl b
  | _, _, .int i => .int i
  | _, _, .str x => .str x
  | _, _, .lst h n t => .lst (s _ _ h) n (DxAll.same s t)
  | _, _, .tup h n t => .tup (s _ _ h) n (DxAll.same s t)
  | _, _, .dct h n t => .dct (s _ _ h) n (DxAll.same s t)
theorem DxAll.same {N : Addr → Prop} {H H' : Hp} (s : Same H H') : ∀ {v : List V} {d : List PyData}, DxAll N H v d → DxAll N H' v d
  | _, _, .nil => .nil
  | _, _, .cons h t => .cons (Dx.same s h) (DxAll.same s t)
end
mutual
/-- all but what N names, which the data does not hold -/
theorem Dx.but {N : Addr → Prop} {H H' : Hp} (s : ∀ b o, ¬ N b → H b = some o → H' b = some o) : ∀ {v : V} {d : PyData}, Dx N H v d → Dx N H' v d
  | _, _, .non => .non
  | _, _, .bl b => .bl b
  | _, _, .int i => .int i
  | _, _, .str x => .str x
  | _, _, .lst h n t => .lst (s _ _ n h) n (DxAll.but s t)
  | _, _, .tup h n t => .tup (s _ _ n h) n (DxAll.but s t)
  | _, _, .dct h n t => .dct (s _ _ n h) n (DxAll.but s t)
theorem DxAll.but {N : Addr → Prop} {H H' : Hp} (s : ∀ b o, ¬ N b → H b = some o → H' b = some o) : ∀ {v : List V} {d : List PyData}, DxAll N H v d → DxAll N H' v d
  | _, _, .nil => .nil
  | _, _, .cons h t => .cons (Dx.but s h) (DxAll.but s t)
end
mutual
/-- another N that names no more of what is there -/
theorem Dx.more {N N' : Addr → Prop} {H : Hp} (s : ∀ b, H b ≠ none → N' b → N b) : ∀ {v : V} {d : PyData}, Dx N H v d → Dx N' H v d
  | _, _, .non => .non
  | _, _, .bl b => .bl b
  | _, _, .int i => .int i
  | _, _, .str x => .str x
  | _, _, .lst h n t => .lst h (fun z => n (s _ (by rw [h]; exact Option.some_ne_none _) z)) (DxAll.more s t)
  | _, _, .tup h n t => .tup h (fun z => n (s _ (by rw [h]; exact Option.some_ne_none _) z)) (DxAll.more s t)
  | _, _, .dct h n t => .dct h (fun z => n (s _ (by rw [h]; exact Option.some_ne_none _) z)) (DxAll.more s t)
theorem DxAll.more {N N' : Addr → Prop} {H : Hp} (s : ∀ b, H b ≠ none → N' b → N b) : ∀ {v : List V} {d : List PyData}, DxAll N H v d → DxAll N' H v d
  | _, _, .nil => .nil
  | _, _, .cons h t => .cons (Dx.more s h) (DxAll.more s t)
end
theorem DxAll.append {N : Addr → Prop} {H : Hp} : ∀ {vs ws : List V} {ds es : List PyData}, DxAll N H vs ds → DxAll N H ws es → DxAll N H (vs ++ ws) (ds ++ es)
  | _, _, _, _, .nil, h => h
  | _, _, _, _, .cons a t, h => .cons a (DxAll.append t h)
theorem DxAll.get {N : Addr → Prop} {H : Hp} : ∀ {vs : List V} {ds : List PyData} {i : Nat} {v : V}, DxAll N H vs ds → vs[i]? = some v → ∃ d, ds[i]? = some d ∧ Dx N H v d
  | _, _, _, _, .nil, h => by simp at h
  | _, _, 0, _, .cons a t, h => by
    obtain rfl := Option.some.inj h
    exact ⟨_, rfl, a⟩
  | _, _, i + 1, _, .cons a t, h => by
    obtain ⟨d, e, q⟩ := DxAll.get (i := i) t h
    exact ⟨d, e, q⟩
theorem DxAll.mem {N : Addr → Prop} {H : Hp} {vs : List V} {ds : List PyData} {v : V} (h : DxAll N H vs ds) (hv : v ∈ vs) : ∃ d ∈ ds, Dx N H v d := by
  obtain ⟨i, hi⟩ := List.mem_iff_getElem?.mp hv
  obtain ⟨d, e, q⟩ := h.get hi
  exact ⟨d, List.mem_of_getElem? e, q⟩
section
variable {X : Cx} {N : Addr → Prop} {pins : List (Addr × Obj)} {σ : L2.St} {H : Hp} {s : Shared}
theorem key_reads {h : Heap} {k : Key} {u : Value} (e : keyIs k u = true) : Reads h u (keyD k) [] := by
  rcases keyIs_shape e with ⟨i, t, rfl, rfl⟩ | ⟨z, t, rfl, rfl⟩
  · exact .int i t
  · exact .str z t
theorem keys_read {P : Program} {w : World} {h : Heap} : ∀ {es : List DictEntry} {vs : List (Key × Value)}, Pairs (mixKind P w) es vs → ReadsAll h (es.map (·.key)) (vs.map fun kv => keyD kv.1) []
  | _, _, .nil => .nil
  | _, _, .cons e _ t => by
    have q := ReadsAll.cons (key_reads (h := h) e) (keys_read t)
    exact q
theorem vals_eq {P : Program} {w : World} : ∀ {es : List DictEntry} {vs : List (Key × Value)}, Pairs (mixKind P w) es vs → es.map (·.val) = vs.map (·.2)
  | _, _, .nil => rfl
  | _, _, .cons _ e t => by
    rw [List.map_cons, List.map_cons, e, vals_eq t]
theorem kv_keys : ∀ {kvs : List (Key × V)} {vs : List (Key × Value)}, KV kvs vs → kvs.map (fun kv => keyD kv.1) = vs.map (fun kv => keyD kv.1)
  | _, _, .nil => rfl
  | _, _, .cons h t => by
    rw [List.map_cons, List.map_cons, h.1, kv_keys t]
theorem kv_vals : ∀ {kvs : List (Key × V)} {vs : List (Key × Value)}, KV kvs vs → Vals (kvs.map (·.2)) (vs.map (·.2))
  | _, _, .nil => .nil
  | _, _, .cons h t => .cons h.2 (kv_vals t)
mutual
theorem Dx.reads (I : Inv X pins σ H s) (hs : H sysModules = none) : ∀ {x : V} {d : PyData}, Dx N H x d → ∀ {u : Value}, RelV x u → ∃ as, Reads s.heap u d as ∧ sysModules ∉ as
  | _, _, .non, u, r => by
    obtain rfl : u = Value.none := r
    exact ⟨[], .none, by simp⟩
  | _, _, .bl b, u, r => by
    obtain rfl : u = Value.bool b := r
    exact ⟨[], .bool b, by simp⟩
  | _, _, .int i, u, r => by
    obtain ⟨t, rfl⟩ : ∃ t, u = Value.int i t := r
    exact ⟨[], .int i t, by simp⟩
  | _, _, .str x, u, r => by
    obtain ⟨t, rfl⟩ : ∃ t, u = Value.str x t := r
    exact ⟨[], .str x t, by simp⟩
  | _, _, .lst (a := a) (xs := xs) ha hN t, u, r => by
    obtain rfl : u = Value.ref a := r
    obtain ⟨_, its, n, rv, e⟩ := (show ObjOk X.prog X.w H s.heap a (.lst xs) from I.hok a _ ha)
    obtain ⟨as, q, ns⟩ := DxAll.reads I hs t rv
    refine ⟨a :: as, .list e rfl rfl (by simpa using q), fun z => ?_⟩
    rcases List.mem_cons.mp z with z | z
    · rw [z, ha] at hs
      cases hs
    · exact ns z
  | _, _, .tup (a := a) (xs := xs) ha hN t, u, r => by
    obtain rfl : u = Value.ref a := r
    obtain ⟨_, its, rv, o, e, hc, n, hd⟩ := (show ObjOk X.prog X.w H s.heap a (.tup xs) from I.hok a _ ha)
    obtain ⟨as, q, ns⟩ := DxAll.reads I hs t rv
    exact ⟨as, .tuple e hc hd (by simpa using q), ns⟩
  | _, _, .dct (a := a) (kvs := kvs) (ds := ds) ha hN t, u, r => by
    obtain rfl : u = Value.ref a := r
    obtain ⟨_, _, vs, kv, o, es, ep, ho, hc, hdt, _, hp, _⟩ := (show ObjOk X.prog X.w H s.heap a (.dK kvs) from I.hok a _ ha)
    obtain ⟨as, q, ns⟩ := DxAll.reads I hs t (kv_vals kv)
    have hl := DxAll.length t
    have hl2 : (kvs.map fun kv => keyD kv.1).length = ds.length := by rw [List.length_map, ← hl, List.length_map]
    have k1 := keys_read (h := s.heap) hp
    rw [← kv_keys kv] at k1
    refine ⟨_, .dict (as := []) (bs := as) ho hc.1 hdt ?_ ?_, fun z => ?_⟩
    · rw [List.map_fst_zip (Nat.le_of_eq hl2)]
      exact k1
    · rw [List.map_snd_zip (Nat.le_of_eq hl2.symm), vals_eq hp]
      exact q
    · rcases List.mem_append.mp z with z | z
      · rw [List.mem_singleton.mp z, ha] at hs
        cases hs
      · exact ns z
theorem DxAll.reads (I : Inv X pins σ H s) (hs : H sysModules = none) : ∀ {xs : List V} {ds : List PyData}, DxAll N H xs ds → ∀ {us : List Value}, Vals xs us → ∃ as, ReadsAll s.heap us ds as ∧ sysModules ∉ as
  | _, _, .nil, _, .nil => ⟨[], .nil, by simp⟩
  | _, _, .cons h t, _, .cons r rs => by
    obtain ⟨as, q, n⟩ := Dx.reads I hs h r
    obtain ⟨bs, q2, n2⟩ := DxAll.reads I hs t rs
    exact ⟨as ++ bs, .cons q q2, fun z => (List.mem_append.mp z).elim n n2⟩
end
/-- repr(data) -/
def rReprX : List V → Hp → VK → Prop := fun xs H Q => ∃ (N : Addr → Prop) (x : V) (d : PyData), xs = [x] ∧ Dx N H x d ∧ d.showable = true ∧ d.depth ≤ 40 ∧ d.shown.length ≤ sizeLine ∧ Q (.str d.shown) H
theorem cr_reprX (hb : ∃ mm, X.base.Ns sysModules mm) (hg : X.A.guards = some []) (hu : X.A.units + 64 < cLine) : CallR X (.builtin "repr") rReprX := by
  intro pins s σ H xs us Q I r h
  obtain ⟨N, x, d, rfl, hd, hs, hdp, hz, q⟩ := h
  obtain ⟨u, rfl, ru⟩ := vals1 r
  have h1 : H sysModules = none := by
    obtain ⟨mm, o, es, ep, e, _⟩ := hb
    exact (I.bs _ _ e).2
  obtain ⟨as, rd, hsm⟩ := Dx.reads I h1 hd ru
  cases rd with
  | none => exact PySem.P.repr_of_none ⟨.str _, H, I.tok _, ⟨_, rfl⟩, q⟩
  | bool b => exact PySem.P.repr_of_bool ⟨.str _, H, I.tok _, ⟨_, rfl⟩, q⟩
  | int i t => exact PySem.P.repr_of_int (of_decide_eq_true hs) ⟨.str _, H, I.tok _, ⟨_, rfl⟩, q⟩
  | str z t => exact PySem.P.repr_of_str ⟨.str _, H, I.tok _, ⟨_, rfl⟩, q⟩ hz
  | list a1 a2 a3 a4 => exact repr_of_reads' (.list a1 a2 a3 a4) hs (fun _ => hsm) hg (by omega) (fun _ _ e => e) (fun h' u' tk hk => ⟨.str _, H, I.kept (t' := tk) hk, ⟨_, rfl⟩, q⟩) hz
  | tuple a1 a2 a3 a4 => exact repr_of_reads' (.tuple a1 a2 a3 a4) hs (fun _ => hsm) hg (by omega) (fun _ _ e => e) (fun h' u' tk hk => ⟨.str _, H, I.kept (t' := tk) hk, ⟨_, rfl⟩, q⟩) hz
  | dict a1 a2 a3 a4 a5 => exact repr_of_reads' (.dict a1 a2 a3 a4 a5) hs (fun _ => hsm) hg (by omega) (fun _ _ e => e) (fun h' u' tk hk => ⟨.str _, H, I.kept (t' := tk) hk, ⟨_, rfl⟩, q⟩) hz
end
end Mo

/-! ### rules for data of any kind -/
namespace Mo
open PySem PySem.Spec PyProof.Rows L2
section
variable {X : Cx}
/-- a list of anything == [] -/
def rEqNil (K : PySem.W.Frag) : R2 := fun x y H Q => ∃ a b xs, x = .ref a ∧ y = .ref b ∧ SqL K H a xs ∧ SqL K H b [] ∧ Q (.bl xs.isEmpty) H
theorem op_eqNil (hu : X.A.units + 64 < cLine) : OpR X (compareOp .Eq) (rEqNil X.K) := by
  intro pins s σ H x y v u Q I rx ry h
  obtain ⟨a, b, xs, rfl, rfl, ha, hb, q⟩ := h
  cases rx
  cases ry
  obtain ⟨is, r1, p1, _⟩ := I.list ha
  obtain ⟨js, r2, p2, _⟩ := I.list hb
  cases r2
  cases r1 with
  | nil => exact SeqAt.eq_listAt (e := fun _ => true) p1.isList p2.isList rfl (by omega) (fun j h1 => absurd h1 (by simp)) ⟨.bl true, H, I, rfl, q⟩
  | cons r rs => exact SeqAt.eq_list_lengthsAt p1.isList p2.isList (by simp) (by omega) ⟨.bl false, H, I, rfl, q⟩
/-- a list of anything != [] -/
def rNeNil (K : PySem.W.Frag) : R2 := fun x y H Q => ∃ a b xs, x = .ref a ∧ y = .ref b ∧ SqL K H a xs ∧ SqL K H b [] ∧ Q (.bl (!xs.isEmpty)) H
theorem op_neNil (hu : X.A.units + 64 < cLine) : OpR X (compareOp .NotEq) (rNeNil X.K) := by
  intro pins s σ H x y v u Q I rx ry h
  obtain ⟨a, b, xs, rfl, rfl, ha, hb, q⟩ := h
  cases rx
  cases ry
  obtain ⟨is, r1, p1, _⟩ := I.list ha
  obtain ⟨js, r2, p2, _⟩ := I.list hb
  cases r2
  cases r1 with
  | nil => exact SeqAt.RcNeAt.lists (e := fun _ => true) p1.isList p2.isList rfl (by omega) (fun j h1 => absurd h1 (by simp)) X.prog X.w X.xe _ ⟨.bl false, H, I, rfl, q⟩
  | cons r rs => exact SeqAt.RcNeAt.lists_lengths p1.isList p2.isList (by simp) (by omega) X.prog X.w X.xe _ ⟨.bl true, H, I, rfl, q⟩
/-- a tuple of anything != () -/
def rNeNilT (K : PySem.W.Frag) : R2 := fun x y H Q => ∃ a b xs, x = .ref a ∧ y = .ref b ∧ SqT K H a xs ∧ SqT K H b [] ∧ Q (.bl (!xs.isEmpty)) H
theorem op_neNilT (hu : X.A.units + 64 < cLine) : OpR X (compareOp .NotEq) (rNeNilT X.K) := by
  intro pins s σ H x y v u Q I rx ry h
  obtain ⟨a, b, xs, rfl, rfl, ha, hb, q⟩ := h
  cases rx
  cases ry
  obtain ⟨is, r1, p1, _⟩ := I.tuple ha
  obtain ⟨js, r2, p2, _⟩ := I.tuple hb
  cases r2
  have k1 : s.heap.IsTuple a is.toArray := p1
  have k2 : s.heap.IsTuple b (List.nil (α := Value)).toArray := p2
  refine SeqAt.RcNeAt.tuples (e := fun _ => true) k1 k2 (by omega) (fun j _ h2 => absurd h2 (by simp)) X.prog X.w X.xe _ ?_
  cases r1 with
  | nil => exact ⟨.bl false, H, I, rfl, q⟩
  | cons r rs => exact ⟨.bl true, H, I, by simp only [List.size_toArray, List.length_cons, List.length_nil, Nat.min_zero, List.range_zero, List.all_nil, Bool.true_and]; rfl, q⟩
theorem vals_signs : ∀ (cs : List Nat) (l : List Value), l.length = cs.length → (∀ (j : Nat) (v : Value), l[j]? = some v → ∃ c u, cs[j]? = some c ∧ v = .str ⟨#[c]⟩ u) → Vals (cs.map sg) l
  | [], [], _, _ => .nil
  | [], _ :: _, h, _ => by simp at h
  | _ :: _, [], h, _ => by simp at h
  | c :: cs, v :: l, h, q => by
    obtain ⟨c', u, e1, rfl⟩ := q 0 v rfl
    obtain rfl := Option.some.inj e1
    exact .cons ⟨u, rfl⟩ (vals_signs cs l (by simpa using h) fun j v e => q (j + 1) v e)
/-- tuple(a text) -/
theorem cr_tupS (hc : X.calm = true) : CallR X (.type "tuple") (fun xs H Q => ∃ cs : List Nat, xs = [.str (tx cs)] ∧ cs.length ≤ 100000 ∧ ∀ p, H p = none → Q (.ref p) (upd H p (.tup (cs.map sg)))) := by
  intro pins s σ H xs us Q I r h
  obtain ⟨cs, rfl, hz, q⟩ := h
  obtain ⟨u, rfl, t, rfl⟩ := vals1 r
  refine call_tuple_str (I.ok.hd hc) (tx cs) t (fun h' tk acc hk hacc => ?_) (by rw [tx_size]; exact fits5 hz)
  have I1 : Inv X pins σ H { s with heap := h', toks := tk } := I.kept (t' := tk) hk
  have I2 := I1.laid (t' := tk) (o := .tup (cs.map sg)) (h' := h'.push { cls := .type "tuple", data := .seq acc }) (fun b o e => Heap.get?_push_of_some _ e) (Nat.le_refl _) ⟨by rw [List.length_map]; exact fits5 hz, acc.toList, vals_signs cs acc.toList (by have := hacc.1; rw [tx_size] at this; simpa using this) (fun j v e => by
    obtain ⟨c, u, e1, e2⟩ := hacc.2 j v (by simpa using e)
    exact ⟨c, u, tx_get.symm.trans e1, e2⟩), IsTup.new _ _⟩
  exact ⟨.ref h'.objs.size, _, I2, rfl, q _ (I1.hok.fresh (Nat.le_refl _))⟩
/-- z * n, n a small number -/
def mulS (cs : List Nat) (n : Nat) : List Nat := (List.replicate n cs).flatten
theorem foldl_cat (a : List Nat) : ∀ (n : Nat) (acc : List Nat), ((List.replicate n a.toArray).foldl (fun x y => x ++ y) acc.toArray) = (acc ++ (List.replicate n a).flatten).toArray
  | 0, acc => by simp
  | n + 1, acc => by
    rw [List.replicate_succ, List.foldl_cons, List.replicate_succ, List.flatten_cons, ← List.append_assoc, ← foldl_cat a n (acc ++ a)]
    simp
theorem mulS_eq (cs : List Nat) (n : Nat) : Txt.mul (tx cs) (n : Int) = tx (mulS cs n) := by
  unfold Txt.mul mulS
  by_cases h0 : n = 0
  · subst h0
    rfl
  · rw [if_neg (by omega)]
    by_cases h1 : ((n : Int) == 1 || (tx cs).length == 0) = true
    · rw [if_pos h1]
      rcases Bool.or_eq_true_iff.mp h1 with h | h
      · have : n = 1 := by have := beq_iff_eq.mp h; omega
        subst this
        simp
      · have : cs = [] := by
          have := beq_iff_eq.mp h
          rw [tx_len] at this
          exact List.eq_nil_of_length_eq_zero this
        subst this
        simp
    · rw [if_neg h1, show (n : Int).toNat = n from rfl]
      have q := foldl_cat cs n []
      rw [List.nil_append] at q
      exact congrArg Str.mk q
theorem op_mulS : OpR X (binaryOp .Mult) (fun x y H Q => ∃ (cs : List Nat) (n : Nat), x = .str (tx cs) ∧ y = .int n ∧ cs.length ≤ 100000 ∧ n ≤ 100 ∧ Q (.str (tx (mulS cs n))) H) := by
  intro pins s σ H x y v u Q I rx ry h
  obtain ⟨cs, n, rfl, rfl, hz, hn, q⟩ := h
  obtain ⟨t, rfl⟩ := rx
  obtain ⟨t2, rfl⟩ := ry
  have hl : cs.length * n ≤ 100000 * 100 := Nat.mul_le_mul hz hn
  refine SB.mul ⟨?_, fun h1 h2 => ?_, fun h1 h2 => ?_⟩ fun t' k => ?_
  · rw [decide_eq_false (by omega), decide_eq_false (by omega)]
    rfl
  · rw [tx_len]
    have h3 : ((cs.length : Nat) : Int) * (n : Int) ≤ 2 ^ 63 - 1 := by
      rw [← Int.natCast_mul]
      omega
    have h4 : ((cs.length : Nat) : Int) ≤ (2 ^ 63 - 1) / (n : Int) := Int.le_ediv_of_mul_le (by omega) h3
    omega
  · rw [tx_len]
    show decide (cs.length * (n : Int).toNat > sizeLine) = false
    rw [sizeLine_eq]
    exact decide_eq_false (by show ¬ cs.length * n > _; omega)
  · rw [mulS_eq]
    exact ⟨.str _, H, I.tok _, ⟨_, rfl⟩, q⟩
/-- t * n -/
def rRepG (K : PySem.W.Frag) : R2 := fun x y H Q => ∃ (l : Addr) (n : Nat) (xs : List V), x = .ref l ∧ y = .int n ∧ SqT K H l xs ∧ xs ≠ [] ∧ 2 ≤ n ∧ n ≤ 100000 ∧ xs.length * n ≤ 1000000 ∧ ∀ p, H p = none → Q (.ref p) (upd H p (.tup (List.replicate n xs).flatten))
theorem op_repG : OpR X (binaryOp .Mult) (rRepG X.K) := by
  intro pins s σ H x y v u Q I rx ry h
  obtain ⟨l, n, xs, rfl, rfl, hT, hne, h1, h2, hz, q⟩ := h
  cases rx
  obtain ⟨t, rfl⟩ := ry
  obtain ⟨its, r, ⟨ob, ho, hc, m, hd⟩, hs⟩ := I.tuple hT
  obtain ⟨cls, dd, data, sl⟩ := ob
  obtain rfl : cls = .type "tuple" := hc
  obtain rfl : data = .seq its.toArray m := hd
  have hle := r.length
  have hi : its.toArray.isEmpty = false := by
    cases r with
    | nil => exact absurd rfl hne
    | cons _ _ => rfl
  have hm : xs.length * n ≤ 10 * 100000 := hz
  have hm2 : ((its.toArray.size : Nat) : Int) * (n : Int) = ((xs.length * n : Nat) : Int) := by
    rw [List.size_toArray, ← hle]
    exact (Int.natCast_mul _ _).symm
  have fl : (List.replicate n xs).flatten.length ≤ sizeLine := by
    rw [lm_len_rep_flat, Nat.mul_comm, sizeLine_eq]
    omega
  have fl2 : (List.foldl (fun x1 x2 => x1 ++ x2) #[] (List.replicate (n : Int).toNat its.toArray)).size ≤ sizeLine := by
    rw [size_rep, List.size_toArray, lm_len_rep_flat, ← hle, Nat.mul_comm, sizeLine_eq]
    show xs.length * n ≤ _
    omega
  refine wpAny_binaryOp_repeat_ref (T := "tuple") (U := "int") (by decide) ⟨_, ho, rfl⟩ (fun s' => typeIs_int s' n t) noFill_tuple_mul F.fills_int_mul F.slot_int_rmul repeat_tuple F.slot_int_index.lookup ?_
  refine call_meets F.slot_int_rmul (typeIs_int s n t) F.entry_int_rmul (F.args_int_rmul_2 _ _) (int_rmul_tuple n t l its.toArray m dd sl) ⟨ho, rfl, ⟨_, ho, rfl⟩, ?_⟩
  refine call_meets F.slot_tuple_mul ⟨_, ho, rfl⟩ F.entry_tuple_mul (F.args_tuple_mul_2 _ _) (tuple_mulW l its.toArray m dd sl n t ?_ ?_ ?_ ?_ ?_ fl2) ⟨ho, ?_⟩
  · rw [decide_eq_false (by omega), decide_eq_false (by omega)]
    rfl
  · rw [hi, Bool.false_or]
    exact beq_eq_false_iff_ne.mpr (by omega)
  · rw [hi, Bool.or_false]
    exact decide_eq_false (by omega)
  · rw [hm2]
    omega
  · unfold Builtin.Tuple.tupleTooMany
    rw [hm2, sizeLine_eq]
    exact decide_eq_false (by omega)
  · rw [size_rep]
    exact ⟨.ref s.heap.objs.size, _, I.laid (t' := s.toks) (o := .tup (List.replicate n xs).flatten) (fun b ob q => Heap.get?_push_of_some _ q) (Nat.le_refl _) ⟨fl, _, r.rep n, IsTup.new _ _⟩, rfl, q _ (I.hok.fresh (Nat.le_refl _))⟩
/-- t * n, t of few items -/
def rRepN (K : PySem.W.Frag) : R2 := fun x y H Q => ∃ (l : Addr) (n : Nat) (xs : List V), x = .ref l ∧ y = .int n ∧ SqT K H l xs ∧ xs ≠ [] ∧ 2 ≤ n ∧ n ≤ 100000 ∧ xs.length ≤ 10 ∧ ∀ p, H p = none → Q (.ref p) (upd H p (.tup (List.replicate n xs).flatten))
theorem op_repN : OpR X (binaryOp .Mult) (rRepN X.K) := by
  intro pins s σ H x y v u Q I rx ry h
  obtain ⟨l, n, xs, h1, h2, h3, h4, h5, h6, h7, q⟩ := h
  exact op_repG pins s σ H x y v u Q I rx ry ⟨l, n, xs, h1, h2, h3, h4, h5, h6, Nat.le_trans (Nat.mul_le_mul h7 h6) (by decide), q⟩
/-! what is made anew or is the old one, read alike -/
theorem catA_any {K : PySem.W.Frag} {a b : Addr} {xs ys : List V} {H : Hp} {Q : VK} (ha : H a = some (.tup xs)) (hb : H b = some (.tup ys)) (hl : xs.length + ys.length ≤ sizeLine)
    (q : ∀ p H', Same H H' → H' p = some (.tup (xs ++ ys)) → p = a ∨ p = b ∨ H p = none → Q (.ref p) H') : rCatA K (.ref a) (.ref b) H Q := by
  refine ⟨a, b, xs, ys, rfl, rfl, SqT.of ha, SqT.of hb, hl, fun e => ?_, fun _ e => ?_, fun _ _ p np => ?_⟩
  · subst e
    exact q b H (Same.refl H) hb (.inr (.inl rfl))
  · subst e
    exact q a H (Same.refl H) (by rw [List.append_nil]; exact ha) (.inl rfl)
  · exact q p _ (same_new np) upd_same (.inr (.inr np))
theorem slA_any {K : PySem.W.Frag} {a : Addr} {xs : List V} {lo hi : Option Int} {H : Hp} {Q : VK} (ha : H a = some (.tup xs)) (q : ∀ p H', Same H H' → H' p = some (.tup (cutV xs lo hi)) → p = a ∨ H p = none → Q (.ref p) H') : rSlA K (.ref a) lo hi H Q := by
  refine ⟨a, xs, rfl, SqT.of ha, fun e => ?_, fun _ p np => q p _ (same_new np) upd_same (.inr np)⟩
  have ec : cutV xs lo hi = xs := by
    unfold cutV
    rw [e.1, e.2, List.drop_zero, Nat.sub_zero, List.take_length]
  exact q a H (Same.refl H) (by rw [ec]; exact ha) (.inl rfl)
theorem cut_to (xs : List V) (n : Nat) : cutV xs none (some (n : Int)) = xs.take n := by
  unfold cutV
  rw [HT.sIx_none, HT.sIx_nat, List.drop_zero, Nat.sub_zero, List.take_eq_take_iff]
  omega
theorem cut_from (xs : List V) (n : Nat) : cutV xs (some (n : Int)) none = xs.drop n := by
  unfold cutV
  rw [HT.sIx_none, HT.sIx_nat]
  have e : xs.drop (min n xs.length) = xs.drop n := by
    by_cases h : n ≤ xs.length
    · rw [Nat.min_eq_left h]
    · rw [List.drop_of_length_le (by omega), List.drop_of_length_le (by omega)]
  rw [e]
  exact List.take_of_length_le (by rw [List.length_drop]; omega)
end
end Mo

set_option exponentiation.threshold 3000
/-! ### how great data is: its ints below 10 ^ B, its signs, its bulk, its depth -/
namespace Mo
open PySem PySem.Spec PyProof.Rows L2
mutual
def okD (B : Nat) : PyData → Prop
  | .none | .bool _ => True
  | .int i => i.natAbs < 10 ^ B
  | .str z => ∀ c ∈ z.cps.toList, c < 128
  | .list ds | .tuple ds => okAll B ds
  | .dict kvs => okKv B kvs
def okAll (B : Nat) : List PyData → Prop
  | [] => True
  | d :: ds => okD B d ∧ okAll B ds
def okKv (B : Nat) : List (PyData × PyData) → Prop
  | [] => True
  | (k, v) :: r => (okD B k ∧ okD B v) ∧ okKv B r
end
theorem okAll_iff {B : Nat} : ∀ {ds : List PyData}, okAll B ds ↔ ∀ d ∈ ds, okD B d
  | [] => by simp [okAll]
  | d :: ds => by
    rw [List.forall_mem_cons, ← okAll_iff (ds := ds)]
    simp only [okAll]
mutual
theorem okD.mono {B C : Nat} (h : B ≤ C) : ∀ {d : PyData}, okD B d → okD C d
  | .none, _ => by simp only [okD]
  | .bool _, _ => by simp only [okD]
  | .int i, q => by
    simp only [okD] at q ⊢
    exact Nat.lt_of_lt_of_le q (Nat.pow_le_pow_right (by decide) h)
  | .str z, q => by
    simp only [okD] at q ⊢
    exact q
  | .list ds, q => by
    simp only [okD] at q ⊢
    exact okAll.mono h q
  | .tuple ds, q => by
    simp only [okD] at q ⊢
    exact okAll.mono h q
  | .dict kvs, q => by
    simp only [okD] at q ⊢
    exact okKv.mono h q
theorem okAll.mono {B C : Nat} (h : B ≤ C) : ∀ {ds : List PyData}, okAll B ds → okAll C ds
  | [], _ => by simp only [okAll]
  | d :: ds, q => by
    simp only [okAll] at q ⊢
    exact ⟨okD.mono h q.1, okAll.mono h q.2⟩
theorem okKv.mono {B C : Nat} (h : B ≤ C) : ∀ {kvs : List (PyData × PyData)}, okKv B kvs → okKv C kvs
  | [], _ => by simp only [okKv]
  | (k, v) :: r, q => by
    simp only [okKv] at q ⊢
    exact ⟨⟨okD.mono h q.1.1, okD.mono h q.1.2⟩, okKv.mono h q.2⟩
end
theorem int_short {B : Nat} {i : Int} (hB : 1 ≤ B) (h : i.natAbs < 10 ^ B) : (PyData.shown (.int i)).length ≤ B + 1 := by
  rw [PyData.shown_int, PySem.ofString_length]
  exact int_text_length_le10 hB h
/-- str(i) -/
theorem int_signs (i : Int) : ∀ c ∈ (Str.ofString (toString i)).cps.toList, c < 128 := fun c hc => by
  by_cases h : c ≠ 45 ∧ (c < 48 ∨ 57 < c)
  · exact absurd hc (int_text_free' c h i)
  · omega
theorem int_text_size {B : Nat} {i : Int} (hB : 1 ≤ B) (h : i.natAbs < 10 ^ B) : (Str.ofString (toString i)).cps.size ≤ B + 1 := by
  have q := int_short hB h
  rw [PyData.shown_int] at q
  exact q
theorem log_small {B n : Nat} (hB : B ≤ 100) (h : n < 10 ^ B) : n.log2 < 1920 := by
  by_cases h0 : n = 0
  · subst h0
    decide
  · have h1 : n < 2 ^ 1920 := Nat.lt_of_lt_of_le h (Nat.le_trans (Nat.pow_le_pow_right (by decide) hB) (by decide))
    exact (Nat.log2_lt h0).mpr h1
mutual
theorem okD.short {B : Nat} (hB : 1 ≤ B) : ∀ {d : PyData}, okD B d → d.leavesShort (B + 8) = true
  | .none, _ => by simp only [PyData.leavesShort]
  | .bool _, _ => by simp only [PyData.leavesShort]
  | .int i, q => by
    simp only [okD] at q
    have := int_short hB q
    simp only [PyData.leavesShort]
    exact decide_eq_true (by omega)
  | .str z, q => by
    simp only [okD] at q
    simp only [PyData.leavesShort, List.all_eq_true]
    exact fun c hc => decide_eq_true (Nat.lt_trans (q c hc) (by decide))
  | .list ds, q => by
    simp only [okD, PyData.leavesShort] at q ⊢
    exact okAll.short hB q
  | .tuple ds, q => by
    simp only [okD, PyData.leavesShort] at q ⊢
    exact okAll.short hB q
  | .dict kvs, q => by
    simp only [okD, PyData.leavesShort] at q ⊢
    exact okKv.short hB q
theorem okAll.short {B : Nat} (hB : 1 ≤ B) : ∀ {ds : List PyData}, okAll B ds → PyData.leavesShortAll (B + 8) ds = true
  | [], _ => by simp only [PyData.leavesShortAll]
  | d :: ds, q => by
    simp only [okAll, PyData.leavesShortAll, Bool.and_eq_true] at q ⊢
    exact ⟨okD.short hB q.1, okAll.short hB q.2⟩
theorem okKv.short {B : Nat} (hB : 1 ≤ B) : ∀ {kvs : List (PyData × PyData)}, okKv B kvs → PyData.leavesShortKv (B + 8) kvs = true
  | [], _ => by simp only [PyData.leavesShortKv]
  | (k, v) :: r, q => by
    simp only [okKv, PyData.leavesShortKv, Bool.and_eq_true] at q ⊢
    exact ⟨⟨okD.short hB q.1.1, okD.short hB q.1.2⟩, okKv.short hB q.2⟩
end
mutual
theorem okD.show {B : Nat} (hB : B ≤ 100) : ∀ {d : PyData}, okD B d → d.showable = true
  | .none, _ => by simp only [PyData.showable]
  | .bool _, _ => by simp only [PyData.showable]
  | .int i, q => by
    simp only [okD, PyData.showable] at q ⊢
    exact decide_eq_true (log_small hB q)
  | .str z, q => by simp only [PyData.showable]
  | .list ds, q => by
    simp only [okD, PyData.showable] at q ⊢
    exact okAll.show hB q
  | .tuple ds, q => by
    simp only [okD, PyData.showable] at q ⊢
    exact okAll.show hB q
  | .dict kvs, q => by
    simp only [okD, PyData.showable] at q ⊢
    exact okKv.show hB q
theorem okAll.show {B : Nat} (hB : B ≤ 100) : ∀ {ds : List PyData}, okAll B ds → PyData.showableAll ds = true
  | [], _ => by simp only [PyData.showableAll]
  | d :: ds, q => by
    simp only [okAll, PyData.showableAll, Bool.and_eq_true] at q ⊢
    exact ⟨okD.show hB q.1, okAll.show hB q.2⟩
theorem okKv.show {B : Nat} (hB : B ≤ 100) : ∀ {kvs : List (PyData × PyData)}, okKv B kvs → PyData.showableKv kvs = true
  | [], _ => by simp only [PyData.showableKv]
  | (k, v) :: r, q => by
    simp only [okKv, PyData.showableKv, Bool.and_eq_true] at q ⊢
    exact ⟨⟨okD.show hB q.1.1, okD.show hB q.1.2⟩, okKv.show hB q.2⟩
end
theorem bulkAll_app : ∀ (a b : List PyData), PyData.bulkAll (a ++ b) = PyData.bulkAll a + PyData.bulkAll b
  | [], b => by simp [PyData.bulkAll]
  | x :: a, b => by
    rw [List.cons_append]
    simp only [PyData.bulkAll]
    rw [bulkAll_app a b]
    omega
theorem depthAll_le {n : Nat} : ∀ {ds : List PyData}, PyData.depthAll ds ≤ n ↔ ∀ d ∈ ds, d.depth ≤ n
  | [] => by simp [PyData.depthAll]
  | d :: ds => by
    rw [List.forall_mem_cons, ← depthAll_le (ds := ds)]
    simp only [PyData.depthAll]
    exact Nat.max_le
/-- data of these bounds -/
structure Fit (B W D : Nat) (d : PyData) : Prop where
  ok : okD B d
  bulk : d.bulk ≤ W
  deep : d.depth ≤ D
/-- lists of such data, of this bulk together -/
structure FitAll (B W D : Nat) (ds : List PyData) : Prop where
  ok : okAll B ds
  bulk : PyData.bulkAll ds ≤ W
  deep : PyData.depthAll ds ≤ D
theorem Fit.mono {B W D B' W' D' : Nat} {d : PyData} (h : Fit B W D d) (h1 : B ≤ B') (h2 : W ≤ W') (h3 : D ≤ D') : Fit B' W' D' d := ⟨h.ok.mono h1, Nat.le_trans h.bulk h2, Nat.le_trans h.deep h3⟩
theorem FitAll.app {B W D W' : Nat} {a b : List PyData} (h : FitAll B W D a) (g : FitAll B W' D b) : FitAll B (W + W') D (a ++ b) :=
  ⟨okAll_iff.mpr fun d hd => (List.mem_append.mp hd).elim (okAll_iff.mp h.ok d) (okAll_iff.mp g.ok d), by rw [bulkAll_app]; exact Nat.add_le_add h.bulk g.bulk, depthAll_le.mpr fun d hd => (List.mem_append.mp hd).elim (depthAll_le.mp h.deep d) (depthAll_le.mp g.deep d)⟩
theorem FitAll.tup {B W D : Nat} {a : List PyData} (h : FitAll B W D a) : Fit B W (D + 1) (.tuple a) := ⟨by simp only [okD]; exact h.ok, by simp only [PyData.bulk]; exact h.bulk, by simp only [PyData.depth]; exact Nat.succ_le_succ h.deep⟩
theorem FitAll.lst {B W D : Nat} {a : List PyData} (h : FitAll B W D a) : Fit B W (D + 1) (.list a) := ⟨by simp only [okD]; exact h.ok, by simp only [PyData.bulk]; exact h.bulk, by simp only [PyData.depth]; exact Nat.succ_le_succ h.deep⟩
theorem Fit.of_tup {B W D : Nat} {a : List PyData} (h : Fit B W (D + 1) (.tuple a)) : FitAll B W D a := ⟨by have := h.ok; simp only [okD] at this; exact this, by have := h.bulk; simp only [PyData.bulk] at this; exact this, by have := h.deep; simp only [PyData.depth] at this; omega⟩
theorem Fit.one {B W D : Nat} {d : PyData} (h : Fit B W D d) : FitAll B (W + 1) D [d] := ⟨by simp only [okAll]; exact ⟨h.ok, trivial⟩, by simp only [PyData.bulkAll]; have := h.bulk; omega, by simp only [PyData.depthAll]; have := h.deep; omega⟩
theorem FitAll.sub {B W D : Nat} {a b : List PyData} (h : FitAll B W D b) (hs : a.Sublist b) : FitAll B (PyData.bulkAll a) D a := ⟨okAll_iff.mpr fun d hd => okAll_iff.mp h.ok d (hs.subset hd), Nat.le_refl _, depthAll_le.mpr fun d hd => depthAll_le.mp h.deep d (hs.subset hd)⟩
theorem FitAll.mono {B W D B' W' D' : Nat} {d : List PyData} (h : FitAll B W D d) (h1 : B ≤ B') (h2 : W ≤ W') (h3 : D ≤ D') : FitAll B' W' D' d := ⟨h.ok.mono h1, Nat.le_trans h.bulk h2, Nat.le_trans h.deep h3⟩
theorem FitAll.len {B W D : Nat} {a : List PyData} (h : FitAll B W D a) : a.length ≤ W := by
  have key : ∀ a : List PyData, a.length ≤ PyData.bulkAll a := by
    intro a
    induction a with
    | nil => exact Nat.zero_le _
    | cons x a ih =>
      simp only [PyData.bulkAll, List.length_cons]
      omega
  exact Nat.le_trans (key a) h.bulk
/-- what repr asks -/
theorem Fit.repr {B W D : Nat} {d : PyData} (h : Fit B W D d) (h1 : 1 ≤ B) (h2 : B ≤ 40) (h3 : W ≤ 300000) (h4 : D ≤ 40) : d.showable = true ∧ d.depth ≤ 40 ∧ d.shown.length ≤ sizeLine := by
  refine ⟨h.ok.show (by omega), Nat.le_trans h.deep h4, ?_⟩
  have q := PyData.shown_le_bulk (B + 8) (by omega) d (h.ok.short h1)
  have hb := h.bulk
  have m : (B + 8 + 2) * d.bulk ≤ 50 * 300000 := Nat.mul_le_mul (by omega) (by omega)
  rw [sizeLine_eq]
  omega
/-! ### kinds -/
def tyD : PyData → String
  | .none => "NoneType"
  | .bool _ => "bool"
  | .int _ => "int"
  | .str _ => "str"
  | .list _ => "list"
  | .tuple _ => "tuple"
  | .dict _ => "dict"
theorem Dx.ty {N : Addr → Prop} {K : PySem.W.Frag} {H : Hp} {x : V} {d : PyData} (h : Dx N H x d) : TyX K H x (.type (tyD d)) := by
  cases h with
  | non => exact .base .non
  | bl b => exact .base (.bl b)
  | int i => exact .base (.int i)
  | str z => exact .base (.str z)
  | lst h _ _ => exact .base (.lst h)
  | tup h _ _ => exact .base (.tup h)
  | dct h _ _ => exact .base (.dK h)
def letterD : PyData → Bool
  | .int i => decide (0 ≤ i) && decide (i ≤ 999999)
  | _ => false
def textD : PyData → Bool
  | .tuple ds => decide (ds.length ≤ 4096) && ds.all letterD
  | _ => false
end Mo

/-! ### lists and tuples of flat values compared -/
namespace Mo
open PySem PySem.Spec PyProof.Rows L2
def eqLs : List V → List V → Bool
  | [], [] => true
  | x :: xs, y :: ys => eqV x y && eqLs xs ys
  | _, _ => false
theorem eqLs_range : ∀ (xs ys : List V), xs.length = ys.length → (List.range xs.length).all (fun j => eqV (xs.getD j .non) (ys.getD j .non)) = eqLs xs ys
  | [], [], _ => rfl
  | x :: xs, y :: ys, h => by
    rw [List.length_cons, List.range_succ_eq_map, List.all_cons, List.all_map]
    show (eqV x y && (List.range xs.length).all (fun j => eqV (xs.getD j .non) (ys.getD j .non))) = _
    rw [eqLs_range xs ys (by simpa using h)]
    rfl
  | [], _ :: _, h => by simp at h
  | _ :: _, [], h => by simp at h
theorem eqLs_len : ∀ {xs ys : List V}, eqLs xs ys = true → xs.length = ys.length
  | [], [], _ => rfl
  | x :: xs, y :: ys, h => by
    rw [List.length_cons, List.length_cons, eqLs_len (Bool.and_eq_true_iff.mp h).2]
  | [], _ :: _, h => by cases h
  | _ :: _, [], h => by cases h
theorem eqV_self : ∀ {x : V}, flatV x = true → eqV x x = true := by
  intro x h
  cases x <;> first | (exact absurd (show false = true from h) Bool.false_ne_true) | rfl | (simp [eqV])
theorem eqLs_self : ∀ {xs : List V}, xs.all flatV = true → eqLs xs xs = true
  | [], _ => rfl
  | x :: xs, h => by
    rw [List.all_cons, Bool.and_eq_true] at h
    show (eqV x x && eqLs xs xs) = true
    rw [eqV_self h.1, eqLs_self h.2]
    rfl
theorem flat_ints (ns : List Int) : (ns.map V.int).all flatV = true := by
  rw [List.all_map, List.all_eq_true]
  exact fun _ _ => rfl
theorem flat_strs' (zs : List Str) : (zs.map V.str).all flatV = true := by
  rw [List.all_map, List.all_eq_true]
  exact fun _ _ => rfl
theorem eqLs_ints : ∀ (a b : List Int), eqLs (a.map V.int) (b.map V.int) = decide (a = b)
  | [], [] => by simp [eqLs]
  | x :: a, y :: b => by
    show (x == y && eqLs (a.map V.int) (b.map V.int)) = _
    rw [eqLs_ints a b, Bool.eq_iff_iff]
    simp
  | [], _ :: _ => by simp [eqLs]
  | _ :: _, [] => by simp [eqLs]
theorem eqLs_strs : ∀ (a b : List Str), eqLs (a.map V.str) (b.map V.str) = decide (a = b)
  | [], [] => by simp [eqLs]
  | x :: a, y :: b => by
    show (x == y && eqLs (a.map V.str) (b.map V.str)) = _
    rw [eqLs_strs a b, Bool.eq_iff_iff]
    simp
  | [], _ :: _ => by simp [eqLs]
  | _ :: _, [] => by simp [eqLs]
section
variable {X : Cx}
theorem eqAts {A : Around} {s : Shared} {xs ys : List V} {us ws : List Value} (r1 : Vals xs us) (r2 : Vals ys ws) (f1 : xs.all flatV = true) (f2 : ys.all flatV = true) :
    ∀ j (h1 : j < us.toArray.size) (h2 : j < ws.toArray.size), SeqAt.EqAt A s us.toArray[j] ws.toArray[j] (eqV (xs.getD j .non) (ys.getD j .non)) := by
  intro j h1 h2
  have l1 := r1.length
  have l2 := r2.length
  rw [List.size_toArray] at h1 h2
  have e1 : xs[j]? = some (xs.getD j .non) := by
    rw [List.getD_eq_getElem?_getD, List.getElem?_eq_getElem (by omega)]
    rfl
  have e2 : ys[j]? = some (ys.getD j .non) := by
    rw [List.getD_eq_getElem?_getD, List.getElem?_eq_getElem (by omega)]
    rfl
  obtain ⟨u, hu, ru⟩ := r1.get e1
  obtain ⟨v, hv, rv⟩ := r2.get e2
  have q1 : us.toArray[j] = u := by
    rw [List.getElem?_eq_getElem h1] at hu
    exact Option.some.inj hu
  have q2 : ws.toArray[j] = v := by
    rw [List.getElem?_eq_getElem h2] at hv
    exact Option.some.inj hv
  rw [q1, q2]
  exact eqAt_V ru rv (List.all_eq_true.mp f1 _ (List.mem_of_getElem? e1)) (List.all_eq_true.mp f2 _ (List.mem_of_getElem? e2))
def FlatAt (K : PySem.W.Frag) (H : Hp) (x y : V) (xs ys : List V) : Prop := ∃ a b, x = .ref a ∧ y = .ref b ∧ xs.all flatV = true ∧ ys.all flatV = true ∧ ((SqL K H a xs ∧ SqL K H b ys) ∨ (SqT K H a xs ∧ SqT K H b ys))
def rEqFl (K : PySem.W.Frag) : R2 := fun x y H Q => ∃ xs ys, FlatAt K H x y xs ys ∧ Q (.bl (eqLs xs ys)) H
def rNeFl (K : PySem.W.Frag) : R2 := fun x y H Q => ∃ xs ys, FlatAt K H x y xs ys ∧ Q (.bl (!eqLs xs ys)) H
theorem tups_eq {xs ys : List V} : ((List.range (min xs.length ys.length)).all (fun j => eqV (xs.getD j .non) (ys.getD j .non)) && xs.length == ys.length) = eqLs xs ys := by
  by_cases h : xs.length = ys.length
  · rw [← h, Nat.min_self, eqLs_range xs ys h]
    simp
  · have : eqLs xs ys = false := by
      cases e : eqLs xs ys with
      | false => rfl
      | true => exact absurd (eqLs_len e) h
    rw [this, beq_eq_false_iff_ne.mpr h, Bool.and_false]
theorem op_eqFl (hu : X.A.units + 64 < cLine) : OpR X (compareOp .Eq) (rEqFl X.K) := by
  intro pins s σ H x y v u Q I rx ry h
  obtain ⟨xs, ys, ⟨a, b, rfl, rfl, f1, f2, h⟩, q⟩ := h
  cases rx
  cases ry
  rcases h with ⟨ha, hb⟩ | ⟨ha, hb⟩
  · obtain ⟨is, r1, p1, _⟩ := I.list ha
    obtain ⟨js, r2, p2, _⟩ := I.list hb
    have l1 := r1.length
    have l2 := r2.length
    by_cases hl : xs.length = ys.length
    · refine SeqAt.eq_listAt (e := fun j => eqV (xs.getD j .non) (ys.getD j .non)) p1.isList p2.isList (by simp only [List.size_toArray]; omega) (by omega) (eqAts r1 r2 f1 f2) ?_
      rw [List.size_toArray, ← l1, eqLs_range xs ys hl]
      exact ⟨.bl _, H, I, rfl, q⟩
    · have e : eqLs xs ys = false := by
        cases e : eqLs xs ys with
        | false => rfl
        | true => exact absurd (eqLs_len e) hl
      rw [e] at q
      exact SeqAt.eq_list_lengthsAt p1.isList p2.isList (by simp only [List.size_toArray]; rw [bne_iff_ne]; omega) (by omega) ⟨.bl _, H, I, rfl, q⟩
  · obtain ⟨is, r1, p1, _⟩ := I.tuple ha
    obtain ⟨js, r2, p2, _⟩ := I.tuple hb
    have l1 := r1.length
    have l2 := r2.length
    have k1 : s.heap.IsTuple a is.toArray := p1
    have k2 : s.heap.IsTuple b js.toArray := p2
    refine SeqAt.eq_tupleAt (e := fun j => eqV (xs.getD j .non) (ys.getD j .non)) k1 k2 (by omega) (eqAts r1 r2 f1 f2) ?_
    rw [List.size_toArray, List.size_toArray, ← l1, ← l2, tups_eq]
    exact ⟨.bl _, H, I, rfl, q⟩
theorem op_neFl (hu : X.A.units + 64 < cLine) : OpR X (compareOp .NotEq) (rNeFl X.K) := by
  intro pins s σ H x y v u Q I rx ry h
  obtain ⟨xs, ys, ⟨a, b, rfl, rfl, f1, f2, h⟩, q⟩ := h
  cases rx
  cases ry
  rcases h with ⟨ha, hb⟩ | ⟨ha, hb⟩
  · obtain ⟨is, r1, p1, _⟩ := I.list ha
    obtain ⟨js, r2, p2, _⟩ := I.list hb
    have l1 := r1.length
    have l2 := r2.length
    by_cases hl : xs.length = ys.length
    · refine SeqAt.RcNeAt.lists (e := fun j => eqV (xs.getD j .non) (ys.getD j .non)) p1.isList p2.isList (by simp only [List.size_toArray]; omega) (by omega) (eqAts r1 r2 f1 f2) X.prog X.w X.xe _ ?_
      rw [List.size_toArray, ← l1, eqLs_range xs ys hl]
      exact ⟨.bl _, H, I, rfl, q⟩
    · have e : eqLs xs ys = false := by
        cases e : eqLs xs ys with
        | false => rfl
        | true => exact absurd (eqLs_len e) hl
      rw [e] at q
      exact SeqAt.RcNeAt.lists_lengths p1.isList p2.isList (by simp only [List.size_toArray]; rw [bne_iff_ne]; omega) (by omega) X.prog X.w X.xe _ ⟨.bl _, H, I, rfl, q⟩
  · obtain ⟨is, r1, p1, _⟩ := I.tuple ha
    obtain ⟨js, r2, p2, _⟩ := I.tuple hb
    have l1 := r1.length
    have l2 := r2.length
    have k1 : s.heap.IsTuple a is.toArray := p1
    have k2 : s.heap.IsTuple b js.toArray := p2
    refine SeqAt.RcNeAt.tuples (e := fun j => eqV (xs.getD j .non) (ys.getD j .non)) k1 k2 (by omega) (eqAts r1 r2 f1 f2) X.prog X.w X.xe _ ?_
    rw [List.size_toArray, List.size_toArray, ← l1, ← l2, tups_eq]
    exact ⟨.bl _, H, I, rfl, q⟩
end
end Mo

namespace Mo
open PySem PySem.Spec PyProof.Rows L2
/-! ### the pen -/
def srcD (c : Addr) (t r : Int) : List (Key × V) := [(.inr "cells", .ref c), (.inr "index", .int t), (.inr "rest", .int r)]
theorem s_ct : ¬ ((Sum.inr "cells" : Key) = (Sum.inr "index" : Key)) := by decide +kernel
theorem s_cr : ¬ ((Sum.inr "cells" : Key) = (Sum.inr "rest" : Key)) := by decide +kernel
theorem s_tr : ¬ ((Sum.inr "index" : Key) = (Sum.inr "rest" : Key)) := by decide +kernel
theorem src_cells (c : Addr) (t r : Int) : valV (srcD c t r) (Sum.inr "cells") = some (.ref c) := valV_pos rfl
theorem src_index (c : Addr) (t r : Int) : valV (srcD c t r) (Sum.inr "index") = some (.int t) := by
  unfold srcD
  rw [valV_neg s_ct, valV_pos rfl]
theorem src_rest (c : Addr) (t r : Int) : valV (srcD c t r) (Sum.inr "rest") = some (.int r) := by
  unfold srcD
  rw [valV_neg s_cr, valV_neg s_tr, valV_pos rfl]
theorem sput_index (c : Addr) (t r u : Int) : putK (srcD c t r) (Sum.inr "index") (.int u) = srcD c u r := by
  unfold putK srcD
  have k1 := s_ct
  have k2 : ¬ ((Sum.inr "rest" : Key) = (Sum.inr "index" : Key)) := fun e => s_tr e.symm
  simp only [List.any_cons, List.map_cons, List.map_nil, k1, k2, if_false, if_true, decide_true, decide_false, Bool.true_or, Bool.or_true, Bool.false_or]
theorem sput_rest (c : Addr) (t r u : Int) : putK (srcD c t r) (Sum.inr "rest") (.int u) = srcD c t u := by
  unfold putK srcD
  have k1 := s_cr
  have k2 := s_tr
  simp only [List.any_cons, List.map_cons, List.map_nil, k1, k2, if_false, if_true, decide_true, decide_false, Bool.true_or, Bool.or_true, Bool.false_or]
theorem src_merge (c : Addr) (t r : Int) : mergeK [] (srcD c t r) = srcD c t r := by
  have k1 := s_ct
  have k2 := s_cr
  have k3 := s_tr
  simp only [mergeK, srcD, putK, List.foldl_cons, List.foldl_nil, List.any_nil, List.any_cons, List.nil_append, List.cons_append, k1, k2, k3, decide_false, Bool.or_false, Bool.false_eq_true, if_false]
/-- the pen at d, its cells at c, t draws done -/
def Src (H : Hp) (d c : Addr) (t : Nat) : Prop := ∃ (ns : List Int) (r : Int), H d = some (.dK (srcD c t r)) ∧ H c = some (.lst (ns.map V.int)) ∧ ns.length ≤ 63 ∧ 0 ≤ r
theorem Src.ne {H : Hp} {d c : Addr} {t : Nat} (h : Src H d c t) : d ≠ c := by
  obtain ⟨ns, r, h1, h2, _⟩ := h
  exact ne_of h1 h2 (by intro z; cases z)
theorem Src.new {H : Hp} {d c : Addr} {t : Nat} (h : Src H d c t) {p : Addr} (hp : H p = none) : p ≠ d ∧ p ≠ c := by
  obtain ⟨ns, r, h1, h2, _⟩ := h
  exact ⟨(ne_of_none h1 hp).symm, (ne_of_none h2 hp).symm⟩
theorem Src.upd {H : Hp} {d c : Addr} {t : Nat} (h : Src H d c t) {p : Addr} {o : HO} (h1 : p ≠ d) (h2 : p ≠ c) : Src (upd H p o) d c t := by
  obtain ⟨ns, r, e1, e2, e3⟩ := h
  exact ⟨ns, r, by rw [upd_ne h1.symm]; exact e1, by rw [upd_ne h2.symm]; exact e2, e3⟩
theorem Src.same {H H' : Hp} {d c : Addr} {t : Nat} (h : Src H d c t) (s : Same H H') : Src H' d c t := by
  obtain ⟨ns, r, e1, e2, e3⟩ := h
  exact ⟨ns, r, s _ _ e1, s _ _ e2, e3⟩
theorem src_set {H : Hp} {d c : Addr} {t : Nat} (h : Src H d c t) {u : Nat} {r : Int} (hr : 0 ≤ r) : Src (L2.upd H d (.dK (srcD c u r))) d c u := by
  have n := h.ne
  obtain ⟨ns, r0, e1, e2, e3, _⟩ := h
  exact ⟨ns, r, upd_same, by rw [upd_ne n.symm]; exact e2, e3, hr⟩
def spSDraw : Sp := fun vs H Q _ => ∃ (d c : Addr) (n : Int) (t : Nat), vs = [.ref d, .int n] ∧ Src H d c t ∧ 0 < n ∧ n < 1073741824 ∧ t < 1073741824 ∧
  ∀ H' k t', But d H H' → Src H' d c t' → t' ≤ t + 1 → 0 ≤ k → k < n → Q (.int k) H'
def spSPick (K : PySem.W.Frag) : Sp := fun vs H Q _ => ∃ (d c l : Addr) (xs : List V) (t : Nat), vs = [.ref d, .ref l] ∧ Src H d c t ∧ SqL K H l xs ∧ l ≠ d ∧ 0 < xs.length ∧ xs.length < 1073741824 ∧ t < 1073741824 ∧
  ∀ H' v t', But d H H' → Src H' d c t' → t' ≤ t + 1 → v ∈ xs → Q v H'
end Mo

namespace Mo
open PySem PySem.Spec PyProof.Rows L2
section
variable {K : PySem.W.Frag}
theorem intsDp {H : Hp} : ∀ ns : List Int, DpAll K H (ns.map V.int) (ns.map PyData.int)
  | [] => .nil
  | n :: ns => .cons (.int n) (intsDp ns)
theorem tupI_dat {H : Hp} {p : Addr} {ns : List Int} (h : H p = some (.tup (ns.map V.int))) : Dat K H (.ref p) (.tuple (ns.map PyData.int)) := .inl (.tup (SqT.of h) (intsDp ns))
theorem lstI_dat {H : Hp} {p : Addr} {ns : List Int} (h : H p = some (.lst (ns.map V.int))) : Dat K H (.ref p) (.list (ns.map PyData.int)) := .inl (.lst (SqL.of h) (intsDp ns))
theorem ints_fitAll {B : Nat} : ∀ {ns : List Int}, (∀ n ∈ ns, n.natAbs < 10 ^ B) → FitAll B (2 * ns.length) 0 (ns.map PyData.int)
  | [], _ => ⟨trivial, Nat.le_refl _, Nat.le_refl _⟩
  | n :: ns, h => by
    have ih := ints_fitAll (B := B) (ns := ns) fun x hx => h x (List.mem_cons_of_mem _ hx)
    refine ⟨?_, ?_, ?_⟩
    · simp only [List.map_cons, okAll]
      exact ⟨by simp only [okD]; exact h n (List.mem_cons_self ..), ih.ok⟩
    · have := ih.bulk
      simp only [List.map_cons, PyData.bulkAll, PyData.bulk, List.length_cons]
      omega
    · have := ih.deep
      simp only [List.map_cons, PyData.depthAll, PyData.depth]
      omega
theorem tupI_repr {ns : List Int} (h : ∀ n ∈ ns, n.natAbs < 10 ^ 20) (hl : ns.length ≤ 100000) : (PyData.tuple (ns.map PyData.int)).showable = true ∧ (PyData.tuple (ns.map PyData.int)).depth ≤ 40 ∧ (PyData.tuple (ns.map PyData.int)).shown.length ≤ sizeLine :=
  ((ints_fitAll h).tup).repr (by decide) (by decide) (by omega) (by decide)
theorem lstI_repr {ns : List Int} (h : ∀ n ∈ ns, n.natAbs < 10 ^ 20) (hl : ns.length ≤ 100000) : (PyData.list (ns.map PyData.int)).showable = true ∧ (PyData.list (ns.map PyData.int)).depth ≤ 40 ∧ (PyData.list (ns.map PyData.int)).shown.length ≤ sizeLine :=
  ((ints_fitAll h).lst).repr (by decide) (by decide) (by omega) (by decide)
end
end Mo

/-! ### the end of a law whose promise is an FnG -/
namespace Mo
open PySem PySem.Spec PyProof.Rows L2
theorem callG {P : Program} {w : World} {K : PySem.W.Frag} {mg mb : Str → Option Value} {CX : CXT} {k : Nat} {fa a : Addr} {fd : FuncData} {x : Str} {sp : Sp} {s₁ : Shared} {vs : List Value} {ns : List Int}
    (KX : K.In s₁.heap) (hns : s₁.heap.Ns mainGlobals mg) (hb : s₁.heap.Ns builtinsNs mb) (hbb : ∀ x : Str, x ≠ "__name__" → mb x = bootBuiltins x) (hlim : s₁.heap.NoLimit) (hg : s₁.gens = #[])
    (ha : s₁.heap.get? a = some { cls := .type "list", data := .seq vs.toArray }) (hi : IntsAre vs ns) (hl : ns.length ≤ sizeLine) (hr : Room k callerA)
    (F : ∀ base : Heap, K.In base → base.Ns mainGlobals mg → (∀ b m, s₁.heap.Ns b m → base.Ns b m) → FnG P w K mg base CX k fa fd [x] sp) (hbind : ∀ (s : Shared) (u : Value), BindsTo s fd ⟨[u], []⟩ [(x, u)])
    (hsp : ∀ H : Hp, Only H → SqL K H a (ns.map V.int) → sp [.ref a] H (fun v _ => v = .bl true) fun _ _ _ => False)
    (hCX : ∀ H e s', CX [] H s₁ (fun _ _ _ => False) e s' → False) :
    codeAny (model P w) callerA (.call (.ref fa) ⟨[.ref a], []⟩) (fun r s' => r = .ok (.ret (.bool true)) ∧ OldK s₁.heap s'.heap ∧ s'.os = s₁.os ∧ AllBare s'.gens) s₁ := by
  have rv := vals_ints hi
  have lenV := hi.length
  have core : ∀ H : Hp, Only H → SqL K H a (ns.map V.int) → HOk P w H s₁.heap → (∀ b, H b ≠ none → b = a) → (H a ≠ none → K.lookup a = none) →
      codeAny (model P w) callerA (.call (.ref fa) ⟨[.ref a], []⟩) (fun r s' => r = .ok (.ret (.bool true)) ∧ OldK s₁.heap s'.heap ∧ s'.os = s₁.os ∧ AllBare s'.gens) s₁ := by
    intro H hO hS hok hA hK
    have atA : ∀ {b : Addr} {u : HO}, H b = some u → b = a := fun {b u} q => hA b (by rw [q]; exact Option.some_ne_none _)
    have grnd : ∀ {b : Addr} {o : Obj}, s₁.heap.get? b = some o → H b = none → (hidT s₁.heap H).get? b = some o := fun e n => hidT_get e n
    have noA : ∀ {b : Addr} {o : Obj} {es : Array DictEntry} {ep : Nat}, s₁.heap.get? b = some o → o.data = .dict es ep → H b = none := fun {b o es ep} e d => by
      cases q : H b with
      | none => rfl
      | some u =>
        rw [atA q, ha] at e
        cases e
        cases (show Data.seq vs.toArray _ = Data.dict es ep from d)
    have nsK : ∀ {b : Addr} {m : Str → Option Value}, s₁.heap.Ns b m → (hidT s₁.heap H).Ns b m := fun {b m} ⟨o, es, ep, e, d, r⟩ => ⟨o, es, ep, grnd e (noA e d), d, r⟩
    have hKb : K.In (hidT s₁.heap H) := fun b o e => grnd (KX b o e) (by
      cases q : H b with
      | none => rfl
      | some u =>
        obtain rfl := atA q
        rw [hK (by rw [q]; exact Option.some_ne_none _)] at e
        cases e)
    have hM : Mod K mg (hidT s₁.heap H) := ⟨hKb, nsK hns, ⟨mb, nsK hb, hbb⟩, hlim.elim fun mc z => ⟨mc, nsK z.1, z.2⟩⟩
    have e0 : Env0 P w K mg (hidT s₁.heap H) callerA [] s₁ H := ⟨rfl, hM, fun b o e => of_hidT e, Nat.le_of_eq (hidT_size _ _), trivial, fun b hb => absurd (show b ∈ ([] : List Addr) from hb) (by simp), hok, .of_eq hg⟩
    refine codeAny_mono ((F _ hKb (nsK hns) fun b m z => nsK z).run callerA [] s₁ H ⟨[.ref a], []⟩ [.ref a] [.ref a] _ _ hr rfl e0 (hbind s₁ (.ref a)) (.cons rfl .nil) (hsp H hO hS)) fun r s' h => ?_
    cases r with
    | error e => exact (hCX H e s' h).elim
    | ok fl =>
      cases fl with
      | next => exact h.elim
      | brk => exact h.elim
      | cont => exact h.elim
      | ret u =>
        obtain ⟨v, H', os, bare, un, hok', r', q⟩ := h
        obtain rfl : v = .bl true := q
        obtain rfl : u = Value.bool true := r'
        refine ⟨rfl, OldK.of_keep fun b o e => ?_, os, bare⟩
        cases q : H b with
        | none => exact un.keep b o e q (by intro z; exact absurd (show b ∈ ([] : List Addr) from z) (by simp)) (by simp)
        | some u =>
          rcases hO b with z | ⟨ob, xs, z⟩
          · rw [q] at z
            cases z
          · have z2 := un.frzs b ob _ z
            have e1 := (hok b _ z).1
            rw [e] at e1
            cases e1
            exact (hok' b _ z2).1
  cases hk : K.lookup a with
  | some o =>
    have e := KX a o hk
    rw [ha] at e
    cases e
    exact core (fun _ => none) (fun _ => .inl rfl) (.inr ⟨_, vs.toArray, _, hk, rfl, rfl, rfl, by rw [List.size_toArray, lenV]; exact hl, by simpa using rv⟩) (fun b u z => nomatch z) (fun b z => absurd rfl z) fun z => absurd rfl z
  | none =>
    have at2 : ∀ {b : Addr} {u : HO}, (if b = a then some (HO.frz { cls := .type "list", data := .seq vs.toArray } (.lst (ns.map V.int))) else none) = some u → b = a ∧ u = .frz { cls := .type "list", data := .seq vs.toArray } (.lst (ns.map V.int)) := fun {b u} z => by
      by_cases hb : b = a
      · rw [if_pos hb] at z
        exact ⟨hb, (Option.some.inj z).symm⟩
      · rw [if_neg hb] at z
        cases z
    refine core (fun b => if b = a then some (.frz { cls := .type "list", data := .seq vs.toArray } (.lst (ns.map V.int))) else none) (fun b => ?_) (.inl (.inr ⟨{ cls := .type "list", data := .seq vs.toArray }, if_pos rfl⟩)) (fun b u z => ?_) (fun b z => ?_) fun _ => hk
    · by_cases hb : b = a
      · exact .inr ⟨_, _, if_pos hb⟩
      · exact .inl (if_neg hb)
    · obtain ⟨rfl, rfl⟩ := at2 z
      exact ⟨ha, by rw [List.length_map]; exact hl, vs, _, rv, ha⟩
    · by_cases hb : b = a
      · exact hb
      · exact absurd (if_neg hb) z
theorem walkG {l : PySem.W.OpenLaw} {n k : Nat} {q : Program} {loose : List Str} {XP : (Str → Option Value) → Heap → Prop} {YP : World → Heap → Prop} {d : DefRec} {K : Params → PySem.W.Frag} {CX : World → CXT} {sp : World → Sp} {x : Str}
    (hn : l.most = some n) (hn2 : n ≤ sizeLine) (hdf : d.params.defaults = []) (hr : Room k callerA) (hY : ∀ (w : World) (h : Heap), YP w h → (K w.params).In h)
    (F : ∀ (w : World) (mg : Str → Option Value) (fa : Addr) (h : Heap), (K w.params).In h → h.Ns mainGlobals mg → mg d.name = some (.ref fa) →
      ∃ fd : FuncData, (∀ (s : Shared) (u : Value), BindsTo s fd ⟨[u], []⟩ [(x, u)]) ∧ ∀ base : Heap, (K w.params).In base → base.Ns mainGlobals mg → FnG l.prog w (K w.params) mg base (CX w) k fa fd [x] (sp w))
    (hsp : ∀ (w : World) (H : Hp) (a : Addr) (ns : List Int), ns.length ≤ n → Only H → SqL (K w.params) H a (ns.map V.int) → sp w [.ref a] H (fun v _ => v = .bl true) fun _ _ _ => False)
    (hCX : ∀ (w : World) (H : Hp) (s : Shared) (e : Value) (s' : Shared), CX w [] H s (fun _ _ _ => False) e s' → False) :
    PySem.W.WalkO q loose XP YP l.row.toRowW d [] (fun f vs => PySem.call f vs) := by
  refine Att.attach_call hn hdf fun w s₀ s₁ mg mb fa o pm cd doc a vs ns G Y ho hd hcd hmg hobj hints hlen hg => ?_
  obtain ⟨fd, hb, hF⟩ := F w mg fa _ (hY w _ Y) G.T.g hmg
  exact callG (hY w _ Y) G.T.g G.T.b G.T.builtins G.T.nolimit hg hobj hints (Nat.le_trans hlen hn2) hr (fun base a b _ => hF base a b) hb (fun H hO hS => hsp w H a ns hlen hO hS) fun H e s' => hCX w H s₁ e s'
/-- where repr meets dicts: sys.modules is there, and is none of ours -/
theorem walkM {l : PySem.W.OpenLaw} {n k : Nat} {q : Program} {loose : List Str} {XP : (Str → Option Value) → Heap → Prop} {YP : World → Heap → Prop} {d : DefRec} {K : Params → PySem.W.Frag} {CX : World → CXT} {sp : World → Sp} {x : Str}
    (hn : l.most = some n) (hn2 : n ≤ sizeLine) (hdf : d.params.defaults = []) (hr : Room k callerA) (hY : ∀ (w : World) (h : Heap), YP w h → (K w.params).In h) (hi : importsNone q = true)
    (F : ∀ (w : World) (mg : Str → Option Value) (fa : Addr) (h : Heap), (K w.params).In h → h.Ns mainGlobals mg → mg d.name = some (.ref fa) →
      ∃ fd : FuncData, (∀ (s : Shared) (u : Value), BindsTo s fd ⟨[u], []⟩ [(x, u)]) ∧ ∀ base : Heap, (K w.params).In base → base.Ns mainGlobals mg → (∃ mm, base.Ns sysModules mm) → FnG l.prog w (K w.params) mg base (CX w) k fa fd [x] (sp w))
    (hsp : ∀ (w : World) (H : Hp) (a : Addr) (ns : List Int), ns.length ≤ n → Only H → SqL (K w.params) H a (ns.map V.int) → sp w [.ref a] H (fun v _ => v = .bl true) fun _ _ _ => False)
    (hCX : ∀ (w : World) (H : Hp) (s : Shared) (e : Value) (s' : Shared), CX w [] H s (fun _ _ _ => False) e s' → False) :
    PySem.W.WalkO q loose XP YP l.row.toRowW d [] (fun f vs => PySem.call f vs) := by
  refine Att.attach_call hn hdf fun w s₀ s₁ mg mb fa o pm cd doc a vs ns G Y ho hd hcd hmg hobj hints hlen hg => ?_
  obtain ⟨fd, hb, hF⟩ := F w mg fa _ (hY w _ Y) G.T.g hmg
  obtain ⟨mm, hm, _⟩ := (G.T.seer hi).mods
  exact callG (hY w _ Y) G.T.g G.T.b G.T.builtins G.T.nolimit hg hobj hints (Nat.le_trans hlen hn2) hr (fun base a b c => hF base a b ⟨mm, c _ _ hm⟩) hb (fun H hO hS => hsp w H a ns hlen hO hS) fun H e s' => hCX w H s₁ e s'
end Mo

namespace Mo
open PySem PySem.Spec PyProof.Rows L2
section
variable {X : Cx}
/-- x //= y of ints, a divisor that is small -/
theorem ip_fdiv : PIp X .FloorDiv (fun x y H Q => ∃ i j, x = .int i ∧ y = .int j ∧ (j ≠ 0 ∧ j.natAbs < 1073741824) ∧ Q (.int (i.fdiv j)) H) := by
  intro pins s σ H x y v u Q I r1 r2 h
  obtain ⟨i, j, e1, e2, hc, q⟩ := h
  subst e1; subst e2
  obtain ⟨t, rfl⟩ := r1
  obtain ⟨t', rfl⟩ := r2
  exact ifloordiv_int hc.1 ⟨.int _, H, I.tok _, ⟨_, rfl⟩, q⟩ (.inl (PyProof.noPylong_small hc.2))
/-- x += y of texts -/
theorem ip_addS : PIp X .Add (fun x y H Q => ∃ i j, x = .str i ∧ y = .str j ∧ i.length + j.length ≤ sizeLine ∧ Q (.str (i ++ j)) H) :=
  fun pins s σ H x y u v Q I rx ry h => iop_add_str pins s σ H x y u v Q I rx ry h
end
end Mo

namespace Mo
open PySem PySem.Spec PyProof.Rows L2
section
variable {X : Cx}
theorem intsAre_of : ∀ {ns : List Int} {vs : List Value}, Vals (ns.map V.int) vs → IntsAre vs ns
  | [], _, .nil => .nil
  | n :: ns, _, .cons ⟨t, e⟩ h => by
    subst e
    exact .cons n t (intsAre_of h)
/-- t.index(k), a tuple of ints that has it -/
theorem mt_tindexI {K : PySem.W.Frag} (hK : X.K = K) : MtR X "tuple.index" (fun x xs H Q => ∃ p, ∃ ns : List Int, ∃ k : Int, x = .ref p ∧ xs = [.int k] ∧ SqT K H p (ns.map V.int) ∧ k ∈ ns ∧ Q (.int (ns.idxOf k : Nat)) H) := by
  subst hK
  intro pins s σ H x xs v us Q I rx rs h
  obtain ⟨p, ns, k, rfl, rfl, hq, hk, q⟩ := h
  cases rx
  obtain ⟨u, rfl, t, rfl⟩ := vals1 rs
  obtain ⟨its, r, pl, hz⟩ := I.tuple hq
  have k1 : s.heap.IsTuple p its.toArray := pl
  exact PySem.SeqAt.tuple_index_ints k1 (intsAre_of r) hk ⟨.int _, H, I.tok _, ⟨_, rfl⟩, q⟩
/-- a tuple whose object has no dict -/
def Tpl (H : Hp) (p : Addr) (xs : List V) : Prop := ∃ o : Obj, o.dict = none ∧ H p = some (.frz o (.tup xs))
theorem Tpl.sq {K : PySem.W.Frag} {H : Hp} {p : Addr} {xs : List V} (h : Tpl H p xs) : SqT K H p xs := by
  obtain ⟨o, _, e⟩ := h
  exact .inl (.inr ⟨o, e⟩)
theorem Tpl.same {H H' : Hp} {p : Addr} {xs : List V} (h : Tpl H p xs) (s : Same H H') : Tpl H' p xs := by
  obtain ⟨o, d, e⟩ := h
  exact ⟨o, d, s _ _ e⟩
theorem Tpl.ne {H : Hp} {p q : Addr} {xs : List V} {o : HO} (h : Tpl H p xs) (hq : H q = some o) (n : ∀ a b, o ≠ .frz a b) : p ≠ q := by
  obtain ⟨o', d, e⟩ := h
  exact ne_of e hq (fun z => n _ _ z.symm)
/-- tuple(list), the object kept -/
theorem cr_tupF : CallR X (.type "tuple") (fun xs H Q => ∃ p ys, xs = [.ref p] ∧ SqL X.K H p ys ∧ ∀ l H', H l = none → Same H H' → Tpl H' l ys → Q (.ref l) H') := by
  intro pins s σ H xs us Q I r h
  obtain ⟨p, ys, rfl, hq, q⟩ := h
  obtain ⟨u, rfl, rx⟩ := vals1 r
  cases rx
  obtain ⟨its, r', pl, hz⟩ := I.list hq
  have hlen := r'.length
  refine call_tuple_list pl.isList (fun h' kp => ?_) (by simp only [List.size_toArray] <;> omega)
  have I1 : Inv X pins σ H { s with heap := h' } := I.kept (t' := s.toks) kp
  have I2 : Inv X pins σ (upd H h'.objs.size (.frz { cls := .type "tuple", data := .seq its.toArray } (.tup ys))) { s with heap := h'.push { cls := .type "tuple", data := .seq its.toArray } } :=
    I1.laid (t' := s.toks) (fun b o e => Heap.get?_push_of_some _ e) (Nat.le_refl _) (show ObjOk X.prog X.w _ _ _ (.frz _ (.tup ys)) from ⟨Heap.get?_push_size _ rfl, hz, its, r', IsTup.new _ _⟩)
  have nw := I1.hok.fresh (Nat.le_refl _)
  exact ⟨.ref h'.objs.size, _, I2, rfl, q _ _ nw (same_new nw) ⟨_, rfl, upd_same⟩⟩
/-- a tuple's method -/
def tTM (r : V → List V → Hp → VK → Prop) (to : TE) (t : TA) : TE := fun σ H Q => to σ H fun x H1 => (∃ p ys, x = .ref p ∧ Tpl H1 p ys) ∧ t σ H1 fun xs H2 => r x xs H2 Q
theorem pe_tm {id : String} {name : Str} {r : V → List V → Hp → VK → Prop} {o e : Expr} {es : List Expr} {to : TE} {t : TA} {apos cpos : Pos} (slot : Slot "tuple" name id) (hty : typeOf (.builtin id) = pure (.type "method_descriptor")) (hm : MtR X id r) (ho : PE X o to) (ha : PA X (e :: es) t)
    (hbase : attributeBase o name X.env (eval o X.env) = eval o X.env := by rfl)
    (hfew : ((backTo cpos (starEach (e :: es) X.env)).all (fun x => !x.1) && (backToKw cpos (keywordEach [] X.env)).all (fun x => x.1.isSome)
      && decide ((e :: es).length + ([] : List Keyword).length + (if ([] : List Keyword).isEmpty then 0 else 1) < 30)) = true := by rfl)
    (hline : (apos.endLine == cpos.line) = true := by rfl) (hs : starEach (e :: es) X.env = (false, eval e X.env) :: starEach es X.env := by rfl) (hplain : (backTo cpos (starEach es X.env)).any (·.1) = false := by rfl) :
    PE X (.Call (.Attribute o name apos) (e :: es) [] cpos) (tTM r to t) := by
  refine ⟨fun pins s σ H Q I h => ?_⟩
  refine wpAny_Call_method_late hbase hfew hline rfl (thn (ho.run pins s σ H _ I h) fun v s1 ⟨x, H1, I1, r1, ty, q1⟩ => ?_)
  obtain ⟨p, ys, rfl, ob, hob, hp⟩ := ty
  cases r1
  obtain ⟨hg, hz, its, _, o', ho', hc', _⟩ := I1.hok p _ hp
  have eo : ob = o' := Option.some.inj (hg.symm.trans ho')
  subst eo
  refine ⟨"tuple", id, PySem.F.plainAttrs_tuple, slot, hty, ⟨ob, hg, hc'⟩, fun a e => by cases e; exact ⟨ob, hg, hob⟩, ?_⟩
  have hA := ha.run cpos pins s1 σ H1 _ I1 q1
  rw [hs] at hA ⊢
  refine Calls.callWith_builtin (by show (false || (backTo cpos (starEach es X.env)).any (·.1)) = false; rw [hplain] <;> rfl) (Calls.evalArgs_plain ?_)
  exact thn hA fun us s2 ⟨vs, H2, I2, r2, q2⟩ => hm pins s2 σ H2 (.ref p) vs (.ref p) us Q I2 rfl r2 q2
theorem ix_tupK {K : PySem.W.Frag} (h : X.K = K) : IxR X (rIxT K) := by
  subst h
  exact ix_tup
end
end Mo

namespace Mo
open PySem PySem.Spec PyProof.Rows L2
section
variable {X : Cx}
theorem sl_tupAK {K : PySem.W.Frag} (h : X.K = K) : SlR X (rSlA K) := by
  subst h
  exact sl_tupA
theorem op_eqFlK {K : PySem.W.Frag} (h : X.K = K) (hu : X.A.units + 64 < cLine) : OpR X (compareOp .Eq) (rEqFl K) := by
  subst h
  exact op_eqFl hu
theorem op_neFlK {K : PySem.W.Frag} (h : X.K = K) (hu : X.A.units + 64 < cLine) : OpR X (compareOp .NotEq) (rNeFl K) := by
  subst h
  exact op_neFl hu
end
theorem Same.sqT {K : PySem.W.Frag} {H H' : Hp} {p : Addr} {xs : List V} (s : Same H H') (h : SqT K H p xs) : SqT K H' p xs := by
  rcases h with (e | ⟨o, e⟩) | e
  · exact .inl (.inl (s _ _ e))
  · exact .inl (.inr ⟨o, s _ _ e⟩)
  · exact .inr e
theorem But.sqT {K : PySem.W.Frag} {d : Addr} {H H' : Hp} {p : Addr} {xs : List V} (s : But d H H') (n : p ≠ d) (h : SqT K H p xs) : SqT K H' p xs := by
  rcases h with (e | ⟨o, e⟩) | e
  · exact .inl (.inl (s _ _ n e))
  · exact .inl (.inr ⟨o, s _ _ n e⟩)
  · exact .inr e
end Mo

namespace Mo
open PySem PySem.Spec PyProof.Rows L2
theorem call_isiK {X : Cx} {K : PySem.W.Frag} (h : X.K = K) : CallR X (.builtin "isinstance") (rIsi K) := by
  subst h
  exact call_isi
end Mo

namespace Mo
open PySem PySem.Spec PyProof.Rows L2
theorem tuple_mul1 (l : Addr) (items : Array Value) (n : Nat) (dd : Option Addr) (sl : Array (Option Value)) (u : Tok) :
    Meets (Builtin.«tuple.__mul__» ⟨[.ref l, .int 1 u], []⟩) (fun _ R s => s.heap.get? l = some { cls := .type "tuple", dict := dd, data := .seq items n, slots := sl } ∧ R (.ok (.ret (Value.ref l))) s) :=
  .of_wp fun prog w A R s h => by
    obtain ⟨hp, g, d, tk, os⟩ := s
    obtain ⟨hl, h⟩ := h
    have f1 := AutoSeq1.idx_int
    wp_walk using wpAny_loadPart' hl
    exact ⟨_, rfl, h⟩
theorem tuple_mul0 (l : Addr) (items : Array Value) (n : Nat) (dd : Option Addr) (sl : Array (Option Value)) (u : Tok) (hi : items.isEmpty = false) :
    Meets (Builtin.«tuple.__mul__» ⟨[.ref l, .int 0 u], []⟩) (fun _ R s => s.heap.get? l = some { cls := .type "tuple", dict := dd, data := .seq items n, slots := sl } ∧ 
      R (.ok (.ret (Value.ref s.heap.objs.size))) { s with heap := s.heap.push { cls := Value.type "tuple", data := Data.seq #[] }, toks := s.toks }) :=
  .of_wp fun prog w A R s h => by
    obtain ⟨hp, g, d, tk, os⟩ := s
    obtain ⟨hl, h⟩ := h
    have f1 := AutoSeq1.idx_int
    wp_walk using wpAny_loadPart' hl
    exact ⟨_, rfl, h⟩
section
variable {X : Cx}
/-- t * n for any n from 0 on: what comes is new or t itself -/
def rRepA (K : PySem.W.Frag) : R2 := fun x y H Q => ∃ (l : Addr) (n : Nat) (xs : List V), x = .ref l ∧ y = .int n ∧ H l = some (.tup xs) ∧ xs ≠ [] ∧ n ≤ 100000 ∧ xs.length * n ≤ 1000000 ∧ ∀ p H', Same H H' → H' p = some (.tup (List.replicate n xs).flatten) → Q (.ref p) H'
theorem op_repA : OpR X (binaryOp .Mult) (rRepA X.K) := by
  intro pins s σ H x y v u Q I rx ry h
  obtain ⟨l, n, xs, rfl, rfl, hT, hne, h2, hz, q⟩ := h
  by_cases h1 : 2 ≤ n
  · exact op_repG pins s σ H _ _ v u Q I rx ry ⟨l, n, xs, rfl, rfl, SqT.of hT, hne, h1, h2, hz, fun p np => q p _ (same_new np) upd_same⟩
  cases rx
  obtain ⟨t, rfl⟩ := ry
  obtain ⟨its, r, ⟨ob, ho, hc, m, hd⟩, hs⟩ := I.tuple (SqT.of (K := X.K) hT)
  obtain ⟨cls, dd, data, sl⟩ := ob
  obtain rfl : cls = .type "tuple" := hc
  obtain rfl : data = .seq its.toArray m := hd
  have hle := r.length
  have hi : its.toArray.isEmpty = false := by
    cases r with
    | nil => exact absurd rfl hne
    | cons _ _ => rfl
  refine wpAny_binaryOp_repeat_ref (T := "tuple") (U := "int") (by decide) ⟨_, ho, rfl⟩ (fun s' => typeIs_int s' n t) noFill_tuple_mul F.fills_int_mul F.slot_int_rmul repeat_tuple F.slot_int_index.lookup ?_
  refine call_meets F.slot_int_rmul (typeIs_int s n t) F.entry_int_rmul (F.args_int_rmul_2 _ _) (int_rmul_tuple n t l its.toArray m dd sl) ⟨ho, rfl, ⟨_, ho, rfl⟩, ?_⟩
  rcases (show n = 0 ∨ n = 1 by omega) with e | e
  · subst e
    refine call_meets F.slot_tuple_mul ⟨_, ho, rfl⟩ F.entry_tuple_mul (F.args_tuple_mul_2 _ _) (tuple_mul0 l its.toArray m dd sl t hi) ⟨ho, ?_⟩
    exact ⟨.ref s.heap.objs.size, _, I.laid (t' := s.toks) (o := .tup []) (fun b ob q => Heap.get?_push_of_some _ q) (Nat.le_refl _) ⟨Nat.zero_le _, [], .nil, IsTup.new _ _⟩, rfl, q _ _ (same_new (I.hok.fresh (Nat.le_refl _))) upd_same⟩
  · subst e
    refine call_meets F.slot_tuple_mul ⟨_, ho, rfl⟩ F.entry_tuple_mul (F.args_tuple_mul_2 _ _) (tuple_mul1 l its.toArray m dd sl t) ⟨ho, ?_⟩
    exact ⟨.ref l, H, I, rfl, q l H (Same.refl H) (by rw [hT]; simp)⟩
end
end Mo

/-! ### xs[::e], e a step of 1 or -1 -/
namespace Mo
open PySem PySem.Spec PyProof.Rows L2
section
variable {X : Cx}
theorem pick_one (its : List Value) : slicePick its.toArray none none (some 1) = its.toArray := by
  have h : slicePick its.toArray none none (some 1) = slicePick its.toArray none none none := rfl
  rw [h, slicePick_cut, HT.sIx_none, HT.sIx_none, List.drop_zero, Nat.sub_zero, List.take_length]
def tStepL (K : PySem.W.Frag) (te ts : TE) : TE := fun σ H Q => te σ H fun x H1 => tPart ts σ H1 fun o H2 => ∃ a xs, x = .ref a ∧ SqL K H2 a xs ∧ (o = some 1 ∨ o = some (-1)) ∧ ∀ p, H2 p = none → Q (.ref p) (upd H2 p (.lst (if o = some 1 then xs else xs.reverse)))
theorem pe_stepL {e e2 : Expr} {te ts : TE} {p3 pos : Pos} (he : PE X e te) (hs : PE X e2 ts) : PE X (.Subscript e (.Slice none none (some e2) p3) pos) (tStepL X.K te ts) := by
  refine ⟨fun pins s σ H Q I h => Subscript_ (thn (he.run pins s σ H _ I h) fun v s1 ⟨x, H1, I1, r1, q1⟩ => ?_)⟩
  refine wpAny_Slice (thn (po_none.run pins s1 σ H1 (fun o H2 => o = none ∧ H2 = H1) I1 ⟨rfl, rfl⟩) fun vl s2 ⟨l, H2, I2, pl, el, e2'⟩ => ?_)
  subst el e2'
  refine thn (po_none.run pins s2 σ H2 (fun o H3 => o = none ∧ H3 = H2) I2 ⟨rfl, rfl⟩) fun vu s3 ⟨u, H3, I3, pu, eu, e3⟩ => ?_
  subst eu e3
  refine thn ((po_some hs).run pins s3 σ H3 _ I3 q1) fun vs s4 ⟨o, H4, I4, ps, a, xs, ex, hx, ho, q⟩ => ?_
  subst ex
  cases r1
  have I5 : Inv X pins σ H4 { s4 with heap := s4.heap.push { cls := .type "slice", data := .fields #[vl, vu, vs] } } := I4.kept (t' := s4.toks) fun b ob q => Heap.get?_push_of_some _ q
  obtain ⟨its, r, ht, hz⟩ := I5.list hx
  have hlen := r.length
  show wpAny (model X.prog X.w) X.A (subscriptTail e (.Slice none none (some e2) p3) (.ref a) (.ref s4.heap.objs.size)) (EP X pins σ Q) X.xe { s4 with heap := s4.heap.push { cls := .type "slice", data := .fields #[vl, vu, vs] } }
  refine tail_any (ops := [.ref a, .ref s4.heap.objs.size]) ht.isList.typeIs (PySem.slot_list_getitem.lookup) ?_ (by with_unfolding_all rfl)
  have hfr := I5.hok.fresh (Nat.le_refl _)
  rcases ho with rfl | rfl
  · refine wpAny_getItem_list_slice ht.isList (Heap.IsSliceOf.new _ vl vu vs) pl pu ps (by decide) ?_ (by rw [List.size_toArray]; omega)
    rw [pick_one]
    exact ⟨.ref _, _, I5.laid (t' := s4.toks) (o := .lst xs) (fun b ob q => Heap.get?_push_of_some _ q) (Nat.le_refl _) ⟨hz, _, 0, r, Heap.get?_push_size _ rfl⟩, rfl, q _ hfr⟩
  · refine wpAny_getItem_list_slice ht.isList (Heap.IsSliceOf.new _ vl vu vs) pl pu ps (by decide) ?_ (by rw [List.size_toArray]; omega)
    rw [PySem.W.krv_pick]
    exact ⟨.ref _, _, I5.laid (t' := s4.toks) (o := .lst xs.reverse) (fun b ob q => Heap.get?_push_of_some _ q) (Nat.le_refl _) ⟨by rw [List.length_reverse]; exact hz, _, 0, r.reverse, Heap.get?_push_size _ rfl⟩, rfl, q _ hfr⟩
end
end Mo

namespace Mo
open PySem PySem.Spec PyProof.Rows L2
def topS (i : Nat) : Stmt := PySem.Challenge.pw_mustoccur_k40_whole_long_texts_have_bloc.main.body.getD i (.Pass ⟨0, 0, 0, 0⟩)
abbrev sIsPlainInteger : Stmt := topS 7
theorem scIsPlainInteger : FnScope ["value"] ["value"] (defScope sIsPlainInteger) := ⟨rfl, rfl, rfl, by decide +kernel, rfl, by decide +kernel, by decide +kernel⟩
abbrev sIsLetter : Stmt := topS 8
theorem scIsLetter : FnScope ["value"] ["value"] (defScope sIsLetter) := ⟨rfl, rfl, rfl, by decide +kernel, rfl, by decide +kernel, by decide +kernel⟩
abbrev sIsText : Stmt := topS 9
theorem scIsText : FnScope ["value", "letter"] ["value"] (defScope sIsText) := ⟨rfl, rfl, rfl, by decide +kernel, rfl, by decide +kernel, by decide +kernel⟩
abbrev sCheckText : Stmt := topS 10
theorem scCheckText : FnScope ["value"] ["value"] (defScope sCheckText) := ⟨rfl, rfl, rfl, by decide +kernel, rfl, by decide +kernel, by decide +kernel⟩
abbrev sCheckCount : Stmt := topS 11
theorem scCheckCount : FnScope ["value", "least", "most"] ["value", "least", "most"] (defScope sCheckCount) := ⟨rfl, rfl, rfl, by decide +kernel, rfl, by decide +kernel, by decide +kernel⟩
abbrev sCheckSize : Stmt := topS 15
theorem scCheckSize : FnScope ["text"] ["text"] (defScope sCheckSize) := ⟨rfl, rfl, rfl, by decide +kernel, rfl, by decide +kernel, by decide +kernel⟩
abbrev sLongestBorders : Stmt := topS 16
theorem scLongestBorders : FnScope ["text", "found", "border", "size"] ["text"] (defScope sLongestBorders) := ⟨rfl, rfl, rfl, by decide +kernel, rfl, by decide +kernel, by decide +kernel⟩
abbrev sExtended : Stmt := topS 17
theorem scExtended : FnScope ["text", "longest", "border", "size", "letter"] ["text", "longest", "border", "size"] (defScope sExtended) := ⟨rfl, rfl, rfl, by decide +kernel, rfl, by decide +kernel, by decide +kernel⟩
abbrev sHalfBorders : Stmt := topS 18
theorem scHalfBorders : FnScope ["text", "longest", "found", "border", "size"] ["text"] (defScope sHalfBorders) := ⟨rfl, rfl, rfl, by decide +kernel, rfl, by decide +kernel, by decide +kernel⟩
abbrev sPrefixRanks : Stmt := topS 19
theorem scPrefixRanks : FnScope ["text", "ranks", "border"] ["text"] (defScope sPrefixRanks) := ⟨rfl, rfl, rfl, by decide +kernel, rfl, by decide +kernel, by decide +kernel⟩
abbrev sSplitBlock : Stmt := topS 20
theorem scSplitBlock : FnScope ["text", "count", "halves", "size", "middles", "border"] ["text", "count"] (defScope sSplitBlock) := ⟨rfl, rfl, rfl, by decide +kernel, rfl, by decide +kernel, by decide +kernel⟩
abbrev sBestBlock : Stmt := topS 21
theorem scBestBlock : FnScope ["text", "best", "start", "size", "height"] ["text"] (defScope sBestBlock) := ⟨rfl, rfl, rfl, by decide +kernel, rfl, by decide +kernel, by decide +kernel⟩
abbrev sFindUniversal : Stmt := topS 22
theorem scFindUniversal : FnScope ["text", "count", "start", "size", "height", "end"] ["text", "count"] (defScope sFindUniversal) := ⟨rfl, rfl, rfl, by decide +kernel, rfl, by decide +kernel, by decide +kernel⟩
abbrev sPower : Stmt := topS 23
theorem scPower : FnScope ["base", "exponent", "result", "step"] ["base", "exponent"] (defScope sPower) := ⟨rfl, rfl, rfl, by decide +kernel, rfl, by decide +kernel, by decide +kernel⟩
abbrev sLengthBound : Stmt := topS 24
theorem scLengthBound : FnScope ["count", "letters", "bound", "step"] ["count", "letters"] (defScope sLengthBound) := ⟨rfl, rfl, rfl, by decide +kernel, rfl, by decide +kernel, by decide +kernel⟩
abbrev sLSource : Stmt := topS 26
theorem scLSource : FnScope ["_law_script"] ["_law_script"] (defScope sLSource) := ⟨rfl, rfl, rfl, by decide +kernel, rfl, by decide +kernel, by decide +kernel⟩
abbrev sLDraw : Stmt := topS 27
theorem scLDraw : FnScope ["_law_source_here", "_law_size", "_law_digit", "_law_index", "_law_cell", "_law_mixed"] ["_law_source_here", "_law_size"] (defScope sLDraw) := ⟨rfl, rfl, rfl, by decide +kernel, rfl, by decide +kernel, by decide +kernel⟩
abbrev sLPick : Stmt := topS 28
theorem scLPick : FnScope ["_law_source_here", "_law_items"] ["_law_source_here", "_law_items"] (defScope sLPick) := ⟨rfl, rfl, rfl, by decide +kernel, rfl, by decide +kernel, by decide +kernel⟩
abbrev sLUniversal : Stmt := topS 29
theorem scLUniversal : FnScope ["_law_count", "_law_text", "_law_letter"] ["_law_count"] (defScope sLUniversal) := ⟨rfl, rfl, rfl, by decide +kernel, rfl, by decide +kernel, by decide +kernel⟩
abbrev sLAlphabet : Stmt := topS 30
theorem scLAlphabet : FnScope ["_law_source_here", "_law_count", "_law_first", "_law_step", "_law_index"] ["_law_source_here", "_law_count"] (defScope sLAlphabet) := ⟨rfl, rfl, rfl, by decide +kernel, rfl, by decide +kernel, by decide +kernel⟩
abbrev sLFilled : Stmt := topS 31
theorem scLFilled : FnScope ["_law_letters", "_law_values", "_law_found", "_law_letter"] ["_law_letters", "_law_values"] (defScope sLFilled) := ⟨rfl, rfl, rfl, by decide +kernel, rfl, by decide +kernel, by decide +kernel⟩
abbrev sLAreValues : Stmt := topS 32
theorem scLAreValues : FnScope ["_law_texts", "_law_count", "_law_block", "_law_text"] ["_law_texts", "_law_count", "_law_block"] (defScope sLAreValues) := ⟨rfl, rfl, rfl, by decide +kernel, rfl, by decide +kernel, by decide +kernel⟩
abbrev sLLong : Stmt := topS 33
theorem scLLong : FnScope ["_law_source_here", "_law_letters", "_law_size", "_law_road", "_law_turn", "_law_word", "_law_found", "_law_letter", "_law_images", "_law_text", "_law_index"] ["_law_source_here", "_law_letters", "_law_size"] (defScope sLLong) := ⟨rfl, rfl, rfl, by decide +kernel, rfl, by decide +kernel, by decide +kernel⟩
abbrev sLUneven : Stmt := topS 34
theorem scLUneven : FnScope ["_law_text", "_law_letters", "_law_found", "_law_index"] ["_law_text", "_law_letters"] (defScope sLUneven) := ⟨rfl, rfl, rfl, by decide +kernel, rfl, by decide +kernel, by decide +kernel⟩
abbrev sLaw : Stmt := topS 35
theorem scLaw : FnScope ["_law_script", "_law_source_here", "_law_turn", "_law_few", "_law_count", "_law_letters", "_law_text", "_law_found", "_law_start", "_law_end", "_law_values"] ["_law_script"] (defScope sLaw) := ⟨rfl, rfl, rfl, by decide +kernel, rfl, by decide +kernel, by decide +kernel⟩
structure Txt (K : PySem.W.Frag) (mg : Str → Option Value) where
  aIsPlainInteger : Addr
  dIsPlainInteger : FuncData
  fIsPlainInteger : Fun K "is_plain_integer" "is_plain_integer" sIsPlainInteger aIsPlainInteger dIsPlainInteger
  bIsPlainInteger : Binds K dIsPlainInteger ["value"] []
  gIsPlainInteger : mg "is_plain_integer" = some (.ref aIsPlainInteger)
  aIsLetter : Addr
  dIsLetter : FuncData
  fIsLetter : Fun K "is_letter" "is_letter" sIsLetter aIsLetter dIsLetter
  bIsLetter : Binds K dIsLetter ["value"] []
  gIsLetter : mg "is_letter" = some (.ref aIsLetter)
  aIsText : Addr
  dIsText : FuncData
  fIsText : Fun K "is_text" "is_text" sIsText aIsText dIsText
  bIsText : Binds K dIsText ["value"] []
  gIsText : mg "is_text" = some (.ref aIsText)
  aCheckText : Addr
  dCheckText : FuncData
  fCheckText : Fun K "check_text" "check_text" sCheckText aCheckText dCheckText
  bCheckText : Binds K dCheckText ["value"] []
  gCheckText : mg "check_text" = some (.ref aCheckText)
  aCheckCount : Addr
  dCheckCount : FuncData
  fCheckCount : Fun K "check_count" "check_count" sCheckCount aCheckCount dCheckCount
  bCheckCount : Binds K dCheckCount ["value", "least", "most"] []
  gCheckCount : mg "check_count" = some (.ref aCheckCount)
  aCheckSize : Addr
  dCheckSize : FuncData
  fCheckSize : Fun K "check_size" "check_size" sCheckSize aCheckSize dCheckSize
  bCheckSize : Binds K dCheckSize ["text"] []
  gCheckSize : mg "check_size" = some (.ref aCheckSize)
  aLongestBorders : Addr
  dLongestBorders : FuncData
  fLongestBorders : Fun K "longest_borders" "longest_borders" sLongestBorders aLongestBorders dLongestBorders
  bLongestBorders : Binds K dLongestBorders ["text"] []
  gLongestBorders : mg "longest_borders" = some (.ref aLongestBorders)
  aExtended : Addr
  dExtended : FuncData
  fExtended : Fun K "extended" "extended" sExtended aExtended dExtended
  bExtended : Binds K dExtended ["text", "longest", "border", "size"] []
  gExtended : mg "extended" = some (.ref aExtended)
  aHalfBorders : Addr
  dHalfBorders : FuncData
  fHalfBorders : Fun K "half_borders" "half_borders" sHalfBorders aHalfBorders dHalfBorders
  bHalfBorders : Binds K dHalfBorders ["text"] []
  gHalfBorders : mg "half_borders" = some (.ref aHalfBorders)
  aPrefixRanks : Addr
  dPrefixRanks : FuncData
  fPrefixRanks : Fun K "prefix_ranks" "prefix_ranks" sPrefixRanks aPrefixRanks dPrefixRanks
  bPrefixRanks : Binds K dPrefixRanks ["text"] []
  gPrefixRanks : mg "prefix_ranks" = some (.ref aPrefixRanks)
  aSplitBlock : Addr
  dSplitBlock : FuncData
  fSplitBlock : Fun K "split_block" "split_block" sSplitBlock aSplitBlock dSplitBlock
  bSplitBlock : Binds K dSplitBlock ["text", "count"] []
  gSplitBlock : mg "split_block" = some (.ref aSplitBlock)
  aBestBlock : Addr
  dBestBlock : FuncData
  fBestBlock : Fun K "best_block" "best_block" sBestBlock aBestBlock dBestBlock
  bBestBlock : Binds K dBestBlock ["text"] []
  gBestBlock : mg "best_block" = some (.ref aBestBlock)
  aFindUniversal : Addr
  dFindUniversal : FuncData
  fFindUniversal : Fun K "find_universal" "find_universal" sFindUniversal aFindUniversal dFindUniversal
  bFindUniversal : Binds K dFindUniversal ["text", "count"] []
  gFindUniversal : mg "find_universal" = some (.ref aFindUniversal)
  aPower : Addr
  dPower : FuncData
  fPower : Fun K "power" "power" sPower aPower dPower
  bPower : Binds K dPower ["base", "exponent"] []
  gPower : mg "power" = some (.ref aPower)
  aLengthBound : Addr
  dLengthBound : FuncData
  fLengthBound : Fun K "length_bound" "length_bound" sLengthBound aLengthBound dLengthBound
  bLengthBound : Binds K dLengthBound ["count", "letters"] []
  gLengthBound : mg "length_bound" = some (.ref aLengthBound)
  aLSource : Addr
  dLSource : FuncData
  fLSource : Fun K "_law_source" "_law_source" sLSource aLSource dLSource
  bLSource : Binds K dLSource ["_law_script"] []
  gLSource : mg "_law_source" = some (.ref aLSource)
  aLDraw : Addr
  dLDraw : FuncData
  fLDraw : Fun K "_law_draw" "_law_draw" sLDraw aLDraw dLDraw
  bLDraw : Binds K dLDraw ["_law_source_here", "_law_size"] []
  gLDraw : mg "_law_draw" = some (.ref aLDraw)
  aLPick : Addr
  dLPick : FuncData
  fLPick : Fun K "_law_pick" "_law_pick" sLPick aLPick dLPick
  bLPick : Binds K dLPick ["_law_source_here", "_law_items"] []
  gLPick : mg "_law_pick" = some (.ref aLPick)
  aLUniversal : Addr
  dLUniversal : FuncData
  fLUniversal : Fun K "_law_universal" "_law_universal" sLUniversal aLUniversal dLUniversal
  bLUniversal : Binds K dLUniversal ["_law_count"] []
  gLUniversal : mg "_law_universal" = some (.ref aLUniversal)
  aLAlphabet : Addr
  dLAlphabet : FuncData
  fLAlphabet : Fun K "_law_alphabet" "_law_alphabet" sLAlphabet aLAlphabet dLAlphabet
  bLAlphabet : Binds K dLAlphabet ["_law_source_here", "_law_count"] []
  gLAlphabet : mg "_law_alphabet" = some (.ref aLAlphabet)
  aLFilled : Addr
  dLFilled : FuncData
  fLFilled : Fun K "_law_filled" "_law_filled" sLFilled aLFilled dLFilled
  bLFilled : Binds K dLFilled ["_law_letters", "_law_values"] []
  gLFilled : mg "_law_filled" = some (.ref aLFilled)
  aLAreValues : Addr
  dLAreValues : FuncData
  fLAreValues : Fun K "_law_are_values" "_law_are_values" sLAreValues aLAreValues dLAreValues
  bLAreValues : Binds K dLAreValues ["_law_texts", "_law_count", "_law_block"] []
  gLAreValues : mg "_law_are_values" = some (.ref aLAreValues)
  aLLong : Addr
  dLLong : FuncData
  fLLong : Fun K "_law_long" "_law_long" sLLong aLLong dLLong
  bLLong : Binds K dLLong ["_law_source_here", "_law_letters", "_law_size"] []
  gLLong : mg "_law_long" = some (.ref aLLong)
  aLUneven : Addr
  dLUneven : FuncData
  fLUneven : Fun K "_law_uneven" "_law_uneven" sLUneven aLUneven dLUneven
  bLUneven : Binds K dLUneven ["_law_text", "_law_letters"] []
  gLUneven : mg "_law_uneven" = some (.ref aLUneven)
  aLaw : Addr
  dLaw : FuncData
  fLaw : Fun K "law" "law" sLaw aLaw dLaw
  bLaw : Binds K dLaw ["_law_script"] []
  gLaw : mg "law" = some (.ref aLaw)
  t_LONGEST_TEXT : Tok
  m_LONGEST_TEXT : mg "LONGEST_TEXT" = some (.int 4096 t_LONGEST_TEXT)
  t_GREATEST_LETTER : Tok
  m_GREATEST_LETTER : mg "GREATEST_LETTER" = some (.int 999999 t_GREATEST_LETTER)
  t_GREATEST_COUNT : Tok
  m_GREATEST_COUNT : mg "GREATEST_COUNT" = some (.int 12 t_GREATEST_COUNT)
  t_LONGEST_RANKED : Tok
  m_LONGEST_RANKED : mg "LONGEST_RANKED" = some (.int 400 t_LONGEST_RANKED)
  m_isinstance : mg "isinstance" = none
  m_bool : mg "bool" = none
  m_int : mg "int" = none
  m_all : mg "all" = none
  m_len : mg "len" = none
  m_tuple : mg "tuple" = none
  m_range : mg "range" = none
  m_enumerate : mg "enumerate" = none
  m_list : mg "list" = none
  m_abs : mg "abs" = none
  m_min : mg "min" = none
end Mo

namespace Mo
open PySem PySem.Spec PyProof.Rows L2
/-- letters -/
def Ltrs (t : List Int) : Prop := ∀ x ∈ t, 0 ≤ x ∧ x ≤ 999999
section
variable {P : Program} {w : World} {K : PySem.W.Frag} {mg : Str → Option Value} {base : Heap}
def spPlain : Sp := fun vs H Q _ => ∃ i : Int, vs = [.int i] ∧ ∀ H', Same H H' → Q (.bl true) H'
theorem ok_plain {k : Nat} (T : Txt K mg) : FnOk P w K mg base CX0 (k + 1) T.aIsPlainInteger T.dIsPlainInteger ["value"] spPlain := by
  refine T.fIsPlainInteger.ok scIsPlainInteger (fun vs H Q E h => ?_) (fun cdv A outer s H vs Q E hr h => ?_)
  · obtain ⟨i, rfl, _⟩ := h
    rfl
  · obtain ⟨i, rfl, q⟩ := h
    refine ⟨_, (pss_one (ps_ret (pe_and (pe_callB call_isi (by rfl) T.m_isinstance (by decide +kernel) (pa_cons (pv 0) (pa_cons (pe_bltn (v := .ty "int") (by rfl) T.m_int (by decide +kernel) rfl) pa_nil))) (pe_one (pe_not (pe_callB call_isi (by rfl) T.m_isinstance (by decide +kernel) (pa_cons (pv 0) (pa_cons (pe_bltn (v := .ty "bool") (by rfl) T.m_bool (by decide +kernel) rfl) pa_nil)))))))), ?_⟩
    refine ⟨_, rfl, _, _, .type "int", .type "int", true, rfl, .ty "int", .base (.int _), kit_ty (by decide +kernel), true, rfl, iteT ?_⟩
    refine ⟨_, rfl, _, _, .type "int", .type "bool", false, rfl, .ty "bool", .base (.int _), kit_ty (by decide +kernel), false, rfl, q H (Same.refl _)⟩
def spLetter : Sp := fun vs H Q _ => ∃ i : Int, vs = [.int i] ∧ 0 ≤ i ∧ i ≤ 999999 ∧ ∀ H', Same H H' → Q (.bl true) H'
theorem ok_letter {k : Nat} (T : Txt K mg) : FnOk P w K mg base CX0 (k + 2) T.aIsLetter T.dIsLetter ["value"] spLetter := by
  have GIsPlainInteger : FnOk P w K mg base CX0 (k + 1) T.aIsPlainInteger T.dIsPlainInteger ["value"] spPlain := ok_plain T
  refine T.fIsLetter.ok scIsLetter (fun vs H Q E h => ?_) (fun cdv A outer s H vs Q E hr h => ?_)
  · obtain ⟨i, rfl, _⟩ := h
    rfl
  · obtain ⟨i, rfl, h0, h1, q⟩ := h
    refine ⟨_, (pss_one (ps_ret (pe_and (pe_call GIsPlainInteger hr (by rfl) T.gIsPlainInteger T.fIsPlainInteger.kp T.bIsPlainInteger .nil pass0 (pa_cons (pv 0) pa_nil)) (pe_one (pe_chain op_le op_le pe_int (pv 0) (pe_glob (v := .int 999999) rfl T.m_GREATEST_LETTER ⟨_, rfl⟩)))))), ?_⟩
    refine ⟨_, rfl, i, rfl, fun H1 s1 => ⟨true, rfl, iteT ?_⟩⟩
    refine ⟨_, rfl, 0, i, rfl, rfl, true, congrArg V.bl (decide_eq_true h0), iteT ⟨i, 999999, rfl, rfl, ?_⟩⟩
    have e : decide (i ≤ (999999 : Int)) = true := decide_eq_true h1
    have z := q H1 s1
    rw [← e] at z
    exact z
def spTxt (R : Nat) (v : V) : Sp := fun vs H Q _ => ∃ (p : Addr) (t : List Int), vs = [.ref p] ∧ H p = some (.tup (t.map V.int)) ∧ t.length ≤ R ∧ Ltrs t ∧ ∀ H', Same H H' → Q v H'
theorem ok_istext {k : Nat} (T : Txt K mg) : FnOk P w K mg base CX0 (k + 3) T.aIsText T.dIsText ["value"] (spTxt 4096 (.bl true)) := by
  have GIsLetter : FnOk P w K mg base CX0 (k + 2) T.aIsLetter T.dIsLetter ["value"] spLetter := ok_letter T
  refine T.fIsText.ok scIsText (fun vs H Q E h => ?_) (fun cdv A outer s H vs Q E hr h => ?_)
  · obtain ⟨p, t, rfl, _⟩ := h
    rfl
  · obtain ⟨p, t, rfl, hp, hl, ht, q⟩ := h
    refine ⟨_, (pss_cons (ps_if (PW.pt (pw_or (pt_not (pt_val (pe_callB call_isi (by rfl) T.m_isinstance (by decide +kernel) (pa_cons (pv 0) (pa_cons (pe_bltn (v := .ty "tuple") (by rfl) T.m_tuple (by decide +kernel) rfl) pa_nil))))) (pw_or1 (pt_cmpR op_gt (pe_callB call_len_seq (by rfl) T.m_len PySem.boot_len (pa_cons (pv 0) pa_nil)) (pe_glob (v := .int 4096) rfl T.m_LONGEST_TEXT ⟨_, rfl⟩) (nomark _))))) (pss_one (ps_ret pe_bl)) pss_nil)
      (pss_one (ps_ret (pe_callB (cr_all rfl) (by rfl) T.m_all (by decide +kernel) (pa_cons (pe_lc (own := [("letter", 1)]) (g := gName 1) (tt := tYes) rfl scIsText.nd (pi_tup (pv 0)) (blkOk_by (N := ["value", "letter"]) (sc := defScope sIsText) (by decide +kernel)) (fun _ _ _ _ _ => pg_name (i := 1) scIsText.nd rfl (Or.inl rfl)) (fun _ _ _ _ _ => pts_nil) (fun _ _ _ _ _ => (pe_call GIsLetter hr (by rfl) T.gIsLetter T.fIsLetter.kp T.bIsLetter .nil pass0 (pa_cons (pv 1) pa_nil)))) pa_nil))))), ?_⟩
    refine ⟨_, rfl, _, _, .type "tuple", .type "tuple", true, rfl, .ty "tuple", .base (.tup hp), kit_ty (by decide +kernel), true, rfl, iteF ?_⟩
    refine ⟨_, rfl, p, _, rfl, .inr (SqT.of hp), _, 4096, rfl, rfl, false, congrArg V.bl (decide_eq_false (by rw [List.length_map]; omega)), iteF ?_⟩
    refine ⟨_, rfl, p, rfl, ⟨_, SqT.of hp⟩, fun D nD => lc_tup (xs := t.map V.int) (fun i H' => Same H H' ∧ H' D = some (.lst ((List.replicate i true).map V.bl))) ?_ ?_ ?_ ?_⟩
    · exact ⟨same_new nD, upd_same⟩
    · rintro i H1 _ ⟨s1, _⟩
      exact SqT.of (s1 _ _ hp)
    · rintro i x H1 hx ⟨s1, hD⟩
      rw [List.getElem?_map] at hx
      cases e : t[i]? with
      | none => rw [e] at hx; cases hx
      | some n =>
        rw [e] at hx
        cases hx
        have hn := ht n (List.mem_of_getElem? e)
        have hi := (List.getElem?_eq_some_iff.mp e).1
        refine ⟨rfl, _, rfl, n, rfl, hn.1, hn.2, fun H2 s2 => ⟨_, s2 _ _ hD, fitsLt (by rw [List.length_map, List.length_replicate]; omega), Same.put (s1.trans s2) nD, ?_⟩⟩
        rw [upd_same, List.replicate_succ', List.map_append]
        rfl
    · rintro H1 ⟨s1, hD⟩
      refine ⟨D, _, rfl, SqL.of hD, ?_⟩
      rw [show (List.replicate (t.map V.int).length true).all id = true by simp]
      exact q H1 s1
theorem ok_checkText {k : Nat} (T : Txt K mg) : FnOk P w K mg base CX0 (k + 4) T.aCheckText T.dCheckText ["value"] (spTxt 4096 .non) := by
  have GIsText : FnOk P w K mg base CX0 (k + 3) T.aIsText T.dIsText ["value"] (spTxt 4096 (.bl true)) := ok_istext T
  refine T.fCheckText.ok scCheckText (fun vs H Q E h => ?_) (fun cdv A outer s H vs Q E hr h => ?_)
  · obtain ⟨p, t, rfl, _⟩ := h
    rfl
  · obtain ⟨p, t, rfl, hp, hl, ht, q⟩ := h
    refine ⟨_, (pss_one (ps_if (pt_not (pt_val (pe_call GIsText hr (by rfl) T.gIsText T.fIsText.kp T.bIsText .nil pass0 (pa_cons (pv 0) pa_nil)))) (pss_one ps_never) pss_nil)), ?_⟩
    exact ⟨_, rfl, p, t, rfl, hp, hl, ht, fun H1 s1 => ⟨true, rfl, iteF (q H1 s1)⟩⟩
theorem ok_checkSize {k : Nat} (T : Txt K mg) : FnOk P w K mg base CX0 (k + 1) T.aCheckSize T.dCheckSize ["text"] (spTxt 400 .non) := by
  refine T.fCheckSize.ok scCheckSize (fun vs H Q E h => ?_) (fun cdv A outer s H vs Q E hr h => ?_)
  · obtain ⟨p, t, rfl, _⟩ := h
    rfl
  · obtain ⟨p, t, rfl, hp, hl, ht, q⟩ := h
    refine ⟨_, (pss_one (ps_if (pt_cmpR op_gt (pe_callB call_len_seq (by rfl) T.m_len PySem.boot_len (pa_cons (pv 0) pa_nil)) (pe_glob (v := .int 400) rfl T.m_LONGEST_RANKED ⟨_, rfl⟩) (nomark _)) (pss_one ps_never) pss_nil)), ?_⟩
    exact ⟨_, rfl, p, _, rfl, .inr (SqT.of hp), _, 400, rfl, rfl, false, congrArg V.bl (decide_eq_false (by rw [List.length_map]; omega)), iteF (q H (Same.refl H))⟩
/-- extended -/
def spExt : Sp := fun vs H Q _ => ∃ (p l : Addr) (t : List Int) (xs : List Int) (b n : Nat), vs = [.ref p, .ref l, .int b, .int ((n + 1 : Nat) : Int)] ∧ H p = some (.tup (t.map V.int)) ∧ H l = some (.lst (xs.map V.int)) ∧
  n < t.length ∧ Brd t n b ∧ (∀ k, k ≤ b → xs[k]? = some ((lng t k : Nat) : Int)) ∧ Q (.int (top t (n + 1) (b + 1) : Nat)) H
theorem ok_ext {k : Nat} (T : Txt K mg) : FnOk P w K mg base CX0 (k + 1) T.aExtended T.dExtended ["text", "longest", "border", "size"] spExt := by
  refine T.fExtended.ok scExtended (fun vs H Q E h => ?_) (fun cdv A outer s H vs Q E hr h => ?_)
  · obtain ⟨p, l, t, xs, b, n, rfl, _⟩ := h
    rfl
  · obtain ⟨p, l, t, xs, b, n, rfl, hp, hl, hn, hb, hx, q⟩ := h
    refine ⟨_, (pss_cons (ps_set (i := 4) scExtended.nd rfl (Or.inl rfl) (pe_ix ix_tup (pv 0) (pe_op op_sub (pv 3) pe_int) (fun _ _ => rfl)))
      (Evl.pss_cut (ps_while PassesOwn.never (PW.pt (pw_and (pt_cmpR op_gt (pv 2) pe_int (nomark _)) (pw_and1 (pt_cmpR op_ne (pe_ix ix_tup (pv 0) (pv 2) (fun _ _ => rfl)) (pv 4) (nomark _))))) (pss_one (ps_set (i := 2) scExtended.nd rfl (Or.inl rfl) (pe_ix ix_list (pv 1) (pv 2) (fun _ _ => rfl)))))
      (pss_one (ps_ret (pe_ifExp (pt_cmpR op_eq (pe_ix ix_tup (pv 0) (pv 2) (fun _ _ => rfl)) (pv 4) (nomark _)) (pe_op op_add (pv 2) pe_int) pe_int))))), ?_⟩
    have at' : ∀ j : Nat, j < t.length → atI (t.map V.int) (j : Int) = some (.int (t.getD j 0)) := fun j hj => atI_nat (by rw [List.getElem?_map, List.getD_eq_getElem?_getD, List.getElem?_eq_getElem hj]; rfl)
    have same : ∀ i j : Nat, i < t.length → j < t.length → (t.getD i 0 = t.getD j 0 ↔ t[i]? = t[j]?) := fun i j hi hj => by
      rw [List.getD_eq_getElem?_getD, List.getD_eq_getElem?_getD, List.getElem?_eq_getElem hi, List.getElem?_eq_getElem hj]
      simp
    refine ⟨_, rfl, _, rfl, _, 1, rfl, rfl, p, _, _, .int (t.getD n 0), rfl, rfl, SqT.of hp, ?_, ?_⟩
    · rw [show ((n + 1 : Nat) : Int) - 1 = (n : Nat) by omega]
      exact at' n hn
    refine ⟨fun σ H' => ∃ c : Nat, σ = [some (.ref p), some (.ref l), some (.int (c : Nat)), some (.int ((n + 1 : Nat) : Int)), some (.int (t.getD n 0))] ∧ H' = H ∧ Brd t n c ∧ top t (n + 1) (c + 1) = top t (n + 1) (b + 1) ∧ (c = 0 ∨ t.getD c 0 = t.getD n 0), ?_, ?_⟩
    · refine while_by (fun σ H' => ∃ c : Nat, σ = [some (.ref p), some (.ref l), some (.int (c : Nat)), some (.int ((n + 1 : Nat) : Int)), some (.int (t.getD n 0))] ∧ H' = H ∧ Brd t n c ∧ c ≤ b ∧ top t (n + 1) (c + 1) = top t (n + 1) (b + 1)) (fun σ H' => match σ with | [_, _, some (.int c), _, _] => c.toNat | _ => 0) ?_ ?_ ?_
      · exact ⟨b, rfl, rfl, hb, Nat.le_refl _, rfl⟩
      · rintro σ H1 ⟨c, rfl, rfl, hc, hcb, htop⟩
        have hcn := hc.1
        by_cases e1 : (c : Int) > 0
        · refine ⟨_, rfl, _, 0, rfl, rfl, true, congrArg V.bl (decide_eq_true e1), iteT ?_⟩
          by_cases e2 : t.getD c 0 = t.getD n 0
          · refine ⟨_, rfl, _, rfl, p, _, _, _, rfl, rfl, SqT.of hp, at' c (by omega), _, rfl, rfl, false, ?_, iteF ⟨c, rfl, rfl, hc, htop, .inr e2⟩⟩
            rw [e2]
            simp
          · refine ⟨_, rfl, _, rfl, p, _, _, _, rfl, rfl, SqT.of hp, at' c (by omega), _, rfl, rfl, true, ?_, iteT ?_⟩
            · rw [decide_eq_false (fun z => e2 (V.int.inj z))]
              rfl
            have hlt := lng_lt (t := t) (n := c) (by omega)
            refine ⟨_, rfl, _, rfl, l, _, _, .int ((lng t c : Nat) : Int), rfl, rfl, SqL.of hl, atI_nat (by rw [List.getElem?_map, hx c hcb]; rfl), ⟨⟨lng t c, rfl, rfl, (Brd.inner hc hlt).mpr (lng_brd (by omega)), by omega, ?_⟩, ?_⟩⟩
            · rw [← back_turn hc (by omega) (fun z => e2 ((same c n (by omega) hn).mpr z)), htop]
            · show ((lng t c : Nat) : Int).toNat < ((c : Nat) : Int).toNat
              omega
        · exact ⟨_, rfl, _, 0, rfl, rfl, false, congrArg V.bl (decide_eq_false e1), iteF ⟨c, rfl, rfl, hc, htop, .inl (by omega)⟩⟩
      · rintro σ H2 Q1 Q2 hq ⟨v, h1, i, j, h2, h3, k', h4, h5⟩
        refine ⟨v, h1, i, j, h2, h3, k', h4, ?_⟩
        cases k' with
        | false => exact hq _ _ h5
        | true =>
          obtain ⟨v2, g1, v3, g2, a1, xs1, i1, x1, e1, e2, sq, at1, v4, g4, f1, k2, e5, fin⟩ := h5
          exact ⟨v2, g1, v3, g2, a1, xs1, i1, x1, e1, e2, sq, at1, v4, g4, f1, k2, e5, hq _ _ fin⟩
    · rintro σ H1 ⟨c, rfl, rfl, hc, htop, hfin⟩
      have hcn := hc.1
      by_cases e2 : t.getD c 0 = t.getD n 0
      · refine ⟨_, rfl, _, rfl, p, _, _, _, rfl, rfl, SqT.of hp, at' c (by omega), _, rfl, rfl, true, ?_, iteT ?_⟩
        · rw [e2]
          simp
        rw [← htop, back_yes hc ((same c n (by omega) hn).mp e2)] at q
        exact ⟨_, rfl, c, 1, rfl, rfl, q⟩
      · refine ⟨_, rfl, _, rfl, p, _, _, _, rfl, rfl, SqT.of hp, at' c (by omega), _, rfl, rfl, false, congrArg V.bl (decide_eq_false (fun z => e2 (V.int.inj z))), iteF ?_⟩
        have c0 : c = 0 := hfin.resolve_right e2
        subst c0
        rw [← htop, back_no hcn (fun z => e2 ((same 0 n (by omega) hn).mpr z))] at q
        exact q
theorem nums_set {f g : Nat → Nat} {m j v : Nat} (hj : j < m) (hv : g j = v) (hg : ∀ k, k < m → k ≠ j → g k = f k) :
    (((List.range m).map fun k => ((f k : Nat) : Int)).map V.int).set j (V.int (v : Int)) = ((List.range m).map fun k => ((g k : Nat) : Int)).map V.int := by
  apply List.ext_getElem?
  intro i
  rw [List.getElem?_set]
  simp only [List.getElem?_map, List.length_map, List.length_range]
  by_cases hi : i < m
  · rw [List.getElem?_range hi]
    by_cases e : j = i
    · subst e
      rw [if_pos rfl, if_pos hj, ← hv]
      rfl
    · rw [if_neg e]
      show some (V.int ((f i : Nat) : Int)) = some (V.int ((g i : Nat) : Int))
      rw [hg i hi (fun z => e z.symm)]
  · rw [List.getElem?_eq_none (by rw [List.length_range]; omega)]
    by_cases e : j = i
    · omega
    · rw [if_neg e]
      rfl
/-- a new list of these numbers -/
def spNums (F : List Int → Nat → Nat) : Sp := fun vs H Q _ => ∃ (p : Addr) (t : List Int), vs = [.ref p] ∧ H p = some (.tup (t.map V.int)) ∧ t.length ≤ 400 ∧ ∀ H' l, Same H H' → H l = none → H' l = some (.lst (((List.range (t.length + 1)).map fun k => ((F t k : Nat) : Int)).map V.int)) → Q (.ref l) H'
theorem zeros (n : Nat) : (List.replicate n [V.int 0]).flatten = ((List.range n).map fun k => (((fun _ => 0 : Nat → Nat) k : Nat) : Int)).map V.int := by
  induction n with
  | zero => rfl
  | succ n ih =>
    rw [List.replicate_succ', List.flatten_append, ih, List.range_succ, List.map_append, List.map_append]
    rfl
theorem ok_lngs {k : Nat} (T : Txt K mg) : FnOk P w K mg base CX0 (k + 2) T.aLongestBorders T.dLongestBorders ["text"] (spNums lng) := by
  have GExtended : FnOk P w K mg base CX0 (k + 1) T.aExtended T.dExtended ["text", "longest", "border", "size"] spExt := ok_ext T
  refine T.fLongestBorders.ok scLongestBorders (fun vs H Q E h => ?_) (fun cdv A outer s H vs Q E hr h => ?_)
  · obtain ⟨p, t, rfl, _⟩ := h
    rfl
  · obtain ⟨p, t, rfl, hp, hl, q⟩ := h
    refine ⟨_, (pss_cons (ps_set (i := 1) scLongestBorders.nd rfl (Or.inl rfl) (pe_op op_rep (pe_lst (pa_cons pe_int pa_nil)) (pe_op op_add (pe_callB call_len_seq (by rfl) T.m_len PySem.boot_len (pa_cons (pv 0) pa_nil)) pe_int)))
      (pss_cons (ps_set (i := 2) scLongestBorders.nd rfl (Or.inl rfl) pe_int)
      (pss_cons (ps_for PassesOwn.never rfl (pi_range2 (by rfl) T.m_range (pa_cons pe_int (pa_cons (pe_op op_add (pe_callB call_len_seq (by rfl) T.m_len PySem.boot_len (pa_cons (pv 0) pa_nil)) pe_int) pa_nil))) (pg_name (i := 3) scLongestBorders.nd rfl (Or.inl rfl)) (pss_cons (ps_set (i := 2) scLongestBorders.nd rfl (Or.inl rfl) (pe_call GExtended hr (by rfl) T.gExtended T.fExtended.kp T.bExtended .nil pass0 (pa_cons (pv 0) (pa_cons (pv 1) (pa_cons (pv 2) (pa_cons (pv 3) pa_nil))))))
      (pss_one (ps_asg (pv 2) (pg_sub (pv 1) (pv 3) set_list)))))
      (pss_one (ps_ret (pv 1)))))), ?_⟩
    refine ⟨by show 1 ≤ sizeLine; decide, fun z nz => ?_⟩
    have s1 := same_new (o := .lst [V.int 0]) nz
    refine ⟨_, rfl, p, _, rfl, .inr (SqT.of (s1 _ _ hp)), _, 1, rfl, rfl, z, _, [V.int 0], rfl, rfl, upd_same, ?_, ?_, ?_, fun l nl => ?_⟩
    · rw [List.length_map]
      omega
    · rw [List.length_map]
      omega
    · rw [List.length_map]
      exact fits5 (by show 1 * _ ≤ _; omega)
    have em : ((((t.map V.int).length : Nat) : Int) + 1).toNat = t.length + 1 := by rw [List.length_map]; omega
    have s2 := same_new (o := .lst (List.replicate ((((t.map V.int).length : Nat) : Int) + 1).toNat [V.int 0]).flatten) nl
    have nl0 : H l = none := s1.free nl
    have hl2 : (upd (upd H z (.lst [V.int 0])) l (.lst (List.replicate ((((t.map V.int).length : Nat) : Int) + 1).toNat [V.int 0]).flatten)) l = some (.lst (((List.range (t.length + 1)).map fun k => (((fun k => if k < 2 then lng t k else 0 : Nat → Nat) k : Nat) : Int)).map V.int)) := by
      rw [upd_same, em, zeros]
      refine congrArg (fun z => some (HO.lst (z.map V.int))) (List.map_congr_left fun k _ => ?_)
      by_cases g : k < 2
      · simp only [if_pos g]
        match k, g with
        | 0, _ => rfl
        | 1, _ => rfl
      · simp only [if_neg g]
    have s12 := s1.trans s2
    generalize upd (upd H z (.lst [V.int 0])) l (.lst (List.replicate ((((t.map V.int).length : Nat) : Int) + 1).toNat [V.int 0]).flatten) = H2 at *
    have hp2 := s12 _ _ hp
    refine ⟨_, rfl, p, _, rfl, .inr (SqT.of hp2), _, 1, rfl, rfl, 2, _, rfl, ⟨by decide, by decide, by rw [List.length_map]; omega, by rw [List.length_map]; omega⟩, for_range (lo := 2) (fun i σ H' => ∃ o3 : Option V, σ = [some (.ref p), some (.ref l), some (.int ((lng t (i + 1) : Nat) : Int)), o3] ∧ Same H H' ∧ H' l = some (.lst (((List.range (t.length + 1)).map fun k => (((fun k => if k < i + 2 then lng t k else 0 : Nat → Nat) k : Nat) : Int)).map V.int))) ?_ ?_ ?_⟩
    · exact ⟨_, rfl, s12, hl2⟩
    · rintro i σ H3 hi ⟨o3, rfl, s3, hl3⟩
      have hi2 : i + 2 ≤ t.length := by
        have h2 : i < ((((t.map V.int).length : Nat) : Int) + 1 - 2).toNat := hi
        rw [List.length_map] at h2
        omega
      refine ⟨_, rfl, _, rfl, _, rfl, _, rfl, p, l, t, _, lng t (i + 1), i + 1, ?_, s3 _ _ hp, hl3, by omega, lng_brd (by omega), fun k hk => ?_, ?_⟩
      · show [V.ref p, V.ref l, V.int ((lng t (i + 1) : Nat) : Int), V.int (2 + (i : Int))] = _
        rw [show (2 : Int) + (i : Int) = ((i + 1 + 1 : Nat) : Int) by omega]
      · have := lng_lt (t := t) (n := i + 1) (by omega)
        rw [List.getElem?_map, List.getElem?_range (by omega)]
        show some ((((if k < i + 2 then lng t k else 0 : Nat)) : Nat) : Int) = _
        rw [if_pos (by omega)]
      rw [lng_step (by omega)]
      refine ⟨_, rfl, _, rfl, _, rfl, l, _, _, i + 2, rfl, rfl, hl3, ?_, ?_⟩
      · unfold ixN
        rw [List.length_map, List.length_map, List.length_range, if_pos (by omega), if_pos (by omega)]
        exact congrArg some (by omega)
      refine ⟨_, rfl, Same.put s3 nl0, ?_⟩
      rw [upd_same]
      refine congrArg (fun z => some (HO.lst z)) ?_
      exact nums_set (f := fun k => if k < i + 2 then lng t k else 0) (g := fun k => if k < i + 1 + 2 then lng t k else 0) (j := i + 2) (by omega) (if_pos (by omega)) fun k hk e => by
        show (if k < i + 1 + 2 then lng t k else 0) = if k < i + 2 then lng t k else 0
        by_cases g : k < i + 2
        · rw [if_pos g, if_pos (by omega)]
        · rw [if_neg g, if_neg (by omega)]
    · rintro σ H3 ⟨o3, rfl, s3, hl3⟩
      refine ⟨_, rfl, q H3 l s3 nl0 ?_⟩
      rw [hl3]
      refine congrArg (fun z => some (HO.lst (z.map V.int))) (List.map_congr_left fun k hk => ?_)
      have hk2 := List.mem_range.mp hk
      have : k < ((((t.map V.int).length : Nat) : Int) + 1 - 2).toNat + 2 := by
        rw [List.length_map]
        omega
      simp only [if_pos this]
end
end Mo

namespace Mo
open PySem PySem.Spec PyProof.Rows L2
section
variable {P : Program} {w : World} {K : PySem.W.Frag} {mg : Str → Option Value} {base : Heap}
def spCount : Sp := fun vs H Q _ => ∃ i a b : Int, vs = [.int i, .int a, .int b] ∧ a ≤ i ∧ i ≤ b ∧ ∀ H', Same H H' → Q .non H'
theorem ok_count {k : Nat} (T : Txt K mg) : FnOk P w K mg base CX0 (k + 2) T.aCheckCount T.dCheckCount ["value", "least", "most"] spCount := by
  have GIsPlainInteger : FnOk P w K mg base CX0 (k + 1) T.aIsPlainInteger T.dIsPlainInteger ["value"] spPlain := ok_plain T
  refine T.fCheckCount.ok scCheckCount (fun vs H Q E h => ?_) (fun cdv A outer s H vs Q E hr h => ?_)
  · obtain ⟨i, a, b, rfl, _⟩ := h
    rfl
  · obtain ⟨i, a, b, rfl, h1, h2, q⟩ := h
    refine ⟨_, (pss_one (ps_if (PW.pt (pw_or (pt_not (pt_val (pe_call GIsPlainInteger hr (by rfl) T.gIsPlainInteger T.fIsPlainInteger.kp T.bIsPlainInteger .nil pass0 (pa_cons (pv 0) pa_nil)))) (pw_or (pt_cmpR op_lt (pv 0) (pv 1) (nomark _)) (pw_or1 (pt_cmpR op_gt (pv 0) (pv 2) (nomark _)))))) (pss_one ps_never) pss_nil)), ?_⟩
    refine ⟨_, rfl, i, rfl, fun H1 s1 => ⟨true, rfl, iteF ?_⟩⟩
    refine ⟨_, rfl, _, rfl, _, _, rfl, rfl, _, rfl, ite2 (fun e => ?_) (fun e => ?_)⟩
    · exact absurd (of_decide_eq_true e) (by omega)
    refine ⟨_, rfl, _, rfl, _, _, rfl, rfl, _, rfl, ite2 (fun e => ?_) (fun e => ?_)⟩
    · exact absurd (of_decide_eq_true e) (by omega)
    exact q H1 s1
end
end Mo

namespace Mo
open PySem PySem.Spec PyProof.Rows L2
section
variable {X : Cx}
/-- x *= y of ints -/
theorem ip_mul : PIp X .Mult (fun x y H Q => ∃ i j, x = .int i ∧ y = .int j ∧ CMul i j ∧ Q (.int (i * j)) H) :=
  fun pins s σ H x y u v Q I rx ry h => iop_mul pins s σ H x y u v Q I rx ry h
end
end Mo

namespace Mo
open PySem PySem.Spec PyProof.Rows L2
section
variable {P : Program} {w : World} {K : PySem.W.Frag} {mg : Str → Option Value} {base : Heap}
def spPow : Sp := fun vs H Q _ => ∃ b e : Nat, vs = [.int b, .int e] ∧ b ≤ 4 ∧ e ≤ 20 ∧ ∀ H', Same H H' → Q (.int ((b ^ e : Nat) : Int)) H'
theorem ok_pow {k : Nat} (T : Txt K mg) : FnOk P w K mg base CX0 (k + 1) T.aPower T.dPower ["base", "exponent"] spPow := by
  refine T.fPower.ok scPower (fun vs H Q E h => ?_) (fun cdv A outer s H vs Q E hr h => ?_)
  · obtain ⟨b, e, rfl, _⟩ := h
    rfl
  · obtain ⟨b, e, rfl, hb, he, q⟩ := h
    refine ⟨_, (pss_cons (ps_set (i := 2) scPower.nd rfl (Or.inl rfl) pe_int)
      (pss_cons (ps_for PassesOwn.never rfl (pi_range1 (by rfl) T.m_range (pa_cons (pv 1) pa_nil)) (pg_name (i := 3) scPower.nd rfl (Or.inl rfl)) (pss_one (ps_aug (i := 2) scPower.nd rfl (Or.inl rfl) (pv 0) Mo.ip_mul)))
      (pss_one (ps_ret (pv 2))))), ?_⟩
    refine ⟨_, rfl, _, rfl, by omega, by omega, for_range (lo := 0) (fun i σ H' => ∃ o3 : Option V, σ = [some (.int b), some (.int e), some (.int ((b ^ i : Nat) : Int)), o3] ∧ Same H H') ?_ ?_ ?_⟩
    · exact ⟨_, rfl, Same.refl H⟩
    · rintro i σ H1 hi ⟨o3, rfl, s1⟩
      refine ⟨_, rfl, _, rfl, _, _, rfl, rfl, .inr ⟨by omega, by omega⟩, some (.int (0 + (i : Int))), ?_, s1⟩
      rw [Nat.pow_succ, Int.natCast_mul]
      rfl
    · rintro σ H1 ⟨o3, rfl, s1⟩
      refine ⟨_, rfl, ?_⟩
      have z := q H1 s1
      rw [show e = ((e : Nat) : Int).toNat by omega] at z
      exact z
def spLen : Sp := fun vs H Q _ => ∃ n m : Nat, vs = [.int ((n + 1 : Nat) : Int), .int m] ∧ n ≤ 2 ∧ 1 ≤ m ∧ m ≤ 4 ∧ ∀ H', Same H H' → Q (.int ((bndL m n : Nat) : Int)) H'
theorem ok_len {k : Nat} (T : Txt K mg) : FnOk P w K mg base CX0 (k + 3) T.aLengthBound T.dLengthBound ["count", "letters"] spLen := by
  have GCheckCount : FnOk P w K mg base CX0 (k + 2) T.aCheckCount T.dCheckCount ["value", "least", "most"] spCount := ok_count T
  have GPower : FnOk P w K mg base CX0 (k + 2) T.aPower T.dPower ["base", "exponent"] spPow := ok_pow T
  refine T.fLengthBound.ok scLengthBound (fun vs H Q E h => ?_) (fun cdv A outer s H vs Q E hr h => ?_)
  · obtain ⟨n, m, rfl, _⟩ := h
    rfl
  · obtain ⟨n, m, rfl, hn, hm, hm4, q⟩ := h
    refine ⟨_, (pss_cons (ps_expr (pe_call GCheckCount hr (by rfl) T.gCheckCount T.fCheckCount.kp T.bCheckCount .nil pass0 (pa_cons (pv 0) (pa_cons pe_int (pa_cons pe_int pa_nil)))))
      (pss_cons (ps_expr (pe_call GCheckCount hr (by rfl) T.gCheckCount T.fCheckCount.kp T.bCheckCount .nil pass0 (pa_cons (pv 1) (pa_cons pe_int (pa_cons pe_int pa_nil)))))
      (pss_cons (ps_set (i := 2) scLengthBound.nd rfl (Or.inl rfl) pe_int)
      (pss_cons (ps_for PassesOwn.never rfl (pi_range1 (by rfl) T.m_range (pa_cons (pe_op op_sub (pv 0) pe_int) pa_nil)) (pg_name (i := 3) scLengthBound.nd rfl (Or.inl rfl)) (pss_one (ps_set (i := 2) scLengthBound.nd rfl (Or.inl rfl) (pe_op op_sub (pe_op op_mul (pe_op op_add (pe_call GPower hr (by rfl) T.gPower T.fPower.kp T.bPower .nil pass0 (pa_cons (pv 1) (pa_cons (pv 2) pa_nil))) pe_int) (pe_op op_add (pv 2) pe_int)) pe_int))))
      (pss_one (ps_ret (pv 2))))))), ?_⟩
    refine ⟨_, rfl, ((n + 1 : Nat) : Int), 1, 3, rfl, by omega, by omega, fun H1 s1 => ?_⟩
    refine ⟨_, rfl, ((m : Nat) : Int), 1, 4, rfl, by omega, by omega, fun H2 s2 => ?_⟩
    have s12 := s1.trans s2
    refine ⟨_, rfl, _, 1, rfl, rfl, _, rfl, by omega, by omega, for_range (lo := 0) (fun i σ H' => ∃ o3 : Option V, σ = [some (.int ((n + 1 : Nat) : Int)), some (.int m), some (.int ((bndL m i : Nat) : Int)), o3] ∧ Same H H') ?_ ?_ ?_⟩
    · exact ⟨_, rfl, s12⟩
    · rintro i σ H3 hi ⟨o3, rfl, s3⟩
      have hi2 : i < n := by
        have h3 : i < Int.toNat _ := hi
        omega
      have b9 : bndL m i ≤ 9 := by
        match i, hi2 with
        | 0, _ => show 1 ≤ 9; decide
        | 1, _ =>
          show (m ^ 1 + 1) * (1 + 1) - 1 ≤ 9
          rw [Nat.pow_one]
          omega
        | i + 2, h => omega
      refine ⟨_, rfl, _, rfl, m, bndL m i, rfl, hm4, by omega, fun H4 s4 => ?_⟩
      refine ⟨_, 1, rfl, rfl, _, rfl, _, 1, rfl, rfl, _, _, rfl, rfl, .inr ⟨by omega, by omega⟩, _, 1, rfl, rfl, ?_⟩
      have p1 : 1 ≤ (m ^ bndL m i + 1) * (bndL m i + 1) := Nat.mul_le_mul (show 1 ≤ m ^ bndL m i + 1 by omega) (show 1 ≤ bndL m i + 1 by omega)
      have ec : (((m ^ bndL m i : Nat) : Int) + 1) * (((bndL m i : Nat) : Int) + 1) - 1 = ((bndL m (i + 1) : Nat) : Int) := by
        have e1 : (((m ^ bndL m i : Nat) : Int) + 1) * (((bndL m i : Nat) : Int) + 1) = (((m ^ bndL m i + 1) * (bndL m i + 1) : Nat) : Int) := by
          rw [Int.natCast_mul, Int.natCast_add, Int.natCast_add]
          rfl
        rw [e1]
        show _ = (((m ^ bndL m i + 1) * (bndL m i + 1) - 1 : Nat) : Int)
        omega
      exact ⟨_, congrArg (fun z => [some (V.int ((n + 1 : Nat) : Int)), some (V.int m), some (V.int z), some (V.int (0 + (i : Int)))]) ec, s3.trans s4⟩
    · rintro σ H3 ⟨o3, rfl, s3⟩
      refine ⟨_, rfl, ?_⟩
      have z := q H3 s3
      rw [show n = (((n + 1 : Nat) : Int) - 1 : Int).toNat by omega] at z
      exact z
end
end Mo

namespace Mo
open PySem PySem.Spec PyProof.Rows L2
section
variable {P : Program} {w : World} {K : PySem.W.Frag} {mg : Str → Option Value} {base : Heap}
theorem ints_dp {H : Hp} : ∀ ns : List Int, DpAll K H (ns.map V.int) (ns.map PyData.int)
  | [] => .nil
  | n :: ns => .cons (.int n) (ints_dp ns)
theorem mod_in {a b : Int} (h : 0 < b) : 0 ≤ a.fmod b ∧ a.fmod b < b := by
  rw [Int.fmod_eq_emod_of_nonneg _ (Int.le_of_lt h)]
  exact ⟨Int.emod_nonneg _ (by omega), Int.emod_lt_of_pos _ h⟩
theorem div_in {a b : Int} (h : 0 < b) (ha : 0 ≤ a) : 0 ≤ a.fdiv b := by
  rw [Int.fdiv_eq_ediv_of_nonneg _ (Int.le_of_lt h)]
  exact Int.ediv_nonneg ha (Int.le_of_lt h)
theorem nat_of {i : Int} (h : 0 ≤ i) : ∃ j : Nat, i = (j : Int) := ⟨i.toNat, by omega⟩
theorem ok_draw {k : Nat} (T : Txt K mg) : FnOk P w K mg base CX0 (k + 1) T.aLDraw T.dLDraw ["_law_source_here", "_law_size"] spSDraw := by
  refine T.fLDraw.ok scLDraw (fun vs H Q E h => ?_) (fun cdv A outer s H vs Q E hr h => ?_)
  · obtain ⟨d, c, n, t, rfl, _⟩ := h
    rfl
  · obtain ⟨d, c, n, t, rfl, src, n0, n1, ht, q⟩ := h
    have hu := hu_of hr
    obtain ⟨ns, r, hd, hc, hl, r0⟩ := id src
    have ndc := src.ne
    have gC := DGet.k (k := Sum.inr "cells") hd
    have gT := DGet.k (k := Sum.inr "index") hd
    have gR := DGet.k (k := Sum.inr "rest") hd
    rw [src_cells] at gC
    rw [src_index] at gT
    rw [src_rest] at gR
    have nz : n ≠ 0 := by omega
    have na : n.natAbs < 1073741824 := by omega
    refine ⟨_, (pss_cons (ps_if (pt_cmpR op_gt (pe_dget hu (pv 0) pe_str (fun _ _ => rfl)) pe_int (nomark _)) (pss_cons (ps_set (i := 2) scLDraw.nd rfl (Or.inl rfl) (pe_op op_modN (pe_dget hu (pv 0) pe_str (fun _ _ => rfl)) (pv 1)))
      (pss_cons (ps_dput hu (pv 0) pe_str (pe_op op_fdivN (pe_dget hu (pv 0) pe_str (fun _ _ => rfl)) (pv 1)) rfl)
      (pss_one (ps_ret (pv 2))))) pss_nil)
      (pss_cons (ps_set (i := 3) scLDraw.nd rfl (Or.inl rfl) (pe_dget hu (pv 0) pe_str (fun _ _ => rfl)))
      (pss_cons (ps_dput hu (pv 0) pe_str (pe_op op_add (pv 3) pe_int) rfl)
      (pss_cons (ps_set (i := 4) scLDraw.nd rfl (Or.inl rfl) (pe_op op_add (pe_op op_mul pe_int (pv 3)) pe_int))
      (Evl.pss_cut (ps_if (pt_cmpR (op_neD hr.units) (pe_dget hu (pv 0) pe_str (fun _ _ => rfl)) (pe_lst pa_nil) (nomark _)) (pss_one (ps_set (i := 4) scLDraw.nd rfl (Or.inl rfl) (pe_ix ix_list (pe_dget hu (pv 0) pe_str (fun _ _ => rfl)) (pe_op op_modN (pv 3) (pe_callB call_len_seq (by rfl) T.m_len PySem.boot_len (pa_cons (pe_dget hu (pv 0) pe_str (fun _ _ => rfl)) pa_nil))) (fun _ _ => rfl)))) pss_nil)
      (Evl.pss_cut (ps_if (PW.pt (pw_and (pt_cmpR op_lt (pv 3) (pe_callB call_len_seq (by rfl) T.m_len PySem.boot_len (pa_cons (pe_dget hu (pv 0) pe_str (fun _ _ => rfl)) pa_nil)) (nomark _)) (pw_and1 (pt_cmpR op_ge (pe_callB call_abs (by rfl) T.m_abs (by decide +kernel) (pa_cons (pv 4) pa_nil)) (pe_op op_pow pe_int pe_int) (nomark _))))) (pss_cons (ps_dput hu (pv 0) pe_str (pe_op op_fdivN (pe_op op_sub (pe_callB call_abs (by rfl) T.m_abs (by decide +kernel) (pa_cons (pv 4) pa_nil)) (pe_op op_pow pe_int pe_int)) (pv 1)) rfl)
      (pss_one (ps_ret (pe_op op_modN (pe_op op_sub (pe_callB call_abs (by rfl) T.m_abs (by decide +kernel) (pa_cons (pv 4) pa_nil)) (pe_op op_pow pe_int pe_int)) (pv 1))))) pss_nil)
      (pss_cons (ps_set (i := 5) scLDraw.nd rfl (Or.inl rfl) (pe_op op_modN (pe_op op_add (pe_op op_add (pe_op op_mul (pe_op op_modN (pv 4) pe_int) pe_int) (pe_op op_mul (pe_op op_mul pe_int (pv 3)) (pv 3))) pe_int) pe_int))
      (pss_cons (ps_set (i := 5) scLDraw.nd rfl (Or.inl rfl) (pe_op op_modN (pe_op op_mul (pv 5) (pe_op op_add (pv 5) pe_int)) pe_int))
      (pss_one (ps_ret (pe_op op_modN (pe_op op_fdivN (pe_op op_modN (pe_op op_mul (pv 5) (pv 5)) pe_int) pe_int) (pv 1)))))))))))), ?_⟩
    refine ⟨_, rfl, d, _, rfl, gR, _, _, rfl, rfl, _, rfl, ite2 (fun e => ?_) (fun e => ?_)⟩
    · -- a digit of the rest
      refine ⟨_, rfl, d, _, rfl, gR, _, rfl, r, n, rfl, rfl, nz, ?_⟩
      refine ⟨_, rfl, d, _, rfl, gR, _, rfl, r, n, rfl, rfl, ⟨nz, na⟩, _, rfl, d, _, rfl, DPut.k (k := Sum.inr "rest") hd (by show 3 < sizeLine; decide), ?_⟩
      rw [sput_rest]
      exact ⟨_, rfl, q _ _ t But.set (src_set src (div_in n0 r0)) (Nat.le_succ _) (mod_in n0).1 (mod_in n0).2⟩
    · -- turn, turn + 1
      refine ⟨_, rfl, d, _, rfl, gT, ?_⟩
      refine ⟨_, rfl, t, 1, rfl, rfl, _, rfl, d, _, rfl, DPut.k (k := Sum.inr "index") hd (by show 3 < sizeLine; decide), ?_⟩
      rw [sput_index, show (t : Int) + 1 = ((t + 1 : Nat) : Int) by omega]
      have src1 : Src (upd H d (.dK (srcD c ((t + 1 : Nat) : Int) r))) d c (t + 1) := src_set src r0
      have but1 : But d H (upd H d (.dK (srcD c ((t + 1 : Nat) : Int) r))) := But.set
      generalize eH1 : upd H d (.dK (srcD c ((t + 1 : Nat) : Int) r)) = H1 at *
      have hc1 : H1 c = some (.lst (ns.map V.int)) := but1 _ _ ndc.symm hc
      have hd1 : H1 d = some (.dK (srcD c ((t + 1 : Nat) : Int) r)) := by rw [← eH1, upd_same]
      have gC1 := DGet.k (k := Sum.inr "cells") hd1
      rw [src_cells] at gC1
      -- cell
      refine ⟨_, rfl, 29, t, rfl, rfl, .inl ⟨by decide, by decide⟩, _, 17, rfl, rfl, ?_⟩
      -- if cells != []
      refine ⟨fun σ' H' => ∃ (v : Int) (o2 o5 : Option V), σ' = [some (.ref d), some (.int n), o2, some (.int t), some (.int v), o5] ∧ Same H1 H', ?_, ?_⟩
      · refine ⟨_, rfl, d, _, rfl, gC1, Nat.zero_le _, fun p np => ?_⟩
        have sm := same_new (o := .lst []) np
        refine ⟨.list (ns.map PyData.int), .list [], .lst (SqL.of (sm _ _ hc1)) (ints_dp ns), .lst (SqL.of upd_same) .nil, PySem.W.ke_shaped_ints ns, rfl, _, rfl, ite2 (fun e => ?_) (fun e => ?_)⟩
        · have hne : ns ≠ [] := by
            rintro rfl
            exact absurd e (by decide)
          have gC2 := DGet.k (k := Sum.inr "cells") (sm _ _ hd1)
          rw [src_cells] at gC2
          have hlen : 0 < ns.length := List.length_pos_iff.mpr hne
          obtain ⟨j, hj⟩ := nat_of (mod_in (a := t) (b := ((ns.map V.int).length : Int)) (by rw [List.length_map]; omega)).1
          have hj2 : j < ns.length := by
            have h2 := (mod_in (a := t) (b := ((ns.map V.int).length : Int)) (by rw [List.length_map]; omega)).2
            rw [hj, List.length_map] at h2
            omega
          refine ⟨_, rfl, d, _, rfl, gC2, _, rfl, _, rfl, d, _, rfl, gC2, c, _, rfl, .inl (SqL.of (sm _ _ hc1)), t, _, rfl, rfl, (by rw [List.length_map]; omega), c, ns.map V.int, _, .int ns[j], rfl, rfl, SqL.of (sm _ _ hc1), ?_, ?_⟩
          · rw [hj]
            exact atI_nat (by rw [List.getElem?_map, List.getElem?_eq_getElem hj2]; rfl)
          · exact ⟨_, _, _, rfl, sm⟩
        · exact ⟨_, _, _, rfl, sm⟩
      · rintro σ' H2 ⟨v, o2, o5, rfl, sm⟩
        have hd2 := sm _ _ hd1
        have hc2 := sm _ _ hc1
        have src2 : Src H2 d c (t + 1) := src1.same sm
        have but2 : But d H H2 := but1.trans (But.same sm)
        have gC2 := DGet.k (k := Sum.inr "cells") hd2
        rw [src_cells] at gC2
        clear e hd hc gC gT gR hd1 hc1 gC1 src1 but1 eH1 sm src
        -- if turn < len(cells) and abs(cell) >= 10 ** 18
        refine ⟨fun σ' H' => σ' = [some (.ref d), some (.int n), o2, some (.int t), some (.int v), o5] ∧ H' = H2, ?_, ?_⟩
        · refine ⟨_, rfl, _, rfl, d, _, rfl, gC2, c, _, rfl, .inl (SqL.of hc2), _, _, rfl, rfl, _, rfl, ite2 (fun e1 => ?_) (fun e1 => ?_)⟩
          · refine ⟨_, rfl, _, rfl, 10, 18, rfl, rfl, ⟨by decide, by decide, by decide⟩, _, _, rfl, rfl, _, rfl, ite2 (fun e2 => ?_) (fun e2 => ⟨rfl, rfl⟩)⟩
            have ab : (0 : Int) ≤ (if v < 0 then -v else v) - 10 ^ 18 := by
              have h2 := of_decide_eq_true e2
              have h3 : (10 : Int) ^ (18 : Int).toNat = 10 ^ 18 := rfl
              omega
            refine ⟨_, rfl, _, rfl, 10, 18, rfl, rfl, ⟨by decide, by decide, by decide⟩, _, _, rfl, rfl, _, rfl, _, _, rfl, rfl, ⟨nz, na⟩, _, rfl, d, _, rfl, DPut.k (k := Sum.inr "rest") hd2 (by show 3 < sizeLine; decide), ?_⟩
            rw [sput_rest]
            refine ⟨_, rfl, _, rfl, 10, 18, rfl, rfl, ⟨by decide, by decide, by decide⟩, _, _, rfl, rfl, _, rfl, _, _, rfl, rfl, nz, ?_⟩
            exact q _ _ (t + 1) (but2.trans But.set) (src_set src2 (div_in n0 ab)) (Nat.le_refl _) (mod_in n0).1 (mod_in n0).2
          · exact ⟨rfl, rfl⟩
        · rintro σ' H' ⟨rfl, rfl⟩
          refine ⟨_, rfl, _, 2147483629, rfl, rfl, (by show (2147483629 : Int) ≠ 0; decide), _, 69621, rfl, rfl, .inr ⟨by decide, by decide⟩, ?_⟩
          refine ⟨_, rfl, 40014, t, rfl, rfl, .inl ⟨by decide, by decide⟩, _, rfl, _, t, rfl, rfl, .inr ⟨by omega, by omega⟩, _, _, rfl, rfl, _, 12345, rfl, rfl, _, 2147483587, rfl, rfl, (by show (2147483587 : Int) ≠ 0; decide), ?_⟩
          have m1 := mod_in (a := v.fmod 2147483629 * 69621 + 40014 * (t : Int) * t + 12345) (b := 2147483587) (by decide)
          generalize em : (v.fmod 2147483629 * 69621 + 40014 * (t : Int) * t + 12345).fmod 2147483587 = m at m1
          refine ⟨_, rfl, _, rfl, m, 16807, congrArg V.int em, rfl, m, _, congrArg V.int em, rfl, .inl ⟨by omega, by omega⟩, _, 2147483563, rfl, rfl, (by show (2147483563 : Int) ≠ 0; decide), ?_⟩
          have m2 := mod_in (a := m * (m + 16807)) (b := 2147483563) (by decide)
          generalize em' : (m * (m + 16807)).fmod 2147483563 = m' at m2
          refine ⟨_, rfl, _, rfl, m', m', congrArg V.int em', congrArg V.int em', .inl ⟨by omega, by omega⟩, _, 2147483647, rfl, rfl, (by show (2147483647 : Int) ≠ 0; decide), _, 128, rfl, rfl, ⟨by decide, by decide⟩, _, rfl, _, n, rfl, rfl, nz, ?_⟩
          exact q _ _ (t + 1) but2 src2 (Nat.le_refl _) (mod_in n0).1 (mod_in n0).2
end
end Mo

namespace Mo
open PySem PySem.Spec PyProof.Rows L2
section
variable {P : Program} {w : World} {K : PySem.W.Frag} {mg : Str → Option Value} {base : Heap}
def spSource (K : PySem.W.Frag) : Sp := fun vs H Q _ => ∃ (a : Addr) (ns : List Int), vs = [.ref a] ∧ SqL K H a (ns.map V.int) ∧ ns.length ≤ 63 ∧ ∀ H' d c, Same H H' → H d = none → Src H' d c 0 → Q (.ref d) H'
theorem ok_source {k : Nat} (T : Txt K mg) : FnOk P w K mg base CX0 (k + 1) T.aLSource T.dLSource ["_law_script"] (spSource K) := by
  refine T.fLSource.ok scLSource (fun vs H Q E h => ?_) (fun cdv A outer s H vs Q E hr h => ?_)
  · obtain ⟨a, ns, rfl, _⟩ := h
    rfl
  · obtain ⟨a, ns, rfl, hs, hn, q⟩ := h
    refine ⟨_, (pss_one (ps_ret (pe_disp (pps_cons pe_str (pe_callTy call_list_of (by rfl) T.m_list (by decide +kernel) (pa_cons (pe_slice sl_list (pv 0) po_none (po_some pe_int)) pa_nil)) (pps_cons pe_str pe_int (pps_cons pe_str pe_int pps_nil))) (by rfl) (by rfl) (fun z => by cases z) (by decide)))), ?_⟩
    intro d nd
    have s1 := same_new (o := .dK []) nd
    refine ⟨_, rfl, 63, rfl, a, _, rfl, s1.seq hs, fun p np => ?_⟩
    have s2 := same_new (o := .lst (cutV (ns.map V.int) none (some 63))) np
    refine ⟨p, _, rfl, .inl (SqL.of upd_same), fun c nc => ?_⟩
    have s3 := same_new (o := .lst (cutV (ns.map V.int) none (some 63))) nc
    have ec : cutV (ns.map V.int) none (some 63) = ns.map V.int := by
      unfold cutV
      rw [HT.sIx_none, show (some (63 : Int)) = some ((63 : Nat) : Int) from rfl, HT.sIx_nat, List.drop_zero, Nat.sub_zero, List.length_map]
      exact List.take_of_length_le (by rw [List.length_map]; omega)
    rw [ec] at nc s2 s3 ⊢
    have hd3 := s3 _ _ (s2 _ _ (upd_same (H := H) (a := d) (o := .dK [])))
    refine ⟨hd3, srcD c 0 0, rfl, by show 3 ≤ 15; decide, ?_⟩
    rw [src_merge]
    have ncd : c ≠ d := (ne_of_none (s2 _ _ (upd_same (H := H) (a := d) (o := .dK []))) nc).symm
    refine q _ d c (Same.put ((s1.trans s2).trans s3) nd) nd ⟨ns, 0, upd_same, by rw [upd_ne ncd, upd_same], hn, Int.le_refl 0⟩
end
end Mo

namespace Mo
open PySem PySem.Spec PyProof.Rows L2
section
variable {P : Program} {w : World} {K : PySem.W.Frag} {mg : Str → Option Value} {base : Heap}
theorem ok_pick {k : Nat} (T : Txt K mg) : FnOk P w K mg base CX0 (k + 2) T.aLPick T.dLPick ["_law_source_here", "_law_items"] (spSPick K) := by
  have GLDraw : FnOk P w K mg base CX0 (k + 1) T.aLDraw T.dLDraw ["_law_source_here", "_law_size"] spSDraw := ok_draw T
  refine T.fLPick.ok scLPick (fun vs H Q E h => ?_) (fun cdv A outer s H vs Q E hr h => ?_)
  · obtain ⟨d, c, l, xs, t, rfl, _⟩ := h
    rfl
  · obtain ⟨d, c, l, xs, t, rfl, src, hl, nld, h0, h1, ht, q⟩ := h
    refine ⟨_, (pss_one (ps_ret (pe_ix ix_list (pv 1) (pe_call GLDraw hr (by rfl) T.gLDraw T.fLDraw.kp T.bLDraw .nil pass0 (pa_cons (pv 0) (pa_cons (pe_callB call_len_seq (by rfl) T.m_len PySem.boot_len (pa_cons (pv 1) pa_nil)) pa_nil))) (fun _ _ => rfl)))), ?_⟩
    refine ⟨_, rfl, _, rfl, _, rfl, l, xs, rfl, .inl hl, d, c, _, t, rfl, src, by omega, by omega, ht, fun H' k t' but src' ht' k0 k1 => ?_⟩
    obtain ⟨j, rfl⟩ := nat_of k0
    have hj : j < xs.length := by omega
    have hl' : SqL K H' l xs := by
      rcases hl with (e | ⟨o, e⟩) | e
      · exact .inl (.inl (but _ _ nld e))
      · exact .inl (.inr ⟨o, but _ _ nld e⟩)
      · exact .inr e
    exact ⟨l, xs, j, xs[j], rfl, rfl, hl', atI_nat (List.getElem?_eq_getElem hj), q H' _ t' but src' ht' (List.getElem_mem hj)⟩
end
end Mo

namespace Mo
open PySem PySem.Spec PyProof.Rows L2
section
variable {P : Program} {w : World} {K : PySem.W.Frag} {mg : Str → Option Value} {base : Heap}
/-- U(n) as a new tuple -/
def spUni : Sp := fun vs H Q _ => ∃ n : Nat, vs = [.int n] ∧ n ≤ 12 ∧ ∀ H' p, Same H H' → H' p = some (.tup ((uni n).map V.int)) → Q (.ref p) H'
theorem ok_luni {k : Nat} (T : Txt K mg) : FnOk P w K mg base CX0 (k + 1) T.aLUniversal T.dLUniversal ["_law_count"] spUni := by
  refine T.fLUniversal.ok scLUniversal (fun vs H Q E h => ?_) (fun cdv A outer s H vs Q E hr h => ?_)
  · obtain ⟨n, rfl, _⟩ := h
    rfl
  · obtain ⟨n, rfl, hn, q⟩ := h
    refine ⟨_, (pss_cons (ps_set (i := 1) scLUniversal.nd rfl (Or.inl rfl) (pe_tup pa_nil))
      (pss_cons (ps_for PassesOwn.never rfl (pi_range1 (by rfl) T.m_range (pa_cons (pv 0) pa_nil)) (pg_name (i := 2) scLUniversal.nd rfl (Or.inl rfl)) (pss_one (ps_set (i := 1) scLUniversal.nd rfl (Or.inl rfl) (pe_op op_catA (pe_op op_catA (pv 1) (pe_tup (pa_cons (pv 2) pa_nil))) (pv 1)))))
      (pss_one (ps_ret (pv 1))))), ?_⟩
    refine ⟨Nat.zero_le _, fun t nt => ?_⟩
    refine ⟨_, rfl, n, rfl, by omega, by omega, for_range (lo := 0) (fun i σ H' => ∃ (p : Addr) (o : Option V), σ = [some (.int (n : Nat)), some (.ref p), o] ∧ Same H H' ∧ H' p = some (.tup ((uni i).map V.int))) ?_ ?_ ?_⟩
    · exact ⟨t, _, rfl, same_new nt, upd_same⟩
    · rintro i σ H2 hi ⟨p, o, rfl, s2, hp⟩
      refine ⟨_, rfl, _, rfl, by show 1 ≤ sizeLine; decide, fun t2 nt2 => ?_⟩
      have hi2 : i < 12 := by
        have : i < (n : Int).toNat := hi
        omega
      have s3 := same_new (o := .tup [V.int (0 + (i : Int))]) nt2
      have hl := uni_len12 (n := i) (by omega)
      refine catA_any (s3 _ _ hp) upd_same (by rw [List.length_map]; exact fits5 (by show _ + 1 ≤ _; omega)) fun p1 H3 s4 h1 _ => ?_
      refine ⟨_, rfl, ?_⟩
      refine catA_any h1 (s4 _ _ (s3 _ _ hp)) (by rw [List.length_append, List.length_map]; exact fits5 (by show _ + 1 + _ ≤ _; omega)) fun p2 H4 s5 h2 _ => ?_
      refine ⟨p2, _, rfl, ((s2.trans s3).trans s4).trans s5, ?_⟩
      rw [h2, uni, List.map_append, List.map_append, show (0 : Int) + (i : Int) = (i : Int) by omega]
      rfl
    · rintro σ H2 ⟨p, o, rfl, s2, hp⟩
      exact ⟨_, rfl, q H2 p s2 hp⟩
end
end Mo

namespace Mo
open PySem PySem.Spec PyProof.Rows L2
section
variable {P : Program} {w : World} {K : PySem.W.Frag} {mg : Str → Option Value} {base : Heap}
/-- alphabet: n letters in a new list -/
def spAlph : Sp := fun vs H Q _ => ∃ (d c : Addr) (n t : Nat), vs = [.ref d, .int n] ∧ Src H d c t ∧ n ≤ 5 ∧ t + 3 < 1073741824 ∧
  ∀ H' l ns t', But d H H' → Src H' d c t' → t' ≤ t + 3 → H l = none → l ≠ d → H' l = some (.lst (ns.map V.int)) → ns.length = n → Ltrs ns → Q (.ref l) H'
theorem ok_alph {k : Nat} (T : Txt K mg) : FnOk P w K mg base CX0 (k + 3) T.aLAlphabet T.dLAlphabet ["_law_source_here", "_law_count"] spAlph := by
  have GLDraw : FnOk P w K mg base CX0 (k + 2) T.aLDraw T.dLDraw ["_law_source_here", "_law_size"] spSDraw := ok_draw T
  have GLPick : FnOk P w K mg base CX0 (k + 2) T.aLPick T.dLPick ["_law_source_here", "_law_items"] (spSPick K) := ok_pick T
  refine T.fLAlphabet.ok scLAlphabet (fun vs H Q E h => ?_) (fun cdv A outer s H vs Q E hr h => ?_)
  · obtain ⟨d, c, n, t, rfl, _⟩ := h
    rfl
  · obtain ⟨d, c, n, t, rfl, src, hn, ht, q⟩ := h
    refine ⟨_, (pss_cons (ps_set (i := 2) scLAlphabet.nd rfl (Or.inr rfl) (pe_call GLPick hr (by rfl) T.gLPick T.fLPick.kp T.bLPick .nil pass0 (pa_cons (pv 0) (pa_cons (pe_lst (pa_cons pe_int (pa_cons pe_int (pa_cons pe_int (pa_cons pe_int (pa_cons (pe_call GLDraw hr (by rfl) T.gLDraw T.fLDraw.kp T.bLDraw .nil pass0 (pa_cons (pv 0) (pa_cons pe_int pa_nil))) pa_nil)))))) pa_nil))))
      (Evl.pss_cut (ps_set (i := 3) scLAlphabet.nd rfl (Or.inr rfl) (pe_ifExp (pt_cmpR op_gt (pv 2) pe_int (nomark _)) (pe_call GLPick hr (by rfl) T.gLPick T.fLPick.kp T.bLPick .nil pass0 (pa_cons (pv 0) (pa_cons (pe_lst (pa_cons pe_int (pa_cons pe_int (pa_cons pe_int pa_nil)))) pa_nil))) (pe_call GLPick hr (by rfl) T.gLPick T.fLPick.kp T.bLPick .nil pass0 (pa_cons (pv 0) (pa_cons (pe_lst (pa_cons pe_int (pa_cons pe_int (pa_cons pe_int pa_nil)))) pa_nil)))))
      (pss_one (ps_ret (pe_lc (own := [("_law_index", 4)]) (g := gName 4) (tt := tYes) rfl scLAlphabet.nd (pi_range1 (by rfl) T.m_range (pa_cons (pv 1) pa_nil)) (blkOk_by (N := ["_law_source_here", "_law_count", "_law_first", "_law_step", "_law_index"]) (sc := defScope sLAlphabet) (by decide +kernel)) (fun _ _ _ _ _ => pg_name (i := 4) scLAlphabet.nd rfl (Or.inl rfl)) (fun _ _ _ _ _ => pts_nil) (fun _ _ _ _ _ => (pe_op op_add (pv 2) (pe_op op_mul (pv 3) (pv 4))))))))), ?_⟩
    refine ⟨_, rfl, _, rfl, d, c, 900000, t, rfl, src, by decide, by decide, by omega, fun H1 x t1 but1 src1 ht1 x0 x1 => ?_⟩
    refine ⟨by show 5 ≤ sizeLine; decide, fun l1 nl1 => ?_⟩
    have s1 := same_new (o := .lst [V.int 0, V.int 0, V.int 1, V.int 999990, V.int x]) nl1
    refine ⟨d, c, l1, _, t1, rfl, src1.same s1, SqL.of upd_same, (src1.new nl1).1, by show 0 < 5; decide, by show 5 < _; decide, by omega, fun H2 v t2 but2 src2 ht2 hv => ?_⟩
    obtain ⟨f, rfl, f0, f1⟩ : ∃ f : Int, v = .int f ∧ 0 ≤ f ∧ (f = 999990 ∨ f < 900000) := by
      simp only [List.mem_cons, List.not_mem_nil, or_false] at hv
      rcases hv with e | e | e | e | e
      · exact ⟨0, e, by omega, by omega⟩
      · exact ⟨0, e, by omega, by omega⟩
      · exact ⟨1, e, by omega, by omega⟩
      · exact ⟨999990, e, by omega, by omega⟩
      · exact ⟨x, e, by omega, by omega⟩
    have but2' := (but1.trans (But.same s1)).trans but2
    -- the step
    refine ⟨fun σ H' => ∃ (st : Int) (t' : Nat) (o4 : Option V), σ = [some (.ref d), some (.int (n : Nat)), some (.int f), some (.int st), o4] ∧ But d H H' ∧ Src H' d c t' ∧ t' ≤ t2 + 1 ∧ 1 ≤ st ∧ ((f = 999990 ∧ st ≤ 2) ∨ (f < 900000 ∧ st ≤ 20000)), ?_, ?_⟩
    · by_cases e : f > 900000
      · refine ⟨_, rfl, f, 900000, rfl, rfl, true, congrArg V.bl (decide_eq_true e), iteT ?_⟩
        refine ⟨_, rfl, by show 3 ≤ sizeLine; decide, fun l2 nl2 => ?_⟩
        have s2 := same_new (o := .lst [V.int 1, V.int 1, V.int 2]) nl2
        refine ⟨d, c, l2, _, t2, rfl, src2.same s2, SqL.of upd_same, (src2.new nl2).1, by show 0 < 3; decide, by show 3 < _; decide, by omega, fun H3 v3 t3 but3 src3 ht3 hv3 => ?_⟩
        obtain ⟨st, rfl, h1, h2⟩ : ∃ st : Int, v3 = .int st ∧ 1 ≤ st ∧ st ≤ 2 := by
          simp only [List.mem_cons, List.not_mem_nil, or_false] at hv3
          rcases hv3 with e | e | e
          · exact ⟨1, e, by omega, by omega⟩
          · exact ⟨1, e, by omega, by omega⟩
          · exact ⟨2, e, by omega, by omega⟩
        exact ⟨st, t3, _, rfl, (but2'.trans (But.same s2)).trans but3, src3, by omega, h1, .inl ⟨by omega, h2⟩⟩
      · refine ⟨_, rfl, f, 900000, rfl, rfl, false, congrArg V.bl (decide_eq_false e), iteF ?_⟩
        refine ⟨_, rfl, by show 3 ≤ sizeLine; decide, fun l2 nl2 => ?_⟩
        have s2 := same_new (o := .lst [V.int 1, V.int 7, V.int 20000]) nl2
        refine ⟨d, c, l2, _, t2, rfl, src2.same s2, SqL.of upd_same, (src2.new nl2).1, by show 0 < 3; decide, by show 3 < _; decide, by omega, fun H3 v3 t3 but3 src3 ht3 hv3 => ?_⟩
        obtain ⟨st, rfl, h1, h2⟩ : ∃ st : Int, v3 = .int st ∧ 1 ≤ st ∧ st ≤ 20000 := by
          simp only [List.mem_cons, List.not_mem_nil, or_false] at hv3
          rcases hv3 with e | e | e
          · exact ⟨1, e, by omega, by omega⟩
          · exact ⟨7, e, by omega, by omega⟩
          · exact ⟨20000, e, by omega, by omega⟩
        exact ⟨st, t3, _, rfl, (but2'.trans (But.same s2)).trans but3, src3, by omega, h1, .inr ⟨by omega, h2⟩⟩
    · rintro σ H3 ⟨st, t3, o4, rfl, but3, src3, ht3, st1, hst⟩
      refine ⟨_, rfl, n, rfl, by omega, by omega, fun D nD => lc_range (lo := 0) (n := ((n : Nat) : Int).toNat) (fun i H' => Same H3 H' ∧ H' D = some (.lst (((List.range i).map fun j : Nat => f + st * (0 + (j : Int))).map V.int))) ?_ ?_ ?_⟩
      · exact ⟨same_new nD, upd_same⟩
      · rintro i H4 hi ⟨s4, hD⟩
        refine ⟨rfl, _, rfl, _, rfl, _, rfl, st, _, rfl, rfl, .inl ⟨by omega, by omega⟩, f, _, rfl, rfl, _, hD, fitsLt (by
          have : i < ((n : Nat) : Int).toNat := hi
          rw [List.length_map, List.length_map, List.length_range]
          omega), Same.put s4 nD, ?_⟩
        rw [upd_same, List.range_succ, List.map_append, List.map_append]
        rfl
      · rintro H4 ⟨s4, hD⟩
        have nDd : D ≠ d := (src3.new nD).1
        have nD0 : H D = none := but3.none nD nDd
        refine q H4 D _ t3 (but3.trans (But.same s4)) (src3.same s4) (by omega) nD0 nDd hD (by rw [List.length_map, List.length_range]; omega) fun y hy => ?_
        obtain ⟨j, hj, rfl⟩ := List.mem_map.mp hy
        have hj2 := List.mem_range.mp hj
        have hj3 : (j : Int) ≤ 4 := by omega
        have hj4 : (0 : Int) ≤ (j : Int) := by omega
        have e1 : st * (0 + (j : Int)) ≤ st * 4 := Int.mul_le_mul_of_nonneg_left (by omega) (by omega)
        have e2 : 0 ≤ st * (0 + (j : Int)) := Int.mul_nonneg (by omega) (by omega)
        rcases hst with ⟨a1, a2⟩ | ⟨a1, a2⟩ <;> constructor <;> omega
/-- filled: each letter's value, one behind the other -/
def spFilled : Sp := fun vs H Q _ => ∃ (p l : Addr) (us : List Int) (ps : List Addr) (vv : List (List Int)) (B : Nat), vs = [.ref p, .ref l] ∧ H p = some (.tup (us.map V.int)) ∧ H l = some (.lst (ps.map V.ref)) ∧ ps.length = vv.length ∧
  (∀ (j : Nat) (a : Addr), ps[j]? = some a → H a = some (.tup ((vv.getD j []).map V.int))) ∧ (∀ u ∈ us, 0 ≤ u ∧ u < (vv.length : Nat)) ∧ (∀ v ∈ vv, v.length ≤ B) ∧ B * us.length ≤ 90000 ∧
  ∀ H' r, Same H H' → H' r = some (.tup ((us.flatMap fun u => vv.getD u.toNat []).map V.int)) → Q (.ref r) H'
theorem flat_len {vv : List (List Int)} {B : Nat} (h : ∀ v ∈ vv, v.length ≤ B) : ∀ us : List Int, (us.flatMap fun u => vv.getD u.toNat []).length ≤ B * us.length
  | [] => Nat.zero_le _
  | u :: us => by
    have ih := flat_len h us
    rw [List.flatMap_cons, List.length_append, List.length_cons, Nat.mul_succ]
    have : (vv.getD u.toNat []).length ≤ B := by
      rw [List.getD_eq_getElem?_getD]
      cases e : vv[u.toNat]? with
      | none => exact Nat.zero_le _
      | some v => exact h v (List.mem_of_getElem? e)
    omega
theorem ok_filled {k : Nat} (T : Txt K mg) : FnOk P w K mg base CX0 (k + 1) T.aLFilled T.dLFilled ["_law_letters", "_law_values"] spFilled := by
  refine T.fLFilled.ok scLFilled (fun vs H Q E h => ?_) (fun cdv A outer s H vs Q E hr h => ?_)
  · obtain ⟨p, l, us, ps, vv, B, rfl, _⟩ := h
    rfl
  · obtain ⟨p, l, us, ps, vv, B, rfl, hp, hl, hpv, hps, hu, hv, hus, q⟩ := h
    refine ⟨_, (pss_cons (ps_set (i := 2) scLFilled.nd rfl (Or.inl rfl) (pe_tup pa_nil))
      (pss_cons (ps_for PassesOwn.never rfl (pi_tup (pv 0)) (pg_name (i := 3) scLFilled.nd rfl (Or.inl rfl)) (pss_one (ps_set (i := 2) scLFilled.nd rfl (Or.inl rfl) (pe_op op_catA (pv 2) (pe_ix ix_list (pv 1) (pv 3) (fun _ _ => rfl))))))
      (pss_one (ps_ret (pv 2))))), ?_⟩
    refine ⟨Nat.zero_le _, fun z nz => ?_⟩
    have s1 := same_new (o := .tup []) nz
    refine ⟨_, rfl, p, rfl, ⟨_, SqT.of (s1 _ _ hp)⟩, for_tup (K := K) (a := p) (xs := us.map V.int) (fun i σ H' => ∃ (r : Addr) (o3 : Option V), σ = [some (.ref p), some (.ref l), some (.ref r), o3] ∧ Same H H' ∧ H' r = some (.tup (((us.take i).flatMap fun u => vv.getD u.toNat []).map V.int))) ?_ ?_ ?_ ?_⟩
    · exact ⟨z, _, rfl, s1, upd_same⟩
    · rintro i σ H2 _ ⟨r, o3, rfl, s2, _⟩
      exact SqT.of (s2 _ _ hp)
    · rintro i x σ H2 hx ⟨r, o3, rfl, s2, hr2⟩
      rw [List.getElem?_map] at hx
      cases e : us[i]? with
      | none => rw [e] at hx; cases hx
      | some u =>
        rw [e] at hx
        cases hx
        have hu1 := hu u (List.mem_of_getElem? e)
        obtain ⟨j, rfl⟩ : ∃ j : Nat, u = j := ⟨u.toNat, by omega⟩
        have hj : j < ps.length := by omega
        have ha := hps j ps[j] (List.getElem?_eq_getElem hj)
        have hvl : (vv.getD j []).length ≤ B := by
          rw [List.getD_eq_getElem?_getD, List.getElem?_eq_getElem (by omega)]
          exact hv _ (List.getElem_mem _)
        have hfl := flat_len hv (us.take i)
        have hi := (List.getElem?_eq_some_iff.mp e).1
        have hm : B * (i + 1) ≤ B * us.length := Nat.mul_le_mul_left _ hi
        rw [List.length_take, Nat.min_eq_left (Nat.le_of_lt hi)] at hfl
        rw [Nat.mul_succ] at hm
        refine ⟨_, rfl, _, rfl, _, rfl, l, _, _, .ref ps[j], rfl, rfl, SqL.of (s2 _ _ hl), atI_nat (by rw [List.getElem?_map, List.getElem?_eq_getElem hj]; rfl), ?_⟩
        refine catA_any hr2 (s2 _ _ ha) (fits5 (by rw [List.length_map, List.length_map]; omega)) fun r2 H3 s3 h3 _ => ⟨r2, _, rfl, s2.trans s3, ?_⟩
        have ei : us.take (i + 1) = us.take i ++ [(j : Int)] := by
          rw [List.take_succ, e]
          rfl
        rw [h3, ei, List.flatMap_append, List.map_append]
        simp only [List.flatMap_cons, List.flatMap_nil, List.append_nil, Int.toNat_natCast]
    · rintro σ H2 ⟨r, o3, rfl, s2, hr2⟩
      rw [List.length_map, List.take_length] at hr2
      exact ⟨_, rfl, q H2 r s2 hr2⟩
end
end Mo

/-! ### data written out: new, and holding nothing that was there -/
namespace Mo
open PySem PySem.Spec PyProof.Rows L2
def Was (H0 : Hp) : Addr → Prop := fun a => H0 a ≠ none
theorem Was.mono {H H' : Hp} (s : Same H H') {b : Addr} (h : Was H b) : Was H' b := by
  cases e : H b with
  | none => exact absurd e h
  | some o =>
    unfold Was
    rw [s _ _ e]
    exact Option.some_ne_none _
def LitE (te : TE) (d : PyData) : Prop := ∀ σ H Q, (∀ H' v, Same H H' → Dx (Was H) H' v d → Q v H') → te σ H Q
def LitA (ta : TA) (ds : List PyData) : Prop := ∀ σ H Q, (∀ H' vs, Same H H' → DxAll (Was H) H' vs ds → Q vs H') → ta σ H Q
theorem LitE.use {te : TE} {d : PyData} (h : LitE te d) {σ : L2.St} {H : Hp} {Q : VK} (q : ∀ H' v, Same H H' → Dx (Was H) H' v d → Q v H') : te σ H Q := h σ H Q q
theorem lit_non : LitE (tC .non) .none := fun _ _ _ q => q _ _ (Same.refl _) .non
theorem lit_bl {b : Bool} : LitE (tC (.bl b)) (.bool b) := fun _ _ _ q => q _ _ (Same.refl _) (.bl b)
theorem lit_int {i : Int} : LitE (tC (.int i)) (.int i) := fun _ _ _ q => q _ _ (Same.refl _) (.int i)
theorem lit_str {x : Str} : LitE (tC (.str x)) (.str x) := fun _ _ _ q => q _ _ (Same.refl _) (.str x)
theorem lit_neg {i : Int} : LitE (tUn (rU fun i => .int (-i)) (tC (.int i))) (.int (-i)) := fun _ _ _ q => ⟨i, rfl, q _ _ (Same.refl _) (.int _)⟩
theorem lit_pow {i j : Int} (h : CPow i j) : LitE (tOp (rI CPow fun i j => .int (i ^ j.toNat)) (tC (.int i)) (tC (.int j))) (.int (i ^ j.toNat)) := fun _ _ _ q => ⟨i, j, rfl, rfl, h, q _ _ (Same.refl _) (.int _)⟩
theorem lit_nil : LitA tNil [] := fun _ _ _ q => q _ _ (Same.refl _) .nil
theorem lit_cons {te : TE} {ta : TA} {d : PyData} {ds : List PyData} (h : LitE te d) (g : LitA ta ds) : LitA (tCons te ta) (d :: ds) := fun σ H Q q =>
  h σ H _ fun H1 v s1 hv => g σ H1 _ fun H2 vs s2 hvs => q H2 (v :: vs) (s1.trans s2) (.cons (hv.same s2) (hvs.more fun b _ z => Was.mono s1 z))
theorem lit_tup {t : TA} {ds : List PyData} (h : LitA t ds) (hl : ds.length ≤ 1000 := by decide) : LitE (tTup t) (.tuple ds) := fun σ H Q q =>
  h σ H _ fun H1 vs s1 hx => ⟨Nat.le_of_lt (small1000 (by rw [hx.length]; exact hl)), fun p np => q _ _ (s1.trans (same_new np)) (.tup upd_same (fun z => z (s1.free np)) (hx.same (same_new np)))⟩
theorem lit_lst {t : TA} {ds : List PyData} (h : LitA t ds) (hl : ds.length ≤ 1000 := by decide) : LitE (tLst t) (.list ds) := fun σ H Q q =>
  h σ H _ fun H1 vs s1 hx => ⟨Nat.le_of_lt (small1000 (by rw [hx.length]; exact hl)), fun p np => q _ _ (s1.trans (same_new np)) (.lst upd_same (fun z => z (s1.free np)) (hx.same (same_new np)))⟩
theorem lit_dnew : LitE tDNewK (.dict []) := fun σ H Q q p np => q _ _ (same_new np) (.dct (kvs := []) (ds := []) upd_same (fun z => z np) .nil)
theorem lit_disp1 {k : Key} {tv : TE} {d : PyData} (h : LitE tv d) : LitE (tDisp [(tC (kV k), tv)]) (.dict [(keyD k, d)]) := fun σ H Q q p np =>
  h σ _ _ fun H1 v s1 hv => ⟨s1 _ _ upd_same, [(k, v)], rfl, by show 1 ≤ 15; decide, by
    have n1 : H p = none := np
    have e : mergeK [] [(k, v)] = [(k, v)] := rfl
    rw [e]
    refine q _ _ (Same.put ((same_new np).trans s1) np) (.dct (kvs := [(k, v)]) (ds := [d]) upd_same (fun z => z np) (.cons ?_ .nil))
    refine (hv.more (N' := fun b => Was H b ∨ b = p) fun b _ z => z.elim (fun z => Was.mono (same_new np) z) (fun z => ?_)).but ?_ |>.more fun b _ z => .inl z
    · subst z
      unfold Was
      rw [upd_same]
      exact Option.some_ne_none _
    · intro b o nb e
      rw [upd_ne fun z => nb (.inr z)]
      exact e⟩
theorem lit_dispS {x : Str} {tv : TE} {d : PyData} (h : LitE tv d) : LitE (tDisp [(tC (.str x), tv)]) (.dict [(.str x, d)]) := lit_disp1 (k := .inr x) h
theorem lit_dispI {i : Int} {tv : TE} {d : PyData} (h : LitE tv d) : LitE (tDisp [(tC (.int i), tv)]) (.dict [(.int i, d)]) := lit_disp1 (k := .inl i) h
/-! what stands behind -/
theorem lst_dx {N : Addr → Prop} {H : Hp} {x : V} {ds : List PyData} (h : Dx N H x (.list ds)) : ∃ a xs, x = .ref a ∧ H a = some (.lst xs) ∧ ¬ N a ∧ DxAll N H xs ds := by
  generalize e : PyData.list ds = d at h
  cases h with
  | lst h n t => obtain rfl := PyData.list.inj e; exact ⟨_, _, rfl, h, n, t⟩
  | _ => cases e
theorem tpl_dx {N : Addr → Prop} {H : Hp} {x : V} {ds : List PyData} (h : Dx N H x (.tuple ds)) : ∃ a xs, x = .ref a ∧ H a = some (.tup xs) ∧ ¬ N a ∧ DxAll N H xs ds := by
  generalize e : PyData.tuple ds = d at h
  cases h with
  | tup h n t => obtain rfl := PyData.tuple.inj e; exact ⟨_, _, rfl, h, n, t⟩
  | _ => cases e
theorem keyD_inj : ∀ {a b : Key}, keyD a = keyD b → a = b
  | .inl _, .inl _, h => congrArg Sum.inl (PyData.int.inj h)
  | .inr _, .inr _, h => congrArg Sum.inr (PyData.str.inj h)
  | .inl _, .inr _, h => by cases h
  | .inr _, .inl _, h => by cases h
theorem dct1_dx {N : Addr → Prop} {H : Hp} {x : V} {k : Key} {e : PyData} (h : Dx N H x (.dict [(keyD k, e)])) : ∃ a u, x = .ref a ∧ H a = some (.dK [(k, u)]) ∧ ¬ N a ∧ Dx N H u e := by
  generalize q : PyData.dict [(keyD k, e)] = d at h
  cases h with
  | @dct a kvs ds h n t =>
    have q1 := PyData.dict.inj q
    cases kvs with
    | nil => cases t; cases q1
    | cons kv r =>
      cases t with
      | @cons _ _ d ds h1 t =>
        rw [List.map_cons, List.zip_cons_cons] at q1
        have q2 := List.cons.inj q1
        have q3 := Prod.mk.inj q2.1
        cases r with
        | nil =>
          cases t
          obtain ⟨k', u⟩ := kv
          have : k = k' := keyD_inj q3.1
          subst this
          refine ⟨a, u, rfl, h, n, ?_⟩
          rw [q3.2]
          exact h1
        | cons kv2 r =>
          cases t with
          | cons h2 t => cases q2.2
  | _ => cases q
end Mo

/-! ### lambdas without parameters, handed to a def that calls them within a try -/
namespace Mo
open PySem PySem.Spec PyProof.Rows L2
section
variable {P : Program} {w : World} {K : PySem.W.Frag} {mg : Str → Option Value} {base : Heap} {k : Nat} {f c : Addr} {fd : FuncData} {ps : List Str} {sp : Sp}
/-- a def that raises nothing, the place of its code object told -/
theorem okT {x qual : Str} {st : Stmt} {N : List Str} (F : Fun K x qual st f fd) (hc : fd.code = .ref c) (S : FnScope N ps (defScope st)) (len : ∀ vs H Q E, sp vs H Q E → vs.length = ps.length)
    (hbody : ∀ (A : Around) (outer : List Env) (s : Shared) (H : Hp) (vs : List V) (Q : VK) (E : XK), Room k (A.deeper (envOfC qual (defScope st) s.heap.objs.size f (.ref c))) → A.guards = some [] → sp vs H Q E →
      ∃ t, PSs (cxOf CX0 P w K mg base N qual (defScope st) f (.ref c) A outer s H E).nox (defBody st) t ∧ t { nx := fun _ H' => Q .non H', rt := Q } (start N vs) H) : FnG P w K mg base CX0 (k + 1) f fd ps sp := by
  obtain ⟨oc, od, kV, doc, pm, an, cdv, ct, osl, rfl, lk, hcd⟩ := F.ex
  obtain rfl : cdv = .ref c := hc
  refine ⟨len, fun A outer s H args us vs Q E hr hg e0 hb r hsp => ?_⟩
  have stays : ∀ b o, base.get? b = some o → s.heap.get? b = some o := fun b o e => (e0.bs b o e).1
  have KX : K.In s.heap := e0.mod.kin.keeps stays
  have kinds : ∀ y ∈ ps.zip us, (defScope st).names.lookup y.1 = some .local ∨ ((defScope st).names.lookup y.1 = some .cell ∧ ((cellsFrom (s.heap.objs.size + 1) (defScope st).names []).lookup y.1).isSome = true) := fun y hy =>
    (S.par y.1 (List.of_mem_zip (a := y.1) (b := y.2) hy).1).elim .inl fun q => .inr ⟨q, PySem.W.cellsFrom_some _ _ _ (.inl q)⟩
  refine codeAny_call_function hr.depth (KX _ _ lk) rfl S.co S.gen rfl (PySem.W.codeRec_of KX hcd) (hb _ _ _ _ (wpAny_newFunctionEnv_cells S.kind kinds fun env he s1 x => ?_))
  subst he
  refine ⟨(e0.mod.nolimit.keeps stays).keeps x.toInCall.keep, codeAny_func ?_⟩
  obtain ⟨t, ht, hq⟩ := hbody A outer s H vs Q E (hr.deeper _) hg hsp
  have I : Inv (cxOf CX0 P w K mg base N qual (defScope st) f (.ref c) A outer s H E) [] (start N vs) H s1 := inv_start S hr.hd e0 (len _ _ _ _ hsp) r x
  refine wpAny_mono (ht.nox.run [] s1 (start N vs) H _ I hq) (fun fl s' hs => ?_) fun e s' hs => hs
  cases fl with
  | ret u => exact hs.elim fun v z => z.elim fun σ' z => z.elim fun H' z => ⟨v, H', z.1.os, z.1.bare, z.1.base, z.1.hok, z.2.1, z.2.2⟩
  | next => exact hs.elim fun σ' z => z.elim fun H' z => ⟨V.non, H', z.1.os, z.1.bare, z.1.base, z.1.hok, rfl, z.2⟩
  | brk => exact hs.elim fun _ z => z.elim fun _ z => z.2.elim
  | cont => exact hs.elim fun _ z => z.elim fun _ z => z.2.elim
end
/-- the call of what was got: it stands in slot i; what it lets out is wished by W there -/
def tAct (i : Nat) (fn cc : Addr) (q : Str) (tl : XK → Hp → VK → Prop) (W : WX) : TE := fun σ H Q =>
  σ[i]? = some (some (.ref fn)) ∧ H cc = some (LamX.CodeO cc q) ∧ ∃ E : XK, (∀ cls d H', E cls d H' → W cls d σ H') ∧ tl E H Q
section
variable {X : Cx} {pins : List (Addr × Obj)} {σ : L2.St} {H : Hp} {s : Shared}
theorem pe_actS {CXg : CXT} {Eg : XK} {Ng : List Str} {qg : Str} {sg : Scope} {g fn cc : Addr} {cdg pm ctv : Value} {params : Arguments} {body : Expr} {scope : Scope} {k i : Nat} {a : Str} {pn : List (Addr × Obj)} {xe : Value → Shared → Prop} {W : WX} {tb : XK → TE} {p1 p2 : Pos}
    (I : Inv X pins σ H s) (L : LamX.LamS X.env.scope scope) (hf : s.heap.get? fn = some (PySem.W.kla_obj "<lambda>" (X.env.qual ++ "<lambda>") params body scope (cloFrom X.env.cells scope.names []) pm cc ctv)) (nfn : H fn = none) (frn : fn ∉ frs X.stack)
    (hbind : bindArgs (PySem.W.kla_fn "<lambda>" (X.env.qual ++ "<lambda>") params body scope (cloFrom X.env.cells scope.names []) pm (.ref cc) ctv) ⟨[], []⟩ = pure [])
    (tk : Takes ((cxOf CXg X.prog X.w X.K X.mg X.base Ng qg sg g cdg X.A X.stack s H Eg).tr pn xe) W) (hr : Room (k + 1) (X.A.deeper (envOfC qg sg s.heap.objs.size g cdg)))
    (hbody : ∀ (A : Around) (outer : List Env) (s' : Shared) (H' : Hp) (E : XK), Room k (A.deeper (LamX.lamEnv X scope s'.heap.objs.size fn cc)) → A.guards = X.A.guards → PE (LamX.lamCx X A outer s' H' E scope fn cc) body (tb E))
    (hN : Ng[i]? = some a) (hv : Vis sg a) (hd : (a == ("__debug__" : Str)) = false := by decide) (hcd : (a == ("__classdict__" : Str)) = false := by decide) :
    PE ((cxOf CXg X.prog X.w X.K X.mg X.base Ng qg sg g cdg X.A X.stack s H Eg).tr pn xe) (.Call (.Name a p1) [] [] p2) (tAct i fn cc (X.env.qual ++ "<lambda>") (fun E H' Q' => tb E σ H' Q') W) := by
  refine ⟨fun pinsZ sZ σZ HZ Q IZ want => ?_⟩
  obtain ⟨at_i, at_c, E, toW, told⟩ := want
  refine wpAny_Call_Name_kw (thn ((pe_var (pos := p1) (i := i) hN hv hd hcd).run pinsZ sZ σZ HZ (fun v H1 => v = .ref fn ∧ H1 = HZ) IZ ⟨.ref fn, at_i, rfl, rfl⟩) fun u s1 got => ?_)
  obtain ⟨v, H1, J1, rv, ev, eH⟩ := got
  subst ev
  subst eH
  obtain rfl : u = Value.ref fn := rv
  have stands := J1.base.keep fn _ hf nfn frn (fun z => nomatch (show fn ∈ ([] : List Addr) from z))
  refine PySem.W.callWith_F0 ⟨_, _, _, _, stands⟩ ?_
  have kept : Un (frs X.stack) [] H H1 s.heap s1.heap := J1.base
  obtain ⟨⟨ob, us, tk1, g1, g2, g3⟩, _, _⟩ := J1.hok cc _ at_c
  have runs : codeAny (model X.prog X.w) (X.A.deeper (envOfC qg sg s.heap.objs.size g cdg)) (.call (.ref fn) ⟨[], []⟩) (CR (L2.CX X.prog X.w) (envOfC qg sg s.heap.objs.size g cdg :: X.stack) X.prog X.w H1 s1 Q E) s1 := by
    refine PySem.W.kla_callFunE hr.depth stands rfl L.co L.gen rfl ⟨cc, ob, us, tk1, rfl, g1, g2, g3⟩ ?_
    rw [hbind]
    refine wpAny_pure (wpAny_newFunctionEnv (fun y hy => (L.own y hy).2) (fun y hy => absurd hy (by simp)) (fun h₂ names sub => ⟨J1.nolimit.fresh _ sub, ?_⟩) L.kind)
    show codeAny _ _ (.expr body (LamX.lamEnv X scope s1.heap.objs.size fn cc)) _ _
    have old : ∀ b o, s1.heap.get? b = some o → h₂.get? b = some o := fun b o e => sub.extBut b o (Nat.ne_of_lt (Heap.lt_size e)) (Heap.get?_push_of_some _ e)
    have J : Inv (LamX.lamCx X (X.A.deeper (envOfC qg sg s.heap.objs.size g cdg)) (envOfC qg sg s.heap.objs.size g cdg :: X.stack) s1 H1 E scope fn cc) [] σ H1 { s1 with heap := h₂, toks := s1.toks + ([] : List (Str × Value)).length } := LamX.lam_start2 I L J1.env0 hr.hd kept names old
    refine PySem.W.kla_codeExpr (wpAny_mono ((hbody _ _ s1 H1 E (hr.deeper _) rfl).run [] _ _ H1 Q J told) (fun v s' hq => hq.elim fun w' z => z.elim fun H' z => ⟨w', H', z.1.os, z.1.bare, z.1.base, z.1.hok, z.2.1, z.2.2⟩) fun e s' hq => hq)
  refine wpAny_call (codeAny_mono runs fun r s' hq => ?_)
  cases r with
  | error e => exact tk e s' (XE.of_call J1 (fun cls d H' h => toW cls d H' h) hq)
  | ok fl =>
    cases fl with
    | ret u => exact J1.after hq
    | next => exact hq.elim
    | brk => exact hq.elim
    | cont => exact hq.elim
/-- the def that calls what it got, by its body; TT: what it makes of the lambda's reading -/
def Gives (X : Cx) (Ng : List Str) (x : Str) (sg : Scope) (g : Addr) (cdg : Value) (bg : List Stmt) (a : Str) (q : Str) (k : Nat) (TT : (XK → Hp → VK → Prop) → Hp → VK → Prop) : Prop :=
  ∀ (fn cc : Addr) (s : Shared) (H : Hp) (Q : VK) (tl : XK → Hp → VK → Prop), Room (k + 1) (X.A.deeper (envOfC x sg s.heap.objs.size g cdg)) →
    (∀ (W : WX) (pn : List (Addr × Obj)) (xe : Value → Shared → Prop) (p1 p2 : Pos), Takes ((cxOf CX0 X.prog X.w X.K X.mg X.base Ng x sg g cdg X.A X.stack s H C8.E0).nox.tr pn xe) W →
      PE ((cxOf CX0 X.prog X.w X.K X.mg X.base Ng x sg g cdg X.A X.stack s H C8.E0).nox.tr pn xe) (.Call (.Name a p1) [] [] p2) (tAct 0 fn cc q tl W)) →
    H cc = some (LamX.CodeO cc q) → TT tl H Q →
    ∃ t, PSs (cxOf CX0 X.prog X.w X.K X.mg X.base Ng x sg g cdg X.A X.stack s H C8.E0).nox bg t ∧ t { nx := fun _ H' => Q .non H', rt := Q } (L2.start Ng [.ref fn]) H
end
section
variable {X : Cx}
/-- x(lambda: body) -/
theorem pe_lam {T : List (Addr × Str)} {TT : (XK → Hp → VK → Prop) → Hp → VK → Prop} {x a : Str} {g c P : Addr} {k : Nat} {st : Stmt} {fd : FuncData} {Ng : List Str} {params : Arguments} {body : Expr} {scope : Scope} {t : XK → TE} {p lpos pos : Pos}
    (F : Fun X.K x x st g fd) (hb : L2.Binds X.K fd [a] []) (Sg : FnScope Ng [a] (defScope st)) (hg : Gl X x) (hm : X.mg x = some (.ref g)) (hNg : Ng[0]? = some a) (hva : Vis (defScope st) a)
    (hG : ∀ cdv : Value, Gives X Ng x (defScope st) g cdv (defBody st) a (X.env.qual ++ "<lambda>") k TT)
    (TB : LamX.TabB X.base X.mg c P) (hcode : X.env.code = .ref c) (hmT : (P, X.env.qual ++ "<lambda>") ∈ T) (hu : ∀ p ∈ T, p.1 = P → p.2 = X.env.qual ++ "<lambda>") (hr : Room (k + 2) X.A) (L : LamX.LamS X.env.scope scope) (hdef : defaultsOf params X.env = ([], []))
    (hbind : ∀ (q : Str) (cl : List (Str × Addr)) (pm cv ctv : Value), bindArgs (PySem.W.kla_fn "<lambda>" q params body scope cl pm cv ctv) ⟨[], []⟩ = pure [])
    (hbody : ∀ (A : Around) (outer : List Env) (s' : Shared) (H' : Hp) (E : XK) (fn cc : Addr), Room k (A.deeper (LamX.lamEnv X scope s'.heap.objs.size fn cc)) → A.guards = X.A.guards → PE (LamX.lamCx X A outer s' H' E scope fn cc) body (t E))
    (hdb : (x == ("__debug__" : Str)) = false := by decide) (hd : (a == ("__debug__" : Str)) = false := by decide) (hcd : (a == ("__classdict__" : Str)) = false := by decide) :
    PE X (.Call (.Name x p) [.Lambda params body scope lpos] [] pos) (LamX.tLam T TT t) := by
  refine ⟨fun pins s σ H Q I want => ?_⟩
  obtain ⟨oc, od, kV, doc, pm, an, cdv, ct, osl, rfl, lk, hcg⟩ := F.ex
  obtain ⟨tabs, told⟩ := want
  refine wpAny_Call_Name_kw (ld_glob I hg hm (PySem.W.callWith_K (h₀ := X.base) I.ok.mod.kin F.kp ?_ (by rfl) (by rfl)) hdb)
  show wpAny _ _ (spliced ((false, eval (.Lambda params body scope lpos) X.env) :: backTo pos (starEach [] X.env))) _ _ s
  refine Calls.spliced_cons (LamX.lam_make2 I TB hcode hmT hu tabs hdef (L.has I.ok) fun fn cc pm' ctv H1 s1 J ext tabs1 stands nfn frn hco => Calls.spliced_nil ⟨J.kIn, ?_⟩)
  have runs : codeAny (model X.prog X.w) X.A (.call (.ref g) ⟨[.ref fn], []⟩) (CR CX0 X.stack X.prog X.w H1 s1 Q C8.E0) s1 := by
    refine LamX.run_ofS (N := Ng) (ps := [a]) (us := [.ref fn]) (vs := [.ref fn]) lk hcg Sg hr J.env0 (hb s1 [.ref fn] J.kIn rfl) (.cons rfl .nil) rfl fun hr1 => ?_
    obtain ⟨t1, ht1, hq1⟩ := hG cdv fn cc s1 H1 Q (fun E H' Q' => t E σ H' Q') hr1 (fun W pn xe p1 p2 tk => pe_actS (CXg := CX0) (Eg := C8.E0) (i := 0) J L stands nfn frn (hbind _ _ _ _ _) tk hr1 (fun A outer s' H' E hr2 hgu => hbody A outer s' H' E fn cc hr2 hgu) hNg hva hd hcd) hco (told H1 ext tabs1)
    exact ⟨t1, ht1.nox, hq1⟩
  refine wpAny_call (codeAny_mono runs fun r s2 hq => ?_)
  cases r with
  | error e => exact (show False from hq).elim
  | ok fl =>
    cases fl with
    | ret u => exact J.after hq
    | next => exact hq.elim
    | brk => exact hq.elim
    | cont => exact hq.elim
end
end Mo

/-! ### kinds of data, counts among data of any kind, tables of code objects kept -/
namespace Mo
open PySem PySem.Spec PyProof.Rows L2
def isIntD : PyData → Bool
  | .int _ | .bool _ => true
  | _ => false
def isBoolD : PyData → Bool
  | .bool _ => true
  | _ => false
def isStrD : PyData → Bool
  | .str _ => true
  | _ => false
def isTupD : PyData → Bool
  | .tuple _ => true
  | _ => false
theorem kit_int : ∀ d : PyData, kitB (tyD d) "int" = some (isIntD d)
  | .none => by show kitB "NoneType" "int" = some false; decide +kernel
  | .bool _ => by show kitB "bool" "int" = some true; decide +kernel
  | .int _ => by show kitB "int" "int" = some true; decide +kernel
  | .str _ => by show kitB "str" "int" = some false; decide +kernel
  | .list _ => by show kitB "list" "int" = some false; decide +kernel
  | .tuple _ => by show kitB "tuple" "int" = some false; decide +kernel
  | .dict _ => by show kitB "dict" "int" = some false; decide +kernel
theorem kit_bool : ∀ d : PyData, kitB (tyD d) "bool" = some (isBoolD d)
  | .none => by show kitB "NoneType" "bool" = some false; decide +kernel
  | .bool _ => by show kitB "bool" "bool" = some true; decide +kernel
  | .int _ => by show kitB "int" "bool" = some false; decide +kernel
  | .str _ => by show kitB "str" "bool" = some false; decide +kernel
  | .list _ => by show kitB "list" "bool" = some false; decide +kernel
  | .tuple _ => by show kitB "tuple" "bool" = some false; decide +kernel
  | .dict _ => by show kitB "dict" "bool" = some false; decide +kernel
theorem kit_str : ∀ d : PyData, kitB (tyD d) "str" = some (isStrD d)
  | .none => by show kitB "NoneType" "str" = some false; decide +kernel
  | .bool _ => by show kitB "bool" "str" = some false; decide +kernel
  | .int _ => by show kitB "int" "str" = some false; decide +kernel
  | .str _ => by show kitB "str" "str" = some true; decide +kernel
  | .list _ => by show kitB "list" "str" = some false; decide +kernel
  | .tuple _ => by show kitB "tuple" "str" = some false; decide +kernel
  | .dict _ => by show kitB "dict" "str" = some false; decide +kernel
theorem kit_tup : ∀ d : PyData, kitB (tyD d) "tuple" = some (isTupD d)
  | .none => by show kitB "NoneType" "tuple" = some false; decide +kernel
  | .bool _ => by show kitB "bool" "tuple" = some false; decide +kernel
  | .int _ => by show kitB "int" "tuple" = some false; decide +kernel
  | .str _ => by show kitB "str" "tuple" = some false; decide +kernel
  | .list _ => by show kitB "list" "tuple" = some false; decide +kernel
  | .tuple _ => by show kitB "tuple" "tuple" = some true; decide +kernel
  | .dict _ => by show kitB "dict" "tuple" = some false; decide +kernel
def plainD (d : PyData) : Bool := isIntD d && !isBoolD d
/-- a question about data -/
def spAsk (f : PyData → Bool) : Sp := fun vs H Q _ => ∃ (N : Addr → Prop) (x : V) (d : PyData), vs = [x] ∧ Dx N H x d ∧ d.bulk ≤ 1000000 ∧ ∀ H', Same H H' → Q (.bl (f d)) H'
theorem plain_int : ∀ {N : Addr → Prop} {H : Hp} {x : V} {d : PyData}, Dx N H x d → plainD d = true → ∃ i : Int, x = .int i ∧ d = .int i := by
  intro N H x d h e
  cases h with
  | int i => exact ⟨i, rfl, rfl⟩
  | _ => exact absurd (show false = true from e) (by decide)
def isListD : PyData → Bool
  | .list _ => true
  | _ => false
def isDictD : PyData → Bool
  | .dict _ => true
  | _ => false
theorem kit_list : ∀ d : PyData, kitB (tyD d) "list" = some (isListD d)
  | .none => by show kitB "NoneType" "list" = some false; decide +kernel
  | .bool _ => by show kitB "bool" "list" = some false; decide +kernel
  | .int _ => by show kitB "int" "list" = some false; decide +kernel
  | .str _ => by show kitB "str" "list" = some false; decide +kernel
  | .list _ => by show kitB "list" "list" = some true; decide +kernel
  | .tuple _ => by show kitB "tuple" "list" = some false; decide +kernel
  | .dict _ => by show kitB "dict" "list" = some false; decide +kernel
/-- an integer from a to b -/
def cntB (a b : Int) : PyData → Bool
  | .int i => decide (a ≤ i) && decide (i ≤ b)
  | _ => false
/-- check_count: nothing, or InvalidCount with the very value -/
def spCnt (C : Addr) : Sp := fun vs H Q E => ∃ (N : Addr → Prop) (x : V) (d : PyData) (a b : Int), vs = [x, .int a, .int b] ∧ Dx N H x d ∧ d.bulk ≤ 1000000 ∧ (cntB a b d = true → ∀ H', Same H H' → Q .non H') ∧
  (cntB a b d = false → ∀ dd H', H dd = none → Same H H' → H' dd = some (.xd [("value", x)]) → E (.ref C) (some dd) H')
theorem cnt_no {a b : Int} {d : PyData} (h : plainD d = false) : cntB a b d = false := by
  cases d <;> first | rfl | exact absurd (show true = false from h) (by decide)
/-! more written data -/
theorem lit_negE {te : TE} {i : Int} (h : LitE te (.int i)) : LitE (tUn (rU fun i => .int (-i)) te) (.int (-i)) := fun σ H Q q => h σ H _ fun H' v s hv => by
  cases hv
  exact ⟨i, rfl, q _ _ s (.int _)⟩
/-! nothing is changed but tables -/
mutual
theorem Dx.tabs {N : Addr → Prop} {H H' : Hp} (s : LamX.ExtN H H') : ∀ {v : V} {d : PyData}, Dx N H v d → Dx N H' v d
  | _, _, .non => .non
  | _, _, .bl b => .bl b
  | _, _, .int i => .int i
  | _, _, .str x => .str x
  | _, _, .lst h n a => .lst (s _ _ h (fun _ z => nomatch z)) n (DxAll.tabs s a)
  | _, _, .tup h n a => .tup (s _ _ h (fun _ z => nomatch z)) n (DxAll.tabs s a)
  | _, _, .dct h n a => .dct (s _ _ h (fun _ z => nomatch z)) n (DxAll.tabs s a)
theorem DxAll.tabs {N : Addr → Prop} {H H' : Hp} (s : LamX.ExtN H H') : ∀ {v : List V} {d : List PyData}, DxAll N H v d → DxAll N H' v d
  | _, _, .nil => .nil
  | _, _, .cons a b => .cons (Dx.tabs s a) (DxAll.tabs s b)
end
theorem Tabs.same {T : List (Addr × Str)} {H H' : Hp} (t : LamX.Tabs T H) (s : Same H H') : LamX.Tabs T H' := t.ext s
theorem Tabs.but {T : List (Addr × Str)} {H H' : Hp} {d : Addr} {kvs : List (Key × V)} (t : LamX.Tabs T H) (hd : H d = some (.dK kvs)) (s : But d H H') : LamX.Tabs T H' := fun p hp => by
  obtain ⟨ps, h1, h2, h3⟩ := t p hp
  refine ⟨ps, s _ _ (fun z => ?_) h1, h2, fun pos cv hc => ?_⟩
  · rw [z, hd] at h1
    cases h1
  · obtain ⟨c, e1, e2⟩ := h3 pos cv hc
    refine ⟨c, e1, s _ _ (fun z => ?_) e2⟩
    rw [z, hd] at e2
    cases e2
theorem tabs_nil {H : Hp} {P : Addr} {q : Str} (h : H P = some (.tbl #[])) : LamX.Tabs [(P, q)] H := fun p hp => by
  rw [List.mem_singleton.mp hp]
  exact LamX.TabS.nil h
end Mo
namespace Mo
open PySem PySem.Spec PyProof.Rows L2
/-- while, by a word and a measure; the test's own reading told as it stands -/
theorem while_raw {c : TT} {tb : TS} {D : Ends} {σ : L2.St} {H : Hp} (Pv : L2.St → Hp → Prop) (μ : L2.St → Hp → Nat) (h0 : Pv σ H)
    (hs : ∀ σ H, Pv σ H → c σ H fun b H1 => if b = true then ∃ N : L2.St → Hp → Prop, (∀ σ' H', N σ' H' → ∃ m', m' < μ σ H ∧ m' = μ σ' H' ∧ Pv σ' H') ∧ tb { D with nx := N, ct := N, bk := D.nx } σ H1 else D.nx σ H1) : tWhile c tb D σ H :=
  ⟨fun m σ H => m = μ σ H ∧ Pv σ H, ⟨_, rfl, h0⟩, fun m σ H p => by
    obtain ⟨rfl, p⟩ := p
    exact hs σ H p⟩
/-- an odd value: small, and no integer from 0 on -/
structure OddD (e : PyData) : Prop where
  fit : Fit 30 100 3 e
  no : ∀ a b : Int, 0 ≤ a → cntB a b e = false
theorem fitI {B W D : Nat} {i : Int} (h : i.natAbs < 10 ^ B) (hW : 1 ≤ W) : Fit B W D (.int i) := ⟨by simp only [okD]; exact h, by simp only [PyData.bulk]; exact Nat.zero_le _, by simp only [PyData.depth]; exact Nat.zero_le _⟩
theorem odd_neg {i : Int} (h : i.natAbs < 10 ^ 30) (hn : i < 0) : OddD (.int i) := ⟨fitI h (by decide), fun a b ha => by
  show (decide (a ≤ i) && decide (i ≤ b)) = false
  rw [decide_eq_false (show ¬ a ≤ i by omega)]
  rfl⟩
theorem odd_bl (b : Bool) : OddD (.bool b) := ⟨⟨by simp [okD], by simp [PyData.bulk], by simp [PyData.depth]⟩, fun _ _ _ => rfl⟩
theorem odd_non : OddD .none := ⟨⟨by simp [okD], by simp [PyData.bulk], by simp [PyData.depth]⟩, fun _ _ _ => rfl⟩
theorem odd_str {x : Str} (h : ∀ c ∈ x.cps.toList, c < 128) (hl : x.cps.size ≤ 50) : OddD (.str x) := ⟨⟨by simp only [okD]; exact h, by simp only [PyData.bulk]; omega, by simp [PyData.depth]⟩, fun _ _ _ => rfl⟩
theorem odd_tup1 {i : Int} (h : i.natAbs < 10 ^ 30) : OddD (.tuple [.int i]) := ⟨(FitAll.tup (fitI (W := 1) (D := 0) h (by decide)).one).mono (by decide) (by decide) (by decide), fun _ _ _ => rfl⟩
theorem odd_lst1 {i : Int} (h : i.natAbs < 10 ^ 30) : OddD (.list [.int i]) := ⟨(FitAll.lst (fitI (W := 1) (D := 0) h (by decide)).one).mono (by decide) (by decide) (by decide), fun _ _ _ => rfl⟩
theorem odd_dct : OddD (.dict []) := ⟨⟨by simp [okD, okKv], by simp [PyData.bulk, PyData.bulkKv], by simp [PyData.depth, PyData.depthKv]⟩, fun _ _ _ => rfl⟩
/-- what was new when the old heap was H0, d being old: nothing of it is at d -/
theorem Dx.keep {H0 H H' : Hp} {d : Addr} {v : V} {e : PyData} (h : Dx (Was H0) H v e) (hd : H0 d ≠ none) (b : But d H H') : Dx (fun x => x = d) H' v e :=
  (h.but fun x o nx hx => b x o (fun z => nx (by rw [z]; exact hd)) hx).more fun x _ z => by rw [z]; exact hd
theorem Dx.pen {H H' : Hp} {d : Addr} {v : V} {e : PyData} (h : Dx (fun x => x = d) H v e) (b : But d H H') : Dx (fun x => x = d) H' v e := h.but fun x o nx hx => b x o nx hx
end Mo

namespace Mo
open PySem PySem.Spec PyProof.Rows L2
theorem Src.ne_tup {H : Hp} {d c : Addr} {t : Nat} (h : Src H d c t) {p : Addr} {xs : List V} (hp : H p = some (.tup xs)) : p ≠ d := by
  obtain ⟨ns, r, h1, _⟩ := h
  exact ne_of hp h1 (by intro z; cases z)
theorem Src.ne_lst {H : Hp} {d c : Addr} {t : Nat} (h : Src H d c t) {p : Addr} {xs : List V} (hp : H p = some (.lst xs)) : p ≠ d := by
  obtain ⟨ns, r, h1, _⟩ := h
  exact ne_of hp h1 (by intro z; cases z)
/-- a text many times -/
theorem rep_map (n : Nat) (W : List Int) : (List.replicate n (W.map V.int)).flatten = ((List.replicate n W).flatten).map V.int := by
  rw [List.map_flatten, List.map_replicate]
theorem rep_len (n : Nat) (W : List Int) : ((List.replicate n W).flatten).length = n * W.length := by
  rw [List.length_flatten, List.map_replicate, List.sum_replicate_nat]
theorem rep_mem {n : Nat} {W : List Int} {x : Int} (h : x ∈ (List.replicate n W).flatten) : x ∈ W := by
  obtain ⟨l, hl, hx⟩ := List.mem_flatten.mp h
  rw [(List.mem_replicate.mp hl).2] at hx
  exact hx
theorem flat_two {vv : List (List Int)} (hv : ∀ v ∈ vv, v.length = 2) : ∀ us : List Int, (∀ u ∈ us, 0 ≤ u ∧ u < (vv.length : Nat)) → (us.flatMap fun u => vv.getD u.toNat []).length = 2 * us.length
  | [], _ => rfl
  | u :: us, h => by
    have ih := flat_two hv us fun z hz => h z (List.mem_cons_of_mem _ hz)
    have h0 := h u (List.mem_cons_self ..)
    have e : (vv.getD u.toNat []).length = 2 := by
      rw [List.getD_eq_getElem?_getD, List.getElem?_eq_getElem (show u.toNat < vv.length by omega)]
      exact hv _ (List.getElem_mem _)
    rw [List.flatMap_cons, List.length_append, List.length_cons]
    omega
def Tup2 (H : Hp) (ps : List Addr) (vv : List (List Int)) : Prop := ps.length = vv.length ∧ ∀ (j : Nat) (a : Addr), ps[j]? = some a → H a = some (.tup ((vv.getD j []).map V.int))
section
variable {P : Program} {w : World} {K : PySem.W.Frag} {mg : Str → Option Value} {base : Heap}
def spLng : Sp := fun vs H Q _ => ∃ (d c l : Addr) (ls : List Int) (n t : Nat), vs = [.ref d, .ref l, .int n] ∧ Src H d c t ∧ H l = some (.lst (ls.map V.int)) ∧ 0 < ls.length ∧ ls.length ≤ 5 ∧ 1 ≤ n ∧ n ≤ 200 ∧ t + 3000 < 1073741824 ∧
  ∀ (H' : Hp) (p : Addr) (u : List Int) (t' : Nat), But d H H' → Src H' d c t' → t' ≤ t + 3000 → H' p = some (.tup (u.map V.int)) → u.length = n → (∀ x ∈ u, x ∈ ls) → Q (.ref p) H'
theorem ok_lng {k : Nat} (T : Txt K mg) : FnOk P w K mg base CX0 (k + 4) T.aLLong T.dLLong ["_law_source_here", "_law_letters", "_law_size"] spLng := by
  have GLDraw : FnOk P w K mg base CX0 (k + 3) T.aLDraw T.dLDraw ["_law_source_here", "_law_size"] spSDraw := ok_draw T
  have GLPick : FnOk P w K mg base CX0 (k + 3) T.aLPick T.dLPick ["_law_source_here", "_law_items"] (spSPick K) := ok_pick T
  have GLFilled : FnOk P w K mg base CX0 (k + 3) T.aLFilled T.dLFilled ["_law_letters", "_law_values"] spFilled := ok_filled T
  refine T.fLLong.ok scLLong (fun vs H Q E h => ?_) (fun cdv A outer s H vs Q E hr h => ?_)
  · obtain ⟨_, _, _, _, _, _, rfl, _⟩ := h
    rfl
  · obtain ⟨d, c, l, ls, n, t, rfl, src, hl, l0, l5, n1, n2, ht, q⟩ := h
    refine ⟨_, (pss_cons (ps_set (i := 3) scLLong.nd rfl (Or.inl rfl) (pe_call GLDraw hr (by rfl) T.gLDraw T.fLDraw.kp T.bLDraw .nil pass0 (pa_cons (pv 0) (pa_cons pe_int pa_nil))))
      (pss_cons (ps_if (pt_cmpR op_eq (pv 3) pe_int (nomark _)) (pss_one (ps_ret (pe_callTy call_tuple_of (by rfl) T.m_tuple (by decide +kernel) (pa_cons (pe_lc (own := [("_law_turn", 4)]) (g := gName 4) (tt := tYes) rfl scLLong.nd (pi_range1 (by rfl) T.m_range (pa_cons (pv 2) pa_nil)) (blkOk_by (N := ["_law_source_here", "_law_letters", "_law_size", "_law_road", "_law_turn", "_law_word", "_law_found", "_law_letter", "_law_images", "_law_text", "_law_index"]) (sc := defScope sLLong) (by decide +kernel)) (fun _ _ _ _ _ => pg_name (i := 4) scLLong.nd rfl (Or.inl rfl)) (fun _ _ _ _ _ => pts_nil) (fun _ _ _ _ _ => (pe_call GLPick hr (by rfl) T.gLPick T.fLPick.kp T.bLPick .nil pass0 (pa_cons (pv 0) (pa_cons (pv 1) pa_nil))))) pa_nil)))) pss_nil)
      (pss_cons (ps_set (i := 5) scLLong.nd rfl (Or.inl rfl) (pe_callTy call_tuple_of (by rfl) T.m_tuple (by decide +kernel) (pa_cons (pe_lc (own := [("_law_turn", 4)]) (g := gName 4) (tt := tYes) rfl scLLong.nd (pi_range1 (by rfl) T.m_range (pa_cons (pe_op op_add pe_int (pe_call GLDraw hr (by rfl) T.gLDraw T.fLDraw.kp T.bLDraw .nil pass0 (pa_cons (pv 0) (pa_cons pe_int pa_nil)))) pa_nil)) (blkOk_by (N := ["_law_source_here", "_law_letters", "_law_size", "_law_road", "_law_turn", "_law_word", "_law_found", "_law_letter", "_law_images", "_law_text", "_law_index"]) (sc := defScope sLLong) (by decide +kernel)) (fun _ _ _ _ _ => pg_name (i := 4) scLLong.nd rfl (Or.inl rfl)) (fun _ _ _ _ _ => pts_nil) (fun _ _ _ _ _ => (pe_call GLPick hr (by rfl) T.gLPick T.fLPick.kp T.bLPick .nil pass0 (pa_cons (pv 0) (pa_cons (pv 1) pa_nil))))) pa_nil)))
      (pss_cons (ps_if (pt_cmpR op_eq (pv 3) pe_int (nomark _)) (pss_one (ps_ret (pe_slice sl_tupA (pe_op Mo.op_repA (pv 5) (pv 2)) po_none (po_some (pv 2))))) pss_nil)
      (pss_cons (ps_if (pt_cmpR op_eq (pv 3) pe_int (nomark _)) (pss_cons (ps_set (i := 6) scLLong.nd rfl (Or.inl rfl) (pe_tup pa_nil))
      (pss_cons (ps_for PassesOwn.never rfl (pi_tup (pe_op Mo.op_repA (pv 5) (pv 2))) (pg_name (i := 7) scLLong.nd rfl (Or.inl rfl)) (pss_one (ps_set (i := 6) scLLong.nd rfl (Or.inl rfl) (pe_op op_catA (pv 6) (pe_op Mo.op_repA (pe_tup (pa_cons (pv 7) pa_nil)) (pe_ifExp (pt_cmpR op_lt (pe_callB call_len_seq (by rfl) T.m_len PySem.boot_len (pa_cons (pv 6) pa_nil)) (pv 2) (nomark _)) (pe_op op_add pe_int (pe_call GLDraw hr (by rfl) T.gLDraw T.fLDraw.kp T.bLDraw .nil pass0 (pa_cons (pv 0) (pa_cons pe_int pa_nil)))) pe_int))))))
      (pss_one (ps_ret (pe_slice sl_tupA (pv 6) po_none (po_some (pv 2))))))) pss_nil)
      (pss_cons (ps_setLc (i := 8) (own := [("_law_letter", 7)]) (g := gName 7) (tt := tYes) rfl scLLong.nd rfl rfl (sw_true rfl rfl rfl (by decide +kernel)) (pi_list (pv 1)) (blkOk_by (N := ["_law_source_here", "_law_letters", "_law_size", "_law_road", "_law_turn", "_law_word", "_law_found", "_law_letter", "_law_images", "_law_text", "_law_index"]) (sc := defScope sLLong) (by decide +kernel)) (fun _ _ _ _ _ => pg_name (i := 7) scLLong.nd rfl (Or.inl rfl)) (fun _ _ _ _ _ => pts_nil) (fun _ _ _ _ _ => (pe_tup (pa_cons (pe_call GLDraw hr (by rfl) T.gLDraw T.fLDraw.kp T.bLDraw .nil pass0 (pa_cons (pv 0) (pa_cons (pe_callB (Mo.call_len_seqK (K := K) rfl) (by rfl) T.m_len PySem.boot_len (pa_cons (pv 1) pa_nil)) pa_nil))) (pa_cons (pe_call GLDraw hr (by rfl) T.gLDraw T.fLDraw.kp T.bLDraw .nil pass0 (pa_cons (pv 0) (pa_cons (pe_callB (Mo.call_len_seqK (K := K) rfl) (by rfl) T.m_len PySem.boot_len (pa_cons (pv 1) pa_nil)) pa_nil))) pa_nil)))))
      (pss_cons (ps_set (i := 9) scLLong.nd rfl (Or.inl rfl) (pe_tup (pa_cons pe_int pa_nil)))
      (pss_cons (ps_while PassesOwn.never (pt_cmpR op_lt (pe_callB call_len_seq (by rfl) T.m_len PySem.boot_len (pa_cons (pv 9) pa_nil)) (pv 2) (nomark _)) (pss_one (ps_set (i := 9) scLLong.nd rfl (Or.inl rfl) (pe_call GLFilled hr (by rfl) T.gLFilled T.fLFilled.kp T.bLFilled .nil pass0 (pa_cons (pv 9) (pa_cons (pv 8) pa_nil))))))
      (pss_one (ps_ret (pe_callTy call_tuple_of (by rfl) T.m_tuple (by decide +kernel) (pa_cons (pe_lc (own := [("_law_index", 10)]) (g := gName 10) (tt := tYes) rfl scLLong.nd (pi_tup (pe_slice sl_tupA (pv 9) po_none (po_some (pv 2)))) (blkOk_by (N := ["_law_source_here", "_law_letters", "_law_size", "_law_road", "_law_turn", "_law_word", "_law_found", "_law_letter", "_law_images", "_law_text", "_law_index"]) (sc := defScope sLLong) (by decide +kernel)) (fun _ _ _ _ _ => pg_name (i := 10) scLLong.nd rfl (Or.inl rfl)) (fun _ _ _ _ _ => pts_nil) (fun _ _ _ _ _ => (pe_ix (Mo.ix_listK (K := K) rfl) (pv 1) (pv 10) (fun _ _ => rfl)))) pa_nil)))))))))))), ?_⟩
    refine ⟨_, rfl, d, c, 4, t, rfl, src, by decide, by decide, by omega, fun H1 r t1 but1 src1 ht1 r0 r1 => ?_⟩
    obtain ⟨r, rfl⟩ := nat_of r0
    have nld := src.ne_lst hl
    have hl1 := but1 _ _ nld hl
    by_cases e0 : r = 0
    · subst e0
      refine ⟨_, rfl, rfl, true, rfl, iteT ?_⟩
      refine ⟨_, rfl, _, rfl, by omega, by omega, fun D nD => lc_range (lo := 0) (fun i H' => ∃ (zs : List Int) (t' : Nat), H' D = some (.lst (zs.map V.int)) ∧ zs.length = i ∧ (∀ x ∈ zs, x ∈ ls) ∧ But d H1 H' ∧ Src H' d c t' ∧ t' ≤ t1 + i ∧ H' l = some (.lst (ls.map V.int))) ?_ ?_ ?_⟩
      · have nw := src1.new nD
        exact ⟨[], t1, upd_same, rfl, (fun x hx => by cases hx), But.same (same_new nD), src1.upd nw.1 nw.2, by omega, (same_new nD) _ _ hl1⟩
      · rintro i HA hi ⟨zs, tA, hD, hz, hm, butA, srcA, htA, hlA⟩
        have hi2 : i < n := by
          have hi3 : i < Int.toNat _ := hi
          omega
        have nw := src1.new nD
        refine ⟨rfl, _, rfl, _, rfl, d, c, l, _, tA, rfl, srcA, SqL.of hlA, nld, by rw [List.length_map]; omega, by rw [List.length_map]; omega, by omega, fun HB v tB butB srcB htB hv => ?_⟩
        obtain ⟨x, hx, rfl⟩ := List.mem_map.mp hv
        refine ⟨_, butB _ _ nw.1 hD, fitsLt (by rw [List.length_map]; omega), zs ++ [x], tB, by rw [upd_same, List.map_append]; rfl, by rw [List.length_append, hz]; rfl, fun y hy => ?_, But.put (butA.trans butB) nD, srcB.upd nw.1 nw.2, by omega, by rw [upd_ne (ne_of_none hl1 nD)]; exact butB _ _ nld hlA⟩
        rcases List.mem_append.mp hy with g | g
        · exact hm y g
        · rw [List.mem_singleton.mp g]
          exact hx
      · rintro HX ⟨zs, tX, hD, hz, hm, butX, srcX, htX, hlX⟩
        have hz2 : zs.length = ((n : Nat) : Int).toNat := hz
        have ht2 : tX ≤ t1 + ((n : Nat) : Int).toNat := htX
        refine ⟨D, _, rfl, .inl ⟨SqL.of hD, fun p np => ?_⟩⟩
        have sY := same_new (o := .tup (zs.map V.int)) np
        exact q _ p zs tX ((but1.trans butX).trans (But.same sY)) (srcX.same sY) (by omega) upd_same (by omega) hm
    refine ⟨_, rfl, rfl, false, congrArg V.bl (decide_eq_false (fun z => e0 (Int.ofNat_inj.mp (V.int.inj z)))), iteF ?_⟩
    -- a word
    refine ⟨_, rfl, d, c, 12, t1, rfl, src1, by decide, by decide, by omega, fun H2 y t2 but2 src2 ht2 y0 y1 => ?_⟩
    obtain ⟨y, rfl⟩ := nat_of y0
    have hl2 := but2 _ _ nld hl1
    refine ⟨1, y, rfl, rfl, _, rfl, by omega, by omega, fun D nD => lc_range (lo := 0) (fun i H' => ∃ (zs : List Int) (t' : Nat), H' D = some (.lst (zs.map V.int)) ∧ zs.length = i ∧ (∀ x ∈ zs, x ∈ ls) ∧ But d H2 H' ∧ Src H' d c t' ∧ t' ≤ t2 + i ∧ H' l = some (.lst (ls.map V.int))) ?_ ?_ ?_⟩
    · have nw := src2.new nD
      exact ⟨[], t2, upd_same, rfl, (fun x hx => by cases hx), But.same (same_new nD), src2.upd nw.1 nw.2, by omega, (same_new nD) _ _ hl2⟩
    · rintro i HA hi ⟨zs, tA, hD, hz, hm, butA, srcA, htA, hlA⟩
      have hi2 : i < y + 1 := by
        have hi3 : i < Int.toNat _ := hi
        omega
      have nw := src2.new nD
      refine ⟨rfl, _, rfl, _, rfl, d, c, l, _, tA, rfl, srcA, SqL.of hlA, nld, by rw [List.length_map]; omega, by rw [List.length_map]; omega, by omega, fun HB v tB butB srcB htB hv => ?_⟩
      obtain ⟨x, hx, rfl⟩ := List.mem_map.mp hv
      refine ⟨_, butB _ _ nw.1 hD, fitsLt (by rw [List.length_map]; omega), zs ++ [x], tB, by rw [upd_same, List.map_append]; rfl, by rw [List.length_append, hz]; rfl, fun y hy => ?_, But.put (butA.trans butB) nD, srcB.upd nw.1 nw.2, by omega, by rw [upd_ne (ne_of_none hl2 nD)]; exact butB _ _ nld hlA⟩
      rcases List.mem_append.mp hy with g | g
      · exact hm y g
      · rw [List.mem_singleton.mp g]
        exact hx
    rintro H3 ⟨W, t3, hD, hz, hm, but3, src3, ht3, hl3⟩
    have hW : W.length = y + 1 := by
      have hz2 : W.length = ((1 : Int) + (y : Int)).toNat := hz
      omega
    have ht3' : t3 ≤ t2 + (y + 1) := by
      have h2 : t3 ≤ t2 + ((1 : Int) + (y : Int)).toNat := ht3
      omega
    have Wne : W.map V.int ≠ [] := fun e => by
      have := congrArg List.length e
      rw [List.length_map, hW] at this
      cases this
    clear hz ht3
    refine ⟨D, _, rfl, .inl ⟨SqL.of hD, fun wp nwp => ?_⟩⟩
    have s4 := same_new (o := .tup (W.map V.int)) nwp
    have hw4 : (upd H3 wp (.tup (W.map V.int))) wp = some (.tup (W.map V.int)) := upd_same
    have src4 := src3.same s4
    have hl4 := s4 _ _ hl3
    have but4 := ((but1.trans but2).trans but3).trans (But.same s4)
    generalize upd H3 wp (.tup (W.map V.int)) = H4 at *
    clear but1 but2 but3 src1 src2 src3 hl1 hl2 hl3 hD s4
    have wn : n ≤ n * W.length := by
      have := Nat.mul_le_mul_left n (show 1 ≤ W.length by omega)
      omega
    have wn2 : n * W.length ≤ 200 * 12 := Nat.mul_le_mul n2 (by omega)
    -- the word again and again
    by_cases e1 : r = 1
    · subst e1
      refine ⟨_, rfl, rfl, true, rfl, iteT ?_⟩
      refine ⟨_, rfl, _, rfl, wp, n, _, rfl, rfl, hw4, Wne, by omega, by rw [List.length_map, Nat.mul_comm]; omega, fun p H5 s5 h5 => ?_⟩
      rw [rep_map] at h5
      refine ⟨_, rfl, ((n : Nat) : Int), rfl, slA_any h5 fun p6 H6 s6 h6 _ => ?_⟩
      rw [cut_to, ← List.map_take] at h6
      refine q H6 p6 _ t3 ((but4.trans (But.same s5)).trans (But.same s6)) ((src4.same s5).same s6) (by omega) h6 (by rw [List.length_take, rep_len]; omega) fun x hx => hm x (rep_mem (List.mem_of_mem_take hx))
    refine ⟨_, rfl, rfl, false, congrArg V.bl (decide_eq_false (fun z => e1 (Int.ofNat_inj.mp (V.int.inj z)))), iteF ?_⟩
    by_cases e2 : r = 2
    · subst e2
      refine ⟨_, rfl, rfl, true, rfl, iteT ?_⟩
      refine ⟨Nat.zero_le _, fun fp nfp => ?_⟩
      have s5 := same_new (o := .tup []) nfp
      have hf5 : (upd H4 fp (.tup [])) fp = some (.tup (([] : List Int).map V.int)) := upd_same
      have src5 := src4.same s5
      have hw5 := s5 _ _ hw4
      have but5 := but4.trans (But.same s5)
      generalize upd H4 fp (.tup []) = H5 at *
      refine ⟨_, rfl, _, rfl, wp, n, _, rfl, rfl, hw5, Wne, by omega, by rw [List.length_map, Nat.mul_comm]; omega, fun zp H6 s6 h6 => ?_⟩
      rw [rep_map] at h6
      have hf6 := s6 _ _ hf5
      have src6 := src5.same s6
      have but6 := but5.trans (But.same s6)
      have zl := rep_len n W
      have zm : ∀ x ∈ (List.replicate n W).flatten, x ∈ ls := fun x hx => hm x (rep_mem hx)
      generalize (List.replicate n W).flatten = Z at *
      refine ⟨zp, rfl, ⟨_, SqT.of h6⟩, for_tup (K := K) (a := zp) (xs := Z.map V.int) (fun j σ H' => ∃ (fp : Addr) (F : List Int) (o7 : Option V) (t' : Nat), σ = [some (.ref d), some (.ref l), some (.int (n : Nat)), some (.int ((2 : Nat) : Int)), none, some (.ref wp), some (.ref fp), o7, none, none, none] ∧ H' fp = some (.tup (F.map V.int)) ∧ H' zp = some (.tup (Z.map V.int)) ∧ But d H H' ∧ Src H' d c t' ∧ t' ≤ t3 + j ∧ (∀ x ∈ F, x ∈ ls) ∧ F.length ≤ n + 9 ∧ min j n ≤ F.length) ?_ ?_ ?_ ?_⟩
      · exact ⟨fp, [], _, t3, rfl, hf6, h6, but6, src6, by omega, fun x hx => absurd hx List.not_mem_nil, Nat.zero_le _, by omega⟩
      · rintro j σ H' _ ⟨_, _, _, _, _, _, hz', _⟩
        exact SqT.of hz'
      · rintro j x σ H7 hx ⟨fp', F, o7, t7, rfl, hf7, hz7, but7, src7, ht7, hF, hF1, hF2⟩
        rw [List.getElem?_map] at hx
        cases e : Z[j]? with
        | none => rw [e] at hx; cases hx
        | some x0 =>
          rw [e] at hx
          cases hx
          have hj := (List.getElem?_eq_some_iff.mp e).1
          have hx0 := zm x0 (List.mem_of_getElem? e)
          refine ⟨_, rfl, _, rfl, by show 1 ≤ sizeLine; decide, fun q8 nq8 => ?_⟩
          have s8 := same_new (o := .tup [V.int x0]) nq8
          have hq8 : (upd H7 q8 (.tup [V.int x0])) q8 = some (.tup [V.int x0]) := upd_same
          have hf8 := s8 _ _ hf7
          have hz8 := s8 _ _ hz7
          have src8 := src7.same s8
          have but8 := but7.trans (But.same s8)
          generalize upd H7 q8 (.tup [V.int x0]) = H8 at *
          -- what is added
          have add : ∀ (H9 : Hp) (t9 m : Nat), H9 q8 = some (.tup [V.int x0]) → H9 fp' = some (.tup (F.map V.int)) → H9 zp = some (.tup (Z.map V.int)) → But d H H9 → Src H9 d c t9 → t9 ≤ t3 + (j + 1) → m ≤ 9 → F.length + m ≤ n + 9 → min (j + 1) n ≤ F.length + m →
              rRepA K (.ref q8) (.int ((m : Nat) : Int)) H9 fun y H10 => rCatA K (.ref fp') y H10 fun v H11 => ∃ (fp : Addr) (F : List Int) (o7 : Option V) (t' : Nat), ([some (.ref d), some (.ref l), some (.int (n : Nat)), some (.int ((2 : Nat) : Int)), none, some (.ref wp), some v, some (.int x0), none, none, none] : L2.St) = [some (.ref d), some (.ref l), some (.int (n : Nat)), some (.int ((2 : Nat) : Int)), none, some (.ref wp), some (.ref fp), o7, none, none, none] ∧ H11 fp = some (.tup (F.map V.int)) ∧ H11 zp = some (.tup (Z.map V.int)) ∧ But d H H11 ∧ Src H11 d c t' ∧ t' ≤ t3 + (j + 1) ∧ (∀ x ∈ F, x ∈ ls) ∧ F.length ≤ n + 9 ∧ min (j + 1) n ≤ F.length := by
            intro H9 t9 m hq9 hf9 hz9 but9 src9 ht9 m9 m1 m2
            refine ⟨q8, m, [V.int x0], rfl, rfl, hq9, List.cons_ne_nil _ _, by omega, by show 1 * m ≤ _; omega, fun p10 H10 s10 h10 => ?_⟩
            have e10 : (List.replicate m [V.int x0]).flatten = (List.replicate m x0).map V.int := by
              rw [show [V.int x0] = [x0].map V.int from rfl, rep_map]
              refine congrArg (List.map V.int) ?_
              clear m9 m1 m2 h10
              induction m with
              | zero => rfl
              | succ m ih => rw [List.replicate_succ, List.flatten_cons, ih]; rfl
            rw [e10] at h10
            refine catA_any (s10 _ _ hf9) h10 (fits5 (by rw [List.length_map, List.length_map, List.length_replicate]; omega)) fun p11 H11 s11 h11 _ => ?_
            rw [← List.map_append] at h11
            have ss := s10.trans s11
            refine ⟨p11, F ++ List.replicate m x0, _, t9, rfl, h11, ss _ _ hz9, but9.trans (But.same ss), src9.same ss, ht9, fun x hx => ?_, by rw [List.length_append, List.length_replicate]; omega, by rw [List.length_append, List.length_replicate]; omega⟩
            rcases List.mem_append.mp hx with z | z
            · exact hF x z
            · rw [(List.mem_replicate.mp z).2]
              exact hx0
          refine ⟨_, rfl, fp', _, rfl, .inr (SqT.of hf8), _, rfl, _, _, rfl, rfl, _, rfl, ite2 (fun g => ?_) (fun g => ?_)⟩
          · have g2 := of_decide_eq_true g
            rw [List.length_map] at g2
            refine ⟨_, rfl, d, c, 9, t7, rfl, src8, by decide, by decide, by omega, fun H9 z t9 but9 src9 ht9 z0 z1 => ?_⟩
            obtain ⟨z, rfl⟩ := nat_of z0
            refine ⟨1, z, rfl, rfl, ?_⟩
            have r := add H9 t9 (z + 1) (but9 _ _ (src8.ne_tup hq8) hq8) (but9 _ _ (src8.ne_tup hf8) hf8) (but9 _ _ (src8.ne_tup hz8) hz8) (but8.trans but9) src9 (by omega) (by omega) (by omega) (by omega)
            rw [show ((z + 1 : Nat) : Int) = 1 + (z : Int) by omega] at r
            exact r
          · have g2 : ¬ (((F.map V.int).length : Nat) : Int) < ((n : Nat) : Int) := fun z => g (decide_eq_true z)
            rw [List.length_map] at g2
            exact add H8 t7 0 hq8 hf8 hz8 but8 src8 (by omega) (by omega) (by omega) (by omega)
      · rintro σ H7 ⟨fp', F, o7, t7, rfl, hf7, hz7, but7, src7, ht7, hF, hF1, hF2⟩
        rw [List.length_map, zl] at ht7 hF2
        refine ⟨_, rfl, _, rfl, ((n : Nat) : Int), rfl, slA_any hf7 fun p6 H6 s6 h6 _ => ?_⟩
        rw [cut_to, ← List.map_take] at h6
        exact q H6 p6 _ t7 (but7.trans (But.same s6)) (src7.same s6) (by omega) h6 (by rw [List.length_take]; omega) fun x hx => hF x (List.mem_of_mem_take hx)
    refine ⟨_, rfl, rfl, false, congrArg V.bl (decide_eq_false (fun z => e2 (Int.ofNat_inj.mp (V.int.inj z)))), iteF ?_⟩
    -- images
    refine ⟨_, rfl, l, rfl, ⟨_, SqL.of hl4⟩, fun D nD => lc_list (K := K) (a := l) (xs := ls.map V.int) (fun j H' => ∃ (qs : List Addr) (vv : List (List Int)) (t' : Nat), H' D = some (.lst (qs.map V.ref)) ∧ Tup2 H' qs vv ∧ vv.length = j ∧ (∀ v ∈ vv, v.length = 2 ∧ ∀ x ∈ v, 0 ≤ x ∧ x < (ls.length : Nat)) ∧ But d H4 H' ∧ Src H' d c t' ∧ t' ≤ t3 + 2 * j) ?_ ?_ ?_ ?_⟩
    · have nw := src4.new nD
      exact ⟨[], [], t3, upd_same, ⟨rfl, fun j a e => by cases e⟩, rfl, fun v hv => absurd hv List.not_mem_nil, But.same (same_new nD), src4.upd nw.1 nw.2, by omega⟩
    · rintro j H' _ ⟨_, _, _, _, _, _, _, but5, _⟩
      exact SqL.of (but5 _ _ nld hl4)
    · rintro j x H5 hx ⟨qs, vv, t5, hD, tu, hvl, hvm, but5, src5, ht5⟩
      have hj : j < ls.length := by
        have := (List.getElem?_eq_some_iff.mp hx).1
        rw [List.length_map] at this
        exact this
      have nw := src4.new nD
      have hl5 := but5 _ _ nld hl4
      have hql : qs.length = vv.length := tu.1
      refine ⟨rfl, _, rfl, _, rfl, l, _, rfl, .inl (SqL.of hl5), d, c, _, t5, rfl, src5, by rw [List.length_map]; omega, by rw [List.length_map]; omega, by omega, fun H6 a t6 but6 src6 ht6 a0 a1 => ?_⟩
      have hl6 := but6 _ _ nld hl5
      refine ⟨_, rfl, _, rfl, l, _, rfl, .inl (SqL.of hl6), d, c, _, t6, rfl, src6, by rw [List.length_map]; omega, by rw [List.length_map]; omega, by omega, fun H7 b t7 but7 src7 ht7 b0 b1 => ?_⟩
      rw [List.length_map] at a1 b1
      refine ⟨by show 2 ≤ sizeLine; decide, fun q8 nq8 => ?_⟩
      have s8 := same_new (o := .tup [V.int a, V.int b]) nq8
      have hD8 := s8 _ _ (but7 _ _ nw.1 (but6 _ _ nw.1 hD))
      have but58 := (but6.trans but7).trans (But.same s8)
      have hq8 : (upd H7 q8 (.tup [V.int a, V.int b])) q8 = some (.tup (([a, b] : List Int).map V.int)) := upd_same
      have src8 := src7.same s8
      generalize upd H7 q8 (.tup [V.int a, V.int b]) = H8 at *
      refine ⟨_, hD8, fitsLt (by rw [List.length_map]; omega), qs ++ [q8], vv ++ [[a, b]], t7, by rw [upd_same, List.map_append]; rfl, ?_, by rw [List.length_append, hvl]; rfl, fun v hv => ?_, But.put (but5.trans but58) nD, src8.upd nw.1 nw.2, by omega⟩
      · refine ⟨by rw [List.length_append, List.length_append, hql]; rfl, fun m ad hm => ?_⟩
        by_cases g : m < qs.length
        · rw [List.getElem?_append_left g] at hm
          have ha := but58 _ _ (src5.ne_tup (tu.2 m ad hm)) (tu.2 m ad hm)
          rw [upd_ne (ne_of ha hD8 (by intro z; cases z)), ha, List.getD_eq_getElem?_getD, List.getD_eq_getElem?_getD, List.getElem?_append_left (by omega)]
        · rw [List.getElem?_append_right (by omega)] at hm
          have g0 : m - qs.length = 0 := by
            rcases Nat.eq_zero_or_pos (m - qs.length) with z | z
            · exact z
            · rw [List.getElem?_eq_none (by show 1 ≤ _; omega)] at hm
              cases hm
          rw [g0] at hm
          cases hm
          rw [upd_ne (ne_of hq8 hD8 (by intro z; cases z)), hq8, List.getD_eq_getElem?_getD, List.getElem?_append_right (by omega), show m - vv.length = 0 by omega]
          rfl
      · rcases List.mem_append.mp hv with z | z
        · exact hvm v z
        · rw [List.mem_singleton.mp z]
          refine ⟨rfl, fun x hx => ?_⟩
          rcases List.mem_cons.mp hx with z | z
          · rw [z]; omega
          · rw [List.mem_singleton.mp z]; omega
    · rintro H5 ⟨qs, vv, t5, hD, tu, hvl, hvm, but5, src5, ht5⟩
      rw [List.length_map] at hvl ht5
      refine ⟨by show 1 ≤ sizeLine; decide, fun xp nxp => ?_⟩
      have s6 := same_new (o := .tup [V.int 0]) nxp
      have hx6 : (upd H5 xp (.tup [V.int 0])) xp = some (.tup (([0] : List Int).map V.int)) := upd_same
      have hD6 := s6 _ _ hD
      have tu6 : Tup2 (upd H5 xp (.tup [V.int 0])) qs vv := ⟨tu.1, fun j a e => s6 _ _ (tu.2 j a e)⟩
      have src6 := src5.same s6
      have but6 := but5.trans (But.same s6)
      have hl6 := but6 _ _ nld hl4
      generalize upd H5 xp (.tup [V.int 0]) = H6 at *
      refine while_raw (fun σ H' => ∃ (xp : Addr) (F : List Int), σ = [some (.ref d), some (.ref l), some (.int (n : Nat)), some (.int (r : Int)), none, some (.ref wp), none, none, some (.ref D), some (.ref xp), none] ∧ Same H6 H' ∧ H' xp = some (.tup (F.map V.int)) ∧ 1 ≤ F.length ∧ F.length ≤ 2 * n ∧ ∀ x ∈ F, 0 ≤ x ∧ x < (ls.length : Nat)) (fun σ H' => match σ with | [_, _, _, _, _, _, _, _, _, some (.ref x), _] => (match H' x with | some (.tup xs) => n - xs.length | _ => 0) | _ => 0) ?_ ?_
      · exact ⟨xp, [0], rfl, Same.refl _, hx6, by decide, by show 1 ≤ _; omega, fun x hx => by rw [List.mem_singleton.mp hx]; omega⟩
      · rintro σ H7 ⟨xp, F, rfl, s7, hx7, f1, f2, fm⟩
        by_cases g : F.length < n
        · refine ⟨_, rfl, xp, _, rfl, .inr (SqT.of hx7), _, rfl, _, _, rfl, rfl, true, congrArg V.bl (decide_eq_true (by rw [List.length_map]; omega)), iteT ?_⟩
          refine ⟨fun σ' H' => ∃ (x8 : Addr) (F8 : List Int), σ' = [some (.ref d), some (.ref l), some (.int (n : Nat)), some (.int (r : Int)), none, some (.ref wp), none, none, some (.ref D), some (.ref x8), none] ∧ Same H6 H' ∧ H' x8 = some (.tup (F8.map V.int)) ∧ F8.length = 2 * F.length ∧ ∀ x ∈ F8, 0 ≤ x ∧ x < (ls.length : Nat), ?_, ?_⟩
          · rintro σ' H' ⟨x8, F8, rfl, s8, h8, l8, m8⟩
            refine ⟨_, ?_, rfl, x8, F8, rfl, s8, h8, by omega, by omega, m8⟩
            show (match H' x8 with | some (.tup xs) => n - xs.length | _ => 0) < (match H7 xp with | some (.tup xs) => n - xs.length | _ => 0)
            rw [h8, hx7]
            show n - (F8.map V.int).length < n - (F.map V.int).length
            rw [List.length_map, List.length_map]
            omega
          refine ⟨_, rfl, _, rfl, xp, D, F, qs, vv, 2, rfl, hx7, s7 _ _ hD6, tu6.1, fun j a e => s7 _ _ (tu6.2 j a e), fun u hu => ?_, fun v hv => Nat.le_of_eq (hvm v hv).1, by omega, fun H8 x8 s8 h8 => ?_⟩
          · have := fm u hu
            omega
          have fl := flat_two (vv := vv) (fun v hv => (hvm v hv).1) F fun u hu => by have := fm u hu; omega
          have fm8 : ∀ x ∈ F.flatMap fun u => vv.getD u.toNat [], 0 ≤ x ∧ x < (ls.length : Nat) := fun x hx => by
            obtain ⟨u, hu, hxu⟩ := List.mem_flatMap.mp hx
            have h2 := fm u hu
            rw [List.getD_eq_getElem?_getD, List.getElem?_eq_getElem (show u.toNat < vv.length by omega)] at hxu
            exact (hvm _ (List.getElem_mem _)).2 x hxu
          generalize F.flatMap (fun u => vv.getD u.toNat []) = F8 at *
          exact ⟨x8, F8, rfl, s7.trans s8, h8, fl, fm8⟩
        · refine ⟨_, rfl, xp, _, rfl, .inr (SqT.of hx7), _, rfl, _, _, rfl, rfl, false, congrArg V.bl (decide_eq_false (by rw [List.length_map]; omega)), iteF ?_⟩
          refine ⟨_, rfl, _, rfl, ((n : Nat) : Int), rfl, slA_any hx7 fun y8 H8 s8 h8 _ => ?_⟩
          rw [cut_to, ← List.map_take] at h8
          have s68 := s7.trans s8
          have hl8 := s68 _ _ hl6
          refine ⟨y8, rfl, ⟨_, SqT.of h8⟩, fun E nE => lc_tup (K := K) (a := y8) (xs := (F.take n).map V.int) (fun j H' => ∃ zs : List Int, Same H8 H' ∧ H' E = some (.lst (zs.map V.int)) ∧ zs.length = j ∧ ∀ x ∈ zs, x ∈ ls) ?_ ?_ ?_ ?_⟩
          · exact ⟨[], same_new nE, upd_same, rfl, fun x hx => absurd hx List.not_mem_nil⟩
          · rintro j H9 _ ⟨_, s9, _⟩
            exact SqT.of (s9 _ _ h8)
          · rintro j x H9 hx ⟨zs, s9, hE, hzl, hzm⟩
            rw [List.getElem?_map] at hx
            cases e : (F.take n)[j]? with
            | none => rw [e] at hx; cases hx
            | some x0 =>
              rw [e] at hx
              cases hx
              have h0 := fm x0 (List.mem_of_mem_take (List.mem_of_getElem? e))
              have hj := (List.getElem?_eq_some_iff.mp e).1
              rw [List.length_take] at hj
              obtain ⟨i, rfl⟩ : ∃ i : Nat, x0 = i := ⟨x0.toNat, by omega⟩
              have hi : i < ls.length := by omega
              refine ⟨rfl, _, rfl, _, rfl, l, _, _, .int ls[i], rfl, rfl, SqL.of (s9 _ _ hl8), atI_nat (by rw [List.getElem?_map, List.getElem?_eq_getElem hi]; rfl), _, hE, fitsLt (by rw [List.length_map]; omega), zs ++ [ls[i]], Same.put s9 nE, by rw [upd_same, List.map_append]; rfl, by rw [List.length_append, hzl]; rfl, fun x hx => ?_⟩
              rcases List.mem_append.mp hx with z | z
              · exact hzm x z
              · rw [List.mem_singleton.mp z]
                exact List.getElem_mem _
          · rintro H9 ⟨zs, s9, hE, hzl, hzm⟩
            rw [List.length_map, List.length_take] at hzl
            refine ⟨E, _, rfl, .inl ⟨SqL.of hE, fun p np => ?_⟩⟩
            have s10 := same_new (o := .tup (zs.map V.int)) np
            have ss := (s68.trans s9).trans s10
            exact q _ p zs t5 ((but4.trans but6).trans (But.same ss)) (src6.same ss) (by omega) upd_same (by omega) hzm
end
end Mo

namespace Mo
open PySem PySem.Spec PyProof.Rows L2
theorem set_map {F : List Int} {j : Nat} {x : Int} : (F.map V.int).set j (V.int x) = (F.set j x).map V.int := by
  rw [List.map_set]
section
variable {P : Program} {w : World} {K : PySem.W.Frag} {mg : Str → Option Value} {base : Heap}
def spUnv : Sp := fun vs H Q _ => ∃ (p l : Addr) (u ls : List Int), vs = [.ref p, .ref l] ∧ H p = some (.tup (u.map V.int)) ∧ H l = some (.lst (ls.map V.int)) ∧ (u.length < 100 ∨ (u.length = 197 ∧ 2 ≤ ls.length)) ∧ (∀ x ∈ u, x ∈ ls) ∧
  ∀ (H' : Hp) (p' : Addr) (u' : List Int), Same H H' → H' p' = some (.tup (u'.map V.int)) → u'.length = u.length → (∀ x ∈ u', x ∈ ls) → Q (.ref p') H'
theorem ok_unv {k : Nat} (T : Txt K mg) : FnOk P w K mg base CX0 (k + 1) T.aLUneven T.dLUneven ["_law_text", "_law_letters"] spUnv := by
  refine T.fLUneven.ok scLUneven (fun vs H Q E h => ?_) (fun cdv A outer s H vs Q E hr h => ?_)
  · obtain ⟨p, l, u, ls, rfl, _⟩ := h
    rfl
  · obtain ⟨p, l, u, ls, rfl, hp, hl, hu, hm, q⟩ := h
    refine ⟨_, (pss_cons (ps_if (pt_cmpR op_lt (pe_callB call_len_seq (by rfl) T.m_len PySem.boot_len (pa_cons (pv 0) pa_nil)) pe_int (nomark _)) (pss_one (ps_ret (pv 0))) pss_nil)
      (pss_cons (ps_set (i := 2) scLUneven.nd rfl (Or.inl rfl) (pe_callTy call_list_of (by rfl) T.m_list (by decide +kernel) (pa_cons (pv 0) pa_nil)))
      (pss_cons (ps_for PassesOwn.never rfl (pi_range3 (by rfl) T.m_range (pa_cons pe_int (pa_cons (pe_op op_sub (pe_callB call_len_seq (by rfl) T.m_len PySem.boot_len (pa_cons (pv 2) pa_nil)) pe_int) (pa_cons pe_int pa_nil)))) (pg_name (i := 3) scLUneven.nd rfl (Or.inl rfl)) (pss_cons (ps_asg (pe_ix ix_list (pv 1) pe_int (fun _ _ => rfl)) (pg_sub (pv 2) (pv 3) set_list))
      (pss_one (ps_asg (pe_ix ix_list (pv 1) pe_int (fun _ _ => rfl)) (pg_sub (pv 2) (pe_op op_add (pv 3) pe_int) set_list)))))
      (pss_one (ps_ret (pe_callTy call_tuple_of (by rfl) T.m_tuple (by decide +kernel) (pa_cons (pv 2) pa_nil))))))), ?_⟩
    refine ⟨_, rfl, p, _, rfl, .inr (SqT.of hp), _, _, rfl, rfl, _, rfl, ite2 (fun e => ?_) (fun e => ?_)⟩
    · exact ⟨_, rfl, q H p u (Same.refl H) hp rfl hm⟩
    have n100 : ¬ ((u.map V.int).length : Int) < 100 := fun z => e (decide_eq_true z)
    rw [List.length_map] at n100
    obtain ⟨h197, h2⟩ : u.length = 197 ∧ 2 ≤ ls.length := by
      rcases hu with z | z
      · omega
      · exact z
    clear n100 e hu
    refine ⟨_, rfl, p, _, rfl, .inr (SqT.of hp), fun f nf => ?_⟩
    have s1 := same_new (o := .lst (u.map V.int)) nf
    have hl1 := s1 _ _ hl
    have hf1 : (upd H f (.lst (u.map V.int))) f = some (.lst (u.map V.int)) := upd_same
    have nlf : l ≠ f := ne_of_none hl nf
    generalize upd H f (.lst (u.map V.int)) = H1 at *
    refine ⟨_, rfl, f, _, rfl, .inl (SqL.of hf1), _, 1, rfl, rfl, 3, 196, 5, 39, ?_, ⟨by decide, by decide, by decide +kernel, by decide +kernel⟩, for_it walk_rangeC (fun j σ H' => ∃ (o3 : Option V) (F : List Int), σ = [some (.ref p), some (.ref l), some (.ref f), o3] ∧ Same H H' ∧ H' f = some (.lst (F.map V.int)) ∧ F.length = 197 ∧ ∀ x ∈ F, x ∈ ls) ?_ ?_ ?_ ?_⟩
    · rw [List.length_map, h197]
      rfl
    · exact ⟨_, u, rfl, s1, hf1, h197, hm⟩
    · exact fun _ _ _ _ _ => trivial
    · rintro j x σ H2 H3 hj ⟨o3, F, rfl, s2, hf, hF, hmF⟩ ⟨rfl, rfl⟩
      have a0 : ∀ (i : Nat) (hi : i < ls.length), atI (ls.map V.int) ((i : Nat) : Int) = some (.int ls[i]) := fun i hi => atI_nat (by rw [List.getElem?_map, List.getElem?_eq_getElem hi]; rfl)
      refine ⟨_, rfl, l, _, 0, .int (ls[0]'(by omega)), rfl, rfl, SqL.of (s2 _ _ hl), a0 0 (by omega), _, rfl, _, rfl, f, _, _, 3 + 5 * j, rfl, rfl, hf, ?_, ?_⟩
      · unfold ixN
        rw [List.length_map, hF, if_pos (by omega), if_pos (by omega)]
        exact congrArg some (by omega)
      rw [set_map]
      have s3 : Same H (upd H3 f (.lst ((F.set (3 + 5 * j) (ls[0]'(by omega))).map V.int))) := Same.put s2 nf
      have hf3 : (upd H3 f (.lst ((F.set (3 + 5 * j) (ls[0]'(by omega))).map V.int))) f = some (.lst ((F.set (3 + 5 * j) (ls[0]'(by omega))).map V.int)) := upd_same
      have m3 : ∀ x ∈ F.set (3 + 5 * j) (ls[0]'(by omega)), x ∈ ls := fun x hx => by
        rcases List.mem_or_eq_of_mem_set hx with z | z
        · exact hmF x z
        · rw [z]; exact List.getElem_mem _
      have l3 : (F.set (3 + 5 * j) (ls[0]'(by omega))).length = 197 := by rw [List.length_set]; exact hF
      generalize F.set (3 + 5 * j) (ls[0]'(by omega)) = F3 at *
      generalize upd H3 f (.lst (F3.map V.int)) = H4 at *
      refine ⟨_, rfl, l, _, 1, .int (ls[1]'(by omega)), rfl, rfl, SqL.of (s3 _ _ hl), a0 1 (by omega), _, rfl, _, rfl, _, 1, rfl, rfl, f, _, _, 4 + 5 * j, rfl, rfl, hf3, ?_, ?_⟩
      · unfold ixN
        rw [List.length_map, l3, if_pos (by omega), if_pos (by omega)]
        exact congrArg some (by omega)
      rw [set_map]
      refine ⟨_, F3.set (4 + 5 * j) (ls[1]'(by omega)), rfl, Same.put s3 nf, upd_same, by rw [List.length_set]; exact l3, fun x hx => ?_⟩
      rcases List.mem_or_eq_of_mem_set hx with z | z
      · exact m3 x z
      · rw [z]; exact List.getElem_mem _
    · rintro σ H2 ⟨o3, F, rfl, s2, hf, hF, hmF⟩
      refine ⟨_, rfl, f, _, rfl, .inl ⟨SqL.of hf, fun r nr => ?_⟩⟩
      exact q _ r F (s2.trans (same_new nr)) upd_same (by omega) hmF
end
end Mo

/-! ### own error classes over any of Python's errors -/
namespace Mo
open PySem PySem.Spec PyProof.Rows L2
open Builtin Builtin.ObjectAttr in
section
variable {prog : Program} {w : World} {A : Around} {E : Value → Shared → Prop} {R : Result → Shared → Prop} {hp : Heap} {g : Array GenState} {d : Drawn} {t : Nat} {os : OsState}
/-- the first field of such an error -/
theorem osaG {K : PySem.W.Frag} {nm : Str} {tk : Tok} {v : Value} {x C : Addr} {fv : Array Value} {cd : ClassData} {bmB : List Value} (X : K.In hp) (hx : hp.get? x = some { cls := .ref C, data := .fields fv }) (hcd : PySem.W.clsIn K C = some cd)
    (hm : PySem.W.excTail bmB cd.mro = true) (hne : bmB ≠ []) (hob : bmB.contains (.type "object") = true) (hps : ∀ self, refuseLoop self "__setattr__" bmB = pure ()) (hh : cd.hasDict = true) (ha : PySem.W.findIn K (.ref C) nm = some none)
    (hq : ∀ h' tk' dx, (∀ b o, b ≠ x → hp.get? b = some o → h'.get? b = some o) → hp.objs.size ≤ dx → dx ≠ x → h'.get? x = some { cls := .ref C, dict := some dx, data := .fields fv } → h'.Ns1 dx (fun y => if y = nm then some v else none) → R (.ok (.ret .none)) ⟨h', g, d, tk', os⟩) :
    codeAny (model prog w) A (.call (.builtin "object.__setattr__") ⟨[.ref x, .str nm tk, v], []⟩) R ⟨hp, g, d, t, os⟩ := by
  have J : PySem.W.InstAt hp x { cls := .ref C, data := .fields fv } C none := ⟨hx, rfl, rfl, trivial⟩
  have SO := PySem.F.store_object
  have e1 : cd.mro.isEmpty = false := by
    cases q : cd.mro with
    | nil =>
      rw [q] at hm
      exact absurd (beq_iff_eq.mp hm).symm hne
    | cons _ _ => rfl
  have e2 : cd.mro.contains (.type "object") = true := (PySem.W.excTail_contains "object" _ hm).trans hob
  have n1 : x ≠ hp.objs.size := Nat.ne_of_lt (Heap.lt_size hx)
  have su : PySem.W.Looks (model prog w) hp (isInstance (.ref x) (.type "object")) true := J.type.andThen (PySem.W.looks_mroIn X (by unfold PySem.W.mroIn; rw [hcd, Option.bind_some, if_neg (by rw [e1]; decide), e2]))
  refine codeAny_call_builtin SO.slot.plain SO.entry (@PySem.W.check_slot (model prog w) _ _ ⟨hp, g, d, t, os⟩ "object.__setattr__" "object" "__setattr__" (.ref x) [.str nm tk, v] [] _ SO.kind SO.split su (SO.args (.ref x) (.str nm tk) v) ?_)
  have l1 : PySem.W.Looks (model prog w) hp (mroOf (.ref C)) cd.mro := (PySem.W.looks_clsIn X hcd).andThen .now
  have l2 : PySem.W.Looks (model prog w) hp (storeTaker? none) none := .now
  have l3 : PySem.W.Looks (model prog w) hp (classData C) cd := PySem.W.looks_clsIn X hcd
  rw [PySem.W.osa_eq, refuse_eq]
  refine wpAny_bind (wpAny_bind (J.type.at (wpAny_bind (l1.at ?_))))
  rw [PySem.W.excTail_pass _ (hps _) _ hm]
  refine wpAny_pure (wpAny_bind (J.type.at (wpAny_bind ((PySem.W.looks_findIn X ha).at (wpAny_bind (l2.at ?_))))))
  show wpAny _ _ (storeInOwnDict (.ref x) (.ref C) (.str nm tk) nm v false) _ _ _
  obtain ⟨_, _, mro, _, _, hd, _, _, _, _, _⟩ := cd
  obtain rfl : hd = true := hh
  unfold storeInOwnDict ownDictForStores
  repeat (first | with_reducible refine PySem.HandSPX.store_in_new ?_ ?_ | with_reducible refine wpAny_loadPart_at hx ?_ | with_reducible refine l3.at ?_ | wp_step)
  · exact ⟨_, #[], _, (Heap.get?_update_ne _ _ _ _ n1.symm).trans (Heap.get?_push_at rfl rfl), rfl, fun e he => absurd he (by simp), fun _ => rfl⟩
  · intro h2 tk2 hn2 hs2
    have hx1 : (hp.push { cls := .type "dict", data := .dict #[] }).get? x = some { cls := .ref C, data := .fields fv } := Heap.get?_push_of_some _ hx
    exact hq h2 tk2 hp.objs.size (fun b o hb ho => (hs2.2 b (Nat.ne_of_lt (Heap.lt_size ho))).trans ((Heap.get?_update_ne _ _ _ _ hb).trans (Heap.get?_push_of_some _ ho))) (Nat.le_refl _) n1.symm ((hs2.2 x n1).trans (Heap.get?_update_self _ hx1 rfl)) hn2
end
/-- what the written part says of an own error class at C over Python's B -/
structure OvC (K : PySem.W.Frag) (C : Addr) (B newId initId : String) (bmB : List Value) : Prop where
  cls : ∃ nm q N bs bm sn sub ab col dd k0 k1 k2 k3 k5, K.lookup C = some (excClassObj nm q C N bs bm true sn sub ab col dd k0 k1 k2 k3 k5 newId) ∧ PySem.W.excTail bmB bm = true
  bas : ExcBaseFacts B newId initId bmB
  obj : bmB.contains (.type "object") = true
  pas : ∀ self, refuseLoop self "__setattr__" bmB = pure ()
  sa : PySem.W.findIn K (.ref C) "__setattr__" = some (some (.builtin "object.__setattr__"))
  exC : PySem.W.subIn K (.ref C) (.type "BaseException") = some true
  tyC : PySem.W.typeIn K (.ref C) = some (.type "type")
  kC : PySem.W.keepIn K (.ref C) = true
section
variable {X : Cx} {pins : List (Addr × Obj)} {σ : L2.St} {H : Hp} {s : Shared} {a C : Addr} {f : Str} {y : V} {u : Value} {Q : Unit → Shared → Prop} {E : Value → Shared → Prop} {A : Around} {B newId initId : String} {bmB : List Value}
theorem fieldG (T : OvC X.K C B newId initId bmB) (I : Inv X pins σ H s) (e : H a = some (exo a C none)) (hno : PySem.W.findIn X.K (.ref C) f = some none) (ry : RelV y u)
    (h : ∀ dx s', H dx = none → dx ≠ a → Inv X pins σ (upd (upd H dx (exd dx [(f, y)])) a (exo a C (some dx))) s' → Q () s') : wpAny (model X.prog X.w) A (setAttr (.ref a) f u) Q E s := by
  obtain ⟨nm, q, N, bs, bm, sn, sub, ab, col, dd, k0, k1, k2, k3, k5, hC, hbm⟩ := T.cls
  have hcl : ∃ cd, PySem.W.clsIn X.K C = some cd ∧ cd.mro = .ref C :: bm ∧ cd.hasDict = true := by
    refine ⟨⟨nm, bs, .ref C :: bm, N, q, true, sn, sub, ab, col, false⟩, ?_, rfl, rfl⟩
    unfold PySem.W.clsIn
    rw [hC]
  obtain ⟨cd, c1, c2, c3⟩ := hcl
  obtain ⟨t1, ho⟩ := exo_at I.hok e
  obtain ⟨hp, g, dr, tk, os⟩ := s
  refine PySem.W.set_plain I.kIn (ox := { cls := .ref C, dict := none, data := .fields #[.ref t1, .none, .none, .none, .bool false, .none] }) (od := none) ⟨ho, rfl, rfl, trivial⟩ T.sa ?_
  refine osaG I.kIn ho c1 (by rw [c2]; exact hbm) (fun z => ?_) T.obj T.pas c3 hno (fun h2 tk2 dx kp dn ne hx hn => ?_)
  · have z2 := T.obj
    rw [z] at z2
    cases z2
  have free : H dx = none := I.hok.fresh dn
  have old : ∀ {b : Addr} {o : Obj}, hp.get? b = some o → b ≠ dx := fun {b o} q => Nat.ne_of_lt (Nat.lt_of_lt_of_le (Heap.lt_size q) dn)
  have off : ∀ {b : Addr}, H b = none → b ≠ a := fun {b} n z => by
    subst z
    rw [e] at n
    cases n
  have un : Un X.fs [] H (upd (upd H dx (exd dx [(f, y)])) a (exo a C (some dx))) hp h2 := by
    constructor
    · exact fun b o q n _ _ => kp b o (off n) q
    · exact fun b o q n _ _ => ⟨o.slots, kp b o (off n) q⟩
    · exact fun b o q n _ => by
        rw [upd_ne (off n), upd_ne (old q)]
        exact n
    · intro b o q _
      by_cases hb : b = a
      · subst hb
        exact ⟨_, hx⟩
      · exact ⟨o, kp b o hb q⟩
    · exact fun b xs q => by
        rw [upd_ne (at_ne e q exo_tup), upd_ne (ne_of_none q free)]
        exact q
    · exact fun b o v q => by
        rw [upd_ne (at_ne e q exo_frz), upd_ne (ne_of_none q free)]
        exact q
    · exact fun b ps q => ⟨#[], by
        rw [upd_ne (at_ne e q exo_tbl), upd_ne (ne_of_none q free), q]
        simp⟩
  refine h dx _ free ne (I.un (t' := tk2) un fun b o q => ?_)
  by_cases hb : b = a
  · subst hb
    rw [upd_same] at q
    obtain rfl := Option.some.inj q
    exact exo_ok hx
  rw [upd_ne hb] at q
  by_cases hd : b = dx
  · subst hd
    rw [upd_same] at q
    obtain rfl := Option.some.inj q
    exact exd_ok hn (relO_put (fs := []) ry fun _ => True.intro)
  rw [upd_ne hd] at q
  refine (I.hok b o q).stay (fun c v hc z => kp c v ?_ z) (fun c hc => ?_) (fun c xs hc => ?_)
  · rcases hc with rfl | hc
    · exact hb
    · exact at_ne e hc exo_own
  · rw [upd_ne (at_ne e hc exo_own), upd_ne (ne_of_none hc free)]
    exact hc
  · rw [upd_ne (at_ne e hc exo_tup), upd_ne (ne_of_none hc free)]
    exact hc
end
/-- self.f = e, the one field of such an error -/
def tFieldG (K : PySem.W.Frag) (f : Str) (to te : TE) : TS := fun D σ H => te σ H fun y H1 => to σ H1 fun x H2 => ∃ (a C : Addr) (B newId initId : String) (bmB : List Value), x = .ref a ∧ OvC K C B newId initId bmB ∧ PySem.W.findIn K (.ref C) f = some none ∧
  H2 a = some (exo a C none) ∧ ∀ dx, H2 dx = none → dx ≠ a → D.nx σ (upd (upd H2 dx (exd dx [(f, y)])) a (exo a C (some dx)))
section
variable {X : Cx} {o e : Expr} {es : List Expr} {to te : TE} {ta : TA} {f : Str} {p q1 pos : Pos} {B newId initId : String} {bmB : List Value}
theorem ps_fieldG (ho : PE X o to) (he : PE X e te) (hs : swapsWith e (some (.Attribute o f q1)) pos.line X.env = pure false := by rfl) : PS X (.Assign [.Attribute o f q1] e pos) (tFieldG X.K f to te) := by
  refine ⟨fun pins s σ H D I h => ?_⟩
  refine plainObj_wpAny_Assign_Attribute (thn (he.run pins s σ H _ I h) fun v s1 ⟨y, H1, I1, r1, z1⟩ => thn (ho.run pins s1 σ H1 _ I1 z1) fun u s2 ⟨x, H2, I2, r2, a, C, B, newId, initId, bmB, ex, T, hno, ea, z⟩ => ?_) hs
  subst ex
  obtain rfl : u = Value.ref a := r2
  exact fieldG T I2 ea hno r1 fun dx s' n ne J => ⟨σ, _, J, z dx n ne⟩
/-- C(e, ..) where it is raised -/
theorem pmkG {CX : CXT} {x : Str} {C fI : Addr} {k : Nat} {fd : FuncData} {ps : List Str} {sp : Sp} (T : OvC X.K C B newId initId bmB) (iC : PySem.W.findIn X.K (.ref C) "__init__" = some (some (.ref fI))) (tI : PySem.W.typeIn X.K (.ref fI) = some (.type "function"))
    (F1 : FnOk X.prog X.w X.K X.mg X.base CX k fI fd ps sp) (hr : Room (k + 1) X.A) (hb : Binds X.K fd ps []) (hx : Passes CX X (fun _ _ _ => False)) (hg : Gl X x) (hm : X.mg x = some (.ref C)) (ha : PA X (e :: es) ta)
    (hdb : (x == ("__debug__" : Str)) = false := by decide) (he : starEach (e :: es) X.env = (false, eval e X.env) :: starEach es X.env := by rfl) (hpl : (backTo pos (starEach es X.env)).any (·.1) = false := by rfl) :
    PMk X (.Call (.Name x p) (e :: es) [] pos) (tMkO C sp [] ta) := by
  intro pins s σ H Q I h
  obtain ⟨nm, q, N, bs, bm, sn, sub, ab, col, dd, k0, k1, k2, k3, k5, hC, hbm⟩ := T.cls
  refine wpAny_Call_Name_kw (ld_glob I hg hm (PySem.W.callWith_K (h₀ := X.base) I.ok.mod.kin T.kC (thn (ha.run pos pins s σ H _ I h) fun us s1 ⟨vs, H1, I1, r1, hz, z1⟩ => ⟨I1.kIn, ?_⟩) he hpl) hdb)
  show wpAny _ _ (call (.ref C) us) _ _ _
  obtain ⟨hp, g, dr, tk, os⟩ := s1
  have le1 : hp.objs.size ≤ hp.objs.size + 1 := Nat.le_succ _
  have z2 := z1 (hp.objs.size + 1) (I1.hok.fresh le1)
  have keep : ∀ b o, hp.get? b = some o → ((hp.push (PySem.W.kdv_tup us)).push (PySem.HandSPX.excO C hp.objs.size)).get? b = some o := fun b o e => Heap.get?_push_of_some _ (Heap.get?_push_of_some _ e)
  have hget : ((hp.push (PySem.W.kdv_tup us)).push (PySem.HandSPX.excO C hp.objs.size)).get? (hp.objs.size + 1) = some (PySem.HandSPX.excO C hp.objs.size) := by heap_get
  have I2 := I1.laid (t' := tk) (a := hp.objs.size + 1) (o := exo (hp.objs.size + 1) C none) (h' := (hp.push (PySem.W.kdv_tup us)).push (PySem.HandSPX.excO C hp.objs.size)) keep le1 (exo_ok hget)
  rw [List.append_nil] at z2
  have r2 : Vals (V.ref (hp.objs.size + 1) :: vs) (Value.ref (hp.objs.size + 1) :: us) := .cons rfl r1
  have bi := hb ⟨(hp.push (PySem.W.kdv_tup us)).push (PySem.HandSPX.excO C hp.objs.size), g, dr, tk, os⟩ (Value.ref (hp.objs.size + 1) :: us) I2.kIn (by rw [List.append_nil]; exact r2.length.symm.trans (F1.len _ _ _ _ z2))
  rw [List.append_nil] at bi
  have hus : us.length ≤ sizeLine := by
    have := r1.length
    rw [sizeLine_eq]
    omega
  refine wpAny_call (PySem.HandSPX.call_own T.bas (fun Y => PySem.W.excTail_contains Y bm hbm) (I1.kIn _ _ hC) (PySem.W.looks_findIn I1.kIn iC) (fun self => PySem.W.bind_fn I1.kIn self tI) hus (codeAny_mono
    (F1.run _ X.stack _ _ ⟨Value.ref (hp.objs.size + 1) :: us, []⟩ (Value.ref (hp.objs.size + 1) :: us) _ _ (fun _ _ _ => False) (hr.make C us []) (I2.env0.make C us []) bi r2 z2) fun r s2 z3 => ?_))
  match r, z3 with
  | .error er, z3 => exact hx pins σ _ _ er s2 I2 z3
  | .ok (.ret u), z3 =>
    obtain ⟨v, H2, os2, bare2, un2, hok2, rv, ev, dx, fs, ea, ed, hd1, z4⟩ := z3
    subst ev
    obtain ⟨h2, g2, d2, t2, os'⟩ := s2
    exact ⟨rv, mk_end (raises_own T.exC T.tyC) I1 le1 keep un2 hok2 os2 bare2 ea ed hd1 z4⟩
end
/-- such a class with one field f, its __init__ at fI -/
structure ErrG (K : PySem.W.Frag) (C fI : Addr) (f : Str) (B newId initId : String) (bmB : List Value) : Prop where
  ov : OvC K C B newId initId bmB
  xf : XfC K C
  exc : ExcC K C
  no : PySem.W.findIn K (.ref C) f = some none
  te : PySem.W.exmOne K (.ref C) (.ref C) = some true
  iC : PySem.W.findIn K (.ref C) "__init__" = some (some (.ref fI))
  tI : PySem.W.typeIn K (.ref fI) = some (.type "function")
end Mo

/-! ### t[::-1], t a tuple -/
namespace Mo
open PySem PySem.Spec PyProof.Rows L2
theorem cut_mid (xs : List V) {a b : Nat} (h : a ≤ b) (hb : b ≤ xs.length) : cutV xs (some (a : Int)) (some (b : Int)) = (xs.drop a).take (b - a) := by
  unfold cutV
  rw [HT.sIx_nat, HT.sIx_nat, Nat.min_eq_left (show a ≤ xs.length by omega), Nat.min_eq_left hb]
theorem back_adjust (n : Nat) : Builtin.Slice.sliceAdjust none none (-1) (n : Int) = ((n : Int) - 1, -1) := by
  unfold Builtin.Slice.sliceAdjust
  rfl
theorem back_places (n : Nat) : Builtin.Slice.slicePlaces ((n : Int) - 1) (-1) (-1) = n := by
  unfold Builtin.Slice.slicePlaces
  rw [if_neg (by omega)]
  cases n with
  | zero => rfl
  | succ m =>
    rw [if_pos (by omega), show -(-1 : Int) = 1 from rfl, Int.ediv_one]
    omega
theorem back_items (xs : Array Value) : ((List.range xs.size).filterMap fun (k : Nat) => xs[(((xs.size : Int) - 1) + (k : Int) * (-1)).toNat]?).toArray = xs.toList.reverse.toArray := by
  refine congrArg List.toArray ?_
  have h1 : ∀ l : List Nat, (∀ k ∈ l, k < xs.size) → l.filterMap (fun (k : Nat) => xs[(((xs.size : Int) - 1) + (k : Int) * (-1)).toNat]?) = l.map fun k => xs.toList.reverse.getD k Value.none := by
    intro l
    induction l with
    | nil => intro _; rfl
    | cons k r ih =>
      intro h
      have hk := h k (List.mem_cons_self ..)
      have e : (((xs.size : Int) - 1) + (k : Int) * (-1)).toNat = xs.size - 1 - k := by omega
      have e2 : xs[xs.size - 1 - k]? = some (xs.toList.reverse.getD k Value.none) := by
        rw [List.getD_eq_getElem?_getD, List.getElem?_reverse (by rw [Array.length_toList]; exact hk), Array.length_toList, Array.getElem?_toList, Array.getElem?_eq_getElem (by omega)]
        rfl
      rw [List.filterMap_cons, e, e2, List.map_cons, ih fun j hj => h j (List.mem_cons_of_mem _ hj)]
  rw [h1 _ fun k hk => List.mem_range.mp hk]
  apply List.ext_getElem?
  intro i
  rw [List.getElem?_map]
  rcases Nat.lt_or_ge i xs.size with g | g
  · rw [List.getElem?_range g, Option.map_some, List.getD_eq_getElem?_getD, List.getElem?_eq_getElem (by rw [List.length_reverse, Array.length_toList]; exact g)]
    rfl
  · rw [List.getElem?_eq_none (by rw [List.length_range]; exact g), List.getElem?_eq_none (by rw [List.length_reverse, Array.length_toList]; exact g)]
    rfl
section
variable {prog : Program} {w : World} {A : Around} {E : Value → Shared → Prop} {s : Shared}
theorem getItem_tuple_back {t sl : Addr} {items : Array Value} {vl vu vs : Value} {Q : Value → Shared → Prop} (ht : IsTup s.heap t items) (hs : s.heap.IsSliceOf sl vl vu vs) (pl : IsPart vl none) (pu : IsPart vu none) (ps : IsPart vs (some (-1)))
    (h : Q (.ref s.heap.objs.size) { s with heap := s.heap.push { cls := .type "tuple", data := .seq items.toList.reverse.toArray } })
    (hsz : items.size ≤ sizeLine) : wpAny (model prog w) A (getItem (.ref t) (.ref sl)) Q E s := by
  have hsize : sizeOk (.seq items.toList.reverse.toArray) := by
    show items.toList.reverse.toArray.size ≤ sizeLine
    rw [List.size_toArray, List.length_reverse, Array.length_toList]
    exact hsz
  obtain ⟨os, hos, hcs, hds⟩ := id hs
  have hTs : s.TypeIs (.ref sl) "slice" := ⟨os, hos, hcs⟩
  unfold getItem
  refine wpAny_holding ?_
  first | refine wpAny_bind (wpAny_pure ?_) | skip
  refine wpAny_bind (wpAny_sequenceKey ht.typeIs (by decide) (wpAny_bind (wpAny_callSpecial?_slot (name := Str.ofString "__getitem__") ht.typeIs PyProof.Rows.slot_tuple_getitem
    (wpAny_call_entry PyProof.Rows.slot_tuple_getitem ht.typeIs PyProof.Rows.entry_tuple_getitem ?_ (PyProof.Rows.args_tuple_getitem _ _)))))
  show wpAny _ _ (Builtin.Tuple.tupleItemsOf (.ref t) >>= _) _ _ s
  refine wpAny_bind (PyProof.Rows.tupleItemsOf_ ht (wpAny_bind (wpAny_typeOf hTs ?_)))
  rw [if_pos (by decide)]
  have ap : ∀ {B : Around} {R : Int × Int × Nat → Shared → Prop}, R ((items.size : Int) - 1, -1, items.size) s → wpAny (model prog w) B (Builtin.Slice.sliceApplied (.ref sl) (pure (items.size : Int))) R E s := by
    intro B R hR
    unfold Builtin.Slice.sliceApplied Builtin.Slice.sliceFields
    refine wpAny_bind (wpAny_bind (wpAny_field hos hds (x := vl) rfl (wpAny_bind (wpAny_field hos hds (x := vu) rfl (wpAny_bind (wpAny_field hos hds (x := vs) rfl (wpAny_pure ?_)))))))
    refine wpAny_bind (HT.slicePart_ ps ?_)
    show wpAny _ _ (if ((-1 : Int) == 0) = true then _ else _) _ _ s
    rw [if_neg (by decide)]
    refine wpAny_bind (HT.slicePart_ pl (wpAny_bind (HT.slicePart_ pu (wpAny_bind (wpAny_pure ?_)))))
    show wpAny _ _ (match Builtin.Slice.sliceAdjust none none (-1) (items.size : Int) with | (lo, hi) => pure (lo, (-1 : Int), Builtin.Slice.slicePlaces lo hi (-1))) _ _ s
    rw [back_adjust]
    show wpAny _ _ (pure ((items.size : Int) - 1, (-1 : Int), Builtin.Slice.slicePlaces ((items.size : Int) - 1) (-1) (-1))) _ _ s
    rw [back_places]
    exact wpAny_pure hR
  refine wpAny_bind (ap ?_)
  have hno : ¬ ((((items.size : Int) - 1) == 0 && (-1 : Int) == 1 && items.size == items.size) = true) := by
    rw [show ((-1 : Int) == 1) = false from rfl, Bool.and_false, Bool.false_and]
    exact Bool.false_ne_true
  show wpAny _ _ (if (((items.size : Int) - 1) == 0 && (-1 : Int) == 1 && items.size == items.size) = true then _ else _) _ _ s
  rw [if_neg hno, back_items]
  first
    | exact wpAny_bind (m := Builtin.Tuple.tupleExact _) (wpAny_newObj_type (wpAny_pure ⟨_, rfl, wpAny_pure h⟩) hsize)
    | exact wpAny_bind (m := Builtin.Tuple.tupleExact _) (wpAny_newObj_type (wpAny_bind (wpAny_pure (wpAny_pure ⟨_, rfl, wpAny_pure h⟩))) hsize)
    | exact wpAny_bind (wpAny_bind (m := Builtin.Tuple.tupleExact _) (wpAny_newObj_type (wpAny_pure (wpAny_pure ⟨_, rfl, wpAny_pure h⟩)) hsize))
    | exact wpAny_bind (wpAny_bind (m := Builtin.Tuple.tupleExact _) (wpAny_newObj_type (wpAny_pure ⟨_, rfl, wpAny_pure h⟩) hsize))
end
section
variable {X : Cx}
def tRevT (K : PySem.W.Frag) (te : TE) : TE := fun σ H Q => te σ H fun x H1 => ∃ a xs, x = .ref a ∧ SqT K H1 a xs ∧ ∀ p, H1 p = none → Q (.ref p) (upd H1 p (.tup xs.reverse))
theorem pe_revT {e : Expr} {te : TE} {k : Nat} {p1 p2 p3 pos : Pos} (he : PE X e te) : PE X (.Subscript e (.Slice none none (some (.UnaryOp .USub (.Constant (.int 1) k p1) p2)) p3) pos) (tRevT X.K te) := by
  refine ⟨fun pins s σ H Q I h => Subscript_ (thn (he.run pins s σ H _ I h) fun v s1 ⟨x, H1, I1, r1, a, xs, ex, hx, q⟩ => ?_)⟩
  subst ex
  cases r1
  have hst : PO X (some (.UnaryOp .USub (.Constant (.int 1) k p1) p2)) (tPart (tUn (rU fun i => .int (-i)) (tC (.int 1)))) := po_some (pe_un un_neg pe_int)
  refine wpAny_Slice (thn (po_none.run pins s1 σ H1 (fun o H2 => o = none ∧ H2 = H1) I1 ⟨rfl, rfl⟩) fun vl s2 ⟨l, H2, I2, pl, el, e2⟩ => ?_)
  subst el e2
  refine thn (po_none.run pins s2 σ H2 (fun o H3 => o = none ∧ H3 = H2) I2 ⟨rfl, rfl⟩) fun vu s3 ⟨u, H3, I3, pu, eu, e3⟩ => ?_
  subst eu e3
  refine thn (hst.run pins s3 σ H3 (fun o H4 => o = some (-1) ∧ H4 = H3) I3 ⟨1, rfl, -1, rfl, rfl, rfl⟩) fun vs s4 ⟨o, H4, I4, ps, eo, e4⟩ => ?_
  subst eo e4
  have I5 : Inv X pins σ H4 { s4 with heap := s4.heap.push { cls := .type "slice", data := .fields #[vl, vu, vs] } } := I4.kept (t' := s4.toks) fun b ob q => Heap.get?_push_of_some _ q
  obtain ⟨its, r, ht, hz⟩ := I5.tuple hx
  have hlen := r.length
  show wpAny (model X.prog X.w) X.A (subscriptTail e (.Slice none none (some (.UnaryOp .USub (.Constant (.int 1) k p1) p2)) p3) (.ref a) (.ref s4.heap.objs.size)) (EP X pins σ Q) X.xe { s4 with heap := s4.heap.push { cls := .type "slice", data := .fields #[vl, vu, vs] } }
  refine tail_any (ops := [.ref a, .ref s4.heap.objs.size]) ht.typeIs (PyProof.Rows.slot_tuple_getitem.lookup) (getItem_tuple_back ht (Heap.IsSliceOf.new _ vl vu vs) pl pu ps ?_ (by rw [List.size_toArray]; omega)) (by with_unfolding_all rfl)
  exact ⟨.ref _, _, I5.laid (t' := s4.toks) (o := .tup xs.reverse) (fun b ob q => Heap.get?_push_of_some _ q) (Nat.le_refl _) ⟨by rw [List.length_reverse]; exact hz, _, r.reverse, IsTup.new _ _⟩, rfl, q _ (I5.hok.fresh (Nat.le_refl _))⟩
end
end Mo

namespace Mo
open PySem PySem.Spec PyProof.Rows L2
section
variable {P : Program} {w : World} {K : PySem.W.Frag} {mg : Str → Option Value} {base : Heap}
theorem ok_hlfs {k : Nat} (T : Txt K mg) : FnOk P w K mg base CX0 (k + 3) T.aHalfBorders T.dHalfBorders ["text"] (spNums hlf) := by
  have GExtended : FnOk P w K mg base CX0 (k + 2) T.aExtended T.dExtended ["text", "longest", "border", "size"] spExt := ok_ext T
  have GLongestBorders : FnOk P w K mg base CX0 (k + 2) T.aLongestBorders T.dLongestBorders ["text"] (spNums lng) := ok_lngs T
  refine T.fHalfBorders.ok scHalfBorders (fun vs H Q E h => ?_) (fun cdv A outer s H vs Q E hr h => ?_)
  · obtain ⟨p, t, rfl, _⟩ := h
    rfl
  · obtain ⟨p, t, rfl, hp, hl, q⟩ := h
    refine ⟨_, (pss_cons (ps_set (i := 1) scHalfBorders.nd rfl (Or.inl rfl) (pe_call GLongestBorders hr (by rfl) T.gLongestBorders T.fLongestBorders.kp T.bLongestBorders .nil pass0 (pa_cons (pv 0) pa_nil)))
      (pss_cons (ps_set (i := 2) scHalfBorders.nd rfl (Or.inl rfl) (pe_op op_rep (pe_lst (pa_cons pe_int pa_nil)) (pe_op op_add (pe_callB call_len_seq (by rfl) T.m_len PySem.boot_len (pa_cons (pv 0) pa_nil)) pe_int)))
      (pss_cons (ps_set (i := 3) scHalfBorders.nd rfl (Or.inl rfl) pe_int)
      (pss_cons (ps_for PassesOwn.never rfl (pi_range2 (by rfl) T.m_range (pa_cons pe_int (pa_cons (pe_op op_add (pe_callB call_len_seq (by rfl) T.m_len PySem.boot_len (pa_cons (pv 0) pa_nil)) pe_int) pa_nil))) (pg_name (i := 4) scHalfBorders.nd rfl (Or.inl rfl)) (pss_cons (ps_set (i := 3) scHalfBorders.nd rfl (Or.inl rfl) (pe_call GExtended hr (by rfl) T.gExtended T.fExtended.kp T.bExtended .nil pass0 (pa_cons (pv 0) (pa_cons (pv 1) (pa_cons (pv 3) (pa_cons (pv 4) pa_nil))))))
      (Evl.pss_cut (ps_while PassesOwn.never (pt_cmpR op_ge (pe_op op_mul pe_int (pv 3)) (pv 4) (nomark _)) (pss_one (ps_set (i := 3) scHalfBorders.nd rfl (Or.inl rfl) (pe_ix ix_list (pv 1) (pv 3) (fun _ _ => rfl)))))
      (pss_one (ps_asg (pv 3) (pg_sub (pv 2) (pv 4) set_list))))))
      (pss_one (ps_ret (pv 2))))))), ?_⟩
    refine ⟨_, rfl, p, t, rfl, hp, hl, fun H0 l0 s0 nl00 hl0 => ?_⟩
    refine ⟨by show 1 ≤ sizeLine; decide, fun z nz => ?_⟩
    have s1 := same_new (o := .lst [V.int 0]) nz
    refine ⟨_, rfl, p, _, rfl, .inr (SqT.of (s1 _ _ (s0 _ _ hp))), _, 1, rfl, rfl, z, _, [V.int 0], rfl, rfl, upd_same, ?_, ?_, ?_, fun l nl => ?_⟩
    · rw [List.length_map]
      omega
    · rw [List.length_map]
      omega
    · rw [List.length_map]
      exact fits5 (by show 1 * _ ≤ _; omega)
    have em : ((((t.map V.int).length : Nat) : Int) + 1).toNat = t.length + 1 := by rw [List.length_map]; omega
    have s2 := same_new (o := .lst (List.replicate ((((t.map V.int).length : Nat) : Int) + 1).toNat [V.int 0]).flatten) nl
    have nlA : H0 l = none := s1.free nl
    have nl0 : H l = none := s0.free nlA
    have nll : l0 ≠ l := ne_of_none hl0 nlA
    have hl2 : (upd (upd H0 z (.lst [V.int 0])) l (.lst (List.replicate ((((t.map V.int).length : Nat) : Int) + 1).toNat [V.int 0]).flatten)) l = some (.lst (((List.range (t.length + 1)).map fun k => (((fun k => if k < 2 then hlf t k else 0 : Nat → Nat) k : Nat) : Int)).map V.int)) := by
      rw [upd_same, em, zeros]
      refine congrArg (fun z => some (HO.lst (z.map V.int))) (List.map_congr_left fun k _ => ?_)
      by_cases g : k < 2
      · simp only [if_pos g]
        match k, g with
        | 0, _ => rfl
        | 1, _ => rfl
      · simp only [if_neg g]
    have s12 := (s0.trans s1).trans s2
    have hl02 := s2 _ _ (s1 _ _ hl0)
    generalize upd (upd H0 z (.lst [V.int 0])) l (.lst (List.replicate ((((t.map V.int).length : Nat) : Int) + 1).toNat [V.int 0]).flatten) = H2 at *
    have hp2 := s12 _ _ hp
    refine ⟨_, rfl, p, _, rfl, .inr (SqT.of hp2), _, 1, rfl, rfl, 2, _, rfl, ⟨by decide, by decide, by rw [List.length_map]; omega, by rw [List.length_map]; omega⟩, for_range (lo := 2) (fun i σ H' => ∃ o3 : Option V, σ = [some (.ref p), some (.ref l0), some (.ref l), some (.int ((hlf t (i + 1) : Nat) : Int)), o3] ∧ Same H H' ∧ H' l0 = some (.lst (((List.range (t.length + 1)).map fun k => ((lng t k : Nat) : Int)).map V.int)) ∧ H' l = some (.lst (((List.range (t.length + 1)).map fun k => (((fun k => if k < i + 2 then hlf t k else 0 : Nat → Nat) k : Nat) : Int)).map V.int))) ?_ ?_ ?_⟩
    · exact ⟨_, rfl, s12, hl02, hl2⟩
    · rintro i σ H3 hi ⟨o3, rfl, s3, hl03, hl3⟩
      have hi2 : i + 2 ≤ t.length := by
        have h2 : i < ((((t.map V.int).length : Nat) : Int) + 1 - 2).toNat := hi
        rw [List.length_map] at h2
        omega
      have esz : (2 : Int) + (i : Int) = ((i + 1 + 1 : Nat) : Int) := by omega
      have at0 : ∀ k, k ≤ t.length → ((List.range (t.length + 1)).map fun k => ((lng t k : Nat) : Int))[k]? = some ((lng t k : Nat) : Int) := fun k hk => by
        rw [List.getElem?_map, List.getElem?_range (by omega)]
        rfl
      have hlt1 := hlf_lt (t := t) (n := i + 1) (by omega)
      refine ⟨_, rfl, _, rfl, _, rfl, _, rfl, p, l0, t, _, hlf t (i + 1), i + 1, ?_, s3 _ _ hp, hl03, by omega, (hlf_brd (by omega)).1, fun k hk => at0 k (by omega), ?_⟩
      · show [V.ref p, V.ref l0, V.int ((hlf t (i + 1) : Nat) : Int), V.int (2 + (i : Int))] = _
        rw [esz]
      -- back to a half
      refine ⟨fun σ H' => σ = [some (.ref p), some (.ref l0), some (.ref l), some (.int ((hlf t (i + 1 + 1) : Nat) : Int)), some (.int (2 + (i : Int)))] ∧ H' = H3, ?_, ?_⟩
      · refine while_by (fun σ H' => ∃ x : Nat, σ = [some (.ref p), some (.ref l0), some (.ref l), some (.int (x : Int)), some (.int (2 + (i : Int)))] ∧ H' = H3 ∧ Brd t (i + 1 + 1) x ∧ hlf t (i + 1 + 1) ≤ x) (fun σ H' => match σ with | [_, _, _, some (.int c), _] => c.toNat | _ => 0) ?_ ?_ ?_
        · exact ⟨_, rfl, rfl, top_brd (by omega) _, hlf_below (by omega)⟩
        · rintro σ H4 ⟨x, rfl, rfl, hx, hle⟩
          have hx1 := hx.1
          by_cases e1 : (2 : Int) * (x : Int) ≥ 2 + (i : Int)
          · refine ⟨_, rfl, 2, x, rfl, rfl, .inl ⟨by decide, by decide⟩, _, rfl, _, _, rfl, rfl, true, congrArg V.bl (decide_eq_true e1), iteT ?_⟩
            have hlx := lng_lt (t := t) (n := x) (by omega)
            refine ⟨_, rfl, _, rfl, l0, _, _, .int ((lng t x : Nat) : Int), rfl, rfl, SqL.of hl03, atI_nat (by rw [List.getElem?_map, at0 x (by omega)]; rfl), ⟨⟨lng t x, rfl, rfl, (Brd.inner hx hlx).mpr (lng_brd (by omega)), hlf_back hx (by omega) hle⟩, ?_⟩⟩
            show ((lng t x : Nat) : Int).toNat < ((x : Nat) : Int).toNat
            omega
          · have e2 := hlf_end hx (by omega) hle
            subst e2
            exact ⟨_, rfl, 2, _, rfl, rfl, .inl ⟨by decide, by decide⟩, _, rfl, _, _, rfl, rfl, false, congrArg V.bl (decide_eq_false e1), iteF ⟨rfl, rfl⟩⟩
        · rintro σ H4 Q1 Q2 hq ⟨v, h1, i1, j1, h2, h3, h4, v2, h5, i2, j2, h6, h7, k2, h8, h9⟩
          exact ⟨v, h1, i1, j1, h2, h3, h4, v2, h5, i2, j2, h6, h7, k2, h8, hq _ _ h9⟩
      · rintro σ H4 ⟨rfl, rfl⟩
        refine ⟨_, rfl, _, rfl, _, rfl, l, _, _, i + 2, rfl, rfl, hl3, ?_, ?_⟩
        · unfold ixN
          rw [List.length_map, List.length_map, List.length_range, if_pos (by omega), if_pos (by omega)]
          exact congrArg some (by omega)
        refine ⟨_, rfl, Same.put s3 nl0, by rw [upd_ne nll]; exact hl03, ?_⟩
        rw [upd_same]
        refine congrArg (fun z => some (HO.lst z)) ?_
        exact nums_set (f := fun k => if k < i + 2 then hlf t k else 0) (g := fun k => if k < i + 1 + 2 then hlf t k else 0) (j := i + 2) (by omega) (if_pos (by omega)) fun k hk e => by
          show (if k < i + 1 + 2 then hlf t k else 0) = if k < i + 2 then hlf t k else 0
          by_cases g : k < i + 2
          · rw [if_pos g, if_pos (by omega)]
          · rw [if_neg g, if_neg (by omega)]
    · rintro σ H3 ⟨o3, rfl, s3, _, hl3⟩
      refine ⟨_, rfl, q H3 l s3 nl0 ?_⟩
      rw [hl3]
      refine congrArg (fun z => some (HO.lst (z.map V.int))) (List.map_congr_left fun k hk => ?_)
      have hk2 := List.mem_range.mp hk
      have : k < ((((t.map V.int).length : Nat) : Int) + 1 - 2).toNat + 2 := by
        rw [List.length_map]
        omega
      simp only [if_pos this]
theorem ok_ranks {k : Nat} (T : Txt K mg) : FnOk P w K mg base CX0 (k + 4) T.aPrefixRanks T.dPrefixRanks ["text"] (spNums rk) := by
  have GHalfBorders : FnOk P w K mg base CX0 (k + 3) T.aHalfBorders T.dHalfBorders ["text"] (spNums hlf) := ok_hlfs T
  refine T.fPrefixRanks.ok scPrefixRanks (fun vs H Q E h => ?_) (fun cdv A outer s H vs Q E hr h => ?_)
  · obtain ⟨p, t, rfl, _⟩ := h
    rfl
  · obtain ⟨p, t, rfl, hp, hl, q⟩ := h
    refine ⟨_, (pss_cons (ps_set (i := 1) scPrefixRanks.nd rfl (Or.inl rfl) (pe_lst (pa_cons pe_int pa_nil)))
      (pss_cons (ps_for PassesOwn.never rfl (pi_list (pe_slice sl_list (pe_call GHalfBorders hr (by rfl) T.gHalfBorders T.fHalfBorders.kp T.bHalfBorders .nil pass0 (pa_cons (pv 0) pa_nil)) (po_some pe_int) po_none)) (pg_name (i := 2) scPrefixRanks.nd rfl (Or.inl rfl)) (pss_one (ps_expr (pe_bm PySem.F.plainAttrs_list PySem.F.slot_list_append PySem.F.type_list_append mt_append (pv 1) (pa_cons (pe_op op_add (pe_ix ix_list (pv 1) (pv 2) (fun _ _ => rfl)) pe_int) pa_nil)))))
      (pss_one (ps_ret (pv 1))))), ?_⟩
    refine ⟨by show 1 ≤ sizeLine; decide, fun r nr => ?_⟩
    have s1 := same_new (o := .lst [V.int 0]) nr
    refine ⟨_, rfl, p, t, rfl, s1 _ _ hp, hl, fun H2 l s2 nl hl2 => ?_⟩
    refine ⟨1, rfl, l, _, rfl, SqL.of hl2, fun m nm => ?_⟩
    have ec : cutV (((List.range (t.length + 1)).map fun k => ((hlf t k : Nat) : Int)).map V.int) (some 1) none = ((List.range t.length).map fun k => ((hlf t (k + 1) : Nat) : Int)).map V.int := by
      rw [show (some (1 : Int)) = some ((1 : Nat) : Int) from rfl, cut_from, List.range_succ_eq_map, List.map_cons, List.map_cons, List.drop_succ_cons, List.drop_zero, List.map_map, List.map_map, List.map_map]
      rfl
    have s3 := same_new (o := .lst (cutV (((List.range (t.length + 1)).map fun k => ((hlf t k : Nat) : Int)).map V.int) (some 1) none)) nm
    have hr3 := s3 _ _ (s2 _ _ (upd_same (H := H) (a := r) (o := .lst [V.int 0])))
    have nmr : m ≠ r := (ne_of_none (s2 _ _ (upd_same (H := H) (a := r) (o := .lst [V.int 0]))) nm).symm
    rw [ec] at s3 hr3 ⊢
    have hm3 : (upd H2 m (.lst (((List.range t.length).map fun k => ((hlf t (k + 1) : Nat) : Int)).map V.int))) m = some (.lst (((List.range t.length).map fun k => ((hlf t (k + 1) : Nat) : Int)).map V.int)) := upd_same
    have s123 := (s1.trans s2).trans s3
    generalize upd H2 m (.lst (((List.range t.length).map fun k => ((hlf t (k + 1) : Nat) : Int)).map V.int)) = H3 at *
    refine ⟨m, rfl, ⟨_, SqL.of hm3⟩, for_list (K := K) (a := m) (xs := ((List.range t.length).map fun k => ((hlf t (k + 1) : Nat) : Int)).map V.int) (fun i σ H' => ∃ o2 : Option V, σ = [some (.ref p), some (.ref r), o2] ∧ Same H H' ∧ H' m = some (.lst (((List.range t.length).map fun k => ((hlf t (k + 1) : Nat) : Int)).map V.int)) ∧ H' r = some (.lst (((List.range (i + 1)).map fun k => ((rk t k : Nat) : Int)).map V.int))) ?_ ?_ ?_ ?_⟩
    · refine ⟨_, rfl, s123, hm3, ?_⟩
      rw [hr3]
      show some (HO.lst [V.int 0]) = some (HO.lst [V.int ((rk t 0 : Nat) : Int)])
      rw [rk_zero]
      rfl
    · rintro i σ H4 _ ⟨o2, rfl, _, hm4, _⟩
      exact SqL.of hm4
    · rintro i x σ H4 hx ⟨o2, rfl, s4, hm4, hr4⟩
      have hi : i < t.length := by
        have := (List.getElem?_eq_some_iff.mp hx).1
        rw [List.length_map, List.length_map, List.length_range] at this
        exact this
      rw [List.getElem?_map, List.getElem?_map, List.getElem?_range hi] at hx
      cases hx
      have hlt := hlf_lt (t := t) (n := i + 1) (by omega)
      refine ⟨_, rfl, .inl ⟨rfl, _, SqL.of hr4⟩, _, rfl, _, rfl, r, _, _, .int ((rk t (hlf t (i + 1)) : Nat) : Int), rfl, rfl, SqL.of hr4, atI_nat (by rw [List.getElem?_map, List.getElem?_map, List.getElem?_range (by omega)]; rfl), _, 1, rfl, rfl, r, _, _, rfl, rfl, hr4, fitsLt (by rw [List.length_map, List.length_map, List.length_range]; omega), ?_⟩
      refine ⟨_, rfl, Same.put s4 nr, by rw [upd_ne nmr]; exact hm4, ?_⟩
      rw [upd_same, List.range_succ (n := i + 1), List.map_append, List.map_append]
      show some (HO.lst (_ ++ [V.int (((rk t (hlf t (i + 1)) : Nat) : Int) + 1)])) = some (HO.lst (_ ++ [V.int ((rk t (i + 1) : Nat) : Int)]))
      rw [rk_pos (k := i + 1) (by omega), Int.natCast_add]
      rfl
    · rintro σ H4 ⟨o2, rfl, s4, _, hr4⟩
      rw [List.length_map, List.length_map, List.length_range] at hr4
      exact ⟨_, rfl, q H4 r s4 nr hr4⟩
end
end Mo

namespace Mo
open PySem PySem.Spec PyProof.Rows L2
/-- these texts stand in the list -/
def Tups (H : Hp) (ps : List Addr) (vv : List (List Int)) : Prop := ps.length = vv.length ∧ ∀ (j : Nat) (a : Addr), ps[j]? = some a → H a = some (.tup ((vv.getD j []).map V.int))
theorem Tups.same {H H' : Hp} {ps : List Addr} {vv : List (List Int)} (h : Tups H ps vv) (s : Same H H') : Tups H' ps vv := ⟨h.1, fun j a e => s _ _ (h.2 j a e)⟩
theorem Tups.nil (H : Hp) : Tups H [] [] := ⟨rfl, fun j a e => by cases e⟩
theorem Tups.cons {H : Hp} {p : Addr} {v : List Int} {ps : List Addr} {vv : List (List Int)} (hp : H p = some (.tup (v.map V.int))) (h : Tups H ps vv) : Tups H (p :: ps) (v :: vv) := by
  refine ⟨by rw [List.length_cons, List.length_cons, h.1], fun j a e => ?_⟩
  cases j with
  | zero => cases e; exact hp
  | succ j => exact h.2 j a e
section
variable {P : Program} {w : World} {K : PySem.W.Frag} {mg : Str → Option Value} {base : Heap}
def spSplit : Sp := fun vs H Q _ => ∃ (p : Addr) (t : List Int) (m : Nat), vs = [.ref p, .int ((m + 1 : Nat) : Int)] ∧ H p = some (.tup (t.map V.int)) ∧ t.length ≤ 400 ∧ m < 400 ∧
  ∀ H' l ps, Same H H' → H l = none → H' l = some (.lst (ps.map V.ref)) → Tups H' ps (vls t t.length m) → Q (.ref l) H'
theorem ok_split {k : Nat} (T : Txt K mg) : FnOk P w K mg base CX0 (k + 4) T.aSplitBlock T.dSplitBlock ["text", "count"] spSplit := by
  have GHalfBorders : FnOk P w K mg base CX0 (k + 3) T.aHalfBorders T.dHalfBorders ["text"] (spNums hlf) := ok_hlfs T
  refine T.fSplitBlock.ok scSplitBlock (fun vs H Q E h => ?_) (fun cdv A outer s H vs Q E hr h => ?_)
  · obtain ⟨p, t, m, rfl, _⟩ := h
    rfl
  · obtain ⟨p, t, m, rfl, hp, hl, hm, q⟩ := h
    refine ⟨_, (pss_cons (ps_set (i := 2) scSplitBlock.nd rfl (Or.inl rfl) (pe_call GHalfBorders hr (by rfl) T.gHalfBorders T.fHalfBorders.kp T.bHalfBorders .nil pass0 (pa_cons (pv 0) pa_nil)))
      (pss_cons (ps_set (i := 3) scSplitBlock.nd rfl (Or.inl rfl) (pe_callB call_len_seq (by rfl) T.m_len PySem.boot_len (pa_cons (pv 0) pa_nil)))
      (pss_cons (ps_set (i := 4) scSplitBlock.nd rfl (Or.inl rfl) (pe_lst pa_nil))
      (pss_cons (ps_while PassesOwn.never (pt_cmpR op_lt (pe_callB call_len_seq (by rfl) T.m_len PySem.boot_len (pa_cons (pv 4) pa_nil)) (pe_op op_sub (pv 1) pe_int) (nomark _)) (pss_cons (ps_set (i := 5) scSplitBlock.nd rfl (Or.inl rfl) (pe_ix ix_list (pv 2) (pv 3) (fun _ _ => rfl)))
      (pss_cons (ps_set (i := 4) scSplitBlock.nd rfl (Or.inl rfl) (pe_op op_cat (pe_lst (pa_cons (pe_slice sl_tupA (pv 0) (po_some (pv 5)) (po_some (pe_op op_sub (pv 3) (pv 5)))) pa_nil)) (pv 4)))
      (pss_one (ps_set (i := 3) scSplitBlock.nd rfl (Or.inl rfl) (pv 5))))))
      (pss_one (ps_ret (pe_op op_cat (pe_lst (pa_cons (pe_slice sl_tupA (pv 0) po_none (po_some (pv 3))) pa_nil)) (pv 4)))))))), ?_⟩
    refine ⟨_, rfl, p, t, rfl, hp, hl, fun H1 hv s1 nhv hhv => ?_⟩
    refine ⟨_, rfl, p, _, rfl, .inr (SqT.of (s1 _ _ hp)), Nat.zero_le _, fun g0 ng0 => ?_⟩
    have s2 := same_new (o := .lst []) ng0
    refine while_by (fun σ H' => ∃ (g : Addr) (n i : Nat) (ps : List Addr) (vv : List (List Int)) (o5 : Option V), σ = [some (.ref p), some (.int ((m + 1 : Nat) : Int)), some (.ref hv), some (.int (n : Int)), some (.ref g), o5] ∧ Same H1 H' ∧ H1 g = none ∧ H' g = some (.lst (ps.map V.ref)) ∧ Tups H' ps vv ∧ vv.length = i ∧ i ≤ m ∧ n ≤ t.length ∧ vls t t.length m = vls t n (m - i) ++ vv) (fun σ H' => match σ with | [_, _, _, _, some (.ref g), _] => (match H' g with | some (.lst xs) => 500 - xs.length | _ => 0) | _ => 0) ?_ ?_ ?_
    · refine ⟨g0, t.length, 0, [], [], none, ?_, s2, ng0, upd_same, Tups.nil _, rfl, by omega, Nat.le_refl _, by rw [List.append_nil]; rfl⟩
      rw [show t.length = (t.map V.int).length by rw [List.length_map]]
      rfl
    · rintro σ H3 ⟨g, n, i, ps, vv, o5, rfl, s3, ng, hg, tu, hi, him, hn, hvls⟩
      have pl : (ps.map V.ref).length = i := by rw [List.length_map, tu.1, hi]
      have h2 : hlf t n ≤ n - hlf t n := by
        rcases Nat.eq_zero_or_pos n with z | z
        · subst z
          rw [hlf_zero]
          omega
        · have := (hlf_brd (t := t) z).2
          omega
      by_cases e : (((ps.map V.ref).length : Nat) : Int) < ((m + 1 : Nat) : Int) - 1
      · refine ⟨_, rfl, g, _, rfl, .inl (SqL.of hg), _, rfl, _, 1, rfl, rfl, _, _, rfl, rfl, true, congrArg V.bl (decide_eq_true e), iteT ?_⟩
        have him2 : i < m := by
          rw [pl] at e
          omega
        refine ⟨_, rfl, _, rfl, hv, _, _, .int ((hlf t n : Nat) : Int), rfl, rfl, SqL.of (s3 _ _ hhv), atI_nat (by rw [List.getElem?_map, List.getElem?_map, List.getElem?_range (by omega)]; rfl), ?_⟩
        refine ⟨_, rfl, _, rfl, ((hlf t n : Nat) : Int), rfl, _, rfl, _, rfl, n, ((hlf t n : Nat) : Int), rfl, rfl, ((n - hlf t n : Nat) : Int), congrArg V.int (show (n : Int) - ((hlf t n : Nat) : Int) = ((n - hlf t n : Nat) : Int) by omega), slA_any (s3 _ _ (s1 _ _ hp)) fun p1 H4 s4 h4 _ => ?_⟩
        rw [cut_mid _ h2 (by rw [List.length_map]; omega), ← List.map_drop, ← List.map_take] at h4
        refine ⟨by show 1 ≤ sizeLine; decide, fun o no => ?_⟩
        have s5 := same_new (o := .lst [V.ref p1]) no
        refine ⟨_, rfl, o, g, _, _, rfl, rfl, upd_same, s5 _ _ (s4 _ _ hg), fits5 (by rw [pl]; show 1 + _ ≤ _; omega), fun g2 ng2 => ?_⟩
        have s6 := same_new (o := .lst ([V.ref p1] ++ ps.map V.ref)) ng2
        have s46 := (s4.trans s5).trans s6
        refine ⟨_, rfl, ⟨⟨g2, hlf t n, i + 1, p1 :: ps, mid t n :: vv, _, rfl, s3.trans s46, ((s3.trans s4).trans s5).free ng2, by rw [upd_same]; rfl, Tups.cons (s6 _ _ (s5 _ _ h4)) (tu.same s46), by rw [List.length_cons, hi], by omega, by omega, ?_⟩, ?_⟩⟩
        · rw [hvls, show m - i = (m - (i + 1)) + 1 by omega, vls, List.append_assoc]
          rfl
        · show (match (upd (upd H4 o (.lst [V.ref p1])) g2 (.lst ([V.ref p1] ++ ps.map V.ref))) g2 with | some (.lst xs) => 500 - xs.length | _ => 0) < (match H3 g with | some (.lst xs) => 500 - xs.length | _ => 0)
          rw [upd_same, hg]
          show 500 - ([V.ref p1] ++ ps.map V.ref).length < 500 - (ps.map V.ref).length
          rw [List.length_append, pl]
          show 500 - (1 + i) < 500 - i
          omega
      · refine ⟨_, rfl, g, _, rfl, .inl (SqL.of hg), _, rfl, _, 1, rfl, rfl, _, _, rfl, rfl, false, congrArg V.bl (decide_eq_false e), iteF ?_⟩
        have him2 : i = m := by
          rw [pl] at e
          omega
        refine ⟨_, rfl, _, rfl, n, rfl, slA_any (s3 _ _ (s1 _ _ hp)) fun p1 H4 s4 h4 _ => ?_⟩
        rw [cut_to, ← List.map_take] at h4
        refine ⟨by show 1 ≤ sizeLine; decide, fun o no => ?_⟩
        have s5 := same_new (o := .lst [V.ref p1]) no
        refine ⟨_, rfl, o, g, _, _, rfl, rfl, upd_same, s5 _ _ (s4 _ _ hg), fits5 (by rw [pl]; show 1 + _ ≤ _; omega), fun g2 ng2 => ?_⟩
        have s6 := same_new (o := .lst ([V.ref p1] ++ ps.map V.ref)) ng2
        have s46 := (s4.trans s5).trans s6
        refine q _ g2 (p1 :: ps) (s1.trans (s3.trans s46)) (s1.free (((s3.trans s4).trans s5).free ng2)) (by rw [upd_same]; rfl) ?_
        rw [hvls, him2, Nat.sub_self]
        exact Tups.cons (s6 _ _ (s5 _ _ h4)) (tu.same s46)
    · rintro σ H3 Q1 Q2 hq ⟨v, h1, a1, xs, e1, sq, v2, h2, i1, j1, e2, e3, i2, j2, e4, e5, k2, e6, fin⟩
      exact ⟨v, h1, a1, xs, e1, sq, v2, h2, i1, j1, e2, e3, i2, j2, e4, e5, k2, e6, hq _ _ fin⟩
end
end Mo

namespace Mo
open PySem PySem.Spec PyProof.Rows L2
section
variable {P : Program} {w : World} {K : PySem.W.Frag} {mg : Str → Option Value} {base : Heap}
/-- are_values -/
def spAre : Sp := fun vs H Q _ => ∃ (l p : Addr) (t : List Int) (m : Nat) (ps : List Addr) (vv : List (List Int)), vs = [.ref l, .int ((m + 1 : Nat) : Int), .ref p] ∧ H p = some (.tup (t.map V.int)) ∧ H l = some (.lst (ps.map V.ref)) ∧ Tups H ps vv ∧ vv.length = m + 1 ∧ m < 12 ∧ (∀ v ∈ vv, v ≠ [] ∧ v.length ≤ 400) ∧ m ≤ 6 ∧ ((uni (m + 1)).flatMap fun u => vv.getD u.toNat []) = t ∧ ∀ H', Same H H' → Q (.bl true) H'
theorem ok_are {k : Nat} (T : Txt K mg) : FnOk P w K mg base CX0 (k + 2) T.aLAreValues T.dLAreValues ["_law_texts", "_law_count", "_law_block"] spAre := by
  have GLUniversal : FnOk P w K mg base CX0 (k + 1) T.aLUniversal T.dLUniversal ["_law_count"] spUni := ok_luni T
  have GLFilled : FnOk P w K mg base CX0 (k + 1) T.aLFilled T.dLFilled ["_law_letters", "_law_values"] spFilled := ok_filled T
  refine T.fLAreValues.ok scLAreValues (fun vs H Q E h => ?_) (fun cdv A outer s H vs Q E hr h => ?_)
  · obtain ⟨l, p, t, m, ps, vv, rfl, _⟩ := h
    rfl
  · obtain ⟨l, p, t, m, ps, vv, rfl, hp, hl, tu, hvv, hm, hv, hm8, hfl, q⟩ := h
    refine ⟨_, (pss_cons (ps_if (PW.pt (pw_or (pt_not (pt_val (pe_callB call_isi (by rfl) T.m_isinstance (by decide +kernel) (pa_cons (pv 0) (pa_cons (pe_bltn (v := .ty "list") (by rfl) T.m_list (by decide +kernel) rfl) pa_nil))))) (pw_or1 (pt_cmpR op_ne (pe_callB call_len_seq (by rfl) T.m_len PySem.boot_len (pa_cons (pv 0) pa_nil)) (pv 1) (nomark _))))) (pss_one (ps_ret pe_bl)) pss_nil)
      (pss_cons (ps_if (pt_cmpR (Mo.op_neNil hr.units) (pe_lc (own := [("_law_text", 3)]) (g := gName 3) rfl scLAreValues.nd (pi_list (pv 0)) (blkOk_by (N := ["_law_texts", "_law_count", "_law_block", "_law_text"]) (sc := defScope sLAreValues) (by decide +kernel)) (fun _ _ _ _ _ => pg_name (i := 3) scLAreValues.nd rfl (Or.inl rfl)) (fun _ _ _ _ _ => pts_one (PW.pt (pw_or (pt_not (pt_val (pe_callB (Mo.call_isiK (K := K) rfl) (by rfl) T.m_isinstance (by decide +kernel) (pa_cons (pv 3) (pa_cons (pe_bltn (v := .ty "tuple") (by rfl) T.m_tuple (by decide +kernel) rfl) pa_nil))))) (pw_or1 (pt_cmpR (Mo.op_eqFlK (K := K) rfl hr.units) (pv 3) (pe_tup pa_nil) (nomark _)))))) (fun _ _ _ _ _ => (pv 3))) (pe_lst pa_nil) (nomark _)) (pss_one (ps_ret pe_bl)) pss_nil)
      (pss_one (ps_ret (pe_cmpR (Mo.op_eqFl hr.units) (pe_call GLFilled hr (by rfl) T.gLFilled T.fLFilled.kp T.bLFilled .nil pass0 (pa_cons (pe_call GLUniversal hr (by rfl) T.gLUniversal T.fLUniversal.kp T.bLUniversal .nil pass0 (pa_cons (pv 1) pa_nil)) (pa_cons (pv 0) pa_nil))) (pv 2) (nomark _)))))), ?_⟩
    refine ⟨_, rfl, _, _, .type "list", .type "list", true, rfl, .ty "list", .base (.lst hl), kit_ty (by decide +kernel), true, rfl, iteF ?_⟩
    refine ⟨_, rfl, l, _, rfl, .inl (SqL.of hl), _, rfl, rfl, false, ?_, iteF ?_⟩
    · rw [List.length_map, tu.1, hvv]
      simp
    refine ⟨_, rfl, l, rfl, ⟨_, SqL.of hl⟩, fun D nD => lc_list (K := K) (a := l) (xs := ps.map V.ref) (fun i H' => Same H H' ∧ H' D = some (.lst [])) ?_ ?_ ?_ ?_⟩
    · exact ⟨same_new nD, upd_same⟩
    · rintro i H1 _ ⟨s1, _⟩
      exact SqL.of (s1 _ _ hl)
    · rintro i x H1 hx ⟨s1, hD⟩
      rw [List.getElem?_map] at hx
      cases e : ps[i]? with
      | none => rw [e] at hx; cases hx
      | some a =>
        rw [e] at hx
        cases hx
        have ha := s1 _ _ (tu.2 i a e)
        have hi := (List.getElem?_eq_some_iff.mp e).1
        have hne : vv.getD i [] ≠ [] := by
          rw [List.getD_eq_getElem?_getD, List.getElem?_eq_getElem (by rw [← tu.1]; exact hi)]
          exact (hv _ (List.getElem_mem _)).1
        refine ⟨rfl, _, rfl, _, _, .type "tuple", .type "tuple", true, rfl, .ty "tuple", .base (.tup ha), kit_ty (by decide +kernel), true, rfl, iteF ?_⟩
        refine ⟨_, rfl, Nat.zero_le _, fun z nz => ?_⟩
        have s2 := same_new (o := .tup []) nz
        refine ⟨_, [], ⟨_, _, rfl, rfl, flat_ints _, rfl, .inr ⟨SqT.of (s2 _ _ ha), SqT.of upd_same⟩⟩, false, ?_, iteF ⟨s1.trans s2, s2 _ _ hD⟩⟩
        cases g : vv.getD i [] with
        | nil => exact absurd g hne
        | cons b r => rfl
    · rintro H1 ⟨s1, hD⟩
      refine ⟨Nat.zero_le _, fun z nz => ?_⟩
      have s2 := same_new (o := .lst []) nz
      refine ⟨D, z, [], rfl, rfl, SqL.of (s2 _ _ hD), SqL.of upd_same, false, rfl, iteF ?_⟩
      have s12 := s1.trans s2
      refine ⟨_, rfl, m + 1, rfl, by omega, fun H3 up s3 hup => ?_⟩
      have s13 := s12.trans s3
      have ul := uni_len (m + 1)
      have ul2 : 2 ^ (m + 1) ≤ 2 ^ 7 := Nat.pow_le_pow_right (by decide) (by omega)
      refine ⟨_, rfl, up, l, uni (m + 1), ps, vv, 400, rfl, hup, s13 _ _ hl, tu.1, (tu.same s13).2, fun u hu => ?_, fun v h => (hv v h).2, by omega, fun H4 r s4 hr4 => ?_⟩
      · have := uni_low hu
        omega
      rw [hfl] at hr4
      refine ⟨_, rfl, _, _, ⟨_, _, rfl, rfl, flat_ints _, flat_ints _, .inr ⟨SqT.of hr4, SqT.of (s4 _ _ (s13 _ _ hp))⟩⟩, ?_⟩
      rw [eqLs_self (flat_ints _)]
      exact q H4 (s13.trans s4)
end
end Mo

namespace Mo
open PySem PySem.Spec PyProof.Rows L2
section
variable {P : Program} {w : World} {K : PySem.W.Frag} {mg : Str → Option Value} {base : Heap}
def spFind : Sp := fun vs H Q _ => ∃ (p : Addr) (t : List Int) (m : Nat), vs = [.ref p, .int ((m + 1 : Nat) : Int)] ∧ H p = some (.tup (t.map V.int)) ∧ t.length ≤ 400 ∧ Ltrs t ∧ m < 12 ∧
  (∀ i j, First t (m + 1) i j → ∀ H' r l ps, Same H H' → H r = none → H l = none → H' r = some (.tup [.int ((i : Nat) : Int), .int ((i + j : Nat) : Int), .ref l]) → H' l = some (.lst (ps.map V.ref)) → Tups H' ps (vls ((t.drop i).take j) j m) → Q (.ref r) H') ∧
  ((∀ i, i < t.length → Less t (m + 1) i) → ∀ H', Same H H' → Q .non H')
theorem ok_find {k : Nat} (T : Txt K mg) : FnOk P w K mg base CX0 (k + 6) T.aFindUniversal T.dFindUniversal ["text", "count"] spFind := by
  have GCheckText : FnOk P w K mg base CX0 (k + 5) T.aCheckText T.dCheckText ["value"] (spTxt 4096 .non) := ok_checkText T
  have GCheckSize : FnOk P w K mg base CX0 (k + 5) T.aCheckSize T.dCheckSize ["text"] (spTxt 400 .non) := ok_checkSize T
  have GCheckCount : FnOk P w K mg base CX0 (k + 5) T.aCheckCount T.dCheckCount ["value", "least", "most"] spCount := ok_count T
  have GPrefixRanks : FnOk P w K mg base CX0 (k + 5) T.aPrefixRanks T.dPrefixRanks ["text"] (spNums rk) := ok_ranks T
  have GSplitBlock : FnOk P w K mg base CX0 (k + 5) T.aSplitBlock T.dSplitBlock ["text", "count"] spSplit := ok_split T
  refine T.fFindUniversal.ok scFindUniversal (fun vs H Q E h => ?_) (fun cdv A outer s H vs Q E hr h => ?_)
  · obtain ⟨_, _, _, rfl, _⟩ := h
    rfl
  · obtain ⟨p, t, m, rfl, hp, hl, ht, hm, q1, q2⟩ := h
    refine ⟨_, (pss_cons (ps_expr (pe_call GCheckText hr (by rfl) T.gCheckText T.fCheckText.kp T.bCheckText .nil pass0 (pa_cons (pv 0) pa_nil)))
      (pss_cons (ps_expr (pe_call GCheckCount hr (by rfl) T.gCheckCount T.fCheckCount.kp T.bCheckCount .nil pass0 (pa_cons (pv 1) (pa_cons pe_int (pa_cons (pe_glob (v := .int 12) rfl T.m_GREATEST_COUNT ⟨_, rfl⟩) pa_nil)))))
      (pss_cons (ps_expr (pe_call GCheckSize hr (by rfl) T.gCheckSize T.fCheckSize.kp T.bCheckSize .nil pass0 (pa_cons (pv 0) pa_nil)))
      (pss_cons (ps_for PassesOwn.never rfl (pi_range1 (by rfl) T.m_range (pa_cons (pe_callB call_len_seq (by rfl) T.m_len PySem.boot_len (pa_cons (pv 0) pa_nil)) pa_nil)) (pg_name (i := 2) scFindUniversal.nd rfl (Or.inl rfl)) (pss_one (ps_for PassesOwn.never rfl (pi_enum (by rfl) T.m_enumerate (pa_cons (pe_call GPrefixRanks hr (by rfl) T.gPrefixRanks T.fPrefixRanks.kp T.bPrefixRanks .nil pass0 (pa_cons (pe_slice sl_tupA (pv 0) (po_some (pv 2)) po_none) pa_nil)) pa_nil)) (pg_tup rfl (pgs_cons (pg_name (i := 3) scFindUniversal.nd rfl (Or.inl rfl)) (pgs_cons (pg_name (i := 4) scFindUniversal.nd rfl (Or.inl rfl)) pgs_nil))) (pss_one (ps_if (pt_cmpR op_ge (pv 4) (pv 1) (nomark _)) (pss_cons (ps_set (i := 5) scFindUniversal.nd rfl (Or.inl rfl) (pe_op op_add (pv 2) (pv 3)))
      (pss_one (ps_ret (pe_tup (pa_cons (pv 2) (pa_cons (pv 5) (pa_cons (pe_call GSplitBlock hr (by rfl) T.gSplitBlock T.fSplitBlock.kp T.bSplitBlock .nil pass0 (pa_cons (pe_slice sl_tupA (pv 0) (po_some (pv 2)) (po_some (pv 5))) (pa_cons (pv 1) pa_nil))) pa_nil))))))) pss_nil)))))
      (pss_one (ps_ret pe_non)))))), ?_⟩
    refine ⟨_, rfl, p, t, rfl, hp, by omega, ht, fun H1 s1 => ?_⟩
    refine ⟨_, rfl, ((m + 1 : Nat) : Int), 1, 12, rfl, by omega, by omega, fun H2 s2 => ?_⟩
    refine ⟨_, rfl, p, t, rfl, s2 _ _ (s1 _ _ hp), hl, ht, fun H3 s3 => ?_⟩
    have s13 := (s1.trans s2).trans s3
    have hp3 := s13 _ _ hp
    refine ⟨_, rfl, p, _, rfl, .inr (SqT.of hp3), _, rfl, ?_, ?_, for_range (lo := 0) (fun i σ H' => ∃ o2 o3 o4 : Option V, σ = [some (.ref p), some (.int ((m + 1 : Nat) : Int)), o2, o3, o4, none] ∧ Same H H' ∧ ∀ i', i' < i → Less t (m + 1) i') ?_ ?_ ?_⟩
    · rw [List.length_map]
      omega
    · rw [List.length_map]
      omega
    · exact ⟨_, _, _, rfl, s13, fun i' hi => by omega⟩
    · rintro i σ H4 hi ⟨o2, o3, o4, rfl, s4, hle⟩
      have hi2 : i < t.length := by
        rw [List.length_map] at hi
        omega
      refine ⟨_, rfl, _, rfl, ((i : Nat) : Int), congrArg V.int (by omega), ?_⟩
      dsimp only [tNoPart]
      refine slA_any (s4 _ _ hp) fun p1 H5 s5 h5 _ => ?_
      rw [cut_from, ← List.map_drop] at h5
      have s45 := s4.trans s5
      have hdl : (t.drop i).length = t.length - i := List.length_drop ..
      refine ⟨p1, t.drop i, rfl, h5, by omega, fun H6 l s6 nl hl6 => ?_⟩
      have s46 := s45.trans s6
      refine ⟨l, _, rfl, SqL.of hl6, for_it (D := ⟨fun σ H' => ∃ o2 o3 o4 : Option V, σ = [some (.ref p), some (.int ((m + 1 : Nat) : Int)), o2, o3, o4, none] ∧ Same H H' ∧ ∀ i', i' < i + 1 → Less t (m + 1) i', Q, fun _ _ => False, fun _ _ => False⟩) (walk_enum (K := K) (a := l) (xs := ((List.range ((t.drop i).length + 1)).map fun k => ((rk (t.drop i) k : Nat) : Int)).map V.int)) (fun j σ H' => ∃ o3 o4 : Option V, σ = [some (.ref p), some (.int ((m + 1 : Nat) : Int)), some (.int (0 + (i : Int))), o3, o4, none] ∧ Same H H' ∧ H' l = some (.lst (((List.range ((t.drop i).length + 1)).map fun k => ((rk (t.drop i) k : Nat) : Int)).map V.int)) ∧ ∀ j', j' < j → rk (t.drop i) j' < m + 1) ?_ ?_ ?_ ?_⟩
      · exact ⟨_, _, rfl, s46, hl6, fun j' hj => by omega⟩
      · rintro j σ H7 _ ⟨o3, o4, rfl, _, hl7, _⟩
        exact SqL.of hl7
      · rintro j v σ H7 H8 hj ⟨o3, o4, rfl, s7, hl7, hlj⟩ ⟨tp, a, b, rfl, ntp, rfl, ha, hb⟩
        obtain rfl : V.int (j : Nat) = a := Option.some.inj ha
        have hj2 : j < (t.drop i).length + 1 := by
          rw [List.length_map, List.length_map, List.length_range] at hj
          exact hj
        dsimp only at hb
        rw [List.getElem?_map, List.getElem?_map, List.getElem?_range hj2] at hb
        cases hb
        have s8 := same_new (o := .tup [.int (j : Nat), .int ((rk (t.drop i) j : Nat) : Int)]) ntp
        refine ⟨tp, _, rfl, SqT.of upd_same, rfl, _, _, rfl, _, _, rfl, rfl, ?_⟩
        by_cases e : ((rk (t.drop i) j : Nat) : Int) ≥ ((m + 1 : Nat) : Int)
        · refine ⟨_, rfl, _, rfl, _, _, rfl, rfl, true, congrArg V.bl (decide_eq_true e), iteT ?_⟩
          refine ⟨_, rfl, _, rfl, _, _, rfl, rfl, ?_⟩
          refine ⟨_, rfl, _, rfl, _, rfl, _, rfl, ((i : Nat) : Int), congrArg V.int (by omega), _, rfl, ((i + j : Nat) : Int), congrArg V.int (by omega), slA_any (s8 _ _ (s7 _ _ hp)) fun p2 H9 s9 h9 _ => ?_⟩
          rw [cut_mid _ (by omega) (by rw [List.length_map]; omega), ← List.map_drop, ← List.map_take, show i + j - i = j by omega] at h9
          have hbl : ((t.drop i).take j).length = j := by
            rw [List.length_take]
            omega
          refine ⟨_, rfl, p2, (t.drop i).take j, m, rfl, h9, by omega, by omega, fun H10 l2 ps s10 nl2 hl2 tu => ?_⟩
          rw [hbl] at tu
          refine ⟨by show 3 ≤ sizeLine; decide, fun r nr => ?_⟩
          have s11 := same_new (o := .tup [.int (0 + (i : Int)), .int (0 + (i : Int) + (j : Int)), .ref l2]) nr
          have s7A := ((s7.trans s8).trans s9)
          have s7B := s7A.trans s10
          refine q1 i j ⟨hi2, by omega, by omega, hlj, hle⟩ _ r l2 ps (s7B.trans s11) (s7B.free nr) (s7A.free nl2) ?_ (s11 _ _ hl2) (tu.same s11)
          rw [upd_same]
          show some (HO.tup [V.int (0 + (i : Int)), V.int (0 + (i : Int) + (j : Int)), V.ref l2]) = _
          rw [show (0 : Int) + (i : Int) + (j : Int) = ((i + j : Nat) : Int) by omega, show (0 : Int) + (i : Int) = ((i : Nat) : Int) by omega]
        · refine ⟨_, rfl, _, rfl, _, _, rfl, rfl, false, congrArg V.bl (decide_eq_false e), iteF ?_⟩
          refine ⟨_, _, rfl, s7.trans s8, s8 _ _ hl7, fun j' hj' => ?_⟩
          rcases Nat.lt_or_ge j' j with g | g
          · exact hlj j' g
          · obtain rfl : j' = j := by omega
            omega
      · rintro σ H7 ⟨o3, o4, rfl, s7, _, hlj⟩
        rw [List.length_map, List.length_map, List.length_range] at hlj
        refine ⟨_, _, _, rfl, s7, fun i' hi' => ?_⟩
        rcases Nat.lt_or_ge i' i with g | g
        · exact hle i' g
        · obtain rfl : i' = i := by omega
          exact fun j hj => hlj j (by omega)
    · rintro σ H4 ⟨o2, o3, o4, rfl, s4, hle⟩
      refine q2 (fun i hi => hle i ?_) H4 s4
      rw [List.length_map]
      omega
end
end Mo

/-! ### lists of texts: their data -/
namespace Mo
open PySem PySem.Spec PyProof.Rows L2
def txD (v : List Int) : PyData := .tuple (v.map PyData.int)
theorem tups_dp {K : PySem.W.Frag} {H : Hp} : ∀ {ps : List Addr} {vv : List (List Int)}, ps.length = vv.length → (∀ (j : Nat) (a : Addr), ps[j]? = some a → H a = some (.tup ((vv.getD j []).map V.int))) → DpAll K H (ps.map V.ref) (vv.map txD)
  | [], [], _, _ => .nil
  | p :: ps, v :: vv, hl, h => .cons (.tup (SqT.of (h 0 p rfl)) (intsDp v)) (tups_dp (Nat.succ.inj hl) fun j a e => h (j + 1) a e)
  | [], _ :: _, hl, _ => by cases hl
  | _ :: _, [], hl, _ => by cases hl
theorem txs_fit {B : Nat} {R : Nat} : ∀ {vv : List (List Int)}, (∀ v ∈ vv, v.length ≤ R ∧ ∀ n ∈ v, n.natAbs < 10 ^ B) → FitAll B ((2 * R + 1) * vv.length) 1 (vv.map txD)
  | [], _ => ⟨trivial, Nat.le_refl _, Nat.zero_le _⟩
  | v :: vv, h => by
    have h1 := h v (List.mem_cons_self ..)
    have ih := txs_fit (B := B) (R := R) (vv := vv) fun x hx => h x (List.mem_cons_of_mem _ hx)
    have f1 : FitAll B (2 * R + 1) 1 [txD v] := ((ints_fitAll h1.2).tup.mono (Nat.le_refl _) (show 2 * v.length ≤ 2 * R by omega) (Nat.le_refl _)).one
    have := f1.app ih
    rw [List.length_cons, Nat.mul_succ, Nat.add_comm]
    exact this
theorem int_fit {B : Nat} {i : Int} (h : i.natAbs < 10 ^ B) (D : Nat) : FitAll B 2 D [.int i] := by
  have := (ints_fitAll (B := B) (ns := [i]) fun n hn => by rw [List.mem_singleton.mp hn]; exact h)
  exact this.mono (Nat.le_refl _) (Nat.le_refl _) (Nat.zero_le _)
/-- two numbers and a list of texts -/
def fndD (i e : Int) (vv : List (List Int)) : PyData := .tuple [.int i, .int e, .list (vv.map txD)]
theorem fnd_dat {K : PySem.W.Frag} {H : Hp} {r l : Addr} {i e : Int} {ps : List Addr} {vv : List (List Int)} (hr : H r = some (.tup [.int i, .int e, .ref l])) (hl : H l = some (.lst (ps.map V.ref))) (h1 : ps.length = vv.length) (h2 : ∀ (j : Nat) (a : Addr), ps[j]? = some a → H a = some (.tup ((vv.getD j []).map V.int))) : Dat K H (.ref r) (fndD i e vv) :=
  .inl (.tup (SqT.of hr) (.cons (.int i) (.cons (.int e) (.cons (.lst (SqL.of hl) (tups_dp h1 h2)) .nil))))
theorem fnd_repr {i e : Int} {vv : List (List Int)} (hi : i.natAbs < 10 ^ 20) (he : e.natAbs < 10 ^ 20) (hv : ∀ v ∈ vv, v.length ≤ 400 ∧ ∀ n ∈ v, n.natAbs < 10 ^ 20) (hl : vv.length ≤ 20) : (fndD i e vv).showable = true ∧ (fndD i e vv).depth ≤ 40 ∧ (fndD i e vv).shown.length ≤ sizeLine := by
  have f3 := ((txs_fit (R := 400) hv).lst).one
  have := (((int_fit hi 2).app (int_fit he 2)).app f3).tup
  exact this.repr (by decide) (by decide) (by omega) (by decide)
end Mo

namespace Mo
open PySem PySem.Spec PyProof.Rows L2
def Upto (t : List Int) (i b bi bj : Nat) : Prop := (∀ i', i' < i → Less t (b + 1) i') ∧ ((b = 0 ∧ bi = 0 ∧ bj = 0) ∨ (0 < b ∧ First t b bi bj))
section
variable {P : Program} {w : World} {K : PySem.W.Frag} {mg : Str → Option Value} {base : Heap}
def spBstB : Sp := fun vs H Q _ => ∃ (p : Addr) (t : List Int), vs = [.ref p] ∧ H p = some (.tup (t.map V.int)) ∧ t.length ≤ 400 ∧ Ltrs t ∧
  ∀ b i j, Best t b i j → ∀ H' r, Same H H' → H' r = some (.tup [.int ((b : Nat) : Int), .int ((i : Nat) : Int), .int ((i + j : Nat) : Int)]) → Q (.ref r) H'
theorem ok_bstB {k : Nat} (T : Txt K mg) : FnOk P w K mg base CX0 (k + 6) T.aBestBlock T.dBestBlock ["text"] spBstB := by
  have GCheckText : FnOk P w K mg base CX0 (k + 5) T.aCheckText T.dCheckText ["value"] (spTxt 4096 .non) := ok_checkText T
  have GCheckSize : FnOk P w K mg base CX0 (k + 5) T.aCheckSize T.dCheckSize ["text"] (spTxt 400 .non) := ok_checkSize T
  have GPrefixRanks : FnOk P w K mg base CX0 (k + 5) T.aPrefixRanks T.dPrefixRanks ["text"] (spNums rk) := ok_ranks T
  refine T.fBestBlock.ok scBestBlock (fun vs H Q E h => ?_) (fun cdv A outer s H vs Q E hr h => ?_)
  · obtain ⟨_, _, rfl, _⟩ := h
    rfl
  · obtain ⟨p, t, rfl, hp, hl, ht, q⟩ := h
    refine ⟨_, (pss_cons (ps_expr (pe_call GCheckText hr (by rfl) T.gCheckText T.fCheckText.kp T.bCheckText .nil pass0 (pa_cons (pv 0) pa_nil)))
      (pss_cons (ps_expr (pe_call GCheckSize hr (by rfl) T.gCheckSize T.fCheckSize.kp T.bCheckSize .nil pass0 (pa_cons (pv 0) pa_nil)))
      (pss_cons (ps_set (i := 1) scBestBlock.nd rfl (Or.inl rfl) (pe_tup (pa_cons pe_int (pa_cons pe_int (pa_cons pe_int pa_nil)))))
      (pss_cons (ps_for PassesOwn.never rfl (pi_range1 (by rfl) T.m_range (pa_cons (pe_callB call_len_seq (by rfl) T.m_len PySem.boot_len (pa_cons (pv 0) pa_nil)) pa_nil)) (pg_name (i := 2) scBestBlock.nd rfl (Or.inl rfl)) (pss_one (ps_for PassesOwn.never rfl (pi_enum (by rfl) T.m_enumerate (pa_cons (pe_call GPrefixRanks hr (by rfl) T.gPrefixRanks T.fPrefixRanks.kp T.bPrefixRanks .nil pass0 (pa_cons (pe_slice sl_tupA (pv 0) (po_some (pv 2)) po_none) pa_nil)) pa_nil)) (pg_tup rfl (pgs_cons (pg_name (i := 3) scBestBlock.nd rfl (Or.inl rfl)) (pgs_cons (pg_name (i := 4) scBestBlock.nd rfl (Or.inl rfl)) pgs_nil))) (pss_one (ps_if (pt_cmpR op_gt (pv 4) (pe_ix ix_tup (pv 1) pe_int (fun _ _ => rfl)) (nomark _)) (pss_one (ps_set (i := 1) scBestBlock.nd rfl (Or.inl rfl) (pe_tup (pa_cons (pv 4) (pa_cons (pv 2) (pa_cons (pe_op op_add (pv 2) (pv 3)) pa_nil)))))) pss_nil)))))
      (pss_one (ps_ret (pv 1))))))), ?_⟩
    refine ⟨_, rfl, p, t, rfl, hp, by omega, ht, fun H1 s1 => ?_⟩
    refine ⟨_, rfl, p, t, rfl, s1 _ _ hp, hl, ht, fun H2 s2 => ?_⟩
    refine ⟨by show 3 ≤ sizeLine; decide, fun r0 nr0 => ?_⟩
    have s3 := same_new (o := .tup [.int 0, .int 0, .int 0]) nr0
    have s13 := (s1.trans s2).trans s3
    have hp3 := s13 _ _ hp
    have hr3 : (upd H2 r0 (.tup [.int 0, .int 0, .int 0])) r0 = some (.tup [.int ((0 : Nat) : Int), .int ((0 : Nat) : Int), .int ((0 + 0 : Nat) : Int)]) := upd_same
    generalize upd H2 r0 (.tup [.int 0, .int 0, .int 0]) = H3 at *
    refine ⟨_, rfl, p, _, rfl, .inr (SqT.of hp3), _, rfl, ?_, ?_, for_range (lo := 0) (fun i σ H' => ∃ (o2 o3 o4 : Option V) (r : Addr) (b bi bj : Nat), σ = [some (.ref p), some (.ref r), o2, o3, o4] ∧ Same H H' ∧ H' r = some (.tup [.int ((b : Nat) : Int), .int ((bi : Nat) : Int), .int ((bi + bj : Nat) : Int)]) ∧ Upto t i b bi bj) ?_ ?_ ?_⟩
    · rw [List.length_map]
      omega
    · rw [List.length_map]
      omega
    · exact ⟨_, _, _, r0, 0, 0, 0, rfl, s13, hr3, fun i' hi => by omega, .inl ⟨rfl, rfl, rfl⟩⟩
    · rintro i σ H4 hi ⟨o2, o3, o4, r, b, bi, bj, rfl, s4, hr4, hu⟩
      have hi2 : i < t.length := by
        rw [List.length_map] at hi
        omega
      refine ⟨_, rfl, _, rfl, ((i : Nat) : Int), congrArg V.int (by omega), ?_⟩
      dsimp only [tNoPart]
      refine slA_any (s4 _ _ hp) fun p1 H5 s5 h5 _ => ?_
      rw [cut_from, ← List.map_drop] at h5
      have s45 := s4.trans s5
      have hdl : (t.drop i).length = t.length - i := List.length_drop ..
      refine ⟨p1, t.drop i, rfl, h5, by omega, fun H6 l s6 nl hl6 => ?_⟩
      have s46 := s45.trans s6
      refine ⟨l, _, rfl, SqL.of hl6, for_it (D := ⟨fun σ H' => ∃ (o2 o3 o4 : Option V) (r : Addr) (b bi bj : Nat), σ = [some (.ref p), some (.ref r), o2, o3, o4] ∧ Same H H' ∧ H' r = some (.tup [.int ((b : Nat) : Int), .int ((bi : Nat) : Int), .int ((bi + bj : Nat) : Int)]) ∧ Upto t (i + 1) b bi bj, Q, fun _ _ => False, fun _ _ => False⟩) (walk_enum (K := K) (a := l) (xs := ((List.range ((t.drop i).length + 1)).map fun k => ((rk (t.drop i) k : Nat) : Int)).map V.int)) (fun j σ H' => ∃ (o3 o4 : Option V) (r : Addr) (b bi bj : Nat), σ = [some (.ref p), some (.ref r), some (.int (0 + (i : Int))), o3, o4] ∧ Same H H' ∧ H' r = some (.tup [.int ((b : Nat) : Int), .int ((bi : Nat) : Int), .int ((bi + bj : Nat) : Int)]) ∧ Upto t i b bi bj ∧ H' l = some (.lst (((List.range ((t.drop i).length + 1)).map fun k => ((rk (t.drop i) k : Nat) : Int)).map V.int)) ∧ ∀ j', j' < j → rk (t.drop i) j' < b + 1) ?_ ?_ ?_ ?_⟩
      · exact ⟨_, _, r, b, bi, bj, rfl, s46, s6 _ _ (s5 _ _ hr4), hu, hl6, fun j' hj => by omega⟩
      · rintro j σ H7 _ ⟨o3, o4, r, b, bi, bj, rfl, _, _, _, hl7, _⟩
        exact SqL.of hl7
      · rintro j v σ H7 H8 hj ⟨o3, o4, r, b, bi, bj, rfl, s7, hr7, hu7, hl7, hlj⟩ ⟨tp, a, b', rfl, ntp, rfl, ha, hb⟩
        obtain rfl : V.int (j : Nat) = a := Option.some.inj ha
        have hj2 : j < (t.drop i).length + 1 := by
          rw [List.length_map, List.length_map, List.length_range] at hj
          exact hj
        dsimp only at hb
        rw [List.getElem?_map, List.getElem?_map, List.getElem?_range hj2] at hb
        cases hb
        have s8 := same_new (o := .tup [.int (j : Nat), .int ((rk (t.drop i) j : Nat) : Int)]) ntp
        refine ⟨tp, _, rfl, SqT.of upd_same, rfl, _, _, rfl, _, _, rfl, rfl, ?_⟩
        have hr8 := s8 _ _ hr7
        have hl8 := s8 _ _ hl7
        have s78 := s7.trans s8
        generalize upd H7 tp (.tup [.int (j : Nat), .int ((rk (t.drop i) j : Nat) : Int)]) = H8 at *
        refine ⟨_, rfl, _, rfl, r, _, _, .int ((b : Nat) : Int), rfl, rfl, SqT.of hr8, atI_nat (j := 0) rfl, ?_⟩
        by_cases e : ((rk (t.drop i) j : Nat) : Int) > ((b : Nat) : Int)
        · refine ⟨_, _, rfl, rfl, true, congrArg V.bl (decide_eq_true e), iteT ?_⟩
          refine ⟨_, rfl, _, rfl, _, rfl, _, rfl, _, _, rfl, rfl, by show 3 ≤ sizeLine; decide, fun r2 nr2 => ?_⟩
          have s9 := same_new (o := .tup [.int ((rk (t.drop i) j : Nat) : Int), .int (0 + (i : Int)), .int (0 + (i : Int) + (j : Int))]) nr2
          refine ⟨_, _, r2, rk (t.drop i) j, i, j, rfl, s78.trans s9, ?_, ⟨fun i' hi' j' hj' => ?_, .inr ⟨by omega, hi2, by omega, Nat.le_refl _, fun j' hj' => ?_, fun i' hi' j' hj' => ?_⟩⟩, s9 _ _ hl8, fun j' hj' => ?_⟩
          · rw [upd_same]
            show some (HO.tup [V.int ((rk (t.drop i) j : Nat) : Int), V.int (0 + (i : Int)), V.int (0 + (i : Int) + (j : Int))]) = _
            rw [show (0 : Int) + (i : Int) + (j : Int) = ((i + j : Nat) : Int) by omega, show (0 : Int) + (i : Int) = ((i : Nat) : Int) by omega]
          · have := hu7.1 i' hi' j' hj'
            omega
          · have := hlj j' hj'
            omega
          · have := hu7.1 i' hi' j' hj'
            omega
          · rcases Nat.lt_or_ge j' j with g | g
            · have := hlj j' g
              omega
            · obtain rfl : j' = j := by omega
              omega
        · refine ⟨_, _, rfl, rfl, false, congrArg V.bl (decide_eq_false e), iteF ?_⟩
          refine ⟨_, _, r, b, bi, bj, rfl, s78, hr8, hu7, hl8, fun j' hj' => ?_⟩
          rcases Nat.lt_or_ge j' j with g | g
          · exact hlj j' g
          · obtain rfl : j' = j := by omega
            omega
      · rintro σ H7 ⟨o3, o4, r, b, bi, bj, rfl, s7, hr7, hu7, _, hlj⟩
        rw [List.length_map, List.length_map, List.length_range] at hlj
        refine ⟨_, _, _, r, b, bi, bj, rfl, s7, hr7, fun i' hi' => ?_, hu7.2⟩
        rcases Nat.lt_or_ge i' i with g | g
        · exact hu7.1 i' g
        · obtain rfl : i' = i := by omega
          exact fun j hj => hlj j (by omega)
    · rintro σ H4 ⟨o2, o3, o4, r, b, bi, bj, rfl, s4, hr4, hu⟩
      rw [show (((t.map V.int).length : Nat) : Int).toNat = t.length by rw [List.length_map]; omega] at hu
      exact ⟨_, rfl, q b bi bj hu H4 r s4 hr4⟩
end
end Mo

namespace Mo
open PySem PySem.Spec PyProof.Rows L2
theorem bnd_two (m : Nat) : bndL m 1 = 2 * m + 1 := by
  show (m ^ 1 + 1) * (1 + 1) - 1 = _
  rw [Nat.pow_one]
  omega
theorem bnd_small {n m : Nat} (hn : n = 1 ∨ (n = 2 ∧ m < 3)) (h1 : 1 ≤ m) (h4 : m ≤ 4) : bndL m n < 100 ∨ (bndL m n = 197 ∧ 2 ≤ m) := by
  rcases hn with rfl | ⟨rfl, h⟩
  · rw [bnd_two]
    omega
  · match m, h1, h with
    | 1, _, _ => exact .inl (by decide)
    | 2, _, _ => exact .inr ⟨by decide, by decide⟩
    | m + 3, _, h => omega
section
variable {P : Program} {w : World} {K : PySem.W.Frag} {mg : Str → Option Value} {base : Heap}
def spLaw (K : PySem.W.Frag) : Sp := fun vs H Q _ => ∃ (a : Addr) (ns : List Int), vs = [.ref a] ∧ SqL K H a (ns.map V.int) ∧ ns.length ≤ 63 ∧ ∀ H', Q (.bl true) H'
theorem ok_law {k : Nat} (T : Txt K mg) : FnOk P w K mg base CX0 (k + 7) T.aLaw T.dLaw ["_law_script"] (spLaw K) := by
  have GLSource : FnOk P w K mg base CX0 (k + 6) T.aLSource T.dLSource ["_law_script"] (spSource K) := ok_source T
  have GLDraw : FnOk P w K mg base CX0 (k + 6) T.aLDraw T.dLDraw ["_law_source_here", "_law_size"] spSDraw := ok_draw T
  have GLAlphabet : FnOk P w K mg base CX0 (k + 6) T.aLAlphabet T.dLAlphabet ["_law_source_here", "_law_count"] spAlph := ok_alph T
  have GLengthBound : FnOk P w K mg base CX0 (k + 6) T.aLengthBound T.dLengthBound ["count", "letters"] spLen := ok_len T
  have GLLong : FnOk P w K mg base CX0 (k + 6) T.aLLong T.dLLong ["_law_source_here", "_law_letters", "_law_size"] spLng := ok_lng T
  have GLUneven : FnOk P w K mg base CX0 (k + 6) T.aLUneven T.dLUneven ["_law_text", "_law_letters"] spUnv := ok_unv T
  have GFindUniversal : FnOk P w K mg base CX0 (k + 6) T.aFindUniversal T.dFindUniversal ["text", "count"] spFind := ok_find T
  have GBestBlock : FnOk P w K mg base CX0 (k + 6) T.aBestBlock T.dBestBlock ["text"] spBstB := ok_bstB T
  have GLAreValues : FnOk P w K mg base CX0 (k + 6) T.aLAreValues T.dLAreValues ["_law_texts", "_law_count", "_law_block"] spAre := ok_are T
  refine T.fLaw.ok scLaw (fun vs H Q E h => ?_) (fun cdv A outer s H vs Q E hr h => ?_)
  · obtain ⟨a, ns, rfl, _⟩ := h
    rfl
  · obtain ⟨a, ns, rfl, hs, hn, q⟩ := h
    refine ⟨_, (pss_cons (ps_set (i := 1) scLaw.nd rfl (Or.inl rfl) (pe_call GLSource hr (by rfl) T.gLSource T.fLSource.kp T.bLSource .nil pass0 (pa_cons (pv 0) pa_nil)))
      (pss_cons (ps_for PassesOwn.never rfl (pi_range1 (by rfl) T.m_range (pa_cons (pe_op op_add pe_int (pe_callB (call_min2 rfl) (by rfl) T.m_min (by decide +kernel) (pa_cons pe_int (pa_cons (pe_callB call_len_seq (by rfl) T.m_len PySem.boot_len (pa_cons (pv 0) pa_nil)) pa_nil)))) pa_nil)) (pg_name (i := 2) scLaw.nd rfl (Or.inl rfl)) (pss_cons (ps_set (i := 3) scLaw.nd rfl (Or.inl rfl) (pe_op op_add pe_int (pe_call GLDraw hr (by rfl) T.gLDraw T.fLDraw.kp T.bLDraw .nil pass0 (pa_cons (pv 1) (pa_cons pe_int pa_nil)))))
      (Evl.pss_cut (ps_set (i := 4) scLaw.nd rfl (Or.inl rfl) (pe_ifExp (PW.pt (pw_and (pt_cmpR op_lt (pv 3) pe_int (nomark _)) (pw_and1 (pt_cmpR op_eq (pe_call GLDraw hr (by rfl) T.gLDraw T.fLDraw.kp T.bLDraw .nil pass0 (pa_cons (pv 1) (pa_cons pe_int pa_nil))) pe_int (nomark _))))) pe_int pe_int))
      (pss_cons (ps_set (i := 5) scLaw.nd rfl (Or.inl rfl) (pe_call GLAlphabet hr (by rfl) T.gLAlphabet T.fLAlphabet.kp T.bLAlphabet .nil pass0 (pa_cons (pv 1) (pa_cons (pv 3) pa_nil))))
      (pss_cons (ps_set (i := 6) scLaw.nd rfl (Or.inl rfl) (pe_call GLUneven hr (by rfl) T.gLUneven T.fLUneven.kp T.bLUneven .nil pass0 (pa_cons (pe_call GLLong hr (by rfl) T.gLLong T.fLLong.kp T.bLLong .nil pass0 (pa_cons (pv 1) (pa_cons (pv 5) (pa_cons (pe_call GLengthBound hr (by rfl) T.gLengthBound T.fLengthBound.kp T.bLengthBound .nil pass0 (pa_cons (pv 4) (pa_cons (pv 3) pa_nil))) pa_nil)))) (pa_cons (pv 5) pa_nil))))
      (pss_cons (ps_set (i := 7) scLaw.nd rfl (Or.inl rfl) (pe_call GFindUniversal hr (by rfl) T.gFindUniversal T.fFindUniversal.kp T.bFindUniversal .nil pass0 (pa_cons (pv 6) (pa_cons (pv 4) pa_nil))))
      (pss_cons (ps_if (PW.pt (pw_or (pt_cmpR op_lt (pe_ix ix_tup (pe_call GBestBlock hr (by rfl) T.gBestBlock T.fBestBlock.kp T.bBestBlock .nil pass0 (pa_cons (pv 6) pa_nil)) pe_int (fun _ _ => rfl)) (pv 4) (nomark _)) (pw_or1 (pt_cmpR op_isN (pv 7) pe_non (nomark _))))) (pss_one (ps_ret pe_bl)) pss_nil)
      (pss_cons (ps_asg (pv 7) (pg_tup (by rfl) (pgs_cons (pg_name (i := 8) scLaw.nd rfl (Or.inl rfl)) (pgs_cons (pg_name (i := 9) scLaw.nd rfl (Or.inl rfl)) (pgs_cons (pg_name (i := 10) scLaw.nd rfl (Or.inl rfl)) pgs_nil)))))
      (pss_one (ps_if (pt_not (pt_val (pe_call GLAreValues hr (by rfl) T.gLAreValues T.fLAreValues.kp T.bLAreValues .nil pass0 (pa_cons (pv 10) (pa_cons (pv 4) (pa_cons (pe_slice sl_tupA (pv 6) (po_some (pv 8)) (po_some (pv 9))) pa_nil)))))) (pss_one (ps_ret pe_bl)) pss_nil))))))))))
      (pss_one (ps_ret pe_bl)))), ?_⟩
    refine ⟨_, rfl, a, ns, rfl, hs, hn, fun H0 d c s0 nd src0 => ?_⟩
    refine ⟨_, rfl, a, _, rfl, .inl (s0.seq hs), 1, _, rfl, 1, _, rfl, rfl, _, rfl, ?_, ?_, for_range (lo := 0) (fun i σ H' => ∃ (t : Nat) (o2 o3 o4 o5 o6 o7 o8 o9 o10 : Option V), σ = [some (.ref a), some (.ref d), o2, o3, o4, o5, o6, o7, o8, o9, o10] ∧ Src H' d c t ∧ t ≤ 4000 * i) ?_ ?_ ?_⟩
    · split <;> omega
    · split <;> omega
    · exact ⟨0, _, _, _, _, _, _, _, _, _, rfl, src0, Nat.le_refl _⟩
    · rintro i σ H1 hi ⟨t, o2, o3, o4, o5, o6, o7, o8, o9, o10, rfl, src1, ht⟩
      have hi2 : i < 13 := by
        revert hi
        split <;> omega
      clear hi
      refine ⟨_, rfl, d, c, 4, t, rfl, src1, by decide, by decide, by omega, fun H2 f t2 but2 src2 ht2 f0 f1 => ?_⟩
      obtain ⟨f, rfl⟩ := nat_of f0
      refine ⟨1, f, rfl, rfl, ?_⟩
      refine ⟨fun σ H' => ∃ (n t' : Nat), σ = [some (.ref a), some (.ref d), some (.int (0 + (i : Int))), some (.int (1 + (f : Int))), some (.int ((n + 1 : Nat) : Int)), o5, o6, o7, o8, o9, o10] ∧ Src H' d c t' ∧ t' ≤ t2 + 1 ∧ (n = 1 ∨ (n = 2 ∧ f + 1 < 3)), ?_, ?_⟩
      · refine ⟨_, rfl, _, 3, rfl, rfl, _, rfl, ?_⟩
        by_cases g : f + 1 < 3
        · rw [decide_eq_true (show (1 : Int) + (f : Int) < 3 by omega)]
          refine iteT ⟨_, rfl, d, c, 2, t2, rfl, src2, by decide, by decide, by omega, fun H3 z t3 but3 src3 ht3 z0 z1 => ?_⟩
          refine ⟨rfl, _, rfl, ite2 (fun e => ?_) (fun e => ?_)⟩
          · exact ⟨2, t3, rfl, src3, by omega, .inr ⟨rfl, g⟩⟩
          · exact ⟨1, t3, rfl, src3, by omega, .inl rfl⟩
        · rw [decide_eq_false (show ¬ (1 : Int) + (f : Int) < 3 by omega)]
          exact iteF (iteF ⟨1, t2, rfl, src2, by omega, .inl rfl⟩)
      · rintro σ H3 ⟨n, t3, rfl, src3, ht3, hn3⟩
        refine ⟨_, rfl, _, rfl, d, c, f + 1, t3, congrArg (fun z => [V.ref d, V.int z]) (by omega), src3, by omega, by omega, fun H4 l ls t4 but4 src4 ht4 nl nld hl ln ltr => ?_⟩
        refine ⟨_, rfl, _, rfl, _, rfl, _, rfl, n, f + 1, congrArg (fun z => [V.int ((n + 1 : Nat) : Int), V.int z]) (by omega), by omega, by omega, by omega, fun H5 s5 => ?_⟩
        have hb := bnd_small hn3 (show 1 ≤ f + 1 by omega) (by omega)
        have hb1 := bndL_pos (f + 1) n
        have hbr := has_rank (L := ls) n
        rw [ln] at hbr
        generalize bndL (f + 1) n = B at *
        refine ⟨d, c, l, ls, B, t4, rfl, src4.same s5, s5 _ _ hl, by omega, by omega, hb1, by omega, by omega, fun H6 p u t6 but6 src6 ht6 hp hul hum => ?_⟩
        have hl6 := but6 _ _ nld (s5 _ _ hl)
        refine ⟨_, rfl, p, l, u, ls, rfl, hp, hl6, by omega, hum, fun H7 p7 u7 s7 hp7 hul7 hum7 => ?_⟩
        obtain ⟨x, y, hxy, hx, hrk⟩ := hbr u7 hum7 (by omega)
        have hlt7 : Ltrs u7 := fun z hz => ltr z (hum7 z hz)
        have l400 : u7.length ≤ 400 := by omega
        refine ⟨_, rfl, _, rfl, p7, u7, n, rfl, hp7, l400, hlt7, by omega, fun i7 j7 hF H8 r8 l8 ps8 s8 nr8 nl8 hr8 hl8 tu8 => ?_, fun hno => absurd hno (first_exists hx hxy hrk)⟩
        have hp8 := s8 _ _ hp7
        refine ⟨_, rfl, p7, u7, rfl, hp8, l400, hlt7, fun b bi bj hB H9 r9 s9 hr9 => ?_⟩
        refine ⟨r9, _, _, .int ((b : Nat) : Int), rfl, rfl, SqT.of hr9, atI_nat (j := 0) rfl, ?_⟩
        have top := hB.1 x hx y hxy
        refine ⟨_, rfl, _, _, rfl, rfl, false, congrArg V.bl (decide_eq_false (by omega)), iteF ?_⟩
        refine ⟨_, rfl, rfl, false, rfl, iteF ?_⟩
        have hr9' := s9 _ _ hr8
        refine ⟨_, rfl, r8, _, rfl, SqT.of hr9', rfl, _, _, rfl, _, _, rfl, _, _, rfl, rfl, ?_⟩
        obtain ⟨f1', f2', f3', f4', f5'⟩ := hF
        have hp9 := s9 _ _ hp8
        refine ⟨_, rfl, _, rfl, _, rfl, _, rfl, ((i7 : Nat) : Int), rfl, _, rfl, ((i7 + j7 : Nat) : Int), rfl, slA_any hp9 fun p10 H10 s10 hp10 _ => ?_⟩
        rw [cut_mid _ (by omega) (by rw [List.length_map]; omega), ← List.map_drop, ← List.map_take, show i7 + j7 - i7 = j7 by omega] at hp10
        have tk : rk ((u7.drop i7).take j7) j7 = rk (u7.drop i7) j7 := rk_local fun m hm => by rw [List.getElem?_take, if_pos hm]
        have lj : ((u7.drop i7).take j7).length = j7 := by rw [List.length_take, List.length_drop]; omega
        have vm := (vls_make (t := (u7.drop i7).take j7) n j7 (by omega) (by omega)).trans (List.take_of_length_le (by omega))
        have vf := vls_filled (t := (u7.drop i7).take j7) n j7 (by omega) (by omega)
        have vl := vls_len ((u7.drop i7).take j7) n j7
        have s910 := s9.trans s10
        refine ⟨l8, p10, (u7.drop i7).take j7, n, ps8, vls ((u7.drop i7).take j7) j7 n, rfl, hp10, s910 _ _ hl8, tu8.same s910, vl, by omega, fun v hv => ⟨(vf v hv).1, by have := (vf v hv).2.1; omega⟩, by omega, vm, fun H11 s11 => ⟨true, rfl, iteF ?_⟩⟩
        exact ⟨t6, _, _, _, _, _, _, _, _, _, rfl, (((src6.same s7).same s8).same s910).same s11, by omega⟩
    · rintro σ H1 ⟨t, o2, o3, o4, o5, o6, o7, o8, o9, o10, rfl, src1, ht⟩
      exact q _
end
end Mo

namespace Mo
open PySem PySem.Spec PyProof.Rows L2
theorem txt_mk {K : PySem.W.Frag} {h : Heap} {mg : Str → Option Value} {fa : Addr} (X : K.In h) (G : h.Ns mainGlobals mg) (hfa : mg "law" = some (.ref fa))
    {od0 an0 : Option Addr} {sl0 : Array (Option Value)} {oc0 kV0 dc0 pm0 cd0 ct0 : Value} {f0 : Addr}
    (a0 : PySem.W.nsIn K mainGlobals "is_plain_integer" = some (some (.ref f0))) (l0 : K.lookup f0 = some ⟨oc0, od0, .func (PySem.W.fnOf "is_plain_integer" "is_plain_integer" (defArgs sIsPlainInteger) (defBody sIsPlainInteger) (defScope sIsPlainInteger) .none kV0 dc0 pm0 an0 cd0 ct0), sl0⟩) (c0 : PySem.W.codeIn K cd0 "is_plain_integer" = true) (k0 : PySem.W.keepIn K (.ref f0) = true)
    {od1 an1 : Option Addr} {sl1 : Array (Option Value)} {oc1 kV1 dc1 pm1 cd1 ct1 : Value} {f1 : Addr}
    (a1 : PySem.W.nsIn K mainGlobals "is_letter" = some (some (.ref f1))) (l1 : K.lookup f1 = some ⟨oc1, od1, .func (PySem.W.fnOf "is_letter" "is_letter" (defArgs sIsLetter) (defBody sIsLetter) (defScope sIsLetter) .none kV1 dc1 pm1 an1 cd1 ct1), sl1⟩) (c1 : PySem.W.codeIn K cd1 "is_letter" = true) (k1 : PySem.W.keepIn K (.ref f1) = true)
    {od2 an2 : Option Addr} {sl2 : Array (Option Value)} {oc2 kV2 dc2 pm2 cd2 ct2 : Value} {f2 : Addr}
    (a2 : PySem.W.nsIn K mainGlobals "is_text" = some (some (.ref f2))) (l2 : K.lookup f2 = some ⟨oc2, od2, .func (PySem.W.fnOf "is_text" "is_text" (defArgs sIsText) (defBody sIsText) (defScope sIsText) .none kV2 dc2 pm2 an2 cd2 ct2), sl2⟩) (c2 : PySem.W.codeIn K cd2 "is_text" = true) (k2 : PySem.W.keepIn K (.ref f2) = true)
    {od3 an3 : Option Addr} {sl3 : Array (Option Value)} {oc3 kV3 dc3 pm3 cd3 ct3 : Value} {f3 : Addr}
    (a3 : PySem.W.nsIn K mainGlobals "check_text" = some (some (.ref f3))) (l3 : K.lookup f3 = some ⟨oc3, od3, .func (PySem.W.fnOf "check_text" "check_text" (defArgs sCheckText) (defBody sCheckText) (defScope sCheckText) .none kV3 dc3 pm3 an3 cd3 ct3), sl3⟩) (c3 : PySem.W.codeIn K cd3 "check_text" = true) (k3 : PySem.W.keepIn K (.ref f3) = true)
    {od4 an4 : Option Addr} {sl4 : Array (Option Value)} {oc4 kV4 dc4 pm4 cd4 ct4 : Value} {f4 : Addr}
    (a4 : PySem.W.nsIn K mainGlobals "check_count" = some (some (.ref f4))) (l4 : K.lookup f4 = some ⟨oc4, od4, .func (PySem.W.fnOf "check_count" "check_count" (defArgs sCheckCount) (defBody sCheckCount) (defScope sCheckCount) .none kV4 dc4 pm4 an4 cd4 ct4), sl4⟩) (c4 : PySem.W.codeIn K cd4 "check_count" = true) (k4 : PySem.W.keepIn K (.ref f4) = true)
    {od5 an5 : Option Addr} {sl5 : Array (Option Value)} {oc5 kV5 dc5 pm5 cd5 ct5 : Value} {f5 : Addr}
    (a5 : PySem.W.nsIn K mainGlobals "check_size" = some (some (.ref f5))) (l5 : K.lookup f5 = some ⟨oc5, od5, .func (PySem.W.fnOf "check_size" "check_size" (defArgs sCheckSize) (defBody sCheckSize) (defScope sCheckSize) .none kV5 dc5 pm5 an5 cd5 ct5), sl5⟩) (c5 : PySem.W.codeIn K cd5 "check_size" = true) (k5 : PySem.W.keepIn K (.ref f5) = true)
    {od6 an6 : Option Addr} {sl6 : Array (Option Value)} {oc6 kV6 dc6 pm6 cd6 ct6 : Value} {f6 : Addr}
    (a6 : PySem.W.nsIn K mainGlobals "longest_borders" = some (some (.ref f6))) (l6 : K.lookup f6 = some ⟨oc6, od6, .func (PySem.W.fnOf "longest_borders" "longest_borders" (defArgs sLongestBorders) (defBody sLongestBorders) (defScope sLongestBorders) .none kV6 dc6 pm6 an6 cd6 ct6), sl6⟩) (c6 : PySem.W.codeIn K cd6 "longest_borders" = true) (k6 : PySem.W.keepIn K (.ref f6) = true)
    {od7 an7 : Option Addr} {sl7 : Array (Option Value)} {oc7 kV7 dc7 pm7 cd7 ct7 : Value} {f7 : Addr}
    (a7 : PySem.W.nsIn K mainGlobals "extended" = some (some (.ref f7))) (l7 : K.lookup f7 = some ⟨oc7, od7, .func (PySem.W.fnOf "extended" "extended" (defArgs sExtended) (defBody sExtended) (defScope sExtended) .none kV7 dc7 pm7 an7 cd7 ct7), sl7⟩) (c7 : PySem.W.codeIn K cd7 "extended" = true) (k7 : PySem.W.keepIn K (.ref f7) = true)
    {od8 an8 : Option Addr} {sl8 : Array (Option Value)} {oc8 kV8 dc8 pm8 cd8 ct8 : Value} {f8 : Addr}
    (a8 : PySem.W.nsIn K mainGlobals "half_borders" = some (some (.ref f8))) (l8 : K.lookup f8 = some ⟨oc8, od8, .func (PySem.W.fnOf "half_borders" "half_borders" (defArgs sHalfBorders) (defBody sHalfBorders) (defScope sHalfBorders) .none kV8 dc8 pm8 an8 cd8 ct8), sl8⟩) (c8 : PySem.W.codeIn K cd8 "half_borders" = true) (k8 : PySem.W.keepIn K (.ref f8) = true)
    {od9 an9 : Option Addr} {sl9 : Array (Option Value)} {oc9 kV9 dc9 pm9 cd9 ct9 : Value} {f9 : Addr}
    (a9 : PySem.W.nsIn K mainGlobals "prefix_ranks" = some (some (.ref f9))) (l9 : K.lookup f9 = some ⟨oc9, od9, .func (PySem.W.fnOf "prefix_ranks" "prefix_ranks" (defArgs sPrefixRanks) (defBody sPrefixRanks) (defScope sPrefixRanks) .none kV9 dc9 pm9 an9 cd9 ct9), sl9⟩) (c9 : PySem.W.codeIn K cd9 "prefix_ranks" = true) (k9 : PySem.W.keepIn K (.ref f9) = true)
    {od10 an10 : Option Addr} {sl10 : Array (Option Value)} {oc10 kV10 dc10 pm10 cd10 ct10 : Value} {f10 : Addr}
    (a10 : PySem.W.nsIn K mainGlobals "split_block" = some (some (.ref f10))) (l10 : K.lookup f10 = some ⟨oc10, od10, .func (PySem.W.fnOf "split_block" "split_block" (defArgs sSplitBlock) (defBody sSplitBlock) (defScope sSplitBlock) .none kV10 dc10 pm10 an10 cd10 ct10), sl10⟩) (c10 : PySem.W.codeIn K cd10 "split_block" = true) (k10 : PySem.W.keepIn K (.ref f10) = true)
    {od11 an11 : Option Addr} {sl11 : Array (Option Value)} {oc11 kV11 dc11 pm11 cd11 ct11 : Value} {f11 : Addr}
    (a11 : PySem.W.nsIn K mainGlobals "best_block" = some (some (.ref f11))) (l11 : K.lookup f11 = some ⟨oc11, od11, .func (PySem.W.fnOf "best_block" "best_block" (defArgs sBestBlock) (defBody sBestBlock) (defScope sBestBlock) .none kV11 dc11 pm11 an11 cd11 ct11), sl11⟩) (c11 : PySem.W.codeIn K cd11 "best_block" = true) (k11 : PySem.W.keepIn K (.ref f11) = true)
    {od12 an12 : Option Addr} {sl12 : Array (Option Value)} {oc12 kV12 dc12 pm12 cd12 ct12 : Value} {f12 : Addr}
    (a12 : PySem.W.nsIn K mainGlobals "find_universal" = some (some (.ref f12))) (l12 : K.lookup f12 = some ⟨oc12, od12, .func (PySem.W.fnOf "find_universal" "find_universal" (defArgs sFindUniversal) (defBody sFindUniversal) (defScope sFindUniversal) .none kV12 dc12 pm12 an12 cd12 ct12), sl12⟩) (c12 : PySem.W.codeIn K cd12 "find_universal" = true) (k12 : PySem.W.keepIn K (.ref f12) = true)
    {od13 an13 : Option Addr} {sl13 : Array (Option Value)} {oc13 kV13 dc13 pm13 cd13 ct13 : Value} {f13 : Addr}
    (a13 : PySem.W.nsIn K mainGlobals "power" = some (some (.ref f13))) (l13 : K.lookup f13 = some ⟨oc13, od13, .func (PySem.W.fnOf "power" "power" (defArgs sPower) (defBody sPower) (defScope sPower) .none kV13 dc13 pm13 an13 cd13 ct13), sl13⟩) (c13 : PySem.W.codeIn K cd13 "power" = true) (k13 : PySem.W.keepIn K (.ref f13) = true)
    {od14 an14 : Option Addr} {sl14 : Array (Option Value)} {oc14 kV14 dc14 pm14 cd14 ct14 : Value} {f14 : Addr}
    (a14 : PySem.W.nsIn K mainGlobals "length_bound" = some (some (.ref f14))) (l14 : K.lookup f14 = some ⟨oc14, od14, .func (PySem.W.fnOf "length_bound" "length_bound" (defArgs sLengthBound) (defBody sLengthBound) (defScope sLengthBound) .none kV14 dc14 pm14 an14 cd14 ct14), sl14⟩) (c14 : PySem.W.codeIn K cd14 "length_bound" = true) (k14 : PySem.W.keepIn K (.ref f14) = true)
    {od15 an15 : Option Addr} {sl15 : Array (Option Value)} {oc15 kV15 dc15 pm15 cd15 ct15 : Value} {f15 : Addr}
    (a15 : PySem.W.nsIn K mainGlobals "_law_source" = some (some (.ref f15))) (l15 : K.lookup f15 = some ⟨oc15, od15, .func (PySem.W.fnOf "_law_source" "_law_source" (defArgs sLSource) (defBody sLSource) (defScope sLSource) .none kV15 dc15 pm15 an15 cd15 ct15), sl15⟩) (c15 : PySem.W.codeIn K cd15 "_law_source" = true) (k15 : PySem.W.keepIn K (.ref f15) = true)
    {od16 an16 : Option Addr} {sl16 : Array (Option Value)} {oc16 kV16 dc16 pm16 cd16 ct16 : Value} {f16 : Addr}
    (a16 : PySem.W.nsIn K mainGlobals "_law_draw" = some (some (.ref f16))) (l16 : K.lookup f16 = some ⟨oc16, od16, .func (PySem.W.fnOf "_law_draw" "_law_draw" (defArgs sLDraw) (defBody sLDraw) (defScope sLDraw) .none kV16 dc16 pm16 an16 cd16 ct16), sl16⟩) (c16 : PySem.W.codeIn K cd16 "_law_draw" = true) (k16 : PySem.W.keepIn K (.ref f16) = true)
    {od17 an17 : Option Addr} {sl17 : Array (Option Value)} {oc17 kV17 dc17 pm17 cd17 ct17 : Value} {f17 : Addr}
    (a17 : PySem.W.nsIn K mainGlobals "_law_pick" = some (some (.ref f17))) (l17 : K.lookup f17 = some ⟨oc17, od17, .func (PySem.W.fnOf "_law_pick" "_law_pick" (defArgs sLPick) (defBody sLPick) (defScope sLPick) .none kV17 dc17 pm17 an17 cd17 ct17), sl17⟩) (c17 : PySem.W.codeIn K cd17 "_law_pick" = true) (k17 : PySem.W.keepIn K (.ref f17) = true)
    {od18 an18 : Option Addr} {sl18 : Array (Option Value)} {oc18 kV18 dc18 pm18 cd18 ct18 : Value} {f18 : Addr}
    (a18 : PySem.W.nsIn K mainGlobals "_law_universal" = some (some (.ref f18))) (l18 : K.lookup f18 = some ⟨oc18, od18, .func (PySem.W.fnOf "_law_universal" "_law_universal" (defArgs sLUniversal) (defBody sLUniversal) (defScope sLUniversal) .none kV18 dc18 pm18 an18 cd18 ct18), sl18⟩) (c18 : PySem.W.codeIn K cd18 "_law_universal" = true) (k18 : PySem.W.keepIn K (.ref f18) = true)
    {od19 an19 : Option Addr} {sl19 : Array (Option Value)} {oc19 kV19 dc19 pm19 cd19 ct19 : Value} {f19 : Addr}
    (a19 : PySem.W.nsIn K mainGlobals "_law_alphabet" = some (some (.ref f19))) (l19 : K.lookup f19 = some ⟨oc19, od19, .func (PySem.W.fnOf "_law_alphabet" "_law_alphabet" (defArgs sLAlphabet) (defBody sLAlphabet) (defScope sLAlphabet) .none kV19 dc19 pm19 an19 cd19 ct19), sl19⟩) (c19 : PySem.W.codeIn K cd19 "_law_alphabet" = true) (k19 : PySem.W.keepIn K (.ref f19) = true)
    {od20 an20 : Option Addr} {sl20 : Array (Option Value)} {oc20 kV20 dc20 pm20 cd20 ct20 : Value} {f20 : Addr}
    (a20 : PySem.W.nsIn K mainGlobals "_law_filled" = some (some (.ref f20))) (l20 : K.lookup f20 = some ⟨oc20, od20, .func (PySem.W.fnOf "_law_filled" "_law_filled" (defArgs sLFilled) (defBody sLFilled) (defScope sLFilled) .none kV20 dc20 pm20 an20 cd20 ct20), sl20⟩) (c20 : PySem.W.codeIn K cd20 "_law_filled" = true) (k20 : PySem.W.keepIn K (.ref f20) = true)
    {od21 an21 : Option Addr} {sl21 : Array (Option Value)} {oc21 kV21 dc21 pm21 cd21 ct21 : Value} {f21 : Addr}
    (a21 : PySem.W.nsIn K mainGlobals "_law_are_values" = some (some (.ref f21))) (l21 : K.lookup f21 = some ⟨oc21, od21, .func (PySem.W.fnOf "_law_are_values" "_law_are_values" (defArgs sLAreValues) (defBody sLAreValues) (defScope sLAreValues) .none kV21 dc21 pm21 an21 cd21 ct21), sl21⟩) (c21 : PySem.W.codeIn K cd21 "_law_are_values" = true) (k21 : PySem.W.keepIn K (.ref f21) = true)
    {od22 an22 : Option Addr} {sl22 : Array (Option Value)} {oc22 kV22 dc22 pm22 cd22 ct22 : Value} {f22 : Addr}
    (a22 : PySem.W.nsIn K mainGlobals "_law_long" = some (some (.ref f22))) (l22 : K.lookup f22 = some ⟨oc22, od22, .func (PySem.W.fnOf "_law_long" "_law_long" (defArgs sLLong) (defBody sLLong) (defScope sLLong) .none kV22 dc22 pm22 an22 cd22 ct22), sl22⟩) (c22 : PySem.W.codeIn K cd22 "_law_long" = true) (k22 : PySem.W.keepIn K (.ref f22) = true)
    {od23 an23 : Option Addr} {sl23 : Array (Option Value)} {oc23 kV23 dc23 pm23 cd23 ct23 : Value} {f23 : Addr}
    (a23 : PySem.W.nsIn K mainGlobals "_law_uneven" = some (some (.ref f23))) (l23 : K.lookup f23 = some ⟨oc23, od23, .func (PySem.W.fnOf "_law_uneven" "_law_uneven" (defArgs sLUneven) (defBody sLUneven) (defScope sLUneven) .none kV23 dc23 pm23 an23 cd23 ct23), sl23⟩) (c23 : PySem.W.codeIn K cd23 "_law_uneven" = true) (k23 : PySem.W.keepIn K (.ref f23) = true)
    {od24 an24 : Option Addr} {sl24 : Array (Option Value)} {oc24 kV24 dc24 pm24 cd24 ct24 : Value} {f24 : Addr}
    (a24 : PySem.W.nsIn K mainGlobals "law" = some (some (.ref f24))) (l24 : K.lookup f24 = some ⟨oc24, od24, .func (PySem.W.fnOf "law" "law" (defArgs sLaw) (defBody sLaw) (defScope sLaw) .none kV24 dc24 pm24 an24 cd24 ct24), sl24⟩) (c24 : PySem.W.codeIn K cd24 "law" = true) (k24 : PySem.W.keepIn K (.ref f24) = true)
    {t_LONGEST_TEXT : Tok} (z_LONGEST_TEXT : PySem.W.nsIn K mainGlobals "LONGEST_TEXT" = some (some (.int 4096 t_LONGEST_TEXT)))
    {t_GREATEST_LETTER : Tok} (z_GREATEST_LETTER : PySem.W.nsIn K mainGlobals "GREATEST_LETTER" = some (some (.int 999999 t_GREATEST_LETTER)))
    {t_GREATEST_COUNT : Tok} (z_GREATEST_COUNT : PySem.W.nsIn K mainGlobals "GREATEST_COUNT" = some (some (.int 12 t_GREATEST_COUNT)))
    {t_LONGEST_RANKED : Tok} (z_LONGEST_RANKED : PySem.W.nsIn K mainGlobals "LONGEST_RANKED" = some (some (.int 400 t_LONGEST_RANKED)))
    (z_isinstance : PySem.W.nsIn K mainGlobals "isinstance" = some none)
    (z_bool : PySem.W.nsIn K mainGlobals "bool" = some none)
    (z_int : PySem.W.nsIn K mainGlobals "int" = some none)
    (z_all : PySem.W.nsIn K mainGlobals "all" = some none)
    (z_len : PySem.W.nsIn K mainGlobals "len" = some none)
    (z_tuple : PySem.W.nsIn K mainGlobals "tuple" = some none)
    (z_range : PySem.W.nsIn K mainGlobals "range" = some none)
    (z_enumerate : PySem.W.nsIn K mainGlobals "enumerate" = some none)
    (z_list : PySem.W.nsIn K mainGlobals "list" = some none)
    (z_abs : PySem.W.nsIn K mainGlobals "abs" = some none)
    (z_min : PySem.W.nsIn K mainGlobals "min" = some none) :
    ∃ T : Txt K mg, T.aLaw = fa ∧ ∀ (s : Shared) (v : Value), BindsTo s T.dLaw ⟨[v], []⟩ [("_law_script", v)] := by
  have e := hfa.symm.trans (PySem.W.mg_of X G a24)
  cases e
  have F0 := fun_mk (st := sIsPlainInteger) l0 c0 k0
  have F1 := fun_mk (st := sIsLetter) l1 c1 k1
  have F2 := fun_mk (st := sIsText) l2 c2 k2
  have F3 := fun_mk (st := sCheckText) l3 c3 k3
  have F4 := fun_mk (st := sCheckCount) l4 c4 k4
  have F5 := fun_mk (st := sCheckSize) l5 c5 k5
  have F6 := fun_mk (st := sLongestBorders) l6 c6 k6
  have F7 := fun_mk (st := sExtended) l7 c7 k7
  have F8 := fun_mk (st := sHalfBorders) l8 c8 k8
  have F9 := fun_mk (st := sPrefixRanks) l9 c9 k9
  have F10 := fun_mk (st := sSplitBlock) l10 c10 k10
  have F11 := fun_mk (st := sBestBlock) l11 c11 k11
  have F12 := fun_mk (st := sFindUniversal) l12 c12 k12
  have F13 := fun_mk (st := sPower) l13 c13 k13
  have F14 := fun_mk (st := sLengthBound) l14 c14 k14
  have F15 := fun_mk (st := sLSource) l15 c15 k15
  have F16 := fun_mk (st := sLDraw) l16 c16 k16
  have F17 := fun_mk (st := sLPick) l17 c17 k17
  have F18 := fun_mk (st := sLUniversal) l18 c18 k18
  have F19 := fun_mk (st := sLAlphabet) l19 c19 k19
  have F20 := fun_mk (st := sLFilled) l20 c20 k20
  have F21 := fun_mk (st := sLAreValues) l21 c21 k21
  have F22 := fun_mk (st := sLLong) l22 c22 k22
  have F23 := fun_mk (st := sLUneven) l23 c23 k23
  have F24 := fun_mk (st := sLaw) l24 c24 k24
  exact ⟨⟨_, _, F0, F0.binds (ps := ["value"]) fun _ _ _ _ _ _ us hl => match us, hl with | [_], _ => rfl, PySem.W.mg_of X G a0, _, _, F1, F1.binds (ps := ["value"]) fun _ _ _ _ _ _ us hl => match us, hl with | [_], _ => rfl, PySem.W.mg_of X G a1, _, _, F2, F2.binds (ps := ["value"]) fun _ _ _ _ _ _ us hl => match us, hl with | [_], _ => rfl, PySem.W.mg_of X G a2, _, _, F3, F3.binds (ps := ["value"]) fun _ _ _ _ _ _ us hl => match us, hl with | [_], _ => rfl, PySem.W.mg_of X G a3, _, _, F4, F4.binds (ps := ["value", "least", "most"]) fun _ _ _ _ _ _ us hl => match us, hl with | [_, _, _], _ => rfl, PySem.W.mg_of X G a4, _, _, F5, F5.binds (ps := ["text"]) fun _ _ _ _ _ _ us hl => match us, hl with | [_], _ => rfl, PySem.W.mg_of X G a5, _, _, F6, F6.binds (ps := ["text"]) fun _ _ _ _ _ _ us hl => match us, hl with | [_], _ => rfl, PySem.W.mg_of X G a6, _, _, F7, F7.binds (ps := ["text", "longest", "border", "size"]) fun _ _ _ _ _ _ us hl => match us, hl with | [_, _, _, _], _ => rfl, PySem.W.mg_of X G a7, _, _, F8, F8.binds (ps := ["text"]) fun _ _ _ _ _ _ us hl => match us, hl with | [_], _ => rfl, PySem.W.mg_of X G a8, _, _, F9, F9.binds (ps := ["text"]) fun _ _ _ _ _ _ us hl => match us, hl with | [_], _ => rfl, PySem.W.mg_of X G a9, _, _, F10, F10.binds (ps := ["text", "count"]) fun _ _ _ _ _ _ us hl => match us, hl with | [_, _], _ => rfl, PySem.W.mg_of X G a10, _, _, F11, F11.binds (ps := ["text"]) fun _ _ _ _ _ _ us hl => match us, hl with | [_], _ => rfl, PySem.W.mg_of X G a11, _, _, F12, F12.binds (ps := ["text", "count"]) fun _ _ _ _ _ _ us hl => match us, hl with | [_, _], _ => rfl, PySem.W.mg_of X G a12, _, _, F13, F13.binds (ps := ["base", "exponent"]) fun _ _ _ _ _ _ us hl => match us, hl with | [_, _], _ => rfl, PySem.W.mg_of X G a13, _, _, F14, F14.binds (ps := ["count", "letters"]) fun _ _ _ _ _ _ us hl => match us, hl with | [_, _], _ => rfl, PySem.W.mg_of X G a14, _, _, F15, F15.binds (ps := ["_law_script"]) fun _ _ _ _ _ _ us hl => match us, hl with | [_], _ => rfl, PySem.W.mg_of X G a15, _, _, F16, F16.binds (ps := ["_law_source_here", "_law_size"]) fun _ _ _ _ _ _ us hl => match us, hl with | [_, _], _ => rfl, PySem.W.mg_of X G a16, _, _, F17, F17.binds (ps := ["_law_source_here", "_law_items"]) fun _ _ _ _ _ _ us hl => match us, hl with | [_, _], _ => rfl, PySem.W.mg_of X G a17, _, _, F18, F18.binds (ps := ["_law_count"]) fun _ _ _ _ _ _ us hl => match us, hl with | [_], _ => rfl, PySem.W.mg_of X G a18, _, _, F19, F19.binds (ps := ["_law_source_here", "_law_count"]) fun _ _ _ _ _ _ us hl => match us, hl with | [_, _], _ => rfl, PySem.W.mg_of X G a19, _, _, F20, F20.binds (ps := ["_law_letters", "_law_values"]) fun _ _ _ _ _ _ us hl => match us, hl with | [_, _], _ => rfl, PySem.W.mg_of X G a20, _, _, F21, F21.binds (ps := ["_law_texts", "_law_count", "_law_block"]) fun _ _ _ _ _ _ us hl => match us, hl with | [_, _, _], _ => rfl, PySem.W.mg_of X G a21, _, _, F22, F22.binds (ps := ["_law_source_here", "_law_letters", "_law_size"]) fun _ _ _ _ _ _ us hl => match us, hl with | [_, _, _], _ => rfl, PySem.W.mg_of X G a22, _, _, F23, F23.binds (ps := ["_law_text", "_law_letters"]) fun _ _ _ _ _ _ us hl => match us, hl with | [_, _], _ => rfl, PySem.W.mg_of X G a23, _, _, F24, F24.binds (ps := ["_law_script"]) fun _ _ _ _ _ _ us hl => match us, hl with | [_], _ => rfl, PySem.W.mg_of X G a24, _, PySem.W.mg_of X G z_LONGEST_TEXT, _, PySem.W.mg_of X G z_GREATEST_LETTER, _, PySem.W.mg_of X G z_GREATEST_COUNT, _, PySem.W.mg_of X G z_LONGEST_RANKED, PySem.W.mg_none_of X G z_isinstance, PySem.W.mg_none_of X G z_bool, PySem.W.mg_none_of X G z_int, PySem.W.mg_none_of X G z_all, PySem.W.mg_none_of X G z_len, PySem.W.mg_none_of X G z_tuple, PySem.W.mg_none_of X G z_range, PySem.W.mg_none_of X G z_enumerate, PySem.W.mg_none_of X G z_list, PySem.W.mg_none_of X G z_abs, PySem.W.mg_none_of X G z_min⟩, rfl, fun s v => .of_eq rfl⟩
theorem all_mk {l : PySem.W.OpenLaw} {w : World} {K : PySem.W.Frag} {mg : Str → Option Value} {fa : Addr} (hT : ∃ T : Txt K mg, T.aLaw = fa ∧ ∀ (s : Shared) (v : Value), BindsTo s T.dLaw ⟨[v], []⟩ [("_law_script", v)]) :
    ∃ fd : FuncData, (∀ (s : Shared) (v : Value), BindsTo s fd ⟨[v], []⟩ [("_law_script", v)]) ∧ ∀ base : Heap, K.In base → base.Ns mainGlobals mg → FnOk l.prog w K mg base CX0 7 fa fd ["_law_script"] (spLaw K) := by
  obtain ⟨T, rfl, hb⟩ := hT
  exact ⟨T.dLaw, hb, fun base _ _ => ok_law (k := 0) T⟩
end Mo
open PySem PySem.W PyProof.Rows
set_option maxHeartbeats 0 in
theorem PySem.Challenge.cw_mustoccur_k40_whole_long_texts_have_bloc_holds : PySem.Challenge.rw_mustoccur_k40_whole_long_texts_have_bloc.Holds := by
  w_on; o_law; k_head; (case hw => w_witness2)
  k_fill
  refine L2.walk_of (l := PySem.Challenge.rw_mustoccur_k40_whole_long_texts_have_bloc) (n := 63) (k := 7) (x := "_law_script") (CX := fun _ => L2.CX0) (sp := fun w => Mo.spLaw _) rfl (by decide) rfl ⟨rfl, by decide, by decide⟩ (fun w h Y => PySem.W.kIn_of Y) ?F (fun _ _ a ns hl _ hS => ⟨a, ns, rfl, hS, hl, fun _ => rfl⟩) (fun _ _ _ _ _ h => h)
  case F =>
    intro w mg fa h KX G hmg
    refine Mo.all_mk ?_
    refine' Mo.txt_mk KX G hmg ?a0 ?l0 ?c0 ?k0 ?a1 ?l1 ?c1 ?k1 ?a2 ?l2 ?c2 ?k2 ?a3 ?l3 ?c3 ?k3 ?a4 ?l4 ?c4 ?k4 ?a5 ?l5 ?c5 ?k5 ?a6 ?l6 ?c6 ?k6 ?a7 ?l7 ?c7 ?k7 ?a8 ?l8 ?c8 ?k8 ?a9 ?l9 ?c9 ?k9 ?a10 ?l10 ?c10 ?k10 ?a11 ?l11 ?c11 ?k11 ?a12 ?l12 ?c12 ?k12 ?a13 ?l13 ?c13 ?k13 ?a14 ?l14 ?c14 ?k14 ?a15 ?l15 ?c15 ?k15 ?a16 ?l16 ?c16 ?k16 ?a17 ?l17 ?c17 ?k17 ?a18 ?l18 ?c18 ?k18 ?a19 ?l19 ?c19 ?k19 ?a20 ?l20 ?c20 ?k20 ?a21 ?l21 ?c21 ?k21 ?a22 ?l22 ?c22 ?k22 ?a23 ?l23 ?c23 ?k23 ?a24 ?l24 ?c24 ?k24 ?z_LONGEST_TEXT ?z_GREATEST_LETTER ?z_GREATEST_COUNT ?z_LONGEST_RANKED ?z_isinstance ?z_bool ?z_int ?z_all ?z_len ?z_tuple ?z_range ?z_enumerate ?z_list ?z_abs ?z_min
    (case a0 => k_is); (case l0 => k_is); (case c0 => k_is); (case k0 => k_is); (case a1 => k_is); (case l1 => k_is); (case c1 => k_is); (case k1 => k_is); (case a2 => k_is); (case l2 => k_is); (case c2 => k_is); (case k2 => k_is); (case a3 => k_is); (case l3 => k_is); (case c3 => k_is); (case k3 => k_is); (case a4 => k_is); (case l4 => k_is); (case c4 => k_is); (case k4 => k_is); (case a5 => k_is); (case l5 => k_is); (case c5 => k_is); (case k5 => k_is); (case a6 => k_is); (case l6 => k_is); (case c6 => k_is); (case k6 => k_is); (case a7 => k_is); (case l7 => k_is); (case c7 => k_is); (case k7 => k_is); (case a8 => k_is); (case l8 => k_is); (case c8 => k_is); (case k8 => k_is); (case a9 => k_is); (case l9 => k_is); (case c9 => k_is); (case k9 => k_is); (case a10 => k_is); (case l10 => k_is); (case c10 => k_is); (case k10 => k_is); (case a11 => k_is); (case l11 => k_is); (case c11 => k_is); (case k11 => k_is); (case a12 => k_is); (case l12 => k_is); (case c12 => k_is); (case k12 => k_is); (case a13 => k_is); (case l13 => k_is); (case c13 => k_is); (case k13 => k_is); (case a14 => k_is); (case l14 => k_is); (case c14 => k_is); (case k14 => k_is); (case a15 => k_is); (case l15 => k_is); (case c15 => k_is); (case k15 => k_is); (case a16 => k_is); (case l16 => k_is); (case c16 => k_is); (case k16 => k_is); (case a17 => k_is); (case l17 => k_is); (case c17 => k_is); (case k17 => k_is); (case a18 => k_is); (case l18 => k_is); (case c18 => k_is); (case k18 => k_is); (case a19 => k_is); (case l19 => k_is); (case c19 => k_is); (case k19 => k_is); (case a20 => k_is); (case l20 => k_is); (case c20 => k_is); (case k20 => k_is); (case a21 => k_is); (case l21 => k_is); (case c21 => k_is); (case k21 => k_is); (case a22 => k_is); (case l22 => k_is); (case c22 => k_is); (case k22 => k_is); (case a23 => k_is); (case l23 => k_is); (case c23 => k_is); (case k23 => k_is); (case a24 => k_is); (case l24 => k_is); (case c24 => k_is); (case k24 => k_is); (case z_LONGEST_TEXT => k_is); (case z_GREATEST_LETTER => k_is); (case z_GREATEST_COUNT => k_is); (case z_LONGEST_RANKED => k_is); (case z_isinstance => k_is); (case z_bool => k_is); (case z_int => k_is); (case z_all => k_is); (case z_len => k_is); (case z_tuple => k_is); (case z_range => k_is); (case z_enumerate => k_is); (case z_list => k_is); (case z_abs => k_is); (case z_min => k_is)
