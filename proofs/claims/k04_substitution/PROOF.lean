import PyProof.Rows.All
import Wide.All
import OpenK.AllK
import Wide.FinOn
import HandS.ForMost
import HandS.SetKeys
import HandS.Walk
import HandS.Style
import HandS.SetFor
import HandS.IsInst
import HandS.Wide
import PyProof.Draws
import PyProof.EnumMake
import HandS.Replace
import HandS.Exc
import HandS.WordsExc
import HandS.ExcInit
import HandS.ExcField
import HandS.ExcIs
import HandS.TryOnly
import HandS.CallSlots
import HandS.ExcOwn
import PyProof.ReprRoads
import HandS.Ends
import HandS.TupAny
import HandS.TupMul
import PyProof.TupleOfStr
import PyProof.NeKinds
import PyProof.EqAt
import PyProof.ReprBulk
import PyProof.Rows.StrBin
import PyProof.Rows.ReprOcc
import PyProof.ReprLen
import KE.KExcInit
import PyProof.ExcBaseAll.OverflowError
import HandS.TryMany
import HandS.DictEq
import HandS.DictComp
import PyProof.ListStr
import HandS.Evl
import KE.KEqSeq
import PySem.Challenge.RW_mustoccur_k04_substitution
set_option Elab.async false
set_option linter.all false
set_option maxRecDepth 100000
set_option maxHeartbeats 8000000
/-! Rules that the laws of this program want and the layer lacks: repr and reversal of a text, enumerate of a text, the set of a text's signs and its size. -/
namespace Mo
open PySem PySem.Spec PyProof.Rows L2
/-! ### signs met, in the order of first occurrence -/
def metStep (acc : List Nat) (c : Nat) : List Nat := if c ∈ acc then acc else acc ++ [c]
def met (cs : List Nat) : List Nat := cs.foldl metStep []
theorem met_snoc (cs : List Nat) (c : Nat) : met (cs ++ [c]) = metStep (met cs) c := by
  unfold met
  rw [List.foldl_append]
  rfl
theorem mem_metStep {acc : List Nat} {c d : Nat} : d ∈ metStep acc c ↔ d ∈ acc ∨ d = c := by
  unfold metStep
  by_cases h : c ∈ acc
  · rw [if_pos h]
    constructor
    · exact Or.inl
    · rintro (q | q)
      · exact q
      · rw [q]; exact h
  · rw [if_neg h, List.mem_append, List.mem_singleton]
theorem mem_fold : ∀ (cs acc : List Nat) (d : Nat), d ∈ cs.foldl metStep acc ↔ d ∈ acc ∨ d ∈ cs
  | [], acc, d => by simp
  | c :: cs, acc, d => by
    rw [List.foldl_cons, mem_fold cs (metStep acc c) d, mem_metStep, List.mem_cons, or_assoc]
theorem mem_met {cs : List Nat} {d : Nat} : d ∈ met cs ↔ d ∈ cs := by
  unfold met
  rw [mem_fold]
  simp
theorem metStep_length (acc : List Nat) (c : Nat) : (metStep acc c).length = if c ∈ acc then acc.length else acc.length + 1 := by
  unfold metStep
  split <;> simp
theorem metStep_nodup {acc : List Nat} (h : acc.Nodup) (c : Nat) : (metStep acc c).Nodup := by
  unfold metStep
  by_cases q : c ∈ acc
  · rw [if_pos q]; exact h
  · rw [if_neg q]
    exact List.nodup_append.mpr ⟨h, by simp, by rintro a ha b hb rfl; exact q (by rw [← List.mem_singleton.mp hb]; exact ha)⟩
theorem fold_nodup : ∀ (cs acc : List Nat), acc.Nodup → (cs.foldl metStep acc).Nodup
  | [], _, h => h
  | c :: cs, _, h => fold_nodup cs _ (metStep_nodup h c)
theorem met_nodup (cs : List Nat) : (met cs).Nodup := fold_nodup cs [] List.nodup_nil
theorem met_length_le : ∀ cs : List Nat, (met cs).length ≤ cs.length := fun cs => by
  have key : ∀ (cs acc : List Nat), (cs.foldl metStep acc).length ≤ acc.length + cs.length := by
    intro cs
    induction cs with
    | nil => intro acc; simp
    | cons c cs ih =>
      intro acc
      rw [List.foldl_cons]
      have h1 := ih (metStep acc c)
      have h2 := metStep_length acc c
      rw [List.length_cons]
      split at h2 <;> omega
  have h := key cs []
  simpa [met] using h
/-- the keys that are signs of cs -/
def inS (cs : List Nat) (k : Key) : Bool := cs.any fun c => decide (k = Sum.inr (⟨#[c]⟩ : Str))
theorem sign_inj {c d : Nat} (h : (⟨#[c]⟩ : Str) = ⟨#[d]⟩) : c = d := by
  injection h with h
  simpa using h
theorem inS_sign (cs : List Nat) (c : Nat) : inS cs (Sum.inr ⟨#[c]⟩) = decide (c ∈ cs) := by
  unfold inS
  by_cases h : c ∈ cs
  · rw [decide_eq_true h]
    exact List.any_eq_true.mpr ⟨c, h, decide_eq_true rfl⟩
  · rw [decide_eq_false h]
    cases q : cs.any fun d => decide ((Sum.inr ⟨#[c]⟩ : Key) = Sum.inr ⟨#[d]⟩) with
    | false => rfl
    | true =>
      obtain ⟨d, hd, e⟩ := List.any_eq_true.mp q
      exact absurd (by rw [sign_inj (Sum.inr.inj (of_decide_eq_true e))]; exact hd) h
section
variable {P : Program} {w : World} {A : Around} {E : Value → Shared → Prop} {s : Shared}
theorem signs_loop {I : Addr} {fp wr : List Addr} {G : Array GenState → Array GenState → Prop} {n : Nat} {Pv : Nat → Value → Prop} {St : Nat → Shared → Prop} {R : Result → Shared → Prop}
    (W : WalksS P w A.in1 I fp wr G n Pv St) (D : Addr) (hD : D ∉ fp) (cs : List Nat) (hn : n = cs.length) (hb : cs.length + 1 < scanBound)
    (hval : ∀ i v, Pv i v → ∃ c t, cs[i]? = some c ∧ v = .str ⟨#[c]⟩ t) :
    ∀ (k i : Nat) (s : Shared), n - i = k → i ≤ n → St i s → s.heap.SetOf (mixKind P w) D (inS (cs.take i)) (met (cs.take i)).length →
      (∀ s', Moved (D :: wr) G s s' → s'.heap.SetOf (mixKind P w) D (inS cs) (met cs).length → R (.ok (.ret .none)) s') →
      codeAny (model P w) A (.builtin "set.update.loop" ⟨[.ref D, .ref I], []⟩) R s := by
  have hDw : D ∉ wr := fun h => hD (W.sub _ h)
  have up : ∀ b ∈ wr, b ∈ D :: wr := fun b q => List.mem_cons_of_mem _ q
  intro k
  induction k with
  | zero =>
    intro i s hk hi hst hS hR
    obtain rfl : i = n := by omega
    refine codeAny_builtin PyProof.Rows.F.entry_set_update_loop (by
      rw [Around.under_plainId PyProof.Rows.F.plain_set_update_loop _]
      show wpAny _ A.in1 (pyNext (.ref I) >>= _) _ _ s
      refine wpAny_bind (W.done s _ _ hst fun s' hm => wpAny_pure (hR s' (hm.mono up) ?_))
      rw [List.take_of_length_le (by omega)] at hS
      obtain ⟨o, es, ep, t, ho, rest⟩ := hS
      exact ⟨o, es, ep, t, hm.heap D _ hDw ho, rest⟩)
  | succ k ih =>
    intro i s hk hi hst hS hR
    have hlt : i < n := by omega
    refine codeAny_builtin PyProof.Rows.F.entry_set_update_loop (by
      rw [Around.under_plainId PyProof.Rows.F.plain_set_update_loop _]
      show wpAny _ A.in1 (pyNext (.ref I) >>= _) _ _ s
      refine wpAny_bind (W.item i s _ _ hlt hst fun v s' hP hst' hm => ?_)
      obtain ⟨c, t, hc, rfl⟩ := hval i v hP
      have hS' : s'.heap.SetOf (mixKind P w) D (inS (cs.take i)) (met (cs.take i)).length := by
        obtain ⟨o, es, ep, tb, ho, rest⟩ := hS
        exact ⟨o, es, ep, tb, hm.heap D _ hDw ho, rest⟩
      show wpAny _ A.in1 (holding [Value.str ⟨#[c]⟩ t] (setAdd D (.str ⟨#[c]⟩ t)) >>= _) _ _ s'
      refine wpAny_bind (wpAny_holding (by
        unfold setAdd
        refine wpAny_holding (wpAny_bind ((mixKind P w).pyHash (k := Sum.inr ⟨#[c]⟩) (mixKind_str _ _ _ _) ?_))
        have room : (met (cs.take i)).length + 1 < scanBound := by
          have h1 := met_length_le (cs.take i)
          rw [List.length_take] at h1
          omega
        refine wpAny_setAddHashed_of (knd := mixKind P w) (s := { s' with toks := s'.toks + 1 }) (mixKind_str _ _ _ _) rfl hS' room fun h' hsb hS2 => ?_
        have e3 : cs.take (i + 1) = cs.take i ++ [c] := by
          rw [List.take_add_one, hc]
          rfl
        have hS3 : h'.SetOf (mixKind P w) D (inS (cs.take (i + 1))) (met (cs.take (i + 1))).length := by
          have f1 : (fun k' => inS (cs.take i) k' || decide (k' = Sum.inr (⟨#[c]⟩ : Str))) = inS (cs.take (i + 1)) := by
            funext k'
            rw [e3]
            unfold inS
            rw [List.any_append]
            simp
          have f2 : (if inS (cs.take i) (Sum.inr ⟨#[c]⟩) = true then (met (cs.take i)).length else (met (cs.take i)).length + 1) = (met (cs.take (i + 1))).length := by
            rw [e3, met_snoc, metStep_length, inS_sign]
            by_cases q : c ∈ cs.take i
            · rw [if_pos (decide_eq_true q), if_pos (mem_met.mpr q)]
            · rw [if_neg (by rw [decide_eq_false q]; exact Bool.false_ne_true), if_neg (fun z => q (mem_met.mp z))]
          rw [← f1, ← f2]
          exact hS2
        refine wpAny_pure ⟨plainId_quiet PyProof.Rows.F.plain_set_update_loop _, ih (i + 1) _ (by omega) hlt (W.frame _ s' _ _ hst' (Nat.le_succ _) fun b q o e => ?_) hS3 fun s2 hm2 hS4 => ?_⟩
        · rw [hsb.2 b (fun z : b = D => hD (by rw [← z]; exact q))]
          exact e
        · refine hR s2 (Moved.trans W.gtrans ((hm.mono up).then_heap (Nat.le_succ _) fun b o q e => ?_) hm2) hS4
          rw [hsb.2 b (fun z : b = D => q (by rw [z]; exact List.mem_cons_self))]
          exact e)))

set_option maxHeartbeats 8000000 in
/-- set(a text) -/
theorem call_set_signs {z : Str} {t : Tok} {Q : Value → Shared → Prop} (hh : A.handled = none) (hb : z.cps.size + 1 < scanBound)
    (h : ∀ (h' : Heap) (tk : Nat), h'.SetOf (mixKind P w) s.heap.objs.size (inS z.cps.toList) (met z.cps.toList).length → (∀ b o, s.heap.get? b = some o → h'.get? b = some o) → Q (.ref s.heap.objs.size) { s with heap := h', toks := tk }) :
    wpAny (model P w) A (call (.type "set") [.str z t]) Q E s := by
  obtain ⟨c, tl, hmro⟩ := PySem.F.called_set.mro
  have hmade := PySem.F.called_set.made; have hsub := PySem.F.called_set.sub
  refine wpAny_call (codeAny_of_tree (by
    show wpAny _ _ (callAny (.type "set") _) _ _ _
    refine wpAny_pure ⟨Code.quiet_builtin _ (by decide +kernel), codeAny_builtin PySem.F.entry_type_call ?_⟩
    rw [Around.under_plain (weight_type_call_type "set" [.str z t] []) rfl]
    have h1 := PySem.F.called_set.notType; have h2 := PySem.F.called_set.canCreate
    have hct := PySem.F.typeCall_set_1 (.str z t)
    repeat (any_goals (first | assumption | wp_step))
    refine codeAny_mono (code_set_new_1 (.str z t) (E := E) (Q₁ := fun obj s₁ => ∃ led : Bool, obj = .ref s.heap.objs.size ∧ s₁ = { s with heap := s.heap.push { cls := .type "set", dict := none, data := .set #[] 0 (.fresh 0 0 led) } }) fun led => ⟨led, rfl, rfl⟩) fun r s₁ hr => ?_
    cases r with
    | error e => exact hr
    | ok fl =>
      cases fl with
      | ret obj =>
        obtain ⟨led, rfl, rfl⟩ := hr
        generalize hNew : ({ cls := .type "set", dict := none, data := .set #[] 0 (.fresh 0 0 led) } : Obj) = nw
        have hfr : ∀ (h : Heap) (a : Addr), h.get? a = some nw → h.SetOf (mixKind P w) a (inS []) (met []).length := by
          intro h a e
          rw [← hNew] at e
          exact ⟨_, #[], 0, _, e, ⟨rfl, rfl, rfl⟩, rfl, (fun e he => by simp at he), (fun k => by simp [inS]), (by decide), (by rfl), rfl⟩
        have hcls : nw.cls = .type "set" := by rw [← hNew]
        have hnf : nw.isFreed = false := by rw [← hNew]; rfl
        have hS : (s.heap.push nw).get? s.heap.objs.size = some nw := Heap.get?_push_size _ hnf
        have hT : Shared.TypeIs { s with heap := s.heap.push nw } (.ref s.heap.objs.size) "set" := ⟨_, hS, hcls⟩
        have hli := PySem.F.called_set.init.lookup; have hbi := PySem.F.called_set.init.bind (.ref s.heap.objs.size)
        repeat (any_goals (first | assumption | wp_step))
        refine codeAny_mono (codeAny_call_builtin (R := wants (fun r s₂ => r = .none ∧ ∃ h' tk, s₂ = { s with heap := h', toks := tk } ∧ h'.SetOf (mixKind P w) s.heap.objs.size (inS z.cps.toList) (met z.cps.toList).length ∧
          (∀ b o, s.heap.get? b = some o → h'.get? b = some o)) E) PySem.F.called_set.init.plain PySem.F.entry_set_init (check_set_init_1 hT ?_)) fun r₂ s₂ hr₂ => ?_
        · subst hNew
          have n1 : isSubtype (.type "str") (.type "set") = pure false := by rw [isSubtype_type]; kernel_rfl
          have n2 : isSubtype (.type "str") (.type "frozenset") = pure false := by rw [isSubtype_type]; kernel_rfl
          have n3 : (Value.type "str" == Value.type "dict") = false := by decide
          unfold Builtin.«set.__init__» noKeywords Builtin.Frozenset.updateFrom
          generalize hPI : pyIter = PI
          wp_walk
          subst hPI
          have hh3 : A.in1.in1.in1.handled = none := by simp [hh]
          generalize hNew : ({ cls := .type "set", data := .set #[] 0 (.fresh 0 0 led) } : Obj) = nw at *
          have hz1 : (s.heap.push nw).objs.size = s.heap.objs.size + 1 := Heap.size_push ..
          have fin : ∀ (ty : String) (wk : Walks P w A.in1.in1.in1 (s.heap.push nw).objs.size [(s.heap.push nw).objs.size] [(s.heap.push nw).objs.size] z.cps.size (SignAt z) (fun i h => h.IsStrIter (s.heap.push nw).objs.size ty z t i))
              (Rk : Result → Shared → Prop), (∀ h' tk, h'.SetOf (mixKind P w) s.heap.objs.size (inS z.cps.toList) (met z.cps.toList).length → (∀ b o, s.heap.get? b = some o → h'.get? b = some o) → Rk (.ok (.ret .none)) { s with heap := h', toks := tk }) →
              codeAny (model P w) A.in1.in1 (.builtin "set.update.loop" ⟨[.ref s.heap.objs.size, .ref (s.heap.push nw).objs.size], []⟩) Rk
                { s with heap := (s.heap.push nw).push { cls := .type ty, data := .fields #[.str z t, .int 0 0] } } := by
            intro ty wk Rk hR
            refine signs_loop (wk.toS) s.heap.objs.size (by rw [hz1]; simp) z.cps.toList (by simp) (by simpa using hb) (fun i v hv => ?_) (z.cps.size - 0) 0 _ (by omega) (Nat.zero_le _) ⟨_, Heap.get?_push_size _ rfl, rfl, rfl⟩ ?_ ?_
            · obtain ⟨c, u, hc, rfl⟩ := hv
              exact ⟨c, u, by rw [Array.getElem?_toList]; exact hc, rfl⟩
            · exact hfr _ _ (Heap.get?_push_of_some _ hS)
            · intro s' hm hS'
              obtain ⟨h', g', d', tk', os'⟩ := s'
              obtain rfl : g' = s.gens := hm.gens
              obtain rfl : d' = s.drawn := hm.drawn
              obtain rfl : os' = s.os := hm.os
              refine hR h' tk' hS' fun b o e => ?_
              have hb0 : b < s.heap.objs.size := Heap.lt_size e
              have n1 : b ∉ s.heap.objs.size :: [(s.heap.push nw).objs.size] := by
                rw [hz1]
                intro q
                rcases List.mem_cons.mp q with q | q
                · exact Nat.ne_of_lt hb0 q
                · exact Nat.ne_of_lt (Nat.lt_succ_of_lt hb0) (List.mem_singleton.mp q)
              exact hm.heap b o n1 (Heap.get?_push_of_some _ (Heap.get?_push_of_some _ e))
          cases ha : z.cps.all (· < 128)
          · refine wpAny_pyIter_wide ha (wpAny_bind (wpAny_runValue (fin _ (Walks.strWide hh3 _ z t) _ fun h' tk hS2 hk2 => wpAny_pure ?_)))
            exact wpAny_pure ⟨rfl, h', tk, rfl, hS2, hk2⟩
          · refine wpAny_pyIter_ascii ha (wpAny_bind (wpAny_runValue (fin _ (Walks.strAscii hh3 _ z t) _ fun h' tk hS2 hk2 => wpAny_pure ?_)))
            exact wpAny_pure ⟨rfl, h', tk, rfl, hS2, hk2⟩
        · cases r₂ with
          | error e => exact hr₂
          | ok fl₂ =>
            cases fl₂ with
            | ret r =>
              obtain ⟨rfl, h', tk, rfl, hS', hk'⟩ := hr₂
              repeat (any_goals (first | assumption | wp_step))
              exact h _ _ hS' hk'
            | _ => exact hr₂.elim
      | _ => exact hr.elim))
end
end Mo

namespace Mo
open PySem PySem.Spec PyProof.Rows L2
/-! ### the rules over the layer -/
section
variable {X : Cx}
def rSetS (P : Program) (w : World) : List V → Hp → VK → Prop := fun xs H Q => ∃ z : Str, xs = [.str z] ∧ z.cps.size ≤ 4000 ∧ ∀ p, H p = none → Q (.ref p) (upd H p (SetK P w p (inS z.cps.toList) (met z.cps.toList).length))
/-- set(z), z a text -/
theorem cr_setS (hc : X.calm = true) : CallR X (.type "set") (rSetS X.prog X.w) := by
  intro pins s σ H xs us Q I r h
  obtain ⟨z, rfl, hz, q⟩ := h
  obtain ⟨u, rfl, t, rfl⟩ := vals1 r
  refine call_set_signs (I.ok.hd hc) (by unfold scanBound; omega) fun h' tk hS hk => ?_
  exact ⟨.ref _, _, I.laid (t' := tk) hk (Nat.le_refl _) (setK_new hS), rfl, q _ (I.hok.fresh (Nat.le_refl _))⟩
def rLenK (P : Program) (w : World) : List V → Hp → VK → Prop := fun xs H Q => ∃ a S n, xs = [V.ref a] ∧ H a = some (SetK P w a S n) ∧ (n : Int) < 2 ^ 62 ∧ Q (.int (n : Nat)) H
/-- len(a set) -/
theorem cr_lenK : CallR X (.builtin "len") (rLenK X.prog X.w) := by
  intro pins s σ H xs us Q I r h
  obtain ⟨a, S, n, rfl, ha, hn, q⟩ := h
  obtain ⟨u, rfl, ru⟩ := vals1 r
  cases ru
  obtain ⟨o, es, ep, t, ho, hex, hd, _, _, _, hf, hes⟩ := setK_get I ha
  refine call_len_set ho hex hd hf (by rw [hes]; omega) ⟨.int (n : Nat), H, I.tok _, ⟨_, by rw [hes]⟩, q⟩
/-- repr(z), z a text -/
theorem cr_reprS : CallR X (.builtin "repr") (fun xs H Q => ∃ z : Str, xs = [.str z] ∧ (reprText z).length ≤ sizeLine ∧ Q (.str (reprText z)) H) := by
  intro pins s σ H xs us Q I r h
  obtain ⟨z, rfl, hz, q⟩ := h
  obtain ⟨u, rfl, t, rfl⟩ := vals1 r
  exact PySem.P.repr_of_str ⟨.str _, H, I.tok _, ⟨_, rfl⟩, q⟩ hz
/-! rules within a comprehension's block: the written part named, so that the reading is the same in every block -/
def rLenSq (K : PySem.W.Frag) : List V → Hp → VK → Prop := fun xs H Q => ∃ p ys, xs = [.ref p] ∧ (SqL K H p ys ∨ SqT K H p ys) ∧ Q (.int ys.length) H
theorem call_len_seqK {K : PySem.W.Frag} (h : X.K = K) : CallR X (.builtin "len") (rLenSq K) := by
  subst h
  exact call_len_seq
theorem ix_listK {K : PySem.W.Frag} (h : X.K = K) : IxR X (rIxL K) := by
  subst h
  exact ix_list
theorem op_notIn_seqK {K : PySem.W.Frag} (h : X.K = K) : OpR X (compareOp .NotIn) (rIn K true) := by
  subst h
  exact op_notIn_seq
theorem op_in_seqK {K : PySem.W.Frag} (h : X.K = K) : OpR X (compareOp .In) (rIn K false) := by
  subst h
  exact op_in_seq
theorem pg_tupK {K : PySem.W.Frag} {es : List Expr} {t : TGs} {k n : Nat} {pos : Pos} (h : X.K = K) (hc : X.calm = true) (hs : PGs X es t)
    (hn : (assignEach es X.env).length = n := by rfl) (hst : (assignEach es X.env).findIdx? (·.1) = none := by rfl) : PG X (.Tuple es k pos) (gTup K n t) := by
  subst h
  exact pg_tup hc hs hn hst
/-- z[::-1], z a text -/
def revS (z : Str) : Str := ⟨z.cps.toList.reverse.toArray⟩
def tRevS (te : TE) : TE := fun σ H Q => te σ H fun x H1 => ∃ z, x = .str z ∧ z.length ≤ sizeLine ∧ Q (.str (revS z)) H1
theorem back_idx (n : Nat) : Builtin.Str.strSliceIndices none none (-1) n = (List.range n).reverse := by
  show sliceRange ((n : Int) - 1) (-1) (-1) = _
  rw [PySem.W.krv_sliceRange, PySem.W.krv_range]
theorem back_pick (z : Str) : ((Builtin.Str.strSliceIndices none none (-1) z.length).filterMap (z.cps[·]?)).toArray = z.cps.toList.reverse.toArray := by
  rw [back_idx, List.filterMap_reverse]
  show ((List.range z.cps.size).filterMap (z.cps[·]?)).reverse.toArray = _
  rw [PySem.W.krv_all]
theorem pe_revS {e : Expr} {te : TE} {k : Nat} {p1 p2 p3 pos : Pos} (he : PE X e te) : PE X (.Subscript e (.Slice none none (some (.UnaryOp .USub (.Constant (.int 1) k p1) p2)) p3) pos) (tRevS te) := by
  refine ⟨fun pins s σ H Q I h => ?_⟩
  refine Subscript_ (thn (he.run pins s σ H _ I h) fun v s1 ⟨x, H1, I1, r1, z, ez, hz, q⟩ => ?_)
  subst ez
  obtain ⟨t, rfl⟩ := r1
  have hst : PO X (some (.UnaryOp .USub (.Constant (.int 1) k p1) p2)) (tPart (tUn (rU fun i => .int (-i)) (tC (.int 1)))) := po_some (pe_un un_neg pe_int)
  refine wpAny_Slice (thn (po_none.run pins s1 σ H1 (fun o H2 => o = none ∧ H2 = H1) I1 ⟨rfl, rfl⟩) fun vl s2 ⟨l, H2, I2, pl, el, e2⟩ => ?_)
  subst el e2
  refine thn (po_none.run pins s2 σ H2 (fun o H3 => o = none ∧ H3 = H2) I2 ⟨rfl, rfl⟩) fun vu s3 ⟨u, H3, I3, pu, eu, e3⟩ => ?_
  subst eu e3
  refine thn (hst.run pins s3 σ H3 (fun o H4 => o = some (-1) ∧ H4 = H3) I3 ⟨1, rfl, -1, rfl, rfl, rfl⟩) fun vs s4 ⟨o, H4, I4, ps, eo, e4⟩ => ?_
  subst eo e4
  have I5 : Inv X pins σ H4 { s4 with heap := s4.heap.push { cls := .type "slice", data := .fields #[vl, vu, vs] } } := I4.kept (t' := s4.toks) fun b ob q => Heap.get?_push_of_some _ q
  obtain ⟨l, rfl, el⟩ := IsPart.raw pl
  obtain ⟨u, rfl, eu⟩ := IsPart.raw pu
  obtain ⟨sp, rfl, es⟩ := IsPart.raw ps
  show wpAny (model X.prog X.w) X.A (subscriptTail e (.Slice none none (some (.UnaryOp .USub (.Constant (.int 1) k p1) p2)) p3) (.str z t) (.ref s4.heap.objs.size)) (EP X pins σ Q) X.xe { s4 with heap := s4.heap.push { cls := .type "slice", data := .fields #[partValue l, partValue u, partValue sp] } }
  refine tail_any (ops := [.str z t, .ref s4.heap.objs.size]) (typeIs_str _ _ _) (F.slot_str_getitem.lookup) ?_ (by with_unfolding_all rfl)
  refine wpAny_getItem_str_slice (l := l) (u := u) (st := sp) ⟨_, Heap.get?_push_size _ rfl, rfl, rfl⟩ (by rw [es]; rfl) ?_
  unfold sliceMade slicePicked
  rw [el, eu, es]
  show Made.post (Made.str ⟨((Builtin.Str.strSliceIndices none none (-1) z.length).filterMap (z.cps[·]?)).toArray⟩) (EP X pins σ Q) _
  rw [back_pick]
  refine ⟨?_, .str (revS z), H4, I5.tok _, ⟨_, rfl⟩, q⟩
  show (z.cps.toList.reverse.toArray).size ≤ sizeLine
  rw [List.size_toArray, List.length_reverse, Array.length_toList]
  exact hz
/-! ### enumerate(z), z a text -/
def IteS (z : Str) : It := ⟨fun i _ => i < z.cps.size, fun i H v H' => ∃ T c, v = .ref T ∧ H T = none ∧ z.cps[i]? = some c ∧ H' = upd H T (.tup [.int (i : Nat), .str ⟨#[c]⟩]), fun i _ => z.cps.size ≤ i⟩
theorem strIter_kind (z : Str) : strIterType z = "str_ascii_iterator" ∨ strIterType z = "str_iterator" := by
  unfold strIterType
  split
  · exact .inl rfl
  · exact .inr rfl
theorem draws_str {P : Program} {w : World} {A : Around} (hh : A.handled = none) (it : Addr) (z : Str) (t : Tok) :
    Draws P w A it [it] z.cps.size (fun i v => ∃ c u, z.cps[i]? = some c ∧ v = .str ⟨#[c]⟩ u) (fun i h => h.IsStrIter it (strIterType z) z t i) := by
  rcases strIter_kind z with e | e
  · rw [e]; exact Draws.strAscii hh it z t
  · rw [e]; exact Draws.strWide hh it z t
theorem turn_enumS {P : Program} {w : World} {K : PySem.W.Frag} {elts : List Expr} {kk : Nat} {tpos : Pos} (z : Str) (t : Tok) (e it : Addr) :
    Turn P w K (.Tuple elts kk tpos) (IteS z) [e, it] e (fun i h => (∃ old, IsEnum h e it ((i : Nat) : Int) old) ∧ h.IsStrIter it (strIterType z) z t i ∧ e ≠ it ∧ i ≤ z.cps.size) where
  mem := by simp
  obj := fun i h st b hb => by
    obtain ⟨⟨old, he⟩, ⟨o, ho, hc, hd⟩, _⟩ := st
    rcases (by simpa using hb : b = e ∨ b = it) with q | q
    · rw [q]; exact ⟨_, he, fun v q => nomatch q⟩
    · rw [q]; exact ⟨o, ho, fun v q => by rw [hd] at q; cases q⟩
  keep := fun i h h' st k => let ⟨⟨old, he⟩, ⟨o, ho, r⟩, hne⟩ := st; ⟨⟨old, k e (by simp) _ he⟩, ⟨o, k it (by simp) o ho, r⟩, hne⟩
  item := by
    intro X hP hw hK hc i pins s σ H E I hf st hg
    subst hP hw hK
    obtain ⟨⟨old, he⟩, hit, hne, hle⟩ := st
    have hi : i < z.cps.size := hg
    have hel : e < s.heap.objs.size := Heap.lt_size he
    have hil : it < s.heap.objs.size := by obtain ⟨_, q, _⟩ := hit; exact Heap.lt_size q
    have hh : X.A.in1.handled = none := by simpa using I.ok.hd hc
    refine wpAny_pyNext_enum_itemD (draws_str hh it z t) he hit hi hne (by simpa using hne) fun x h' tk hP ho hit' hT hsz hk => ?_
    obtain ⟨c, u, hcx, rfl⟩ := hP
    refine ⟨_, rfl, wpAny_letOwnedTupleGo_enum (s := { s with heap := h', toks := tk + 1 }) ho fun h2 he' sb => ?_⟩
    have hT2 := (sb.2 _ (Nat.ne_of_gt hel)).trans hT
    have new : ObjOk X.prog X.w (upd H s.heap.objs.size (.tup [.int (i : Nat), .str ⟨#[c]⟩])) h2 s.heap.objs.size (.tup [.int (i : Nat), .str ⟨#[c]⟩]) :=
      ⟨by show 2 ≤ sizeLine; decide, [.int i tk, .str ⟨#[c]⟩ u], .cons ⟨_, rfl⟩ (.cons ⟨_, rfl⟩ .nil), ⟨_, hT2, rfl, _, rfl⟩⟩
    have I1 : Inv X pins σ (upd H s.heap.objs.size (.tup [.int (i : Nat), .str ⟨#[c]⟩])) { s with heap := h2, toks := tk + 1 } :=
      I.turnedNew (ch := [e, it]) (fun b ob hb q => (sb.2 b (fun z => hb (by simp [z]))).trans (hk b ob (fun z => hb (by simp [z])) (fun z => hb (by simp [z])) q)) hf (Nat.le_refl _) new
    obtain ⟨oi, hoi, r⟩ := hit'
    refine ⟨.ref s.heap.objs.size, _, I1, rfl, ⟨_, c, rfl, I.hok.fresh (Nat.le_refl _), hcx, rfl⟩, ⟨⟨.str ⟨#[c]⟩ u, ?_⟩, ⟨oi, (sb.2 it (Ne.symm hne)).trans hoi, r⟩, hne, hi⟩, fun b hb => ?_⟩
    · have e1 : ((i + 1 : Nat) : Int) = (i : Int) + 1 := by omega
      rw [e1]; exact he'
    · have hb' : b < s.heap.objs.size := by
        rcases (by simpa using hb : b = e ∨ b = it) with q | q
        · rw [q]; exact hel
        · rw [q]; exact hil
      rw [upd_ne (Nat.ne_of_lt hb')]
      exact (hf b hb).1
  done := by
    intro X hP hw hK hc i pins s σ H E I hf st hg
    subst hP hw hK
    obtain ⟨⟨old, he⟩, hit, hne, hle⟩ := st
    have hi : i = z.cps.size := Nat.le_antisymm hle hg
    subst hi
    obtain ⟨f0, f1, f2, f3, f4, f5⟩ := hf it (by simp)
    have hh : X.A.in1.handled = none := by simpa using I.ok.hd hc
    exact wpAny_pyNext_enum_endD (draws_str hh it z t) he hit fun h' eb => ⟨rfl, I.turned (t' := s.toks) (fun b o hb q => eb b o hb q) f0 f1 f3 f4 f5⟩
  self := fun A i s Q E st h => let ⟨⟨_, he⟩, _⟩ := st; wpAny_pyIter_enum he h
def iEnumS (ta : TA) : TI := fun σ H R => ta σ H fun vs H1 => ∃ z : Str, vs = [.str z] ∧ R (IteS z) H1
theorem pi_enumS {e : Expr} {ta : TA} {p pos tpos : Pos} {elts : List Expr} {kk : Nat} (hg : Gl X "enumerate") (hm : X.mg "enumerate" = none) (ha : PA X [e] ta) (hs : starEach [e] X.env = [(false, eval e X.env)] := by rfl) :
    PI X (.Tuple elts kk tpos) (.Call (.Name "enumerate" p) [e] [] pos) (iEnumS ta) := by
  refine ⟨fun pins s σ H R I h => ?_⟩
  refine Call_ (ld_blt I hg hm boot_enumerate (PyProof.Rows.callWith_type1 (thn (ha.run pos pins s σ H _ I h) fun us s1 ⟨vs, H1, I1, r1, q1⟩ => ?_) hs rfl))
  obtain ⟨z, rfl, q⟩ := q1
  obtain ⟨u, rfl, t, rfl⟩ := vals1 r1
  refine call_enumerate_str fun h' he hit hsz hk => wpAny_pyIter_enum he ?_
  have I2 : Inv X pins σ H1 { s1 with heap := h' } := I1.kept (t' := s1.toks) hk
  refine ⟨s1.heap.objs.size + 1, [s1.heap.objs.size + 1, s1.heap.objs.size], _, _, H1, rfl, I2, turn_enumS z t (s1.heap.objs.size + 1) s1.heap.objs.size, ⟨⟨.none, he⟩, hit, Nat.succ_ne_self _, Nat.zero_le _⟩, fun b hb => ?_, q⟩
  have hle : s1.heap.objs.size ≤ b := by
    rcases (by simpa using hb : b = s1.heap.objs.size + 1 ∨ b = s1.heap.objs.size) with q | q
    · rw [q]; exact Nat.le_add_right _ _
    · rw [q]; exact Nat.le_refl _
  exact I1.fpOk hle (I1.hok.fresh hle)
theorem walk_enumS {z : Str} : Walk (IteS z) z.cps.size (fun _ => True) (YPair (fun i => some (.int (i : Nat))) (fun i => z.cps[i]?.map fun c => .str ⟨#[c]⟩)) :=
  ⟨fun _ _ hi _ => hi, fun _ _ => Nat.le_refl _, fun i H v H' _ _ ⟨T, c, h1, h2, h3, h4⟩ => ⟨T, .int (i : Nat), .str ⟨#[c]⟩, h1, h2, h4, rfl, by show Option.map _ z.cps[i]? = _; rw [h3]; rfl⟩⟩
end
end Mo

namespace Mo
open PySem PySem.Spec PyProof.Rows L2
/-! ### texts as lists of codes -/
def tx (cs : List Nat) : Str := ⟨cs.toArray⟩
abbrev sg (c : Nat) : V := .str ⟨#[c]⟩
theorem tx_eta (z : Str) : tx z.cps.toList = z := rfl
theorem tx_list (cs : List Nat) : (tx cs).cps.toList = cs := rfl
theorem tx_len (cs : List Nat) : (tx cs).length = cs.length := by show cs.toArray.size = _; simp
theorem tx_size (cs : List Nat) : (tx cs).cps.size = cs.length := by show cs.toArray.size = _; simp
theorem tx_inj {a b : List Nat} (h : tx a = tx b) : a = b := by
  have q := congrArg (fun z : Str => z.cps.toList) h
  exact q
theorem tx_app (a b : List Nat) : tx a ++ tx b = tx (a ++ b) := by
  show (⟨a.toArray ++ b.toArray⟩ : Str) = ⟨(a ++ b).toArray⟩
  simp
theorem tx_app1 (a : List Nat) (c : Nat) : tx a ++ (⟨#[c]⟩ : Str) = tx (a ++ [c]) := tx_app a [c]
theorem tx_get {cs : List Nat} {i : Nat} : (tx cs).cps[i]? = cs[i]? := by
  show cs.toArray[i]? = cs[i]?
  simp
theorem fits5 {n : Nat} (h : n ≤ 100000) : n ≤ sizeLine := Nat.le_trans h (by decide)
theorem fitsLt {n : Nat} (h : n ≤ 100000) : n < sizeLine := Nat.lt_of_le_of_lt h (by decide)
/-- small letters alone -/
def Low (cs : List Nat) : Prop := ∀ c ∈ cs, 97 ≤ c ∧ c ≤ 122
theorem tx_nil : Str.ofString "" = tx [] := by decide +kernel
theorem join_signs : ∀ cs : List Nat, Txt.join (Str.ofString "") (cs.map fun c => (⟨#[c]⟩ : Str)) = tx cs := by
  have key : ∀ cs : List Nat, Str.join (tx []) (cs.map fun c => (⟨#[c]⟩ : Str)) = tx cs := by
    intro cs
    induction cs with
    | nil => rfl
    | cons c r ih =>
      cases r with
      | nil => rfl
      | cons e r =>
        show (⟨#[c]⟩ : Str) ++ tx [] ++ Str.join (tx []) ((e :: r).map fun c => (⟨#[c]⟩ : Str)) = tx (c :: e :: r)
        rw [ih]
        show tx [c] ++ tx [] ++ tx (e :: r) = _
        rw [tx_app, tx_app]
        rfl
  intro cs
  show Builtin.Str.glued _ _ = _
  rw [StrLaws.glued_eq_join, tx_nil]
  exact key cs
/-! ### the pen -/
def penD (c : Addr) (t r : Int) : List (Key × V) := [(.inr "cells", .ref c), (.inr "turn", .int t), (.inr "rest", .int r)]
theorem k_ct : ¬ ((Sum.inr "cells" : Key) = (Sum.inr "turn" : Key)) := by decide +kernel
theorem k_cr : ¬ ((Sum.inr "cells" : Key) = (Sum.inr "rest" : Key)) := by decide +kernel
theorem k_tr : ¬ ((Sum.inr "turn" : Key) = (Sum.inr "rest" : Key)) := by decide +kernel
theorem pen_cells (c : Addr) (t r : Int) : valV (penD c t r) (Sum.inr "cells") = some (.ref c) := valV_pos rfl
theorem pen_turn (c : Addr) (t r : Int) : valV (penD c t r) (Sum.inr "turn") = some (.int t) := by
  unfold penD
  rw [valV_neg k_ct, valV_pos rfl]
theorem pen_rest (c : Addr) (t r : Int) : valV (penD c t r) (Sum.inr "rest") = some (.int r) := by
  unfold penD
  rw [valV_neg k_cr, valV_neg k_tr, valV_pos rfl]
theorem put_turn (c : Addr) (t r u : Int) : putK (penD c t r) (Sum.inr "turn") (.int u) = penD c u r := by
  unfold putK penD
  have k1 := k_ct
  have k2 : ¬ ((Sum.inr "rest" : Key) = (Sum.inr "turn" : Key)) := fun e => k_tr e.symm
  simp only [List.any_cons, List.map_cons, List.map_nil, k1, k2, if_false, if_true, decide_true, decide_false, Bool.true_or, Bool.or_true, Bool.false_or]
theorem put_rest (c : Addr) (t r u : Int) : putK (penD c t r) (Sum.inr "rest") (.int u) = penD c t u := by
  unfold putK penD
  have k1 := k_cr
  have k2 := k_tr
  simp only [List.any_cons, List.map_cons, List.map_nil, k1, k2, if_false, if_true, decide_true, decide_false, Bool.true_or, Bool.or_true, Bool.false_or]
theorem pen_merge (c : Addr) (t r : Int) : mergeK [] (penD c t r) = penD c t r := by
  have k1 := k_ct
  have k2 := k_cr
  have k3 := k_tr
  simp only [mergeK, penD, putK, List.foldl_cons, List.foldl_nil, List.any_nil, List.any_cons, List.nil_append, List.cons_append, k1, k2, k3, decide_false, Bool.or_false, Bool.false_eq_true, if_false]
/-- the pen at d, its cells at c, t draws done -/
def Pen (H : Hp) (d c : Addr) (t : Nat) : Prop := ∃ (ns : List Int) (r : Int), H d = some (.dK (penD c t r)) ∧ H c = some (.lst (ns.map V.int)) ∧ ns.length ≤ 63 ∧ 0 ≤ r
theorem Pen.ne {H : Hp} {d c : Addr} {t : Nat} (h : Pen H d c t) : d ≠ c := by
  obtain ⟨ns, r, h1, h2, _⟩ := h
  exact ne_of h1 h2 (by intro z; cases z)
/-- all but d is as it was -/
def But (d : Addr) (H H' : Hp) : Prop := ∀ b o, b ≠ d → H b = some o → H' b = some o
theorem But.refl (d : Addr) (H : Hp) : But d H H := fun _ _ _ h => h
theorem But.trans {d : Addr} {H H1 H2 : Hp} (a : But d H H1) (b : But d H1 H2) : But d H H2 := fun c o n h => b c o n (a c o n h)
theorem But.same {d : Addr} {H H1 : Hp} (a : Same H H1) : But d H H1 := fun c o _ h => a c o h
theorem But.none {d : Addr} {H H1 : Hp} (a : But d H H1) {p : Addr} (h : H1 p = none) (n : p ≠ d) : H p = none := by
  cases q : H p with
  | none => rfl
  | some o =>
    rw [a p o n q] at h
    cases h
theorem Pen.new {H : Hp} {d c : Addr} {t : Nat} (h : Pen H d c t) {p : Addr} (hp : H p = none) : p ≠ d ∧ p ≠ c := by
  obtain ⟨ns, r, h1, h2, _⟩ := h
  exact ⟨(ne_of_none h1 hp).symm, (ne_of_none h2 hp).symm⟩
theorem Pen.upd {H : Hp} {d c : Addr} {t : Nat} (h : Pen H d c t) {p : Addr} {o : HO} (h1 : p ≠ d) (h2 : p ≠ c) : Pen (upd H p o) d c t := by
  obtain ⟨ns, r, e1, e2, e3⟩ := h
  exact ⟨ns, r, by rw [upd_ne h1.symm]; exact e1, by rw [upd_ne h2.symm]; exact e2, e3⟩
theorem Pen.same {H H' : Hp} {d c : Addr} {t : Nat} (h : Pen H d c t) (s : Same H H') : Pen H' d c t := by
  obtain ⟨ns, r, e1, e2, e3⟩ := h
  exact ⟨ns, r, s _ _ e1, s _ _ e2, e3⟩
theorem same_new {H : Hp} {p : Addr} {o : HO} (h : H p = none) : Same H (L2.upd H p o) := fun b x e => by
  rw [upd_ne (ne_of_none e h)]
  exact e
theorem But.set {d : Addr} {H : Hp} {o : HO} : But d H (L2.upd H d o) := fun b x n e => by
  rw [upd_ne n]
  exact e
theorem But.put {d : Addr} {H H' : Hp} {o : HO} (b : But d H H') {D : Addr} (n : H D = Option.none) : But d H (L2.upd H' D o) := fun x y nx e => by
  rw [upd_ne (ne_of_none e n)]
  exact b x y nx e
theorem Same.put {H H' : Hp} {o : HO} (b : Same H H') {D : Addr} (n : H D = Option.none) : Same H (L2.upd H' D o) := fun x y e => by
  rw [upd_ne (ne_of_none e n)]
  exact b x y e
theorem pen_set {H : Hp} {d c : Addr} {t : Nat} (h : Pen H d c t) {u : Nat} {r : Int} (hr : 0 ≤ r) : Pen (L2.upd H d (.dK (penD c u r))) d c u := by
  have n := h.ne
  obtain ⟨ns, r0, e1, e2, e3, _⟩ := h
  exact ⟨ns, r, upd_same, by rw [upd_ne n.symm]; exact e2, e3, hr⟩
def spDraw : Sp := fun vs H Q _ => ∃ (d c : Addr) (n : Int) (t : Nat), vs = [.ref d, .int n] ∧ Pen H d c t ∧ 0 < n ∧ n < 1073741824 ∧ t < 1073741824 ∧
  ∀ H' k t', But d H H' → Pen H' d c t' → t' ≤ t + 1 → 0 ≤ k → k < n → Q (.int k) H'
def spPick (K : PySem.W.Frag) : Sp := fun vs H Q _ => ∃ (d c l : Addr) (xs : List V) (t : Nat), vs = [.ref d, .ref l] ∧ Pen H d c t ∧ SqL K H l xs ∧ l ≠ d ∧ 0 < xs.length ∧ xs.length < 1073741824 ∧ t < 1073741824 ∧
  ∀ H' v t', But d H H' → Pen H' d c t' → t' ≤ t + 1 → v ∈ xs → Q v H'
end Mo

namespace Mo
open PySem PySem.Spec PyProof.Rows L2
/-! ### normal forms, over lists of codes -/
theorem idx_ne {a c : Nat} (r : List Nat) (h : a ≠ c) : (a :: r).idxOf c = r.idxOf c + 1 := by
  rw [List.idxOf_cons]
  have e : (a == c) = false := by simpa using h
  rw [e]
  rfl
theorem nodup_idx : ∀ (ns : List Nat) (i c : Nat), ns.Nodup → ns[i]? = some c → ns.idxOf c = i
  | [], i, c, _, h => by simp at h
  | a :: r, 0, c, _, h => by
    have e : a = c := by simpa using h
    subst e
    exact List.idxOf_cons_self
  | a :: r, i + 1, c, hn, h => by
    have h2 : r[i]? = some c := by simpa using h
    have hn2 := List.nodup_cons.mp hn
    have ne : a ≠ c := fun e => hn2.1 (e ▸ List.mem_of_getElem? h2)
    rw [idx_ne _ ne, nodup_idx r i c hn2.2 h2]
theorem idx_at {ns : List Nat} {c : Nat} (h : c ∈ ns) : ns[ns.idxOf c]? = some c := by
  have hl := List.idxOf_lt_length_of_mem h
  rw [List.getElem?_eq_getElem hl, List.getElem_idxOf hl]
/-- names.index(sign) -/
theorem index_one {ns : List Nat} (hn : ns.Nodup) {c : Nat} (hc : c ∈ ns) : ∃ rest, Builtin.Str.occurrences (tx ns) ⟨#[c]⟩ 0 (tx ns).length 1 = ns.idxOf c :: rest := by
  have h1 := StrLaws.found_one (tx ns) c
  rw [decide_eq_true (show c ∈ (tx ns).cps.toList from hc)] at h1
  cases e : Builtin.Str.occurrences (tx ns) ⟨#[c]⟩ 0 (tx ns).length 1 with
  | nil => rw [e] at h1; cases h1
  | cons i rest =>
    have h2 := StrLaws.occ_spec (tx ns) ⟨#[c]⟩ 0 (tx ns).length 1 i (by rw [e]; exact List.mem_cons_self)
    have h3 := (StrLaws.subAt_one (tx ns) c i).mp h2
    rw [nodup_idx ns i c hn h3]
    exact ⟨rest, rfl⟩
/-- the code of the sign's place in the order of first occurrence -/
def nfc (cs : List Nat) (c : Nat) : Nat := 97 + (met cs).idxOf c
def nf (cs : List Nat) : List Nat := cs.map (nfc cs)
theorem met_map_key (f : Nat → Nat) : ∀ (cs acc : List Nat), (∀ x y, x ∈ acc ++ cs → y ∈ acc ++ cs → f x = f y → x = y) → (cs.map f).foldl metStep (acc.map f) = (cs.foldl metStep acc).map f
  | [], acc, _ => rfl
  | c :: cs, acc, h => by
    rw [List.map_cons, List.foldl_cons, List.foldl_cons]
    have e : metStep (acc.map f) (f c) = (metStep acc c).map f := by
      unfold metStep
      by_cases q : c ∈ acc
      · rw [if_pos q, if_pos (List.mem_map.mpr ⟨c, q, rfl⟩)]
      · have q2 : ¬ f c ∈ acc.map f := fun z => by
          obtain ⟨x, hx, e⟩ := List.mem_map.mp z
          exact q (h x c (by simp [hx]) (by simp) e ▸ hx)
        rw [if_neg q, if_neg q2, List.map_append]
        rfl
    rw [e]
    refine met_map_key f cs (metStep acc c) fun x y hx hy => h x y ?_ ?_
    · rcases List.mem_append.mp hx with z | z
      · rcases mem_metStep.mp z with z | z
        · simp [z]
        · simp [z]
      · simp [z]
    · rcases List.mem_append.mp hy with z | z
      · rcases mem_metStep.mp z with z | z
        · simp [z]
        · simp [z]
      · simp [z]
theorem met_map {f : Nat → Nat} {cs : List Nat} (h : ∀ x y, x ∈ cs → y ∈ cs → f x = f y → x = y) : met (cs.map f) = (met cs).map f := by
  have q := met_map_key f cs [] (by simpa using h)
  exact q
theorem idx_map {f : Nat → Nat} : ∀ (ns : List Nat) (c : Nat), (∀ x, x ∈ ns → f x = f c → x = c) → (ns.map f).idxOf (f c) = ns.idxOf c
  | [], c, _ => rfl
  | a :: r, c, h => by
    rw [List.map_cons]
    by_cases e : a = c
    · subst e
      rw [List.idxOf_cons_self, List.idxOf_cons_self]
    · have e2 : f a ≠ f c := fun z => e (h a List.mem_cons_self z)
      rw [idx_ne _ e, idx_ne _ e2, idx_map r c fun x hx => h x (List.mem_cons_of_mem _ hx)]
theorem nf_map {f : Nat → Nat} {cs : List Nat} (h : ∀ x y, x ∈ cs → y ∈ cs → f x = f y → x = y) : nf (cs.map f) = nf cs := by
  unfold nf
  rw [List.map_map]
  refine List.map_congr_left fun c hc => ?_
  show nfc (cs.map f) (f c) = nfc cs c
  unfold nfc
  rw [met_map h, idx_map _ _ fun x hx e => h x c (mem_met.mp hx) hc e]
theorem nfc_inj {cs : List Nat} {x y : Nat} (hx : x ∈ cs) (hy : y ∈ cs) (e : nfc cs x = nfc cs y) : x = y := by
  unfold nfc at e
  have h1 := idx_at (mem_met.mpr hx)
  have h2 := idx_at (mem_met.mpr hy)
  rw [show (met cs).idxOf x = (met cs).idxOf y by omega] at h1
  rw [h1] at h2
  exact Option.some.inj h2
theorem nf_nf (cs : List Nat) : nf (nf cs) = nf cs := nf_map fun _ _ hx hy e => nfc_inj hx hy e
theorem nfc_lt {cs : List Nat} {c : Nat} (h : c ∈ cs) : (met cs).idxOf c < (met cs).length := List.idxOf_lt_length_of_mem (mem_met.mpr h)
/-- a pattern, as its codes -/
structure Pat (cs : List Nat) : Prop where
  len : cs.length ≤ 40
  low : Low cs
  few : (met cs).length ≤ 8
theorem Pat.nil : Pat [] := ⟨by decide, fun c h => by simp at h, by decide⟩
theorem Pat.map {f : Nat → Nat} {cs : List Nat} (p : Pat cs) (h : ∀ x y, x ∈ cs → y ∈ cs → f x = f y → x = y) (hl : ∀ c ∈ cs, 97 ≤ f c ∧ f c ≤ 122) : Pat (cs.map f) :=
  ⟨by rw [List.length_map]; exact p.len, fun x hx => by obtain ⟨c, hc, rfl⟩ := List.mem_map.mp hx; exact hl c hc, by rw [met_map h, List.length_map]; exact p.few⟩
theorem Pat.nf {cs : List Nat} (p : Pat cs) : Pat (nf cs) := p.map (fun _ _ hx hy e => nfc_inj hx hy e) fun c hc => by
  have h1 := nfc_lt hc
  have h2 := p.few
  unfold nfc
  omega
theorem repr_room {cs : List Nat} (h : Low cs) (hl : cs.length ≤ 1000) : (reprText (tx cs)).length ≤ sizeLine := by
  have h1 := StrLaws.reprText_len (tx cs) (fun c hc => by
    have := h c hc
    have h3 : (122 : Nat) < 16 ^ 8 := by decide
    omega)
  rw [tx_len] at h1
  exact fits5 (by omega)
theorem map_take_snoc {α β : Type} {f : α → β} {cs : List α} {i : Nat} {c : α} (h : cs[i]? = some c) : (cs.take (i + 1)).map f = (cs.take i).map f ++ [f c] := by
  rw [List.take_add_one, h, List.map_append]
  rfl
theorem met_take_snoc {cs : List Nat} {i c : Nat} (h : cs[i]? = some c) : met (cs.take (i + 1)) = metStep (met (cs.take i)) c := by
  rw [List.take_add_one, h]
  exact met_snoc _ _
end Mo

namespace Mo
open PySem PySem.Spec PyProof.Rows L2
/-! ### an error that is kept behind its except suite -/
/-- at a: an error of the class cls, its own dict d -/
def exV (a : Addr) (cls : Value) (d : Option Addr) : HO := .ext fun h => ∃ oe vs, h.get? a = some oe ∧ Zc cls d oe ∧ oe.data = .fields vs
section
variable {X : Cx} {pins : List (Addr × Obj)} {σ : L2.St} {H : Hp} {s : Shared}
/-- an object that was not there at the entry is tracked from now on -/
theorem track {a : Addr} {oe : Obj} {vs : Array Value} {o : HO} (I : Inv X pins σ H s) (ha : s.heap.get? a = some oe) (hd : oe.data = .fields vs) (na : H a = none) (nL : a ≠ X.env.locals)
    (n0 : ∀ u, X.s_0.heap.get? a = some u → a ∈ X.ex) (np : ∀ p ∈ X.pn ++ pins, p.1 ≠ a) (new : ObjOk X.prog X.w (upd H a o) s.heap a o) : Inv X pins σ (upd H a o) s := by
  have ne : ∀ b u, H b = some u → b ≠ a := fun b u e => ne_of_none e na
  refine ⟨I.ok, I.os, I.bare, ⟨I.base.keep, I.base.slot, fun b u q n hx => ?_, I.base.there, fun b xs e => ?_, fun b u w e => ?_, fun b ps e => ?_⟩, I.loc, I.cell, ?_, fun x c e => ?_, fun p hp => ?_, fun b u e => ?_, I.len⟩
  · rw [upd_ne (fun z : b = a => hx (by rw [z]; exact n0 u (by rw [← z]; exact q)))]
    exact I.base.free b u q n hx
  · have q := I.base.tups b xs e
    rw [upd_ne (ne _ _ q)]
    exact q
  · have q := I.base.frzs b u w e
    rw [upd_ne (ne _ _ q)]
    exact q
  · obtain ⟨more, q⟩ := I.base.tbls b ps e
    exact ⟨more, by rw [upd_ne (ne _ _ q)]; exact q⟩
  · rw [upd_ne nL.symm]
    exact I.free
  · obtain ⟨v, oc, hoc, hcc⟩ := I.cell x c e
    have nca : c ≠ a := fun z => by
      rw [z, ha] at hoc
      cases hoc
      rw [hd] at hcc
      cases hcc
    rw [upd_ne nca]
    exact I.freeC x c e
  · obtain ⟨h1, h2, h3⟩ := I.pin p hp
    exact ⟨h1, by rw [upd_ne (np p hp)]; exact h2, h3⟩
  · by_cases hb : b = a
    · subst hb
      rw [upd_same] at e
      cases e
      exact new
    · rw [upd_ne hb] at e
      refine (I.hok b u e).stay (fun c v _ q => q) (fun c q => ?_) fun c xs q => ?_
      · rw [upd_ne (ne _ _ q)]
        exact q
      · rw [upd_ne (ne _ _ q)]
        exact q
theorem exV_ok {P : Program} {w : World} {H : Hp} {h : Heap} {a : Addr} {cls : Value} {d : Option Addr} {oe : Obj} {vs : Array Value} (e : h.get? a = some oe) (z : Zc cls d oe) (hd : oe.data = .fields vs) : ObjOk P w H h a (exV a cls d) :=
  ⟨⟨oe, vs, e, z, hd⟩, ⟨oe, e⟩, fun h1 h2 ⟨o1, v1, e1, z1, d1⟩ k => ⟨o1, v1, k _ e1, z1, d1⟩⟩
theorem exV_at {a : Addr} {cls : Value} {d : Option Addr} (I : Inv X pins σ H s) (e : H a = some (exV a cls d)) : ∃ oe vs, s.heap.get? a = some oe ∧ Zc cls d oe ∧ oe.data = .fields vs := (I.hok a _ e).1
end
/-- what 'except x as n: kept = n' wishes of an error of the body: n in slot i, kept in slot j; behind it the error is tracked -/
def wKeep (K : PySem.W.Frag) (c : Value) (i j : Nat) (Wout : WX) (D : Ends) : WX := fun cls d σ H =>
  ∃ b, PySem.W.exmOne K cls c = some b ∧ (b = true → ∀ a, H a = none → D.nx (((σ.set i (some (.ref a))).set j (some (.ref a))).set i none) (upd H a (exV a cls d))) ∧ (b = false → Wout cls d σ H)
section
variable {X : Cx} {x n kx : Str} {c : Value} {i j : Nat} {body : List Stmt} {np np2 kp ap pos pos' : Pos} {tb : WX → TS} {Wout : WX}
theorem ps_try_keep (hs : X.stack = X.env :: X.outer) (hf : X.env.frame = some X.env.locals) (hN : X.N.Nodup) (hi : X.N[i]? = some n) (hj : X.N[j]? = some kx) (hln : X.env.kindOf n = some .local) (hlk : X.env.kindOf kx = some .local) (hc : Names X x c) (tk : Takes X Wout)
    (hb : ∀ (W : WX) (pn : List (Addr × Obj)) (xe : Value → Shared → Prop), Takes (X.tr pn xe) W → PassesOwn (model X.prog X.w) X.A X.env xe → PSs (X.tr pn xe) body (tb W))
    (hsu : ∀ (a : Addr) (oe : Obj) (pn : List (Addr × Obj)), PSs (X.suite a ((a, oe) :: pn)) [.Assign [.Name kx kp] (.Name n np2) ap] (tAsg (tVar i) (gName j))) :
    PS X (.Try body [.ExceptHandler (some (.Name x np)) (some n) [.Assign [.Name kx kp] (.Name n np2) ap] pos'] [] [] pos) (fun D σ H => tb (wKeep X.K c i j Wout D) D σ H) := by
  refine ⟨fun pins s σ H D I h => ?_⟩
  have ok := I.ok
  have hfr : X.A.frames = some (X.env :: X.outer) := ok.frames.trans (by rw [hs])
  refine wpAny_Try_except (wpAny_mono ((hb (wKeep X.K c i j Wout D) (X.pn ++ pins) (fun e s₁ => wpAny (model X.prog X.w) X.A (noteFrame e X.env) (fun _ s₂ => wpAny (model X.prog X.w) X.A (setFlight e none) (fun _ s₃ =>
    wpAny (model X.prog X.w) X.A (handleBy e X.env [.ExceptHandler (some (.Name x np)) (some n) [.Assign [.Name kx kp] (.Name n np2) ap] pos']) (SP X pins D) X.xe s₃) X.xe s₂) X.xe s₁) (fun u s' xx => ?_) PassesOwn.looking).run [] s σ H D (I.toTry _) h) (fun f s1 hsp => ?_) (fun e s1 he => he))
  · obtain ⟨a, B, sI, pins', σ', H', cls, d, rfl, J', nb, up, sky, na, os, ag, b, hb1, hyes, hno⟩ := xx
    have J : Inv X pins σ' H' sI := J'.ofTry ok
    have sky' : Sky B (X.env :: X.outer) a (Zc cls d) X.env.locals s'.heap := hs ▸ sky
    show wpAny (model X.prog X.w) X.A (noteFrame (.ref a) X.env) _ _ _
    refine Sky.land Zc.steady hfr hf sky' fun h3 fl3 up3 => ?_
    have J3 : Inv X pins σ' H' { s' with heap := h3 } := J.landed nb fl3.1 (up.trans up3) os ag
    obtain ⟨oe3, vs3, he3, hz3, hd3⟩ := fl3.there
    have nfr : a ∉ frs (X.env :: X.outer) := fun hm => by
      obtain ⟨_, o', e', hnf⟩ := fl3.2.2.1.mem hm
      rw [he3] at e'
      cases e'
      exact hnf _ hd3
    have nL : a ≠ X.env.locals := fun z => nfr (List.mem_filterMap.mpr ⟨X.env, List.mem_cons_self, hf.trans (congrArg some z.symm)⟩)
    have nF : a ∉ X.fs := fun hm => by
      obtain ⟨e, he, q⟩ := List.mem_filterMap.mp hm
      exact nfr (List.mem_filterMap.mpr ⟨e, List.mem_cons_of_mem _ he, q⟩)
    have nB : B.get? a = none := fl3.2.1
    have nI : sI.heap.get? a = none := by
      cases q : sI.heap.get? a with
      | none => rfl
      | some o =>
        have z := nb a o q (by show a ∉ frs X.stack; rw [hs]; exact nfr)
        rw [nB] at z
        cases z
    have n0 : ∀ u, X.s_0.heap.get? a = some u → a ∈ X.ex := fun u q => by
      by_cases hx : a ∈ X.ex
      · exact hx
      · obtain ⟨o', z⟩ := J.base.there a u q hx
        rw [nI] at z
        cases z
    have npp : ∀ p ∈ X.pn ++ pins, p.1 ≠ a := fun p hp z => by
      have q := (J.pin p hp).1
      rw [z, nI] at q
      cases q
    have S3 := J3.suite he3 hd3 na nL nF
    refine wpAny_handleBy_cons (codeAny_handlers_test ?_) (by intro q; cases q)
    have LT : PySem.W.Looks (model X.prog X.w) h3 (typeOf (.ref a)) cls := fun A Q E s k q => wpAny_typeOf_ref (k _ _ he3) (hz3.1 ▸ q)
    have LM := PySem.W.exm_one (M := model X.prog X.w) J3.kIn LT hb1
    have test : ∀ {Q : Value → Shared → Prop} {E : Value → Shared → Prop}, Q c { s' with heap := h3 } → wpAny (model X.prog X.w) (X.A.mark (some (.ref a))) (eval (.Name x np) X.env) Q E { s' with heap := h3 } := fun {Q E} q => by
      rcases hc with ⟨hg, hdbg, hm | ⟨hm, hv, hnn⟩⟩
      · exact ld_glob (X := X.suite a ((a, oe3) :: (X.pn ++ pins))) S3 hg hm q hdbg
      · exact ld_blt (X := X.suite a ((a, oe3) :: (X.pn ++ pins))) S3 hg hm hv q hnn hdbg
    refine test (LM.here ?_)
    cases b with
    | true =>
      refine codeAny_handlers_suite_as (HandSPX.lands_againZ fl3 fun h4 fl4 up4 => ?_)
      have J4 : Inv X pins σ' H' { s' with heap := h4 } := J.landed nb fl4.1 ((up.trans up3).trans up4) os ag
      obtain ⟨oe4, vs4, he4, hz4, hd4⟩ := fl4.there
      refine store_ok (X := X.suite a ((a, oe4) :: (X.pn ++ pins))) (v := .ref a) (J4.suite he4 hd4 na nL nF) hN hi (.inl hln) rfl (fun s5 S5 => ?_) (.inr hln)
      have lenσ : i < σ'.length := by
        rw [J.len]
        exact (List.getElem?_eq_some_iff.mp hi).1
      have want : tAsg (tVar i) (gName j) { nx := fun σ6 H6 => σ6 = (σ'.set i (some (.ref a))).set j (some (.ref a)) ∧ H6 = H', rt := fun _ _ => False, bk := fun _ _ => False, ct := fun _ _ => False } (σ'.set i (some (.ref a))) H' :=
        ⟨.ref a, by rw [List.getElem?_set_self lenσ], rfl, rfl⟩
      refine wpAny_mono ((hsu a oe4 (X.pn ++ pins)).run [] s5 _ H' _ S5 want) (fun f s6 hsp => ?_) (fun _ _ z => False.elim z)
      cases f with
      | next =>
        obtain ⟨σ6, H6, S6, rfl, rfl⟩ := hsp
        obtain ⟨he6, _⟩ := S6.pin (a, oe4) (List.mem_append_left _ List.mem_cons_self)
        have J6 : Inv X pins _ H6 s6 := S6.unsuite ok
        have J7 := track J6 he6 hd4 na nL n0 npp (exV_ok he6 hz4 hd4)
        exact gone_ok J7 hN hi hln fun s7 J8 => ⟨_, _, J8, hyes rfl a na⟩
      | brk => exact hsp.elim fun _ z => z.elim fun _ z => z.2.elim
      | cont => exact hsp.elim fun _ z => z.elim fun _ z => z.2.elim
      | ret u => exact hsp.elim fun _ z => z.elim fun _ z => z.elim fun _ z => z.2.2.elim
    | false =>
      show wpAny _ X.A (handleBy (.ref a) X.env []) _ _ _
      refine wpAny_handleBy_nil ?_
      obtain ⟨k1, k2, k3, oe, vs, T, oT, ts', he, hz, hd, h1, hr⟩ := id fl3
      unfold PySem.passOn
      refine wpAny_bind (wpAny_field he hd h1 ?_)
      rw [if_neg (show ¬ ((Value.ref T == Value.none) = true) from by simp)]
      have fin : wpAny (model X.prog X.w) X.A (setFlight (.ref a) X.env.frame) (fun _ s4 => wpAny (model X.prog X.w) X.A (throw (.ref a) : Sem Flow) (SP X pins D) X.xe s4) X.xe { s' with heap := h3 } := by
        rw [hf]
        refine HandSPX.setFlight_upZ fl3 fun h4 hh4 up4 => wpAny_throw (tk _ _ ⟨a, B, sI, pins, σ', H', cls, d, rfl, J, nb, (up.trans up3).trans up4, .inr (.inr (hs ▸ hh4)), na, os, ag, hno rfl⟩)
      first
        | exact wpAny_bind (wpAny_pure (wpAny_bind fin))
        | exact wpAny_bind fin
  · cases f with
    | next => exact hsp.elim fun σ1 z => z.elim fun H1 z => wpAny_execs_nil ⟨σ1, H1, z.1.ofTry ok, z.2⟩
    | brk => exact hsp.elim fun σ1 z => z.elim fun H1 z => ⟨σ1, H1, z.1.ofTry ok, z.2⟩
    | cont => exact hsp.elim fun σ1 z => z.elim fun H1 z => ⟨σ1, H1, z.1.ofTry ok, z.2⟩
    | ret u => exact hsp.elim fun v z => z.elim fun σ1 z => z.elim fun H1 z => ⟨v, σ1, H1, z.1.ofTry ok, z.2⟩
end
end Mo

/-! ### isinstance and the fields of an error that has its own dict -/
namespace Mo
open PySem PySem.W PySem.Spec PySem.Calls PyProof.Rows
section
variable {prog : Program} {w : World} {A : Around} {E : Value → Shared → Prop} {s : Shared} {K : Frag} {x D : Addr} {ox oy : Obj}
theorem err_class {Q : Option Value → Shared → Prop} (C : L2.ExcC K D) (X : K.In s.heap) (I : PySem.W.InstAt s.heap x ox D (some oy)) (h : Q (some (.ref D)) { s with toks := s.toks + 1 }) : wpAny (model prog w) A (getAttr? (.ref x) "__class__") Q E s := by
  have hf : findObj K D (some oy) "__class__" = some (.bind (.builtin "getset_descriptor.__get__") (.builtin "object.__class__")) := findObj_data (by obtain ⟨cd, hc, _⟩ := any_some C.hd; rw [hc]; rfl) C.ha C.hn C.ht
  obtain ⟨hp, g, d, t, os⟩ := s
  have a0 := I.type (M := model prog w)
  have a1 := looks_findIn (M := model prog w) X C.hg
  have a2 := looks_findIn (M := model prog w) X C.hk
  have a3 := looks_find (M := model prog w) X I hf
  have sub : Looks (model prog w) hp (isInstance (.ref x) (.type "BaseException")) true := a0.andThen (looks_subIn X C.hs)
  have y2 : (Value.builtin "BaseException.__getattribute__" == Value.builtin "object.__getattribute__") = false := by decide +kernel
  have y1 : (onTheHeap (Value.ref D) && Value.builtin "BaseException.__getattribute__" == Value.builtin "object.__getattribute__") = false := by rw [y2]; rfl
  have y0 : (false && onTheHeap (Value.builtin "BaseException.__getattribute__")) = false := rfl
  unfold getAttr? getAttrBy? getAttrBy
  refine wpAny_bind (wpAny_mkText (wpAny_bind (wpAny_attempt (wpAny_holding (wpAny_bind (a0.at (wpAny_bind (a1.at ?_))))))))
  show wpAny _ _ (if (onTheHeap (Value.ref D) && Value.builtin "BaseException.__getattribute__" == Value.builtin "object.__getattribute__") = true then _ else _) _ _ _
  rw [y1, if_neg Bool.false_ne_true]
  unfold getAttrByItsOwn hookBefore
  refine wpAny_bind (by
    rw [if_pos (show onTheHeap (Value.ref D) = true from rfl)]
    refine a2.at (wpAny_bind (wpAny_attempt (wpAny_holding ?_)))
    unfold callGetattribute
    rw [y0, if_neg Bool.false_ne_true]
    unfold boundAndCalled
    rw [PySem.F.excAttr_ValueError.ga.bind (.ref x)]
    refine wpAny_bind (wpAny_pure (by
      show wpAny _ _ (call (.builtin "BaseException.__getattribute__") [.ref x, .str "__class__" t]) _ _ _
      refine wpAny_call (codeAny_call_builtin PySem.F.excAttr_ValueError.ga.plain PySem.F.entry_bexc_ga (@check_slot (model prog w) _ _ ⟨hp, g, d, t + 1, os⟩ "BaseException.__getattribute__" "BaseException" "__getattribute__" (.ref x) [.str "__class__" t] [] _ (by decide +kernel) (by decide +kernel) sub (PySem.F.args_bexc_ga (.ref x) (.str "__class__" t)) ?_))
      unfold Builtin.«object.__getattribute__»
      refine wpAny_bind (wpAny_of_eq (a := ((Value.ref x : Value), [Value.str "__class__" t])) (by first | rfl | (simp only [slotArgs]; rfl)) (wpAny_bind (wpAny_pure (wpAny_bind (a0.at (wpAny_bind (a3.at ?_)))))))
      show wpAny _ _ (holding [Value.builtin "object.__class__"] (call (.builtin "getset_descriptor.__get__") [.builtin "object.__class__", .ref x, .ref D]) >>= ret) _ _ _
      refine wpAny_bind (wpAny_holding (wpAny_call (class_get (s := ⟨hp, g, d, t + 1, os⟩) (ox := ox) (od := some oy) X I C.hm (wpAny_pure ?_))))
      show wpAny _ _ (handedOut (.ref D)) _ _ _
      rw [handedOut_of (v := .ref D) rfl]
      first | exact wpAny_pure (wpAny_pure h) | exact wpAny_pure h | exact wpAny_pure (wpAny_bind (wpAny_pure (wpAny_pure h))))))
theorem err_kit (C : L2.ExcC K D) : KitX K (.ref x) (.ref D) (fun h => ∃ ox oy, PySem.W.InstAt h x ox D (some oy)) where
  ty := fun _ _ _ ⟨_, _, I⟩ => I.type
  it := fun M h X _ => by
    obtain ⟨cd, hc, _⟩ := any_some C.hd
    unfold clsIn at hc
    split at hc
    · rename_i c' d' cd' sl' ho
      intro A' Q' E' s' k q
      unfold isType loadHead
      exact wpAny_bind (wpAny_loadPart (k _ _ (X _ _ ho)) (wpAny_pure q))
    · cases hc
  ne := fun h tp dd its n sl X htp => by
    obtain ⟨cd, hc, _⟩ := any_some C.hd
    refine Bool.eq_false_iff.mpr fun q => ?_
    obtain rfl : D = tp := Value.ref.inj (beq_iff_eq.mp q)
    unfold clsIn at hc
    split at hc
    · rename_i c' d' cd' sl' ho
      cases (X _ _ ho).symm.trans htp
    · cases hc
  ca := fun X ⟨_, _, I⟩ k => err_class C X I k
end
end Mo
namespace Mo
open PySem PySem.Spec PyProof.Rows L2
section
variable {X : Cx} {pins : List (Addr × Obj)} {σ : L2.St} {H : Hp} {s : Shared}
/-- an error at a, its class at C, its dict at dd with the fields fs -/
def ErrAt (H : Hp) (a C dd : Addr) (fs : List (Str × V)) : Prop := H a = some (exV a (.ref C) (some dd)) ∧ H dd = some (.xd fs)
theorem ErrAt.inst {a C dd : Addr} {fs : List (Str × V)} (e : ErrAt H a C dd fs) (I : Inv X pins σ H s) : ∃ ox od mA, PySem.W.InstAt s.heap a ox C (some od) ∧ s.heap.Ns1 dd mA ∧ (∀ f, RelO (fs.lookup f) (mA f)) ∧ ∀ f, PySem.W.lookIn f od = some (mA f) := by
  obtain ⟨oe, vs, ha, hz, hd⟩ := exV_at I e.1
  obtain ⟨mA, hns, hr⟩ := (show ObjOk X.prog X.w H s.heap dd (.xd fs) from I.hok dd _ e.2)
  obtain ⟨od, ho, hl⟩ := lookIn_ns hns
  exact ⟨oe, od, mA, ⟨ha, hz.1, by unfold PySem.W.notCls; rw [hd] <;> rfl, by rw [hz.2]; exact ho⟩, hns, hr, hl⟩
/-- isinstance(err, c) -/
def rIsX (K : PySem.W.Frag) : List V → Hp → VK → Prop := fun xs H Q => ∃ (a C dd : Addr) (fs : List (Str × V)) (c : V) (u : Value) (b : Bool), xs = [.ref a, c] ∧ ErrAt H a C dd fs ∧ ExcC K C ∧ ClsV c u ∧ PySem.W.kitOne K (.ref C) u = some b ∧ Q (.bl b) H
theorem cr_isX : CallR X (.builtin "isinstance") (rIsX X.K) := by
  intro pins s σ H xs us Q I r h
  obtain ⟨a, C, dd, fs, c, u, b, rfl, ea, T, k, e, q⟩ := h
  obtain ⟨u1, u2, rfl, r1, r2⟩ := vals2 r
  cases r1
  obtain rfl := k.eq r2
  obtain ⟨ox, od, mA, J, _⟩ := ea.inst I
  exact PySem.W.kia_one (err_kit T) I.kIn ⟨ox, od, J⟩ e (fun z => nomatch z) fun tk => ⟨.bl b, H, I.tok tk, rfl, q⟩
/-- isinstance(err, (c1, c2, ..)) -/
def rIsXT (K : PySem.W.Frag) : List V → Hp → VK → Prop := fun xs H Q => ∃ (a C dd tp : Addr) (fs : List (Str × V)) (cs : List V) (us : List Value) (b : Bool), xs = [.ref a, .ref tp] ∧ ErrAt H a C dd fs ∧ ExcC K C ∧ H tp = some (.tup cs) ∧ Paired ClsV cs us ∧ PySem.W.kitAny K (.ref C) us = some b ∧ Q (.bl b) H
theorem cr_isXT : CallR X (.builtin "isinstance") (rIsXT X.K) := by
  intro pins s σ H xs us Q I r h
  obtain ⟨a, C, dd, tp, fs, cs, ws, b, rfl, ea, T, hT, k, e, q⟩ := h
  obtain ⟨u1, u2, rfl, r1, r2⟩ := vals2 r
  cases r1
  cases (show u2 = Value.ref tp from r2)
  obtain ⟨ox, od, mA, J, _⟩ := ea.inst I
  obtain ⟨_, its, rv, ⟨oc, od', dt, sl⟩, h1, h2, n, h3⟩ := (show ObjOk X.prog X.w H s.heap tp (.tup cs) from I.hok tp _ hT)
  obtain rfl := ClsV.all k rv
  simp only at h2 h3
  subst h2 h3
  exact PySem.W.kia_tup (err_kit T) I.kIn ⟨ox, od, J⟩ h1 e (fun z => nomatch z) fun tk => ⟨.bl b, H, I.tok tk, rfl, q⟩
/-- err.f -/
def tXv (K : PySem.W.Frag) (f : Str) (te : TE) : TE := fun σ H Q => te σ H fun x H1 => ∃ (a C dd : Addr) (fs : List (Str × V)) (v : V), x = .ref a ∧ ErrAt H1 a C dd fs ∧ XfC K C ∧ PySem.W.findIn K (.ref C) f = some none ∧ fs.lookup f = some v ∧ Q v H1
theorem pe_xv {e : Expr} {te : TE} {pos : Pos} {f : Str} (he : PE X e te) (hb : attributeBase e f X.env (eval e X.env) = eval e X.env := by rfl) : PE X (.Attribute e f pos) (tXv X.K f te) := by
  refine ⟨fun pins s σ H Q I h => ?_⟩
  refine attr_of hb (thn (he.run pins s σ H _ I h) fun u s1 hh => ?_)
  obtain ⟨x, H1, I1, rx, a, C, dd, fs, v, rfl, ea, T, hno, l, q⟩ := hh
  obtain rfl : u = Value.ref a := rx
  obtain ⟨ox, od, mA, J, hns, hr, hl⟩ := ea.inst I1
  obtain ⟨u, hu, ru⟩ := RelO.some_of (v := v) (o := mA f) (by rw [← l]; exact hr f)
  exact HandSPX.exc_get I1.kIn J T.ga T.gg T.exC (PySem.W.findObj_own T.hdC hno rfl (by rw [hl, hu])) (handed_of ru) ⟨v, H1, I1.tok _, ru, q⟩
end
end Mo

/-! ### defs called where no repr is under way: then repr of lists, tuples and dicts is known to the letter -/
namespace Mo
open PySem PySem.Spec PyProof.Rows L2
/-- as FnOk, for callers under no guard -/
structure FnG (P : Program) (w : World) (K : PySem.W.Frag) (mg : Str → Option Value) (base : Heap) (CX : CXT) (k : Nat) (f : Addr) (fd : FuncData) (ps : List Str) (sp : Sp) : Prop where
  len : ∀ vs H Q E, sp vs H Q E → vs.length = ps.length
  run : ∀ (A : Around) (outer : List Env) (s : Shared) (H : Hp) (args : Args) (us : List Value) (vs : List V) (Q : VK) (E : XK), Room k A → A.guards = some [] → Env0 P w K mg base A outer s H → BindsTo s fd args (ps.zip us) → Vals vs us → sp vs H Q E →
    codeAny (model P w) A (.call (.ref f) args) (CR CX outer P w H s Q E) s
section
variable {P : Program} {w : World} {K : PySem.W.Frag} {mg : Str → Option Value} {base : Heap} {CX : CXT} {k : Nat} {f : Addr} {fd : FuncData} {ps : List Str} {sp : Sp}
theorem FnG.of (F : FnOk P w K mg base CX k f fd ps sp) : FnG P w K mg base CX k f fd ps sp := ⟨F.len, fun A o s H a us vs Q E hr _ => F.run A o s H a us vs Q E hr⟩
/-- a def by its body, its guards told -/
theorem okG_of {x qual : Str} {st : Stmt} {N : List Str} (F : Fun K x qual st f fd) (S : FnScope N ps (defScope st)) (len : ∀ vs H Q E, sp vs H Q E → vs.length = ps.length)
    (hbody : ∀ (cdv : Value) (A : Around) (outer : List Env) (s : Shared) (H : Hp) (vs : List V) (Q : VK) (E : XK), Room k (A.deeper (envOfC qual (defScope st) s.heap.objs.size f cdv)) → A.guards = some [] → sp vs H Q E →
      ∃ t, PSs (cxOf CX P w K mg base N qual (defScope st) f cdv A outer s H E) (defBody st) t ∧ t { nx := fun _ H' => Q .non H', rt := Q } (start N vs) H) : FnG P w K mg base CX (k + 1) f fd ps sp := by
  obtain ⟨oc, od, kV, doc, pm, an, cdv, ct, osl, rfl, lk, hcd⟩ := F.ex
  refine ⟨len, fun A outer s H args us vs Q E hr hg e0 hb r hsp => ?_⟩
  have kept : ∀ b o, base.get? b = some o → s.heap.get? b = some o := fun b o e => (e0.bs b o e).1
  have KX : K.In s.heap := e0.mod.kin.keeps kept
  have kinds : ∀ y ∈ ps.zip us, (defScope st).names.lookup y.1 = some .local ∨ ((defScope st).names.lookup y.1 = some .cell ∧ ((cellsFrom (s.heap.objs.size + 1) (defScope st).names []).lookup y.1).isSome = true) := fun y hy =>
    (S.par y.1 (List.of_mem_zip (a := y.1) (b := y.2) hy).1).elim .inl fun q => .inr ⟨q, PySem.W.cellsFrom_some _ _ _ (.inl q)⟩
  refine codeAny_call_function hr.depth (KX _ _ lk) rfl S.co S.gen rfl (PySem.W.codeRec_of KX hcd) (hb _ _ _ _ (wpAny_newFunctionEnv_cells S.kind kinds fun env he s1 x => ?_))
  subst he
  refine ⟨(e0.mod.nolimit.keeps kept).keeps x.toInCall.keep, codeAny_func ?_⟩
  obtain ⟨t, ht, hq⟩ := hbody cdv A outer s H vs Q E (hr.deeper _) hg hsp
  have I : Inv (cxOf CX P w K mg base N qual (defScope st) f cdv A outer s H E) [] (start N vs) H s1 := inv_start S hr.hd e0 (len _ _ _ _ hsp) r x
  refine wpAny_mono (ht.run [] s1 (start N vs) H _ I hq) (fun fl s' hs => ?_) fun e s' hs => hs
  cases fl with
  | ret u => exact hs.elim fun v z => z.elim fun σ' z => z.elim fun H' z => ⟨v, H', z.1.os, z.1.bare, z.1.base, z.1.hok, z.2.1, z.2.2⟩
  | next => exact hs.elim fun σ' z => z.elim fun H' z => ⟨V.non, H', z.1.os, z.1.bare, z.1.base, z.1.hok, rfl, z.2⟩
  | brk => exact hs.elim fun _ z => z.elim fun _ z => z.2.elim
  | cont => exact hs.elim fun _ z => z.elim fun _ z => z.2.elim
/-- a def that raises nothing -/
theorem okG {x qual : Str} {st : Stmt} {N : List Str} (F : Fun K x qual st f fd) (S : FnScope N ps (defScope st)) (len : ∀ vs H Q E, sp vs H Q E → vs.length = ps.length)
    (hbody : ∀ (cdv : Value) (A : Around) (outer : List Env) (s : Shared) (H : Hp) (vs : List V) (Q : VK) (E : XK), Room k (A.deeper (envOfC qual (defScope st) s.heap.objs.size f cdv)) → A.guards = some [] → sp vs H Q E →
      ∃ t, PSs (cxOf CX0 P w K mg base N qual (defScope st) f cdv A outer s H E).nox (defBody st) t ∧ t { nx := fun _ H' => Q .non H', rt := Q } (start N vs) H) : FnG P w K mg base CX0 (k + 1) f fd ps sp :=
  okG_of F S len fun cdv A outer s H vs Q E hr hg hsp => (hbody cdv A outer s H vs Q E hr hg hsp).elim fun t z => ⟨t, z.1.nox, z.2⟩
end
section
variable {X : Cx} {CX : CXT} {x : Str} {f : Addr} {k : Nat} {fd : FuncData} {ps : List Str} {sp : Sp} {ds : List Value} {dvs : List V} {E : XK} {e : Expr} {es : List Expr} {t : TA} {p pos : Pos}
theorem run_G {pins : List (Addr × Obj)} {σ : L2.St} {H : Hp} {s : Shared} {Q : VK} {us : List Value} {vs : List V} (F : FnG X.prog X.w X.K X.mg X.base CX k f fd ps sp) (hr : Room k X.A) (hu : X.A.guards = some []) (hb : Binds X.K fd ps ds) (hd : Vals dvs ds) (hx : Passes CX X E)
    (I : Inv X pins σ H s) (r : Vals vs us) (h : sp (vs ++ dvs) H Q E) : wpAny (model X.prog X.w) X.A (call (.ref f) us) (EP X pins σ Q) X.xe s := by
  have rr : Vals (vs ++ dvs) (us ++ ds) := r.append hd
  refine wpAny_call (codeAny_mono (F.run X.A X.stack s H ⟨us, []⟩ (us ++ ds) (vs ++ dvs) Q E hr hu I.env0 (hb s us I.kIn (rr.length.symm.trans (F.len _ _ _ _ h))) rr h) fun r s' hq => ?_)
  cases r with
  | error e => exact hx pins σ H s e s' I hq
  | ok fl =>
    cases fl with
    | ret u => exact I.after hq
    | next => exact hq.elim
    | brk => exact hq.elim
    | cont => exact hq.elim
/-- f(e, ..), f by FnG -/
theorem pe_callG (F : FnG X.prog X.w X.K X.mg X.base CX k f fd ps sp) (hr : Room k X.A) (hu : X.A.guards = some []) (hg : Gl X x) (hm : X.mg x = some (.ref f)) (hk : PySem.W.keepIn X.K (.ref f) = true) (hb : Binds X.K fd ps ds) (hd : Vals dvs ds) (hx : Passes CX X E)
    (ha : PA X (e :: es) t) (hdb : (x == ("__debug__" : Str)) = false := by decide) (he : starEach (e :: es) X.env = (false, eval e X.env) :: starEach es X.env := by rfl) (hpl : (backTo pos (starEach es X.env)).any (·.1) = false := by rfl) :
    PE X (.Call (.Name x p) (e :: es) [] pos) (tCall sp dvs E t) :=
  ⟨fun pins s σ H Q I h => wpAny_Call_Name_kw (ld_glob I hg hm (PySem.W.callWith_K (h₀ := X.base) I.ok.mod.kin hk (thn (ha.run pos pins s σ H _ I h) fun us s1 ⟨vs, H1, I1, r, q⟩ => ⟨I1.kIn, run_G F hr hu hb hd hx I1 r q⟩) he hpl) hdb)⟩
end
/-! ### repr of data -/
/-- data with the empty dict -/
def Dat (K : PySem.W.Frag) (H : Hp) (x : V) (d : PyData) : Prop := Dp K H x d ∨ ∃ a, x = .ref a ∧ H a = some (.dK []) ∧ d = .dict []
section
variable {X : Cx} {pins : List (Addr × Obj)} {σ : L2.St} {H : Hp} {s : Shared}
theorem Dat.reads {x : V} {u : Value} {d : PyData} (I : Inv X pins σ H s) (h : Dat X.K H x d) (r : RelV x u) : ∃ as, Reads s.heap u d as ∧ (d.hasDict = true → sysModules ∉ as) := by
  rcases h with h | ⟨a, rfl, ha, rfl⟩
  · obtain ⟨as, q⟩ := Dp.reads I d x u h r
    have key : ∀ {x : V} {d : PyData}, Dp X.K H x d → d.hasDict = false := by
      intro x d h
      refine Dp.rec (motive_1 := fun _ d _ => d.hasDict = false) (motive_2 := fun _ ds _ => PyData.hasDictAll ds = false) ?_ ?_ ?_ ?_ ?_ ?_ ?_ ?_ h
      · rfl
      · intro b; rfl
      · intro i; rfl
      · intro z; rfl
      · intro a xs ds _ _ ih; exact ih
      · intro a xs ds _ _ ih; exact ih
      · rfl
      · intro v vs d ds _ _ i1 i2
        show (PyData.hasDict d || PyData.hasDictAll ds) = false
        rw [i1, i2]
        rfl
    exact ⟨as, q, fun z => by rw [key h] at z; cases z⟩
  · obtain rfl : u = Value.ref a := r
    obtain ⟨_, hs, vs, kv, o, es, ep, ho, hc, hdt, hes⟩ := (show ObjOk X.prog X.w H s.heap a (.dK []) from I.hok a _ ha)
    cases kv
    have e0 : es.toList = [] := by
      obtain ⟨_, hp, _⟩ := hes
      cases q : es.toList with
      | nil => rfl
      | cons x r => rw [q] at hp; cases hp
    refine ⟨_, .dict (as := []) (bs := []) ho hc.1 hdt (by rw [e0]; exact .nil) (by rw [e0]; exact .nil), fun _ z => ?_⟩
    rw [List.append_nil, List.mem_singleton] at z
    rw [← z] at hs
    simp at hs
/-- repr(data) -/
def rReprD (K : PySem.W.Frag) : List V → Hp → VK → Prop := fun xs H Q => ∃ (x : V) (d : PyData), xs = [x] ∧ Dat K H x d ∧ d.showable = true ∧ d.depth ≤ 40 ∧ d.shown.length ≤ sizeLine ∧ Q (.str d.shown) H
theorem cr_reprD (hg : X.A.guards = some []) (hu : X.A.units + 64 < cLine) : CallR X (.builtin "repr") (rReprD X.K) := by
  intro pins s σ H xs us Q I r h
  obtain ⟨x, d, rfl, hd, hs, hdp, hz, q⟩ := h
  obtain ⟨u, rfl, ru⟩ := vals1 r
  obtain ⟨as, rd, hsm⟩ := hd.reads I ru
  cases rd with
  | none => exact PySem.P.repr_of_none ⟨.str _, H, I.tok _, ⟨_, rfl⟩, q⟩
  | bool b => exact PySem.P.repr_of_bool ⟨.str _, H, I.tok _, ⟨_, rfl⟩, q⟩
  | int i t => exact PySem.P.repr_of_int (of_decide_eq_true hs) ⟨.str _, H, I.tok _, ⟨_, rfl⟩, q⟩
  | str z t => exact PySem.P.repr_of_str ⟨.str _, H, I.tok _, ⟨_, rfl⟩, q⟩ hz
  | list a1 a2 a3 a4 => exact repr_of_reads' (.list a1 a2 a3 a4) hs hsm hg (by omega) (fun _ _ e => e) (fun h' u' tk hk => ⟨.str _, H, I.kept (t' := tk) hk, ⟨_, rfl⟩, q⟩) hz
  | tuple a1 a2 a3 a4 => exact repr_of_reads' (.tuple a1 a2 a3 a4) hs hsm hg (by omega) (fun _ _ e => e) (fun h' u' tk hk => ⟨.str _, H, I.kept (t' := tk) hk, ⟨_, rfl⟩, q⟩) hz
  | dict a1 a2 a3 a4 a5 => exact repr_of_reads' (.dict a1 a2 a3 a4 a5) hs hsm hg (by omega) (fun _ _ e => e) (fun h' u' tk hk => ⟨.str _, H, I.kept (t' := tk) hk, ⟨_, rfl⟩, q⟩) hz
end
end Mo
namespace Mo
open PySem PySem.Spec PyProof.Rows L2
/-- an own error class over ValueError with one field f, its __init__ at fI -/
structure ErrC (K : PySem.W.Frag) (C fI : Addr) (f : Str) : Prop where
  oex : OexC K C
  xf : XfC K C
  exc : ExcC K C
  no : PySem.W.findIn K (.ref C) f = some none
  te : PySem.W.exmOne K (.ref C) (.ref C) = some true
  iC : PySem.W.findIn K (.ref C) "__init__" = some (some (.ref fI))
  tI : PySem.W.typeIn K (.ref fI) = some (.type "function")
/-- its __init__: self.f = y -/
def spInit (C : Addr) (f : Str) : Sp := fun vs H Q _ => ∃ (a : Addr) (y : V), vs = [.ref a, y] ∧ H a = some (exo a C none) ∧ ∀ dx, H dx = none → dx ≠ a → Q .non (upd (upd H dx (exd dx [(f, y)])) a (exo a C (some dx)))
/-- raising it: what is left to be shown -/
theorem err_read {C : Addr} {f : Str} {H : Hp} {v : V} {Q : XK} (h : ∀ d H', H d = none → Same H H' → H' d = some (.xd [(f, v)]) → Q (.ref C) (some d) H') :
    [v].length ≤ 1000 ∧ ∀ a, H a = none → spInit C f (.ref a :: ([v] ++ [])) (upd H a (exo a C none)) (fun x H2 => x = .non ∧ ∃ (d : Addr) (fs : List (Str × V)), H2 a = some (exo a C (some d)) ∧ H2 d = some (exd d fs) ∧ H d = none ∧ Q (.ref C) (some d) (upd (del H2 a) d (.xd fs))) (fun _ _ _ => False) := by
  refine ⟨by show 1 ≤ 1000; decide, fun a na => ⟨a, v, rfl, upd_same, fun dx nd ne => ⟨rfl, dx, [(f, v)], upd_same, by rw [upd_ne ne, upd_same], ?_, ?_⟩⟩⟩
  · rw [upd_ne ne] at nd
    exact nd
  · have nd' : H dx = none := by rw [upd_ne ne] at nd; exact nd
    refine h dx _ nd' (fun b o e => ?_) upd_same
    have nb : b ≠ dx := ne_of_none e nd'
    have nba : b ≠ a := ne_of_none e na
    rw [upd_ne nb, del_ne nba, upd_ne nba, upd_ne nb, upd_ne nba]
    exact e
theorem kit1_type {K : PySem.W.Frag} {C : Addr} {T : String} {b : Bool} (h : PySem.W.subIn K (.ref C) (.type T) = some b) (hm : PySem.W.kitMeta T = true) : PySem.W.kitOne K (.ref C) (.type T) = some b := by
  show (if (Value.ref C == Value.type T) = true then some true else (if PySem.W.kitMeta T = true then PySem.W.subIn K (.ref C) (.type T) else none)) = some b
  rw [if_neg (by intro z; cases beq_iff_eq.mp z), if_pos hm]
  exact h
theorem kit1_ref {K : PySem.W.Frag} {C D : Addr} (h : PySem.W.subIn K (.ref C) (.ref D) = some false) (hs : PySem.W.subIn K (.ref C) (.ref C) = some true) (hc : PySem.W.isClsIn K D = true) (ht : PySem.W.typeIn K (.ref D) = some (.type "type")) : PySem.W.kitOne K (.ref C) (.ref D) = some false := by
  have hc2 : (PySem.W.clsIn K D).isSome = true := hc
  show (if (Value.ref C == Value.ref D) = true then some true else (if ((PySem.W.clsIn K D).isSome && PySem.W.typeIn K (.ref D) == some (.type "type")) = true then PySem.W.subIn K (.ref C) (.ref D) else none)) = some false
  rw [if_neg (by intro z; rw [← beq_iff_eq.mp z, hs] at h; cases h), if_pos (by rw [hc2, ht]; rfl)]
  exact h
end Mo

/-! ### the end of a law whose promise is an FnG -/
namespace Mo
open PySem PySem.Spec PyProof.Rows L2
theorem callG {P : Program} {w : World} {K : PySem.W.Frag} {mg mb : Str → Option Value} {CX : CXT} {k : Nat} {fa a : Addr} {fd : FuncData} {x : Str} {sp : Sp} {s₁ : Shared} {vs : List Value} {ns : List Int}
    (KX : K.In s₁.heap) (hns : s₁.heap.Ns mainGlobals mg) (hb : s₁.heap.Ns builtinsNs mb) (hbb : ∀ x : Str, x ≠ "__name__" → mb x = bootBuiltins x) (hlim : s₁.heap.NoLimit) (hg : s₁.gens = #[])
    (ha : s₁.heap.get? a = some { cls := .type "list", data := .seq vs.toArray }) (hi : IntsAre vs ns) (hl : ns.length ≤ sizeLine) (hr : Room k callerA)
    (F : ∀ base : Heap, K.In base → base.Ns mainGlobals mg → (∀ b m, s₁.heap.Ns b m → base.Ns b m) → FnG P w K mg base CX k fa fd [x] sp) (hbind : ∀ (s : Shared) (u : Value), BindsTo s fd ⟨[u], []⟩ [(x, u)])
    (hsp : ∀ H : Hp, Only H → SqL K H a (ns.map V.int) → sp [.ref a] H (fun v _ => v = .bl true) fun _ _ _ => False)
    (hCX : ∀ H e s', CX [] H s₁ (fun _ _ _ => False) e s' → False) :
    codeAny (model P w) callerA (.call (.ref fa) ⟨[.ref a], []⟩) (fun r s' => r = .ok (.ret (.bool true)) ∧ OldK s₁.heap s'.heap ∧ s'.os = s₁.os ∧ AllBare s'.gens) s₁ := by
  have rv := vals_ints hi
  have lenV := hi.length
  have core : ∀ H : Hp, Only H → SqL K H a (ns.map V.int) → HOk P w H s₁.heap → (∀ b, H b ≠ none → b = a) → (H a ≠ none → K.lookup a = none) →
      codeAny (model P w) callerA (.call (.ref fa) ⟨[.ref a], []⟩) (fun r s' => r = .ok (.ret (.bool true)) ∧ OldK s₁.heap s'.heap ∧ s'.os = s₁.os ∧ AllBare s'.gens) s₁ := by
    intro H hO hS hok hA hK
    have atA : ∀ {b : Addr} {u : HO}, H b = some u → b = a := fun {b u} q => hA b (by rw [q]; exact Option.some_ne_none _)
    have grnd : ∀ {b : Addr} {o : Obj}, s₁.heap.get? b = some o → H b = none → (hidT s₁.heap H).get? b = some o := fun e n => hidT_get e n
    have noA : ∀ {b : Addr} {o : Obj} {es : Array DictEntry} {ep : Nat}, s₁.heap.get? b = some o → o.data = .dict es ep → H b = none := fun {b o es ep} e d => by
      cases q : H b with
      | none => rfl
      | some u =>
        rw [atA q, ha] at e
        cases e
        cases (show Data.seq vs.toArray _ = Data.dict es ep from d)
    have nsK : ∀ {b : Addr} {m : Str → Option Value}, s₁.heap.Ns b m → (hidT s₁.heap H).Ns b m := fun {b m} ⟨o, es, ep, e, d, r⟩ => ⟨o, es, ep, grnd e (noA e d), d, r⟩
    have hKb : K.In (hidT s₁.heap H) := fun b o e => grnd (KX b o e) (by
      cases q : H b with
      | none => rfl
      | some u =>
        obtain rfl := atA q
        rw [hK (by rw [q]; exact Option.some_ne_none _)] at e
        cases e)
    have hM : Mod K mg (hidT s₁.heap H) := ⟨hKb, nsK hns, ⟨mb, nsK hb, hbb⟩, hlim.elim fun mc z => ⟨mc, nsK z.1, z.2⟩⟩
    have e0 : Env0 P w K mg (hidT s₁.heap H) callerA [] s₁ H := ⟨rfl, hM, fun b o e => of_hidT e, Nat.le_of_eq (hidT_size _ _), trivial, fun b hb => absurd (show b ∈ ([] : List Addr) from hb) (by simp), hok, .of_eq hg⟩
    refine codeAny_mono ((F _ hKb (nsK hns) fun b m z => nsK z).run callerA [] s₁ H ⟨[.ref a], []⟩ [.ref a] [.ref a] _ _ hr rfl e0 (hbind s₁ (.ref a)) (.cons rfl .nil) (hsp H hO hS)) fun r s' h => ?_
    cases r with
    | error e => exact (hCX H e s' h).elim
    | ok fl =>
      cases fl with
      | next => exact h.elim
      | brk => exact h.elim
      | cont => exact h.elim
      | ret u =>
        obtain ⟨v, H', os, bare, un, hok', r', q⟩ := h
        obtain rfl : v = .bl true := q
        obtain rfl : u = Value.bool true := r'
        refine ⟨rfl, OldK.of_keep fun b o e => ?_, os, bare⟩
        cases q : H b with
        | none => exact un.keep b o e q (by intro z; exact absurd (show b ∈ ([] : List Addr) from z) (by simp)) (by simp)
        | some u =>
          rcases hO b with z | ⟨ob, xs, z⟩
          · rw [q] at z
            cases z
          · have z2 := un.frzs b ob _ z
            have e1 := (hok b _ z).1
            rw [e] at e1
            cases e1
            exact (hok' b _ z2).1
  cases hk : K.lookup a with
  | some o =>
    have e := KX a o hk
    rw [ha] at e
    cases e
    exact core (fun _ => none) (fun _ => .inl rfl) (.inr ⟨_, vs.toArray, _, hk, rfl, rfl, rfl, by rw [List.size_toArray, lenV]; exact hl, by simpa using rv⟩) (fun b u z => nomatch z) (fun b z => absurd rfl z) fun z => absurd rfl z
  | none =>
    have at2 : ∀ {b : Addr} {u : HO}, (if b = a then some (HO.frz { cls := .type "list", data := .seq vs.toArray } (.lst (ns.map V.int))) else none) = some u → b = a ∧ u = .frz { cls := .type "list", data := .seq vs.toArray } (.lst (ns.map V.int)) := fun {b u} z => by
      by_cases hb : b = a
      · rw [if_pos hb] at z
        exact ⟨hb, (Option.some.inj z).symm⟩
      · rw [if_neg hb] at z
        cases z
    refine core (fun b => if b = a then some (.frz { cls := .type "list", data := .seq vs.toArray } (.lst (ns.map V.int))) else none) (fun b => ?_) (.inl (.inr ⟨{ cls := .type "list", data := .seq vs.toArray }, if_pos rfl⟩)) (fun b u z => ?_) (fun b z => ?_) fun _ => hk
    · by_cases hb : b = a
      · exact .inr ⟨_, _, if_pos hb⟩
      · exact .inl (if_neg hb)
    · obtain ⟨rfl, rfl⟩ := at2 z
      exact ⟨ha, by rw [List.length_map]; exact hl, vs, _, rv, ha⟩
    · by_cases hb : b = a
      · exact hb
      · exact absurd (if_neg hb) z
theorem walkG {l : PySem.W.OpenLaw} {n k : Nat} {q : Program} {loose : List Str} {XP : (Str → Option Value) → Heap → Prop} {YP : World → Heap → Prop} {d : DefRec} {K : Params → PySem.W.Frag} {CX : World → CXT} {sp : World → Sp} {x : Str}
    (hn : l.most = some n) (hn2 : n ≤ sizeLine) (hdf : d.params.defaults = []) (hr : Room k callerA) (hY : ∀ (w : World) (h : Heap), YP w h → (K w.params).In h)
    (F : ∀ (w : World) (mg : Str → Option Value) (fa : Addr) (h : Heap), (K w.params).In h → h.Ns mainGlobals mg → mg d.name = some (.ref fa) →
      ∃ fd : FuncData, (∀ (s : Shared) (u : Value), BindsTo s fd ⟨[u], []⟩ [(x, u)]) ∧ ∀ base : Heap, (K w.params).In base → base.Ns mainGlobals mg → FnG l.prog w (K w.params) mg base (CX w) k fa fd [x] (sp w))
    (hsp : ∀ (w : World) (H : Hp) (a : Addr) (ns : List Int), ns.length ≤ n → Only H → SqL (K w.params) H a (ns.map V.int) → sp w [.ref a] H (fun v _ => v = .bl true) fun _ _ _ => False)
    (hCX : ∀ (w : World) (H : Hp) (s : Shared) (e : Value) (s' : Shared), CX w [] H s (fun _ _ _ => False) e s' → False) :
    PySem.W.WalkO q loose XP YP l.row.toRowW d [] (fun f vs => PySem.call f vs) := by
  refine Att.attach_call hn hdf fun w s₀ s₁ mg mb fa o pm cd doc a vs ns G Y ho hd hcd hmg hobj hints hlen hg => ?_
  obtain ⟨fd, hb, hF⟩ := F w mg fa _ (hY w _ Y) G.T.g hmg
  exact callG (hY w _ Y) G.T.g G.T.b G.T.builtins G.T.nolimit hg hobj hints (Nat.le_trans hlen hn2) hr (fun base a b _ => hF base a b) hb (fun H hO hS => hsp w H a ns hlen hO hS) fun H e s' => hCX w H s₁ e s'
/-- where repr meets dicts: sys.modules is there, and is none of ours -/
theorem walkM {l : PySem.W.OpenLaw} {n k : Nat} {q : Program} {loose : List Str} {XP : (Str → Option Value) → Heap → Prop} {YP : World → Heap → Prop} {d : DefRec} {K : Params → PySem.W.Frag} {CX : World → CXT} {sp : World → Sp} {x : Str}
    (hn : l.most = some n) (hn2 : n ≤ sizeLine) (hdf : d.params.defaults = []) (hr : Room k callerA) (hY : ∀ (w : World) (h : Heap), YP w h → (K w.params).In h) (hi : importsNone q = true)
    (F : ∀ (w : World) (mg : Str → Option Value) (fa : Addr) (h : Heap), (K w.params).In h → h.Ns mainGlobals mg → mg d.name = some (.ref fa) →
      ∃ fd : FuncData, (∀ (s : Shared) (u : Value), BindsTo s fd ⟨[u], []⟩ [(x, u)]) ∧ ∀ base : Heap, (K w.params).In base → base.Ns mainGlobals mg → (∃ mm, base.Ns sysModules mm) → FnG l.prog w (K w.params) mg base (CX w) k fa fd [x] (sp w))
    (hsp : ∀ (w : World) (H : Hp) (a : Addr) (ns : List Int), ns.length ≤ n → Only H → SqL (K w.params) H a (ns.map V.int) → sp w [.ref a] H (fun v _ => v = .bl true) fun _ _ _ => False)
    (hCX : ∀ (w : World) (H : Hp) (s : Shared) (e : Value) (s' : Shared), CX w [] H s (fun _ _ _ => False) e s' → False) :
    PySem.W.WalkO q loose XP YP l.row.toRowW d [] (fun f vs => PySem.call f vs) := by
  refine Att.attach_call hn hdf fun w s₀ s₁ mg mb fa o pm cd doc a vs ns G Y ho hd hcd hmg hobj hints hlen hg => ?_
  obtain ⟨fd, hb, hF⟩ := F w mg fa _ (hY w _ Y) G.T.g hmg
  obtain ⟨mm, hm, _⟩ := (G.T.seer hi).mods
  exact callG (hY w _ Y) G.T.g G.T.b G.T.builtins G.T.nolimit hg hobj hints (Nat.le_trans hlen hn2) hr (fun base a b c => hF base a b ⟨mm, c _ _ hm⟩) hb (fun H hO hS => hsp w H a ns hlen hO hS) fun H e s' => hCX w H s₁ e s'
end Mo

/-! ### data of any kind: None, bools, ints, texts, lists, tuples, dicts (keys ints and texts), at any depth -/
namespace Mo
open PySem PySem.Spec PyProof.Rows L2
def keyD : Key → PyData
  | .inl i => .int i
  | .inr x => .str x
mutual
inductive Dx (N : Addr → Prop) (H : Hp) : V → PyData → Prop
  | non : Dx N H .non .none
  | bl (b : Bool) : Dx N H (.bl b) (.bool b)
  | int (i : Int) : Dx N H (.int i) (.int i)
  | str (x : Str) : Dx N H (.str x) (.str x)
  | lst {a : Addr} {xs : List V} {ds : List PyData} : H a = some (.lst xs) → ¬ N a → DxAll N H xs ds → Dx N H (.ref a) (.list ds)
  | tup {a : Addr} {xs : List V} {ds : List PyData} : H a = some (.tup xs) → ¬ N a → DxAll N H xs ds → Dx N H (.ref a) (.tuple ds)
  | dct {a : Addr} {kvs : List (Key × V)} {ds : List PyData} : H a = some (.dK kvs) → ¬ N a → DxAll N H (kvs.map (·.2)) ds → Dx N H (.ref a) (.dict ((kvs.map fun kv => keyD kv.1).zip ds))
inductive DxAll (N : Addr → Prop) (H : Hp) : List V → List PyData → Prop
  | nil : DxAll N H [] []
  | cons {v : V} {vs : List V} {d : PyData} {ds : List PyData} : Dx N H v d → DxAll N H vs ds → DxAll N H (v :: vs) (d :: ds)
end
theorem DxAll.length {N : Addr → Prop} {H : Hp} : ∀ {vs : List V} {ds : List PyData}, DxAll N H vs ds → vs.length = ds.length
  | _, _, .nil => rfl
  | _, _, .cons _ t => by rw [List.length_cons, List.length_cons, DxAll.length t]
mutual
theorem Dx.same {N : Addr → Prop} {H H' : Hp} (s : Same H H') : ∀ {v : V} {d : PyData}, Dx N H v d → Dx N H' v d
  | _, _, .non => .non
  | _, _, .bl b => .bl b
  | _, _, .int i => .int i
  | _, _, .str x => .str x
  | _, _, .lst h n t => .lst (s _ _ h) n (DxAll.same s t)
  | _, _, .tup h n t => .tup (s _ _ h) n (DxAll.same s t)
  | _, _, .dct h n t => .dct (s _ _ h) n (DxAll.same s t)
theorem DxAll.same {N : Addr → Prop} {H H' : Hp} (s : Same H H') : ∀ {v : List V} {d : List PyData}, DxAll N H v d → DxAll N H' v d
  | _, _, .nil => .nil
  | _, _, .cons h t => .cons (Dx.same s h) (DxAll.same s t)
end
mutual
/-- all but what N names, which the data does not hold -/
theorem Dx.but {N : Addr → Prop} {H H' : Hp} (s : ∀ b o, ¬ N b → H b = some o → H' b = some o) : ∀ {v : V} {d : PyData}, Dx N H v d → Dx N H' v d
  | _, _, .non => .non
  | _, _, .bl b => .bl b
  | _, _, .int i => .int i
  | _, _, .str x => .str x
  | _, _, .lst h n t => .lst (s _ _ n h) n (DxAll.but s t)
  | _, _, .tup h n t => .tup (s _ _ n h) n (DxAll.but s t)
  | _, _, .dct h n t => .dct (s _ _ n h) n (DxAll.but s t)
theorem DxAll.but {N : Addr → Prop} {H H' : Hp} (s : ∀ b o, ¬ N b → H b = some o → H' b = some o) : ∀ {v : List V} {d : List PyData}, DxAll N H v d → DxAll N H' v d
  | _, _, .nil => .nil
  | _, _, .cons h t => .cons (Dx.but s h) (DxAll.but s t)
end
mutual
/-- another N that names no more of what is there -/
theorem Dx.more {N N' : Addr → Prop} {H : Hp} (s : ∀ b, H b ≠ none → N' b → N b) : ∀ {v : V} {d : PyData}, Dx N H v d → Dx N' H v d
  | _, _, .non => .non
  | _, _, .bl b => .bl b
  | _, _, .int i => .int i
  | _, _, .str x => .str x
  | _, _, .lst h n t => .lst h (fun z => n (s _ (by rw [h]; exact Option.some_ne_none _) z)) (DxAll.more s t)
  | _, _, .tup h n t => .tup h (fun z => n (s _ (by rw [h]; exact Option.some_ne_none _) z)) (DxAll.more s t)
  | _, _, .dct h n t => .dct h (fun z => n (s _ (by rw [h]; exact Option.some_ne_none _) z)) (DxAll.more s t)
theorem DxAll.more {N N' : Addr → Prop} {H : Hp} (s : ∀ b, H b ≠ none → N' b → N b) : ∀ {v : List V} {d : List PyData}, DxAll N H v d → DxAll N' H v d
  | _, _, .nil => .nil
  | _, _, .cons h t => .cons (Dx.more s h) (DxAll.more s t)
end
theorem DxAll.append {N : Addr → Prop} {H : Hp} : ∀ {vs ws : List V} {ds es : List PyData}, DxAll N H vs ds → DxAll N H ws es → DxAll N H (vs ++ ws) (ds ++ es)
  | _, _, _, _, .nil, h => h
  | _, _, _, _, .cons a t, h => .cons a (DxAll.append t h)
theorem DxAll.get {N : Addr → Prop} {H : Hp} : ∀ {vs : List V} {ds : List PyData} {i : Nat} {v : V}, DxAll N H vs ds → vs[i]? = some v → ∃ d, ds[i]? = some d ∧ Dx N H v d
  | _, _, _, _, .nil, h => by simp at h
  | _, _, 0, _, .cons a t, h => by
    obtain rfl := Option.some.inj h
    exact ⟨_, rfl, a⟩
  | _, _, i + 1, _, .cons a t, h => by
    obtain ⟨d, e, q⟩ := DxAll.get (i := i) t h
    exact ⟨d, e, q⟩
theorem DxAll.mem {N : Addr → Prop} {H : Hp} {vs : List V} {ds : List PyData} {v : V} (h : DxAll N H vs ds) (hv : v ∈ vs) : ∃ d ∈ ds, Dx N H v d := by
  obtain ⟨i, hi⟩ := List.mem_iff_getElem?.mp hv
  obtain ⟨d, e, q⟩ := h.get hi
  exact ⟨d, List.mem_of_getElem? e, q⟩
section
variable {X : Cx} {N : Addr → Prop} {pins : List (Addr × Obj)} {σ : L2.St} {H : Hp} {s : Shared}
theorem key_reads {h : Heap} {k : Key} {u : Value} (e : keyIs k u = true) : Reads h u (keyD k) [] := by
  rcases keyIs_shape e with ⟨i, t, rfl, rfl⟩ | ⟨z, t, rfl, rfl⟩
  · exact .int i t
  · exact .str z t
theorem keys_read {P : Program} {w : World} {h : Heap} : ∀ {es : List DictEntry} {vs : List (Key × Value)}, Pairs (mixKind P w) es vs → ReadsAll h (es.map (·.key)) (vs.map fun kv => keyD kv.1) []
  | _, _, .nil => .nil
  | _, _, .cons e _ t => by
    have q := ReadsAll.cons (key_reads (h := h) e) (keys_read t)
    exact q
theorem vals_eq {P : Program} {w : World} : ∀ {es : List DictEntry} {vs : List (Key × Value)}, Pairs (mixKind P w) es vs → es.map (·.val) = vs.map (·.2)
  | _, _, .nil => rfl
  | _, _, .cons _ e t => by
    rw [List.map_cons, List.map_cons, e, vals_eq t]
theorem kv_keys : ∀ {kvs : List (Key × V)} {vs : List (Key × Value)}, KV kvs vs → kvs.map (fun kv => keyD kv.1) = vs.map (fun kv => keyD kv.1)
  | _, _, .nil => rfl
  | _, _, .cons h t => by
    rw [List.map_cons, List.map_cons, h.1, kv_keys t]
theorem kv_vals : ∀ {kvs : List (Key × V)} {vs : List (Key × Value)}, KV kvs vs → Vals (kvs.map (·.2)) (vs.map (·.2))
  | _, _, .nil => .nil
  | _, _, .cons h t => .cons h.2 (kv_vals t)
mutual
theorem Dx.reads (I : Inv X pins σ H s) (hs : H sysModules = none) : ∀ {x : V} {d : PyData}, Dx N H x d → ∀ {u : Value}, RelV x u → ∃ as, Reads s.heap u d as ∧ sysModules ∉ as
  | _, _, .non, u, r => by
    obtain rfl : u = Value.none := r
    exact ⟨[], .none, by simp⟩
  | _, _, .bl b, u, r => by
    obtain rfl : u = Value.bool b := r
    exact ⟨[], .bool b, by simp⟩
  | _, _, .int i, u, r => by
    obtain ⟨t, rfl⟩ : ∃ t, u = Value.int i t := r
    exact ⟨[], .int i t, by simp⟩
  | _, _, .str x, u, r => by
    obtain ⟨t, rfl⟩ : ∃ t, u = Value.str x t := r
    exact ⟨[], .str x t, by simp⟩
  | _, _, .lst (a := a) (xs := xs) ha hN t, u, r => by
    obtain rfl : u = Value.ref a := r
    obtain ⟨_, its, n, rv, e⟩ := (show ObjOk X.prog X.w H s.heap a (.lst xs) from I.hok a _ ha)
    obtain ⟨as, q, ns⟩ := DxAll.reads I hs t rv
    refine ⟨a :: as, .list e rfl rfl (by simpa using q), fun z => ?_⟩
    rcases List.mem_cons.mp z with z | z
    · rw [z, ha] at hs
      cases hs
    · exact ns z
  | _, _, .tup (a := a) (xs := xs) ha hN t, u, r => by
    obtain rfl : u = Value.ref a := r
    obtain ⟨_, its, rv, o, e, hc, n, hd⟩ := (show ObjOk X.prog X.w H s.heap a (.tup xs) from I.hok a _ ha)
    obtain ⟨as, q, ns⟩ := DxAll.reads I hs t rv
    exact ⟨as, .tuple e hc hd (by simpa using q), ns⟩
  | _, _, .dct (a := a) (kvs := kvs) (ds := ds) ha hN t, u, r => by
    obtain rfl : u = Value.ref a := r
    obtain ⟨_, _, vs, kv, o, es, ep, ho, hc, hdt, _, hp, _⟩ := (show ObjOk X.prog X.w H s.heap a (.dK kvs) from I.hok a _ ha)
    obtain ⟨as, q, ns⟩ := DxAll.reads I hs t (kv_vals kv)
    have hl := DxAll.length t
    have hl2 : (kvs.map fun kv => keyD kv.1).length = ds.length := by rw [List.length_map, ← hl, List.length_map]
    have k1 := keys_read (h := s.heap) hp
    rw [← kv_keys kv] at k1
    refine ⟨_, .dict (as := []) (bs := as) ho hc.1 hdt ?_ ?_, fun z => ?_⟩
    · rw [List.map_fst_zip (Nat.le_of_eq hl2)]
      exact k1
    · rw [List.map_snd_zip (Nat.le_of_eq hl2.symm), vals_eq hp]
      exact q
    · rcases List.mem_append.mp z with z | z
      · rw [List.mem_singleton.mp z, ha] at hs
        cases hs
      · exact ns z
theorem DxAll.reads (I : Inv X pins σ H s) (hs : H sysModules = none) : ∀ {xs : List V} {ds : List PyData}, DxAll N H xs ds → ∀ {us : List Value}, Vals xs us → ∃ as, ReadsAll s.heap us ds as ∧ sysModules ∉ as
  | _, _, .nil, _, .nil => ⟨[], .nil, by simp⟩
  | _, _, .cons h t, _, .cons r rs => by
    obtain ⟨as, q, n⟩ := Dx.reads I hs h r
    obtain ⟨bs, q2, n2⟩ := DxAll.reads I hs t rs
    exact ⟨as ++ bs, .cons q q2, fun z => (List.mem_append.mp z).elim n n2⟩
end
/-- repr(data) -/
def rReprX : List V → Hp → VK → Prop := fun xs H Q => ∃ (N : Addr → Prop) (x : V) (d : PyData), xs = [x] ∧ Dx N H x d ∧ d.showable = true ∧ d.depth ≤ 40 ∧ d.shown.length ≤ sizeLine ∧ Q (.str d.shown) H
theorem cr_reprX (hb : ∃ mm, X.base.Ns sysModules mm) (hg : X.A.guards = some []) (hu : X.A.units + 64 < cLine) : CallR X (.builtin "repr") rReprX := by
  intro pins s σ H xs us Q I r h
  obtain ⟨N, x, d, rfl, hd, hs, hdp, hz, q⟩ := h
  obtain ⟨u, rfl, ru⟩ := vals1 r
  have h1 : H sysModules = none := by
    obtain ⟨mm, o, es, ep, e, _⟩ := hb
    exact (I.bs _ _ e).2
  obtain ⟨as, rd, hsm⟩ := Dx.reads I h1 hd ru
  cases rd with
  | none => exact PySem.P.repr_of_none ⟨.str _, H, I.tok _, ⟨_, rfl⟩, q⟩
  | bool b => exact PySem.P.repr_of_bool ⟨.str _, H, I.tok _, ⟨_, rfl⟩, q⟩
  | int i t => exact PySem.P.repr_of_int (of_decide_eq_true hs) ⟨.str _, H, I.tok _, ⟨_, rfl⟩, q⟩
  | str z t => exact PySem.P.repr_of_str ⟨.str _, H, I.tok _, ⟨_, rfl⟩, q⟩ hz
  | list a1 a2 a3 a4 => exact repr_of_reads' (.list a1 a2 a3 a4) hs (fun _ => hsm) hg (by omega) (fun _ _ e => e) (fun h' u' tk hk => ⟨.str _, H, I.kept (t' := tk) hk, ⟨_, rfl⟩, q⟩) hz
  | tuple a1 a2 a3 a4 => exact repr_of_reads' (.tuple a1 a2 a3 a4) hs (fun _ => hsm) hg (by omega) (fun _ _ e => e) (fun h' u' tk hk => ⟨.str _, H, I.kept (t' := tk) hk, ⟨_, rfl⟩, q⟩) hz
  | dict a1 a2 a3 a4 a5 => exact repr_of_reads' (.dict a1 a2 a3 a4 a5) hs (fun _ => hsm) hg (by omega) (fun _ _ e => e) (fun h' u' tk hk => ⟨.str _, H, I.kept (t' := tk) hk, ⟨_, rfl⟩, q⟩) hz
end
end Mo

/-! ### rules for data of any kind -/
namespace Mo
open PySem PySem.Spec PyProof.Rows L2
section
variable {X : Cx}
/-- a list of anything == [] -/
def rEqNil (K : PySem.W.Frag) : R2 := fun x y H Q => ∃ a b xs, x = .ref a ∧ y = .ref b ∧ SqL K H a xs ∧ SqL K H b [] ∧ Q (.bl xs.isEmpty) H
theorem op_eqNil (hu : X.A.units + 64 < cLine) : OpR X (compareOp .Eq) (rEqNil X.K) := by
  intro pins s σ H x y v u Q I rx ry h
  obtain ⟨a, b, xs, rfl, rfl, ha, hb, q⟩ := h
  cases rx
  cases ry
  obtain ⟨is, r1, p1, _⟩ := I.list ha
  obtain ⟨js, r2, p2, _⟩ := I.list hb
  cases r2
  cases r1 with
  | nil => exact SeqAt.eq_listAt (e := fun _ => true) p1.isList p2.isList rfl (by omega) (fun j h1 => absurd h1 (by simp)) ⟨.bl true, H, I, rfl, q⟩
  | cons r rs => exact SeqAt.eq_list_lengthsAt p1.isList p2.isList (by simp) (by omega) ⟨.bl false, H, I, rfl, q⟩
/-- a list of anything != [] -/
def rNeNil (K : PySem.W.Frag) : R2 := fun x y H Q => ∃ a b xs, x = .ref a ∧ y = .ref b ∧ SqL K H a xs ∧ SqL K H b [] ∧ Q (.bl (!xs.isEmpty)) H
theorem op_neNil (hu : X.A.units + 64 < cLine) : OpR X (compareOp .NotEq) (rNeNil X.K) := by
  intro pins s σ H x y v u Q I rx ry h
  obtain ⟨a, b, xs, rfl, rfl, ha, hb, q⟩ := h
  cases rx
  cases ry
  obtain ⟨is, r1, p1, _⟩ := I.list ha
  obtain ⟨js, r2, p2, _⟩ := I.list hb
  cases r2
  cases r1 with
  | nil => exact SeqAt.RcNeAt.lists (e := fun _ => true) p1.isList p2.isList rfl (by omega) (fun j h1 => absurd h1 (by simp)) X.prog X.w X.xe _ ⟨.bl false, H, I, rfl, q⟩
  | cons r rs => exact SeqAt.RcNeAt.lists_lengths p1.isList p2.isList (by simp) (by omega) X.prog X.w X.xe _ ⟨.bl true, H, I, rfl, q⟩
/-- a tuple of anything != () -/
def rNeNilT (K : PySem.W.Frag) : R2 := fun x y H Q => ∃ a b xs, x = .ref a ∧ y = .ref b ∧ SqT K H a xs ∧ SqT K H b [] ∧ Q (.bl (!xs.isEmpty)) H
theorem op_neNilT (hu : X.A.units + 64 < cLine) : OpR X (compareOp .NotEq) (rNeNilT X.K) := by
  intro pins s σ H x y v u Q I rx ry h
  obtain ⟨a, b, xs, rfl, rfl, ha, hb, q⟩ := h
  cases rx
  cases ry
  obtain ⟨is, r1, p1, _⟩ := I.tuple ha
  obtain ⟨js, r2, p2, _⟩ := I.tuple hb
  cases r2
  have k1 : s.heap.IsTuple a is.toArray := p1
  have k2 : s.heap.IsTuple b (List.nil (α := Value)).toArray := p2
  refine SeqAt.RcNeAt.tuples (e := fun _ => true) k1 k2 (by omega) (fun j _ h2 => absurd h2 (by simp)) X.prog X.w X.xe _ ?_
  cases r1 with
  | nil => exact ⟨.bl false, H, I, rfl, q⟩
  | cons r rs => exact ⟨.bl true, H, I, by simp only [List.size_toArray, List.length_cons, List.length_nil, Nat.min_zero, List.range_zero, List.all_nil, Bool.true_and]; rfl, q⟩
theorem vals_signs : ∀ (cs : List Nat) (l : List Value), l.length = cs.length → (∀ (j : Nat) (v : Value), l[j]? = some v → ∃ c u, cs[j]? = some c ∧ v = .str ⟨#[c]⟩ u) → Vals (cs.map sg) l
  | [], [], _, _ => .nil
  | [], _ :: _, h, _ => by simp at h
  | _ :: _, [], h, _ => by simp at h
  | c :: cs, v :: l, h, q => by
    obtain ⟨c', u, e1, rfl⟩ := q 0 v rfl
    obtain rfl := Option.some.inj e1
    exact .cons ⟨u, rfl⟩ (vals_signs cs l (by simpa using h) fun j v e => q (j + 1) v e)
/-- tuple(a text) -/
theorem cr_tupS (hc : X.calm = true) : CallR X (.type "tuple") (fun xs H Q => ∃ cs : List Nat, xs = [.str (tx cs)] ∧ cs.length ≤ 100000 ∧ ∀ p, H p = none → Q (.ref p) (upd H p (.tup (cs.map sg)))) := by
  intro pins s σ H xs us Q I r h
  obtain ⟨cs, rfl, hz, q⟩ := h
  obtain ⟨u, rfl, t, rfl⟩ := vals1 r
  refine call_tuple_str (I.ok.hd hc) (tx cs) t (fun h' tk acc hk hacc => ?_) (by rw [tx_size]; exact fits5 hz)
  have I1 : Inv X pins σ H { s with heap := h', toks := tk } := I.kept (t' := tk) hk
  have I2 := I1.laid (t' := tk) (o := .tup (cs.map sg)) (h' := h'.push { cls := .type "tuple", data := .seq acc }) (fun b o e => Heap.get?_push_of_some _ e) (Nat.le_refl _) ⟨by rw [List.length_map]; exact fits5 hz, acc.toList, vals_signs cs acc.toList (by have := hacc.1; rw [tx_size] at this; simpa using this) (fun j v e => by
    obtain ⟨c, u, e1, e2⟩ := hacc.2 j v (by simpa using e)
    exact ⟨c, u, tx_get.symm.trans e1, e2⟩), IsTup.new _ _⟩
  exact ⟨.ref h'.objs.size, _, I2, rfl, q _ (I1.hok.fresh (Nat.le_refl _))⟩
/-- z * n, n a small number -/
def mulS (cs : List Nat) (n : Nat) : List Nat := (List.replicate n cs).flatten
theorem foldl_cat (a : List Nat) : ∀ (n : Nat) (acc : List Nat), ((List.replicate n a.toArray).foldl (fun x y => x ++ y) acc.toArray) = (acc ++ (List.replicate n a).flatten).toArray
  | 0, acc => by simp
  | n + 1, acc => by
    rw [List.replicate_succ, List.foldl_cons, List.replicate_succ, List.flatten_cons, ← List.append_assoc, ← foldl_cat a n (acc ++ a)]
    simp
theorem mulS_eq (cs : List Nat) (n : Nat) : Txt.mul (tx cs) (n : Int) = tx (mulS cs n) := by
  unfold Txt.mul mulS
  by_cases h0 : n = 0
  · subst h0
    rfl
  · rw [if_neg (by omega)]
    by_cases h1 : ((n : Int) == 1 || (tx cs).length == 0) = true
    · rw [if_pos h1]
      rcases Bool.or_eq_true_iff.mp h1 with h | h
      · have : n = 1 := by have := beq_iff_eq.mp h; omega
        subst this
        simp
      · have : cs = [] := by
          have := beq_iff_eq.mp h
          rw [tx_len] at this
          exact List.eq_nil_of_length_eq_zero this
        subst this
        simp
    · rw [if_neg h1, show (n : Int).toNat = n from rfl]
      have q := foldl_cat cs n []
      rw [List.nil_append] at q
      exact congrArg Str.mk q
theorem op_mulS : OpR X (binaryOp .Mult) (fun x y H Q => ∃ (cs : List Nat) (n : Nat), x = .str (tx cs) ∧ y = .int n ∧ cs.length ≤ 100000 ∧ n ≤ 100 ∧ Q (.str (tx (mulS cs n))) H) := by
  intro pins s σ H x y v u Q I rx ry h
  obtain ⟨cs, n, rfl, rfl, hz, hn, q⟩ := h
  obtain ⟨t, rfl⟩ := rx
  obtain ⟨t2, rfl⟩ := ry
  have hl : cs.length * n ≤ 100000 * 100 := Nat.mul_le_mul hz hn
  refine SB.mul ⟨?_, fun h1 h2 => ?_, fun h1 h2 => ?_⟩ fun t' k => ?_
  · rw [decide_eq_false (by omega), decide_eq_false (by omega)]
    rfl
  · rw [tx_len]
    have h3 : ((cs.length : Nat) : Int) * (n : Int) ≤ 2 ^ 63 - 1 := by
      rw [← Int.natCast_mul]
      omega
    have h4 : ((cs.length : Nat) : Int) ≤ (2 ^ 63 - 1) / (n : Int) := Int.le_ediv_of_mul_le (by omega) h3
    omega
  · rw [tx_len]
    show decide (cs.length * (n : Int).toNat > sizeLine) = false
    rw [sizeLine_eq]
    exact decide_eq_false (by show ¬ cs.length * n > _; omega)
  · rw [mulS_eq]
    exact ⟨.str _, H, I.tok _, ⟨_, rfl⟩, q⟩
/-- t * n -/
def rRepG (K : PySem.W.Frag) : R2 := fun x y H Q => ∃ (l : Addr) (n : Nat) (xs : List V), x = .ref l ∧ y = .int n ∧ SqT K H l xs ∧ xs ≠ [] ∧ 2 ≤ n ∧ n ≤ 100000 ∧ xs.length * n ≤ 1000000 ∧ ∀ p, H p = none → Q (.ref p) (upd H p (.tup (List.replicate n xs).flatten))
theorem op_repG : OpR X (binaryOp .Mult) (rRepG X.K) := by
  intro pins s σ H x y v u Q I rx ry h
  obtain ⟨l, n, xs, rfl, rfl, hT, hne, h1, h2, hz, q⟩ := h
  cases rx
  obtain ⟨t, rfl⟩ := ry
  obtain ⟨its, r, ⟨ob, ho, hc, m, hd⟩, hs⟩ := I.tuple hT
  obtain ⟨cls, dd, data, sl⟩ := ob
  obtain rfl : cls = .type "tuple" := hc
  obtain rfl : data = .seq its.toArray m := hd
  have hle := r.length
  have hi : its.toArray.isEmpty = false := by
    cases r with
    | nil => exact absurd rfl hne
    | cons _ _ => rfl
  have hm : xs.length * n ≤ 10 * 100000 := hz
  have hm2 : ((its.toArray.size : Nat) : Int) * (n : Int) = ((xs.length * n : Nat) : Int) := by
    rw [List.size_toArray, ← hle]
    exact (Int.natCast_mul _ _).symm
  have fl : (List.replicate n xs).flatten.length ≤ sizeLine := by
    rw [lm_len_rep_flat, Nat.mul_comm, sizeLine_eq]
    omega
  have fl2 : (List.foldl (fun x1 x2 => x1 ++ x2) #[] (List.replicate (n : Int).toNat its.toArray)).size ≤ sizeLine := by
    rw [size_rep, List.size_toArray, lm_len_rep_flat, ← hle, Nat.mul_comm, sizeLine_eq]
    show xs.length * n ≤ _
    omega
  refine wpAny_binaryOp_repeat_ref (T := "tuple") (U := "int") (by decide) ⟨_, ho, rfl⟩ (fun s' => typeIs_int s' n t) noFill_tuple_mul F.fills_int_mul F.slot_int_rmul repeat_tuple F.slot_int_index.lookup ?_
  refine call_meets F.slot_int_rmul (typeIs_int s n t) F.entry_int_rmul (F.args_int_rmul_2 _ _) (int_rmul_tuple n t l its.toArray m dd sl) ⟨ho, rfl, ⟨_, ho, rfl⟩, ?_⟩
  refine call_meets F.slot_tuple_mul ⟨_, ho, rfl⟩ F.entry_tuple_mul (F.args_tuple_mul_2 _ _) (tuple_mulW l its.toArray m dd sl n t ?_ ?_ ?_ ?_ ?_ fl2) ⟨ho, ?_⟩
  · rw [decide_eq_false (by omega), decide_eq_false (by omega)]
    rfl
  · rw [hi, Bool.false_or]
    exact beq_eq_false_iff_ne.mpr (by omega)
  · rw [hi, Bool.or_false]
    exact decide_eq_false (by omega)
  · rw [hm2]
    omega
  · unfold Builtin.Tuple.tupleTooMany
    rw [hm2, sizeLine_eq]
    exact decide_eq_false (by omega)
  · rw [size_rep]
    exact ⟨.ref s.heap.objs.size, _, I.laid (t' := s.toks) (o := .tup (List.replicate n xs).flatten) (fun b ob q => Heap.get?_push_of_some _ q) (Nat.le_refl _) ⟨fl, _, r.rep n, IsTup.new _ _⟩, rfl, q _ (I.hok.fresh (Nat.le_refl _))⟩
/-- t * n, t of few items -/
def rRepN (K : PySem.W.Frag) : R2 := fun x y H Q => ∃ (l : Addr) (n : Nat) (xs : List V), x = .ref l ∧ y = .int n ∧ SqT K H l xs ∧ xs ≠ [] ∧ 2 ≤ n ∧ n ≤ 100000 ∧ xs.length ≤ 10 ∧ ∀ p, H p = none → Q (.ref p) (upd H p (.tup (List.replicate n xs).flatten))
theorem op_repN : OpR X (binaryOp .Mult) (rRepN X.K) := by
  intro pins s σ H x y v u Q I rx ry h
  obtain ⟨l, n, xs, h1, h2, h3, h4, h5, h6, h7, q⟩ := h
  exact op_repG pins s σ H x y v u Q I rx ry ⟨l, n, xs, h1, h2, h3, h4, h5, h6, Nat.le_trans (Nat.mul_le_mul h7 h6) (by decide), q⟩
/-! what is made anew or is the old one, read alike -/
theorem catA_any {K : PySem.W.Frag} {a b : Addr} {xs ys : List V} {H : Hp} {Q : VK} (ha : H a = some (.tup xs)) (hb : H b = some (.tup ys)) (hl : xs.length + ys.length ≤ sizeLine)
    (q : ∀ p H', Same H H' → H' p = some (.tup (xs ++ ys)) → p = a ∨ p = b ∨ H p = none → Q (.ref p) H') : rCatA K (.ref a) (.ref b) H Q := by
  refine ⟨a, b, xs, ys, rfl, rfl, SqT.of ha, SqT.of hb, hl, fun e => ?_, fun _ e => ?_, fun _ _ p np => ?_⟩
  · subst e
    exact q b H (Same.refl H) hb (.inr (.inl rfl))
  · subst e
    exact q a H (Same.refl H) (by rw [List.append_nil]; exact ha) (.inl rfl)
  · exact q p _ (same_new np) upd_same (.inr (.inr np))
theorem slA_any {K : PySem.W.Frag} {a : Addr} {xs : List V} {lo hi : Option Int} {H : Hp} {Q : VK} (ha : H a = some (.tup xs)) (q : ∀ p H', Same H H' → H' p = some (.tup (cutV xs lo hi)) → p = a ∨ H p = none → Q (.ref p) H') : rSlA K (.ref a) lo hi H Q := by
  refine ⟨a, xs, rfl, SqT.of ha, fun e => ?_, fun _ p np => q p _ (same_new np) upd_same (.inr np)⟩
  have ec : cutV xs lo hi = xs := by
    unfold cutV
    rw [e.1, e.2, List.drop_zero, Nat.sub_zero, List.take_length]
  exact q a H (Same.refl H) (by rw [ec]; exact ha) (.inl rfl)
theorem cut_to (xs : List V) (n : Nat) : cutV xs none (some (n : Int)) = xs.take n := by
  unfold cutV
  rw [HT.sIx_none, HT.sIx_nat, List.drop_zero, Nat.sub_zero, List.take_eq_take_iff]
  omega
theorem cut_from (xs : List V) (n : Nat) : cutV xs (some (n : Int)) none = xs.drop n := by
  unfold cutV
  rw [HT.sIx_none, HT.sIx_nat]
  have e : xs.drop (min n xs.length) = xs.drop n := by
    by_cases h : n ≤ xs.length
    · rw [Nat.min_eq_left h]
    · rw [List.drop_of_length_le (by omega), List.drop_of_length_le (by omega)]
  rw [e]
  exact List.take_of_length_le (by rw [List.length_drop]; omega)
end
end Mo

/-! ### lists and tuples of flat values compared -/
namespace Mo
open PySem PySem.Spec PyProof.Rows L2
def eqLs : List V → List V → Bool
  | [], [] => true
  | x :: xs, y :: ys => eqV x y && eqLs xs ys
  | _, _ => false
theorem eqLs_range : ∀ (xs ys : List V), xs.length = ys.length → (List.range xs.length).all (fun j => eqV (xs.getD j .non) (ys.getD j .non)) = eqLs xs ys
  | [], [], _ => rfl
  | x :: xs, y :: ys, h => by
    rw [List.length_cons, List.range_succ_eq_map, List.all_cons, List.all_map]
    show (eqV x y && (List.range xs.length).all (fun j => eqV (xs.getD j .non) (ys.getD j .non))) = _
    rw [eqLs_range xs ys (by simpa using h)]
    rfl
  | [], _ :: _, h => by simp at h
  | _ :: _, [], h => by simp at h
theorem eqLs_len : ∀ {xs ys : List V}, eqLs xs ys = true → xs.length = ys.length
  | [], [], _ => rfl
  | x :: xs, y :: ys, h => by
    rw [List.length_cons, List.length_cons, eqLs_len (Bool.and_eq_true_iff.mp h).2]
  | [], _ :: _, h => by cases h
  | _ :: _, [], h => by cases h
theorem eqV_self : ∀ {x : V}, flatV x = true → eqV x x = true := by
  intro x h
  cases x <;> first | (exact absurd (show false = true from h) Bool.false_ne_true) | rfl | (simp [eqV])
theorem eqLs_self : ∀ {xs : List V}, xs.all flatV = true → eqLs xs xs = true
  | [], _ => rfl
  | x :: xs, h => by
    rw [List.all_cons, Bool.and_eq_true] at h
    show (eqV x x && eqLs xs xs) = true
    rw [eqV_self h.1, eqLs_self h.2]
    rfl
theorem flat_ints (ns : List Int) : (ns.map V.int).all flatV = true := by
  rw [List.all_map, List.all_eq_true]
  exact fun _ _ => rfl
theorem flat_strs' (zs : List Str) : (zs.map V.str).all flatV = true := by
  rw [List.all_map, List.all_eq_true]
  exact fun _ _ => rfl
theorem eqLs_ints : ∀ (a b : List Int), eqLs (a.map V.int) (b.map V.int) = decide (a = b)
  | [], [] => by simp [eqLs]
  | x :: a, y :: b => by
    show (x == y && eqLs (a.map V.int) (b.map V.int)) = _
    rw [eqLs_ints a b, Bool.eq_iff_iff]
    simp
  | [], _ :: _ => by simp [eqLs]
  | _ :: _, [] => by simp [eqLs]
theorem eqLs_strs : ∀ (a b : List Str), eqLs (a.map V.str) (b.map V.str) = decide (a = b)
  | [], [] => by simp [eqLs]
  | x :: a, y :: b => by
    show (x == y && eqLs (a.map V.str) (b.map V.str)) = _
    rw [eqLs_strs a b, Bool.eq_iff_iff]
    simp
  | [], _ :: _ => by simp [eqLs]
  | _ :: _, [] => by simp [eqLs]
section
variable {X : Cx}
theorem eqAts {A : Around} {s : Shared} {xs ys : List V} {us ws : List Value} (r1 : Vals xs us) (r2 : Vals ys ws) (f1 : xs.all flatV = true) (f2 : ys.all flatV = true) :
    ∀ j (h1 : j < us.toArray.size) (h2 : j < ws.toArray.size), SeqAt.EqAt A s us.toArray[j] ws.toArray[j] (eqV (xs.getD j .non) (ys.getD j .non)) := by
  intro j h1 h2
  have l1 := r1.length
  have l2 := r2.length
  rw [List.size_toArray] at h1 h2
  have e1 : xs[j]? = some (xs.getD j .non) := by
    rw [List.getD_eq_getElem?_getD, List.getElem?_eq_getElem (by omega)]
    rfl
  have e2 : ys[j]? = some (ys.getD j .non) := by
    rw [List.getD_eq_getElem?_getD, List.getElem?_eq_getElem (by omega)]
    rfl
  obtain ⟨u, hu, ru⟩ := r1.get e1
  obtain ⟨v, hv, rv⟩ := r2.get e2
  have q1 : us.toArray[j] = u := by
    rw [List.getElem?_eq_getElem h1] at hu
    exact Option.some.inj hu
  have q2 : ws.toArray[j] = v := by
    rw [List.getElem?_eq_getElem h2] at hv
    exact Option.some.inj hv
  rw [q1, q2]
  exact eqAt_V ru rv (List.all_eq_true.mp f1 _ (List.mem_of_getElem? e1)) (List.all_eq_true.mp f2 _ (List.mem_of_getElem? e2))
def FlatAt (K : PySem.W.Frag) (H : Hp) (x y : V) (xs ys : List V) : Prop := ∃ a b, x = .ref a ∧ y = .ref b ∧ xs.all flatV = true ∧ ys.all flatV = true ∧ ((SqL K H a xs ∧ SqL K H b ys) ∨ (SqT K H a xs ∧ SqT K H b ys))
def rEqFl (K : PySem.W.Frag) : R2 := fun x y H Q => ∃ xs ys, FlatAt K H x y xs ys ∧ Q (.bl (eqLs xs ys)) H
def rNeFl (K : PySem.W.Frag) : R2 := fun x y H Q => ∃ xs ys, FlatAt K H x y xs ys ∧ Q (.bl (!eqLs xs ys)) H
theorem tups_eq {xs ys : List V} : ((List.range (min xs.length ys.length)).all (fun j => eqV (xs.getD j .non) (ys.getD j .non)) && xs.length == ys.length) = eqLs xs ys := by
  by_cases h : xs.length = ys.length
  · rw [← h, Nat.min_self, eqLs_range xs ys h]
    simp
  · have : eqLs xs ys = false := by
      cases e : eqLs xs ys with
      | false => rfl
      | true => exact absurd (eqLs_len e) h
    rw [this, beq_eq_false_iff_ne.mpr h, Bool.and_false]
theorem op_eqFl (hu : X.A.units + 64 < cLine) : OpR X (compareOp .Eq) (rEqFl X.K) := by
  intro pins s σ H x y v u Q I rx ry h
  obtain ⟨xs, ys, ⟨a, b, rfl, rfl, f1, f2, h⟩, q⟩ := h
  cases rx
  cases ry
  rcases h with ⟨ha, hb⟩ | ⟨ha, hb⟩
  · obtain ⟨is, r1, p1, _⟩ := I.list ha
    obtain ⟨js, r2, p2, _⟩ := I.list hb
    have l1 := r1.length
    have l2 := r2.length
    by_cases hl : xs.length = ys.length
    · refine SeqAt.eq_listAt (e := fun j => eqV (xs.getD j .non) (ys.getD j .non)) p1.isList p2.isList (by simp only [List.size_toArray]; omega) (by omega) (eqAts r1 r2 f1 f2) ?_
      rw [List.size_toArray, ← l1, eqLs_range xs ys hl]
      exact ⟨.bl _, H, I, rfl, q⟩
    · have e : eqLs xs ys = false := by
        cases e : eqLs xs ys with
        | false => rfl
        | true => exact absurd (eqLs_len e) hl
      rw [e] at q
      exact SeqAt.eq_list_lengthsAt p1.isList p2.isList (by simp only [List.size_toArray]; rw [bne_iff_ne]; omega) (by omega) ⟨.bl _, H, I, rfl, q⟩
  · obtain ⟨is, r1, p1, _⟩ := I.tuple ha
    obtain ⟨js, r2, p2, _⟩ := I.tuple hb
    have l1 := r1.length
    have l2 := r2.length
    have k1 : s.heap.IsTuple a is.toArray := p1
    have k2 : s.heap.IsTuple b js.toArray := p2
    refine SeqAt.eq_tupleAt (e := fun j => eqV (xs.getD j .non) (ys.getD j .non)) k1 k2 (by omega) (eqAts r1 r2 f1 f2) ?_
    rw [List.size_toArray, List.size_toArray, ← l1, ← l2, tups_eq]
    exact ⟨.bl _, H, I, rfl, q⟩
theorem op_neFl (hu : X.A.units + 64 < cLine) : OpR X (compareOp .NotEq) (rNeFl X.K) := by
  intro pins s σ H x y v u Q I rx ry h
  obtain ⟨xs, ys, ⟨a, b, rfl, rfl, f1, f2, h⟩, q⟩ := h
  cases rx
  cases ry
  rcases h with ⟨ha, hb⟩ | ⟨ha, hb⟩
  · obtain ⟨is, r1, p1, _⟩ := I.list ha
    obtain ⟨js, r2, p2, _⟩ := I.list hb
    have l1 := r1.length
    have l2 := r2.length
    by_cases hl : xs.length = ys.length
    · refine SeqAt.RcNeAt.lists (e := fun j => eqV (xs.getD j .non) (ys.getD j .non)) p1.isList p2.isList (by simp only [List.size_toArray]; omega) (by omega) (eqAts r1 r2 f1 f2) X.prog X.w X.xe _ ?_
      rw [List.size_toArray, ← l1, eqLs_range xs ys hl]
      exact ⟨.bl _, H, I, rfl, q⟩
    · have e : eqLs xs ys = false := by
        cases e : eqLs xs ys with
        | false => rfl
        | true => exact absurd (eqLs_len e) hl
      rw [e] at q
      exact SeqAt.RcNeAt.lists_lengths p1.isList p2.isList (by simp only [List.size_toArray]; rw [bne_iff_ne]; omega) (by omega) X.prog X.w X.xe _ ⟨.bl _, H, I, rfl, q⟩
  · obtain ⟨is, r1, p1, _⟩ := I.tuple ha
    obtain ⟨js, r2, p2, _⟩ := I.tuple hb
    have l1 := r1.length
    have l2 := r2.length
    have k1 : s.heap.IsTuple a is.toArray := p1
    have k2 : s.heap.IsTuple b js.toArray := p2
    refine SeqAt.RcNeAt.tuples (e := fun j => eqV (xs.getD j .non) (ys.getD j .non)) k1 k2 (by omega) (eqAts r1 r2 f1 f2) X.prog X.w X.xe _ ?_
    rw [List.size_toArray, List.size_toArray, ← l1, ← l2, tups_eq]
    exact ⟨.bl _, H, I, rfl, q⟩
end
end Mo

set_option exponentiation.threshold 3000
/-! ### how great data is: its ints below 10 ^ B, its signs, its bulk, its depth -/
namespace Mo
open PySem PySem.Spec PyProof.Rows L2
mutual
def okD (B : Nat) : PyData → Prop
  | .none | .bool _ => True
  | .int i => i.natAbs < 10 ^ B
  | .str z => ∀ c ∈ z.cps.toList, c < 128
  | .list ds | .tuple ds => okAll B ds
  | .dict kvs => okKv B kvs
def okAll (B : Nat) : List PyData → Prop
  | [] => True
  | d :: ds => okD B d ∧ okAll B ds
def okKv (B : Nat) : List (PyData × PyData) → Prop
  | [] => True
  | (k, v) :: r => (okD B k ∧ okD B v) ∧ okKv B r
end
theorem okAll_iff {B : Nat} : ∀ {ds : List PyData}, okAll B ds ↔ ∀ d ∈ ds, okD B d
  | [] => by simp [okAll]
  | d :: ds => by
    rw [List.forall_mem_cons, ← okAll_iff (ds := ds)]
    simp only [okAll]
mutual
theorem okD.mono {B C : Nat} (h : B ≤ C) : ∀ {d : PyData}, okD B d → okD C d
  | .none, _ => by simp only [okD]
  | .bool _, _ => by simp only [okD]
  | .int i, q => by
    simp only [okD] at q ⊢
    exact Nat.lt_of_lt_of_le q (Nat.pow_le_pow_right (by decide) h)
  | .str z, q => by
    simp only [okD] at q ⊢
    exact q
  | .list ds, q => by
    simp only [okD] at q ⊢
    exact okAll.mono h q
  | .tuple ds, q => by
    simp only [okD] at q ⊢
    exact okAll.mono h q
  | .dict kvs, q => by
    simp only [okD] at q ⊢
    exact okKv.mono h q
theorem okAll.mono {B C : Nat} (h : B ≤ C) : ∀ {ds : List PyData}, okAll B ds → okAll C ds
  | [], _ => by simp only [okAll]
  | d :: ds, q => by
    simp only [okAll] at q ⊢
    exact ⟨okD.mono h q.1, okAll.mono h q.2⟩
theorem okKv.mono {B C : Nat} (h : B ≤ C) : ∀ {kvs : List (PyData × PyData)}, okKv B kvs → okKv C kvs
  | [], _ => by simp only [okKv]
  | (k, v) :: r, q => by
    simp only [okKv] at q ⊢
    exact ⟨⟨okD.mono h q.1.1, okD.mono h q.1.2⟩, okKv.mono h q.2⟩
end
theorem int_short {B : Nat} {i : Int} (hB : 1 ≤ B) (h : i.natAbs < 10 ^ B) : (PyData.shown (.int i)).length ≤ B + 1 := by
  rw [PyData.shown_int, PySem.ofString_length]
  exact int_text_length_le10 hB h
/-- str(i) -/
theorem int_signs (i : Int) : ∀ c ∈ (Str.ofString (toString i)).cps.toList, c < 128 := fun c hc => by
  by_cases h : c ≠ 45 ∧ (c < 48 ∨ 57 < c)
  · exact absurd hc (int_text_free' c h i)
  · omega
theorem int_text_size {B : Nat} {i : Int} (hB : 1 ≤ B) (h : i.natAbs < 10 ^ B) : (Str.ofString (toString i)).cps.size ≤ B + 1 := by
  have q := int_short hB h
  rw [PyData.shown_int] at q
  exact q
theorem log_small {B n : Nat} (hB : B ≤ 100) (h : n < 10 ^ B) : n.log2 < 1920 := by
  by_cases h0 : n = 0
  · subst h0
    decide
  · have h1 : n < 2 ^ 1920 := Nat.lt_of_lt_of_le h (Nat.le_trans (Nat.pow_le_pow_right (by decide) hB) (by decide))
    exact (Nat.log2_lt h0).mpr h1
mutual
theorem okD.short {B : Nat} (hB : 1 ≤ B) : ∀ {d : PyData}, okD B d → d.leavesShort (B + 8) = true
  | .none, _ => by simp only [PyData.leavesShort]
  | .bool _, _ => by simp only [PyData.leavesShort]
  | .int i, q => by
    simp only [okD] at q
    have := int_short hB q
    simp only [PyData.leavesShort]
    exact decide_eq_true (by omega)
  | .str z, q => by
    simp only [okD] at q
    simp only [PyData.leavesShort, List.all_eq_true]
    exact fun c hc => decide_eq_true (Nat.lt_trans (q c hc) (by decide))
  | .list ds, q => by
    simp only [okD, PyData.leavesShort] at q ⊢
    exact okAll.short hB q
  | .tuple ds, q => by
    simp only [okD, PyData.leavesShort] at q ⊢
    exact okAll.short hB q
  | .dict kvs, q => by
    simp only [okD, PyData.leavesShort] at q ⊢
    exact okKv.short hB q
theorem okAll.short {B : Nat} (hB : 1 ≤ B) : ∀ {ds : List PyData}, okAll B ds → PyData.leavesShortAll (B + 8) ds = true
  | [], _ => by simp only [PyData.leavesShortAll]
  | d :: ds, q => by
    simp only [okAll, PyData.leavesShortAll, Bool.and_eq_true] at q ⊢
    exact ⟨okD.short hB q.1, okAll.short hB q.2⟩
theorem okKv.short {B : Nat} (hB : 1 ≤ B) : ∀ {kvs : List (PyData × PyData)}, okKv B kvs → PyData.leavesShortKv (B + 8) kvs = true
  | [], _ => by simp only [PyData.leavesShortKv]
  | (k, v) :: r, q => by
    simp only [okKv, PyData.leavesShortKv, Bool.and_eq_true] at q ⊢
    exact ⟨⟨okD.short hB q.1.1, okD.short hB q.1.2⟩, okKv.short hB q.2⟩
end
mutual
theorem okD.show {B : Nat} (hB : B ≤ 100) : ∀ {d : PyData}, okD B d → d.showable = true
  | .none, _ => by simp only [PyData.showable]
  | .bool _, _ => by simp only [PyData.showable]
  | .int i, q => by
    simp only [okD, PyData.showable] at q ⊢
    exact decide_eq_true (log_small hB q)
  | .str z, q => by simp only [PyData.showable]
  | .list ds, q => by
    simp only [okD, PyData.showable] at q ⊢
    exact okAll.show hB q
  | .tuple ds, q => by
    simp only [okD, PyData.showable] at q ⊢
    exact okAll.show hB q
  | .dict kvs, q => by
    simp only [okD, PyData.showable] at q ⊢
    exact okKv.show hB q
theorem okAll.show {B : Nat} (hB : B ≤ 100) : ∀ {ds : List PyData}, okAll B ds → PyData.showableAll ds = true
  | [], _ => by simp only [PyData.showableAll]
  | d :: ds, q => by
    simp only [okAll, PyData.showableAll, Bool.and_eq_true] at q ⊢
    exact ⟨okD.show hB q.1, okAll.show hB q.2⟩
theorem okKv.show {B : Nat} (hB : B ≤ 100) : ∀ {kvs : List (PyData × PyData)}, okKv B kvs → PyData.showableKv kvs = true
  | [], _ => by simp only [PyData.showableKv]
  | (k, v) :: r, q => by
    simp only [okKv, PyData.showableKv, Bool.and_eq_true] at q ⊢
    exact ⟨⟨okD.show hB q.1.1, okD.show hB q.1.2⟩, okKv.show hB q.2⟩
end
theorem bulkAll_app : ∀ (a b : List PyData), PyData.bulkAll (a ++ b) = PyData.bulkAll a + PyData.bulkAll b
  | [], b => by simp [PyData.bulkAll]
  | x :: a, b => by
    rw [List.cons_append]
    simp only [PyData.bulkAll]
    rw [bulkAll_app a b]
    omega
theorem depthAll_le {n : Nat} : ∀ {ds : List PyData}, PyData.depthAll ds ≤ n ↔ ∀ d ∈ ds, d.depth ≤ n
  | [] => by simp [PyData.depthAll]
  | d :: ds => by
    rw [List.forall_mem_cons, ← depthAll_le (ds := ds)]
    simp only [PyData.depthAll]
    exact Nat.max_le
/-- data of these bounds -/
structure Fit (B W D : Nat) (d : PyData) : Prop where
  ok : okD B d
  bulk : d.bulk ≤ W
  deep : d.depth ≤ D
/-- lists of such data, of this bulk together -/
structure FitAll (B W D : Nat) (ds : List PyData) : Prop where
  ok : okAll B ds
  bulk : PyData.bulkAll ds ≤ W
  deep : PyData.depthAll ds ≤ D
theorem Fit.mono {B W D B' W' D' : Nat} {d : PyData} (h : Fit B W D d) (h1 : B ≤ B') (h2 : W ≤ W') (h3 : D ≤ D') : Fit B' W' D' d := ⟨h.ok.mono h1, Nat.le_trans h.bulk h2, Nat.le_trans h.deep h3⟩
theorem FitAll.app {B W D W' : Nat} {a b : List PyData} (h : FitAll B W D a) (g : FitAll B W' D b) : FitAll B (W + W') D (a ++ b) :=
  ⟨okAll_iff.mpr fun d hd => (List.mem_append.mp hd).elim (okAll_iff.mp h.ok d) (okAll_iff.mp g.ok d), by rw [bulkAll_app]; exact Nat.add_le_add h.bulk g.bulk, depthAll_le.mpr fun d hd => (List.mem_append.mp hd).elim (depthAll_le.mp h.deep d) (depthAll_le.mp g.deep d)⟩
theorem FitAll.tup {B W D : Nat} {a : List PyData} (h : FitAll B W D a) : Fit B W (D + 1) (.tuple a) := ⟨by simp only [okD]; exact h.ok, by simp only [PyData.bulk]; exact h.bulk, by simp only [PyData.depth]; exact Nat.succ_le_succ h.deep⟩
theorem FitAll.lst {B W D : Nat} {a : List PyData} (h : FitAll B W D a) : Fit B W (D + 1) (.list a) := ⟨by simp only [okD]; exact h.ok, by simp only [PyData.bulk]; exact h.bulk, by simp only [PyData.depth]; exact Nat.succ_le_succ h.deep⟩
theorem Fit.of_tup {B W D : Nat} {a : List PyData} (h : Fit B W (D + 1) (.tuple a)) : FitAll B W D a := ⟨by have := h.ok; simp only [okD] at this; exact this, by have := h.bulk; simp only [PyData.bulk] at this; exact this, by have := h.deep; simp only [PyData.depth] at this; omega⟩
theorem Fit.one {B W D : Nat} {d : PyData} (h : Fit B W D d) : FitAll B (W + 1) D [d] := ⟨by simp only [okAll]; exact ⟨h.ok, trivial⟩, by simp only [PyData.bulkAll]; have := h.bulk; omega, by simp only [PyData.depthAll]; have := h.deep; omega⟩
theorem FitAll.sub {B W D : Nat} {a b : List PyData} (h : FitAll B W D b) (hs : a.Sublist b) : FitAll B (PyData.bulkAll a) D a := ⟨okAll_iff.mpr fun d hd => okAll_iff.mp h.ok d (hs.subset hd), Nat.le_refl _, depthAll_le.mpr fun d hd => depthAll_le.mp h.deep d (hs.subset hd)⟩
theorem FitAll.mono {B W D B' W' D' : Nat} {d : List PyData} (h : FitAll B W D d) (h1 : B ≤ B') (h2 : W ≤ W') (h3 : D ≤ D') : FitAll B' W' D' d := ⟨h.ok.mono h1, Nat.le_trans h.bulk h2, Nat.le_trans h.deep h3⟩
theorem FitAll.len {B W D : Nat} {a : List PyData} (h : FitAll B W D a) : a.length ≤ W := by
  have key : ∀ a : List PyData, a.length ≤ PyData.bulkAll a := by
    intro a
    induction a with
    | nil => exact Nat.zero_le _
    | cons x a ih =>
      simp only [PyData.bulkAll, List.length_cons]
      omega
  exact Nat.le_trans (key a) h.bulk
/-- what repr asks -/
theorem Fit.repr {B W D : Nat} {d : PyData} (h : Fit B W D d) (h1 : 1 ≤ B) (h2 : B ≤ 40) (h3 : W ≤ 300000) (h4 : D ≤ 40) : d.showable = true ∧ d.depth ≤ 40 ∧ d.shown.length ≤ sizeLine := by
  refine ⟨h.ok.show (by omega), Nat.le_trans h.deep h4, ?_⟩
  have q := PyData.shown_le_bulk (B + 8) (by omega) d (h.ok.short h1)
  have hb := h.bulk
  have m : (B + 8 + 2) * d.bulk ≤ 50 * 300000 := Nat.mul_le_mul (by omega) (by omega)
  rw [sizeLine_eq]
  omega
/-! ### kinds -/
def tyD : PyData → String
  | .none => "NoneType"
  | .bool _ => "bool"
  | .int _ => "int"
  | .str _ => "str"
  | .list _ => "list"
  | .tuple _ => "tuple"
  | .dict _ => "dict"
theorem Dx.ty {N : Addr → Prop} {K : PySem.W.Frag} {H : Hp} {x : V} {d : PyData} (h : Dx N H x d) : TyX K H x (.type (tyD d)) := by
  cases h with
  | non => exact .base .non
  | bl b => exact .base (.bl b)
  | int i => exact .base (.int i)
  | str z => exact .base (.str z)
  | lst h _ _ => exact .base (.lst h)
  | tup h _ _ => exact .base (.tup h)
  | dct h _ _ => exact .base (.dK h)
def letterD : PyData → Bool
  | .int i => decide (0 ≤ i) && decide (i ≤ 999999)
  | _ => false
def textD : PyData → Bool
  | .tuple ds => decide (ds.length ≤ 4096) && ds.all letterD
  | _ => false
end Mo

/-! ### data written out: new, and holding nothing that was there -/
namespace Mo
open PySem PySem.Spec PyProof.Rows L2
def Was (H0 : Hp) : Addr → Prop := fun a => H0 a ≠ none
theorem Was.mono {H H' : Hp} (s : Same H H') {b : Addr} (h : Was H b) : Was H' b := by
  cases e : H b with
  | none => exact absurd e h
  | some o =>
    unfold Was
    rw [s _ _ e]
    exact Option.some_ne_none _
def LitE (te : TE) (d : PyData) : Prop := ∀ σ H Q, (∀ H' v, Same H H' → Dx (Was H) H' v d → Q v H') → te σ H Q
def LitA (ta : TA) (ds : List PyData) : Prop := ∀ σ H Q, (∀ H' vs, Same H H' → DxAll (Was H) H' vs ds → Q vs H') → ta σ H Q
theorem LitE.use {te : TE} {d : PyData} (h : LitE te d) {σ : L2.St} {H : Hp} {Q : VK} (q : ∀ H' v, Same H H' → Dx (Was H) H' v d → Q v H') : te σ H Q := h σ H Q q
theorem lit_non : LitE (tC .non) .none := fun _ _ _ q => q _ _ (Same.refl _) .non
theorem lit_bl {b : Bool} : LitE (tC (.bl b)) (.bool b) := fun _ _ _ q => q _ _ (Same.refl _) (.bl b)
theorem lit_int {i : Int} : LitE (tC (.int i)) (.int i) := fun _ _ _ q => q _ _ (Same.refl _) (.int i)
theorem lit_str {x : Str} : LitE (tC (.str x)) (.str x) := fun _ _ _ q => q _ _ (Same.refl _) (.str x)
theorem lit_neg {i : Int} : LitE (tUn (rU fun i => .int (-i)) (tC (.int i))) (.int (-i)) := fun _ _ _ q => ⟨i, rfl, q _ _ (Same.refl _) (.int _)⟩
theorem lit_pow {i j : Int} (h : CPow i j) : LitE (tOp (rI CPow fun i j => .int (i ^ j.toNat)) (tC (.int i)) (tC (.int j))) (.int (i ^ j.toNat)) := fun _ _ _ q => ⟨i, j, rfl, rfl, h, q _ _ (Same.refl _) (.int _)⟩
theorem lit_nil : LitA tNil [] := fun _ _ _ q => q _ _ (Same.refl _) .nil
theorem lit_cons {te : TE} {ta : TA} {d : PyData} {ds : List PyData} (h : LitE te d) (g : LitA ta ds) : LitA (tCons te ta) (d :: ds) := fun σ H Q q =>
  h σ H _ fun H1 v s1 hv => g σ H1 _ fun H2 vs s2 hvs => q H2 (v :: vs) (s1.trans s2) (.cons (hv.same s2) (hvs.more fun b _ z => Was.mono s1 z))
theorem lit_tup {t : TA} {ds : List PyData} (h : LitA t ds) (hl : ds.length ≤ 1000 := by decide) : LitE (tTup t) (.tuple ds) := fun σ H Q q =>
  h σ H _ fun H1 vs s1 hx => ⟨Nat.le_of_lt (small1000 (by rw [hx.length]; exact hl)), fun p np => q _ _ (s1.trans (same_new np)) (.tup upd_same (fun z => z (s1.free np)) (hx.same (same_new np)))⟩
theorem lit_lst {t : TA} {ds : List PyData} (h : LitA t ds) (hl : ds.length ≤ 1000 := by decide) : LitE (tLst t) (.list ds) := fun σ H Q q =>
  h σ H _ fun H1 vs s1 hx => ⟨Nat.le_of_lt (small1000 (by rw [hx.length]; exact hl)), fun p np => q _ _ (s1.trans (same_new np)) (.lst upd_same (fun z => z (s1.free np)) (hx.same (same_new np)))⟩
theorem lit_dnew : LitE tDNewK (.dict []) := fun σ H Q q p np => q _ _ (same_new np) (.dct (kvs := []) (ds := []) upd_same (fun z => z np) .nil)
theorem lit_disp1 {k : Key} {tv : TE} {d : PyData} (h : LitE tv d) : LitE (tDisp [(tC (kV k), tv)]) (.dict [(keyD k, d)]) := fun σ H Q q p np =>
  h σ _ _ fun H1 v s1 hv => ⟨s1 _ _ upd_same, [(k, v)], rfl, by show 1 ≤ 15; decide, by
    have n1 : H p = none := np
    have e : mergeK [] [(k, v)] = [(k, v)] := rfl
    rw [e]
    refine q _ _ (Same.put ((same_new np).trans s1) np) (.dct (kvs := [(k, v)]) (ds := [d]) upd_same (fun z => z np) (.cons ?_ .nil))
    refine (hv.more (N' := fun b => Was H b ∨ b = p) fun b _ z => z.elim (fun z => Was.mono (same_new np) z) (fun z => ?_)).but ?_ |>.more fun b _ z => .inl z
    · subst z
      unfold Was
      rw [upd_same]
      exact Option.some_ne_none _
    · intro b o nb e
      rw [upd_ne fun z => nb (.inr z)]
      exact e⟩
theorem lit_dispS {x : Str} {tv : TE} {d : PyData} (h : LitE tv d) : LitE (tDisp [(tC (.str x), tv)]) (.dict [(.str x, d)]) := lit_disp1 (k := .inr x) h
theorem lit_dispI {i : Int} {tv : TE} {d : PyData} (h : LitE tv d) : LitE (tDisp [(tC (.int i), tv)]) (.dict [(.int i, d)]) := lit_disp1 (k := .inl i) h
/-! what stands behind -/
theorem lst_dx {N : Addr → Prop} {H : Hp} {x : V} {ds : List PyData} (h : Dx N H x (.list ds)) : ∃ a xs, x = .ref a ∧ H a = some (.lst xs) ∧ ¬ N a ∧ DxAll N H xs ds := by
  generalize e : PyData.list ds = d at h
  cases h with
  | lst h n t => obtain rfl := PyData.list.inj e; exact ⟨_, _, rfl, h, n, t⟩
  | _ => cases e
theorem tpl_dx {N : Addr → Prop} {H : Hp} {x : V} {ds : List PyData} (h : Dx N H x (.tuple ds)) : ∃ a xs, x = .ref a ∧ H a = some (.tup xs) ∧ ¬ N a ∧ DxAll N H xs ds := by
  generalize e : PyData.tuple ds = d at h
  cases h with
  | tup h n t => obtain rfl := PyData.tuple.inj e; exact ⟨_, _, rfl, h, n, t⟩
  | _ => cases e
theorem keyD_inj : ∀ {a b : Key}, keyD a = keyD b → a = b
  | .inl _, .inl _, h => congrArg Sum.inl (PyData.int.inj h)
  | .inr _, .inr _, h => congrArg Sum.inr (PyData.str.inj h)
  | .inl _, .inr _, h => by cases h
  | .inr _, .inl _, h => by cases h
theorem dct1_dx {N : Addr → Prop} {H : Hp} {x : V} {k : Key} {e : PyData} (h : Dx N H x (.dict [(keyD k, e)])) : ∃ a u, x = .ref a ∧ H a = some (.dK [(k, u)]) ∧ ¬ N a ∧ Dx N H u e := by
  generalize q : PyData.dict [(keyD k, e)] = d at h
  cases h with
  | @dct a kvs ds h n t =>
    have q1 := PyData.dict.inj q
    cases kvs with
    | nil => cases t; cases q1
    | cons kv r =>
      cases t with
      | @cons _ _ d ds h1 t =>
        rw [List.map_cons, List.zip_cons_cons] at q1
        have q2 := List.cons.inj q1
        have q3 := Prod.mk.inj q2.1
        cases r with
        | nil =>
          cases t
          obtain ⟨k', u⟩ := kv
          have : k = k' := keyD_inj q3.1
          subst this
          refine ⟨a, u, rfl, h, n, ?_⟩
          rw [q3.2]
          exact h1
        | cons kv2 r =>
          cases t with
          | cons h2 t => cases q2.2
  | _ => cases q
end Mo

/-! ### own error classes over any of Python's errors -/
namespace Mo
open PySem PySem.Spec PyProof.Rows L2
open Builtin Builtin.ObjectAttr in
section
variable {prog : Program} {w : World} {A : Around} {E : Value → Shared → Prop} {R : Result → Shared → Prop} {hp : Heap} {g : Array GenState} {d : Drawn} {t : Nat} {os : OsState}
/-- the first field of such an error -/
theorem osaG {K : PySem.W.Frag} {nm : Str} {tk : Tok} {v : Value} {x C : Addr} {fv : Array Value} {cd : ClassData} {bmB : List Value} (X : K.In hp) (hx : hp.get? x = some { cls := .ref C, data := .fields fv }) (hcd : PySem.W.clsIn K C = some cd)
    (hm : PySem.W.excTail bmB cd.mro = true) (hne : bmB ≠ []) (hob : bmB.contains (.type "object") = true) (hps : ∀ self, refuseLoop self "__setattr__" bmB = pure ()) (hh : cd.hasDict = true) (ha : PySem.W.findIn K (.ref C) nm = some none)
    (hq : ∀ h' tk' dx, (∀ b o, b ≠ x → hp.get? b = some o → h'.get? b = some o) → hp.objs.size ≤ dx → dx ≠ x → h'.get? x = some { cls := .ref C, dict := some dx, data := .fields fv } → h'.Ns1 dx (fun y => if y = nm then some v else none) → R (.ok (.ret .none)) ⟨h', g, d, tk', os⟩) :
    codeAny (model prog w) A (.call (.builtin "object.__setattr__") ⟨[.ref x, .str nm tk, v], []⟩) R ⟨hp, g, d, t, os⟩ := by
  have J : PySem.W.InstAt hp x { cls := .ref C, data := .fields fv } C none := ⟨hx, rfl, rfl, trivial⟩
  have SO := PySem.F.store_object
  have e1 : cd.mro.isEmpty = false := by
    cases q : cd.mro with
    | nil =>
      rw [q] at hm
      exact absurd (beq_iff_eq.mp hm).symm hne
    | cons _ _ => rfl
  have e2 : cd.mro.contains (.type "object") = true := (PySem.W.excTail_contains "object" _ hm).trans hob
  have n1 : x ≠ hp.objs.size := Nat.ne_of_lt (Heap.lt_size hx)
  have su : PySem.W.Looks (model prog w) hp (isInstance (.ref x) (.type "object")) true := J.type.andThen (PySem.W.looks_mroIn X (by unfold PySem.W.mroIn; rw [hcd, Option.bind_some, if_neg (by rw [e1]; decide), e2]))
  refine codeAny_call_builtin SO.slot.plain SO.entry (@PySem.W.check_slot (model prog w) _ _ ⟨hp, g, d, t, os⟩ "object.__setattr__" "object" "__setattr__" (.ref x) [.str nm tk, v] [] _ SO.kind SO.split su (SO.args (.ref x) (.str nm tk) v) ?_)
  have l1 : PySem.W.Looks (model prog w) hp (mroOf (.ref C)) cd.mro := (PySem.W.looks_clsIn X hcd).andThen .now
  have l2 : PySem.W.Looks (model prog w) hp (storeTaker? none) none := .now
  have l3 : PySem.W.Looks (model prog w) hp (classData C) cd := PySem.W.looks_clsIn X hcd
  rw [PySem.W.osa_eq, refuse_eq]
  refine wpAny_bind (wpAny_bind (J.type.at (wpAny_bind (l1.at ?_))))
  rw [PySem.W.excTail_pass _ (hps _) _ hm]
  refine wpAny_pure (wpAny_bind (J.type.at (wpAny_bind ((PySem.W.looks_findIn X ha).at (wpAny_bind (l2.at ?_))))))
  show wpAny _ _ (storeInOwnDict (.ref x) (.ref C) (.str nm tk) nm v false) _ _ _
  obtain ⟨_, _, mro, _, _, hd, _, _, _, _, _⟩ := cd
  obtain rfl : hd = true := hh
  unfold storeInOwnDict ownDictForStores
  repeat (first | with_reducible refine PySem.HandSPX.store_in_new ?_ ?_ | with_reducible refine wpAny_loadPart_at hx ?_ | with_reducible refine l3.at ?_ | wp_step)
  · exact ⟨_, #[], _, (Heap.get?_update_ne _ _ _ _ n1.symm).trans (Heap.get?_push_at rfl rfl), rfl, fun e he => absurd he (by simp), fun _ => rfl⟩
  · intro h2 tk2 hn2 hs2
    have hx1 : (hp.push { cls := .type "dict", data := .dict #[] }).get? x = some { cls := .ref C, data := .fields fv } := Heap.get?_push_of_some _ hx
    exact hq h2 tk2 hp.objs.size (fun b o hb ho => (hs2.2 b (Nat.ne_of_lt (Heap.lt_size ho))).trans ((Heap.get?_update_ne _ _ _ _ hb).trans (Heap.get?_push_of_some _ ho))) (Nat.le_refl _) n1.symm ((hs2.2 x n1).trans (Heap.get?_update_self _ hx1 rfl)) hn2
end
/-- what the written part says of an own error class at C over Python's B -/
structure OvC (K : PySem.W.Frag) (C : Addr) (B newId initId : String) (bmB : List Value) : Prop where
  cls : ∃ nm q N bs bm sn sub ab col dd k0 k1 k2 k3 k5, K.lookup C = some (excClassObj nm q C N bs bm true sn sub ab col dd k0 k1 k2 k3 k5 newId) ∧ PySem.W.excTail bmB bm = true
  bas : ExcBaseFacts B newId initId bmB
  obj : bmB.contains (.type "object") = true
  pas : ∀ self, refuseLoop self "__setattr__" bmB = pure ()
  sa : PySem.W.findIn K (.ref C) "__setattr__" = some (some (.builtin "object.__setattr__"))
  exC : PySem.W.subIn K (.ref C) (.type "BaseException") = some true
  tyC : PySem.W.typeIn K (.ref C) = some (.type "type")
  kC : PySem.W.keepIn K (.ref C) = true
section
variable {X : Cx} {pins : List (Addr × Obj)} {σ : L2.St} {H : Hp} {s : Shared} {a C : Addr} {f : Str} {y : V} {u : Value} {Q : Unit → Shared → Prop} {E : Value → Shared → Prop} {A : Around} {B newId initId : String} {bmB : List Value}
theorem fieldG (T : OvC X.K C B newId initId bmB) (I : Inv X pins σ H s) (e : H a = some (exo a C none)) (hno : PySem.W.findIn X.K (.ref C) f = some none) (ry : RelV y u)
    (h : ∀ dx s', H dx = none → dx ≠ a → Inv X pins σ (upd (upd H dx (exd dx [(f, y)])) a (exo a C (some dx))) s' → Q () s') : wpAny (model X.prog X.w) A (setAttr (.ref a) f u) Q E s := by
  obtain ⟨nm, q, N, bs, bm, sn, sub, ab, col, dd, k0, k1, k2, k3, k5, hC, hbm⟩ := T.cls
  have hcl : ∃ cd, PySem.W.clsIn X.K C = some cd ∧ cd.mro = .ref C :: bm ∧ cd.hasDict = true := by
    refine ⟨⟨nm, bs, .ref C :: bm, N, q, true, sn, sub, ab, col, false⟩, ?_, rfl, rfl⟩
    unfold PySem.W.clsIn
    rw [hC]
  obtain ⟨cd, c1, c2, c3⟩ := hcl
  obtain ⟨t1, ho⟩ := exo_at I.hok e
  obtain ⟨hp, g, dr, tk, os⟩ := s
  refine PySem.W.set_plain I.kIn (ox := { cls := .ref C, dict := none, data := .fields #[.ref t1, .none, .none, .none, .bool false, .none] }) (od := none) ⟨ho, rfl, rfl, trivial⟩ T.sa ?_
  refine osaG I.kIn ho c1 (by rw [c2]; exact hbm) (fun z => ?_) T.obj T.pas c3 hno (fun h2 tk2 dx kp dn ne hx hn => ?_)
  · have z2 := T.obj
    rw [z] at z2
    cases z2
  have free : H dx = none := I.hok.fresh dn
  have old : ∀ {b : Addr} {o : Obj}, hp.get? b = some o → b ≠ dx := fun {b o} q => Nat.ne_of_lt (Nat.lt_of_lt_of_le (Heap.lt_size q) dn)
  have off : ∀ {b : Addr}, H b = none → b ≠ a := fun {b} n z => by
    subst z
    rw [e] at n
    cases n
  have un : Un X.fs [] H (upd (upd H dx (exd dx [(f, y)])) a (exo a C (some dx))) hp h2 := by
    constructor
    · exact fun b o q n _ _ => kp b o (off n) q
    · exact fun b o q n _ _ => ⟨o.slots, kp b o (off n) q⟩
    · exact fun b o q n _ => by
        rw [upd_ne (off n), upd_ne (old q)]
        exact n
    · intro b o q _
      by_cases hb : b = a
      · subst hb
        exact ⟨_, hx⟩
      · exact ⟨o, kp b o hb q⟩
    · exact fun b xs q => by
        rw [upd_ne (at_ne e q exo_tup), upd_ne (ne_of_none q free)]
        exact q
    · exact fun b o v q => by
        rw [upd_ne (at_ne e q exo_frz), upd_ne (ne_of_none q free)]
        exact q
    · exact fun b ps q => ⟨#[], by
        rw [upd_ne (at_ne e q exo_tbl), upd_ne (ne_of_none q free), q]
        simp⟩
  refine h dx _ free ne (I.un (t' := tk2) un fun b o q => ?_)
  by_cases hb : b = a
  · subst hb
    rw [upd_same] at q
    obtain rfl := Option.some.inj q
    exact exo_ok hx
  rw [upd_ne hb] at q
  by_cases hd : b = dx
  · subst hd
    rw [upd_same] at q
    obtain rfl := Option.some.inj q
    exact exd_ok hn (relO_put (fs := []) ry fun _ => True.intro)
  rw [upd_ne hd] at q
  refine (I.hok b o q).stay (fun c v hc z => kp c v ?_ z) (fun c hc => ?_) (fun c xs hc => ?_)
  · rcases hc with rfl | hc
    · exact hb
    · exact at_ne e hc exo_own
  · rw [upd_ne (at_ne e hc exo_own), upd_ne (ne_of_none hc free)]
    exact hc
  · rw [upd_ne (at_ne e hc exo_tup), upd_ne (ne_of_none hc free)]
    exact hc
end
/-- self.f = e, the one field of such an error -/
def tFieldG (K : PySem.W.Frag) (f : Str) (to te : TE) : TS := fun D σ H => te σ H fun y H1 => to σ H1 fun x H2 => ∃ (a C : Addr) (B newId initId : String) (bmB : List Value), x = .ref a ∧ OvC K C B newId initId bmB ∧ PySem.W.findIn K (.ref C) f = some none ∧
  H2 a = some (exo a C none) ∧ ∀ dx, H2 dx = none → dx ≠ a → D.nx σ (upd (upd H2 dx (exd dx [(f, y)])) a (exo a C (some dx)))
section
variable {X : Cx} {o e : Expr} {es : List Expr} {to te : TE} {ta : TA} {f : Str} {p q1 pos : Pos} {B newId initId : String} {bmB : List Value}
theorem ps_fieldG (ho : PE X o to) (he : PE X e te) (hs : swapsWith e (some (.Attribute o f q1)) pos.line X.env = pure false := by rfl) : PS X (.Assign [.Attribute o f q1] e pos) (tFieldG X.K f to te) := by
  refine ⟨fun pins s σ H D I h => ?_⟩
  refine plainObj_wpAny_Assign_Attribute (thn (he.run pins s σ H _ I h) fun v s1 ⟨y, H1, I1, r1, z1⟩ => thn (ho.run pins s1 σ H1 _ I1 z1) fun u s2 ⟨x, H2, I2, r2, a, C, B, newId, initId, bmB, ex, T, hno, ea, z⟩ => ?_) hs
  subst ex
  obtain rfl : u = Value.ref a := r2
  exact fieldG T I2 ea hno r1 fun dx s' n ne J => ⟨σ, _, J, z dx n ne⟩
/-- C(e, ..) where it is raised -/
theorem pmkG {CX : CXT} {x : Str} {C fI : Addr} {k : Nat} {fd : FuncData} {ps : List Str} {sp : Sp} (T : OvC X.K C B newId initId bmB) (iC : PySem.W.findIn X.K (.ref C) "__init__" = some (some (.ref fI))) (tI : PySem.W.typeIn X.K (.ref fI) = some (.type "function"))
    (F1 : FnOk X.prog X.w X.K X.mg X.base CX k fI fd ps sp) (hr : Room (k + 1) X.A) (hb : Binds X.K fd ps []) (hx : Passes CX X (fun _ _ _ => False)) (hg : Gl X x) (hm : X.mg x = some (.ref C)) (ha : PA X (e :: es) ta)
    (hdb : (x == ("__debug__" : Str)) = false := by decide) (he : starEach (e :: es) X.env = (false, eval e X.env) :: starEach es X.env := by rfl) (hpl : (backTo pos (starEach es X.env)).any (·.1) = false := by rfl) :
    PMk X (.Call (.Name x p) (e :: es) [] pos) (tMkO C sp [] ta) := by
  intro pins s σ H Q I h
  obtain ⟨nm, q, N, bs, bm, sn, sub, ab, col, dd, k0, k1, k2, k3, k5, hC, hbm⟩ := T.cls
  refine wpAny_Call_Name_kw (ld_glob I hg hm (PySem.W.callWith_K (h₀ := X.base) I.ok.mod.kin T.kC (thn (ha.run pos pins s σ H _ I h) fun us s1 ⟨vs, H1, I1, r1, hz, z1⟩ => ⟨I1.kIn, ?_⟩) he hpl) hdb)
  show wpAny _ _ (call (.ref C) us) _ _ _
  obtain ⟨hp, g, dr, tk, os⟩ := s1
  have le1 : hp.objs.size ≤ hp.objs.size + 1 := Nat.le_succ _
  have z2 := z1 (hp.objs.size + 1) (I1.hok.fresh le1)
  have keep : ∀ b o, hp.get? b = some o → ((hp.push (PySem.W.kdv_tup us)).push (PySem.HandSPX.excO C hp.objs.size)).get? b = some o := fun b o e => Heap.get?_push_of_some _ (Heap.get?_push_of_some _ e)
  have hget : ((hp.push (PySem.W.kdv_tup us)).push (PySem.HandSPX.excO C hp.objs.size)).get? (hp.objs.size + 1) = some (PySem.HandSPX.excO C hp.objs.size) := by heap_get
  have I2 := I1.laid (t' := tk) (a := hp.objs.size + 1) (o := exo (hp.objs.size + 1) C none) (h' := (hp.push (PySem.W.kdv_tup us)).push (PySem.HandSPX.excO C hp.objs.size)) keep le1 (exo_ok hget)
  rw [List.append_nil] at z2
  have r2 : Vals (V.ref (hp.objs.size + 1) :: vs) (Value.ref (hp.objs.size + 1) :: us) := .cons rfl r1
  have bi := hb ⟨(hp.push (PySem.W.kdv_tup us)).push (PySem.HandSPX.excO C hp.objs.size), g, dr, tk, os⟩ (Value.ref (hp.objs.size + 1) :: us) I2.kIn (by rw [List.append_nil]; exact r2.length.symm.trans (F1.len _ _ _ _ z2))
  rw [List.append_nil] at bi
  have hus : us.length ≤ sizeLine := by
    have := r1.length
    rw [sizeLine_eq]
    omega
  refine wpAny_call (PySem.HandSPX.call_own T.bas (fun Y => PySem.W.excTail_contains Y bm hbm) (I1.kIn _ _ hC) (PySem.W.looks_findIn I1.kIn iC) (fun self => PySem.W.bind_fn I1.kIn self tI) hus (codeAny_mono
    (F1.run _ X.stack _ _ ⟨Value.ref (hp.objs.size + 1) :: us, []⟩ (Value.ref (hp.objs.size + 1) :: us) _ _ (fun _ _ _ => False) (hr.make C us []) (I2.env0.make C us []) bi r2 z2) fun r s2 z3 => ?_))
  match r, z3 with
  | .error er, z3 => exact hx pins σ _ _ er s2 I2 z3
  | .ok (.ret u), z3 =>
    obtain ⟨v, H2, os2, bare2, un2, hok2, rv, ev, dx, fs, ea, ed, hd1, z4⟩ := z3
    subst ev
    obtain ⟨h2, g2, d2, t2, os'⟩ := s2
    exact ⟨rv, mk_end (raises_own T.exC T.tyC) I1 le1 keep un2 hok2 os2 bare2 ea ed hd1 z4⟩
end
/-- such a class with one field f, its __init__ at fI -/
structure ErrG (K : PySem.W.Frag) (C fI : Addr) (f : Str) (B newId initId : String) (bmB : List Value) : Prop where
  ov : OvC K C B newId initId bmB
  xf : XfC K C
  exc : ExcC K C
  no : PySem.W.findIn K (.ref C) f = some none
  te : PySem.W.exmOne K (.ref C) (.ref C) = some true
  iC : PySem.W.findIn K (.ref C) "__init__" = some (some (.ref fI))
  tI : PySem.W.typeIn K (.ref fI) = some (.type "function")
end Mo

/-! ### several 'except x as n: ..', each with its own suite -/
namespace Mo
open PySem PySem.Spec PyProof.Rows L2
/-- a clause: the class, the slot of its name, what its suite does -/
abbrev Cls3 := Value × Nat × (Addr → Value → Option Addr → TS)
/-- what the clauses wish of an error of the body, one after the other -/
def wEach (K : PySem.W.Frag) (Wout : WX) (D : Ends) : List Cls3 → WX
  | [] => Wout
  | (c, i, ts) :: r => fun cls d σ H => ∃ b, PySem.W.exmOne K cls c = some b ∧
      (b = true → ∀ a, H a = none → ts a cls d { nx := fun σ' H' => D.nx (σ'.set i none) H', rt := D.rt, bk := fun σ' H' => D.bk (σ'.set i none) H', ct := fun σ' H' => D.ct (σ'.set i none) H' } (σ.set i (some (.ref a))) H) ∧ (b = false → wEach K Wout D r cls d σ H)
inductive HdsAs (X : Cx) : List ExceptHandler → List Cls3 → Prop
  | nil : HdsAs X [] []
  | cons {x n : Str} {c : Value} {i : Nat} {ts : Addr → Value → Option Addr → TS} {b₀ : Stmt} {rest : List Stmt} {np ep : Pos} {hds : List ExceptHandler} {l : List Cls3} (hc : Names X x c) (hi : X.N[i]? = some n) (hln : X.env.kindOf n = some .local)
      (hsu : ∀ (a : Addr) (oe : Obj) (cls : Value) (d : Option Addr) (pn : List (Addr × Obj)), Zc cls d oe → (∃ vs, oe.data = .fields vs) → PSs (X.suite a ((a, oe) :: pn)) (b₀ :: rest) (ts a cls d)) (r : HdsAs X hds l) : HdsAs X (.ExceptHandler (some (.Name x np)) (some n) (b₀ :: rest) ep :: hds) ((c, i, ts) :: l)
section
variable {X : Cx} {body : List Stmt} {h₀ : ExceptHandler} {hds : List ExceptHandler} {l : List Cls3} {pos : Pos} {tb : WX → TS} {Wout : WX}
theorem ps_try_each (hs : X.stack = X.env :: X.outer) (hf : X.env.frame = some X.env.locals) (hN : X.N.Nodup) (tk : Takes X Wout)
    (hb : ∀ (W : WX) (pn : List (Addr × Obj)) (xe : Value → Shared → Prop), Takes (X.tr pn xe) W → PassesOwn (model X.prog X.w) X.A X.env xe → PSs (X.tr pn xe) body (tb W)) (hh : HdsAs X (h₀ :: hds) l) :
    PS X (.Try body (h₀ :: hds) [] [] pos) (fun D σ H => tb (wEach X.K Wout D l) D σ H) := by
  refine ⟨fun pins s σ H D I h => ?_⟩
  have ok := I.ok
  have hfr : X.A.frames = some (X.env :: X.outer) := ok.frames.trans (by rw [hs])
  refine wpAny_Try_except (wpAny_mono ((hb (wEach X.K Wout D l) (X.pn ++ pins) (fun e s₁ => wpAny (model X.prog X.w) X.A (noteFrame e X.env) (fun _ s₂ => wpAny (model X.prog X.w) X.A (setFlight e none) (fun _ s₃ => wpAny (model X.prog X.w) X.A (handleBy e X.env (h₀ :: hds)) (SP X pins D) X.xe s₃) X.xe s₂) X.xe s₁)
    (fun u s' xx => ?_) PassesOwn.looking).run [] s σ H D (I.toTry _) h) (fun f s1 hsp => ?_) (fun e s1 he => he))
  · obtain ⟨a, B, sI, pins', σ', H', cls, d, rfl, J', nb, up, sky, na, os, ag, w⟩ := xx
    have J : Inv X pins σ' H' sI := J'.ofTry ok
    show wpAny (model X.prog X.w) X.A (noteFrame (.ref a) X.env) _ _ _
    refine Sky.land Zc.steady hfr hf (hs ▸ sky) fun h3 fl3 up3 => ?_
    have J3 : Inv X pins σ' H' { s' with heap := h3 } := J.landed nb fl3.1 (up.trans up3) os ag
    obtain ⟨oe3, vs3, he3, hz3, hd3⟩ := fl3.there
    have nfr : a ∉ frs (X.env :: X.outer) := fun hm => by
      obtain ⟨_, o2, e2, hnf⟩ := fl3.2.2.1.mem hm
      rw [he3] at e2
      cases e2
      exact hnf _ hd3
    have nL : a ≠ X.env.locals := fun z => nfr (List.mem_filterMap.mpr ⟨X.env, List.mem_cons_self, hf.trans (congrArg some z.symm)⟩)
    have nF : a ∉ X.fs := fun hm => (List.mem_filterMap.mp hm).elim fun e z => nfr (List.mem_filterMap.mpr ⟨e, List.mem_cons_of_mem _ z.1, z.2⟩)
    have S3 := J3.suite he3 hd3 na nL nF
    have LT : PySem.W.Looks (model X.prog X.w) h3 (typeOf (.ref a)) cls := fun A Q E s k q => wpAny_typeOf_ref (k _ _ he3) (hz3.1 ▸ q)
    have go : ∀ {hs2 : List ExceptHandler} {l2 : List Cls3}, HdsAs X hs2 l2 → wEach X.K Wout D l2 cls d σ' H' → wpAny (model X.prog X.w) X.A (handleBy (.ref a) X.env hs2) (SP X pins D) X.xe { s' with heap := h3 } := by
      intro hs2 l2 hk
      induction hk with
      | nil =>
        intro w
        refine wpAny_handleBy_nil ?_
        obtain ⟨k1, k2, k3, oe, vs, T, oT, t2, he, hz, hd, h1, hr⟩ := id fl3
        unfold PySem.passOn
        refine wpAny_bind (wpAny_field he hd h1 ?_)
        rw [if_neg (show ¬ ((Value.ref T == Value.none) = true) from by simp)]
        have fin : wpAny (model X.prog X.w) X.A (setFlight (.ref a) X.env.frame) (fun _ s4 => wpAny (model X.prog X.w) X.A (throw (.ref a) : Sem Flow) (SP X pins D) X.xe s4) X.xe { s' with heap := h3 } := by
          rw [hf]
          refine HandSPX.setFlight_upZ fl3 fun h4 hh4 up4 => wpAny_throw (tk _ _ ⟨a, B, sI, pins, σ', H', cls, d, rfl, J, nb, (up.trans up3).trans up4, .inr (.inr (hs ▸ hh4)), na, os, ag, w⟩)
        first
          | exact wpAny_bind (wpAny_pure (wpAny_bind fin))
          | exact wpAny_bind fin
      | @cons x n c i ts b₀ rest np ep hds' l' hc hi hln hsu r ih =>
        rintro ⟨b, hb1, hyes, hno⟩
        refine wpAny_handleBy_cons (codeAny_handlers_test ?_) (by intro q; cases q)
        have test : ∀ {Q : Value → Shared → Prop} {E : Value → Shared → Prop}, Q c { s' with heap := h3 } → wpAny (model X.prog X.w) (X.A.mark (some (.ref a))) (eval (.Name x np) X.env) Q E { s' with heap := h3 } := fun {Q E} q => by
          rcases hc with ⟨hg, hdbg, hm | ⟨hm, hv, hnn⟩⟩
          · exact ld_glob (X := X.suite a ((a, oe3) :: (X.pn ++ pins))) S3 hg hm q hdbg
          · exact ld_blt (X := X.suite a ((a, oe3) :: (X.pn ++ pins))) S3 hg hm hv q hnn hdbg
        refine test ((PySem.W.exm_one (M := model X.prog X.w) J3.kIn LT hb1).here ?_)
        cases b with
        | false => exact ih (hno rfl)
        | true =>
          refine codeAny_handlers_suite_as (HandSPX.lands_againZ fl3 fun h4 fl4 up4 => ?_)
          have J4 : Inv X pins σ' H' { s' with heap := h4 } := J.landed nb fl4.1 ((up.trans up3).trans up4) os ag
          obtain ⟨oe4, vs4, he4, hz4, hd4⟩ := fl4.there
          refine store_ok (X := X.suite a ((a, oe4) :: (X.pn ++ pins))) (v := .ref a) (J4.suite he4 hd4 na nL nF) hN hi (.inl hln) rfl (fun s5 S5 => ?_) (.inr hln)
          refine wpAny_mono ((hsu a oe4 cls d (X.pn ++ pins) hz4 ⟨_, hd4⟩).run [] s5 _ H' _ S5 (hyes rfl a na)) (fun f s6 hsp => ?_) (fun _ _ z => False.elim z)
          cases f with
          | next => exact hsp.elim fun σ6 z => z.elim fun H6 z => gone_ok (z.1.unsuite ok) hN hi hln fun s7 J7 => ⟨_, _, J7, z.2⟩
          | brk => exact hsp.elim fun σ6 z => z.elim fun H6 z => gone_ok (z.1.unsuite ok) hN hi hln fun s7 J7 => ⟨_, _, J7, z.2⟩
          | cont => exact hsp.elim fun σ6 z => z.elim fun H6 z => gone_ok (z.1.unsuite ok) hN hi hln fun s7 J7 => ⟨_, _, J7, z.2⟩
          | ret u => exact hsp.elim fun v z => z.elim fun σ6 z => z.elim fun H6 z => gone_ok (z.1.unsuite ok) hN hi hln fun s7 J7 => ⟨v, _, _, J7, z.2.1, z.2.2⟩
    exact go hh w
  · cases f with
    | next => exact hsp.elim fun σ1 z => z.elim fun H1 z => wpAny_execs_nil ⟨σ1, H1, z.1.ofTry ok, z.2⟩
    | brk => exact hsp.elim fun σ1 z => z.elim fun H1 z => ⟨σ1, H1, z.1.ofTry ok, z.2⟩
    | cont => exact hsp.elim fun σ1 z => z.elim fun H1 z => ⟨σ1, H1, z.1.ofTry ok, z.2⟩
    | ret u => exact hsp.elim fun v z => z.elim fun σ1 z => z.elim fun H1 z => ⟨v, σ1, H1, z.1.ofTry ok, z.2⟩
end
/-! isinstance(e, c) in the suite, e an error with its own dict -/
/-- the error at a, its class at C, its dict at dd -/
def rIsS (K : PySem.W.Frag) (a : Addr) (cls : Value) (d : Option Addr) : List V → Hp → VK → Prop := fun xs H Q => ∃ (C dd : Addr) (fs : List (Str × V)) (c : V) (u : Value) (b : Bool), xs = [.ref a, c] ∧ cls = .ref C ∧ d = some dd ∧ H dd = some (.xd fs) ∧ ExcC K C ∧ ClsV c u ∧ PySem.W.kitOne K (.ref C) u = some b ∧ Q (.bl b) H
theorem cr_isS {X : Cx} {a : Addr} {oe : Obj} {cls : Value} {d : Option Addr} {pn : List (Addr × Obj)} (hz : Zc cls d oe) (hf : ∃ vs, oe.data = .fields vs) : CallR (X.suite a ((a, oe) :: pn)) (.builtin "isinstance") (rIsS X.K a cls d) := by
  intro pins s σ H xs us Q I r h
  obtain ⟨C, dd, fs, c, u, b, rfl, rfl, rfl, hd, T, k, e, q⟩ := h
  obtain ⟨u1, u2, rfl, r1, r2⟩ := vals2 r
  cases r1
  obtain rfl := k.eq r2
  obtain ⟨ha, _⟩ := I.pin (a, oe) (List.mem_append_left _ List.mem_cons_self)
  obtain ⟨vs, hv⟩ := hf
  obtain ⟨mA, hns, hr⟩ := (show ObjOk X.prog X.w H s.heap dd (.xd fs) from I.hok dd _ hd)
  obtain ⟨od, ho, hl⟩ := lookIn_ns hns
  exact PySem.W.kia_one (err_kit T) I.kIn ⟨oe, od, ha, hz.1, by unfold PySem.W.notCls; rw [hv] <;> rfl, by rw [hz.2]; exact ho⟩ e (fun z => nomatch z) fun tk => ⟨.bl b, H, I.tok tk, rfl, q⟩
/-- e.f in the suite -/
def tXs (K : PySem.W.Frag) (a : Addr) (cls : Value) (d : Option Addr) (f : Str) (te : TE) : TE := fun σ H Q => te σ H fun x H1 => ∃ (C dd : Addr) (fs : List (Str × V)) (v : V), x = .ref a ∧ cls = .ref C ∧ d = some dd ∧ H1 dd = some (.xd fs) ∧ XfC K C ∧ PySem.W.findIn K (.ref C) f = some none ∧ fs.lookup f = some v ∧ Q v H1
theorem pe_xs {X : Cx} {a : Addr} {oe : Obj} {cls : Value} {d : Option Addr} {pn : List (Addr × Obj)} {e : Expr} {te : TE} {pos : Pos} {f : Str} (hz : Zc cls d oe) (hf : ∃ vs, oe.data = .fields vs) (he : PE (X.suite a ((a, oe) :: pn)) e te)
    (hb : attributeBase e f X.env (eval e X.env) = eval e X.env := by rfl) : PE (X.suite a ((a, oe) :: pn)) (.Attribute e f pos) (tXs X.K a cls d f te) := by
  refine ⟨fun pins s σ H Q I h => attr_of hb (thn (he.run pins s σ H _ I h) fun u s1 hh => ?_)⟩
  obtain ⟨x, H1, I1, rx, C, dd, fs, v, rfl, rfl, rfl, ea, T, hno, l, q⟩ := hh
  obtain rfl : u = Value.ref a := rx
  obtain ⟨ha, _⟩ := I1.pin (a, oe) (List.mem_append_left _ List.mem_cons_self)
  obtain ⟨vs, hv⟩ := hf
  obtain ⟨mA, hns, hr⟩ := (show ObjOk X.prog X.w H1 s1.heap dd (.xd fs) from I1.hok dd _ ea)
  obtain ⟨od, ho, hl⟩ := lookIn_ns hns
  obtain ⟨u, hu, ru⟩ := RelO.some_of (v := v) (o := mA f) (l ▸ hr f)
  exact HandSPX.exc_get I1.kIn ⟨ha, hz.1, by unfold PySem.W.notCls; rw [hv] <;> rfl, by rw [hz.2]; exact ho⟩ T.ga T.gg T.exC (PySem.W.findObj_own T.hdC hno rfl (by rw [hl, hu])) (handed_of ru) ⟨v, H1, I1.tok _, ru, q⟩
end Mo

/-! ### dicts of anything -/
namespace Mo
open PySem PySem.Spec PyProof.Rows L2
section
variable {X : Cx}
/-- a dict of anything == {} -/
def rEqNilD : R2 := fun x y H Q => ∃ a b ks, x = .ref a ∧ y = .ref b ∧ H a = some (.dK ks) ∧ H b = some (.dK []) ∧ Q (.bl ks.isEmpty) H
theorem op_eqNilD (hu : X.A.units + 64 < cLine) : OpR X (compareOp .Eq) rEqNilD := by
  intro pins s σ H x y v u Q I rx ry h
  obtain ⟨a, b, ks, rfl, rfl, ea, eb, q⟩ := h
  obtain rfl : v = Value.ref a := rx
  obtain rfl : u = Value.ref b := ry
  obtain ⟨_, ya, va, ra, da⟩ := (show ObjOk X.prog X.w H s.heap a (.dK ks) from I.hok a _ ea)
  obtain ⟨_, yb, vb, rb, db⟩ := (show ObjOk X.prog X.w H s.heap b (.dK []) from I.hok b _ eb)
  cases rb
  have ml := ra.length
  refine PySem.W.keq_eq (knd := mixKind X.prog X.w) (r := true) ya yb da db (by omega) (fun hl => ?_) (fin_bl I q ?_)
  · have e : va = [] := List.eq_nil_of_length_eq_zero hl
    subst e
    exact .nil
  · cases ks with
    | nil => simp at ml; simp [← ml]
    | cons k r => simp at ml; simp [← ml]
theorem op_neNilTK {K : PySem.W.Frag} (h : X.K = K) (hu : X.A.units + 64 < cLine) : OpR X (compareOp .NotEq) (rNeNilT K) := by
  subst h
  exact op_neNilT hu
/-- list(a text) -/
theorem cr_lstS (hc : X.calm = true) : CallR X (.type "list") (fun xs H Q => ∃ cs : List Nat, xs = [.str (tx cs)] ∧ cs.length ≤ 100000 ∧ ∀ p, H p = none → Q (.ref p) (upd H p (.lst (cs.map sg)))) := by
  intro pins s σ H xs us Q I r h
  obtain ⟨cs, rfl, hz, q⟩ := h
  obtain ⟨u, rfl, t, rfl⟩ := vals1 r
  refine call_list_str (I.ok.hd hc) (tx cs) t (fun h' tk acc c' hk hS hacc => ?_) (by rw [tx_size]; exact fits5 hz)
  have I2 := I.laid (t' := tk) (o := .lst (cs.map sg)) (h' := h') (a := s.heap.objs.size) hk (Nat.le_refl _) ⟨by rw [List.length_map]; exact fits5 hz, acc.toList, c', vals_signs cs acc.toList (by have := hacc.1; rw [tx_size] at this; simpa using this) (fun j v e => by
    obtain ⟨c, u, e1, e2⟩ := hacc.2 j v (by simpa using e)
    exact ⟨c, u, tx_get.symm.trans e1, e2⟩), by simpa using hS⟩
  exact ⟨.ref s.heap.objs.size, _, I2, rfl, q _ (I.hok.fresh (Nat.le_refl _))⟩
theorem pi_tupK {K : PySem.W.Frag} {tg l : Expr} {tl : TE} (h : X.K = K) (hl : PE X l tl) : PI X tg l (iTup K tl) := by
  subst h
  exact pi_tup hl
/-- the turns of a walk, whatever is done in one -/
theorem turns_it {J : It} {n : Nat} {G : Hp → Prop} {Y : Nat → Hp → V → Hp → Prop} (w : Walk J n G Y) {S : V → Hp → (Hp → Prop) → Prop} {H0 : Hp} {Qd : Hp → Prop} (Pv : Nat → Hp → Prop) (h0 : Pv 0 H0) (hG : ∀ i H, i ≤ n → Pv i H → G H)
    (hs : ∀ i x H H', i < n → Pv i H → Y i H x H' → S x H' (Pv (i + 1))) (hd : ∀ H, Pv n H → Qd H) :
    ∃ W : Nat → Nat → Hp → Prop, (∃ m, W 0 m H0) ∧ ∀ i m H, W i m H → (J.stop i H ∧ Qd H) ∨ (J.go i H ∧ ∃ Nx : Hp → Prop, (∀ H', Nx H' → ∃ m', m' < m ∧ W (i + 1) m' H') ∧ ∀ x H', J.yld i H x H' → S x H' Nx) := by
  refine ⟨fun i m H => m = n - i ∧ i ≤ n ∧ Pv i H, ⟨n, by simp, Nat.zero_le _, h0⟩, fun i m H z => ?_⟩
  obtain ⟨rfl, hi, p⟩ := z
  have g := hG i H hi p
  rcases Nat.lt_or_ge i n with lt | ge
  · exact .inr ⟨w.goes i H lt g, Pv (i + 1), fun H' p' => ⟨n - (i + 1), by omega, rfl, lt, p'⟩, fun x H' y => hs i x H H' lt p (w.yields i H x H' lt g y)⟩
  · obtain rfl : i = n := Nat.le_antisymm hi ge
    exact .inl ⟨w.stops H g, hd H p⟩
end
end Mo

namespace Mo
open PySem PySem.Spec PyProof.Rows L2
def topS (i : Nat) : Stmt := PySem.Challenge.pw_mustoccur_k04_substitution.main.body.getD i (.Pass ⟨0, 0, 0, 0⟩)
abbrev sIsPattern : Stmt := topS 11
theorem scIsPattern : FnScope ["value", "name"] ["value"] (defScope sIsPattern) := ⟨rfl, rfl, rfl, by decide +kernel, rfl, by decide +kernel, by decide +kernel⟩
abbrev sIsPlainInteger : Stmt := topS 12
theorem scIsPlainInteger : FnScope ["value"] ["value"] (defScope sIsPlainInteger) := ⟨rfl, rfl, rfl, by decide +kernel, rfl, by decide +kernel, by decide +kernel⟩
abbrev sIsLetter : Stmt := topS 13
theorem scIsLetter : FnScope ["value"] ["value"] (defScope sIsLetter) := ⟨rfl, rfl, rfl, by decide +kernel, rfl, by decide +kernel, by decide +kernel⟩
abbrev sIsText : Stmt := topS 14
theorem scIsText : FnScope ["value", "letter"] ["value"] (defScope sIsText) := ⟨rfl, rfl, rfl, by decide +kernel, rfl, by decide +kernel, by decide +kernel⟩
abbrev sAreValues : Stmt := topS 15
theorem scAreValues : FnScope ["pattern", "value", "names", "name"] ["pattern", "value"] (defScope sAreValues) := ⟨rfl, rfl, rfl, by decide +kernel, rfl, by decide +kernel, by decide +kernel⟩
abbrev sCheckPattern : Stmt := topS 16
theorem scCheckPattern : FnScope ["value"] ["value"] (defScope sCheckPattern) := ⟨rfl, rfl, rfl, by decide +kernel, rfl, by decide +kernel, by decide +kernel⟩
abbrev sVariables : Stmt := topS 17
theorem scVariables : FnScope ["pattern", "at", "name"] ["pattern"] (defScope sVariables) := ⟨rfl, rfl, rfl, by decide +kernel, rfl, by decide +kernel, by decide +kernel⟩
abbrev sSubstitute : Stmt := topS 18
theorem scSubstitute : FnScope ["pattern", "values", "name", "letter"] ["pattern", "values"] (defScope sSubstitute) := ⟨rfl, rfl, rfl, by decide +kernel, rfl, by decide +kernel, by decide +kernel⟩
abbrev sLPen : Stmt := topS 20
theorem scLPen : FnScope ["_law_script"] ["_law_script"] (defScope sLPen) := ⟨rfl, rfl, rfl, by decide +kernel, rfl, by decide +kernel, by decide +kernel⟩
abbrev sLDraw : Stmt := topS 21
theorem scLDraw : FnScope ["_law_pen_here", "_law_size", "_law_digit", "_law_turn", "_law_cell", "_law_primes", "_law_prime", "_law_mixed"] ["_law_pen_here", "_law_size"] (defScope sLDraw) := ⟨rfl, rfl, rfl, by decide +kernel, rfl, by decide +kernel, by decide +kernel⟩
abbrev sLPick : Stmt := topS 22
theorem scLPick : FnScope ["_law_pen_here", "_law_options"] ["_law_pen_here", "_law_options"] (defScope sLPick) := ⟨rfl, rfl, rfl, by decide +kernel, rfl, by decide +kernel, by decide +kernel⟩
abbrev sLNames : Stmt := topS 23
theorem scLNames : FnScope ["_law_pen_here", "_law_count", "_law_letters", "_law_begin", "_law_step", "_law_k"] ["_law_pen_here", "_law_count"] (defScope sLNames) := ⟨rfl, rfl, rfl, by decide +kernel, rfl, by decide +kernel, by decide +kernel⟩
abbrev sLNested : Stmt := topS 24
theorem scLNested : FnScope ["_law_names_here", "_law_word", "_law_name"] ["_law_names_here"] (defScope sLNested) := ⟨rfl, rfl, rfl, by decide +kernel, rfl, by decide +kernel, by decide +kernel⟩
abbrev sLPattern : Stmt := topS 25
theorem scLPattern : FnScope ["_law_pen_here", "_law_size", "_law_count", "_law_names_here", "_law_way", "_law_many", "_law_k", "_law_word", "_law_at", "_law_half"] ["_law_pen_here", "_law_size", "_law_count"] (defScope sLPattern) := ⟨rfl, rfl, rfl, by decide +kernel, rfl, by decide +kernel, by decide +kernel⟩
abbrev sLOrder : Stmt := topS 26
theorem scLOrder : FnScope ["_law_pattern_here", "_law_found", "_law_sign"] ["_law_pattern_here"] (defScope sLOrder) := ⟨rfl, rfl, rfl, by decide +kernel, rfl, by decide +kernel, by decide +kernel⟩
abbrev sLFilled : Stmt := topS 27
theorem scLFilled : FnScope ["_law_pattern_here", "_law_values_here", "_law_found", "_law_sign"] ["_law_pattern_here", "_law_values_here"] (defScope sLFilled) := ⟨rfl, rfl, rfl, by decide +kernel, rfl, by decide +kernel, by decide +kernel⟩
abbrev sLShuffled : Stmt := topS 28
theorem scLShuffled : FnScope ["_law_pen_here", "_law_some", "_law_left", "_law_found"] ["_law_pen_here", "_law_some"] (defScope sLShuffled) := ⟨rfl, rfl, rfl, by decide +kernel, rfl, by decide +kernel, by decide +kernel⟩
abbrev sLValues : Stmt := topS 29
theorem scLValues : FnScope ["_law_pen_here", "_law_pattern_here", "_law_found", "_law_sign", "_law_base", "_law_k"] ["_law_pen_here", "_law_pattern_here"] (defScope sLValues) := ⟨rfl, rfl, rfl, by decide +kernel, rfl, by decide +kernel, by decide +kernel⟩
abbrev sLSpoilt : Stmt := topS 30
theorem scLSpoilt : FnScope ["_law_pen_here", "_law_values_here", "_law_found", "_law_way", "_law_sign", "_law_key"] ["_law_pen_here", "_law_values_here"] (defScope sLSpoilt) := ⟨rfl, rfl, rfl, by decide +kernel, rfl, by decide +kernel, by decide +kernel⟩
abbrev sLTold : Stmt := topS 31
theorem scLTold : FnScope ["_law_pattern_here", "_law_values_here", "e"] ["_law_pattern_here", "_law_values_here"] (defScope sLTold) := ⟨rfl, rfl, rfl, by decide +kernel, rfl, by decide +kernel, by decide +kernel⟩
abbrev sLaw : Stmt := topS 32
theorem scLaw : FnScope ["_law_script", "_law_pen_here", "_law_turn", "_law_pattern_here", "_law_values_here", "_law_kept", "_law_due", "_law_bad", "_law_two", "_law_large", "_law_told_here", "_law_sign", "_law_last"] ["_law_script"] (defScope sLaw) := ⟨rfl, rfl, rfl, by decide +kernel, rfl, by decide +kernel, by decide +kernel⟩
abbrev sInitInvalidValues : Stmt := inClass (topS 3) 0
theorem scInitInvalidValues : FnScope ["self", "value"] ["self", "value"] (defScope sInitInvalidValues) := ⟨rfl, rfl, rfl, by decide +kernel, rfl, by decide +kernel, by decide +kernel⟩
abbrev sInitTooLarge : Stmt := inClass (topS 4) 0
theorem scInitTooLarge : FnScope ["self", "limit"] ["self", "limit"] (defScope sInitTooLarge) := ⟨rfl, rfl, rfl, by decide +kernel, rfl, by decide +kernel, by decide +kernel⟩
structure Txt (K : PySem.W.Frag) (mg : Str → Option Value) where
  cInvalidText : Addr
  eInvalidText : mg "InvalidText" = some (.ref cInvalidText)
  cInvalidValues : Addr
  eInvalidValues : mg "InvalidValues" = some (.ref cInvalidValues)
  cTooLarge : Addr
  eTooLarge : mg "TooLarge" = some (.ref cTooLarge)
  iInvalidValues : Addr
  dInvalidValues : FuncData
  fInitInvalidValues : Fun K "__init__" "InvalidValues.__init__" sInitInvalidValues iInvalidValues dInvalidValues
  bInitInvalidValues : Binds K dInvalidValues ["self", "value"] []
  xInvalidValues : ErrC K cInvalidValues iInvalidValues "value"
  iTooLarge : Addr
  dTooLarge : FuncData
  fInitTooLarge : Fun K "__init__" "TooLarge.__init__" sInitTooLarge iTooLarge dTooLarge
  bInitTooLarge : Binds K dTooLarge ["self", "limit"] []
  xTooLarge : ErrG K cTooLarge iTooLarge "limit" "OverflowError" "OverflowError.__new__" "OverflowError.__init__" [.type "OverflowError", .type "ArithmeticError", .type "Exception", .type "BaseException", .type "object"]
  mTooLargeInvalidValues : PySem.W.exmOne K (.ref cTooLarge) (.ref cInvalidValues) = some false
  oInvalidValuesValueError : PySem.W.kitOne K (.ref cInvalidValues) (.type "ValueError") = some true
  oInvalidValuesInvalidText : PySem.W.kitOne K (.ref cInvalidValues) (.ref cInvalidText) = some false
  oTooLargeOverflowError : PySem.W.kitOne K (.ref cTooLarge) (.type "OverflowError") = some true
  aIsPattern : Addr
  dIsPattern : FuncData
  fIsPattern : Fun K "is_pattern" "is_pattern" sIsPattern aIsPattern dIsPattern
  bIsPattern : Binds K dIsPattern ["value"] []
  gIsPattern : mg "is_pattern" = some (.ref aIsPattern)
  aIsPlainInteger : Addr
  dIsPlainInteger : FuncData
  fIsPlainInteger : Fun K "is_plain_integer" "is_plain_integer" sIsPlainInteger aIsPlainInteger dIsPlainInteger
  bIsPlainInteger : Binds K dIsPlainInteger ["value"] []
  gIsPlainInteger : mg "is_plain_integer" = some (.ref aIsPlainInteger)
  aIsLetter : Addr
  dIsLetter : FuncData
  fIsLetter : Fun K "is_letter" "is_letter" sIsLetter aIsLetter dIsLetter
  bIsLetter : Binds K dIsLetter ["value"] []
  gIsLetter : mg "is_letter" = some (.ref aIsLetter)
  aIsText : Addr
  dIsText : FuncData
  fIsText : Fun K "is_text" "is_text" sIsText aIsText dIsText
  bIsText : Binds K dIsText ["value"] []
  gIsText : mg "is_text" = some (.ref aIsText)
  aAreValues : Addr
  dAreValues : FuncData
  fAreValues : Fun K "are_values" "are_values" sAreValues aAreValues dAreValues
  bAreValues : Binds K dAreValues ["pattern", "value"] []
  gAreValues : mg "are_values" = some (.ref aAreValues)
  aCheckPattern : Addr
  dCheckPattern : FuncData
  fCheckPattern : Fun K "check_pattern" "check_pattern" sCheckPattern aCheckPattern dCheckPattern
  bCheckPattern : Binds K dCheckPattern ["value"] []
  gCheckPattern : mg "check_pattern" = some (.ref aCheckPattern)
  aVariables : Addr
  dVariables : FuncData
  fVariables : Fun K "variables" "variables" sVariables aVariables dVariables
  bVariables : Binds K dVariables ["pattern"] []
  gVariables : mg "variables" = some (.ref aVariables)
  aSubstitute : Addr
  dSubstitute : FuncData
  fSubstitute : Fun K "substitute" "substitute" sSubstitute aSubstitute dSubstitute
  bSubstitute : Binds K dSubstitute ["pattern", "values"] []
  gSubstitute : mg "substitute" = some (.ref aSubstitute)
  aLPen : Addr
  dLPen : FuncData
  fLPen : Fun K "_law_pen" "_law_pen" sLPen aLPen dLPen
  bLPen : Binds K dLPen ["_law_script"] []
  gLPen : mg "_law_pen" = some (.ref aLPen)
  aLDraw : Addr
  dLDraw : FuncData
  fLDraw : Fun K "_law_draw" "_law_draw" sLDraw aLDraw dLDraw
  bLDraw : Binds K dLDraw ["_law_pen_here", "_law_size"] []
  gLDraw : mg "_law_draw" = some (.ref aLDraw)
  aLPick : Addr
  dLPick : FuncData
  fLPick : Fun K "_law_pick" "_law_pick" sLPick aLPick dLPick
  bLPick : Binds K dLPick ["_law_pen_here", "_law_options"] []
  gLPick : mg "_law_pick" = some (.ref aLPick)
  aLNames : Addr
  dLNames : FuncData
  fLNames : Fun K "_law_names" "_law_names" sLNames aLNames dLNames
  bLNames : Binds K dLNames ["_law_pen_here", "_law_count"] []
  gLNames : mg "_law_names" = some (.ref aLNames)
  aLNested : Addr
  dLNested : FuncData
  fLNested : Fun K "_law_nested" "_law_nested" sLNested aLNested dLNested
  bLNested : Binds K dLNested ["_law_names_here"] []
  gLNested : mg "_law_nested" = some (.ref aLNested)
  aLPattern : Addr
  dLPattern : FuncData
  fLPattern : Fun K "_law_pattern" "_law_pattern" sLPattern aLPattern dLPattern
  bLPattern : Binds K dLPattern ["_law_pen_here", "_law_size", "_law_count"] []
  gLPattern : mg "_law_pattern" = some (.ref aLPattern)
  aLOrder : Addr
  dLOrder : FuncData
  fLOrder : Fun K "_law_order" "_law_order" sLOrder aLOrder dLOrder
  bLOrder : Binds K dLOrder ["_law_pattern_here"] []
  gLOrder : mg "_law_order" = some (.ref aLOrder)
  aLFilled : Addr
  dLFilled : FuncData
  fLFilled : Fun K "_law_filled" "_law_filled" sLFilled aLFilled dLFilled
  bLFilled : Binds K dLFilled ["_law_pattern_here", "_law_values_here"] []
  gLFilled : mg "_law_filled" = some (.ref aLFilled)
  aLShuffled : Addr
  dLShuffled : FuncData
  fLShuffled : Fun K "_law_shuffled" "_law_shuffled" sLShuffled aLShuffled dLShuffled
  bLShuffled : Binds K dLShuffled ["_law_pen_here", "_law_some"] []
  gLShuffled : mg "_law_shuffled" = some (.ref aLShuffled)
  aLValues : Addr
  dLValues : FuncData
  fLValues : Fun K "_law_values" "_law_values" sLValues aLValues dLValues
  bLValues : Binds K dLValues ["_law_pen_here", "_law_pattern_here"] []
  gLValues : mg "_law_values" = some (.ref aLValues)
  aLSpoilt : Addr
  dLSpoilt : FuncData
  fLSpoilt : Fun K "_law_spoilt" "_law_spoilt" sLSpoilt aLSpoilt dLSpoilt
  bLSpoilt : Binds K dLSpoilt ["_law_pen_here", "_law_values_here"] []
  gLSpoilt : mg "_law_spoilt" = some (.ref aLSpoilt)
  aLTold : Addr
  dLTold : FuncData
  fLTold : Fun K "_law_told" "_law_told" sLTold aLTold dLTold
  bLTold : Binds K dLTold ["_law_pattern_here", "_law_values_here"] []
  gLTold : mg "_law_told" = some (.ref aLTold)
  aLaw : Addr
  dLaw : FuncData
  fLaw : Fun K "law" "law" sLaw aLaw dLaw
  bLaw : Binds K dLaw ["_law_script"] []
  gLaw : mg "law" = some (.ref aLaw)
  t_VARIABLES : Tok
  m_VARIABLES : mg "VARIABLES" = some (.str "abcdefghijklmnopqrstuvwxyz" t_VARIABLES)
  t_LONGEST_PATTERN : Tok
  m_LONGEST_PATTERN : mg "LONGEST_PATTERN" = some (.int 40 t_LONGEST_PATTERN)
  t_MOST_VARIABLES : Tok
  m_MOST_VARIABLES : mg "MOST_VARIABLES" = some (.int 8 t_MOST_VARIABLES)
  t_LONGEST_TEXT : Tok
  m_LONGEST_TEXT : mg "LONGEST_TEXT" = some (.int 4096 t_LONGEST_TEXT)
  t_GREATEST_LETTER : Tok
  m_GREATEST_LETTER : mg "GREATEST_LETTER" = some (.int 999999 t_GREATEST_LETTER)
  m_all : mg "all" = none
  m_len : mg "len" = none
  m_set : mg "set" = none
  m_isinstance : mg "isinstance" = none
  m_str : mg "str" = none
  m_bool : mg "bool" = none
  m_int : mg "int" = none
  m_tuple : mg "tuple" = none
  m_dict : mg "dict" = none
  m_enumerate : mg "enumerate" = none
  m_sum : mg "sum" = none
  m_list : mg "list" = none
  m_abs : mg "abs" = none
  m_range : mg "range" = none
  m_OverflowError : mg "OverflowError" = none
  m_ValueError : mg "ValueError" = none
  m_repr : mg "repr" = none
end Mo

namespace Mo
open PySem PySem.Spec PyProof.Rows L2
section
variable {P : Program} {w : World} {K : PySem.W.Frag} {mg : Str → Option Value} {base : Heap}
theorem ints_dp {H : Hp} : ∀ ns : List Int, DpAll K H (ns.map V.int) (ns.map PyData.int)
  | [] => .nil
  | n :: ns => .cons (.int n) (ints_dp ns)
theorem mod_in {a b : Int} (h : 0 < b) : 0 ≤ a.fmod b ∧ a.fmod b < b := by
  rw [Int.fmod_eq_emod_of_nonneg _ (Int.le_of_lt h)]
  exact ⟨Int.emod_nonneg _ (by omega), Int.emod_lt_of_pos _ h⟩
theorem div_in {a b : Int} (h : 0 < b) (ha : 0 ≤ a) : 0 ≤ a.fdiv b := by
  rw [Int.fdiv_eq_ediv_of_nonneg _ (Int.le_of_lt h)]
  exact Int.ediv_nonneg ha (Int.le_of_lt h)
theorem nat_of {i : Int} (h : 0 ≤ i) : ∃ j : Nat, i = (j : Int) := ⟨i.toNat, by omega⟩
theorem ok_draw {k : Nat} (T : Txt K mg) : FnOk P w K mg base CX0 (k + 1) T.aLDraw T.dLDraw ["_law_pen_here", "_law_size"] spDraw := by
  refine T.fLDraw.ok scLDraw (fun vs H Q E h => ?_) (fun cdv A outer s H vs Q E hr h => ?_)
  · obtain ⟨d, c, n, t, rfl, _⟩ := h
    rfl
  · obtain ⟨d, c, n, t, rfl, pen, n0, n1, ht, q⟩ := h
    have hu := hu_of hr
    obtain ⟨ns, r, hd, hc, hl, r0⟩ := id pen
    have ndc := pen.ne
    have gC := DGet.k (k := Sum.inr "cells") hd
    have gT := DGet.k (k := Sum.inr "turn") hd
    have gR := DGet.k (k := Sum.inr "rest") hd
    rw [pen_cells] at gC
    rw [pen_turn] at gT
    rw [pen_rest] at gR
    have nz : n ≠ 0 := by omega
    have na : n.natAbs < 1073741824 := by omega
    refine ⟨_, (pss_cons (ps_if (pt_cmpR op_gt (pe_dget hu (pv 0) pe_str (fun _ _ => rfl)) pe_int (nomark _)) (pss_cons (ps_set (i := 2) scLDraw.nd rfl (Or.inl rfl) (pe_op op_modN (pe_dget hu (pv 0) pe_str (fun _ _ => rfl)) (pv 1)))
      (pss_cons (ps_dput hu (pv 0) pe_str (pe_op op_fdivN (pe_dget hu (pv 0) pe_str (fun _ _ => rfl)) (pv 1)) rfl)
      (pss_one (ps_ret (pv 2))))) pss_nil)
      (pss_cons (ps_set (i := 3) scLDraw.nd rfl (Or.inl rfl) (pe_dget hu (pv 0) pe_str (fun _ _ => rfl)))
      (pss_cons (ps_dput hu (pv 0) pe_str (pe_op op_add (pv 3) pe_int) rfl)
      (pss_cons (ps_set (i := 4) scLDraw.nd rfl (Or.inl rfl) (pe_op op_add (pe_op op_mul pe_int (pv 3)) pe_int))
      (Evl.pss_cut (ps_if (pt_cmpR (op_neD hr.units) (pe_dget hu (pv 0) pe_str (fun _ _ => rfl)) (pe_lst pa_nil) (nomark _)) (pss_one (ps_set (i := 4) scLDraw.nd rfl (Or.inl rfl) (pe_ix ix_list (pe_dget hu (pv 0) pe_str (fun _ _ => rfl)) (pe_op op_modN (pv 3) (pe_callB call_len_seq (by rfl) T.m_len PySem.boot_len (pa_cons (pe_dget hu (pv 0) pe_str (fun _ _ => rfl)) pa_nil))) (fun _ _ => rfl)))) pss_nil)
      (Evl.pss_cut (ps_if (PW.pt (pw_and (pt_cmpR op_lt (pv 3) (pe_callB call_len_seq (by rfl) T.m_len PySem.boot_len (pa_cons (pe_dget hu (pv 0) pe_str (fun _ _ => rfl)) pa_nil)) (nomark _)) (pw_and1 (pt_cmpR op_ge (pe_callB call_abs (by rfl) T.m_abs (by decide +kernel) (pa_cons (pv 4) pa_nil)) (pe_op op_pow pe_int pe_int) (nomark _))))) (pss_cons (ps_dput hu (pv 0) pe_str (pe_op op_fdivN (pe_op op_sub (pe_callB call_abs (by rfl) T.m_abs (by decide +kernel) (pa_cons (pv 4) pa_nil)) (pe_op op_pow pe_int pe_int)) (pv 1)) rfl)
      (pss_one (ps_ret (pe_op op_modN (pe_op op_sub (pe_callB call_abs (by rfl) T.m_abs (by decide +kernel) (pa_cons (pv 4) pa_nil)) (pe_op op_pow pe_int pe_int)) (pv 1))))) pss_nil)
      (pss_cons (ps_set (i := 5) scLDraw.nd rfl (Or.inl rfl) (pe_lst (pa_cons pe_int (pa_cons pe_int (pa_cons pe_int (pa_cons pe_int (pa_cons pe_int pa_nil)))))))
      (pss_cons (ps_set (i := 6) scLDraw.nd rfl (Or.inl rfl) (pe_ix ix_list (pv 5) (pe_op op_modN (pv 3) pe_int) (fun _ _ => rfl)))
      (pss_cons (ps_set (i := 7) scLDraw.nd rfl (Or.inl rfl) (pe_op op_modN (pe_op op_add (pe_op op_add (pe_op op_add (pe_op op_mul (pe_op op_modN (pv 4) pe_int) pe_int) (pe_op op_mul (pe_op op_mul pe_int (pv 3)) (pv 3))) (pe_op op_mul pe_int (pv 3))) pe_int) (pv 6)))
      (pss_cons (ps_set (i := 7) scLDraw.nd rfl (Or.inl rfl) (pe_op op_modN (pe_op op_add (pe_op op_add (pe_op op_add (pe_op op_mul (pv 7) (pv 7)) (pe_op op_mul pe_int (pv 7))) (pe_op op_mul pe_int (pv 3))) pe_int) pe_int))
      (pss_one (ps_ret (pe_op op_modN (pe_op op_fdivN (pe_op op_modN (pe_op op_mul (pv 7) (pe_op op_add (pv 7) pe_int)) pe_int) pe_int) (pv 1)))))))))))))), ?_⟩
    refine ⟨_, rfl, d, _, rfl, gR, _, _, rfl, rfl, _, rfl, ite2 (fun e => ?_) (fun e => ?_)⟩
    · -- a digit of the rest
      refine ⟨_, rfl, d, _, rfl, gR, _, rfl, r, n, rfl, rfl, nz, ?_⟩
      refine ⟨_, rfl, d, _, rfl, gR, _, rfl, r, n, rfl, rfl, ⟨nz, na⟩, _, rfl, d, _, rfl, DPut.k (k := Sum.inr "rest") hd (by show 3 < sizeLine; decide), ?_⟩
      rw [put_rest]
      exact ⟨_, rfl, q _ _ t But.set (pen_set pen (div_in n0 r0)) (Nat.le_succ _) (mod_in n0).1 (mod_in n0).2⟩
    · -- turn, turn + 1
      refine ⟨_, rfl, d, _, rfl, gT, ?_⟩
      refine ⟨_, rfl, t, 1, rfl, rfl, _, rfl, d, _, rfl, DPut.k (k := Sum.inr "turn") hd (by show 3 < sizeLine; decide), ?_⟩
      rw [put_turn, show (t : Int) + 1 = ((t + 1 : Nat) : Int) by omega]
      have pen1 : Pen (upd H d (.dK (penD c ((t + 1 : Nat) : Int) r))) d c (t + 1) := pen_set pen r0
      have but1 : But d H (upd H d (.dK (penD c ((t + 1 : Nat) : Int) r))) := But.set
      generalize eH1 : upd H d (.dK (penD c ((t + 1 : Nat) : Int) r)) = H1 at *
      have hc1 : H1 c = some (.lst (ns.map V.int)) := but1 _ _ ndc.symm hc
      have hd1 : H1 d = some (.dK (penD c ((t + 1 : Nat) : Int) r)) := by rw [← eH1, upd_same]
      have gC1 := DGet.k (k := Sum.inr "cells") hd1
      rw [pen_cells] at gC1
      -- cell
      refine ⟨_, rfl, 61, t, rfl, rfl, .inl ⟨by decide, by decide⟩, _, 17, rfl, rfl, ?_⟩
      -- if cells != []
      refine ⟨fun σ' H' => ∃ (v : Int) (o2 o5 o6 o7 : Option V), σ' = [some (.ref d), some (.int n), o2, some (.int t), some (.int v), o5, o6, o7] ∧ Same H1 H', ?_, ?_⟩
      · refine ⟨_, rfl, d, _, rfl, gC1, Nat.zero_le _, fun p np => ?_⟩
        have sm := same_new (o := .lst []) np
        refine ⟨.list (ns.map PyData.int), .list [], .lst (SqL.of (sm _ _ hc1)) (ints_dp ns), .lst (SqL.of upd_same) .nil, PySem.W.ke_shaped_ints ns, rfl, _, rfl, ite2 (fun e => ?_) (fun e => ?_)⟩
        · have hne : ns ≠ [] := by
            rintro rfl
            exact absurd e (by decide)
          have gC2 := DGet.k (k := Sum.inr "cells") (sm _ _ hd1)
          rw [pen_cells] at gC2
          have hlen : 0 < ns.length := List.length_pos_iff.mpr hne
          obtain ⟨j, hj⟩ := nat_of (mod_in (a := t) (b := ((ns.map V.int).length : Int)) (by rw [List.length_map]; omega)).1
          have hj2 : j < ns.length := by
            have h2 := (mod_in (a := t) (b := ((ns.map V.int).length : Int)) (by rw [List.length_map]; omega)).2
            rw [hj, List.length_map] at h2
            omega
          refine ⟨_, rfl, d, _, rfl, gC2, _, rfl, _, rfl, d, _, rfl, gC2, c, _, rfl, .inl (SqL.of (sm _ _ hc1)), t, _, rfl, rfl, (by rw [List.length_map]; omega), c, ns.map V.int, _, .int ns[j], rfl, rfl, SqL.of (sm _ _ hc1), ?_, ?_⟩
          · rw [hj]
            exact atI_nat (by rw [List.getElem?_map, List.getElem?_eq_getElem hj2]; rfl)
          · exact ⟨_, _, _, _, _, rfl, sm⟩
        · exact ⟨_, _, _, _, _, rfl, sm⟩
      · rintro σ' H2 ⟨v, o2, o5, o6, o7, rfl, sm⟩
        have hd2 := sm _ _ hd1
        have hc2 := sm _ _ hc1
        have pen2 : Pen H2 d c (t + 1) := pen1.same sm
        have but2 : But d H H2 := but1.trans (But.same sm)
        have gC2 := DGet.k (k := Sum.inr "cells") hd2
        rw [pen_cells] at gC2
        clear e hd hc gC gT gR hd1 hc1 gC1 pen1 but1 eH1 sm pen
        -- if turn < len(cells) and abs(cell) >= 10 ** 18
        refine ⟨fun σ' H' => σ' = [some (.ref d), some (.int n), o2, some (.int t), some (.int v), o5, o6, o7] ∧ H' = H2, ?_, ?_⟩
        · refine ⟨_, rfl, _, rfl, d, _, rfl, gC2, c, _, rfl, .inl (SqL.of hc2), _, _, rfl, rfl, _, rfl, ite2 (fun e1 => ?_) (fun e1 => ?_)⟩
          · refine ⟨_, rfl, _, rfl, 10, 18, rfl, rfl, ⟨by decide, by decide, by decide⟩, _, _, rfl, rfl, _, rfl, ite2 (fun e2 => ?_) (fun e2 => ⟨rfl, rfl⟩)⟩
            have ab : (0 : Int) ≤ (if v < 0 then -v else v) - 10 ^ 18 := by
              have h2 := of_decide_eq_true e2
              have h3 : (10 : Int) ^ (18 : Int).toNat = 10 ^ 18 := rfl
              omega
            refine ⟨_, rfl, _, rfl, 10, 18, rfl, rfl, ⟨by decide, by decide, by decide⟩, _, _, rfl, rfl, _, rfl, _, _, rfl, rfl, ⟨nz, na⟩, _, rfl, d, _, rfl, DPut.k (k := Sum.inr "rest") hd2 (by show 3 < sizeLine; decide), ?_⟩
            rw [put_rest]
            refine ⟨_, rfl, _, rfl, 10, 18, rfl, rfl, ⟨by decide, by decide, by decide⟩, _, _, rfl, rfl, _, rfl, _, _, rfl, rfl, nz, ?_⟩
            exact q _ _ (t + 1) (but2.trans But.set) (pen_set pen2 (div_in n0 ab)) (Nat.le_refl _) (mod_in n0).1 (mod_in n0).2
          · exact ⟨rfl, rfl⟩
        · rintro σ' H' ⟨rfl, rfl⟩
          refine ⟨by show 5 ≤ sizeLine; decide, fun p np => ?_⟩
          have sm := same_new (o := .lst [.int 2147483629, .int 2147483647, .int 2147483563, .int 2147483587, .int 2147483579]) np
          have pen3 := pen2.same sm
          have but3 := but2.trans (But.same (d := d) sm)
          obtain ⟨pr, hp, p0, p1⟩ : ∃ pr : Int, atI [V.int 2147483629, .int 2147483647, .int 2147483563, .int 2147483587, .int 2147483579] ((t : Int).fmod 5) = some (.int pr) ∧ 0 < pr ∧ pr < 4294967296 := by
            obtain ⟨j, hj⟩ := nat_of (mod_in (a := t) (b := 5) (by decide)).1
            have hj2 := (mod_in (a := (t : Int)) (b := 5) (by decide)).2
            rw [hj] at hj2 ⊢
            have hj3 : j < 5 := by omega
            match j, hj3 with
            | 0, _ => exact ⟨_, rfl, by decide, by decide⟩
            | 1, _ => exact ⟨_, rfl, by decide, by decide⟩
            | 2, _ => exact ⟨_, rfl, by decide, by decide⟩
            | 3, _ => exact ⟨_, rfl, by decide, by decide⟩
            | 4, _ => exact ⟨_, rfl, by decide, by decide⟩
          refine ⟨_, rfl, _, rfl, _, 5, rfl, rfl, (by show (5 : Int) ≠ 0; decide), p, _, _, _, rfl, rfl, SqL.of upd_same, hp, ?_⟩
          generalize upd H' p _ = H3 at *
          -- mixed
          refine ⟨_, rfl, _, 4294967291, rfl, rfl, (by show (4294967291 : Int) ≠ 0; decide), _, 48271, rfl, rfl, .inr ⟨by decide, by decide⟩, ?_⟩
          refine ⟨_, rfl, 40503, t, rfl, rfl, .inl ⟨by decide, by decide⟩, _, rfl, _, t, rfl, rfl, .inr ⟨by omega, by omega⟩, _, _, rfl, rfl, ?_⟩
          refine ⟨_, rfl, 69621, t, rfl, rfl, .inl ⟨by decide, by decide⟩, _, _, rfl, rfl, _, 11, rfl, rfl, _, rfl, _, pr, rfl, rfl, by omega, ?_⟩
          have m1 := mod_in (a := v.fmod 4294967291 * 48271 + 40503 * (t : Int) * t + 69621 * t + 11) p0
          generalize em : (v.fmod 4294967291 * 48271 + 40503 * (t : Int) * t + 69621 * t + 11).fmod pr = m at m1
          refine ⟨_, rfl, _, rfl, m, m, congrArg V.int em, congrArg V.int em, .inl ⟨by omega, by omega⟩, _, rfl, 16807, m, rfl, congrArg V.int em, .inl ⟨by decide, by decide⟩, _, _, rfl, rfl, ?_⟩
          refine ⟨_, rfl, 7, t, rfl, rfl, .inl ⟨by decide, by decide⟩, _, _, rfl, rfl, _, 5, rfl, rfl, _, 4294967279, rfl, rfl, (by show (4294967279 : Int) ≠ 0; decide), ?_⟩
          have m2 := mod_in (a := m * m + 16807 * m + 7 * t + 5) (b := 4294967279) (by decide)
          generalize em' : (m * m + 16807 * m + 7 * (t : Int) + 5).fmod 4294967279 = m' at m2
          refine ⟨_, rfl, _, rfl, m', 39916801, congrArg V.int em', rfl, m', _, congrArg V.int em', rfl, .inl ⟨by omega, by omega⟩, _, 4294967231, rfl, rfl, (by show (4294967231 : Int) ≠ 0; decide), _, 32, rfl, rfl, ⟨by decide, by decide⟩, _, rfl, _, n, rfl, rfl, nz, ?_⟩
          exact q _ _ (t + 1) but3 pen3 (Nat.le_refl _) (mod_in n0).1 (mod_in n0).2
end
end Mo

namespace Mo
open PySem PySem.Spec PyProof.Rows L2
section
variable {P : Program} {w : World} {K : PySem.W.Frag} {mg : Str → Option Value} {base : Heap}
theorem ok_pick {k : Nat} (T : Txt K mg) : FnOk P w K mg base CX0 (k + 2) T.aLPick T.dLPick ["_law_pen_here", "_law_options"] (spPick K) := by
  have GLDraw : FnOk P w K mg base CX0 (k + 1) T.aLDraw T.dLDraw ["_law_pen_here", "_law_size"] spDraw := ok_draw T
  refine T.fLPick.ok scLPick (fun vs H Q E h => ?_) (fun cdv A outer s H vs Q E hr h => ?_)
  · obtain ⟨d, c, l, xs, t, rfl, _⟩ := h
    rfl
  · obtain ⟨d, c, l, xs, t, rfl, pen, hl, nld, h0, h1, ht, q⟩ := h
    refine ⟨_, (pss_one (ps_ret (pe_ix ix_list (pv 1) (pe_call GLDraw hr (by rfl) T.gLDraw T.fLDraw.kp T.bLDraw .nil pass0 (pa_cons (pv 0) (pa_cons (pe_callB call_len_seq (by rfl) T.m_len PySem.boot_len (pa_cons (pv 1) pa_nil)) pa_nil))) (fun _ _ => rfl)))), ?_⟩
    refine ⟨_, rfl, _, rfl, _, rfl, l, xs, rfl, .inl hl, d, c, _, t, rfl, pen, by omega, by omega, ht, fun H' k t' but pen' ht' k0 k1 => ?_⟩
    obtain ⟨j, rfl⟩ := nat_of k0
    have hj : j < xs.length := by omega
    have hl' : SqL K H' l xs := by
      rcases hl with (e | ⟨o, e⟩) | e
      · exact .inl (.inl (but _ _ nld e))
      · exact .inl (.inr ⟨o, but _ _ nld e⟩)
      · exact .inr e
    exact ⟨l, xs, j, xs[j], rfl, rfl, hl', atI_nat (List.getElem?_eq_getElem hj), q H' _ t' but pen' ht' (List.getElem_mem hj)⟩
/-- names: n different small letters -/
def spNames : Sp := fun vs H Q _ => ∃ (d c : Addr) (n t : Nat), vs = [.ref d, .int n] ∧ Pen H d c t ∧ n ≤ 26 ∧ t + 2 < 1073741824 ∧
  ∀ H' p cs t', But d H H' → Pen H' d c t' → t' ≤ t + 2 → H p = none → p ≠ d → H' p = some (.lst (cs.map sg)) → cs.length = n → cs.Nodup → Low cs → Q (.ref p) H'
def lett : List Nat := [97, 98, 99, 100, 101, 102, 103, 104, 105, 106, 107, 108, 109, 110, 111, 112, 113, 114, 115, 116, 117, 118, 119, 120, 121, 122]
def nm (b st : Int) (k : Nat) : Nat := 97 + ((b + st * (k : Int)).fmod 26).toNat
theorem lett_at : ∀ j : Fin 26, lett[j.val]? = some (97 + j.val) := by decide
theorem lett_text : (Str.ofString "abcdefghijklmnopqrstuvwxyz").cps.toList = lett := by decide +kernel
theorem lett_ix {i : Int} (h0 : 0 ≤ i) (h1 : i < 26) : atI (Str.ofString "abcdefghijklmnopqrstuvwxyz").cps.toList i = some (97 + i.toNat) := by
  obtain ⟨j, rfl⟩ := nat_of h0
  rw [lett_text]
  exact atI_nat (lett_at ⟨j, by omega⟩)
theorem nm_low (b st : Int) (k : Nat) : 97 ≤ nm b st k ∧ nm b st k ≤ 122 := by
  have h := mod_in (a := b + st * (k : Int)) (b := 26) (by decide)
  unfold nm
  omega
def steps26 : List Int := [1, 3, 5, 7, 9, 11, 15, 17, 19, 21, 23, 25]
theorem nm_inj {b st : Int} (hs : st ∈ steps26) {i j : Nat} (hij : i < j) (hj : j < 26) : nm b st i ≠ nm b st j := by
  unfold nm
  rw [Int.fmod_eq_emod_of_nonneg _ (by decide), Int.fmod_eq_emod_of_nonneg _ (by decide)]
  have h1 := Int.emod_nonneg (b + st * (i : Int)) (b := 26) (by decide)
  have h2 := Int.emod_nonneg (b + st * (j : Int)) (b := 26) (by decide)
  intro e
  have e2 : (b + st * (i : Int)) % 26 = (b + st * (j : Int)) % 26 := by omega
  clear e h1 h2
  simp only [steps26, List.mem_cons, List.not_mem_nil, or_false] at hs
  rcases hs with rfl | rfl | rfl | rfl | rfl | rfl | rfl | rfl | rfl | rfl | rfl | rfl <;> omega
theorem nm_nodup {b st : Int} (hs : st ∈ steps26) {n : Nat} (hn : n ≤ 26) : ((List.range n).map (nm b st)).Nodup := by
  unfold List.Nodup
  rw [List.pairwise_map]
  refine List.Pairwise.imp_of_mem (fun {x y} hx hy hlt => ?_) (List.pairwise_lt_range (n := n))
  have := List.mem_range.mp hy
  exact nm_inj hs hlt (by omega)
theorem take_range_snoc {f : Nat → V} {i : Nat} : (List.range (i + 1)).map f = (List.range i).map f ++ [f i] := by
  rw [List.range_succ, List.map_append]
  rfl
theorem ok_names {k : Nat} (T : Txt K mg) : FnOk P w K mg base CX0 (k + 3) T.aLNames T.dLNames ["_law_pen_here", "_law_count"] spNames := by
  have GLDraw : FnOk P w K mg base CX0 (k + 2) T.aLDraw T.dLDraw ["_law_pen_here", "_law_size"] spDraw := ok_draw T
  have GLPick : FnOk P w K mg base CX0 (k + 2) T.aLPick T.dLPick ["_law_pen_here", "_law_options"] (spPick K) := ok_pick T
  refine T.fLNames.ok scLNames (fun vs H Q E h => ?_) (fun cdv A outer s H vs Q E hr h => ?_)
  · obtain ⟨d, c, n, t, rfl, _⟩ := h
    rfl
  · obtain ⟨d, c, n, t, rfl, pen, hn, ht, q⟩ := h
    refine ⟨_, (pss_cons (ps_set (i := 2) scLNames.nd rfl (Or.inr rfl) pe_str)
      (pss_cons (ps_asg (pe_tup (pa_cons (pe_call GLDraw hr (by rfl) T.gLDraw T.fLDraw.kp T.bLDraw .nil pass0 (pa_cons (pv 0) (pa_cons pe_int pa_nil))) (pa_cons (pe_call GLPick hr (by rfl) T.gLPick T.fLPick.kp T.bLPick .nil pass0 (pa_cons (pv 0) (pa_cons (pe_lst (pa_cons pe_int (pa_cons pe_int (pa_cons pe_int (pa_cons pe_int (pa_cons pe_int (pa_cons pe_int (pa_cons pe_int (pa_cons pe_int (pa_cons pe_int (pa_cons pe_int (pa_cons pe_int (pa_cons pe_int pa_nil))))))))))))) pa_nil))) pa_nil))) (pg_tup (by rfl) (pgs_cons (pg_name (i := 3) scLNames.nd rfl (Or.inr rfl)) (pgs_cons (pg_name (i := 4) scLNames.nd rfl (Or.inr rfl)) pgs_nil))))
      (pss_one (ps_ret (pe_lc (own := [("_law_k", 5)]) (g := gName 5) (tt := tYes) rfl scLNames.nd (pi_range1 (by rfl) T.m_range (pa_cons (pv 1) pa_nil)) (blkOk_by (N := ["_law_pen_here", "_law_count", "_law_letters", "_law_begin", "_law_step", "_law_k"]) (sc := defScope sLNames) (by decide +kernel)) (fun _ _ _ _ _ => pg_name (i := 5) scLNames.nd rfl (Or.inl rfl)) (fun _ _ _ _ _ => pts_nil) (fun _ _ _ _ _ => (pe_ix ix_str (pv 2) (pe_op op_modN (pe_op op_add (pv 3) (pe_op op_mul (pv 4) (pv 5))) pe_int) (fun _ _ => rfl)))))))), ?_⟩
    refine ⟨_, rfl, d, c, 26, t, rfl, pen, by decide, by decide, by omega, fun H1 b t1 but1 pen1 ht1 b0 b1 => ?_⟩
    refine ⟨_, rfl, by show 12 ≤ sizeLine; decide, fun l nl => ?_⟩
    have sm1 := same_new (o := .lst (steps26.map V.int)) nl
    refine ⟨d, c, l, _, t1, rfl, pen1.same sm1, SqL.of upd_same, (pen1.new nl).1, by show 0 < 12; decide, by show 12 < _; decide, by omega, fun H2 v t2 but2 pen2 ht2 hv => ?_⟩
    obtain ⟨st, hst, rfl⟩ : ∃ st ∈ steps26, v = .int st := by
      have hv' : v ∈ steps26.map V.int := hv
      obtain ⟨st, h1, h2⟩ := List.mem_map.mp hv'
      exact ⟨st, h1, h2.symm⟩
    refine ⟨by show 2 ≤ sizeLine; decide, fun tp ntp => ?_⟩
    have sm2 := same_new (o := .tup [.int b, .int st]) ntp
    refine ⟨tp, [.int b, .int st], rfl, SqT.of upd_same, rfl, _, _, rfl, _, _, rfl, rfl, ?_⟩
    have pen3 := pen2.same sm2
    have but3 : But d H (upd H2 tp (.tup [.int b, .int st])) := ((but1.trans (But.same sm1)).trans but2).trans (But.same sm2)
    generalize upd H2 tp (.tup [.int b, .int st]) = H3 at *
    refine ⟨_, rfl, n, rfl, by omega, by omega, fun D nD => ?_⟩
    have nDp := pen3.new nD
    refine lc_range (lo := 0) (n := n) (fun i H' => But d H3 H' ∧ Pen H' d c t2 ∧ H' D = some (.lst ((List.range i).map fun k => sg (nm b st k)))) ?_ ?_ ?_
    · exact ⟨But.same (same_new nD), pen3.same (same_new nD), upd_same⟩
    · rintro i H' hi ⟨bt, pn, hD⟩
      refine ⟨rfl, _, rfl, _, rfl, _, rfl, _, rfl, st, _, rfl, rfl, ?_, _, _, rfl, rfl, _, 26, rfl, rfl, (by show (26 : Int) ≠ 0; decide), _, _, nm b st i, rfl, rfl, by decide, ?_, _, hD, ?_, ?_⟩
      · exact .inr ⟨by omega, by omega⟩
      · rw [Int.zero_add]
        exact lett_ix (mod_in (by decide)).1 (mod_in (by decide)).2
      · exact small1000 (by rw [List.length_map, List.length_range]; omega)
      · exact ⟨bt.put nD, pn.upd nDp.1 nDp.2, by rw [upd_same, take_range_snoc]⟩
    · rintro H' ⟨bt, pn, hD⟩
      refine q H' D ((List.range n).map (nm b st)) t2 (but3.trans bt) pn (by omega) (but3.none nD nDp.1) nDp.1 ?_ ?_ (nm_nodup hst hn) ?_
      · rw [hD, List.map_map]
        rfl
      · simp
      · intro x hx
        obtain ⟨k, _, rfl⟩ := List.mem_map.mp hx
        exact nm_low b st k
end
end Mo

namespace Mo
open PySem PySem.Spec PyProof.Rows L2
section
variable {P : Program} {w : World} {K : PySem.W.Frag} {mg : Str → Option Value} {base : Heap}
/-- nested: letters of names alone, at least one if there is a name -/
def spNested (K : PySem.W.Frag) : Sp := fun vs H Q _ => ∃ (l : Addr) (cs : List Nat), vs = [.ref l] ∧ SqL K H l (cs.map sg) ∧ cs.length ≤ 12 ∧
  ∀ zs : List Nat, (∀ c ∈ zs, c ∈ cs) → zs.length + 1 = 2 ^ cs.length → Q (.str (tx zs)) H
theorem ok_nested {k : Nat} (T : Txt K mg) : FnOk P w K mg base CX0 (k + 1) T.aLNested T.dLNested ["_law_names_here"] (spNested K) := by
  refine T.fLNested.ok scLNested (fun vs H Q E h => ?_) (fun cdv A outer s H vs Q E hr h => ?_)
  · obtain ⟨l, cs, rfl, _⟩ := h
    rfl
  · obtain ⟨l, cs, rfl, hl, hn, q⟩ := h
    refine ⟨_, (pss_cons (ps_set (i := 1) scLNested.nd rfl (Or.inl rfl) pe_str)
      (pss_cons (ps_for PassesOwn.never rfl (pi_list (pv 0)) (pg_name (i := 2) scLNested.nd rfl (Or.inl rfl)) (pss_one (ps_set (i := 1) scLNested.nd rfl (Or.inl rfl) (pe_op op_add_str (pe_op op_add_str (pv 1) (pv 2)) (pv 1)))))
      (pss_one (ps_ret (pv 1))))), ?_⟩
    have hp : ∀ i, i ≤ cs.length → 2 ^ i ≤ 4096 := fun i hi => Nat.le_trans (Nat.pow_le_pow_right (by decide) (Nat.le_trans hi hn)) (by decide)
    refine ⟨_, rfl, l, rfl, ⟨_, hl⟩, for_list (xs := cs.map sg) (fun i σ H' => ∃ (zs : List Nat) (o : Option V), σ = [some (.ref l), some (.str (tx zs)), o] ∧ H' = H ∧ (∀ c ∈ zs, c ∈ cs) ∧ zs.length + 1 = 2 ^ i) ?_ ?_ ?_ ?_⟩
    · exact ⟨[], none, by rw [← tx_nil]; rfl, rfl, by simp, rfl⟩
    · rintro i σ H' _ ⟨zs, o, rfl, rfl, _⟩
      exact hl
    · rintro i x σ H' hx ⟨zs, o, rfl, rfl, hz, hlen⟩
      obtain ⟨c, hc, rfl⟩ : ∃ c, cs[i]? = some c ∧ x = sg c := by
        rw [List.getElem?_map] at hx
        cases e : cs[i]? with
        | none => rw [e] at hx; cases hx
        | some c => rw [e] at hx; exact ⟨c, rfl, (Option.some.inj hx).symm⟩
      have hi : i < cs.length := (List.getElem?_eq_some_iff.mp hc).1
      have b1 := hp (i + 1) hi
      have e1 : 2 ^ (i + 1) = 2 * 2 ^ i := by rw [Nat.pow_succ]; omega
      refine ⟨_, rfl, _, rfl, tx zs, ⟨#[c]⟩, rfl, rfl, ?_, _, rfl, _, tx zs, rfl, rfl, ?_, ?_⟩
      · exact fits5 (by rw [tx_len]; show zs.length + 1 ≤ _; omega)
      · rw [tx_app1]
        exact fits5 (by rw [tx_len, tx_len, List.length_append, List.length_singleton]; omega)
      · rw [tx_app1, tx_app]
        refine ⟨zs ++ [c] ++ zs, _, rfl, rfl, fun x hx => ?_, ?_⟩
        · rcases List.mem_append.mp hx with hx | hx
          · rcases List.mem_append.mp hx with hx | hx
            · exact hz x hx
            · rw [List.mem_singleton.mp hx]
              exact List.mem_of_getElem? hc
          · exact hz x hx
        · rw [List.length_append, List.length_append, List.length_singleton]
          omega
    · rintro σ H' ⟨zs, o, rfl, rfl, hz, hlen⟩
      rw [List.length_map] at hlen
      exact ⟨_, rfl, q zs hz hlen⟩
end
end Mo

namespace Mo
open PySem PySem.Spec PyProof.Rows L2
section
variable {P : Program} {w : World} {K : PySem.W.Frag} {mg : Str → Option Value} {base : Heap}
theorem nodup_sub_len : ∀ (a b : List Nat), a.Nodup → (∀ x ∈ a, x ∈ b) → a.length ≤ b.length
  | [], b, _, _ => Nat.zero_le _
  | x :: a, b, hn, hs => by
    have hx : x ∈ b := hs x List.mem_cons_self
    have hn2 := List.nodup_cons.mp hn
    have ih := nodup_sub_len a (b.erase x) hn2.2 fun y hy => by
      have ne : y ≠ x := fun e => hn2.1 (e ▸ hy)
      exact (List.mem_erase_of_ne ne).mpr (hs y (List.mem_cons_of_mem _ hy))
    rw [List.length_erase_of_mem hx] at ih
    have := List.length_pos_of_mem hx
    rw [List.length_cons]
    omega
theorem met_sub_len {zs cs : List Nat} (h : ∀ x ∈ zs, x ∈ cs) : (met zs).length ≤ cs.length := nodup_sub_len _ _ (met_nodup zs) fun x hx => h x (mem_met.mp hx)
theorem cut_tx (zs : List Nat) (lo hi : Option Int) : cutS (tx zs) lo hi = tx ((zs.drop (HT.sIx zs.length 0 lo)).take (HT.sIx zs.length zs.length hi - HT.sIx zs.length 0 lo)) := by
  unfold cutS
  rw [tx_len]
  rfl
theorem signs_map (zs : List Nat) : zs.map sg = (zs.map fun c => (⟨#[c]⟩ : Str)).map V.str := by rw [List.map_map]; rfl
theorem signs_room {zs : List Nat} (h : zs.length ≤ 100000) : ((zs.map fun c => (⟨#[c]⟩ : Str)).map (·.length)).sum + (zs.map fun c => (⟨#[c]⟩ : Str)).length * (Str.ofString "").length ≤ 16777216 := by
  have e : ((zs.map fun c => (⟨#[c]⟩ : Str)).map (·.length)) = zs.map fun _ => 1 := by
    rw [List.map_map]
    rfl
  have e2 : ∀ l : List Nat, (l.map fun _ => 1).sum = l.length := by
    intro l
    induction l with
    | nil => rfl
    | cons x l ih => simp [ih]; omega
  have e3 : (Str.ofString "").length = 0 := by decide
  rw [e, e2, e3]
  omega
/-- pattern: at most size letters, at most count different ones, all of them small -/
def spPattern : Sp := fun vs H Q _ => ∃ (d c : Addr) (size count t : Nat), vs = [.ref d, .int size, .int count] ∧ Pen H d c t ∧ size ≤ 42 ∧ 0 < count ∧ count ≤ 10 ∧ t < 1000000 ∧
  ∀ H' zs t', But d H H' → Pen H' d c t' → t' ≤ t + 60 → zs.length ≤ size → Low zs → (met zs).length ≤ count → Q (.str (tx zs)) H'
theorem ok_pattern {k : Nat} (T : Txt K mg) : FnOk P w K mg base CX0 (k + 4) T.aLPattern T.dLPattern ["_law_pen_here", "_law_size", "_law_count"] spPattern := by
  have GLDraw : FnOk P w K mg base CX0 (k + 3) T.aLDraw T.dLDraw ["_law_pen_here", "_law_size"] spDraw := ok_draw T
  have GLPick : FnOk P w K mg base CX0 (k + 3) T.aLPick T.dLPick ["_law_pen_here", "_law_options"] (spPick K) := ok_pick T
  have GLNames : FnOk P w K mg base CX0 (k + 3) T.aLNames T.dLNames ["_law_pen_here", "_law_count"] spNames := ok_names T
  have GLNested : FnOk P w K mg base CX0 (k + 3) T.aLNested T.dLNested ["_law_names_here"] (spNested K) := ok_nested T
  refine T.fLPattern.ok scLPattern (fun vs H Q E h => ?_) (fun cdv A outer s H vs Q E hr h => ?_)
  · obtain ⟨d, c, size, count, t, rfl, _⟩ := h
    rfl
  · obtain ⟨d, c, size, count, t, rfl, pen, hsz, hc0, hc1, ht, q⟩ := h
    refine ⟨_, (pss_cons (ps_asg (pe_tup (pa_cons (pe_call GLNames hr (by rfl) T.gLNames T.fLNames.kp T.bLNames .nil pass0 (pa_cons (pv 0) (pa_cons (pe_op op_add pe_int (pe_call GLDraw hr (by rfl) T.gLDraw T.fLDraw.kp T.bLDraw .nil pass0 (pa_cons (pv 0) (pa_cons (pv 2) pa_nil)))) pa_nil))) (pa_cons (pe_call GLDraw hr (by rfl) T.gLDraw T.fLDraw.kp T.bLDraw .nil pass0 (pa_cons (pv 0) (pa_cons pe_int pa_nil))) pa_nil))) (pg_tup (by rfl) (pgs_cons (pg_name (i := 3) scLPattern.nd rfl (Or.inr rfl)) (pgs_cons (pg_name (i := 4) scLPattern.nd rfl (Or.inl rfl)) pgs_nil))))
      (pss_cons (ps_set (i := 5) scLPattern.nd rfl (Or.inl rfl) (pe_call GLDraw hr (by rfl) T.gLDraw T.fLDraw.kp T.bLDraw .nil pass0 (pa_cons (pv 0) (pa_cons (pe_op op_add (pv 1) pe_int) pa_nil))))
      (pss_cons (ps_if (pt_cmpR op_eq (pv 4) pe_int (nomark _)) (pss_one (ps_ret (pe_join pe_str (pe_lc (own := [("_law_k", 6)]) (g := gName 6) (tt := tYes) rfl scLPattern.nd (pi_range1 (by rfl) T.m_range (pa_cons (pv 5) pa_nil)) (blkOk_by (N := ["_law_pen_here", "_law_size", "_law_count", "_law_names_here", "_law_way", "_law_many", "_law_k", "_law_word", "_law_at", "_law_half"]) (sc := defScope sLPattern) (by decide +kernel)) (fun _ _ _ _ _ => pg_name (i := 6) scLPattern.nd rfl (Or.inl rfl)) (fun _ _ _ _ _ => pts_nil) (fun _ _ _ _ _ => (pe_call GLPick hr (by rfl) T.gLPick T.fLPick.kp T.bLPick .nil pass0 (pa_cons (pv 0) (pa_cons (pv 3) pa_nil)))))))) pss_nil)
      (pss_cons (ps_if (pt_cmpR op_lt (pv 4) pe_int (nomark _)) (pss_cons (ps_set (i := 7) scLPattern.nd rfl (Or.inl rfl) (pe_call GLNested hr (by rfl) T.gLNested T.fLNested.kp T.bLNested .nil pass0 (pa_cons (pv 3) pa_nil)))
      (pss_cons (ps_set (i := 8) scLPattern.nd rfl (Or.inl rfl) (pe_call GLDraw hr (by rfl) T.gLDraw T.fLDraw.kp T.bLDraw .nil pass0 (pa_cons (pv 0) (pa_cons (pe_callB call_len_str (by rfl) T.m_len PySem.boot_len (pa_cons (pv 7) pa_nil)) pa_nil))))
      (pss_one (ps_ret (pe_slice sl_str (pv 7) (po_some (pv 8)) (po_some (pe_op op_add (pv 8) (pv 5)))))))) pss_nil)
      (pss_cons (ps_if (pt_cmpR op_eq (pv 4) pe_int (nomark _)) (pss_one (ps_ret (pe_join pe_str (pe_lc (own := [("_law_k", 6)]) (g := gName 6) (tt := tYes) rfl scLPattern.nd (pi_range1 (by rfl) T.m_range (pa_cons (pv 5) pa_nil)) (blkOk_by (N := ["_law_pen_here", "_law_size", "_law_count", "_law_names_here", "_law_way", "_law_many", "_law_k", "_law_word", "_law_at", "_law_half"]) (sc := defScope sLPattern) (by decide +kernel)) (fun _ _ _ _ _ => pg_name (i := 6) scLPattern.nd rfl (Or.inl rfl)) (fun _ _ _ _ _ => pts_nil) (fun _ _ _ _ _ => (pe_ix (Mo.ix_listK (K := K) rfl) (pv 3) (pe_op op_modN (pv 6) (pe_callB (Mo.call_len_seqK (K := K) rfl) (by rfl) T.m_len PySem.boot_len (pa_cons (pv 3) pa_nil))) (fun _ _ => rfl))))))) pss_nil)
      (pss_cons (ps_set (i := 9) scLPattern.nd rfl (Or.inl rfl) (pe_join pe_str (pe_lc (own := [("_law_k", 6)]) (g := gName 6) (tt := tYes) rfl scLPattern.nd (pi_range1 (by rfl) T.m_range (pa_cons (pe_op op_fdivN (pv 5) pe_int) pa_nil)) (blkOk_by (N := ["_law_pen_here", "_law_size", "_law_count", "_law_names_here", "_law_way", "_law_many", "_law_k", "_law_word", "_law_at", "_law_half"]) (sc := defScope sLPattern) (by decide +kernel)) (fun _ _ _ _ _ => pg_name (i := 6) scLPattern.nd rfl (Or.inl rfl)) (fun _ _ _ _ _ => pts_nil) (fun _ _ _ _ _ => (pe_call GLPick hr (by rfl) T.gLPick T.fLPick.kp T.bLPick .nil pass0 (pa_cons (pv 0) (pa_cons (pv 3) pa_nil)))))))
      (pss_one (ps_ret (pe_slice sl_str (pe_call GLPick hr (by rfl) T.gLPick T.fLPick.kp T.bLPick .nil pass0 (pa_cons (pv 0) (pa_cons (pe_lst (pa_cons (pe_op op_add_str (pv 9) (pv 9)) (pa_cons (pe_op op_add_str (pv 9) (pe_revS (pv 9))) (pa_cons (pe_op op_add_str (pv 9) (pe_ix ix_list (pv 3) pe_int (fun _ _ => rfl))) pa_nil)))) pa_nil))) po_none (po_some (pv 1))))))))))), ?_⟩
    -- names, way
    refine ⟨_, rfl, _, rfl, _, rfl, d, c, count, t, rfl, pen, by omega, by omega, by omega, fun H1 k1 t1 but1 pen1 ht1 k0 k2 => ?_⟩
    obtain ⟨j, rfl⟩ := nat_of k0
    refine ⟨1, j, rfl, rfl, d, c, 1 + j, t1, rfl, pen1, by omega, by omega, fun H2 l cs t2 but2 pen2 ht2 hnl nld hl hlen hnd low => ?_⟩
    refine ⟨_, rfl, d, c, 5, t2, rfl, pen2, by decide, by decide, by omega, fun H3 way t3 but3 pen3 ht3 w0 w1 => ?_⟩
    refine ⟨by show 2 ≤ sizeLine; decide, fun tp ntp => ?_⟩
    have sm3 := same_new (o := .tup [.ref l, .int way]) ntp
    refine ⟨tp, [.ref l, .int way], rfl, SqT.of upd_same, rfl, _, _, rfl, _, _, rfl, rfl, ?_⟩
    have hl3 := sm3 _ _ (but3 _ _ nld hl)
    have pen4 := pen3.same sm3
    have but4 : But d H (upd H3 tp (.tup [.ref l, .int way])) := ((but1.trans but2).trans but3).trans (But.same sm3)
    generalize upd H3 tp (.tup [.ref l, .int way]) = H4 at *
    -- many
    refine ⟨_, rfl, _, rfl, size, 1, rfl, rfl, d, c, _, t3, rfl, pen4, by omega, by omega, by omega, fun H5 many t5 but5 pen5 ht5 m0 m1 => ?_⟩
    obtain ⟨m, rfl⟩ := nat_of m0
    have hl5 := but5 _ _ nld hl3
    have but6 := but4.trans but5
    have hlen0 : 0 < cs.length := by omega
    clear but1 but2 but3 but4 but5 pen pen1 pen2 pen3 pen4 hl hl3 sm3
    have fin : ∀ (H' : Hp) (zs : List Nat) (t' : Nat), But d H5 H' → Pen H' d c t' → t' ≤ t5 + 50 → zs.length ≤ size → (∀ x ∈ zs, x ∈ cs) → Q (.str (tx zs)) H' := fun H' zs t' b p h1 h2 h3 =>
      q H' zs t' (but6.trans b) p (by omega) h2 (fun x hx => low x (h3 x hx)) (Nat.le_trans (met_sub_len h3) (by omega))
    -- the step of a list of picks
    have pk : ∀ (D : Addr) (i : Nat) (H' : Hp), H5 D = none → i < m → (∃ (zs : List Nat) (t' : Nat), But d H5 H' ∧ Pen H' d c t' ∧ t' ≤ t5 + i ∧ zs.length = i ∧ (∀ x ∈ zs, x ∈ cs) ∧ H' D = some (.lst (zs.map sg))) →
        ∀ (W : V → Hp → Prop), (∀ (H2 : Hp) (v : V) (acc : List V), H2 D = some (.lst acc) → acc.length < sizeLine → (∃ (zs : List Nat) (t' : Nat), But d H5 (upd H2 D (.lst (acc ++ [v]))) ∧ Pen (upd H2 D (.lst (acc ++ [v]))) d c t' ∧ t' ≤ t5 + (i + 1) ∧ zs.length = i + 1 ∧ (∀ x ∈ zs, x ∈ cs) ∧ (upd H2 D (.lst (acc ++ [v]))) D = some (.lst (zs.map sg))) → W v H2) →
        ∀ E' : XK, spPick K [.ref d, .ref l] H' W E' := by
      rintro D i H' nD hi ⟨zs, t', bt, pn, ht', hz, hs, hD⟩ W hW E'
      have nDp := pen5.new nD
      refine ⟨d, c, l, cs.map sg, t', rfl, pn, SqL.of (bt _ _ nld hl5), nld, by rw [List.length_map]; exact hlen0, by rw [List.length_map]; omega, by omega, fun H2 v t2 b2 p2 h2 hv => ?_⟩
      obtain ⟨x, hx, rfl⟩ := List.mem_map.mp hv
      refine hW H2 _ _ (b2 _ _ nDp.1 hD) (fitsLt (by rw [List.length_map]; omega)) ⟨zs ++ [x], t2, (bt.trans b2).put nD, p2.upd nDp.1 nDp.2, by omega, by rw [List.length_append, hz]; rfl, fun y hy => ?_, by rw [upd_same, List.map_append]; rfl⟩
      rcases List.mem_append.mp hy with hy | hy
      · exact hs y hy
      · rw [List.mem_singleton.mp hy]
        exact hx
    refine ⟨_, rfl, rfl, _, rfl, ite2 (fun e => ?_) (fun e => ?_)⟩
    · refine ⟨⟨_, rfl⟩, _, rfl, m, rfl, by omega, by omega, fun D nD => lc_range (lo := 0) (n := m) (fun i H' => ∃ (zs : List Nat) (t' : Nat), But d H5 H' ∧ Pen H' d c t' ∧ t' ≤ t5 + i ∧ zs.length = i ∧ (∀ x ∈ zs, x ∈ cs) ∧ H' D = some (.lst (zs.map sg))) ?_ ?_ ?_⟩
      · exact ⟨[], t5, But.same (same_new nD), pen5.same (same_new nD), by omega, rfl, by simp, upd_same⟩
      · intro i H' hi p
        exact ⟨rfl, _, rfl, _, rfl, pk D i H' nD hi p _ (fun H2 v acc hacc hsz hp => ⟨acc, hacc, hsz, hp⟩) E⟩
      · rintro H' ⟨zs, t', bt, pn, ht', hz, hs, hD⟩
        refine ⟨_, D, zs.map fun c => (⟨#[c]⟩ : Str), rfl, rfl, .inl (SqL.of (by rw [← signs_map]; exact hD)), signs_room (by omega), ?_⟩
        rw [join_signs]
        exact fin H' zs t' bt pn (by omega) (by omega) hs
    refine ⟨_, rfl, _, _, rfl, rfl, _, rfl, ite2 (fun e1 => ?_) (fun e1 => ?_)⟩
    · refine ⟨_, rfl, l, cs, rfl, SqL.of hl5, by omega, fun zs hz hzl => ?_⟩
      have hzp : 0 < zs.length := by
        have h1 : 2 ^ 1 ≤ 2 ^ cs.length := Nat.pow_le_pow_right (by decide) hlen0
        omega
      have hzm : zs.length ≤ 4096 := by
        have h1 : 2 ^ cs.length ≤ 2 ^ 12 := Nat.pow_le_pow_right (by decide) (by omega)
        omega
      refine ⟨_, rfl, _, rfl, _, rfl, fits5 (by rw [tx_len]; omega), d, c, _, t5, rfl, pen5, by rw [tx_len]; omega, by rw [tx_len]; omega, by omega, fun H6 a t6 but7 pen6 ht6 a0 a1 => ?_⟩
      rw [tx_len] at a1
      obtain ⟨a, rfl⟩ := nat_of a0
      refine ⟨_, rfl, _, rfl, _, rfl, _, rfl, _, rfl, _, _, rfl, rfl, _, rfl, _, rfl, fits5 (by rw [tx_len]; omega), ?_⟩
      rw [show (a : Int) + (m : Int) = ((a + m : Nat) : Int) by omega, cut_tx, HT.sIx_nat, HT.sIx_nat]
      refine fin H6 _ t6 but7 pen6 (by omega) (by rw [List.length_take, List.length_drop]; omega) fun x hx => hz x (List.mem_of_mem_drop (List.mem_of_mem_take hx))
    refine ⟨_, rfl, rfl, _, rfl, ite2 (fun e2 => ?_) (fun e2 => ?_)⟩
    · refine ⟨⟨_, rfl⟩, _, rfl, m, rfl, by omega, by omega, fun D nD => lc_range (lo := 0) (n := m) (fun i H' => ∃ (zs : List Nat) (t' : Nat), But d H5 H' ∧ Pen H' d c t' ∧ t' ≤ t5 + i ∧ zs.length = i ∧ (∀ x ∈ zs, x ∈ cs) ∧ H' D = some (.lst (zs.map sg))) ?_ ?_ ?_⟩
      · exact ⟨[], t5, But.same (same_new nD), pen5.same (same_new nD), by omega, rfl, by simp, upd_same⟩
      · rintro i H' hi ⟨zs, t', bt, pn, ht', hz, hs, hD⟩
        have nDp := pen5.new nD
        have hl6 := SqL.of (K := K) (bt _ _ nld hl5)
        obtain ⟨j, hj⟩ := nat_of (mod_in (a := 0 + (i : Int)) (b := ((cs.map sg).length : Int)) (by rw [List.length_map]; omega)).1
        have hj2 : j < cs.length := by
          have h2 := (mod_in (a := 0 + (i : Int)) (b := ((cs.map sg).length : Int)) (by rw [List.length_map]; omega)).2
          rw [hj, List.length_map] at h2
          omega
        refine ⟨rfl, _, rfl, _, rfl, _, rfl, l, _, rfl, .inl hl6, _, _, rfl, rfl, (by rw [List.length_map]; omega), l, cs.map sg, _, sg cs[j], rfl, rfl, hl6, ?_, _, hD, fitsLt (by rw [List.length_map]; omega), ?_⟩
        · rw [hj]
          exact atI_nat (by rw [List.getElem?_map, List.getElem?_eq_getElem hj2]; rfl)
        · refine ⟨zs ++ [cs[j]], t', bt.put nD, pn.upd nDp.1 nDp.2, by omega, by rw [List.length_append, hz]; rfl, fun y hy => ?_, by rw [upd_same, List.map_append]; rfl⟩
          rcases List.mem_append.mp hy with hy | hy
          · exact hs y hy
          · rw [List.mem_singleton.mp hy]
            exact List.getElem_mem hj2
      · rintro H' ⟨zs, t', bt, pn, ht', hz, hs, hD⟩
        refine ⟨_, D, zs.map fun c => (⟨#[c]⟩ : Str), rfl, rfl, .inl (SqL.of (by rw [← signs_map]; exact hD)), signs_room (by omega), ?_⟩
        rw [join_signs]
        exact fin H' zs t' bt pn (by omega) (by omega) hs
    -- half
    have hh : (m : Int).fdiv 2 = ((m / 2 : Nat) : Int) := by
      rw [Int.fdiv_eq_ediv_of_nonneg _ (by decide)]
      rfl
    refine ⟨⟨_, rfl⟩, _, rfl, m, 2, rfl, rfl, ⟨by decide, by decide⟩, ((m / 2 : Nat) : Int), by show [V.int ((m : Int).fdiv 2)] = _; rw [hh], by omega, by omega, fun D nD => lc_range (lo := 0) (n := m / 2) (fun i H' => ∃ (zs : List Nat) (t' : Nat), But d H5 H' ∧ Pen H' d c t' ∧ t' ≤ t5 + i ∧ zs.length = i ∧ (∀ x ∈ zs, x ∈ cs) ∧ H' D = some (.lst (zs.map sg))) ?_ ?_ ?_⟩
    · exact ⟨[], t5, But.same (same_new nD), pen5.same (same_new nD), by omega, rfl, by simp, upd_same⟩
    · intro i H' hi p
      exact ⟨rfl, _, rfl, _, rfl, pk D i H' nD (by omega) p _ (fun H2 v acc hacc hsz hp => ⟨acc, hacc, hsz, hp⟩) E⟩
    · rintro H6 ⟨zs, t6, bt, pn, ht', hz, hs, hD⟩
      refine ⟨_, D, zs.map fun c => (⟨#[c]⟩ : Str), rfl, rfl, .inl (SqL.of (by rw [← signs_map]; exact hD)), signs_room (by omega), ?_⟩
      rw [join_signs]
      have hl6 := SqL.of (K := K) (bt _ _ nld hl5)
      have e0 : (cs.map sg)[0]? = some (sg cs[0]) := by rw [List.getElem?_map, List.getElem?_eq_getElem hlen0]; rfl
      refine ⟨_, rfl, _, rfl, _, rfl, tx zs, tx zs, rfl, rfl, fits5 (by rw [tx_len]; omega), ?_⟩
      rw [tx_app]
      have er : revS (tx zs) = tx zs.reverse := rfl
      refine ⟨_, rfl, _, rfl, tx zs, rfl, fits5 (by rw [tx_len]; omega), tx zs, _, rfl, rfl, by rw [er]; exact fits5 (by rw [tx_len, tx_len, List.length_reverse]; omega), ?_⟩
      rw [er, tx_app]
      refine ⟨_, rfl, _, rfl, l, cs.map sg, _, sg cs[0], rfl, rfl, hl6, atI_nat (j := 0) e0, tx zs, ⟨#[cs[0]]⟩, rfl, rfl, fits5 (by rw [tx_len]; show zs.length + 1 ≤ _; omega), ?_⟩
      rw [tx_app1]
      refine ⟨by show 3 ≤ sizeLine; decide, fun p np => ?_⟩
      have sm := same_new (o := .lst [.str (tx (zs ++ zs)), .str (tx (zs ++ zs.reverse)), .str (tx (zs ++ [cs[0]]))]) np
      refine ⟨d, c, p, _, t6, rfl, pn.same sm, SqL.of upd_same, (pn.new np).1, by show 0 < 3; decide, by show 3 < _; decide, by omega, fun H7 v t7 b7 p7 h7 hv => ?_⟩
      obtain ⟨ys, rfl, hy, hyl⟩ : ∃ ys, v = .str (tx ys) ∧ (∀ x ∈ ys, x ∈ cs) ∧ ys.length ≤ 100 := by
        have hr : ∀ x ∈ zs.reverse, x ∈ cs := fun x hx => hs x (List.mem_reverse.mp hx)
        have h0 : ∀ x ∈ [cs[0]], x ∈ cs := fun x hx => by rw [List.mem_singleton.mp hx]; exact List.getElem_mem hlen0
        simp only [List.mem_cons, List.not_mem_nil, or_false] at hv
        rcases hv with rfl | rfl | rfl
        · exact ⟨_, rfl, fun x hx => (List.mem_append.mp hx).elim (hs x) (hs x), by rw [List.length_append]; omega⟩
        · exact ⟨_, rfl, fun x hx => (List.mem_append.mp hx).elim (hs x) (hr x), by rw [List.length_append, List.length_reverse]; omega⟩
        · exact ⟨_, rfl, fun x hx => (List.mem_append.mp hx).elim (hs x) (h0 x), by rw [List.length_append, List.length_singleton]; omega⟩
      refine ⟨_, rfl, _, rfl, _, rfl, fits5 (by rw [tx_len]; omega), ?_⟩
      rw [cut_tx, HT.sIx_nat, HT.sIx_none]
      exact fin H7 _ t7 (bt.trans ((But.same sm).trans b7)) p7 (by omega) (by rw [List.length_take, List.length_drop]; omega) fun x hx => hy x (List.mem_of_mem_drop (List.mem_of_mem_take hx))
end
end Mo

namespace Mo
open PySem PySem.Spec PyProof.Rows L2
section
variable {P : Program} {w : World} {K : PySem.W.Frag} {mg : Str → Option Value} {base : Heap}
theorem neg_of {p : Prop} [Decidable p] (e : (!decide p) = true) : ¬ p := by simpa using e
theorem pos_of {p : Prop} [Decidable p] (e : ¬ (!decide p) = true) : p := by simpa using e
def spIsPat : Sp := fun vs H Q _ => ∃ cs : List Nat, vs = [.str (tx cs)] ∧ Pat cs ∧ ∀ H', Same H H' → Q (.bl true) H'
def spCheck : Sp := fun vs H Q _ => ∃ cs : List Nat, vs = [.str (tx cs)] ∧ Pat cs ∧ ∀ H', Same H H' → Q .non H'
def spVars : Sp := fun vs H Q _ => ∃ cs : List Nat, vs = [.str (tx cs)] ∧ Pat cs ∧ ∀ H', Same H H' → Q (.str (tx (met cs))) H'
theorem low_lett {cs : List Nat} (h : Low cs) : ∀ c ∈ cs, c ∈ lett := by
  intro c hc
  have h1 := h c hc
  have h2 := lett_at ⟨c - 97, by omega⟩
  have h3 : 97 + (c - 97) = c := by omega
  rw [h3] at h2
  exact List.mem_of_getElem? h2
theorem ok_isPat {k : Nat} (T : Txt K mg) : FnOk P w K mg base CX0 (k + 1) T.aIsPattern T.dIsPattern ["value"] spIsPat := by
  refine T.fIsPattern.ok scIsPattern (fun vs H Q E h => ?_) (fun cdv A outer s H vs Q E hr h => ?_)
  · obtain ⟨cs, rfl, _⟩ := h
    rfl
  · obtain ⟨cs, rfl, pat, q⟩ := h
    refine ⟨_, (pss_cons (ps_if (PW.pt (pw_or (pt_not (pt_val (pe_callB call_isi (by rfl) T.m_isinstance (by decide +kernel) (pa_cons (pv 0) (pa_cons (pe_bltn (v := .ty "str") (by rfl) T.m_str (by decide +kernel) rfl) pa_nil))))) (pw_or1 (pt_cmpR op_gt (pe_callB call_len_str (by rfl) T.m_len PySem.boot_len (pa_cons (pv 0) pa_nil)) (pe_glob (v := .int 40) rfl T.m_LONGEST_PATTERN ⟨_, rfl⟩) (nomark _))))) (pss_one (ps_ret pe_bl)) pss_nil)
      (pss_one (ps_ret (pe_and (pe_cmpR op_le (pe_callB Mo.cr_lenK (by rfl) T.m_len PySem.boot_len (pa_cons (pe_callTy (Mo.cr_setS rfl) (by rfl) T.m_set (by decide +kernel) (pa_cons (pv 0) pa_nil)) pa_nil)) (pe_glob (v := .int 8) rfl T.m_MOST_VARIABLES ⟨_, rfl⟩) (nomark _)) (pe_one (pe_callB (cr_all rfl) (by rfl) T.m_all (by decide +kernel) (pa_cons (pe_lc (own := [("name", 1)]) (g := gName 1) (tt := tYes) rfl scIsPattern.nd (pi_str (pv 0)) (blkOk_by (N := ["value", "name"]) (sc := defScope sIsPattern) (by decide +kernel)) (fun _ _ _ _ _ => pg_name (i := 1) scIsPattern.nd rfl (Or.inl rfl)) (fun _ _ _ _ _ => pts_nil) (fun _ _ _ _ _ => (pe_cmpR op_in_sign (pv 1) (pe_glob (v := .str "abcdefghijklmnopqrstuvwxyz") rfl T.m_VARIABLES ⟨_, rfl⟩) rfl))) pa_nil))))))), ?_⟩
    have hlen := pat.len
    have hfew : (met (tx cs).cps.toList).length ≤ 8 := pat.few
    refine ⟨_, rfl, _, _, .type "str", .type "str", true, rfl, .ty "str", .base (.str _), kit_ty (by decide +kernel), true, rfl, iteF ?_⟩
    refine ⟨_, rfl, _, rfl, fits5 (by rw [tx_len]; omega), _, _, rfl, rfl, _, rfl, ite2 (fun e => ?_) (fun e => ?_)⟩
    · exfalso
      have h1 := of_decide_eq_true e
      rw [tx_len] at h1
      omega
    refine ⟨_, rfl, tx cs, rfl, by rw [tx_size]; omega, fun p np => ?_⟩
    refine ⟨p, _, _, rfl, upd_same, by omega, _, _, rfl, rfl, true, congrArg V.bl (decide_eq_true (by omega)), ?_⟩
    have sm := same_new (o := SetK P w p (inS (tx cs).cps.toList) (met (tx cs).cps.toList).length) np
    refine ⟨_, rfl, tx cs, rfl, fun D nD => lc_it walk_str (fun i H' => Same (upd H p (SetK P w p (inS (tx cs).cps.toList) (met (tx cs).cps.toList).length)) H' ∧ H' D = some (.lst ((List.replicate i true).map V.bl))) ?_ ?_ ?_ ?_⟩
    · exact ⟨same_new nD, upd_same⟩
    · exact fun _ _ _ _ => trivial
    · rintro i x H1 H2 hi ⟨s1, hD⟩ ⟨rfl, c, hc, rfl⟩
      have hi2 : i < 41 := by
        rw [tx_size] at hi
        omega
      have hcs : c ∈ (Str.ofString "abcdefghijklmnopqrstuvwxyz").cps.toList := by
        rw [lett_text]
        exact low_lett pat.low c (List.mem_of_getElem? (tx_get.symm.trans hc))
      refine ⟨rfl, _, rfl, c, _, rfl, rfl, _, hD, fitsLt (by rw [List.length_map, List.length_replicate]; omega), Same.put s1 nD, ?_⟩
      rw [upd_same, decide_eq_true hcs, List.replicate_succ', List.map_append]
      rfl
    · rintro H1 ⟨s1, hD⟩
      refine ⟨D, List.replicate _ true, rfl, SqL.of hD, ?_⟩
      rw [show (List.replicate (tx cs).cps.size true).all id = true by simp]
      exact q H1 (sm.trans s1)
theorem ok_check {k : Nat} (T : Txt K mg) : FnOk P w K mg base CX0 (k + 2) T.aCheckPattern T.dCheckPattern ["value"] spCheck := by
  have GIsPattern : FnOk P w K mg base CX0 (k + 1) T.aIsPattern T.dIsPattern ["value"] spIsPat := ok_isPat T
  refine T.fCheckPattern.ok scCheckPattern (fun vs H Q E h => ?_) (fun cdv A outer s H vs Q E hr h => ?_)
  · obtain ⟨cs, rfl, _⟩ := h
    rfl
  · obtain ⟨cs, rfl, pat, q⟩ := h
    refine ⟨_, (pss_one (ps_if (pt_not (pt_val (pe_call GIsPattern hr (by rfl) T.gIsPattern T.fIsPattern.kp T.bIsPattern .nil pass0 (pa_cons (pv 0) pa_nil)))) (pss_one ps_never) pss_nil)), ?_⟩
    exact ⟨_, rfl, cs, rfl, pat, fun H1 s1 => ⟨true, rfl, iteF (q H1 s1)⟩⟩
theorem ok_vars {k : Nat} (T : Txt K mg) : FnOk P w K mg base CX0 (k + 3) T.aVariables T.dVariables ["pattern"] spVars := by
  have GCheckPattern : FnOk P w K mg base CX0 (k + 2) T.aCheckPattern T.dCheckPattern ["value"] spCheck := ok_check T
  refine T.fVariables.ok scVariables (fun vs H Q E h => ?_) (fun cdv A outer s H vs Q E hr h => ?_)
  · obtain ⟨cs, rfl, _⟩ := h
    rfl
  · obtain ⟨cs, rfl, pat, q⟩ := h
    refine ⟨_, (pss_cons (ps_expr (pe_call GCheckPattern hr (by rfl) T.gCheckPattern T.fCheckPattern.kp T.bCheckPattern .nil pass0 (pa_cons (pv 0) pa_nil)))
      (pss_one (ps_ret (pe_join pe_str (pe_lc (own := [("at", 1), ("name", 2)]) (g := gTup K 2 (gCons (gName 1) (gCons (gName 2) gNil))) rfl scVariables.nd (Mo.pi_enumS (by rfl) T.m_enumerate (pa_cons (pv 0) pa_nil)) (blkOk_by (N := ["pattern", "at", "name"]) (sc := defScope sVariables) (by decide +kernel)) (fun _ _ _ _ _ => Mo.pg_tupK (K := K) rfl rfl (pgs_cons (pg_name (i := 1) scVariables.nd rfl (Or.inl rfl)) (pgs_cons (pg_name (i := 2) scVariables.nd rfl (Or.inl rfl)) pgs_nil))) (fun _ _ _ _ _ => pts_one (pt_cmpR op_notIn_sign (pv 2) (pe_slice sl_str (pv 0) po_none (po_some (pv 1))) rfl)) (fun _ _ _ _ _ => (pv 2))))))), ?_⟩
    have hlen := pat.len
    refine ⟨_, rfl, cs, rfl, pat, fun H1 s1 => ?_⟩
    refine ⟨⟨_, rfl⟩, _, rfl, tx cs, rfl, fun D nD => lc_it walk_enumS (fun i H' => Same H1 H' ∧ H' D = some (.lst ((met (cs.take i)).map sg))) ?_ ?_ ?_ ?_⟩
    · exact ⟨same_new nD, upd_same⟩
    · exact fun _ _ _ _ => trivial
    · rintro i x H2 H3 hi ⟨s2, hD⟩ ⟨tp, a, b, rfl, ntp, rfl, ha, hb⟩
      obtain rfl : V.int (i : Nat) = a := Option.some.inj ha
      obtain ⟨c, hc, rfl⟩ : ∃ c, cs[i]? = some c ∧ sg c = b := by
        have hb2 : Option.map (fun c => sg c) ((tx cs).cps[i]?) = some b := hb
        rw [tx_get] at hb2
        cases e : cs[i]? with
        | none => rw [e] at hb2; cases hb2
        | some c => rw [e] at hb2; exact ⟨c, rfl, Option.some.inj hb2⟩
      have s3 := same_new (o := .tup [.int (i : Nat), sg c]) ntp
      refine ⟨tp, _, rfl, SqT.of upd_same, rfl, _, _, rfl, _, _, rfl, rfl, rfl, ?_⟩
      have hlt : i < cs.length := (List.getElem?_eq_some_iff.mp hc).1
      have ntD : D ≠ tp := ne_of_none hD ntp
      refine ⟨_, rfl, _, rfl, _, rfl, _, rfl, tx cs, rfl, fits5 (by rw [tx_len]; omega), c, _, rfl, rfl, _, rfl, ?_⟩
      rw [cut_tx, HT.sIx_nat, HT.sIx_none, tx_list, List.drop_zero, Nat.sub_zero, Nat.min_eq_left (Nat.le_of_lt hlt)]
      have hm := met_length_le (cs.take i)
      rw [List.length_take] at hm
      refine ite2 (fun e => ?_) (fun e => ?_)
      · have nc : c ∉ cs.take i := by simpa using e
        refine ⟨_, rfl, _, (by rw [upd_ne ntD]; exact hD), fitsLt (by rw [List.length_map]; omega), Same.put (s2.trans s3) nD, ?_⟩
        rw [upd_same, met_take_snoc hc, metStep, if_neg (fun z => nc (mem_met.mp z)), List.map_append]
        rfl
      · have nc : c ∈ cs.take i := by simpa using e
        refine ⟨s2.trans s3, ?_⟩
        rw [upd_ne ntD, hD, met_take_snoc hc, metStep, if_pos (mem_met.mpr nc)]
    · rintro H2 ⟨s2, hD⟩
      rw [List.take_of_length_le (by rw [tx_size]; exact Nat.le_refl _)] at hD
      have hm := met_length_le cs
      refine ⟨_, D, (met cs).map fun c => (⟨#[c]⟩ : Str), rfl, rfl, .inl (SqL.of (by rw [← signs_map]; exact hD)), signs_room (by omega), ?_⟩
      rw [join_signs]
      exact q H2 (s1.trans s2)
theorem ok_order {k : Nat} (T : Txt K mg) : FnOk P w K mg base CX0 (k + 1) T.aLOrder T.dLOrder ["_law_pattern_here"] spVars := by
  refine T.fLOrder.ok scLOrder (fun vs H Q E h => ?_) (fun cdv A outer s H vs Q E hr h => ?_)
  · obtain ⟨cs, rfl, _⟩ := h
    rfl
  · obtain ⟨cs, rfl, pat, q⟩ := h
    refine ⟨_, (pss_cons (ps_set (i := 1) scLOrder.nd rfl (Or.inl rfl) pe_str)
      (pss_cons (ps_for PassesOwn.never rfl (pi_str (pv 0)) (pg_name (i := 2) scLOrder.nd rfl (Or.inl rfl)) (pss_one (ps_if (pt_cmpR op_notIn_sign (pv 2) (pv 1) rfl) (pss_one (ps_set (i := 1) scLOrder.nd rfl (Or.inl rfl) (pe_op op_add_str (pv 1) (pv 2)))) pss_nil)))
      (pss_one (ps_ret (pv 1))))), ?_⟩
    have hlen := pat.len
    refine ⟨_, rfl, tx cs, rfl, for_it walk_str (fun i σ H' => ∃ o, σ = [some (.str (tx cs)), some (.str (tx (met (cs.take i)))), o] ∧ H' = H) ?_ ?_ ?_ ?_⟩
    · exact ⟨none, by rw [List.take_zero, show met [] = [] from rfl, ← tx_nil]; rfl, rfl⟩
    · exact fun _ _ _ _ _ => trivial
    · rintro i x σ H2 H3 hi ⟨o, rfl, rfl⟩ ⟨rfl, c, hc, rfl⟩
      rw [tx_get] at hc
      have hlt : i < cs.length := (List.getElem?_eq_some_iff.mp hc).1
      have hm := met_length_le (cs.take i)
      rw [List.length_take] at hm
      refine ⟨_, rfl, _, rfl, c, _, rfl, rfl, _, rfl, ite2 (fun e => ?_) (fun e => ?_)⟩
      · have nc : ¬ c ∈ met (cs.take i) := neg_of e
        refine ⟨_, rfl, _, rfl, tx (met (cs.take i)), ⟨#[c]⟩, rfl, rfl, fits5 (by rw [tx_len]; show _ + 1 ≤ _; omega), ?_⟩
        rw [tx_app1]
        exact ⟨_, by rw [met_take_snoc hc, metStep, if_neg nc]; rfl, rfl⟩
      · have nc : c ∈ met (cs.take i) := pos_of e
        exact ⟨_, by rw [met_take_snoc hc, metStep, if_pos nc]; rfl, rfl⟩
    · rintro σ H2 ⟨o, rfl, rfl⟩
      rw [List.take_of_length_le (by rw [tx_size]; exact Nat.le_refl _)]
      exact ⟨_, rfl, q H2 (Same.refl _)⟩
/-- pen(script): a new pen -/
def spPen (K : PySem.W.Frag) : Sp := fun vs H Q _ => ∃ (a : Addr) (ns : List Int), vs = [.ref a] ∧ SqL K H a (ns.map V.int) ∧ ns.length ≤ 63 ∧ ∀ H' d c, Same H H' → H d = none → Pen H' d c 0 → Q (.ref d) H'
theorem ok_pen {k : Nat} (T : Txt K mg) : FnOk P w K mg base CX0 (k + 1) T.aLPen T.dLPen ["_law_script"] (spPen K) := by
  refine T.fLPen.ok scLPen (fun vs H Q E h => ?_) (fun cdv A outer s H vs Q E hr h => ?_)
  · obtain ⟨a, ns, rfl, _⟩ := h
    rfl
  · obtain ⟨a, ns, rfl, hs, hn, q⟩ := h
    refine ⟨_, (pss_one (ps_ret (pe_disp (pps_cons pe_str (pe_callTy call_list_of (by rfl) T.m_list (by decide +kernel) (pa_cons (pe_slice sl_list (pv 0) po_none (po_some pe_int)) pa_nil)) (pps_cons pe_str pe_int (pps_cons pe_str pe_int pps_nil))) (by rfl) (by rfl) (fun z => by cases z) (by decide)))), ?_⟩
    intro d nd
    have s1 := same_new (o := .dK []) nd
    refine ⟨_, rfl, 63, rfl, a, _, rfl, s1.seq hs, fun p np => ?_⟩
    have s2 := same_new (o := .lst (cutV (ns.map V.int) none (some 63))) np
    refine ⟨p, _, rfl, .inl (SqL.of upd_same), fun c nc => ?_⟩
    have s3 := same_new (o := .lst (cutV (ns.map V.int) none (some 63))) nc
    have ec : cutV (ns.map V.int) none (some 63) = ns.map V.int := by
      unfold cutV
      rw [HT.sIx_none, show (some (63 : Int)) = some ((63 : Nat) : Int) from rfl, HT.sIx_nat, List.drop_zero, Nat.sub_zero, List.length_map]
      exact List.take_of_length_le (by rw [List.length_map]; omega)
    rw [ec] at nc s2 s3 ⊢
    have hd3 := s3 _ _ (s2 _ _ (upd_same (H := H) (a := d) (o := .dK [])))
    refine ⟨hd3, penD c 0 0, rfl, by show 3 ≤ 15; decide, ?_⟩
    rw [pen_merge]
    have ncd : c ≠ d := (ne_of_none (s2 _ _ (upd_same (H := H) (a := d) (o := .dK []))) nc).symm
    refine q _ d c (Same.put ((s1.trans s2).trans s3) nd) nd ⟨ns, 0, upd_same, by rw [upd_ne ncd, upd_same], hn, Int.le_refl 0⟩

/-! ### kinds of data -/
def isIntD : PyData → Bool
  | .int _ | .bool _ => true
  | _ => false
def isBoolD : PyData → Bool
  | .bool _ => true
  | _ => false
def isStrD : PyData → Bool
  | .str _ => true
  | _ => false
def isTupD : PyData → Bool
  | .tuple _ => true
  | _ => false
theorem kit_int : ∀ d : PyData, kitB (tyD d) "int" = some (isIntD d)
  | .none => by show kitB "NoneType" "int" = some false; decide +kernel
  | .bool _ => by show kitB "bool" "int" = some true; decide +kernel
  | .int _ => by show kitB "int" "int" = some true; decide +kernel
  | .str _ => by show kitB "str" "int" = some false; decide +kernel
  | .list _ => by show kitB "list" "int" = some false; decide +kernel
  | .tuple _ => by show kitB "tuple" "int" = some false; decide +kernel
  | .dict _ => by show kitB "dict" "int" = some false; decide +kernel
theorem kit_bool : ∀ d : PyData, kitB (tyD d) "bool" = some (isBoolD d)
  | .none => by show kitB "NoneType" "bool" = some false; decide +kernel
  | .bool _ => by show kitB "bool" "bool" = some true; decide +kernel
  | .int _ => by show kitB "int" "bool" = some false; decide +kernel
  | .str _ => by show kitB "str" "bool" = some false; decide +kernel
  | .list _ => by show kitB "list" "bool" = some false; decide +kernel
  | .tuple _ => by show kitB "tuple" "bool" = some false; decide +kernel
  | .dict _ => by show kitB "dict" "bool" = some false; decide +kernel
theorem kit_str : ∀ d : PyData, kitB (tyD d) "str" = some (isStrD d)
  | .none => by show kitB "NoneType" "str" = some false; decide +kernel
  | .bool _ => by show kitB "bool" "str" = some false; decide +kernel
  | .int _ => by show kitB "int" "str" = some false; decide +kernel
  | .str _ => by show kitB "str" "str" = some true; decide +kernel
  | .list _ => by show kitB "list" "str" = some false; decide +kernel
  | .tuple _ => by show kitB "tuple" "str" = some false; decide +kernel
  | .dict _ => by show kitB "dict" "str" = some false; decide +kernel
theorem kit_tup : ∀ d : PyData, kitB (tyD d) "tuple" = some (isTupD d)
  | .none => by show kitB "NoneType" "tuple" = some false; decide +kernel
  | .bool _ => by show kitB "bool" "tuple" = some false; decide +kernel
  | .int _ => by show kitB "int" "tuple" = some false; decide +kernel
  | .str _ => by show kitB "str" "tuple" = some false; decide +kernel
  | .list _ => by show kitB "list" "tuple" = some false; decide +kernel
  | .tuple _ => by show kitB "tuple" "tuple" = some true; decide +kernel
  | .dict _ => by show kitB "dict" "tuple" = some false; decide +kernel
def plainD (d : PyData) : Bool := isIntD d && !isBoolD d
/-- a question about data -/
def spAsk (f : PyData → Bool) : Sp := fun vs H Q _ => ∃ (N : Addr → Prop) (x : V) (d : PyData), vs = [x] ∧ Dx N H x d ∧ d.bulk ≤ 1000000 ∧ ∀ H', Same H H' → Q (.bl (f d)) H'
theorem ok_plain {k : Nat} (T : Txt K mg) : FnOk P w K mg base CX0 (k + 1) T.aIsPlainInteger T.dIsPlainInteger ["value"] (spAsk plainD) := by
  refine T.fIsPlainInteger.ok scIsPlainInteger (fun vs H Q E h => ?_) (fun cdv A outer s H vs Q E hr h => ?_)
  · obtain ⟨_, _, _, rfl, _⟩ := h
    rfl
  · obtain ⟨N, x, d, rfl, hd, _, q⟩ := h
    refine ⟨_, (pss_one (ps_ret (pe_and (pe_callB call_isi (by rfl) T.m_isinstance (by decide +kernel) (pa_cons (pv 0) (pa_cons (pe_bltn (v := .ty "int") (by rfl) T.m_int (by decide +kernel) rfl) pa_nil))) (pe_one (pe_not (pe_callB call_isi (by rfl) T.m_isinstance (by decide +kernel) (pa_cons (pv 0) (pa_cons (pe_bltn (v := .ty "bool") (by rfl) T.m_bool (by decide +kernel) rfl) pa_nil)))))))), ?_⟩
    have ty := hd.ty (K := K)
    have q0 := q H (Same.refl H)
    unfold plainD at q0
    refine ⟨_, rfl, _, _, .type (tyD d), .type "int", isIntD d, rfl, .ty "int", ty, kit_ty (kit_int d), isIntD d, rfl, ?_⟩
    cases e : isIntD d with
    | false => rw [e] at q0; exact q0
    | true =>
      rw [e] at q0
      exact ⟨_, rfl, _, _, .type (tyD d), .type "bool", isBoolD d, rfl, .ty "bool", ty, kit_ty (kit_bool d), isBoolD d, rfl, q0⟩
theorem plain_int : ∀ {N : Addr → Prop} {H : Hp} {x : V} {d : PyData}, Dx N H x d → plainD d = true → ∃ i : Int, x = .int i ∧ d = .int i := by
  intro N H x d h e
  cases h with
  | int i => exact ⟨i, rfl, rfl⟩
  | _ => exact absurd (show false = true from e) (by decide)
theorem ok_letter {k : Nat} (T : Txt K mg) : FnOk P w K mg base CX0 (k + 2) T.aIsLetter T.dIsLetter ["value"] (spAsk letterD) := by
  have GIsPlainInteger : FnOk P w K mg base CX0 (k + 1) T.aIsPlainInteger T.dIsPlainInteger ["value"] (spAsk plainD) := ok_plain T
  refine T.fIsLetter.ok scIsLetter (fun vs H Q E h => ?_) (fun cdv A outer s H vs Q E hr h => ?_)
  · obtain ⟨_, _, _, rfl, _⟩ := h
    rfl
  · obtain ⟨N, x, d, rfl, hd, hb, q⟩ := h
    refine ⟨_, (pss_one (ps_ret (pe_and (pe_call GIsPlainInteger hr (by rfl) T.gIsPlainInteger T.fIsPlainInteger.kp T.bIsPlainInteger .nil pass0 (pa_cons (pv 0) pa_nil)) (pe_one (pe_chain op_le op_le pe_int (pv 0) (pe_glob (v := .int 999999) rfl T.m_GREATEST_LETTER ⟨_, rfl⟩)))))), ?_⟩
    refine ⟨_, rfl, N, x, d, rfl, hd, hb, fun H1 s1 => ?_⟩
    have q0 := q H1 s1
    cases e : plainD d with
    | false =>
      refine ⟨false, rfl, ?_⟩
      have z : letterD d = false := by
        cases hd <;> first | rfl | exact absurd (show true = false from e) (by decide)
      rw [z] at q0
      exact q0
    | true =>
      obtain ⟨i, rfl, rfl⟩ := plain_int hd e
      refine ⟨true, rfl, iteT ⟨_, rfl, 0, i, rfl, rfl, decide (0 ≤ i), rfl, ?_⟩⟩
      have z : letterD (.int i) = (decide (0 ≤ i) && decide (i ≤ 999999)) := rfl
      rw [z] at q0
      cases e0 : decide (0 ≤ i) with
      | false => rw [e0] at q0; exact q0
      | true => rw [e0] at q0; exact ⟨i, 999999, rfl, rfl, q0⟩
theorem bulk_mem : ∀ {ds : List PyData} {d : PyData}, d ∈ ds → d.bulk ≤ PyData.bulkAll ds
  | x :: ds, d, h => by
    simp only [PyData.bulkAll]
    rcases List.mem_cons.mp h with rfl | h
    · omega
    · have := bulk_mem h
      omega
theorem bulk_len (a : List PyData) : a.length ≤ PyData.bulkAll a := by
  induction a with
  | nil => exact Nat.zero_le _
  | cons x a ih =>
    simp only [PyData.bulkAll, List.length_cons]
    omega
theorem tup_dx : ∀ {N : Addr → Prop} {H : Hp} {x : V} {d : PyData}, Dx N H x d → isTupD d = true → ∃ a xs ds, x = .ref a ∧ d = .tuple ds ∧ H a = some (.tup xs) ∧ ¬ N a ∧ DxAll N H xs ds := by
  intro N H x d h e
  cases h with
  | tup h n t => exact ⟨_, _, _, rfl, rfl, h, n, t⟩
  | _ => exact absurd (show false = true from e) (by decide)
theorem str_dx : ∀ {N : Addr → Prop} {H : Hp} {x : V} {d : PyData}, Dx N H x d → isStrD d = true → ∃ cs : List Nat, x = .str (tx cs) ∧ d = .str (tx cs) := by
  intro N H x d h e
  cases h with
  | str z => exact ⟨z.cps.toList, rfl, rfl⟩
  | _ => exact absurd (show false = true from e) (by decide)
theorem notTup {d : PyData} (h : isTupD d = false) : textD d = false := by
  cases d <;> first | rfl | exact absurd (show true = false from h) (by decide)
theorem ok_text {k : Nat} (T : Txt K mg) : FnOk P w K mg base CX0 (k + 3) T.aIsText T.dIsText ["value"] (spAsk textD) := by
  have GIsLetter : FnOk P w K mg base CX0 (k + 2) T.aIsLetter T.dIsLetter ["value"] (spAsk letterD) := ok_letter T
  refine T.fIsText.ok scIsText (fun vs H Q E h => ?_) (fun cdv A outer s H vs Q E hr h => ?_)
  · obtain ⟨_, _, _, rfl, _⟩ := h
    rfl
  · obtain ⟨N, x, d, rfl, hd, hb, q⟩ := h
    refine ⟨_, (pss_cons (ps_if (PW.pt (pw_or (pt_not (pt_val (pe_callB call_isi (by rfl) T.m_isinstance (by decide +kernel) (pa_cons (pv 0) (pa_cons (pe_bltn (v := .ty "tuple") (by rfl) T.m_tuple (by decide +kernel) rfl) pa_nil))))) (pw_or1 (pt_cmpR op_gt (pe_callB call_len_seq (by rfl) T.m_len PySem.boot_len (pa_cons (pv 0) pa_nil)) (pe_glob (v := .int 4096) rfl T.m_LONGEST_TEXT ⟨_, rfl⟩) (nomark _))))) (pss_one (ps_ret pe_bl)) pss_nil)
      (pss_one (ps_ret (pe_callB (cr_all rfl) (by rfl) T.m_all (by decide +kernel) (pa_cons (pe_lc (own := [("letter", 1)]) (g := gName 1) (tt := tYes) rfl scIsText.nd (pi_tup (pv 0)) (blkOk_by (N := ["value", "letter"]) (sc := defScope sIsText) (by decide +kernel)) (fun _ _ _ _ _ => pg_name (i := 1) scIsText.nd rfl (Or.inl rfl)) (fun _ _ _ _ _ => pts_nil) (fun _ _ _ _ _ => (pe_call GIsLetter hr (by rfl) T.gIsLetter T.fIsLetter.kp T.bIsLetter .nil pass0 (pa_cons (pv 1) pa_nil)))) pa_nil))))), ?_⟩
    have ty := hd.ty (K := K)
    refine ⟨_, rfl, _, _, .type (tyD d), .type "tuple", isTupD d, rfl, .ty "tuple", ty, kit_ty (kit_tup d), isTupD d, rfl, ?_⟩
    cases e : isTupD d with
    | false =>
      have q0 := q H (Same.refl H)
      rw [notTup e] at q0
      exact iteT q0
    | true =>
      obtain ⟨a, xs, ds, rfl, rfl, ha, _, hx⟩ := tup_dx hd e
      have hl := hx.length
      simp only [PyData.bulk] at hb
      have hb2 := bulk_len ds
      have zt : textD (.tuple ds) = (decide (ds.length ≤ 4096) && ds.all letterD) := rfl
      refine iteF ⟨_, rfl, a, xs, rfl, .inr (SqT.of ha), _, _, rfl, rfl, _, rfl, ite2 (fun e => ?_) (fun e => ?_)⟩
      · have h1 := of_decide_eq_true e
        have q0 := q H (Same.refl H)
        rw [zt, decide_eq_false (by omega)] at q0
        exact q0
      · have h1 : ¬ (4096 : Int) < xs.length := fun z => e (decide_eq_true z)
        rw [zt, decide_eq_true (by omega), Bool.true_and] at q
        refine ⟨_, rfl, a, rfl, ⟨xs, SqT.of ha⟩, fun D nD => lc_it (walk_tup (xs := xs)) (fun i H' => Same H H' ∧ H' D = some (.lst (((ds.take i).map letterD).map V.bl))) ?_ ?_ ?_ ?_⟩
        · exact ⟨same_new nD, upd_same⟩
        · exact fun i H' _ h => SqT.of (h.1 _ _ ha)
        · rintro i x H1 H2 hi ⟨s1, hD⟩ ⟨rfl, hx1⟩
          obtain ⟨dd, hdd, hxd⟩ := (hx.same s1).get hx1
          have hm := bulk_mem (List.mem_of_getElem? hdd)
          refine ⟨rfl, _, rfl, N, x, dd, rfl, hxd, by omega, fun H3 s3 => ⟨_, s3 _ _ hD, fitsLt (by rw [List.length_map, List.length_map, List.length_take]; omega), Same.put (s1.trans s3) nD, ?_⟩⟩
          rw [upd_same, List.take_add_one, hdd, List.map_append, List.map_append]
          rfl
        · rintro H1 ⟨s1, hD⟩
          rw [hl, List.take_length] at hD
          refine ⟨D, ds.map letterD, rfl, SqL.of hD, ?_⟩
          rw [show (ds.map letterD).all id = ds.all letterD by rw [List.all_map]; rfl]
          exact q H1 s1
end
end Mo

namespace Mo
open PySem PySem.Spec PyProof.Rows L2
section
variable {P : Program} {w : World} {K : PySem.W.Frag} {mg : Str → Option Value} {base : Heap}
/-! ### values of a pattern -/
abbrev kS (c : Nat) : Key := .inr ⟨#[c]⟩
def emptyT : PyData → Bool
  | .tuple [] => true
  | _ => false
def okVal (d : PyData) : Bool := textD d && !emptyT d
def lookK : List (Key × V) → List PyData → Key → Option PyData
  | (k, _) :: r, d :: ds, q => if k = q then some d else lookK r ds q
  | _, _, _ => none
def hasVal (kvs : List (Key × V)) (ds : List PyData) (c : Nat) : Bool := match lookK kvs ds (kS c) with
  | some d => okVal d
  | none => false
def areB (cs : List Nat) (kvs : List (Key × V)) (ds : List PyData) : Bool := decide (kvs.length = (met cs).length) && (met cs).all (hasVal kvs ds)
theorem look_val {N : Addr → Prop} {H : Hp} {q : Key} : ∀ {kvs : List (Key × V)} {ds : List PyData}, DxAll N H (kvs.map (·.2)) ds → (valV kvs q = none ∧ lookK kvs ds q = none) ∨ ∃ v d, valV kvs q = some v ∧ lookK kvs ds q = some d ∧ Dx N H v d ∧ d ∈ ds
  | [], [], _ => .inl ⟨rfl, rfl⟩
  | [], _ :: _, h => by cases h
  | _ :: _, [], h => by cases h
  | (k, v) :: r, d :: ds, h => by
    cases h with
    | cons h t =>
      by_cases e : k = q
      · exact .inr ⟨v, d, valV_pos e, by simp [lookK, e], h, List.mem_cons_self⟩
      · rcases look_val (q := q) t with ⟨h1, h2⟩ | ⟨v', d', h1, h2, h3, h4⟩
        · exact .inl ⟨by rw [valV_neg e]; exact h1, by simp only [lookK, if_neg e]; exact h2⟩
        · exact .inr ⟨v', d', by rw [valV_neg e]; exact h1, by simp only [lookK, if_neg e]; exact h2, h3, List.mem_cons_of_mem _ h4⟩
def isDictD : PyData → Bool
  | .dict _ => true
  | _ => false
theorem kit_dict : ∀ d : PyData, kitB (tyD d) "dict" = some (isDictD d)
  | .none => by show kitB "NoneType" "dict" = some false; decide +kernel
  | .bool _ => by show kitB "bool" "dict" = some false; decide +kernel
  | .int _ => by show kitB "int" "dict" = some false; decide +kernel
  | .str _ => by show kitB "str" "dict" = some false; decide +kernel
  | .list _ => by show kitB "list" "dict" = some false; decide +kernel
  | .tuple _ => by show kitB "tuple" "dict" = some false; decide +kernel
  | .dict _ => by show kitB "dict" "dict" = some true; decide +kernel
def spAre : Sp := fun vs H Q _ => ∃ (cs : List Nat) (x : V) (N : Addr → Prop), vs = [.str (tx cs), x] ∧ Pat cs ∧
  ((∃ (a : Addr) (kvs : List (Key × V)) (ds : List PyData), x = .ref a ∧ H a = some (.dK kvs) ∧ DxAll N H (kvs.map (·.2)) ds ∧ (∀ d ∈ ds, d.bulk ≤ 1000000) ∧ ∀ H', Same H H' → Q (.bl (areB cs kvs ds)) H') ∨
    (∃ d, Dx N H x d ∧ isDictD d = false ∧ ∀ H', Same H H' → Q (.bl false) H'))
theorem text_tup : ∀ {d : PyData}, textD d = true → isTupD d = true := by
  intro d h
  cases e : isTupD d with
  | true => rfl
  | false => rw [notTup e] at h; cases h
theorem ok_are {k : Nat} (T : Txt K mg) : FnOk P w K mg base CX0 (k + 4) T.aAreValues T.dAreValues ["pattern", "value"] spAre := by
  have GVariables : FnOk P w K mg base CX0 (k + 3) T.aVariables T.dVariables ["pattern"] spVars := ok_vars T
  have GIsText : FnOk P w K mg base CX0 (k + 3) T.aIsText T.dIsText ["value"] (spAsk textD) := ok_text T
  refine T.fAreValues.ok scAreValues (fun vs H Q E h => ?_) (fun cdv A outer s H vs Q E hr h => ?_)
  · obtain ⟨_, _, _, rfl, _⟩ := h
    rfl
  · obtain ⟨cs, x, N, rfl, pat, h⟩ := h
    have hu := hu_of hr
    refine ⟨_, (pss_cons (ps_set (i := 2) scAreValues.nd rfl (Or.inl rfl) (pe_call GVariables hr (by rfl) T.gVariables T.fVariables.kp T.bVariables .nil pass0 (pa_cons (pv 0) pa_nil)))
      (pss_cons (ps_if (PW.pt (pw_or (pt_not (pt_val (pe_callB call_isi (by rfl) T.m_isinstance (by decide +kernel) (pa_cons (pv 1) (pa_cons (pe_bltn (v := .ty "dict") (by rfl) T.m_dict (by decide +kernel) rfl) pa_nil))))) (pw_or1 (pt_cmpR op_ne (pe_callB call_lenD (by rfl) T.m_len PySem.boot_len (pa_cons (pv 1) pa_nil)) (pe_callB call_len_str (by rfl) T.m_len PySem.boot_len (pa_cons (pv 2) pa_nil)) (nomark _))))) (pss_one (ps_ret pe_bl)) pss_nil)
      (pss_one (ps_ret (pe_callB (cr_all rfl) (by rfl) T.m_all (by decide +kernel) (pa_cons (pe_lc (own := [("name", 3)]) (g := gName 3) (tt := tYes) rfl scAreValues.nd (pi_str (pv 2)) (blkOk_by (N := ["pattern", "value", "names", "name"]) (sc := defScope sAreValues) (by decide +kernel)) (fun _ _ _ _ _ => pg_name (i := 3) scAreValues.nd rfl (Or.inl rfl)) (fun _ _ _ _ _ => pts_nil) (fun _ _ _ _ _ => (pe_and (pe_cmp (pc_din hu (pv 3) (pv 1))) (pe_and (pe_call GIsText hr (by rfl) T.gIsText T.fIsText.kp T.bIsText .nil pass0 (pa_cons (pe_dget hu (pv 1) (pv 3) (fun _ _ => rfl)) pa_nil)) (pe_one (pe_cmpR (Mo.op_neNilTK (K := K) rfl hr.units) (pe_dget hu (pv 1) (pv 3) (fun _ _ => rfl)) (pe_tup pa_nil) (nomark _))))))) pa_nil)))))), ?_⟩
    rcases h with ⟨a, kvs, ds, rfl, ha, hx, hb, q⟩ | ⟨d, hd, hk, q⟩
    · refine ⟨_, rfl, cs, rfl, pat, fun H1 s1 => ?_⟩
      have ha1 := s1 _ _ ha
      have hml : (met cs).length ≤ 40 := Nat.le_trans (met_length_le cs) pat.len
      refine ⟨_, rfl, _, _, .type "dict", .type "dict", true, rfl, .ty "dict", .base (.dK ha1), kit_ty (by decide +kernel), true, rfl, iteF ?_⟩
      refine ⟨_, rfl, a, kvs, rfl, ha1, _, rfl, _, rfl, fits5 (by rw [tx_len]; omega), rfl, _, rfl, ite2 (fun e => ?_) (fun e => ?_)⟩
      · have hne : kvs.length ≠ (met cs).length := fun z => neg_of e (by rw [tx_len, z])
        have q0 := q H1 s1
        unfold areB at q0
        rw [decide_eq_false hne] at q0
        exact q0
      · have heq : kvs.length = (met cs).length := by
          have := V.int.inj (pos_of e)
          rw [tx_len] at this
          omega
        unfold areB at q
        rw [decide_eq_true heq, Bool.true_and] at q
        refine ⟨_, rfl, tx (met cs), rfl, fun D nD => lc_it walk_str (fun i H' => Same H1 H' ∧ H' D = some (.lst ((((met cs).take i).map (hasVal kvs ds)).map V.bl))) ?_ ?_ ?_ ?_⟩
        · exact ⟨same_new nD, upd_same⟩
        · exact fun _ _ _ _ => trivial
        · rintro i x H2 H3 hi ⟨s2, hD⟩ ⟨rfl, c, hc, rfl⟩
          rw [tx_get] at hc
          have ha2 := s2 _ _ ha1
          have lenD : (((met cs).take i).map (hasVal kvs ds)).length ≤ 40 := by rw [List.length_map, List.length_take]; omega
          have fin : ∀ H4, Same H3 H4 → ∀ b, hasVal kvs ds c = b → ∃ acc, H4 D = some (.lst acc) ∧ acc.length < sizeLine ∧ Same H1 (upd H4 D (.lst (acc ++ [V.bl b]))) ∧ upd H4 D (.lst (acc ++ [V.bl b])) D = some (.lst ((((met cs).take (i + 1)).map (hasVal kvs ds)).map V.bl)) := fun H4 s4 b hb => by
            refine ⟨_, s4 _ _ hD, fitsLt (by rw [List.length_map]; omega), Same.put (s2.trans s4) nD, ?_⟩
            rw [upd_same, List.take_add_one, hc, ← hb, List.map_append, List.map_append]
            rfl
          refine ⟨rfl, _, rfl, _, rfl, a, _, rfl, DGet.k (k := kS c) ha2, _, rfl, ?_⟩
          rcases look_val (q := kS c) (hx.same (s1.trans s2)) with ⟨h1, h2⟩ | ⟨v, d, h1, h2, h3, h4⟩
          · rw [h1]
            exact fin H3 (Same.refl _) false (by unfold hasVal; rw [h2])
          · rw [h1]
            have g := DGet.k (k := kS c) ha2
            rw [h1] at g
            refine iteT ⟨_, rfl, _, rfl, a, v, rfl, g, N, v, d, rfl, h3, hb d h4, fun H4 s4 => ⟨textD d, rfl, ?_⟩⟩
            cases et : textD d with
            | false => exact fin H4 s4 false (by unfold hasVal; rw [h2]; show (textD d && _) = false; rw [et]; rfl)
            | true =>
              obtain ⟨p, xs, es, rfl, rfl, hp, _, hxs⟩ := tup_dx (h3.same s4) (text_tup et)
              have g4 := DGet.k (k := kS c) (s4 _ _ ha2)
              rw [h1] at g4
              refine iteT ⟨_, rfl, _, rfl, a, _, rfl, g4, Nat.zero_le _, fun p0 n0 => ?_⟩
              have s5 := same_new (o := .tup []) n0
              refine ⟨p, p0, xs, rfl, rfl, SqT.of (s5 _ _ hp), SqT.of upd_same, ?_⟩
              refine fin _ (s4.trans s5) _ ?_
              unfold hasVal
              rw [h2]
              show (textD _ && _) = _
              rw [et]
              have hl := hxs.length
              cases xs <;> cases es <;> first | rfl | (simp at hl)
        · rintro H2 ⟨s2, hD⟩
          rw [tx_size, List.take_length] at hD
          refine ⟨D, (met cs).map (hasVal kvs ds), rfl, SqL.of hD, ?_⟩
          rw [show ((met cs).map (hasVal kvs ds)).all id = (met cs).all (hasVal kvs ds) by rw [List.all_map]; rfl]
          exact q H2 (s1.trans s2)
    · refine ⟨_, rfl, cs, rfl, pat, fun H1 s1 => ?_⟩
      exact ⟨_, rfl, _, _, .type (tyD d), .type "dict", false, rfl, .ty "dict", (hd.same s1).ty, kit_ty (by rw [kit_dict, hk]), false, rfl, iteT (q H1 s1)⟩
end
end Mo

namespace Mo
open PySem PySem.Spec PyProof.Rows L2
section
variable {P : Program} {w : World} {K : PySem.W.Frag} {mg : Str → Option Value} {base : Heap}
/-! ### substitute -/
def intD : PyData → Int
  | .int i => i
  | _ => 0
def lettersD : PyData → List Int
  | .tuple es => es.map intD
  | _ => []
def letK (kvs : List (Key × V)) (ds : List PyData) (c : Nat) : List Int := match lookK kvs ds (kS c) with
  | some d => lettersD d
  | none => []
def outL (cs : List Nat) (kvs : List (Key × V)) (ds : List PyData) : List Int := cs.flatMap (letK kvs ds)
theorem ints_of {N : Addr → Prop} {H : Hp} : ∀ {xs : List V} {es : List PyData}, DxAll N H xs es → es.all letterD = true → xs = (es.map intD).map V.int
  | _, _, .nil, _ => rfl
  | _, _, .cons h t, e => by
    rw [List.all_cons, Bool.and_eq_true] at e
    rw [List.map_cons, List.map_cons, ← ints_of t e.2]
    cases h with
    | int i => rfl
    | _ => exact absurd (show false = true from e.1) (by decide)
theorem val_of {N : Addr → Prop} {H : Hp} {cs : List Nat} {kvs : List (Key × V)} {ds : List PyData} {c : Nat} (hx : DxAll N H (kvs.map (·.2)) ds) (ha : areB cs kvs ds = true) (hc : c ∈ cs) :
    ∃ p, valV kvs (kS c) = some (.ref p) ∧ H p = some (.tup ((letK kvs ds c).map V.int)) ∧ (letK kvs ds c).length ≤ 4096 := by
  have h1 : hasVal kvs ds c = true := List.all_eq_true.mp (Bool.and_eq_true_iff.mp ha).2 c (mem_met.mpr hc)
  rcases look_val (q := kS c) hx with ⟨_, h2⟩ | ⟨v, d, h3, h2, h4, _⟩
  · unfold hasVal at h1
    rw [h2] at h1
    cases h1
  · unfold hasVal at h1
    rw [h2] at h1
    have h5 : textD d = true := (Bool.and_eq_true_iff.mp h1).1
    obtain ⟨p, xs, es, rfl, rfl, hp, _, hxs⟩ := tup_dx h4 (text_tup h5)
    have h6 : (decide (es.length ≤ 4096) && es.all letterD) = true := h5
    obtain ⟨h7, h8⟩ := Bool.and_eq_true_iff.mp h6
    refine ⟨p, h3, ?_, ?_⟩
    · unfold letK
      rw [h2, hp, ints_of hxs h8]
      rfl
    · unfold letK
      rw [h2]
      show (es.map intD).length ≤ 4096
      rw [List.length_map]
      exact of_decide_eq_true h7
def spSub (CV CT : Addr) : Sp := fun vs H Q E => ∃ (cs : List Nat) (x : V) (N : Addr → Prop), vs = [.str (tx cs), x] ∧ Pat cs ∧
  ((∃ (a : Addr) (kvs : List (Key × V)) (ds : List PyData), x = .ref a ∧ H a = some (.dK kvs) ∧ DxAll N H (kvs.map (·.2)) ds ∧ (∀ d ∈ ds, d.bulk ≤ 1000000) ∧
      (areB cs kvs ds = true → (outL cs kvs ds).length ≤ 4096 → ∀ H' p, Same H H' → H' p = some (.tup ((outL cs kvs ds).map V.int)) → H p = none → Q (.ref p) H') ∧
      (areB cs kvs ds = true → 4096 < (outL cs kvs ds).length → ∀ dx H', H dx = none → Same H H' → H' dx = some (.xd [("limit", .int 4096)]) → E (.ref CT) (some dx) H') ∧
      (areB cs kvs ds = false → ∀ dx H', H dx = none → Same H H' → H' dx = some (.xd [("value", x)]) → E (.ref CV) (some dx) H')) ∨
    (∃ d, Dx N H x d ∧ isDictD d = false ∧ ∀ dx H', H dx = none → Same H H' → H' dx = some (.xd [("value", x)]) → E (.ref CV) (some dx) H'))
theorem ok_initV {k : Nat} (T : Txt K mg) : FnOk P w K mg base CX0 (k + 1) T.iInvalidValues T.dInvalidValues ["self", "value"] (spInit T.cInvalidValues "value") := by
  refine T.fInitInvalidValues.ok scInitInvalidValues (fun vs H Q E h => ?_) (fun cdv A outer s H vs Q E hr h => ?_)
  · obtain ⟨a, y, rfl, _⟩ := h
    rfl
  · obtain ⟨a, y, rfl, ha, q⟩ := h
    refine ⟨_, pss_one (ps_ost (pv 0) (pv 1)), ?_⟩
    exact ⟨_, rfl, _, rfl, a, T.cInvalidValues, rfl, T.xInvalidValues.oex, T.xInvalidValues.no, .inl ⟨ha, fun dx nd ne => q dx nd ne⟩⟩
theorem ok_initT {k : Nat} (T : Txt K mg) : FnOk P w K mg base CX0 (k + 1) T.iTooLarge T.dTooLarge ["self", "limit"] (spInit T.cTooLarge "limit") := by
  refine T.fInitTooLarge.ok scInitTooLarge (fun vs H Q E h => ?_) (fun cdv A outer s H vs Q E hr h => ?_)
  · obtain ⟨a, y, rfl, _⟩ := h
    rfl
  · obtain ⟨a, y, rfl, ha, q⟩ := h
    refine ⟨_, pss_one (Mo.ps_fieldG (pv 0) (pv 1)), ?_⟩
    exact ⟨_, rfl, _, rfl, a, T.cTooLarge, _, _, _, _, rfl, T.xTooLarge.ov, T.xTooLarge.no, ha, fun dx nd ne => q dx nd ne⟩
theorem flat_take {f : Nat → List Int} {cs : List Nat} {i c : Nat} (h : cs[i]? = some c) : (cs.take (i + 1)).flatMap f = (cs.take i).flatMap f ++ f c := by
  rw [List.take_add_one, h, List.flatMap_append]
  simp
theorem sum_len {f : Nat → List Int} : ∀ cs : List Nat, (cs.map fun c => ((f c).length : Int)).sum = ((cs.flatMap f).length : Int)
  | [] => rfl
  | c :: cs => by
    rw [List.map_cons, List.sum_cons, sum_len cs, List.flatMap_cons, List.length_append]
    omega
theorem ok_sub {k : Nat} (T : Txt K mg) : FnOk P w K mg base (L2.CX P w) (k + 5) T.aSubstitute T.dSubstitute ["pattern", "values"] (spSub T.cInvalidValues T.cTooLarge) := by
  have GCheckPattern : FnOk P w K mg base CX0 (k + 4) T.aCheckPattern T.dCheckPattern ["value"] spCheck := ok_check T
  have GAreValues : FnOk P w K mg base CX0 (k + 4) T.aAreValues T.dAreValues ["pattern", "value"] spAre := ok_are T
  have GInitInvalidValues : FnOk P w K mg base CX0 (k + 3) T.iInvalidValues T.dInvalidValues ["self", "value"] (spInit T.cInvalidValues "value") := ok_initV T
  have GInitTooLarge : FnOk P w K mg base CX0 (k + 3) T.iTooLarge T.dTooLarge ["self", "limit"] (spInit T.cTooLarge "limit") := ok_initT T
  refine T.fSubstitute.okX scSubstitute (fun vs H Q E h => ?_) (fun cdv A outer s H vs Q E hr h => ?_)
  · obtain ⟨_, _, _, rfl, _⟩ := h
    rfl
  · obtain ⟨cs, x, N, rfl, pat, h⟩ := h
    have hu := hu_of hr
    have hlen := pat.len
    refine ⟨_, (pss_cons (ps_expr (pe_call GCheckPattern hr (by rfl) T.gCheckPattern T.fCheckPattern.kp T.bCheckPattern .nil pass0 (pa_cons (pv 0) pa_nil)))
      (pss_cons (ps_if (pt_not (pt_val (pe_call GAreValues hr (by rfl) T.gAreValues T.fAreValues.kp T.bAreValues .nil pass0 (pa_cons (pv 0) (pa_cons (pv 1) pa_nil))))) (pss_one (ps_raise rfl (takes_of rfl rfl rfl rfl) (pmk_oex T.xInvalidValues.oex T.xInvalidValues.iC T.xInvalidValues.tI GInitInvalidValues hr T.bInitInvalidValues .nil pass0 (by rfl) T.eInvalidValues (pa_cons (pv 1) pa_nil)))) pss_nil)
      (pss_cons (ps_if (pt_cmpR op_gt (pe_callB (cr_sum rfl) (by rfl) T.m_sum (by decide +kernel) (pa_cons (pe_lc (own := [("name", 2)]) (g := gName 2) (tt := tYes) rfl scSubstitute.nd (pi_str (pv 0)) (blkOk_by (N := ["pattern", "values", "name", "letter"]) (sc := defScope sSubstitute) (by decide +kernel)) (fun _ _ _ _ _ => pg_name (i := 2) scSubstitute.nd rfl (Or.inl rfl)) (fun _ _ _ _ _ => pts_nil) (fun _ _ _ _ _ => (pe_callB (Mo.call_len_seqK (K := K) rfl) (by rfl) T.m_len PySem.boot_len (pa_cons (pe_dget hu (pv 1) (pv 2) (fun _ _ => rfl)) pa_nil)))) pa_nil)) (pe_glob (v := .int 4096) rfl T.m_LONGEST_TEXT ⟨_, rfl⟩) (nomark _)) (pss_one (ps_raise rfl (takes_of rfl rfl rfl rfl) (Mo.pmkG T.xTooLarge.ov T.xTooLarge.iC T.xTooLarge.tI GInitTooLarge hr T.bInitTooLarge pass0 (by rfl) T.eTooLarge (pa_cons (pe_glob (v := .int 4096) rfl T.m_LONGEST_TEXT ⟨_, rfl⟩) pa_nil)))) pss_nil)
      (pss_one (ps_ret (pe_callTy call_tuple_of (by rfl) T.m_tuple (by decide +kernel) (pa_cons (pe_lc2 (own := [("name", 2), ("letter", 3)]) (vs1 := [3]) (g := gName 2) (g1 := gName 3) (tt := tYes) (tt1 := tYes) rfl scSubstitute.nd (pi_str (pv 0)) (blkOk_by (N := ["pattern", "values", "name", "letter"]) (sc := defScope sSubstitute) (by decide +kernel)) (by decide) (fun _ _ _ _ _ => pg_name (i := 2) scSubstitute.nd rfl (Or.inl rfl)) (fun _ _ _ _ _ => pts_nil) (fun _ _ _ _ _ => (Mo.pi_tupK (K := K) rfl (pe_dget hu (pv 1) (pv 2) (fun _ _ => rfl)))) (fun _ _ _ _ _ => pg_name (i := 3) scSubstitute.nd rfl (Or.inl rfl)) (fun _ _ _ _ _ => pts_nil) (fun _ _ _ _ _ => (pv 3))) pa_nil))))))), ?_⟩
    refine ⟨_, rfl, cs, rfl, pat, fun H1 s1 => ⟨_, rfl, _, rfl, cs, x, N, rfl, pat, ?_⟩⟩
    rcases h with ⟨a, kvs, ds, rfl, ha, hx, hb, q1, q2, q3⟩ | ⟨d, hd, hk, q⟩
    · refine .inl ⟨a, kvs, ds, rfl, s1 _ _ ha, hx.same s1, hb, fun H2 s2 => ⟨_, rfl, ?_⟩⟩
      have s12 := s1.trans s2
      cases eA : areB cs kvs ds with
      | false => exact iteT ⟨_, rfl, err_read fun dx H' nd s3 hdx => q3 eA dx H' (s12.free nd) (s12.trans s3) hdx⟩
      | true =>
        have ha2 := s12 _ _ ha
        have hx2 := hx.same s12
        refine iteF ⟨_, rfl, tx cs, rfl, fun D nD => lc_it walk_str (fun i H' => Same H2 H' ∧ H' D = some (.lst (((cs.take i).map fun c => ((letK kvs ds c).length : Int)).map V.int))) ?_ ?_ ?_ ?_⟩
        · exact ⟨same_new nD, upd_same⟩
        · exact fun _ _ _ _ => trivial
        · rintro i x H3 H4 hi ⟨s3, hD⟩ ⟨rfl, c, hc, rfl⟩
          rw [tx_get] at hc
          obtain ⟨p, hp1, hp2, _⟩ := val_of (hx2.same s3) eA (List.mem_of_getElem? hc)
          have g := DGet.k (k := kS c) (s3 _ _ ha2)
          rw [hp1] at g
          refine ⟨rfl, _, rfl, _, rfl, a, _, rfl, g, p, _, rfl, .inr (SqT.of hp2), _, hD, fitsLt (by rw [List.length_map, List.length_map, List.length_take]; omega), Same.put s3 nD, ?_⟩
          rw [upd_same, List.take_add_one, hc, List.map_append, List.map_append, List.length_map]
          rfl
        · rintro H3 ⟨s3, hD⟩
          rw [tx_size, List.take_length] at hD
          refine ⟨D, _, rfl, SqL.of hD, _, _, rfl, rfl, _, rfl, ?_⟩
          rw [sum_len]
          have s13 := s12.trans s3
          refine ite2 (fun e => ?_) (fun e => ?_)
          · have h4 := of_decide_eq_true e
            exact err_read (fun dx H' nd s4 hdx => q2 eA (by unfold outL; omega) dx H' (s13.free nd) (s13.trans s4) hdx)
          · have h4 : ¬ (4096 : Int) < ((cs.flatMap (letK kvs ds)).length : Int) := fun z => e (decide_eq_true z)
            have hout : (outL cs kvs ds).length ≤ 4096 := by unfold outL; omega
            have ha3 := s13 _ _ ha
            have hx3 := hx.same s13
            refine ⟨_, rfl, tx cs, rfl, fun D2 nD2 => turns_it walk_str (fun i H' => Same H3 H' ∧ H' D2 = some (.lst (((cs.take i).flatMap (letK kvs ds)).map V.int))) ?_ ?_ ?_ ?_⟩
            · exact ⟨same_new nD2, upd_same⟩
            · exact fun _ _ _ _ => trivial
            · rintro i x H4 H5 hi ⟨s4, hD2⟩ ⟨rfl, c, hc, rfl⟩
              rw [tx_get] at hc
              obtain ⟨p, hp1, hp2, _⟩ := val_of (hx3.same s4) eA (List.mem_of_getElem? hc)
              have g := DGet.k (k := kS c) (s4 _ _ ha3)
              rw [hp1] at g
              refine ⟨rfl, _, rfl, _, rfl, a, _, rfl, g, p, rfl, ⟨_, SqT.of hp2⟩, turns_it (walk_tup (xs := (letK kvs ds c).map V.int)) (fun j H' => Same H3 H' ∧ H' D2 = some (.lst (((cs.take i).flatMap (letK kvs ds) ++ (letK kvs ds c).take j).map V.int)) ∧ H' p = some (.tup ((letK kvs ds c).map V.int))) ?_ ?_ ?_ ?_⟩
              · exact ⟨s4, by rw [List.take_zero, List.append_nil]; exact hD2, hp2⟩
              · exact fun _ _ _ h => SqT.of h.2.2
              · rintro j x H6 H7 hj ⟨s6, hD6, hp6⟩ ⟨rfl, hx6⟩
                rw [List.getElem?_map] at hx6
                cases el : (letK kvs ds c)[j]? with
                | none => rw [el] at hx6; cases hx6
                | some n =>
                  rw [el] at hx6
                  obtain rfl := Option.some.inj hx6
                  have hle : ((cs.take i).flatMap (letK kvs ds) ++ (letK kvs ds c).take j).length ≤ 4096 := by
                    have e1 : outL cs kvs ds = (cs.take i).flatMap (letK kvs ds) ++ (letK kvs ds c ++ (cs.drop (i + 1)).flatMap (letK kvs ds)) := by
                      unfold outL
                      rw [← List.append_assoc, ← flat_take hc, ← List.flatMap_append, List.take_append_drop]
                    rw [e1, List.length_append, List.length_append] at hout
                    rw [List.length_append, List.length_take]
                    omega
                  have npD : p ≠ D2 := ne_of hp6 hD6 (by intro z; cases z)
                  refine ⟨rfl, _, rfl, _, hD6, fitsLt (by rw [List.length_map]; omega), Same.put s6 nD2, ?_, by rw [upd_ne npD]; exact hp6⟩
                  rw [upd_same, List.take_add_one, el, ← List.append_assoc, List.map_append (l₂ := (some n).toList)]
                  rfl
              · rintro H6 ⟨s6, hD6, _⟩
                rw [List.length_map, List.take_length, ← flat_take hc] at hD6
                exact ⟨s6, hD6⟩
            · rintro H4 ⟨s4, hD2⟩
              rw [tx_size, List.take_length] at hD2
              refine ⟨D2, _, rfl, .inl ⟨SqL.of hD2, fun p np => ?_⟩⟩
              have s5 := same_new (o := .tup ((cs.flatMap (letK kvs ds)).map V.int)) np
              exact q1 eA hout _ p ((s13.trans s4).trans s5) upd_same ((s13.trans s4).free np)
    · exact .inr ⟨d, hd.same s1, hk, fun H2 s2 => ⟨_, rfl, iteT ⟨_, rfl, err_read fun dx H' nd s3 hdx => q dx H' ((s1.trans s2).free nd) ((s1.trans s2).trans s3) hdx⟩⟩⟩
end
end Mo

namespace Mo
open PySem PySem.Spec PyProof.Rows L2
section
variable {P : Program} {w : World} {K : PySem.W.Frag} {mg : Str → Option Value} {base : Heap}
/-! ### the law's own filling, things in a drawn order, values -/
def spFilled : Sp := fun vs H Q _ => ∃ (cs : List Nat) (a : Addr) (kvs : List (Key × V)) (f : Nat → List Int), vs = [.str (tx cs), .ref a] ∧ H a = some (.dK kvs) ∧
  (∀ c ∈ cs, ∃ p, valV kvs (kS c) = some (.ref p) ∧ H p = some (.tup ((f c).map V.int))) ∧ (cs.flatMap f).length ≤ 100000 ∧
  ∀ H' p, Same H H' → H' p = some (.tup ((cs.flatMap f).map V.int)) → Q (.ref p) H'
theorem flat_le {f : Nat → List Int} {cs : List Nat} {i c : Nat} (h : cs[i]? = some c) : ((cs.take i).flatMap f).length + (f c).length ≤ (cs.flatMap f).length := by
  have e : cs.flatMap f = (cs.take i).flatMap f ++ f c ++ (cs.drop (i + 1)).flatMap f := by
    rw [← flat_take h, ← List.flatMap_append, List.take_append_drop]
  rw [e, List.length_append, List.length_append]
  omega
theorem ok_filled {k : Nat} (T : Txt K mg) : FnOk P w K mg base CX0 (k + 1) T.aLFilled T.dLFilled ["_law_pattern_here", "_law_values_here"] spFilled := by
  refine T.fLFilled.ok scLFilled (fun vs H Q E h => ?_) (fun cdv A outer s H vs Q E hr h => ?_)
  · obtain ⟨_, _, _, _, rfl, _⟩ := h
    rfl
  · obtain ⟨cs, a, kvs, f, rfl, ha, hv, hl, q⟩ := h
    have hu := hu_of hr
    refine ⟨_, (pss_cons (ps_set (i := 2) scLFilled.nd rfl (Or.inl rfl) (pe_tup pa_nil))
      (pss_cons (ps_for PassesOwn.never rfl (pi_str (pv 0)) (pg_name (i := 3) scLFilled.nd rfl (Or.inl rfl)) (pss_one (ps_set (i := 2) scLFilled.nd rfl (Or.inl rfl) (pe_op op_catA (pv 2) (pe_dget hu (pv 1) (pv 3) (fun _ _ => rfl))))))
      (pss_one (ps_ret (pv 2))))), ?_⟩
    refine ⟨Nat.zero_le _, fun p0 n0 => ⟨_, rfl, tx cs, rfl, for_it walk_str (fun i σ H' => ∃ o p, σ = [some (.str (tx cs)), some (.ref a), some (.ref p), o] ∧ Same H H' ∧ H' p = some (.tup (((cs.take i).flatMap f).map V.int))) ?_ ?_ ?_ ?_⟩⟩
    · exact ⟨none, p0, rfl, same_new n0, upd_same⟩
    · exact fun _ _ _ _ _ => trivial
    · rintro i x σ H2 H3 hi ⟨o, p, rfl, s2, hp⟩ ⟨rfl, c, hc, rfl⟩
      rw [tx_get] at hc
      obtain ⟨r, hr1, hr2⟩ := hv c (List.mem_of_getElem? hc)
      have g := DGet.k (k := kS c) (s2 _ _ ha)
      rw [hr1] at g
      have hle := flat_le (f := f) hc
      refine ⟨_, rfl, _, rfl, _, rfl, a, _, rfl, g, catA_any hp (s2 _ _ hr2) (fits5 (by rw [List.length_map, List.length_map]; omega)) fun p' H' s' hp' _ => ?_⟩
      exact ⟨_, p', rfl, s2.trans s', by rw [hp', flat_take hc, List.map_append]⟩
    · rintro σ H2 ⟨o, p, rfl, s2, hp⟩
      rw [tx_size, List.take_length] at hp
      exact ⟨_, rfl, q H2 p s2 hp⟩
/-- things in a drawn order -/
def spShuffled : Sp := fun vs H Q _ => ∃ (d c l : Addr) (f : Nat → V) (cs : List Nat) (t : Nat), vs = [.ref d, .ref l] ∧ Pen H d c t ∧ H l = some (.lst (cs.map f)) ∧ cs.length ≤ 1000 ∧ t < 1000000 ∧
  ∀ H' p (zs : List Nat) t', But d H H' → Pen H' d c t' → t' ≤ t + cs.length → H p = none → p ≠ d → H' p = some (.lst (zs.map f)) → zs.Perm cs → Q (.ref p) H'
theorem map_erase {α β : Type} (f : α → β) : ∀ (l : List α) (k : Nat), (l.map f).eraseIdx k = (l.eraseIdx k).map f
  | [], _ => by simp
  | _ :: _, 0 => by simp
  | a :: l, k + 1 => by
    show f a :: (l.map f).eraseIdx k = f a :: (l.eraseIdx k).map f
    rw [map_erase f l k]
theorem erase_perm {α : Type} : ∀ (l : List α) (m : Nat) (h : m < l.length), (l[m] :: l.eraseIdx m).Perm l
  | [], _, h => by simp at h
  | a :: l, 0, _ => .refl _
  | a :: l, m + 1, h => (List.Perm.swap a (l[m]'(by simpa using h)) (l.eraseIdx m)).trans (.cons a (erase_perm l m (by simpa using h)))
def lenAt (H : Hp) (p : Addr) : Nat := match H p with
  | some (.lst xs) => xs.length
  | _ => 0
theorem lenAt_eq {H : Hp} {p : Addr} {xs : List V} (h : H p = some (.lst xs)) : lenAt H p = xs.length := by
  unfold lenAt
  rw [h]
theorem ok_shuffled {k : Nat} (T : Txt K mg) : FnOk P w K mg base CX0 (k + 2) T.aLShuffled T.dLShuffled ["_law_pen_here", "_law_some"] spShuffled := by
  have GLDraw : FnOk P w K mg base CX0 (k + 1) T.aLDraw T.dLDraw ["_law_pen_here", "_law_size"] spDraw := ok_draw T
  refine T.fLShuffled.ok scLShuffled (fun vs H Q E h => ?_) (fun cdv A outer s H vs Q E hr h => ?_)
  · obtain ⟨_, _, _, _, _, _, rfl, _⟩ := h
    rfl
  · obtain ⟨d, c, l, f, cs, t, rfl, pen, hl, hn, ht, q⟩ := h
    refine ⟨_, (pss_cons (ps_par (i := 2) (j := 3) (by rfl) scLShuffled.nd rfl rfl (by decide) rfl rfl (pa_cons (pe_callTy call_list_of (by rfl) T.m_list (by decide +kernel) (pa_cons (pv 1) pa_nil)) (pa_cons (pe_lst pa_nil) pa_nil)) (by rfl))
      (pss_cons (ps_while PassesOwn.never (pt_cmpR (Mo.op_neNil hr.units) (pv 2) (pe_lst pa_nil) (nomark _)) (pss_one (ps_expr (pe_bm PySem.F.plainAttrs_list PySem.F.slot_list_append PySem.F.type_list_append mt_append (pv 3) (pa_cons (pe_bm PySem.F.plainAttrs_list PySem.F.slot_list_pop PySem.F.type_list_pop mt_popAt (pv 2) (pa_cons (pe_call GLDraw hr (by rfl) T.gLDraw T.fLDraw.kp T.bLDraw .nil pass0 (pa_cons (pv 0) (pa_cons (pe_callB call_len_seq (by rfl) T.m_len PySem.boot_len (pa_cons (pv 2) pa_nil)) pa_nil))) pa_nil)) pa_nil)))))
      (pss_one (ps_ret (pv 3))))), ?_⟩
    refine ⟨_, rfl, l, _, rfl, .inl (SqL.of hl), fun p np => ⟨Nat.zero_le _, fun g ng => ⟨_, _, rfl, ?_⟩⟩⟩
    have s1 := same_new (o := .lst (cs.map f)) np
    have s2 := same_new (o := .lst []) ng
    have npd := (pen.new np).1
    have npc := (pen.new np).2
    have ngd := ((pen.same s1).new ng).1
    have ngc := ((pen.same s1).new ng).2
    have ngp : g ≠ p := fun z => by rw [z, upd_same] at ng; cases ng
    have ng0 : H g = none := s1.free ng
    refine while_by (fun σ H' => ∃ (ls fs : List Nat) (t' : Nat), σ = [some (.ref d), some (.ref l), some (.ref p), some (.ref g)] ∧ H' p = some (.lst (ls.map f)) ∧ H' g = some (.lst (fs.map f)) ∧ (fs ++ ls).Perm cs ∧ Pen H' d c t' ∧ t' + ls.length ≤ t + cs.length ∧ But d H H') (fun _ H' => lenAt H' p) ?_ ?_ ?_
    · exact ⟨cs, [], t, rfl, s2 _ _ upd_same, upd_same, .refl _, (pen.same s1).same s2, Nat.le_refl _, But.same (s1.trans s2)⟩
    · rintro σ H1 ⟨ls, fs, t1, rfl, hp, hg, hperm, pen1, ht1, but1⟩
      have hlen := hperm.length_eq
      rw [List.length_append] at hlen
      refine ⟨_, rfl, Nat.zero_le _, fun b nb => ?_⟩
      have s3 := same_new (o := .lst []) nb
      have hp3 := s3 _ _ hp
      have hg3 := s3 _ _ hg
      have pen3 := pen1.same s3
      refine ⟨p, b, _, rfl, rfl, SqL.of hp3, SqL.of upd_same, _, rfl, ?_⟩
      generalize upd H1 b (.lst []) = H3 at *
      cases ls with
      | nil => exact iteF ⟨_, rfl, q _ g fs t1 (but1.trans (But.same s3)) pen3 (by simpa using ht1) ng0 ngd hg3 (by simpa using hperm)⟩
      | cons z ls =>
        refine iteT ⟨_, rfl, .inl ⟨rfl, _, SqL.of hg3⟩, _, rfl, .inl ⟨rfl, _, SqL.of hp3⟩, _, rfl, _, rfl, p, _, rfl, .inl (SqL.of hp3), d, c, _, t1, rfl, pen3, ?_, ?_, ?_, fun H4 j t4 but4 pen4 ht4 j0 j1 => ?_⟩
        · rw [List.length_map, List.length_cons]; omega
        · rw [List.length_map, List.length_cons]; rw [List.length_cons] at hlen; omega
        · omega
        · rw [List.length_map] at j1
          obtain ⟨m, rfl⟩ := nat_of j0
          have hm : m < (z :: ls).length := by omega
          have hp4 := but4 _ _ npd hp3
          have hg4 := but4 _ _ ngd hg3
          refine ⟨p, _, _, m, f ((z :: ls)[m]), rfl, rfl, hp4, by omega, by rw [List.length_cons] at hm hlen; omega, ?_, ?_, ?_⟩
          · rw [List.length_map]; exact seqIndex_at (by omega) (by omega)
          · rw [List.getElem?_map, List.getElem?_eq_getElem hm]; rfl
          · refine ⟨g, _, _, rfl, rfl, by rw [upd_ne ngp]; exact hg4, fitsLt (by rw [List.length_map]; omega), ⟨(z :: ls).eraseIdx m, fs ++ [(z :: ls)[m]], t4, rfl, by rw [upd_ne ngp.symm, upd_same, map_erase], by rw [upd_same, List.map_append]; rfl, ?_, (pen4.upd npd npc).upd ngd ngc, ?_, ?_⟩, ?_⟩
            · refine List.Perm.trans ?_ hperm
              rw [List.append_assoc]
              exact List.Perm.append_left _ (erase_perm _ m hm)
            · rw [List.length_eraseIdx, if_pos hm]
              omega
            · exact ((but1.trans ((But.same s3).trans but4)).put np).put ng0
            · rw [lenAt_eq (xs := ((z :: ls).map f).eraseIdx m) (by rw [upd_ne ngp.symm, upd_same]), lenAt_eq hp, List.length_eraseIdx, List.length_map, if_pos hm]
              omega
    · rintro σ H1 Q1 Q2 m ⟨v, hv, hz, h⟩
      refine ⟨v, hv, hz, fun b nb => ?_⟩
      obtain ⟨a, b', xs, e1, e2, e3, e4, bb, e5, z⟩ := h b nb
      exact ⟨a, b', xs, e1, e2, e3, e4, bb, e5, m _ _ z⟩
end
end Mo

namespace Mo
open PySem PySem.Spec PyProof.Rows L2
theorem ints_dx {N : Addr → Prop} {H : Hp} : ∀ ns : List Int, DxAll N H (ns.map V.int) (ns.map PyData.int)
  | [] => .nil
  | n :: ns => .cons (.int n) (ints_dx ns)
theorem but_N {N : Addr → Prop} {H H' : Hp} {d : Addr} (nd : N d) (b : But d H H') : ∀ x o, ¬ N x → H x = some o → H' x = some o := fun x o nx e => b x o (fun z => nx (z ▸ nd)) e
theorem upd_N {N : Addr → Prop} {H : Hp} {a : Addr} {o : HO} (na : N a) : ∀ x u, ¬ N x → H x = some u → upd H a o x = some u := fun x u nx e => by
  rw [upd_ne (show x ≠ a from fun z => nx (by rw [z]; exact na))]
  exact e
theorem kS_inj {a b : Nat} (h : kS a = kS b) : a = b := by
  have h1 := Sum.inr.inj h
  have h2 : (tx [a]) = (tx [b]) := h1
  exact List.singleton_inj.mp (tx_inj h2)
theorem putK_new {kvs : List (Key × V)} {k : Key} {v : V} (h : ∀ kv ∈ kvs, kv.1 ≠ k) : putK kvs k v = kvs ++ [(k, v)] := by
  unfold putK
  rw [if_neg]
  intro e
  obtain ⟨kv, hm, hk⟩ := List.any_eq_true.mp e
  exact h kv hm (of_decide_eq_true hk)
section
variable {P : Program} {w : World} {K : PySem.W.Frag} {mg : Str → Option Value} {base : Heap}
def txD (l : List Int) : PyData := .tuple (l.map PyData.int)
def okV (l : List Int) : Prop := l ≠ [] ∧ l.length ≤ 6 ∧ ∀ n ∈ l, 0 ≤ n ∧ n ≤ 999999
/-- values at a: the keys zs, the texts vals -/
structure VD (N : Addr → Prop) (H : Hp) (a : Addr) (zs : List Nat) (vals : List (List Int)) (kvs : List (Key × V)) : Prop where
  at_ : H a = some (.dK kvs)
  keys : kvs.map (·.1) = zs.map kS
  dat : DxAll N H (kvs.map (·.2)) (vals.map txD)
  len : vals.length = zs.length
  ok : ∀ l ∈ vals, okV l
def spValues : Sp := fun vs H Q _ => ∃ (d c : Addr) (cs : List Nat) (t : Nat), vs = [.ref d, .str (tx cs)] ∧ Pat cs ∧ Pen H d c t ∧ t < 1000000 ∧
  ∀ H' a zs vals kvs t', But d H H' → Pen H' d c t' → t' ≤ t + 100 → H a = none → a ≠ d → zs.Perm (met cs) → VD (fun x => x = d) H' a zs vals kvs → Q (.ref a) H'
theorem ok_values {k : Nat} (T : Txt K mg) : FnOk P w K mg base CX0 (k + 3) T.aLValues T.dLValues ["_law_pen_here", "_law_pattern_here"] spValues := by
  have GLDraw : FnOk P w K mg base CX0 (k + 2) T.aLDraw T.dLDraw ["_law_pen_here", "_law_size"] spDraw := ok_draw T
  have GLPick : FnOk P w K mg base CX0 (k + 2) T.aLPick T.dLPick ["_law_pen_here", "_law_options"] (spPick K) := ok_pick T
  have GLShuffled : FnOk P w K mg base CX0 (k + 2) T.aLShuffled T.dLShuffled ["_law_pen_here", "_law_some"] spShuffled := ok_shuffled T
  have GLOrder : FnOk P w K mg base CX0 (k + 2) T.aLOrder T.dLOrder ["_law_pattern_here"] spVars := ok_order T
  refine T.fLValues.ok scLValues (fun vs H Q E h => ?_) (fun cdv A outer s H vs Q E hr h => ?_)
  · obtain ⟨_, _, _, _, rfl, _⟩ := h
    rfl
  · obtain ⟨d, c, cs, t, rfl, pat, pen, ht, q⟩ := h
    have hu := hu_of hr
    refine ⟨_, (pss_cons (ps_set (i := 2) scLValues.nd rfl (Or.inl rfl) pe_dnewK)
      (pss_cons (ps_for PassesOwn.never rfl (pi_list (pe_call GLShuffled hr (by rfl) T.gLShuffled T.fLShuffled.kp T.bLShuffled .nil pass0 (pa_cons (pv 0) (pa_cons (pe_callTy (Mo.cr_lstS rfl) (by rfl) T.m_list (by decide +kernel) (pa_cons (pe_call GLOrder hr (by rfl) T.gLOrder T.fLOrder.kp T.bLOrder .nil pass0 (pa_cons (pv 1) pa_nil)) pa_nil)) pa_nil)))) (pg_name (i := 3) scLValues.nd rfl (Or.inl rfl)) (pss_cons (ps_set (i := 4) scLValues.nd rfl (Or.inr rfl) (pe_call GLPick hr (by rfl) T.gLPick T.fLPick.kp T.bLPick .nil pass0 (pa_cons (pv 0) (pa_cons (pe_lst (pa_cons pe_int (pa_cons pe_int (pa_cons pe_int (pa_cons (pe_call GLDraw hr (by rfl) T.gLDraw T.fLDraw.kp T.bLDraw .nil pass0 (pa_cons (pv 0) (pa_cons pe_int pa_nil))) pa_nil))))) pa_nil))))
      (pss_one (ps_dput hu (pv 2) (pv 3) (pe_callTy call_tuple_of (by rfl) T.m_tuple (by decide +kernel) (pa_cons (pe_lc (own := [("_law_k", 5)]) (g := gName 5) (tt := tYes) rfl scLValues.nd (pi_range1 (by rfl) T.m_range (pa_cons (pe_op op_add pe_int (pe_call GLDraw hr (by rfl) T.gLDraw T.fLDraw.kp T.bLDraw .nil pass0 (pa_cons (pv 0) (pa_cons pe_int pa_nil)))) pa_nil)) (blkOk_by (N := ["_law_pen_here", "_law_pattern_here", "_law_found", "_law_sign", "_law_base", "_law_k"]) (sc := defScope sLValues) (by decide +kernel)) (fun _ _ _ _ _ => pg_name (i := 5) scLValues.nd rfl (Or.inl rfl)) (fun _ _ _ _ _ => pts_nil) (fun _ _ _ _ _ => (pe_op op_add (pv 4) (pe_call GLDraw hr (by rfl) T.gLDraw T.fLDraw.kp T.bLDraw .nil pass0 (pa_cons (pv 0) (pa_cons pe_int pa_nil)))))) pa_nil)) rfl))))
      (pss_one (ps_ret (pv 2))))), ?_⟩
    have hfew := pat.few
    intro a na
    have sa := same_new (o := .dK []) na
    have nad := (pen.new na).1
    have nac := (pen.new na).2
    have penA := pen.same sa
    refine ⟨_, rfl, _, rfl, cs, rfl, pat, fun H1 s1 => ⟨met cs, rfl, by omega, fun p np => ?_⟩⟩
    have sp := same_new (o := .lst ((met cs).map sg)) np
    have pen1 := (penA.same s1).same sp
    have ha1 := sp _ _ (s1 _ _ (upd_same (H := H) (a := a) (o := .dK [])))
    have b1 : But d H (upd H1 p (.lst ((met cs).map sg))) := But.same ((sa.trans s1).trans sp)
    refine ⟨d, c, p, sg, met cs, t, rfl, pen1, upd_same, by omega, ht, fun H2 l zs t2 but2 pen2 ht2 nl nld hl perm => ?_⟩
    have ha2 := but2 _ _ nad ha1
    have b2 := b1.trans but2
    have hzn : zs.Nodup := perm.nodup_iff.mpr (met_nodup cs)
    have hzl : zs.length = (met cs).length := perm.length_eq
    have nla : l ≠ a := fun z => by rw [z, ha1] at nl; cases nl
    clear but2 pen1 ha1 b1 sp s1 sa penA np
    refine ⟨l, rfl, ⟨_, SqL.of hl⟩, for_list (xs := zs.map sg) (fun i σ H' => ∃ (kvs : List (Key × V)) (vals : List (List Int)) (t' : Nat) (o3 o4 o5 : Option V), σ = [some (.ref d), some (.str (tx cs)), some (.ref a), o3, o4, o5] ∧
      VD (fun x => x = d ∨ x = a) H' a (zs.take i) vals kvs ∧ Pen H' d c t' ∧ t' ≤ t2 + 9 * i ∧ But d H H' ∧ H' l = some (.lst (zs.map sg))) ?_ ?_ ?_ ?_⟩
    · exact ⟨[], [], t2, none, none, none, rfl, ⟨ha2, rfl, .nil, rfl, by simp⟩, pen2, Nat.le_refl _, b2, hl⟩
    · rintro i σ H3 hi ⟨_, _, _, _, _, _, _, _, _, _, _, h⟩
      exact SqL.of h
    · rintro i x σ H3 hx ⟨kvs, vals, t3, o3, o4, o5, rfl, vd, pen3, ht3, but3, hl3⟩
      rw [List.getElem?_map] at hx
      cases hz : zs[i]? with
      | none => rw [hz] at hx; cases hx
      | some z =>
      rw [hz] at hx
      obtain rfl := Option.some.inj hx
      have hil : i < zs.length := (List.getElem?_eq_some_iff.mp hz).1
      refine ⟨_, rfl, _, rfl, d, c, 999990, t3, rfl, pen3, by decide, by decide, by omega, fun H4 b t4 but4 pen4 ht4 b0 b1 => ⟨by show 4 ≤ sizeLine; decide, fun r nr => ?_⟩⟩
      have s4 := same_new (o := .lst [.int 0, .int 7, .int 999990, .int b]) nr
      refine ⟨d, c, r, _, t4, rfl, pen4.same s4, SqL.of upd_same, (pen4.new nr).1, by show 0 < 4; decide, by show 4 < _; decide, by omega, fun H5 v t5 but5 pen5 ht5 hv => ?_⟩
      obtain ⟨u, rfl, u0, u1⟩ : ∃ u : Int, v = .int u ∧ 0 ≤ u ∧ u ≤ 999990 := by
        simp only [List.mem_cons, List.not_mem_nil, or_false] at hv
        rcases hv with rfl | rfl | rfl | rfl
        · exact ⟨_, rfl, by decide, by decide⟩
        · exact ⟨_, rfl, by decide, by decide⟩
        · exact ⟨_, rfl, by decide, by decide⟩
        · exact ⟨_, rfl, by omega, by omega⟩
      refine ⟨_, rfl, d, c, 6, t5, rfl, pen5, by decide, by decide, by omega, fun H6 m t6 but6 pen6 ht6 m0 m1 => ?_⟩
      obtain ⟨n, rfl⟩ := nat_of m0
      have b36 : But d H3 H6 := ((but4.trans (But.same s4)).trans but5).trans but6
      refine ⟨1, n, rfl, rfl, ((n + 1 : Nat) : Int), congrArg (fun i : Int => [V.int i]) (show (1 : Int) + (n : Int) = ((n + 1 : Nat) : Int) by omega), by omega, by omega, fun D nD => ?_⟩
      have nDp := pen6.new nD
      refine lc_range (lo := 0) (n := n + 1) (fun j H' => ∃ (ns : List Int) (t' : Nat), But d H6 H' ∧ Pen H' d c t' ∧ t' ≤ t6 + j ∧ H' D = some (.lst (ns.map V.int)) ∧ ns.length = j ∧ ∀ n ∈ ns, 0 ≤ n ∧ n ≤ 999999) ?_ ?_ ?_
      · exact ⟨[], t6, But.same (same_new nD), pen6.same (same_new nD), Nat.le_refl _, upd_same, rfl, by simp⟩
      · rintro j H7 hj ⟨ns, t7, bt, pn, ht7, hD, hlen, hsm⟩
        refine ⟨rfl, _, rfl, _, rfl, d, c, 9, t7, rfl, pn, by decide, by decide, by omega, fun H8 y t8 b8 p8 h8 y0 y1 => ?_⟩
        refine ⟨_, _, rfl, rfl, _, b8 _ _ nDp.1 hD, fitsLt (by rw [List.length_map]; omega), ns ++ [u + y], t8, (bt.trans b8).put nD, p8.upd nDp.1 nDp.2, by omega, by rw [upd_same, List.map_append]; rfl, by rw [List.length_append, hlen]; rfl, fun n hn => ?_⟩
        rcases List.mem_append.mp hn with hn | hn
        · exact hsm n hn
        · obtain rfl := List.mem_singleton.mp hn
          omega
      · rintro H7 ⟨ns, t7, bt, pn, ht7, hD, hlen, hsm⟩
        refine ⟨D, _, rfl, .inl ⟨SqL.of hD, fun p np => ?_⟩⟩
        have s7 := same_new (o := .tup (ns.map V.int)) np
        have b37 : But d H3 (upd H7 p (.tup (ns.map V.int))) := (b36.trans bt).trans (But.same s7)
        have ha7 := b37 _ _ nad vd.at_
        have npa : p ≠ a := fun z => by
          rw [z] at np
          rw [(b36.trans bt) _ _ nad vd.at_] at np
          cases np
        have npd := (pn.new np).1
        have hzk : ∀ kv ∈ kvs, kv.1 ≠ kS z := fun kv hkv e => by
          have h1 : kv.1 ∈ kvs.map (·.1) := List.mem_map.mpr ⟨kv, hkv, rfl⟩
          rw [vd.keys] at h1
          obtain ⟨y, hy, hye⟩ := List.mem_map.mp h1
          have : y = z := kS_inj (hye.trans e)
          subst this
          have h2 := List.Nodup.sublist (List.take_sublist (i + 1) zs) hzn
          rw [List.take_add_one, hz] at h2
          exact (List.nodup_append.mp h2).2.2 y hy y (by simp) rfl
        have hkl : kvs.length ≤ 40 := by
          have h1 := congrArg List.length vd.keys
          rw [List.length_map, List.length_map, List.length_take] at h1
          omega
        have d7 := (vd.dat.but (but_N (N := fun x => x = d ∨ x = a) (.inl rfl) b37)).but (upd_N (o := .dK (putK kvs (kS z) (.ref p))) (.inr rfl))
        refine ⟨_, rfl, _, rfl, a, _, rfl, DPut.k (k := kS z) ha7 (fitsLt (by omega)), kvs ++ [(kS z, .ref p)], vals ++ [ns], t7, _, _, _, rfl, ⟨?_, ?_, ?_, ?_, ?_⟩, ?_, ?_, ?_, ?_⟩
        · rw [upd_same, putK_new hzk]
        · rw [List.map_append, vd.keys, List.take_add_one, hz, List.map_append]
          rfl
        · rw [List.map_append, List.map_append]
          refine d7.append (.cons (.tup ?_ (fun z => z.elim npd npa) (ints_dx ns)) .nil)
          rw [upd_ne npa, upd_same]
        · rw [List.length_append, vd.len, List.length_take, List.length_take]
          show _ + 1 = _
          omega
        · intro l hl
          rcases List.mem_append.mp hl with hl | hl
          · exact vd.ok l hl
          · obtain rfl := List.mem_singleton.mp hl
            exact ⟨fun z => by rw [z] at hlen; simp at hlen, by omega, hsm⟩
        · exact (pn.same s7).upd nad nac
        · omega
        · exact (but3.trans b37).put na
        · rw [upd_ne nla]
          exact b37 _ _ nld hl3
    · rintro σ H3 ⟨kvs, vals, t3, o3, o4, o5, rfl, vd, pen3, ht3, but3, hl3⟩
      have hzt : zs.take (zs.map sg).length = zs := by rw [List.length_map, List.take_length]
      rw [hzt] at vd
      rw [List.length_map] at ht3
      exact ⟨_, rfl, q H3 a zs vals kvs t3 but3 pen3 (by omega) na nad perm ⟨vd.at_, vd.keys, vd.dat.more fun _ _ z => .inl z, vd.len, vd.ok⟩⟩
end
end Mo

namespace Mo
open PySem PySem.Spec PyProof.Rows L2
theorem fit_kv {B W D : Nat} : ∀ {ks ds : List PyData}, (∀ k ∈ ks, Fit B W D k) → (∀ d ∈ ds, Fit B W D d) → okKv B (ks.zip ds) ∧ PyData.bulkKv (ks.zip ds) ≤ ks.length * (2 * W + 2) ∧ PyData.depthKv (ks.zip ds) ≤ D
  | [], _, _, _ => ⟨by simp [okKv], by simp [PyData.bulkKv], by simp [PyData.depthKv]⟩
  | _ :: _, [], _, _ => ⟨by simp [okKv], by simp [PyData.bulkKv], by simp [PyData.depthKv]⟩
  | k :: ks, d :: ds, hk, hd => by
    obtain ⟨h1, h2, h3⟩ := fit_kv (ks := ks) (ds := ds) (fun x hx => hk x (List.mem_cons_of_mem _ hx)) (fun x hx => hd x (List.mem_cons_of_mem _ hx))
    have a := hk k List.mem_cons_self
    have b := hd d List.mem_cons_self
    have a1 := a.bulk
    have b1 := b.bulk
    have a2 := a.deep
    have b2 := b.deep
    rw [List.zip_cons_cons]
    refine ⟨?_, ?_, ?_⟩
    · simp only [okKv]
      exact ⟨⟨a.ok, b.ok⟩, h1⟩
    · simp only [PyData.bulkKv, List.length_cons]
      rw [Nat.add_mul]
      omega
    · simp only [PyData.depthKv]
      omega
theorem fit_dict {B W D n : Nat} {ks ds : List PyData} (hk : ∀ k ∈ ks, Fit B W D k) (hd : ∀ d ∈ ds, Fit B W D d) (hn : ks.length ≤ n) : Fit B (n * (2 * W + 2)) (D + 1) (.dict (ks.zip ds)) := by
  obtain ⟨h1, h2, h3⟩ := fit_kv hk hd
  refine ⟨by simp only [okD]; exact h1, ?_, ?_⟩
  · simp only [PyData.bulk]
    exact Nat.le_trans h2 (Nat.mul_le_mul_right _ hn)
  · simp only [PyData.depth]
    omega
theorem fit_ints {B W D : Nat} {ns : List Int} (h : ns.length ≤ W) (hB : 7 ≤ B) (hc : ∀ n ∈ ns, n.natAbs ≤ 1000000) : FitAll B W D (ns.map PyData.int) := by
  refine ⟨okAll_iff.mpr fun d hd => ?_, ?_, depthAll_le.mpr fun d hd => ?_⟩
  · obtain ⟨n, hn, rfl⟩ := List.mem_map.mp hd
    simp only [okD]
    exact Nat.lt_of_le_of_lt (hc n hn) (Nat.lt_of_lt_of_le (by decide) (Nat.pow_le_pow_right (show 0 < 10 by decide) hB))
  · have key : ∀ ns : List Int, PyData.bulkAll (ns.map PyData.int) = ns.length := by
      intro ns
      induction ns with
      | nil => rfl
      | cons n ns ih =>
        rw [List.map_cons]
        simp only [PyData.bulkAll, PyData.bulk, List.length_cons]
        omega
    rw [key]
    exact h
  · obtain ⟨n, hn, rfl⟩ := List.mem_map.mp hd
    simp only [PyData.depth]
    exact Nat.zero_le _
theorem fit_str {B W D : Nat} {cs : List Nat} (h : cs.length ≤ W) (hc : ∀ c ∈ cs, c < 128) : Fit B W D (.str (tx cs)) :=
  ⟨by simp only [okD]; exact hc, by simp only [PyData.bulk]; rw [tx_size]; exact h, by simp only [PyData.depth]; exact Nat.zero_le _⟩
section
variable {P : Program} {w : World} {K : PySem.W.Frag} {mg : Str → Option Value} {base : Heap}
abbrev FitV (d : PyData) : Prop := Fit 8 3000 3 d
theorem fit_txD {l : List Int} (h : l.length ≤ 3000) (hc : ∀ n ∈ l, n.natAbs ≤ 1000000) : FitV (txD l) := FitAll.tup (fit_ints (D := 2) h (by decide) hc)
theorem okV.fit {l : List Int} (h : okV l) : FitV (txD l) := fit_txD (Nat.le_trans h.2.1 (by decide)) fun n hn => by
  have := h.2.2 n hn
  omega
theorem fit_kS {c : Nat} (h : c < 128) : FitV (keyD (kS c)) := fit_str (cs := [c]) (by show 1 ≤ 3000; decide) (fun x hx => by rw [List.mem_singleton.mp hx]; exact h)
/-- not values of the pattern -/
def Bad (N : Addr → Prop) (H : Hp) (cs : List Nat) (x : V) (dd : PyData) : Prop := Dx N H x dd ∧ Fit 8 60000 6 dd ∧
  (isDictD dd = false ∨ ∃ a kvs ds, x = .ref a ∧ H a = some (.dK kvs) ∧ DxAll N H (kvs.map (·.2)) ds ∧ (∀ d ∈ ds, FitV d) ∧ areB cs kvs ds = false)
theorem Bad.same {N : Addr → Prop} {H H' : Hp} {cs : List Nat} {x : V} {dd : PyData} (h : Bad N H cs x dd) (s : Same H H') : Bad N H' cs x dd := by
  obtain ⟨h1, h2, h3⟩ := h
  refine ⟨h1.same s, h2, ?_⟩
  rcases h3 with h3 | ⟨a, kvs, ds, e, ha, hx, hf, hb⟩
  · exact .inl h3
  · exact .inr ⟨a, kvs, ds, e, s _ _ ha, hx.same s, hf, hb⟩
theorem bad_dict {N : Addr → Prop} {H : Hp} {cs : List Nat} {a : Addr} {kvs : List (Key × V)} {ds : List PyData} (ha : H a = some (.dK kvs)) (hn : ¬ N a) (hx : DxAll N H (kvs.map (·.2)) ds) (hk : ∀ kv ∈ kvs, FitV (keyD kv.1)) (hd : ∀ d ∈ ds, FitV d) (hl : kvs.length ≤ 9) (hb : areB cs kvs ds = false) :
    Bad N H cs (.ref a) (.dict ((kvs.map fun kv => keyD kv.1).zip ds)) := by
  refine ⟨.dct ha hn hx, (fit_dict (n := 9) (fun k hk' => ?_) hd (by rw [List.length_map]; exact hl)).mono (Nat.le_refl _) (by decide) (by decide), .inr ⟨a, kvs, ds, rfl, ha, hx, hd, hb⟩⟩
  obtain ⟨kv, h1, rfl⟩ := List.mem_map.mp hk'
  exact hk kv h1
theorem are_len {cs : List Nat} {kvs : List (Key × V)} {ds : List PyData} (h : kvs.length ≠ (met cs).length) : areB cs kvs ds = false := by
  unfold areB
  rw [decide_eq_false h]
  rfl
theorem are_one {cs : List Nat} {kvs : List (Key × V)} {ds : List PyData} {c : Nat} (hc : c ∈ met cs) (h : hasVal kvs ds c = false) : areB cs kvs ds = false := by
  unfold areB
  have : (met cs).all (hasVal kvs ds) = false := by
    cases e : (met cs).all (hasVal kvs ds) with
    | false => rfl
    | true => rw [List.all_eq_true.mp e c hc] at h; cases h
  rw [this, Bool.and_false]
theorem has_none {kvs : List (Key × V)} {ds : List PyData} {c : Nat} (h : ∀ kv ∈ kvs, kv.1 ≠ kS c) : hasVal kvs ds c = false := by
  have key : ∀ (kvs : List (Key × V)) (ds : List PyData), (∀ kv ∈ kvs, kv.1 ≠ kS c) → lookK kvs ds (kS c) = none := by
    intro kvs
    induction kvs with
    | nil => intro ds _; cases ds <;> rfl
    | cons kv r ih =>
      intro ds h
      cases ds with
      | nil => rfl
      | cons d ds =>
        obtain ⟨k, v⟩ := kv
        simp only [lookK]
        rw [if_neg (h (k, v) List.mem_cons_self)]
        exact ih ds fun x hx => h x (List.mem_cons_of_mem _ hx)
  unfold hasVal
  rw [key kvs ds h]
/-- one other pair -/
theorem are_odd {cs : List Nat} (pat : Pat cs) {k : Key} {v : V} {d : PyData} (h : ∀ c, 97 ≤ c → k ≠ kS c) : areB cs [(k, v)] [d] = false := by
  cases e : met cs with
  | nil => exact are_len (by rw [e]; show 1 ≠ 0; decide)
  | cons c r =>
    have hc : c ∈ met cs := by rw [e]; exact List.mem_cons_self
    refine are_one hc (has_none fun kv hkv => ?_)
    rw [List.mem_singleton.mp hkv]
    exact h c (pat.low c (mem_met.mp hc)).1
/-- a value put at a key -/
def setK : List (Key × V) → List PyData → Key → PyData → List PyData
  | (k, _) :: r, d :: ds, q, e => if k = q then e :: setK r ds q e else d :: setK r ds q e
  | _, _, _, _ => []
theorem look_set {q : Key} {v : V} {e : PyData} : ∀ {kvs : List (Key × V)} {ds : List PyData}, kvs.length = ds.length → (∃ kv ∈ kvs, kv.1 = q) → lookK (kvs.map fun kv => if kv.1 = q then (kv.1, v) else kv) (setK kvs ds q e) q = some e
  | [], _, _, h => by obtain ⟨_, h, _⟩ := h; cases h
  | _ :: _, [], h, _ => by simp at h
  | (k, u) :: r, d :: ds, hl, h => by
    rw [List.map_cons]
    by_cases ek : k = q
    · simp only [setK, if_pos ek]
      simp only [lookK, if_pos ek]
    · simp only [setK, if_neg ek]
      simp only [lookK, if_neg ek]
      refine look_set (by simpa using hl) ?_
      obtain ⟨kv, hm, hk⟩ := h
      rcases List.mem_cons.mp hm with rfl | hm
      · exact absurd hk ek
      · exact ⟨kv, hm, hk⟩
theorem set_dat {N : Addr → Prop} {H : Hp} {q : Key} {v : V} {e : PyData} (hv : Dx N H v e) : ∀ {kvs : List (Key × V)} {ds : List PyData}, DxAll N H (kvs.map (·.2)) ds → DxAll N H ((kvs.map fun kv => if kv.1 = q then (kv.1, v) else kv).map (·.2)) (setK kvs ds q e)
  | [], [], _ => .nil
  | [], _ :: _, h => by cases h
  | _ :: _, [], h => by cases h
  | (k, u) :: r, d :: ds, h => by
    cases h with
    | cons h t =>
      rw [List.map_cons, List.map_cons]
      by_cases ek : k = q
      · simp only [setK, if_pos ek]
        exact .cons hv (set_dat hv t)
      · simp only [setK, if_neg ek]
        exact .cons h (set_dat hv t)
theorem set_fit {q : Key} {e : PyData} (he : FitV e) : ∀ {kvs : List (Key × V)} {ds : List PyData}, (∀ d ∈ ds, FitV d) → ∀ d ∈ setK kvs ds q e, FitV d
  | [], _, _, d, h => by simp only [setK, List.not_mem_nil] at h
  | _ :: _, [], _, d, h => by simp only [setK, List.not_mem_nil] at h
  | (k, u) :: r, d :: ds, hf, d', h => by
    by_cases ek : k = q
    · simp only [setK, if_pos ek] at h
      rcases List.mem_cons.mp h with rfl | h
      · exact he
      · exact set_fit he (fun x hx => hf x (List.mem_cons_of_mem _ hx)) d' h
    · simp only [setK, if_neg ek] at h
      rcases List.mem_cons.mp h with rfl | h
      · exact hf _ List.mem_cons_self
      · exact set_fit he (fun x hx => hf x (List.mem_cons_of_mem _ hx)) d' h
/-- one pair less -/
def cutK : List (Key × V) → List PyData → Key → List PyData
  | (k, _) :: r, d :: ds, q => if k = q then cutK r ds q else d :: cutK r ds q
  | _, _, _ => []
theorem cut_dat {N : Addr → Prop} {H : Hp} {q : Key} : ∀ {kvs : List (Key × V)} {ds : List PyData}, DxAll N H (kvs.map (·.2)) ds → DxAll N H ((dropK kvs q).map (·.2)) (cutK kvs ds q) ∧ ∀ d ∈ cutK kvs ds q, d ∈ ds
  | [], [], _ => ⟨.nil, by simp [cutK]⟩
  | [], _ :: _, h => by cases h
  | _ :: _, [], h => by cases h
  | (k, u) :: r, d :: ds, h => by
    cases h with
    | cons h t =>
      obtain ⟨i1, i2⟩ := cut_dat (q := q) t
      unfold dropK at i1 ⊢
      by_cases ek : k = q
      · simp only [cutK, if_pos ek]
        rw [List.filter_cons_of_neg (by simpa using ek)]
        exact ⟨i1, fun x hx => List.mem_cons_of_mem _ (i2 x hx)⟩
      · simp only [cutK, if_neg ek]
        rw [List.filter_cons_of_pos (by simpa using ek)]
        refine ⟨.cons h i1, fun x hx => ?_⟩
        rcases List.mem_cons.mp hx with rfl | hx
        · exact List.mem_cons_self
        · exact List.mem_cons_of_mem _ (i2 x hx)
theorem drop_len {kvs : List (Key × V)} {q : Key} (h : ∃ kv ∈ kvs, kv.1 = q) : (dropK kvs q).length < kvs.length := by
  obtain ⟨kv, hm, hk⟩ := h
  unfold dropK
  exact List.length_filter_lt_length_iff_exists.mpr ⟨kv, hm, by simp [hk]⟩
end
end Mo

namespace Mo
open PySem PySem.Spec PyProof.Rows L2
theorem Pen.was {H : Hp} {d c : Addr} {t : Nat} (h : Pen H d c t) : Was H d := by
  obtain ⟨_, _, e, _⟩ := h
  unfold Was
  rw [e]
  exact Option.some_ne_none _
theorem lock_same {H H' : Hp} {a : Addr} {u : HO} {od : Obj} (ha : H a = some u) (s : Same (upd H a (.frz od u)) H') : Same H (upd H' a u) := fun b o e => by
  by_cases h : b = a
  · subst h
    rw [upd_same]
    rw [ha] at e
    exact e
  · rw [upd_ne h]
    exact s _ _ (by rw [upd_ne h]; exact e)
section
variable {P : Program} {w : World} {K : PySem.W.Frag} {mg : Str → Option Value} {base : Heap}
theorem strA : Str.ofString "A" = tx [65] := by decide +kernel
def nineD : List PyData := [.none, .list [], .tuple [], .int 0, .str (Str.ofString ""), .dict [(.str (Str.ofString "A"), .tuple [.int 1])], .dict [(.str (Str.ofString ""), .tuple [.int 1])], .dict [(.int 1, .tuple [.int 1])], .bool true]
theorem nine_bad {H : Hp} {N : Addr → Prop} {cs : List Nat} (pat : Pat cs) {x : V} {dd : PyData} (hd : dd ∈ nineD) (hx : Dx N H x dd) : ∃ dd, Bad N H cs x dd := by
  have one : FitV (.tuple [.int 1]) := ⟨by (simp only [okD, okAll, okKv] <;> decide +kernel), by decide +kernel, by decide +kernel⟩
  simp only [nineD, List.mem_cons, List.not_mem_nil, or_false] at hd
  rcases hd with rfl | rfl | rfl | rfl | rfl | rfl | rfl | rfl | rfl
  · exact ⟨_, hx, ⟨by (simp only [okD, okAll, okKv] <;> decide +kernel), by decide +kernel, by decide +kernel⟩, .inl rfl⟩
  · exact ⟨_, hx, ⟨by (simp only [okD, okAll, okKv] <;> decide +kernel), by decide +kernel, by decide +kernel⟩, .inl rfl⟩
  · exact ⟨_, hx, ⟨by (simp only [okD, okAll, okKv] <;> decide +kernel), by decide +kernel, by decide +kernel⟩, .inl rfl⟩
  · exact ⟨_, hx, ⟨by (simp only [okD, okAll, okKv] <;> decide +kernel), by decide +kernel, by decide +kernel⟩, .inl rfl⟩
  · exact ⟨_, hx, ⟨by (simp only [okD, okAll, okKv] <;> decide +kernel), by decide +kernel, by decide +kernel⟩, .inl rfl⟩
  · obtain ⟨a, u, rfl, ha, hn, hu⟩ := dct1_dx (k := .inr (Str.ofString "A")) hx
    refine ⟨_, bad_dict ha hn (.cons hu .nil) (fun kv hkv => ?_) (fun e he => ?_) (by show 1 ≤ 9; decide) (are_odd pat fun c hc e => ?_)⟩
    · rw [List.mem_singleton.mp hkv]
      show FitV (.str (Str.ofString "A"))
      exact ⟨by (simp only [keyD, okD, okAll, okKv] <;> decide +kernel), by decide +kernel, by decide +kernel⟩
    · rw [List.mem_singleton.mp he]
      exact one
    · have h1 := Sum.inr.inj e
      rw [strA] at h1
      have h2 := tx_inj (b := [c]) h1
      have h3 := (List.cons.inj h2).1
      omega
  · obtain ⟨a, u, rfl, ha, hn, hu⟩ := dct1_dx (k := .inr (Str.ofString "")) hx
    refine ⟨_, bad_dict ha hn (.cons hu .nil) (fun kv hkv => ?_) (fun e he => ?_) (by show 1 ≤ 9; decide) (are_odd pat fun c hc e => ?_)⟩
    · rw [List.mem_singleton.mp hkv]
      show FitV (.str (Str.ofString ""))
      exact ⟨by (simp only [keyD, okD, okAll, okKv] <;> decide +kernel), by decide +kernel, by decide +kernel⟩
    · rw [List.mem_singleton.mp he]
      exact one
    · have h1 := Sum.inr.inj e
      rw [tx_nil] at h1
      have h2 := tx_inj (b := [c]) h1
      cases h2
  · obtain ⟨a, u, rfl, ha, hn, hu⟩ := dct1_dx (k := .inl 1) hx
    refine ⟨_, bad_dict ha hn (.cons hu .nil) (fun kv hkv => ?_) (fun e he => ?_) (by show 1 ≤ 9; decide) (are_odd pat fun c hc e => ?_)⟩
    · rw [List.mem_singleton.mp hkv]
      show FitV (.int 1)
      exact ⟨by (simp only [keyD, okD, okAll, okKv] <;> decide +kernel), by decide +kernel, by decide +kernel⟩
    · rw [List.mem_singleton.mp he]
      exact one
    · cases e
  · exact ⟨_, hx, ⟨by (simp only [okD, okAll, okKv] <;> decide +kernel), by decide +kernel, by decide +kernel⟩, .inl rfl⟩
def tenD : List PyData := [.tuple [], .list [.int 1], .tuple [.int (10 ^ (6 : Int).toNat)], .tuple [.int (-1)], .tuple [.bool true], .tuple [.str (Str.ofString "a")], .tuple [.int 1, .none], .int 1, .none, .tuple [.tuple [.int 1]]]
theorem ten_fit {dd : PyData} (h : dd ∈ tenD) : FitV dd ∧ okVal dd = false := by
  simp only [tenD, List.mem_cons, List.not_mem_nil, or_false] at h
  rcases h with rfl | rfl | rfl | rfl | rfl | rfl | rfl | rfl | rfl | rfl <;> exact ⟨⟨by (simp only [okD, okAll, okKv] <;> decide +kernel), by decide +kernel, by decide +kernel⟩, by decide +kernel⟩
def spSpoilt : Sp := fun vs H Q _ => ∃ (d c a : Addr) (cs zs : List Nat) (vals : List (List Int)) (kvs : List (Key × V)) (t : Nat), vs = [.ref d, .ref a] ∧ Pat cs ∧ zs.Perm (met cs) ∧ Pen H d c t ∧ t < 1000000 ∧ a ≠ d ∧ VD (fun x => x = d) H a zs vals kvs ∧
  ∀ H' x dd t', But d H H' → Pen H' d c t' → t' ≤ t + 5 → Bad (fun x => x = d) H' cs x dd → Q x H'
theorem ok_spoilt {k : Nat} (T : Txt K mg) : FnOk P w K mg base CX0 (k + 3) T.aLSpoilt T.dLSpoilt ["_law_pen_here", "_law_values_here"] spSpoilt := by
  have GLDraw : FnOk P w K mg base CX0 (k + 2) T.aLDraw T.dLDraw ["_law_pen_here", "_law_size"] spDraw := ok_draw T
  have GLPick : FnOk P w K mg base CX0 (k + 2) T.aLPick T.dLPick ["_law_pen_here", "_law_options"] (spPick K) := ok_pick T
  refine T.fLSpoilt.ok scLSpoilt (fun vs H Q E h => ?_) (fun cdv A outer s H vs Q E hr h => ?_)
  · obtain ⟨_, _, _, _, _, _, _, _, rfl, _⟩ := h
    rfl
  · obtain ⟨d, c, a, cs, zs, vals, kvs, t, rfl, pat, perm, pen, ht, nad, vd, q⟩ := h
    have hu := hu_of hr
    refine ⟨_, (pss_cons (ps_par (i := 2) (j := 3) (by rfl) scLSpoilt.nd rfl rfl (by decide) rfl rfl (pa_cons (pe_callTy call_dictD (by rfl) T.m_dict (by decide +kernel) (pa_cons (pv 1) pa_nil)) (pa_cons (pe_call GLDraw hr (by rfl) T.gLDraw T.fLDraw.kp T.bLDraw .nil pass0 (pa_cons (pv 0) (pa_cons pe_int pa_nil))) pa_nil)) (by rfl))
      (pss_cons (ps_if (PW.pt (pw_or (pt_cmpR op_eq (pv 3) pe_int (nomark _)) (pw_or1 (pt_cmpR (Mo.op_eqNilD hr.units) (pv 1) pe_dnewK (nomark _))))) (pss_one (ps_ret (pe_call GLPick hr (by rfl) T.gLPick T.fLPick.kp T.bLPick .nil pass0 (pa_cons (pv 0) (pa_cons (pe_lst (pa_cons pe_non (pa_cons (pe_lst pa_nil) (pa_cons (pe_tup pa_nil) (pa_cons pe_int (pa_cons pe_str (pa_cons (pe_disp (pps_cons pe_str (pe_tup (pa_cons pe_int pa_nil)) pps_nil) (by rfl) (by rfl) (fun z => by cases z) (by decide)) (pa_cons (pe_disp (pps_cons pe_str (pe_tup (pa_cons pe_int pa_nil)) pps_nil) (by rfl) (by rfl) (fun z => by cases z) (by decide)) (pa_cons (pe_disp (pps_cons pe_int (pe_tup (pa_cons pe_int pa_nil)) pps_nil) (by rfl) (by rfl) (fun z => by cases z) (by decide)) (pa_cons pe_bl pa_nil)))))))))) pa_nil))))) pss_nil)
      (pss_cons (ps_set (i := 4) scLSpoilt.nd rfl (Or.inl rfl) (pe_call GLPick hr (by rfl) T.gLPick T.fLPick.kp T.bLPick .nil pass0 (pa_cons (pv 0) (pa_cons (pe_lock (pe_lc (own := [("_law_key", 5)]) (g := gName 5) (tt := tYes) rfl scLSpoilt.nd (pi_keys (pv 1)) (blkOk_by (N := ["_law_pen_here", "_law_values_here", "_law_found", "_law_way", "_law_sign", "_law_key"]) (sc := defScope sLSpoilt) (by decide +kernel)) (fun _ _ _ _ _ => pg_name (i := 5) scLSpoilt.nd rfl (Or.inl rfl)) (fun _ _ _ _ _ => pts_nil) (fun _ _ _ _ _ => (pv 5)))) pa_nil))))
      (pss_cons (ps_if (pt_cmpR op_eq (pv 3) pe_int (nomark _)) (pss_one (ps_expr (pe_dpop1 (pv 2) (pv 4) ⟨rfl, rfl, rfl, rfl⟩))) (pss_one (ps_if (pt_cmpR op_eq (pv 3) pe_int (nomark _)) (pss_one (ps_dput hu (pv 2) (pe_op op_add_str (pv 4) (pv 4)) (pe_tup (pa_cons pe_int pa_nil)) rfl)) (pss_one (ps_dput hu (pv 2) (pv 4) (pe_call GLPick hr (by rfl) T.gLPick T.fLPick.kp T.bLPick .nil pass0 (pa_cons (pv 0) (pa_cons (pe_lst (pa_cons (pe_tup pa_nil) (pa_cons (pe_lst (pa_cons pe_int pa_nil)) (pa_cons (pe_tup (pa_cons (pe_op op_pow pe_int pe_int) pa_nil)) (pa_cons (pe_tup (pa_cons (pe_un un_neg pe_int) pa_nil)) (pa_cons (pe_tup (pa_cons pe_bl pa_nil)) (pa_cons (pe_tup (pa_cons pe_str pa_nil)) (pa_cons (pe_tup (pa_cons pe_int (pa_cons pe_non pa_nil))) (pa_cons pe_int (pa_cons pe_non (pa_cons (pe_tup (pa_cons (pe_tup (pa_cons pe_int pa_nil)) pa_nil)) pa_nil))))))))))) pa_nil))) rfl)))))
      (pss_one (ps_ret (pv 2))))))), ?_⟩
    have hfew := pat.few
    have hzl : zs.length = (met cs).length := perm.length_eq
    have hkl : kvs.length = (met cs).length := by
      have h1 := congrArg List.length vd.keys
      rw [List.length_map, List.length_map] at h1
      omega
    have vfit : ∀ x ∈ vals.map txD, FitV x := fun x hx => by
      obtain ⟨l, hl, rfl⟩ := List.mem_map.mp hx
      exact (vd.ok l hl).fit
    have klow : ∀ kv ∈ kvs, ∃ z ∈ zs, kv.1 = kS z := fun kv hkv => by
      have h1 : kv.1 ∈ kvs.map (·.1) := List.mem_map.mpr ⟨kv, hkv, rfl⟩
      rw [vd.keys] at h1
      obtain ⟨z, hz, e⟩ := List.mem_map.mp h1
      exact ⟨z, hz, e.symm⟩
    have zmet : ∀ z ∈ zs, z ∈ met cs := fun z hz => perm.mem_iff.mp hz
    have zlow : ∀ z ∈ zs, z < 128 := fun z hz => by
      have := pat.low z (mem_met.mp (zmet z hz))
      omega
    have kfit : ∀ kv ∈ kvs, FitV (keyD kv.1) := fun kv hkv => by
      obtain ⟨z, hz, e⟩ := klow kv hkv
      rw [e]
      exact fit_kS (zlow z hz)
    have ha := vd.at_
    refine ⟨_, rfl, a, kvs, rfl, .inl ha, fun f nf => ?_⟩
    have sf := same_new (o := .dK kvs) nf
    have nfd := (pen.new nf).1
    have nfc := (pen.new nf).2
    have dat := (vd.dat.more (N' := fun x => x = d ∨ x = f) fun b hb z => z.elim id fun z => absurd nf (z ▸ hb)).same sf
    refine ⟨_, rfl, d, c, 6, t, rfl, pen.same sf, by decide, by decide, by omega, fun H1 m t1 but1 pen1 ht1 m0 m1 => ⟨_, _, rfl, ?_⟩⟩
    have ha1 := but1 _ _ nad (sf _ _ ha)
    have hf1 := but1 _ _ nfd (upd_same (H := H) (a := f) (o := .dK kvs))
    have dat1 := dat.but (but_N (.inl rfl) but1)
    have b1 : But d H H1 := (But.same sf).trans but1
    clear sf dat but1
    refine ⟨_, rfl, rfl, _, rfl, ite2 (fun e1 => ?way0) (fun e1 => ⟨_, rfl, fun b nb => ⟨a, b, kvs, rfl, rfl, same_new nb _ _ ha1, upd_same, _, rfl, ite2 (fun e2 => ?way1) (fun e2 => ?rest)⟩⟩)⟩
    case way0 =>
      refine ⟨_, rfl, (lit_lst (lit_cons lit_non (lit_cons (lit_lst lit_nil) (lit_cons (lit_tup lit_nil) (lit_cons lit_int (lit_cons lit_str (lit_cons (lit_dispS (lit_tup (lit_cons lit_int lit_nil))) (lit_cons (lit_dispS (lit_tup (lit_cons lit_int lit_nil))) (lit_cons (lit_dispI (lit_tup (lit_cons lit_int lit_nil))) (lit_cons lit_bl lit_nil)))))))))).use fun H2 v s2 hv => ?_⟩
      obtain ⟨l, xs, rfl, hl, hn, hx⟩ := lst_dx hv
      have hxl := hx.length
      have hxl2 : xs.length = 9 := hxl
      refine ⟨d, c, l, xs, t1, rfl, pen1.same s2, SqL.of hl, fun z => hn (z ▸ pen1.was), by omega, by omega, by omega, fun H3 y t3 but3 pen3 ht3 hy => ?_⟩
      obtain ⟨dd, hdd, hyd⟩ := hx.mem hy
      obtain ⟨dd2, hb⟩ := nine_bad pat (show dd ∈ nineD from hdd) ((hyd.more (N' := fun x => x = d) fun b _ z => z ▸ pen1.was).but (but_N (N := fun x => x = d) rfl but3))
      exact q H3 y dd2 t3 ((b1.trans (But.same s2)).trans but3) pen3 (by omega) hb
    case way1 =>
      have sb := same_new (o := .dK []) nb
      have penb := pen1.same sb
      have bb := b1.trans (But.same sb)
      generalize upd H1 b (.dK []) = Hb at *
      refine ⟨_, rfl, (lit_lst (lit_cons lit_non (lit_cons (lit_lst lit_nil) (lit_cons (lit_tup lit_nil) (lit_cons lit_int (lit_cons lit_str (lit_cons (lit_dispS (lit_tup (lit_cons lit_int lit_nil))) (lit_cons (lit_dispS (lit_tup (lit_cons lit_int lit_nil))) (lit_cons (lit_dispI (lit_tup (lit_cons lit_int lit_nil))) (lit_cons lit_bl lit_nil)))))))))).use fun H2 v s2 hv => ?_⟩
      obtain ⟨l, xs, rfl, hl, hn, hx⟩ := lst_dx hv
      have hxl := hx.length
      have hxl2 : xs.length = 9 := hxl
      refine ⟨d, c, l, xs, t1, rfl, penb.same s2, SqL.of hl, fun z => hn (z ▸ penb.was), by omega, by omega, by omega, fun H3 y t3 but3 pen3 ht3 hy => ?_⟩
      obtain ⟨dd, hdd, hyd⟩ := hx.mem hy
      obtain ⟨dd2, hb⟩ := nine_bad pat (show dd ∈ nineD from hdd) ((hyd.more (N' := fun x => x = d) fun b _ z => z ▸ penb.was).but (but_N (N := fun x => x = d) rfl but3))
      exact q H3 y dd2 t3 ((bb.trans (But.same s2)).trans but3) pen3 (by omega) hb
    case rest =>
      have sb := same_new (o := .dK []) nb
      have penb := pen1.same sb
      have bb := b1.trans (But.same sb)
      have hab := sb _ _ ha1
      have hfb := sb _ _ hf1
      have datb := dat1.same sb
      have hne : 0 < kvs.length := by
        cases kvs with
        | nil => exact absurd rfl e2
        | cons _ _ => exact Nat.succ_pos _
      generalize upd H1 b (.dK []) = Hb at *
      refine ⟨_, rfl, a, .dK kvs, hab, trivial, fun od => ⟨_, rfl, a, od, rfl, .inl ⟨kvs, upd_same, fun D nD => lc_it walk_keys (fun i H' => H' a = some (.frz od (.dK kvs)) ∧ Same (upd Hb a (.frz od (.dK kvs))) H' ∧ H' D = some (.lst ((kvs.take i).map fun kv => kV kv.1))) ?_ ?_ ?_ ?_⟩⟩⟩
      · have nDa : a ≠ D := fun z => by rw [← z, upd_same] at nD; cases nD
        exact ⟨by rw [upd_ne nDa, upd_same], same_new nD, upd_same⟩
      · exact fun _ _ _ h => h.1
      · rintro i x H2 H3 hi ⟨h1, s2, hD⟩ ⟨rfl, kk, vv, hkv, rfl⟩
        have nDa : a ≠ D := fun z => by rw [← z, upd_same] at nD; cases nD
        refine ⟨rfl, _, rfl, _, hD, fitsLt (by rw [List.length_map, List.length_take]; omega), by rw [upd_ne nDa]; exact h1, Same.put s2 nD, ?_⟩
        rw [upd_same, List.take_add_one, hkv, List.map_append]
        rfl
      · rintro H2 ⟨h1, s2, hD⟩
        rw [List.take_length] at hD
        have nDa : D ≠ a := fun z => by rw [z, upd_same] at nD; cases nD
        refine ⟨h1, ?_⟩
        have s3 := lock_same hab s2
        have hD3 : upd H2 a (.dK kvs) D = some (.lst (kvs.map fun kv => kV kv.1)) := by rw [upd_ne nDa]; exact hD
        have pen3 := penb.same s3
        have nDd : D ≠ d := fun z => by
          obtain ⟨_, _, e, _⟩ := pen3
          rw [z, e] at hD3
          cases hD3
        refine ⟨d, c, D, _, t1, rfl, pen3, SqL.of hD3, nDd, by rw [List.length_map]; exact hne, by rw [List.length_map]; omega, by omega, fun H4 v t4 but4 pen4 ht4 hv => ?_⟩
        obtain ⟨kv, hkv, rfl⟩ := List.mem_map.mp hv
        obtain ⟨z, hz, ekv⟩ := klow kv hkv
        rw [ekv]
        have hf4 := but4 _ _ nfd (s3 _ _ hfb)
        have dat4 := (datb.same s3).but (but_N (.inl rfl) but4)
        have b4 : But d H H4 := (bb.trans (But.same s3)).trans but4
        have hex : ∃ kv ∈ kvs, kv.1 = kS z := ⟨kv, hkv, ekv⟩
        clear hv datb dat1 s3 pen3 s2 hD hD3 h1
        refine ⟨_, rfl, rfl, _, rfl, ite2 (fun e3 => ?_) (fun e3 => ⟨_, rfl, rfl, _, rfl, ite2 (fun e4 => ?_) (fun e4 => ?_)⟩)⟩
        · -- a key less
          obtain ⟨u, hu2⟩ : ∃ u, valV kvs (kS z) = some u := by
            rcases look_val (q := kS z) dat4 with ⟨h1, _⟩ | ⟨v, _, h1, _⟩
            · exfalso
              have h2 := valV_any (kS z) kvs
              rw [h1] at h2
              have h3 : (kvs.any fun kv => decide (kv.1 = kS z)) = true := List.any_eq_true.mpr ⟨kv, hkv, decide_eq_true ekv⟩
              rw [h3] at h2
              cases h2
            · exact ⟨v, h1⟩
          refine ⟨_, rfl, f, rfl, .inl ⟨_, .inl hf4⟩, _, rfl, kvs, kS z, u, hf4, rfl, hu2, _, rfl, ?_⟩
          have hcut := cut_dat (q := kS z) (dat4.but (upd_N (o := .dK (dropK kvs (kS z))) (.inr rfl)))
          refine q _ _ _ t4 (b4.put nf) (pen4.upd nfd nfc) (by omega) (bad_dict upd_same nfd (hcut.1.more fun _ _ z => .inl z) (fun x hx => kfit x ((List.mem_filter.mp hx).1)) (fun x hx => vfit x (hcut.2 x hx)) ?_ (are_len ?_))
          · have := drop_len hex
            omega
          · have := drop_len hex
            omega
        · -- another key
          refine ⟨by show 1 ≤ sizeLine; decide, fun p np => ⟨_, rfl, _, rfl, _, rfl, ⟨#[z]⟩, ⟨#[z]⟩, rfl, rfl, by show 2 ≤ sizeLine; decide, f, _, rfl, DPut.k (k := .inr (⟨#[z]⟩ ++ ⟨#[z]⟩)) (same_new np _ _ hf4) (fitsLt (by omega)), _, rfl, ?_⟩⟩
          have sp := same_new (o := .tup [.int 1]) np
          have npf : p ≠ f := (ne_of_none hf4 np).symm
          have npd := (pen4.new np).1
          have ezz : (⟨#[z]⟩ : Str) ++ (⟨#[z]⟩ : Str) = tx [z, z] := tx_app [z] [z]
          rw [ezz]
          have hnew : ∀ kv ∈ kvs, kv.1 ≠ (.inr (tx [z, z]) : Key) := fun kv hkv e => by
            obtain ⟨y, _, ey⟩ := klow kv hkv
            have h1 := Sum.inr.inj (ey.symm.trans e)
            have h2 := tx_inj (a := [y]) h1
            simp at h2
          rw [putK_new hnew]
          have dat5 := (dat4.same sp).but (upd_N (o := .dK (kvs ++ [(.inr (tx [z, z]), .ref p)])) (.inr rfl))
          have hp5 : upd (upd H4 p (.tup [.int 1])) f (.dK (kvs ++ [(.inr (tx [z, z]), .ref p)])) p = some (.tup [.int 1]) := by
            rw [upd_ne npf, upd_same]
          refine q _ _ _ t4 ((b4.trans (But.same sp)).put nf) ((pen4.same sp).upd nfd nfc) (by omega) (bad_dict upd_same nfd (ds := vals.map txD ++ [.tuple [.int 1]]) ?_ (fun x hx => ?_) (fun x hx => ?_) ?_ (are_len ?_))
          · rw [List.map_append]
            exact (dat5.more fun _ _ z => .inl z).append (.cons (.tup hp5 npd (.cons (.int 1) .nil)) .nil)
          · rcases List.mem_append.mp hx with hx | hx
            · exact kfit x hx
            · rw [List.mem_singleton.mp hx]
              have := zlow z hz
              exact fit_str (cs := [z, z]) (by show 2 ≤ 3000; decide) (fun y hy => by simp at hy; omega)
          · rcases List.mem_append.mp hx with hx | hx
            · exact vfit x hx
            · rw [List.mem_singleton.mp hx]
              exact ⟨by (simp only [okD, okAll, okKv] <;> decide +kernel), by decide +kernel, by decide +kernel⟩
          · rw [List.length_append]
            show _ + 1 ≤ 9
            omega
          · rw [List.length_append]
            show _ + 1 ≠ _
            omega
        · -- another value
          refine ⟨_, rfl, (lit_lst (lit_cons (lit_tup lit_nil) (lit_cons (lit_lst (lit_cons lit_int lit_nil)) (lit_cons (lit_tup (lit_cons (lit_pow ⟨by decide, by decide, by decide⟩) lit_nil)) (lit_cons (lit_tup (lit_cons lit_neg lit_nil)) (lit_cons (lit_tup (lit_cons lit_bl lit_nil)) (lit_cons (lit_tup (lit_cons lit_str lit_nil)) (lit_cons (lit_tup (lit_cons lit_int (lit_cons lit_non lit_nil))) (lit_cons lit_int (lit_cons lit_non (lit_cons (lit_tup (lit_cons (lit_tup (lit_cons lit_int lit_nil)) lit_nil)) lit_nil))))))))))).use fun H5 v s5 hv => ?_⟩
          obtain ⟨l, xs, rfl, hl, hn, hx⟩ := lst_dx hv
          have hxl := hx.length
          have hxl2 : xs.length = 10 := hxl
          refine ⟨d, c, l, xs, t4, rfl, pen4.same s5, SqL.of hl, fun z => hn (z ▸ pen4.was), by omega, by omega, by omega, fun H6 y t6 but6 pen6 ht6 hy => ?_⟩
          obtain ⟨dd, hdd, hyd⟩ := hx.mem hy
          obtain ⟨ffit, fbad⟩ := ten_fit (show dd ∈ tenD from hdd)
          have wasf : Was H4 f := by unfold Was; rw [hf4]; exact Option.some_ne_none _
          have hy6 := (hyd.more (N' := fun x => x = d ∨ x = f) fun b _ z => z.elim (fun z => z ▸ pen4.was) (fun z => z ▸ wasf)).but (but_N (N := fun x => x = d ∨ x = f) (.inl rfl) but6)
          have hf6 := but6 _ _ nfd (s5 _ _ hf4)
          refine ⟨_, rfl, _, rfl, f, _, rfl, DPut.k (k := kS z) hf6 (fitsLt (by omega)), _, rfl, ?_⟩
          have hput : putK kvs (kS z) y = kvs.map fun kv => if kv.1 = kS z then (kv.1, y) else kv := by
            unfold putK
            rw [if_pos (List.any_eq_true.mpr ⟨kv, hkv, decide_eq_true ekv⟩)]
          rw [hput]
          have dat6 := (dat4.same s5).but (but_N (.inl rfl) but6)
          have dat7 := (set_dat (q := kS z) hy6 dat6).but (upd_N (o := .dK (kvs.map fun kv => if kv.1 = kS z then (kv.1, y) else kv)) (.inr rfl))
          refine q _ _ _ t6 (((b4.trans (But.same s5)).trans but6).put nf) (pen6.upd nfd nfc) (by omega) (bad_dict upd_same nfd (dat7.more fun _ _ z => .inl z) (fun x hx => ?_) (set_fit ffit vfit) (by rw [List.length_map]; omega) (are_one (zmet z hz) ?_))
          · obtain ⟨kv2, h1, rfl⟩ := List.mem_map.mp hx
            by_cases e : kv2.1 = kS z
            · rw [if_pos e]
              exact kfit kv2 h1
            · rw [if_neg e]
              exact kfit kv2 h1
          · unfold hasVal
            rw [look_set (by rw [← List.length_map (f := (·.2)) (as := kvs)]; exact dat6.length) hex]
            exact fbad
end
end Mo

namespace Mo
open PySem PySem.Spec PyProof.Rows L2
section
variable {P : Program} {w : World} {K : PySem.W.Frag} {mg : Str → Option Value} {base : Heap}
def saidBad (dd : PyData) : List V := [.str (Str.ofString "values"), .str dd.shown, .bl true]
def saidLarge : List V := [.str (Str.ofString "large"), .int 4096, .bl true]
def spTold : Sp := fun vs H Q _ => ∃ (cs : List Nat) (x : V) (N : Addr → Prop) (dd : PyData), vs = [.str (tx cs), x] ∧ Pat cs ∧ Dx N H x dd ∧ Fit 8 60000 6 dd ∧
  ((∃ (a : Addr) (kvs : List (Key × V)) (ds : List PyData), x = .ref a ∧ H a = some (.dK kvs) ∧ DxAll N H (kvs.map (·.2)) ds ∧ (∀ d ∈ ds, FitV d) ∧
      (areB cs kvs ds = true → (outL cs kvs ds).length ≤ 4096 → ∀ H' p, Same H H' → H' p = some (.tup ((outL cs kvs ds).map V.int)) → Q (.ref p) H') ∧
      (areB cs kvs ds = true → 4096 < (outL cs kvs ds).length → ∀ H' p, Same H H' → H' p = some (.lst saidLarge) → Q (.ref p) H') ∧
      (areB cs kvs ds = false → ∀ H' p, Same H H' → H' p = some (.lst (saidBad dd)) → Q (.ref p) H')) ∨
    (isDictD dd = false ∧ ∀ H' p, Same H H' → H' p = some (.lst (saidBad dd)) → Q (.ref p) H'))
theorem ok_told {k : Nat} (T : Txt K mg) (hbm : ∃ mm, base.Ns sysModules mm) : FnG P w K mg base CX0 (k + 6) T.aLTold T.dLTold ["_law_pattern_here", "_law_values_here"] spTold := by
  have GSubstitute : FnOk P w K mg base (L2.CX P w) (k + 5) T.aSubstitute T.dSubstitute ["pattern", "values"] (spSub T.cInvalidValues T.cTooLarge) := ok_sub T
  refine okG T.fLTold scLTold (fun vs H Q E h => ?_) (fun cdv A outer s H vs Q E hr hgd h => ?_)
  · obtain ⟨_, _, _, _, rfl, _⟩ := h
    rfl
  · obtain ⟨cs, x, N, dd, rfl, pat, hx, hfit, h⟩ := h
    obtain ⟨f1, f2, f3⟩ := hfit.repr (by decide) (by decide) (by decide) (by decide)
    refine ⟨_, (pss_one (Mo.ps_try_each rfl rfl scLTold.nd takes0 (fun W pn xe tk _ => (pss_one (ps_ret (pe_callS GSubstitute hr rfl T.gSubstitute T.fSubstitute.kp T.bSubstitute (fun σ => passAt tk σ) (pa_cons (pv 0) (pa_cons (pv 1) pa_nil)))))) (.cons ⟨rfl, by decide, Or.inl T.eInvalidValues⟩ (i := 2) rfl rfl (fun a oe cls d pn hz hf => (pss_one (ps_ret (pe_lst (pa_cons pe_str (pa_cons (pe_callB (Mo.cr_reprX hbm hgd hr.units) (by rfl) T.m_repr (by decide +kernel) (pa_cons (Mo.pe_xs hz hf (pv 2)) pa_nil)) (pa_cons (pe_and (pe_callB (Mo.cr_isS hz hf) (by rfl) T.m_isinstance (by decide +kernel) (pa_cons (pv 2) (pa_cons (pe_bltn (v := .ty "ValueError") (by rfl) T.m_ValueError (by decide +kernel) rfl) pa_nil))) (pe_one (pe_not (pe_callB (Mo.cr_isS hz hf) (by rfl) T.m_isinstance (by decide +kernel) (pa_cons (pv 2) (pa_cons (pe_glob (v := .ref T.cInvalidText) rfl T.eInvalidText rfl) pa_nil)))))) pa_nil))))))) (.cons ⟨rfl, by decide, Or.inl T.eTooLarge⟩ (i := 2) rfl rfl (fun a oe cls d pn hz hf => (pss_one (ps_ret (pe_lst (pa_cons pe_str (pa_cons (Mo.pe_xs hz hf (pv 2)) (pa_cons (pe_callB (Mo.cr_isS hz hf) (by rfl) T.m_isinstance (by decide +kernel) (pa_cons (pv 2) (pa_cons (pe_bltn (v := .ty "OverflowError") (by rfl) T.m_OverflowError (by decide +kernel) rfl) pa_nil))) pa_nil))))))) .nil)))), ?_⟩
    refine ⟨_, rfl, _, rfl, cs, x, N, rfl, pat, ?_⟩
    rcases h with ⟨a, kvs, ds, rfl, ha, hd, hf, q1, q2, q3⟩ | ⟨hk, q⟩
    · refine .inl ⟨a, kvs, ds, rfl, ha, hd, fun e he => Nat.le_trans (hf e he).bulk (by decide), fun e1 e2 H' p s hp _ => q1 e1 e2 H' p s hp, fun e1 e2 dx H1 nd s1 hdx => ?_, fun e1 dx H1 nd s1 hdx => ?_⟩
      · refine ⟨false, T.mTooLargeInvalidValues, fun z => Bool.noConfusion z, fun _ => ⟨true, T.xTooLarge.te, fun _ r na => ?_, fun z => nomatch z⟩⟩
        refine ⟨_, rfl, T.cTooLarge, dx, _, .int 4096, rfl, rfl, rfl, hdx, T.xTooLarge.xf, T.xTooLarge.no, by simp [List.lookup], ?_⟩
        refine ⟨_, rfl, T.cTooLarge, dx, _, .ty "OverflowError", .type "OverflowError", true, rfl, rfl, rfl, hdx, T.xTooLarge.exc, .ty _, T.oTooLargeOverflowError, ?_⟩
        exact ⟨by show 3 ≤ sizeLine; decide, fun p np => q2 e1 e2 _ p (s1.trans (same_new np)) upd_same⟩
      · refine ⟨true, T.xInvalidValues.te, fun _ r na => ?_, fun z => nomatch z⟩
        refine ⟨_, rfl, T.cInvalidValues, dx, _, .ref a, rfl, rfl, rfl, hdx, T.xInvalidValues.xf, T.xInvalidValues.no, by simp [List.lookup], N, .ref a, dd, rfl, hx.same s1, f1, f2, f3, ?_⟩
        refine ⟨_, rfl, T.cInvalidValues, dx, _, .ty "ValueError", .type "ValueError", true, rfl, rfl, rfl, hdx, T.xInvalidValues.exc, .ty _, T.oInvalidValuesValueError, true, rfl, ?_⟩
        refine ⟨_, rfl, T.cInvalidValues, dx, _, .ref T.cInvalidText, .ref T.cInvalidText, false, rfl, rfl, rfl, hdx, T.xInvalidValues.exc, .own _, T.oInvalidValuesInvalidText, false, rfl, ?_⟩
        exact ⟨by show 3 ≤ sizeLine; decide, fun p np => q3 e1 _ p (s1.trans (same_new np)) upd_same⟩
    · refine .inr ⟨dd, hx, hk, fun dx H1 nd s1 hdx => ?_⟩
      refine ⟨true, T.xInvalidValues.te, fun _ r na => ?_, fun z => nomatch z⟩
      refine ⟨_, rfl, T.cInvalidValues, dx, _, x, rfl, rfl, rfl, hdx, T.xInvalidValues.xf, T.xInvalidValues.no, by simp [List.lookup], N, x, dd, rfl, hx.same s1, f1, f2, f3, ?_⟩
      refine ⟨_, rfl, T.cInvalidValues, dx, _, .ty "ValueError", .type "ValueError", true, rfl, rfl, rfl, hdx, T.xInvalidValues.exc, .ty _, T.oInvalidValuesValueError, true, rfl, ?_⟩
      refine ⟨_, rfl, T.cInvalidValues, dx, _, .ref T.cInvalidText, .ref T.cInvalidText, false, rfl, rfl, rfl, hdx, T.xInvalidValues.exc, .own _, T.oInvalidValuesInvalidText, false, rfl, ?_⟩
      exact ⟨by show 3 ≤ sizeLine; decide, fun p np => q _ p (s1.trans (same_new np)) upd_same⟩
end
end Mo

namespace Mo
open PySem PySem.Spec PyProof.Rows L2
/-! ### values are values -/
theorem okVal_tx {l : List Int} (h0 : l ≠ []) (h1 : l.length ≤ 4096) (h2 : ∀ n ∈ l, 0 ≤ n ∧ n ≤ 999999) : okVal (txD l) = true := by
  have e1 : textD (txD l) = true := by
    show (decide ((l.map PyData.int).length ≤ 4096) && (l.map PyData.int).all letterD) = true
    rw [List.length_map, decide_eq_true h1, Bool.true_and, List.all_map, List.all_eq_true]
    intro n hn
    show (decide (0 ≤ n) && decide (n ≤ 999999)) = true
    rw [decide_eq_true (h2 n hn).1, decide_eq_true (h2 n hn).2]
    rfl
  have e2 : emptyT (txD l) = false := by
    cases l with
    | nil => exact absurd rfl h0
    | cons _ _ => rfl
  unfold okVal
  rw [e1, e2]
  rfl
theorem letters_tx (l : List Int) : lettersD (txD l) = l := by
  show (l.map PyData.int).map intD = l
  rw [List.map_map]
  exact List.map_id' l
section
variable {N : Addr → Prop} {H : Hp} {cs zs : List Nat} {vals : List (List Int)} {kvs : List (Key × V)} {a : Addr}
theorem VD.look (vd : VD N H a zs vals kvs) {c : Nat} (hc : c ∈ zs) : ∃ l ∈ vals, lookK kvs (vals.map txD) (kS c) = some (txD l) := by
  rcases look_val (q := kS c) vd.dat with ⟨h1, _⟩ | ⟨v, d, _, h2, _, h3⟩
  · exfalso
    have h2 := valV_any (kS c) kvs
    rw [h1] at h2
    have h3 : kS c ∈ kvs.map (·.1) := by
      rw [vd.keys]
      exact List.mem_map.mpr ⟨c, hc, rfl⟩
    obtain ⟨kv, hkv, e⟩ := List.mem_map.mp h3
    rw [List.any_eq_true.mpr ⟨kv, hkv, decide_eq_true e⟩] at h2
    cases h2
  · obtain ⟨l, hl, rfl⟩ := List.mem_map.mp h3
    exact ⟨l, hl, h2⟩
theorem VD.are (vd : VD N H a zs vals kvs) (perm : zs.Perm (met cs)) : areB cs kvs (vals.map txD) = true := by
  unfold areB
  have h1 := congrArg List.length vd.keys
  rw [List.length_map, List.length_map] at h1
  have h2 := perm.length_eq
  rw [decide_eq_true (by omega), Bool.true_and, List.all_eq_true]
  intro c hc
  obtain ⟨l, hl, e⟩ := vd.look (perm.mem_iff.mpr hc)
  unfold hasVal
  rw [e]
  have ok := vd.ok l hl
  exact okVal_tx ok.1 (Nat.le_trans ok.2.1 (by decide)) ok.2.2
theorem VD.let (vd : VD N H a zs vals kvs) {c : Nat} (hc : c ∈ zs) : okV (letK kvs (vals.map txD) c) := by
  obtain ⟨l, hl, e⟩ := vd.look hc
  unfold letK
  rw [e]
  show okV (lettersD (txD l))
  rw [letters_tx]
  exact vd.ok l hl
theorem flat_len {f : Nat → List Int} {m : Nat} : ∀ {cs : List Nat}, (∀ c ∈ cs, (f c).length ≤ m) → (cs.flatMap f).length ≤ cs.length * m
  | [], _ => by simp
  | c :: cs, h => by
    rw [List.flatMap_cons, List.length_append, List.length_cons, Nat.add_mul]
    have h1 := h c List.mem_cons_self
    have h2 := flat_len (f := f) (cs := cs) fun x hx => h x (List.mem_cons_of_mem _ hx)
    omega
theorem VD.out (vd : VD N H a zs vals kvs) (perm : zs.Perm (met cs)) (pat : Pat cs) : (outL cs kvs (vals.map txD)).length ≤ 240 ∧ ∀ n ∈ outL cs kvs (vals.map txD), n.natAbs ≤ 1000000 := by
  have hz : ∀ c ∈ cs, c ∈ zs := fun c hc => perm.mem_iff.mpr (mem_met.mpr hc)
  refine ⟨?_, fun n hn => ?_⟩
  · have h1 := flat_len (f := letK kvs (vals.map txD)) (m := 6) (cs := cs) fun c hc => (vd.let (hz c hc)).2.1
    have h2 := pat.len
    unfold outL
    omega
  · obtain ⟨c, hc, hn2⟩ := List.mem_flatMap.mp hn
    have := (vd.let (hz c hc)).2.2 n hn2
    omega
theorem VD.dx (vd : VD N H a zs vals kvs) (na : ¬ N a) : Dx N H (.ref a) (.dict ((kvs.map fun kv => keyD kv.1).zip (vals.map txD))) := .dct vd.at_ na vd.dat
theorem VD.same {H' : Hp} (vd : VD N H a zs vals kvs) (s : Same H H') : VD N H' a zs vals kvs := ⟨s _ _ vd.at_, vd.keys, vd.dat.same s, vd.len, vd.ok⟩
theorem VD.fits (vd : VD N H a zs vals kvs) : ∀ d ∈ vals.map txD, FitV d := fun x hx => by
  obtain ⟨l, hl, rfl⟩ := List.mem_map.mp hx
  exact (vd.ok l hl).fit
theorem VD.fit (vd : VD N H a zs vals kvs) (perm : zs.Perm (met cs)) (pat : Pat cs) : Fit 8 60000 6 (.dict ((kvs.map fun kv => keyD kv.1).zip (vals.map txD))) := by
  have h1 := congrArg List.length vd.keys
  rw [List.length_map, List.length_map] at h1
  have h2 := perm.length_eq
  have h3 := pat.few
  refine (fit_dict (n := 9) (W := 3000) (D := 3) (fun k hk => ?_) vd.fits (by rw [List.length_map]; omega)).mono (Nat.le_refl _) (by decide) (by decide)
  obtain ⟨kv, hkv, rfl⟩ := List.mem_map.mp hk
  have h4 : kv.1 ∈ kvs.map (·.1) := List.mem_map.mpr ⟨kv, hkv, rfl⟩
  rw [vd.keys] at h4
  obtain ⟨z, hz, e⟩ := List.mem_map.mp h4
  rw [← e]
  have := pat.low z (mem_met.mp (perm.mem_iff.mp hz))
  exact fit_kS (by omega)
end
/-! ### two variables -/
theorem two_met {x y : Nat} {cs : List Nat} (hs : ∀ c ∈ cs, c = x ∨ c = y) (hx : x ∈ cs) (hy : y ∈ cs) (hne : x ≠ y) : (met cs).length = 2 := by
  have h1 : (met cs).length ≤ 2 := met_sub_len (cs := [x, y]) fun c hc => by simpa using hs c hc
  have h2 : [x, y].length ≤ (met cs).length := nodup_sub_len [x, y] (met cs) (by simpa using hne) fun c hc => by
    rcases (show c = x ∨ c = y by simpa using hc) with rfl | rfl
    · exact mem_met.mpr hx
    · exact mem_met.mpr hy
  have : [x, y].length = 2 := rfl
  omega
theorem mem_mulS {z c n : Nat} (h : c ∈ mulS [z] n) : c = z := by
  unfold mulS at h
  rw [List.flatten_replicate_singleton] at h
  exact (List.mem_replicate.mp h).2
theorem mulS_one (z n : Nat) : mulS [z] n = List.replicate n z := by
  unfold mulS
  rw [List.flatten_replicate_singleton]
theorem two_pat {x y n : Nat} (hx : 97 ≤ x ∧ x ≤ 122) (hy : 97 ≤ y ∧ y ≤ 122) (hn : n ≤ 39) : Pat (mulS [x] n ++ [y]) := by
  have hs : ∀ c ∈ mulS [x] n ++ [y], c = x ∨ c = y := fun c hc => by
    rcases List.mem_append.mp hc with h | h
    · exact .inl (mem_mulS h)
    · exact .inr (List.mem_singleton.mp h)
  refine ⟨?_, fun c hc => ?_, ?_⟩
  · rw [List.length_append, mulS_one, List.length_replicate]
    show n + 1 ≤ 40
    omega
  · rcases hs c hc with rfl | rfl
    · exact hx
    · exact hy
  · have := met_sub_len (cs := [x, y]) fun c hc => (show c ∈ [x, y] by simpa using hs c hc)
    exact Nat.le_trans this (by show 2 ≤ 8; decide)
theorem merge2 {x y : Nat} {u v : V} (h : x ≠ y) : mergeK [] [(kS x, u), (kS y, v)] = [(kS x, u), (kS y, v)] := by
  have k1 : ¬ (kS x = kS y) := fun e => h (kS_inj e)
  unfold mergeK
  have e1 : putK [] (kS x) u = [(kS x, u)] := putK_new (by simp)
  have e2 : putK [(kS x, u)] (kS y) v = [(kS x, u), (kS y, v)] := putK_new fun kv hkv => by
    rw [List.mem_singleton.mp hkv]
    exact k1
  show putK (putK [] (kS x) u) (kS y) v = _
  rw [e1, e2]
theorem look2 {x y : Nat} {u v : V} {d e : PyData} (h : x ≠ y) : lookK [(kS x, u), (kS y, v)] [d, e] (kS x) = some d ∧ lookK [(kS x, u), (kS y, v)] [d, e] (kS y) = some e := by
  have k1 : ¬ (kS x = kS y) := fun z => h (kS_inj z)
  refine ⟨?_, ?_⟩
  · simp only [lookK, if_true]
  · simp only [lookK, if_neg k1, if_true]
theorem val2 {x y : Nat} {u v : V} (h : x ≠ y) : valV [(kS x, u), (kS y, v)] (kS x) = some u ∧ valV [(kS x, u), (kS y, v)] (kS y) = some v := by
  have k1 : ¬ (kS x = kS y) := fun z => h (kS_inj z)
  exact ⟨valV_pos rfl, by rw [valV_neg k1, valV_pos rfl]⟩
end Mo

namespace Mo
open PySem PySem.Spec PyProof.Rows L2
section
variable {P : Program} {w : World} {K : PySem.W.Frag} {mg : Str → Option Value} {base : Heap}
def spLaw (K : PySem.W.Frag) : Sp := fun vs H Q _ => ∃ (a : Addr) (ns : List Int), vs = [.ref a] ∧ SqL K H a (ns.map V.int) ∧ ns.length ≤ 63 ∧ ∀ H', Q (.bl true) H'
theorem same_ne (x : V) : V.bl (!decide (x = x)) = V.bl false := by simp
theorem flat_bad (dd : PyData) : (saidBad dd).all flatV = true := rfl
theorem flat_large : saidLarge.all flatV = true := rfl
def fourD : List PyData := [.tuple [], .list [.int 1], .tuple [.int (-1)], .none]
theorem four_fit {dd : PyData} (h : dd ∈ fourD) : FitV dd ∧ okVal dd = false := by
  simp only [fourD, List.mem_cons, List.not_mem_nil, or_false] at h
  rcases h with rfl | rfl | rfl | rfl <;> exact ⟨⟨by (simp only [okD, okAll, okKv] <;> decide +kernel), by decide +kernel, by decide +kernel⟩, by decide +kernel⟩
theorem rep_ints (n : Nat) (u : Int) : (List.replicate n [V.int u]).flatten = (List.replicate n u).map V.int := by
  rw [List.flatten_replicate_singleton, List.map_replicate]
theorem two_of {α : Type} {xs : List α} (h : xs.length = 2) : ∃ x y, xs = [x, y] := by
  match xs, h with
  | [x, y], _ => exact ⟨x, y, rfl⟩
theorem rep_flat (A : List Int) (m : Nat) : (List.replicate m (A.map V.int)).flatten = ((List.replicate m A).flatten).map V.int := by
  rw [List.map_flatten, List.map_replicate]
theorem out_two {x y : Nat} {u v : V} {A B : List Int} (h : x ≠ y) : outL (mulS [x] 31 ++ [y]) [(kS x, u), (kS y, v)] [txD A, txD B] = (List.replicate 31 A).flatten ++ B := by
  have e1 : letK [(kS x, u), (kS y, v)] [txD A, txD B] x = A := by
    unfold letK
    rw [(look2 h).1]
    exact letters_tx A
  have e2 : letK [(kS x, u), (kS y, v)] [txD A, txD B] y = B := by
    unfold letK
    rw [(look2 h).2]
    exact letters_tx B
  unfold outL
  rw [List.flatMap_append, mulS_one, List.flatMap_def, List.map_replicate, e1]
  simp [e2]
theorem are_two {x y : Nat} {u v : V} {A B : List Int} (h : x ≠ y) (hA : okVal (txD A) = true) (hB : okVal (txD B) = true) : areB (mulS [x] 31 ++ [y]) [(kS x, u), (kS y, v)] [txD A, txD B] = true := by
  have hs : ∀ c ∈ mulS [x] 31 ++ [y], c = x ∨ c = y := fun c hc => by
    rcases List.mem_append.mp hc with h | h
    · exact .inl (mem_mulS h)
    · exact .inr (List.mem_singleton.mp h)
  unfold areB
  rw [two_met (x := x) (y := y) hs (by rw [mulS_one]; simp) (by simp) h]
  show (true && _) = true
  rw [Bool.true_and, List.all_eq_true]
  intro c hc
  unfold hasVal
  rcases hs c (mem_met.mp hc) with rfl | rfl
  · rw [(look2 h).1]
    exact hA
  · rw [(look2 h).2]
    exact hB
theorem fives : okVal (txD (List.replicate 128 (5 : Int))) = true := okVal_tx (by decide) (by decide) (fun n hn => by rw [(List.mem_replicate.mp hn).2]; decide)
theorem rep_len (m : Nat) : ((List.replicate 31 (List.replicate 128 (5 : Int))).flatten).length = 3968 := by simp
theorem ok_law {k : Nat} (T : Txt K mg) (hbm : ∃ mm, base.Ns sysModules mm) : FnG P w K mg base CX0 (k + 7) T.aLaw T.dLaw ["_law_script"] (spLaw K) := by
  have GLPen : FnOk P w K mg base CX0 (k + 6) T.aLPen T.dLPen ["_law_script"] (spPen K) := ok_pen T
  have GLDraw : FnOk P w K mg base CX0 (k + 6) T.aLDraw T.dLDraw ["_law_pen_here", "_law_size"] spDraw := ok_draw T
  have GLPick : FnOk P w K mg base CX0 (k + 6) T.aLPick T.dLPick ["_law_pen_here", "_law_options"] (spPick K) := ok_pick T
  have GLNames : FnOk P w K mg base CX0 (k + 6) T.aLNames T.dLNames ["_law_pen_here", "_law_count"] spNames := ok_names T
  have GLPattern : FnOk P w K mg base CX0 (k + 6) T.aLPattern T.dLPattern ["_law_pen_here", "_law_size", "_law_count"] spPattern := ok_pattern T
  have GLValues : FnOk P w K mg base CX0 (k + 6) T.aLValues T.dLValues ["_law_pen_here", "_law_pattern_here"] spValues := ok_values T
  have GLFilled : FnOk P w K mg base CX0 (k + 6) T.aLFilled T.dLFilled ["_law_pattern_here", "_law_values_here"] spFilled := ok_filled T
  have GLSpoilt : FnOk P w K mg base CX0 (k + 6) T.aLSpoilt T.dLSpoilt ["_law_pen_here", "_law_values_here"] spSpoilt := ok_spoilt T
  have GLTold : FnG P w K mg base CX0 (k + 6) T.aLTold T.dLTold ["_law_pattern_here", "_law_values_here"] spTold := ok_told T hbm
  refine okG T.fLaw scLaw (fun vs H Q E h => ?_) (fun cdv A outer s H vs Q E hr hgd h => ?_)
  · obtain ⟨a, ns, rfl, _⟩ := h
    rfl
  · obtain ⟨a, ns, rfl, hs, hn, q⟩ := h
    have hu := hu_of hr
    refine ⟨_, (pss_cons (ps_set (i := 1) scLaw.nd rfl (Or.inl rfl) (pe_call GLPen hr (by rfl) T.gLPen T.fLPen.kp T.bLPen .nil pass0 (pa_cons (pv 0) pa_nil)))
      (pss_cons (ps_for PassesOwn.never rfl (pi_range1 (by rfl) T.m_range (pa_cons pe_int pa_nil)) (pg_name (i := 2) scLaw.nd rfl (Or.inl rfl)) (pss_cons (ps_set (i := 3) scLaw.nd rfl (Or.inl rfl) (pe_call GLPattern hr (by rfl) T.gLPattern T.fLPattern.kp T.bLPattern .nil pass0 (pa_cons (pv 1) (pa_cons pe_int (pa_cons pe_int pa_nil)))))
      (pss_cons (ps_set (i := 4) scLaw.nd rfl (Or.inl rfl) (pe_call GLValues hr (by rfl) T.gLValues T.fLValues.kp T.bLValues .nil pass0 (pa_cons (pv 1) (pa_cons (pv 3) pa_nil))))
      (pss_cons (ps_set (i := 5) scLaw.nd rfl (Or.inl rfl) (pe_callB (Mo.cr_reprX hbm hgd hr.units) (by rfl) T.m_repr (by decide +kernel) (pa_cons (pv 4) pa_nil)))
      (pss_cons (ps_set (i := 6) scLaw.nd rfl (Or.inl rfl) (pe_callB (Mo.cr_reprX hbm hgd hr.units) (by rfl) T.m_repr (by decide +kernel) (pa_cons (pe_call GLFilled hr (by rfl) T.gLFilled T.fLFilled.kp T.bLFilled .nil pass0 (pa_cons (pv 3) (pa_cons (pv 4) pa_nil))) pa_nil)))
      (pss_cons (ps_if (PW.pt (pw_or (pt_cmpR op_ne (pe_callB (Mo.cr_reprX hbm hgd hr.units) (by rfl) T.m_repr (by decide +kernel) (pa_cons (Mo.pe_callG GLTold hr hgd (by rfl) T.gLTold T.fLTold.kp T.bLTold .nil pass0 (pa_cons (pv 3) (pa_cons (pv 4) pa_nil))) pa_nil)) (pv 6) (nomark _)) (pw_or1 (pt_cmpR op_ne (pe_callB (Mo.cr_reprX hbm hgd hr.units) (by rfl) T.m_repr (by decide +kernel) (pa_cons (pv 4) pa_nil)) (pv 5) (nomark _))))) (pss_one (ps_ret pe_bl)) pss_nil)
      (pss_cons (ps_set (i := 7) scLaw.nd rfl (Or.inl rfl) (pe_call GLSpoilt hr (by rfl) T.gLSpoilt T.fLSpoilt.kp T.bLSpoilt .nil pass0 (pa_cons (pv 1) (pa_cons (pv 4) pa_nil))))
      (pss_one (ps_if (pt_cmpR (Mo.op_neFl hr.units) (Mo.pe_callG GLTold hr hgd (by rfl) T.gLTold T.fLTold.kp T.bLTold .nil pass0 (pa_cons (pv 3) (pa_cons (pv 7) pa_nil))) (pe_lst (pa_cons pe_str (pa_cons (pe_callB (Mo.cr_reprX hbm hgd hr.units) (by rfl) T.m_repr (by decide +kernel) (pa_cons (pv 7) pa_nil)) (pa_cons pe_bl pa_nil)))) (nomark _)) (pss_one (ps_ret pe_bl)) pss_nil)))))))))
      (pss_cons (ps_set (i := 8) scLaw.nd rfl (Or.inl rfl) (pe_call GLNames hr (by rfl) T.gLNames T.fLNames.kp T.bLNames .nil pass0 (pa_cons (pv 1) (pa_cons pe_int pa_nil))))
      (pss_cons (ps_set (i := 9) scLaw.nd rfl (Or.inl rfl) (pe_disp (pps_cons (pe_ix ix_list (pv 8) pe_int (fun _ _ => rfl)) (pe_op Mo.op_repN (pe_tup (pa_cons pe_int pa_nil)) (pe_op op_add pe_int (pe_call GLDraw hr (by rfl) T.gLDraw T.fLDraw.kp T.bLDraw .nil pass0 (pa_cons (pv 1) (pa_cons pe_int pa_nil))))) (pps_cons (pe_ix ix_list (pv 8) pe_int (fun _ _ => rfl)) (pe_call GLPick hr (by rfl) T.gLPick T.fLPick.kp T.bLPick .nil pass0 (pa_cons (pv 1) (pa_cons (pe_lst (pa_cons (pe_tup pa_nil) (pa_cons (pe_lst (pa_cons pe_int pa_nil)) (pa_cons (pe_tup (pa_cons (pe_un un_neg pe_int) pa_nil)) (pa_cons pe_non pa_nil))))) pa_nil))) pps_nil)) (by rfl) (by rfl) (fun z => by cases z) (by decide)))
      (pss_cons (ps_if (pt_cmpR (Mo.op_neFl hr.units) (Mo.pe_callG GLTold hr hgd (by rfl) T.gLTold T.fLTold.kp T.bLTold .nil pass0 (pa_cons (pe_op op_add_str (pe_op Mo.op_mulS (pe_ix ix_list (pv 8) pe_int (fun _ _ => rfl)) pe_int) (pe_ix ix_list (pv 8) pe_int (fun _ _ => rfl))) (pa_cons (pv 9) pa_nil))) (pe_lst (pa_cons pe_str (pa_cons (pe_callB (Mo.cr_reprX hbm hgd hr.units) (by rfl) T.m_repr (by decide +kernel) (pa_cons (pv 9) pa_nil)) (pa_cons pe_bl pa_nil)))) (nomark _)) (pss_one (ps_ret pe_bl)) pss_nil)
      (pss_cons (ps_if (pt_cmpR op_eq (pe_call GLDraw hr (by rfl) T.gLDraw T.fLDraw.kp T.bLDraw .nil pass0 (pa_cons (pv 1) (pa_cons pe_int pa_nil))) pe_int (nomark _)) (pss_cons (ps_asg (pe_call GLNames hr (by rfl) T.gLNames T.fLNames.kp T.bLNames .nil pass0 (pa_cons (pv 1) (pa_cons pe_int pa_nil))) (pg_lst (by rfl) (pgs_cons (pg_name (i := 11) scLaw.nd rfl (Or.inl rfl)) (pgs_cons (pg_name (i := 12) scLaw.nd rfl (Or.inl rfl)) pgs_nil))))
      (pss_cons (ps_set (i := 4) scLaw.nd rfl (Or.inl rfl) (pe_disp (pps_cons (pv 11) (pe_op Mo.op_repN (pe_tup (pa_cons pe_int pa_nil)) pe_int) (pps_cons (pv 12) (pe_op Mo.op_repN (pe_tup (pa_cons (pe_call GLDraw hr (by rfl) T.gLDraw T.fLDraw.kp T.bLDraw .nil pass0 (pa_cons (pv 1) (pa_cons (pe_op op_pow pe_int pe_int) pa_nil))) pa_nil)) (pe_op op_add pe_int (pe_call GLDraw hr (by rfl) T.gLDraw T.fLDraw.kp T.bLDraw .nil pass0 (pa_cons (pv 1) (pa_cons pe_int pa_nil))))) pps_nil)) (by rfl) (by rfl) (fun z => by cases z) (by decide)))
      (pss_cons (ps_set (i := 6) scLaw.nd rfl (Or.inl rfl) (pe_op op_catA (pe_op Mo.op_repG (pe_dget hu (pv 4) (pv 11) (fun _ _ => rfl)) pe_int) (pe_dget hu (pv 4) (pv 12) (fun _ _ => rfl))))
      (pss_cons (ps_set (i := 10) scLaw.nd rfl (Or.inl rfl) (Mo.pe_callG GLTold hr hgd (by rfl) T.gLTold T.fLTold.kp T.bLTold .nil pass0 (pa_cons (pe_op op_add_str (pe_op Mo.op_mulS (pv 11) pe_int) (pv 12)) (pa_cons (pv 4) pa_nil))))
      (pss_one (ps_ret (pe_cmpR (Mo.op_eqFl hr.units) (pv 10) (pe_ifExp (pt_cmpR op_le (pe_callB call_len_seq (by rfl) T.m_len PySem.boot_len (pa_cons (pv 6) pa_nil)) pe_int (nomark _)) (pv 6) (pe_lst (pa_cons pe_str (pa_cons pe_int (pa_cons pe_bl pa_nil))))) (nomark _)))))))) pss_nil)
      (pss_one (ps_ret pe_bl)))))))), ?_⟩
    refine ⟨_, rfl, a, ns, rfl, hs, hn, fun H0 d c s0 nd pen0 => ?_⟩
    refine ⟨10, rfl, by decide, by decide, for_range (lo := 0) (n := 10) (fun i σ H' => ∃ (t : Nat) (o2 o3 o4 o5 o6 o7 o8 o9 o10 o11 o12 : Option V), σ = [some (.ref a), some (.ref d), o2, o3, o4, o5, o6, o7, o8, o9, o10, o11, o12] ∧ Pen H' d c t ∧ t ≤ 200 * i) ?_ ?_ ?_⟩
    · exact ⟨0, none, none, none, none, none, none, none, none, none, none, none, rfl, pen0, Nat.zero_le _⟩
    · rintro i σ H1 hi ⟨t, o2, o3, o4, o5, o6, o7, o8, o9, o10, o11, o12, rfl, pen1, ht⟩
      refine ⟨_, rfl, d, c, 40, 8, t, rfl, pen1, by decide, by decide, by decide, by omega, fun H2 cs t2 but2 pen2 ht2 hz1 hz2 hz3 => ?_⟩
      have pat : Pat cs := ⟨hz1, hz2, hz3⟩
      refine ⟨_, rfl, _, rfl, d, c, cs, t2, rfl, pat, pen2, by omega, fun H3 b zs vals kvs t3 but3 pen3 ht3 nb nbd perm vd => ?_⟩
      have fit := vd.fit perm pat
      obtain ⟨f1, f2, f3⟩ := fit.repr (by decide) (by decide) (by decide) (by decide)
      have are := vd.are perm
      obtain ⟨hout, hsm⟩ := vd.out perm pat
      have ofit := fit_txD (l := outL cs kvs (vals.map txD)) (by omega) hsm
      obtain ⟨g1, g2, g3⟩ := ofit.repr (by decide) (by decide) (by decide) (by decide)
      refine ⟨_, rfl, fun x => x = d, .ref b, _, rfl, vd.dx nbd, f1, f2, f3, ?_⟩
      refine ⟨_, rfl, _, rfl, cs, b, kvs, letK kvs (vals.map txD), rfl, vd.at_, fun c hc => (val_of vd.dat are hc).elim fun p z => ⟨p, z.1, z.2.1⟩, Nat.le_trans hout (by decide), fun H4 p s4 hp => ?_⟩
      refine ⟨fun _ => False, .ref p, txD (outL cs kvs (vals.map txD)), rfl, .tup hp (fun z => z) (ints_dx _), g1, g2, g3, ?_⟩
      have vd4 := vd.same s4
      have pen4 := pen3.same s4
      refine ⟨_, rfl, _, rfl, cs, .ref b, fun x => x = d, _, rfl, pat, vd4.dx nbd, fit, .inl ⟨b, kvs, vals.map txD, rfl, vd4.at_, vd4.dat, vd4.fits, fun _ _ H5 p5 s5 hp5 => ?_, fun _ e => absurd e (by omega), fun e => by rw [are] at e; cases e⟩⟩
      refine ⟨fun _ => False, .ref p5, txD (outL cs kvs (vals.map txD)), rfl, .tup hp5 (fun z => z) (ints_dx _), g1, g2, g3, _, rfl, rfl, false, same_ne _, iteF ?_⟩
      have vd5 := vd4.same s5
      have pen5 := pen4.same s5
      refine ⟨_, rfl, fun x => x = d, .ref b, _, rfl, vd5.dx nbd, f1, f2, f3, _, rfl, rfl, false, same_ne _, iteF ?_⟩
      -- spoilt
      refine ⟨_, rfl, _, rfl, d, c, b, cs, zs, vals, kvs, t3, rfl, pat, perm, pen5, by omega, nbd, vd5, fun H6 x dd t6 but6 pen6 ht6 bad => ?_⟩
      obtain ⟨h1, h2, h3⟩ := bad.2.1.repr (by decide) (by decide) (by decide) (by decide)
      refine ⟨_, rfl, _, rfl, cs, x, fun x => x = d, dd, rfl, pat, bad.1, bad.2.1, ?_⟩
      rcases bad.2.2 with hk | ⟨e, kvs6, ds6, rfl, he, hd6, hf6, ha6⟩
      · refine .inr ⟨hk, fun H7 p7 s7 hp7 => ?_⟩
        refine ⟨_, rfl, fun x => x = d, x, dd, rfl, bad.1.same s7, h1, h2, h3, by show 3 ≤ sizeLine; decide, fun p8 n8 => ?_⟩
        refine ⟨saidBad dd, saidBad dd, ⟨p7, p8, rfl, rfl, flat_bad dd, flat_bad dd, .inl ⟨SqL.of (same_new n8 _ _ hp7), SqL.of upd_same⟩⟩, _, rfl, ?_⟩
        rw [eqLs_self (flat_bad dd)]
        exact iteF ⟨t6, _, _, _, _, _, _, _, _, _, _, _, rfl, (pen6.same s7).same (same_new n8), by omega⟩
      · refine .inl ⟨e, kvs6, ds6, rfl, he, hd6, hf6, fun z => absurd (ha6.symm.trans z) Bool.false_ne_true, fun z => absurd (ha6.symm.trans z) Bool.false_ne_true, fun _ H7 p7 s7 hp7 => ?_⟩
        refine ⟨_, rfl, fun x => x = d, .ref e, dd, rfl, bad.1.same s7, h1, h2, h3, by show 3 ≤ sizeLine; decide, fun p8 n8 => ?_⟩
        refine ⟨saidBad dd, saidBad dd, ⟨p7, p8, rfl, rfl, flat_bad dd, flat_bad dd, .inl ⟨SqL.of (same_new n8 _ _ hp7), SqL.of upd_same⟩⟩, _, rfl, ?_⟩
        rw [eqLs_self (flat_bad dd)]
        exact iteF ⟨t6, _, _, _, _, _, _, _, _, _, _, _, rfl, (pen6.same s7).same (same_new n8), by omega⟩
    · rintro σ H1 ⟨t, o2, o3, o4, o5, o6, o7, o8, o9, o10, o11, o12, rfl, pen1, ht⟩
      refine ⟨_, rfl, d, c, 2, t, rfl, pen1, by decide, by omega, fun H2 l xs t2 but2 pen2 ht2 nl nld hl hlen hnd hlow => ?_⟩
      obtain ⟨x, y, rfl⟩ := two_of hlen
      have hxy : x ≠ y := by simpa using hnd
      have lx := hlow x (by simp)
      have ly := hlow y (by simp)
      have sx : atI ([sg x, sg y] : List V) (0 : Int) = some (sg x) := by show atI ([sg x, sg y] : List V) ((0 : Nat) : Int) = _; exact atI_nat rfl
      have sy : atI ([sg x, sg y] : List V) (1 : Int) = some (sg y) := by show atI ([sg x, sg y] : List V) ((1 : Nat) : Int) = _; exact atI_nat rfl
      -- the large dict
      intro g ng
      have s3 := same_new (o := .dK []) ng
      have hl3 := s3 _ _ hl
      have hg3 : upd H2 g (.dK []) g = some (.dK []) := upd_same
      have pen3 := pen2.same s3
      have ngd := (pen2.new ng).1
      have ngc := (pen2.new ng).2
      have but3 : But d H2 (upd H2 g (.dK [])) := But.same s3
      generalize upd H2 g (.dK []) = H3 at *
      refine ⟨_, rfl, l, [sg x, sg y], 0, sg x, rfl, rfl, SqL.of hl3, sx, by show 1 ≤ sizeLine; decide, fun p1 n1 => ?_⟩
      have s4 := same_new (o := .tup [.int 5]) n1
      have np1d := (pen3.new n1).1
      refine ⟨_, rfl, d, c, 9, t2, rfl, pen3.same s4, by decide, by decide, by omega, fun H5 m t5 but5 pen5 ht5 m0 m1 => ?_⟩
      obtain ⟨n, rfl⟩ := nat_of m0
      have hp1 : H5 p1 = some (.tup [.int 5]) := but5 _ _ np1d upd_same
      refine ⟨2049, n, rfl, rfl, p1, 2049 + n, [.int 5], rfl, congrArg V.int (by omega), SqT.of hp1, by simp, by omega, by omega, by show 1 ≤ 10; decide, fun p2 n2 => ?_⟩
      rw [rep_ints]
      have s6 := same_new (o := .tup ((List.replicate (2049 + n) (5 : Int)).map V.int)) n2
      have hp2 : upd H5 p2 (.tup ((List.replicate (2049 + n) (5 : Int)).map V.int)) p2 = some (.tup ((List.replicate (2049 + n) (5 : Int)).map V.int)) := upd_same
      have but6 : But d H3 (upd H5 p2 (.tup ((List.replicate (2049 + n) (5 : Int)).map V.int))) := ((But.same s4).trans but5).trans (But.same s6)
      have pen6 := pen5.same s6
      have np2d := (pen5.new n2).1
      have np2g : p2 ≠ g := (ne_of_none (((But.same s4).trans but5) _ _ ngd hg3) n2).symm
      generalize upd H5 p2 (.tup ((List.replicate (2049 + n) (5 : Int)).map V.int)) = H6 at *
      have hl6 := but6 _ _ nld hl3
      have hg6 := but6 _ _ ngd hg3
      refine ⟨_, rfl, l, [sg x, sg y], 1, sg y, rfl, rfl, SqL.of hl6, sy, ?_⟩
      refine ⟨_, rfl, (lit_lst (lit_cons (lit_tup lit_nil) (lit_cons (lit_lst (lit_cons lit_int lit_nil)) (lit_cons (lit_tup (lit_cons lit_neg lit_nil)) (lit_cons lit_non lit_nil))))).use fun H7 v s7 hv => ?_⟩
      obtain ⟨r, ys, rfl, hr7, hn7, hx7⟩ := lst_dx hv
      have hyl : ys.length = 4 := hx7.length
      refine ⟨d, c, r, ys, t5, rfl, pen6.same s7, SqL.of hr7, fun z => hn7 (z ▸ pen6.was), by omega, by omega, by omega, fun H8 z t8 but8 pen8 ht8 hz => ?_⟩
      obtain ⟨dd, hdd, hzd⟩ := hx7.mem hz
      obtain ⟨ffit, fbad⟩ := four_fit (show dd ∈ fourD from hdd)
      have wasg : Was H6 g := by unfold Was; rw [hg6]; exact Option.some_ne_none _
      have hz8 := (hzd.more (N' := fun x => x = d ∨ x = g) fun b _ z => z.elim (fun z => z ▸ pen6.was) (fun z => z ▸ wasg)).but (but_N (N := fun x => x = d ∨ x = g) (.inl rfl) but8)
      have hp28 := but8 _ _ np2d (s7 _ _ hp2)
      have hg8 := but8 _ _ ngd (s7 _ _ hg6)
      have hl8 := but8 _ _ nld (s7 _ _ hl6)
      refine ⟨hg8, [(kS x, .ref p2), (kS y, z)], rfl, by show 2 ≤ 15; decide, ?_⟩
      rw [merge2 hxy]
      have hg9 : upd H8 g (.dK [(kS x, .ref p2), (kS y, z)]) g = some (.dK [(kS x, .ref p2), (kS y, z)]) := upd_same
      have dat9 : DxAll (fun x => x = d ∨ x = g) (upd H8 g (.dK [(kS x, .ref p2), (kS y, z)])) [.ref p2, z] [txD (List.replicate (2049 + n) (5 : Int)), dd] :=
        .cons (.tup (by rw [upd_ne np2g]; exact hp28) (fun z => z.elim np2d np2g) (ints_dx _)) (.cons (hz8.but (upd_N (.inr rfl))) .nil)
      have nlg : l ≠ g := (ne_of_none hl ng)
      have hl9 : upd H8 g (.dK [(kS x, .ref p2), (kS y, z)]) l = some (.lst [sg x, sg y]) := by
        rw [upd_ne nlg]
        exact hl8
      have pen9 := pen8.upd (o := .dK [(kS x, .ref p2), (kS y, z)]) ngd ngc
      have dfit : ∀ e ∈ [txD (List.replicate (2049 + n) (5 : Int)), dd], FitV e := fun e he => by
        rcases (show e = txD (List.replicate (2049 + n) (5 : Int)) ∨ e = dd by simpa using he) with rfl | rfl
        · exact fit_txD (by rw [List.length_replicate]; omega) (fun m hm => by rw [(List.mem_replicate.mp hm).2]; decide)
        · exact ffit
      have bad := bad_dict (cs := mulS [x] 2 ++ [y]) (N := fun x => x = d) hg9 ngd (dat9.more fun _ _ z => .inl z) (fun kv hkv => by
          rcases (show kv = (kS x, .ref p2) ∨ kv = (kS y, z) by simpa using hkv) with rfl | rfl
          · exact fit_kS (by omega)
          · exact fit_kS (by omega)) dfit (by show 2 ≤ 9; decide) (are_one (c := y) (mem_met.mpr (by simp)) (by unfold hasVal; rw [(look2 hxy).2]; exact fbad))
      generalize upd H8 g (.dK [(kS x, .ref p2), (kS y, z)]) = H9 at *
      obtain ⟨h1, h2, h3⟩ := bad.2.1.repr (by decide) (by decide) (by decide) (by decide)
      refine ⟨_, rfl, l, [sg x, sg y], 0, sg x, rfl, rfl, SqL.of hl9, sx, [x], 2, rfl, rfl, by show 1 ≤ 100000; decide, by decide, ?_⟩
      refine ⟨_, rfl, l, [sg x, sg y], 1, sg y, rfl, rfl, SqL.of hl9, sy, tx (mulS [x] 2), ⟨#[y]⟩, rfl, rfl, by rw [tx_len]; show 2 + 1 ≤ sizeLine; decide, ?_⟩
      rw [tx_app1]
      refine ⟨_, rfl, mulS [x] 2 ++ [y], .ref g, fun x => x = d, _, rfl, two_pat lx ly (by decide), bad.1, bad.2.1, .inl ⟨g, _, _, rfl, hg9, dat9.more fun _ _ z => .inl z, dfit, fun e => ?_, fun e => ?_, fun _ H10 p10 s10 hp10 => ?_⟩⟩
      · rw [are_one (c := y) (mem_met.mpr (by simp)) (by unfold hasVal; rw [(look2 hxy).2]; exact fbad)] at e
        cases e
      · rw [are_one (c := y) (mem_met.mpr (by simp)) (by unfold hasVal; rw [(look2 hxy).2]; exact fbad)] at e
        cases e
      refine ⟨_, rfl, fun x => x = d, .ref g, _, rfl, bad.1.same s10, h1, h2, h3, by show 3 ≤ sizeLine; decide, fun p11 n11 => ?_⟩
      refine ⟨saidBad _, saidBad _, ⟨p10, p11, rfl, rfl, flat_bad _, flat_bad _, .inl ⟨SqL.of (same_new n11 _ _ hp10), SqL.of upd_same⟩⟩, _, rfl, ?_⟩
      rw [eqLs_self (flat_bad _)]
      refine iteF ⟨_, rfl, d, c, 3, t8, rfl, (pen9.same s10).same (same_new n11), by decide, by decide, by omega, fun H12 m12 t12 but12 pen12 ht12 _ _ => ⟨rfl, _, rfl, ite2 (fun e => ?_) (fun e => q H12)⟩⟩
      clear bad dat9 hg9 hl9 hp28 hg8 hl8 hz8 hzd hx7 hv hl6 hg6 hp2 pen9 pen8 pen6 pen5 pen3 s7 hr7 but12
      refine ⟨_, rfl, d, c, 2, t12, rfl, pen12, by decide, by omega, fun H13 l xs t13 but13 pen13 ht13 nl nld hl hlen hnd hlow => ?_⟩
      obtain ⟨x, y, rfl⟩ := two_of hlen
      have hxy : x ≠ y := by simpa using hnd
      have lx := hlow x (by simp)
      have ly := hlow y (by simp)
      refine ⟨l, [sg x, sg y], rfl, SqL.of hl, rfl, _, _, rfl, _, _, rfl, rfl, ?_⟩
      intro g ng
      have s3 := same_new (o := .dK []) ng
      have hg3 : upd H13 g (.dK []) g = some (.dK []) := upd_same
      have pen3 := pen13.same s3
      have ngd := (pen13.new ng).1
      have ngc := (pen13.new ng).2
      generalize upd H13 g (.dK []) = H3 at *
      refine ⟨_, rfl, by show 1 ≤ sizeLine; decide, fun p1 n1 => ⟨p1, 128, [.int 5], rfl, rfl, SqT.of upd_same, by simp, by decide, by decide, by decide, fun p2 n2 => ?_⟩⟩
      rw [rep_ints]
      have s4 := same_new (o := .tup [.int 5]) n1
      have s5 := same_new (o := .tup ((List.replicate 128 (5 : Int)).map V.int)) n2
      have hp2 : upd (upd H3 p1 (.tup [.int 5])) p2 (.tup ((List.replicate 128 (5 : Int)).map V.int)) p2 = some (.tup ((List.replicate 128 (5 : Int)).map V.int)) := upd_same
      have s35 := s4.trans s5
      have np2d := ((pen3.same s4).new n2).1
      have np2g : p2 ≠ g := (ne_of_none (s4 _ _ hg3) n2).symm
      generalize upd (upd H3 p1 (.tup [.int 5])) p2 (.tup ((List.replicate 128 (5 : Int)).map V.int)) = H5 at *
      have pen5 := pen3.same s35
      have hg5 := s35 _ _ hg3
      refine ⟨_, rfl, _, rfl, 10, 6, rfl, rfl, ⟨by decide, by decide, by decide⟩, d, c, _, t13, rfl, pen5, by decide, by decide, by omega, fun H6 u t6 but6 pen6 ht6 u0 u1 => ⟨by show 1 ≤ sizeLine; decide, fun p3 n3 => ?_⟩⟩
      have e6 : (10 : Int) ^ (6 : Int).toNat = 1000000 := by decide
      rw [e6] at u1
      have s7 := same_new (o := .tup [.int u]) n3
      have np3d := (pen6.new n3).1
      refine ⟨_, rfl, d, c, 4, t6, rfl, pen6.same s7, by decide, by decide, by omega, fun H8 m t8 but8 pen8 ht8 m0 m1 => ?_⟩
      obtain ⟨n, rfl⟩ := nat_of m0
      have hp3 : H8 p3 = some (.tup [.int u]) := but8 _ _ np3d upd_same
      refine ⟨127, n, rfl, rfl, p3, 127 + n, [.int u], rfl, congrArg V.int (by omega), SqT.of hp3, by simp, by omega, by omega, by show 1 ≤ 10; decide, fun p4 n4 => ?_⟩
      rw [rep_ints]
      have b58 : But d H5 H8 := (but6.trans (But.same s7)).trans but8
      have s9 := same_new (o := .tup ((List.replicate (127 + n) u).map V.int)) n4
      have hp4 : upd H8 p4 (.tup ((List.replicate (127 + n) u).map V.int)) p4 = some (.tup ((List.replicate (127 + n) u).map V.int)) := upd_same
      have np4d := (pen8.new n4).1
      have np4g : p4 ≠ g := (ne_of_none (b58 _ _ ngd hg5) n4).symm
      have hp29 := s9 _ _ (b58 _ _ np2d hp2)
      have hg9 := s9 _ _ (b58 _ _ ngd hg5)
      generalize upd H8 p4 (.tup ((List.replicate (127 + n) u).map V.int)) = H9 at *
      refine ⟨hg9, [(kS x, .ref p2), (kS y, .ref p4)], rfl, by show 2 ≤ 15; decide, ?_⟩
      rw [merge2 hxy]
      have hg : upd H9 g (.dK [(kS x, .ref p2), (kS y, .ref p4)]) g = some (.dK [(kS x, .ref p2), (kS y, .ref p4)]) := upd_same
      have hA : upd H9 g (.dK [(kS x, .ref p2), (kS y, .ref p4)]) p2 = some (.tup ((List.replicate 128 (5 : Int)).map V.int)) := by rw [upd_ne np2g]; exact hp29
      have hB : upd H9 g (.dK [(kS x, .ref p2), (kS y, .ref p4)]) p4 = some (.tup ((List.replicate (127 + n) u).map V.int)) := by rw [upd_ne np4g]; exact hp4
      clear hg9 hp29 hp4 hp3 hp2 hg5 hg3 pen3 pen5 pen6 pen8 b58 but8 but6 s35 s3 s4 s5 s7 s9
      generalize upd H9 g (.dK [(kS x, .ref p2), (kS y, .ref p4)]) = HG at *
      have gx := DGet.k (k := kS x) hg
      have gy := DGet.k (k := kS y) hg
      rw [(val2 hxy).1] at gx
      refine ⟨_, rfl, _, rfl, g, _, rfl, gx, p2, 31, _, rfl, rfl, SqT.of hA, by simp, by decide, by decide, by decide, fun p5 n5 => ?_⟩
      rw [rep_flat]
      have s10 := same_new (o := .tup (((List.replicate 31 (List.replicate 128 (5 : Int))).flatten).map V.int)) n5
      have hp5 : upd HG p5 (.tup (((List.replicate 31 (List.replicate 128 (5 : Int))).flatten).map V.int)) p5 = some (.tup (((List.replicate 31 (List.replicate 128 (5 : Int))).flatten).map V.int)) := upd_same
      generalize upd HG p5 (.tup (((List.replicate 31 (List.replicate 128 (5 : Int))).flatten).map V.int)) = H10 at *
      have gy10 := DGet.k (k := kS y) (s10 _ _ hg)
      rw [(val2 hxy).2] at gy10
      have hr1 := rep_len 0
      have hr2 : (List.replicate (127 + n) u).length = 127 + n := List.length_replicate
      refine ⟨_, rfl, _, rfl, g, _, rfl, gy10, catA_any hp5 (s10 _ _ hB) (fits5 (by rw [List.length_map, List.length_map, hr1, hr2]; omega)) fun p6 H11 s11 hp6 _ => ?_⟩
      rw [← List.map_append, ← out_two (u := .ref p2) (v := .ref p4) hxy] at hp6
      have s1 := s10.trans s11
      have hg11 := s1 _ _ hg
      have hdat : DxAll (fun _ => False) H11 [.ref p2, .ref p4] [txD (List.replicate 128 (5 : Int)), txD (List.replicate (127 + n) u)] :=
        .cons (.tup (s1 _ _ hA) (fun z => z) (ints_dx _)) (.cons (.tup (s1 _ _ hB) (fun z => z) (ints_dx _)) .nil)
      have hlen : (outL (mulS [x] 31 ++ [y]) [(kS x, .ref p2), (kS y, .ref p4)] [txD (List.replicate 128 (5 : Int)), txD (List.replicate (127 + n) u)]).length = 4095 + n := by
        rw [out_two hxy, List.length_append, hr1, hr2]
        omega
      have are := are_two (x := x) (y := y) (u := .ref p2) (v := .ref p4) hxy fives (okVal_tx (l := List.replicate (127 + n) u) (fun z => by rw [z] at hr2; simp at hr2; omega) (by omega) (fun m hm => by rw [(List.mem_replicate.mp hm).2]; omega))
      have dfit : ∀ e ∈ [txD (List.replicate 128 (5 : Int)), txD (List.replicate (127 + n) u)], FitV e := fun e he => by
        rcases (show e = txD (List.replicate 128 (5 : Int)) ∨ e = txD (List.replicate (127 + n) u) by simpa using he) with rfl | rfl
        · exact fit_txD (by rw [List.length_replicate]; decide) (fun m hm => by rw [(List.mem_replicate.mp hm).2]; decide)
        · exact fit_txD (by rw [List.length_replicate]; omega) (fun m hm => by rw [(List.mem_replicate.mp hm).2]; omega)
      have fit : Fit 8 60000 6 (.dict ((List.map (fun kv => keyD kv.1) [(kS x, V.ref p2), (kS y, .ref p4)]).zip [txD (List.replicate 128 (5 : Int)), txD (List.replicate (127 + n) u)])) := by
        refine (fit_dict (n := 9) (W := 3000) (D := 3) (fun k hk => ?_) dfit (by show 2 ≤ 9; decide)).mono (Nat.le_refl _) (by decide) (by decide)
        rcases (show k = keyD (kS x) ∨ k = keyD (kS y) by simpa using hk) with rfl | rfl
        · exact fit_kS (by omega)
        · exact fit_kS (by omega)
      generalize hO : outL (mulS [x] 31 ++ [y]) [(kS x, .ref p2), (kS y, .ref p4)] [txD (List.replicate 128 (5 : Int)), txD (List.replicate (127 + n) u)] = out at *
      refine ⟨_, rfl, [x], 31, rfl, rfl, by show 1 ≤ 100000; decide, by decide, _, rfl, tx (mulS [x] 31), ⟨#[y]⟩, rfl, rfl, by rw [tx_len, mulS_one, List.length_replicate]; show 31 + 1 ≤ sizeLine; decide, ?_⟩
      rw [tx_app1]
      refine ⟨_, rfl, mulS [x] 31 ++ [y], .ref g, fun _ => False, _, rfl, two_pat lx ly (by decide), .dct hg11 (fun z => z) hdat, fit, .inl ⟨g, _, _, rfl, hg11, hdat, dfit, fun _ hle H12 p12 s12 hp12 => ?_, fun _ hlt H12 p12 s12 hp12 => ?_, fun e => absurd (are.symm.trans e) (by decide)⟩⟩
      · rw [hO] at hle hp12
        refine ⟨_, rfl, _, rfl, p6, _, rfl, .inr (SqT.of (s12 _ _ hp6)), _, _, rfl, rfl, _, rfl, ?_⟩
        rw [decide_eq_true (show ((((out.map V.int).length : Nat) : Int) ≤ 4096) by rw [List.length_map]; omega)]
        refine iteT ⟨_, rfl, out.map V.int, out.map V.int, ⟨p12, p6, rfl, rfl, flat_ints _, flat_ints _, .inr ⟨SqT.of hp12, SqT.of (s12 _ _ hp6)⟩⟩, ?_⟩
        rw [eqLs_self (flat_ints _)]
        exact q _
      · rw [hO] at hlt
        refine ⟨_, rfl, _, rfl, p6, _, rfl, .inr (SqT.of (s12 _ _ hp6)), _, _, rfl, rfl, _, rfl, ?_⟩
        rw [decide_eq_false (show ¬ ((((out.map V.int).length : Nat) : Int) ≤ 4096) by rw [List.length_map]; omega)]
        refine iteF ⟨by show 3 ≤ sizeLine; decide, fun p13 n13 => ⟨saidLarge, saidLarge, ⟨p12, p13, rfl, rfl, flat_large, flat_large, .inl ⟨SqL.of (same_new n13 _ _ hp12), SqL.of upd_same⟩⟩, ?_⟩⟩
        rw [eqLs_self flat_large]
        exact q _
end
end Mo

namespace Mo
open PySem PySem.Spec PyProof.Rows L2
theorem txt_mk {K : PySem.W.Frag} {h : Heap} {mg : Str → Option Value} {fa : Addr} (X : K.In h) (G : h.Ns mainGlobals mg) (hfa : mg "law" = some (.ref fa))
    {cInvalidText : Addr} (eInvalidText : PySem.W.nsIn K mainGlobals "InvalidText" = some (some (.ref cInvalidText)))
    {cInvalidValues : Addr} (eInvalidValues : PySem.W.nsIn K mainGlobals "InvalidValues" = some (some (.ref cInvalidValues)))
    {cTooLarge : Addr} (eTooLarge : PySem.W.nsIn K mainGlobals "TooLarge" = some (some (.ref cTooLarge)))
    {nmInvalidValues qInvalidValues : Str} {NInvalidValues : Addr} {bsInvalidValues : List Value} {snInvalidValues : List Str} {subInvalidValues : List Value} {abInvalidValues : Bool} {colInvalidValues : Option Bool} {ddInvalidValues : Option Addr} {u0InvalidValues u1InvalidValues u2InvalidValues u3InvalidValues u5InvalidValues : Option Value}
    (xLInvalidValues : K.lookup cInvalidValues = some (excClassObj nmInvalidValues qInvalidValues cInvalidValues NInvalidValues bsInvalidValues [.type "ValueError", .type "Exception", .type "BaseException", .type "object"] true snInvalidValues subInvalidValues abInvalidValues colInvalidValues ddInvalidValues u0InvalidValues u1InvalidValues u2InvalidValues u3InvalidValues u5InvalidValues "ValueError.__new__"))
    (saInvalidValues : PySem.W.findIn K (.ref cInvalidValues) "__setattr__" = some (some (.builtin "object.__setattr__")))
    (gaInvalidValues : PySem.W.findIn K (.ref cInvalidValues) "__getattribute__" = some (some (.builtin "BaseException.__getattribute__")))
    (ggInvalidValues : PySem.W.findIn K (.ref cInvalidValues) "__getattr__" = some none)
    (nbInvalidValues : PySem.W.findIn K (.ref cInvalidValues) "value" = some none)
    (exInvalidValues : PySem.W.subIn K (.ref cInvalidValues) (.type "BaseException") = some true)
    (tyInvalidValues : PySem.W.typeIn K (.ref cInvalidValues) = some (.type "type"))
    (hdInvalidValues : PySem.W.hasDictIn K cInvalidValues = true)
    (kCInvalidValues : PySem.W.keepIn K (.ref cInvalidValues) = true)
    (sCInvalidValues : PySem.W.subIn K (.ref cInvalidValues) (.ref cInvalidValues) = some true)
    (caInvalidValues : PySem.W.findIn K (.ref cInvalidValues) "__class__" = some (some (.builtin "object.__class__")))
    (cnInvalidValues : PySem.W.specialIn K (.builtin "object.__class__") "__get__" = some (some (.builtin "getset_descriptor.__get__")))
    (ctInvalidValues : PySem.W.takesIn K (.builtin "object.__class__") = some true)
    (cmInvalidValues : PySem.W.mroIn K cInvalidValues (.type "object") = some true)
    {iInvalidValues : Addr} (iCInvalidValues : PySem.W.findIn K (.ref cInvalidValues) "__init__" = some (some (.ref iInvalidValues))) (tIInvalidValues : PySem.W.typeIn K (.ref iInvalidValues) = some (.type "function"))
    {iodInvalidValues ianInvalidValues : Option Addr} {islInvalidValues : Array (Option Value)} {iocInvalidValues ikVInvalidValues idcInvalidValues ipmInvalidValues icdInvalidValues ictInvalidValues : Value} (iLInvalidValues : K.lookup iInvalidValues = some ⟨iocInvalidValues, iodInvalidValues, .func (PySem.W.fnOf "__init__" "InvalidValues.__init__" (defArgs sInitInvalidValues) (defBody sInitInvalidValues) (defScope sInitInvalidValues) .none ikVInvalidValues idcInvalidValues ipmInvalidValues ianInvalidValues icdInvalidValues ictInvalidValues), islInvalidValues⟩) (iDInvalidValues : PySem.W.codeIn K icdInvalidValues "InvalidValues.__init__" = true) (iKInvalidValues : PySem.W.keepIn K (.ref iInvalidValues) = true)
    {nmTooLarge qTooLarge : Str} {NTooLarge : Addr} {bsTooLarge : List Value} {snTooLarge : List Str} {subTooLarge : List Value} {abTooLarge : Bool} {colTooLarge : Option Bool} {ddTooLarge : Option Addr} {u0TooLarge u1TooLarge u2TooLarge u3TooLarge u5TooLarge : Option Value}
    (xLTooLarge : K.lookup cTooLarge = some (excClassObj nmTooLarge qTooLarge cTooLarge NTooLarge bsTooLarge [.type "OverflowError", .type "ArithmeticError", .type "Exception", .type "BaseException", .type "object"] true snTooLarge subTooLarge abTooLarge colTooLarge ddTooLarge u0TooLarge u1TooLarge u2TooLarge u3TooLarge u5TooLarge "OverflowError.__new__"))
    (saTooLarge : PySem.W.findIn K (.ref cTooLarge) "__setattr__" = some (some (.builtin "object.__setattr__")))
    (gaTooLarge : PySem.W.findIn K (.ref cTooLarge) "__getattribute__" = some (some (.builtin "BaseException.__getattribute__")))
    (ggTooLarge : PySem.W.findIn K (.ref cTooLarge) "__getattr__" = some none)
    (nbTooLarge : PySem.W.findIn K (.ref cTooLarge) "limit" = some none)
    (exTooLarge : PySem.W.subIn K (.ref cTooLarge) (.type "BaseException") = some true)
    (tyTooLarge : PySem.W.typeIn K (.ref cTooLarge) = some (.type "type"))
    (hdTooLarge : PySem.W.hasDictIn K cTooLarge = true)
    (kCTooLarge : PySem.W.keepIn K (.ref cTooLarge) = true)
    (sCTooLarge : PySem.W.subIn K (.ref cTooLarge) (.ref cTooLarge) = some true)
    (caTooLarge : PySem.W.findIn K (.ref cTooLarge) "__class__" = some (some (.builtin "object.__class__")))
    (cnTooLarge : PySem.W.specialIn K (.builtin "object.__class__") "__get__" = some (some (.builtin "getset_descriptor.__get__")))
    (ctTooLarge : PySem.W.takesIn K (.builtin "object.__class__") = some true)
    (cmTooLarge : PySem.W.mroIn K cTooLarge (.type "object") = some true)
    {iTooLarge : Addr} (iCTooLarge : PySem.W.findIn K (.ref cTooLarge) "__init__" = some (some (.ref iTooLarge))) (tITooLarge : PySem.W.typeIn K (.ref iTooLarge) = some (.type "function"))
    {iodTooLarge ianTooLarge : Option Addr} {islTooLarge : Array (Option Value)} {iocTooLarge ikVTooLarge idcTooLarge ipmTooLarge icdTooLarge ictTooLarge : Value} (iLTooLarge : K.lookup iTooLarge = some ⟨iocTooLarge, iodTooLarge, .func (PySem.W.fnOf "__init__" "TooLarge.__init__" (defArgs sInitTooLarge) (defBody sInitTooLarge) (defScope sInitTooLarge) .none ikVTooLarge idcTooLarge ipmTooLarge ianTooLarge icdTooLarge ictTooLarge), islTooLarge⟩) (iDTooLarge : PySem.W.codeIn K icdTooLarge "TooLarge.__init__" = true) (iKTooLarge : PySem.W.keepIn K (.ref iTooLarge) = true)
    (suTooLargeInvalidValues : PySem.W.subIn K (.ref cTooLarge) (.ref cInvalidValues) = some false)
    (suInvalidValuesValueError : PySem.W.subIn K (.ref cInvalidValues) (.type "ValueError") = some true)
    (suInvalidValuesInvalidText : PySem.W.subIn K (.ref cInvalidValues) (.ref cInvalidText) = some false)
    (icInvalidText : PySem.W.isClsIn K cInvalidText = true)
    (itInvalidText : PySem.W.typeIn K (.ref cInvalidText) = some (.type "type"))
    (suTooLargeOverflowError : PySem.W.subIn K (.ref cTooLarge) (.type "OverflowError") = some true)
    {od0 an0 : Option Addr} {sl0 : Array (Option Value)} {oc0 kV0 dc0 pm0 cd0 ct0 : Value} {f0 : Addr}
    (a0 : PySem.W.nsIn K mainGlobals "is_pattern" = some (some (.ref f0))) (l0 : K.lookup f0 = some ⟨oc0, od0, .func (PySem.W.fnOf "is_pattern" "is_pattern" (defArgs sIsPattern) (defBody sIsPattern) (defScope sIsPattern) .none kV0 dc0 pm0 an0 cd0 ct0), sl0⟩) (c0 : PySem.W.codeIn K cd0 "is_pattern" = true) (k0 : PySem.W.keepIn K (.ref f0) = true)
    {od1 an1 : Option Addr} {sl1 : Array (Option Value)} {oc1 kV1 dc1 pm1 cd1 ct1 : Value} {f1 : Addr}
    (a1 : PySem.W.nsIn K mainGlobals "is_plain_integer" = some (some (.ref f1))) (l1 : K.lookup f1 = some ⟨oc1, od1, .func (PySem.W.fnOf "is_plain_integer" "is_plain_integer" (defArgs sIsPlainInteger) (defBody sIsPlainInteger) (defScope sIsPlainInteger) .none kV1 dc1 pm1 an1 cd1 ct1), sl1⟩) (c1 : PySem.W.codeIn K cd1 "is_plain_integer" = true) (k1 : PySem.W.keepIn K (.ref f1) = true)
    {od2 an2 : Option Addr} {sl2 : Array (Option Value)} {oc2 kV2 dc2 pm2 cd2 ct2 : Value} {f2 : Addr}
    (a2 : PySem.W.nsIn K mainGlobals "is_letter" = some (some (.ref f2))) (l2 : K.lookup f2 = some ⟨oc2, od2, .func (PySem.W.fnOf "is_letter" "is_letter" (defArgs sIsLetter) (defBody sIsLetter) (defScope sIsLetter) .none kV2 dc2 pm2 an2 cd2 ct2), sl2⟩) (c2 : PySem.W.codeIn K cd2 "is_letter" = true) (k2 : PySem.W.keepIn K (.ref f2) = true)
    {od3 an3 : Option Addr} {sl3 : Array (Option Value)} {oc3 kV3 dc3 pm3 cd3 ct3 : Value} {f3 : Addr}
    (a3 : PySem.W.nsIn K mainGlobals "is_text" = some (some (.ref f3))) (l3 : K.lookup f3 = some ⟨oc3, od3, .func (PySem.W.fnOf "is_text" "is_text" (defArgs sIsText) (defBody sIsText) (defScope sIsText) .none kV3 dc3 pm3 an3 cd3 ct3), sl3⟩) (c3 : PySem.W.codeIn K cd3 "is_text" = true) (k3 : PySem.W.keepIn K (.ref f3) = true)
    {od4 an4 : Option Addr} {sl4 : Array (Option Value)} {oc4 kV4 dc4 pm4 cd4 ct4 : Value} {f4 : Addr}
    (a4 : PySem.W.nsIn K mainGlobals "are_values" = some (some (.ref f4))) (l4 : K.lookup f4 = some ⟨oc4, od4, .func (PySem.W.fnOf "are_values" "are_values" (defArgs sAreValues) (defBody sAreValues) (defScope sAreValues) .none kV4 dc4 pm4 an4 cd4 ct4), sl4⟩) (c4 : PySem.W.codeIn K cd4 "are_values" = true) (k4 : PySem.W.keepIn K (.ref f4) = true)
    {od5 an5 : Option Addr} {sl5 : Array (Option Value)} {oc5 kV5 dc5 pm5 cd5 ct5 : Value} {f5 : Addr}
    (a5 : PySem.W.nsIn K mainGlobals "check_pattern" = some (some (.ref f5))) (l5 : K.lookup f5 = some ⟨oc5, od5, .func (PySem.W.fnOf "check_pattern" "check_pattern" (defArgs sCheckPattern) (defBody sCheckPattern) (defScope sCheckPattern) .none kV5 dc5 pm5 an5 cd5 ct5), sl5⟩) (c5 : PySem.W.codeIn K cd5 "check_pattern" = true) (k5 : PySem.W.keepIn K (.ref f5) = true)
    {od6 an6 : Option Addr} {sl6 : Array (Option Value)} {oc6 kV6 dc6 pm6 cd6 ct6 : Value} {f6 : Addr}
    (a6 : PySem.W.nsIn K mainGlobals "variables" = some (some (.ref f6))) (l6 : K.lookup f6 = some ⟨oc6, od6, .func (PySem.W.fnOf "variables" "variables" (defArgs sVariables) (defBody sVariables) (defScope sVariables) .none kV6 dc6 pm6 an6 cd6 ct6), sl6⟩) (c6 : PySem.W.codeIn K cd6 "variables" = true) (k6 : PySem.W.keepIn K (.ref f6) = true)
    {od7 an7 : Option Addr} {sl7 : Array (Option Value)} {oc7 kV7 dc7 pm7 cd7 ct7 : Value} {f7 : Addr}
    (a7 : PySem.W.nsIn K mainGlobals "substitute" = some (some (.ref f7))) (l7 : K.lookup f7 = some ⟨oc7, od7, .func (PySem.W.fnOf "substitute" "substitute" (defArgs sSubstitute) (defBody sSubstitute) (defScope sSubstitute) .none kV7 dc7 pm7 an7 cd7 ct7), sl7⟩) (c7 : PySem.W.codeIn K cd7 "substitute" = true) (k7 : PySem.W.keepIn K (.ref f7) = true)
    {od8 an8 : Option Addr} {sl8 : Array (Option Value)} {oc8 kV8 dc8 pm8 cd8 ct8 : Value} {f8 : Addr}
    (a8 : PySem.W.nsIn K mainGlobals "_law_pen" = some (some (.ref f8))) (l8 : K.lookup f8 = some ⟨oc8, od8, .func (PySem.W.fnOf "_law_pen" "_law_pen" (defArgs sLPen) (defBody sLPen) (defScope sLPen) .none kV8 dc8 pm8 an8 cd8 ct8), sl8⟩) (c8 : PySem.W.codeIn K cd8 "_law_pen" = true) (k8 : PySem.W.keepIn K (.ref f8) = true)
    {od9 an9 : Option Addr} {sl9 : Array (Option Value)} {oc9 kV9 dc9 pm9 cd9 ct9 : Value} {f9 : Addr}
    (a9 : PySem.W.nsIn K mainGlobals "_law_draw" = some (some (.ref f9))) (l9 : K.lookup f9 = some ⟨oc9, od9, .func (PySem.W.fnOf "_law_draw" "_law_draw" (defArgs sLDraw) (defBody sLDraw) (defScope sLDraw) .none kV9 dc9 pm9 an9 cd9 ct9), sl9⟩) (c9 : PySem.W.codeIn K cd9 "_law_draw" = true) (k9 : PySem.W.keepIn K (.ref f9) = true)
    {od10 an10 : Option Addr} {sl10 : Array (Option Value)} {oc10 kV10 dc10 pm10 cd10 ct10 : Value} {f10 : Addr}
    (a10 : PySem.W.nsIn K mainGlobals "_law_pick" = some (some (.ref f10))) (l10 : K.lookup f10 = some ⟨oc10, od10, .func (PySem.W.fnOf "_law_pick" "_law_pick" (defArgs sLPick) (defBody sLPick) (defScope sLPick) .none kV10 dc10 pm10 an10 cd10 ct10), sl10⟩) (c10 : PySem.W.codeIn K cd10 "_law_pick" = true) (k10 : PySem.W.keepIn K (.ref f10) = true)
    {od11 an11 : Option Addr} {sl11 : Array (Option Value)} {oc11 kV11 dc11 pm11 cd11 ct11 : Value} {f11 : Addr}
    (a11 : PySem.W.nsIn K mainGlobals "_law_names" = some (some (.ref f11))) (l11 : K.lookup f11 = some ⟨oc11, od11, .func (PySem.W.fnOf "_law_names" "_law_names" (defArgs sLNames) (defBody sLNames) (defScope sLNames) .none kV11 dc11 pm11 an11 cd11 ct11), sl11⟩) (c11 : PySem.W.codeIn K cd11 "_law_names" = true) (k11 : PySem.W.keepIn K (.ref f11) = true)
    {od12 an12 : Option Addr} {sl12 : Array (Option Value)} {oc12 kV12 dc12 pm12 cd12 ct12 : Value} {f12 : Addr}
    (a12 : PySem.W.nsIn K mainGlobals "_law_nested" = some (some (.ref f12))) (l12 : K.lookup f12 = some ⟨oc12, od12, .func (PySem.W.fnOf "_law_nested" "_law_nested" (defArgs sLNested) (defBody sLNested) (defScope sLNested) .none kV12 dc12 pm12 an12 cd12 ct12), sl12⟩) (c12 : PySem.W.codeIn K cd12 "_law_nested" = true) (k12 : PySem.W.keepIn K (.ref f12) = true)
    {od13 an13 : Option Addr} {sl13 : Array (Option Value)} {oc13 kV13 dc13 pm13 cd13 ct13 : Value} {f13 : Addr}
    (a13 : PySem.W.nsIn K mainGlobals "_law_pattern" = some (some (.ref f13))) (l13 : K.lookup f13 = some ⟨oc13, od13, .func (PySem.W.fnOf "_law_pattern" "_law_pattern" (defArgs sLPattern) (defBody sLPattern) (defScope sLPattern) .none kV13 dc13 pm13 an13 cd13 ct13), sl13⟩) (c13 : PySem.W.codeIn K cd13 "_law_pattern" = true) (k13 : PySem.W.keepIn K (.ref f13) = true)
    {od14 an14 : Option Addr} {sl14 : Array (Option Value)} {oc14 kV14 dc14 pm14 cd14 ct14 : Value} {f14 : Addr}
    (a14 : PySem.W.nsIn K mainGlobals "_law_order" = some (some (.ref f14))) (l14 : K.lookup f14 = some ⟨oc14, od14, .func (PySem.W.fnOf "_law_order" "_law_order" (defArgs sLOrder) (defBody sLOrder) (defScope sLOrder) .none kV14 dc14 pm14 an14 cd14 ct14), sl14⟩) (c14 : PySem.W.codeIn K cd14 "_law_order" = true) (k14 : PySem.W.keepIn K (.ref f14) = true)
    {od15 an15 : Option Addr} {sl15 : Array (Option Value)} {oc15 kV15 dc15 pm15 cd15 ct15 : Value} {f15 : Addr}
    (a15 : PySem.W.nsIn K mainGlobals "_law_filled" = some (some (.ref f15))) (l15 : K.lookup f15 = some ⟨oc15, od15, .func (PySem.W.fnOf "_law_filled" "_law_filled" (defArgs sLFilled) (defBody sLFilled) (defScope sLFilled) .none kV15 dc15 pm15 an15 cd15 ct15), sl15⟩) (c15 : PySem.W.codeIn K cd15 "_law_filled" = true) (k15 : PySem.W.keepIn K (.ref f15) = true)
    {od16 an16 : Option Addr} {sl16 : Array (Option Value)} {oc16 kV16 dc16 pm16 cd16 ct16 : Value} {f16 : Addr}
    (a16 : PySem.W.nsIn K mainGlobals "_law_shuffled" = some (some (.ref f16))) (l16 : K.lookup f16 = some ⟨oc16, od16, .func (PySem.W.fnOf "_law_shuffled" "_law_shuffled" (defArgs sLShuffled) (defBody sLShuffled) (defScope sLShuffled) .none kV16 dc16 pm16 an16 cd16 ct16), sl16⟩) (c16 : PySem.W.codeIn K cd16 "_law_shuffled" = true) (k16 : PySem.W.keepIn K (.ref f16) = true)
    {od17 an17 : Option Addr} {sl17 : Array (Option Value)} {oc17 kV17 dc17 pm17 cd17 ct17 : Value} {f17 : Addr}
    (a17 : PySem.W.nsIn K mainGlobals "_law_values" = some (some (.ref f17))) (l17 : K.lookup f17 = some ⟨oc17, od17, .func (PySem.W.fnOf "_law_values" "_law_values" (defArgs sLValues) (defBody sLValues) (defScope sLValues) .none kV17 dc17 pm17 an17 cd17 ct17), sl17⟩) (c17 : PySem.W.codeIn K cd17 "_law_values" = true) (k17 : PySem.W.keepIn K (.ref f17) = true)
    {od18 an18 : Option Addr} {sl18 : Array (Option Value)} {oc18 kV18 dc18 pm18 cd18 ct18 : Value} {f18 : Addr}
    (a18 : PySem.W.nsIn K mainGlobals "_law_spoilt" = some (some (.ref f18))) (l18 : K.lookup f18 = some ⟨oc18, od18, .func (PySem.W.fnOf "_law_spoilt" "_law_spoilt" (defArgs sLSpoilt) (defBody sLSpoilt) (defScope sLSpoilt) .none kV18 dc18 pm18 an18 cd18 ct18), sl18⟩) (c18 : PySem.W.codeIn K cd18 "_law_spoilt" = true) (k18 : PySem.W.keepIn K (.ref f18) = true)
    {od19 an19 : Option Addr} {sl19 : Array (Option Value)} {oc19 kV19 dc19 pm19 cd19 ct19 : Value} {f19 : Addr}
    (a19 : PySem.W.nsIn K mainGlobals "_law_told" = some (some (.ref f19))) (l19 : K.lookup f19 = some ⟨oc19, od19, .func (PySem.W.fnOf "_law_told" "_law_told" (defArgs sLTold) (defBody sLTold) (defScope sLTold) .none kV19 dc19 pm19 an19 cd19 ct19), sl19⟩) (c19 : PySem.W.codeIn K cd19 "_law_told" = true) (k19 : PySem.W.keepIn K (.ref f19) = true)
    {od20 an20 : Option Addr} {sl20 : Array (Option Value)} {oc20 kV20 dc20 pm20 cd20 ct20 : Value} {f20 : Addr}
    (a20 : PySem.W.nsIn K mainGlobals "law" = some (some (.ref f20))) (l20 : K.lookup f20 = some ⟨oc20, od20, .func (PySem.W.fnOf "law" "law" (defArgs sLaw) (defBody sLaw) (defScope sLaw) .none kV20 dc20 pm20 an20 cd20 ct20), sl20⟩) (c20 : PySem.W.codeIn K cd20 "law" = true) (k20 : PySem.W.keepIn K (.ref f20) = true)
    {t_VARIABLES : Tok} (z_VARIABLES : PySem.W.nsIn K mainGlobals "VARIABLES" = some (some (.str "abcdefghijklmnopqrstuvwxyz" t_VARIABLES)))
    {t_LONGEST_PATTERN : Tok} (z_LONGEST_PATTERN : PySem.W.nsIn K mainGlobals "LONGEST_PATTERN" = some (some (.int 40 t_LONGEST_PATTERN)))
    {t_MOST_VARIABLES : Tok} (z_MOST_VARIABLES : PySem.W.nsIn K mainGlobals "MOST_VARIABLES" = some (some (.int 8 t_MOST_VARIABLES)))
    {t_LONGEST_TEXT : Tok} (z_LONGEST_TEXT : PySem.W.nsIn K mainGlobals "LONGEST_TEXT" = some (some (.int 4096 t_LONGEST_TEXT)))
    {t_GREATEST_LETTER : Tok} (z_GREATEST_LETTER : PySem.W.nsIn K mainGlobals "GREATEST_LETTER" = some (some (.int 999999 t_GREATEST_LETTER)))
    (z_all : PySem.W.nsIn K mainGlobals "all" = some none)
    (z_len : PySem.W.nsIn K mainGlobals "len" = some none)
    (z_set : PySem.W.nsIn K mainGlobals "set" = some none)
    (z_isinstance : PySem.W.nsIn K mainGlobals "isinstance" = some none)
    (z_str : PySem.W.nsIn K mainGlobals "str" = some none)
    (z_bool : PySem.W.nsIn K mainGlobals "bool" = some none)
    (z_int : PySem.W.nsIn K mainGlobals "int" = some none)
    (z_tuple : PySem.W.nsIn K mainGlobals "tuple" = some none)
    (z_dict : PySem.W.nsIn K mainGlobals "dict" = some none)
    (z_enumerate : PySem.W.nsIn K mainGlobals "enumerate" = some none)
    (z_sum : PySem.W.nsIn K mainGlobals "sum" = some none)
    (z_list : PySem.W.nsIn K mainGlobals "list" = some none)
    (z_abs : PySem.W.nsIn K mainGlobals "abs" = some none)
    (z_range : PySem.W.nsIn K mainGlobals "range" = some none)
    (z_OverflowError : PySem.W.nsIn K mainGlobals "OverflowError" = some none)
    (z_ValueError : PySem.W.nsIn K mainGlobals "ValueError" = some none)
    (z_repr : PySem.W.nsIn K mainGlobals "repr" = some none) :
    ∃ T : Txt K mg, T.aLaw = fa ∧ ∀ (s : Shared) (v : Value), BindsTo s T.dLaw ⟨[v], []⟩ [("_law_script", v)] := by
  have e := hfa.symm.trans (PySem.W.mg_of X G a20)
  cases e
  have F0 := fun_mk (st := sIsPattern) l0 c0 k0
  have F1 := fun_mk (st := sIsPlainInteger) l1 c1 k1
  have F2 := fun_mk (st := sIsLetter) l2 c2 k2
  have F3 := fun_mk (st := sIsText) l3 c3 k3
  have F4 := fun_mk (st := sAreValues) l4 c4 k4
  have F5 := fun_mk (st := sCheckPattern) l5 c5 k5
  have F6 := fun_mk (st := sVariables) l6 c6 k6
  have F7 := fun_mk (st := sSubstitute) l7 c7 k7
  have F8 := fun_mk (st := sLPen) l8 c8 k8
  have F9 := fun_mk (st := sLDraw) l9 c9 k9
  have F10 := fun_mk (st := sLPick) l10 c10 k10
  have F11 := fun_mk (st := sLNames) l11 c11 k11
  have F12 := fun_mk (st := sLNested) l12 c12 k12
  have F13 := fun_mk (st := sLPattern) l13 c13 k13
  have F14 := fun_mk (st := sLOrder) l14 c14 k14
  have F15 := fun_mk (st := sLFilled) l15 c15 k15
  have F16 := fun_mk (st := sLShuffled) l16 c16 k16
  have F17 := fun_mk (st := sLValues) l17 c17 k17
  have F18 := fun_mk (st := sLSpoilt) l18 c18 k18
  have F19 := fun_mk (st := sLTold) l19 c19 k19
  have F20 := fun_mk (st := sLaw) l20 c20 k20
  have FIInvalidValues := fun_mk (st := sInitInvalidValues) iLInvalidValues iDInvalidValues iKInvalidValues
  have FITooLarge := fun_mk (st := sInitTooLarge) iLTooLarge iDTooLarge iKTooLarge
  exact ⟨⟨_, PySem.W.mg_of X G eInvalidText, _, PySem.W.mg_of X G eInvalidValues, _, PySem.W.mg_of X G eTooLarge, _, _, FIInvalidValues, FIInvalidValues.binds (ps := ["self", "value"]) fun _ _ _ _ _ _ us hl => match us, hl with | [_, _], _ => rfl, ⟨⟨⟨_, _, _, _, _, _, _, _, _, _, _, _, _, _, _, xLInvalidValues, by decide +kernel⟩, saInvalidValues, exInvalidValues, tyInvalidValues, kCInvalidValues⟩, ⟨gaInvalidValues, ggInvalidValues, exInvalidValues, hdInvalidValues⟩, ⟨gaInvalidValues, ggInvalidValues, exInvalidValues, hdInvalidValues, caInvalidValues, cnInvalidValues, ctInvalidValues, cmInvalidValues⟩, nbInvalidValues, PySem.W.exm_ref exInvalidValues hdInvalidValues tyInvalidValues sCInvalidValues, iCInvalidValues, tIInvalidValues⟩, _, _, FITooLarge, FITooLarge.binds (ps := ["self", "limit"]) fun _ _ _ _ _ _ us hl => match us, hl with | [_, _], _ => rfl, ⟨⟨⟨_, _, _, _, _, _, _, _, _, _, _, _, _, _, _, xLTooLarge, by decide +kernel⟩, PySem.F.excBase_OverflowError, by decide +kernel, fun self => by kernel_rfl, saTooLarge, exTooLarge, tyTooLarge, kCTooLarge⟩, ⟨gaTooLarge, ggTooLarge, exTooLarge, hdTooLarge⟩, ⟨gaTooLarge, ggTooLarge, exTooLarge, hdTooLarge, caTooLarge, cnTooLarge, ctTooLarge, cmTooLarge⟩, nbTooLarge, PySem.W.exm_ref exTooLarge hdTooLarge tyTooLarge sCTooLarge, iCTooLarge, tITooLarge⟩, PySem.W.exm_ref exInvalidValues hdInvalidValues tyInvalidValues suTooLargeInvalidValues, kit1_type suInvalidValuesValueError (by decide +kernel), kit1_ref suInvalidValuesInvalidText sCInvalidValues icInvalidText itInvalidText, kit1_type suTooLargeOverflowError (by decide +kernel), _, _, F0, F0.binds (ps := ["value"]) fun _ _ _ _ _ _ us hl => match us, hl with | [_], _ => rfl, PySem.W.mg_of X G a0, _, _, F1, F1.binds (ps := ["value"]) fun _ _ _ _ _ _ us hl => match us, hl with | [_], _ => rfl, PySem.W.mg_of X G a1, _, _, F2, F2.binds (ps := ["value"]) fun _ _ _ _ _ _ us hl => match us, hl with | [_], _ => rfl, PySem.W.mg_of X G a2, _, _, F3, F3.binds (ps := ["value"]) fun _ _ _ _ _ _ us hl => match us, hl with | [_], _ => rfl, PySem.W.mg_of X G a3, _, _, F4, F4.binds (ps := ["pattern", "value"]) fun _ _ _ _ _ _ us hl => match us, hl with | [_, _], _ => rfl, PySem.W.mg_of X G a4, _, _, F5, F5.binds (ps := ["value"]) fun _ _ _ _ _ _ us hl => match us, hl with | [_], _ => rfl, PySem.W.mg_of X G a5, _, _, F6, F6.binds (ps := ["pattern"]) fun _ _ _ _ _ _ us hl => match us, hl with | [_], _ => rfl, PySem.W.mg_of X G a6, _, _, F7, F7.binds (ps := ["pattern", "values"]) fun _ _ _ _ _ _ us hl => match us, hl with | [_, _], _ => rfl, PySem.W.mg_of X G a7, _, _, F8, F8.binds (ps := ["_law_script"]) fun _ _ _ _ _ _ us hl => match us, hl with | [_], _ => rfl, PySem.W.mg_of X G a8, _, _, F9, F9.binds (ps := ["_law_pen_here", "_law_size"]) fun _ _ _ _ _ _ us hl => match us, hl with | [_, _], _ => rfl, PySem.W.mg_of X G a9, _, _, F10, F10.binds (ps := ["_law_pen_here", "_law_options"]) fun _ _ _ _ _ _ us hl => match us, hl with | [_, _], _ => rfl, PySem.W.mg_of X G a10, _, _, F11, F11.binds (ps := ["_law_pen_here", "_law_count"]) fun _ _ _ _ _ _ us hl => match us, hl with | [_, _], _ => rfl, PySem.W.mg_of X G a11, _, _, F12, F12.binds (ps := ["_law_names_here"]) fun _ _ _ _ _ _ us hl => match us, hl with | [_], _ => rfl, PySem.W.mg_of X G a12, _, _, F13, F13.binds (ps := ["_law_pen_here", "_law_size", "_law_count"]) fun _ _ _ _ _ _ us hl => match us, hl with | [_, _, _], _ => rfl, PySem.W.mg_of X G a13, _, _, F14, F14.binds (ps := ["_law_pattern_here"]) fun _ _ _ _ _ _ us hl => match us, hl with | [_], _ => rfl, PySem.W.mg_of X G a14, _, _, F15, F15.binds (ps := ["_law_pattern_here", "_law_values_here"]) fun _ _ _ _ _ _ us hl => match us, hl with | [_, _], _ => rfl, PySem.W.mg_of X G a15, _, _, F16, F16.binds (ps := ["_law_pen_here", "_law_some"]) fun _ _ _ _ _ _ us hl => match us, hl with | [_, _], _ => rfl, PySem.W.mg_of X G a16, _, _, F17, F17.binds (ps := ["_law_pen_here", "_law_pattern_here"]) fun _ _ _ _ _ _ us hl => match us, hl with | [_, _], _ => rfl, PySem.W.mg_of X G a17, _, _, F18, F18.binds (ps := ["_law_pen_here", "_law_values_here"]) fun _ _ _ _ _ _ us hl => match us, hl with | [_, _], _ => rfl, PySem.W.mg_of X G a18, _, _, F19, F19.binds (ps := ["_law_pattern_here", "_law_values_here"]) fun _ _ _ _ _ _ us hl => match us, hl with | [_, _], _ => rfl, PySem.W.mg_of X G a19, _, _, F20, F20.binds (ps := ["_law_script"]) fun _ _ _ _ _ _ us hl => match us, hl with | [_], _ => rfl, PySem.W.mg_of X G a20, _, PySem.W.mg_of X G z_VARIABLES, _, PySem.W.mg_of X G z_LONGEST_PATTERN, _, PySem.W.mg_of X G z_MOST_VARIABLES, _, PySem.W.mg_of X G z_LONGEST_TEXT, _, PySem.W.mg_of X G z_GREATEST_LETTER, PySem.W.mg_none_of X G z_all, PySem.W.mg_none_of X G z_len, PySem.W.mg_none_of X G z_set, PySem.W.mg_none_of X G z_isinstance, PySem.W.mg_none_of X G z_str, PySem.W.mg_none_of X G z_bool, PySem.W.mg_none_of X G z_int, PySem.W.mg_none_of X G z_tuple, PySem.W.mg_none_of X G z_dict, PySem.W.mg_none_of X G z_enumerate, PySem.W.mg_none_of X G z_sum, PySem.W.mg_none_of X G z_list, PySem.W.mg_none_of X G z_abs, PySem.W.mg_none_of X G z_range, PySem.W.mg_none_of X G z_OverflowError, PySem.W.mg_none_of X G z_ValueError, PySem.W.mg_none_of X G z_repr⟩, rfl, fun s v => .of_eq rfl⟩
theorem all_mk {l : PySem.W.OpenLaw} {w : World} {K : PySem.W.Frag} {mg : Str → Option Value} {fa : Addr} (hT : ∃ T : Txt K mg, T.aLaw = fa ∧ ∀ (s : Shared) (v : Value), BindsTo s T.dLaw ⟨[v], []⟩ [("_law_script", v)]) :
    ∃ fd : FuncData, (∀ (s : Shared) (v : Value), BindsTo s fd ⟨[v], []⟩ [("_law_script", v)]) ∧ ∀ base : Heap, K.In base → base.Ns mainGlobals mg → (∃ mm, base.Ns sysModules mm) → FnG l.prog w K mg base CX0 8 fa fd ["_law_script"] (spLaw K) := by
  obtain ⟨T, rfl, hb⟩ := hT
  exact ⟨T.dLaw, hb, fun base _ _ hm => ok_law (k := 1) T hm⟩
end Mo
open PySem PySem.W PyProof.Rows
set_option maxHeartbeats 0 in
theorem PySem.Challenge.cw_mustoccur_k04_substitution_holds : PySem.Challenge.rw_mustoccur_k04_substitution.Holds := by
  w_on; o_law; k_head; (case hw => w_witness2)
  k_fill
  refine Mo.walkM (l := PySem.Challenge.rw_mustoccur_k04_substitution) (n := 63) (k := 8) (x := "_law_script") (CX := fun _ => L2.CX0) (sp := fun w => Mo.spLaw _) rfl (by decide) rfl ⟨rfl, by decide, by decide⟩ (fun w h Y => PySem.W.kIn_of Y) (by decide +kernel) ?F (fun _ _ a ns hl _ hS => ⟨a, ns, rfl, hS, hl, fun _ => rfl⟩) (fun _ _ _ _ _ h => h)
  case F =>
    intro w mg fa h KX G hmg
    refine Mo.all_mk ?_
    refine' Mo.txt_mk KX G hmg ?eInvalidText ?eInvalidValues ?eTooLarge ?xLInvalidValues ?saInvalidValues ?gaInvalidValues ?ggInvalidValues ?nbInvalidValues ?exInvalidValues ?tyInvalidValues ?hdInvalidValues ?kCInvalidValues ?sCInvalidValues ?caInvalidValues ?cnInvalidValues ?ctInvalidValues ?cmInvalidValues ?iCInvalidValues ?tIInvalidValues ?iLInvalidValues ?iDInvalidValues ?iKInvalidValues ?xLTooLarge ?saTooLarge ?gaTooLarge ?ggTooLarge ?nbTooLarge ?exTooLarge ?tyTooLarge ?hdTooLarge ?kCTooLarge ?sCTooLarge ?caTooLarge ?cnTooLarge ?ctTooLarge ?cmTooLarge ?iCTooLarge ?tITooLarge ?iLTooLarge ?iDTooLarge ?iKTooLarge ?suTooLargeInvalidValues ?suInvalidValuesValueError ?suInvalidValuesInvalidText ?icInvalidText ?itInvalidText ?suTooLargeOverflowError ?a0 ?l0 ?c0 ?k0 ?a1 ?l1 ?c1 ?k1 ?a2 ?l2 ?c2 ?k2 ?a3 ?l3 ?c3 ?k3 ?a4 ?l4 ?c4 ?k4 ?a5 ?l5 ?c5 ?k5 ?a6 ?l6 ?c6 ?k6 ?a7 ?l7 ?c7 ?k7 ?a8 ?l8 ?c8 ?k8 ?a9 ?l9 ?c9 ?k9 ?a10 ?l10 ?c10 ?k10 ?a11 ?l11 ?c11 ?k11 ?a12 ?l12 ?c12 ?k12 ?a13 ?l13 ?c13 ?k13 ?a14 ?l14 ?c14 ?k14 ?a15 ?l15 ?c15 ?k15 ?a16 ?l16 ?c16 ?k16 ?a17 ?l17 ?c17 ?k17 ?a18 ?l18 ?c18 ?k18 ?a19 ?l19 ?c19 ?k19 ?a20 ?l20 ?c20 ?k20 ?z_VARIABLES ?z_LONGEST_PATTERN ?z_MOST_VARIABLES ?z_LONGEST_TEXT ?z_GREATEST_LETTER ?z_all ?z_len ?z_set ?z_isinstance ?z_str ?z_bool ?z_int ?z_tuple ?z_dict ?z_enumerate ?z_sum ?z_list ?z_abs ?z_range ?z_OverflowError ?z_ValueError ?z_repr
    (case eInvalidText => k_is); (case eInvalidValues => k_is); (case eTooLarge => k_is); (case xLInvalidValues => k_is); (case saInvalidValues => k_is); (case gaInvalidValues => k_is); (case ggInvalidValues => k_is); (case nbInvalidValues => k_is); (case exInvalidValues => k_is); (case tyInvalidValues => k_is); (case hdInvalidValues => k_is); (case kCInvalidValues => k_is); (case sCInvalidValues => k_is); (case caInvalidValues => k_is); (case cnInvalidValues => k_is); (case ctInvalidValues => k_is); (case cmInvalidValues => k_is); (case iCInvalidValues => k_is); (case tIInvalidValues => k_is); (case iLInvalidValues => k_is); (case iDInvalidValues => k_is); (case iKInvalidValues => k_is); (case xLTooLarge => k_is); (case saTooLarge => k_is); (case gaTooLarge => k_is); (case ggTooLarge => k_is); (case nbTooLarge => k_is); (case exTooLarge => k_is); (case tyTooLarge => k_is); (case hdTooLarge => k_is); (case kCTooLarge => k_is); (case sCTooLarge => k_is); (case caTooLarge => k_is); (case cnTooLarge => k_is); (case ctTooLarge => k_is); (case cmTooLarge => k_is); (case iCTooLarge => k_is); (case tITooLarge => k_is); (case iLTooLarge => k_is); (case iDTooLarge => k_is); (case iKTooLarge => k_is); (case suTooLargeInvalidValues => k_is); (case suInvalidValuesValueError => k_is); (case suInvalidValuesInvalidText => k_is); (case icInvalidText => k_is); (case itInvalidText => k_is); (case suTooLargeOverflowError => k_is); (case a0 => k_is); (case l0 => k_is); (case c0 => k_is); (case k0 => k_is); (case a1 => k_is); (case l1 => k_is); (case c1 => k_is); (case k1 => k_is); (case a2 => k_is); (case l2 => k_is); (case c2 => k_is); (case k2 => k_is); (case a3 => k_is); (case l3 => k_is); (case c3 => k_is); (case k3 => k_is); (case a4 => k_is); (case l4 => k_is); (case c4 => k_is); (case k4 => k_is); (case a5 => k_is); (case l5 => k_is); (case c5 => k_is); (case k5 => k_is); (case a6 => k_is); (case l6 => k_is); (case c6 => k_is); (case k6 => k_is); (case a7 => k_is); (case l7 => k_is); (case c7 => k_is); (case k7 => k_is); (case a8 => k_is); (case l8 => k_is); (case c8 => k_is); (case k8 => k_is); (case a9 => k_is); (case l9 => k_is); (case c9 => k_is); (case k9 => k_is); (case a10 => k_is); (case l10 => k_is); (case c10 => k_is); (case k10 => k_is); (case a11 => k_is); (case l11 => k_is); (case c11 => k_is); (case k11 => k_is); (case a12 => k_is); (case l12 => k_is); (case c12 => k_is); (case k12 => k_is); (case a13 => k_is); (case l13 => k_is); (case c13 => k_is); (case k13 => k_is); (case a14 => k_is); (case l14 => k_is); (case c14 => k_is); (case k14 => k_is); (case a15 => k_is); (case l15 => k_is); (case c15 => k_is); (case k15 => k_is); (case a16 => k_is); (case l16 => k_is); (case c16 => k_is); (case k16 => k_is); (case a17 => k_is); (case l17 => k_is); (case c17 => k_is); (case k17 => k_is); (case a18 => k_is); (case l18 => k_is); (case c18 => k_is); (case k18 => k_is); (case a19 => k_is); (case l19 => k_is); (case c19 => k_is); (case k19 => k_is); (case a20 => k_is); (case l20 => k_is); (case c20 => k_is); (case k20 => k_is); (case z_VARIABLES => k_is); (case z_LONGEST_PATTERN => k_is); (case z_MOST_VARIABLES => k_is); (case z_LONGEST_TEXT => k_is); (case z_GREATEST_LETTER => k_is); (case z_all => k_is); (case z_len => k_is); (case z_set => k_is); (case z_isinstance => k_is); (case z_str => k_is); (case z_bool => k_is); (case z_int => k_is); (case z_tuple => k_is); (case z_dict => k_is); (case z_enumerate => k_is); (case z_sum => k_is); (case z_list => k_is); (case z_abs => k_is); (case z_range => k_is); (case z_OverflowError => k_is); (case z_ValueError => k_is); (case z_repr => k_is)
