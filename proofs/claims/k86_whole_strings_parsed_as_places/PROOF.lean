import PyProof.Rows.All
import Wide.All
import OpenK.AllK
import Wide.FinOn
import HandS.ForMost
import HandS.SetKeys
import HandS.Walk
import HandS.Style
import HandS.SetFor
import HandS.IsInst
import HandS.Wide
import PyProof.Draws
import PyProof.EnumMake
import HandS.Replace
import HandS.Exc
import HandS.WordsExc
import HandS.ExcInit
import HandS.ExcField
import HandS.ExcIs
import HandS.TryOnly
import HandS.CallSlots
import HandS.ExcOwn
import PyProof.ReprRoads
import HandS.Ends
import HandS.EndOwn
import HandS.TupAny
import HandS.TupMul
import PyProof.TupleOfStr
import PyProof.NeKinds
import PyProof.EqAt
import PyProof.ReprBulk
import PyProof.Rows.StrBin
import PyProof.Rows.ReprOcc
import PyProof.ReprLen
import HandS.Codes
import HandS.RaiseMore
import HandS.Evl
import KE.KExcInit
import PyProof.ExcBaseAll.OverflowError
import HandS.TryMany
import HandS.DictEq
import HandS.DictComp
import PyProof.ListStr
import HandS.WordsDict
import KE.KEqSeq
import PySem.Challenge.RW_mustoccur_k86_whole_strings_parsed_as_pl
set_option Elab.async false
set_option linter.all false
set_option maxRecDepth 100000
set_option maxHeartbeats 8000000
/-! Rules that the laws of this program want and the layer lacks: repr and reversal of a text, enumerate of a text, the set of a text's signs and its size. -/
namespace Mo
open PySem PySem.Spec PyProof.Rows L2
/-! ### signs met, in the order of first occurrence -/
def metStep (acc : List Nat) (c : Nat) : List Nat := if c ∈ acc then acc else acc ++ [c]
def met (cs : List Nat) : List Nat := cs.foldl metStep []
theorem met_snoc (cs : List Nat) (c : Nat) : met (cs ++ [c]) = metStep (met cs) c := by
  unfold met
  rw [List.foldl_append]
  rfl
theorem mem_metStep {acc : List Nat} {c d : Nat} : d ∈ metStep acc c ↔ d ∈ acc ∨ d = c := by
  unfold metStep
  by_cases h : c ∈ acc
  · rw [if_pos h]
    constructor
    · exact Or.inl
    · rintro (q | q)
      · exact q
      · rw [q]; exact h
  · rw [if_neg h, List.mem_append, List.mem_singleton]
theorem mem_fold : ∀ (cs acc : List Nat) (d : Nat), d ∈ cs.foldl metStep acc ↔ d ∈ acc ∨ d ∈ cs
  | [], acc, d => by simp
  | c :: cs, acc, d => by
    rw [List.foldl_cons, mem_fold cs (metStep acc c) d, mem_metStep, List.mem_cons, or_assoc]
theorem mem_met {cs : List Nat} {d : Nat} : d ∈ met cs ↔ d ∈ cs := by
  unfold met
  rw [mem_fold]
  simp
theorem metStep_length (acc : List Nat) (c : Nat) : (metStep acc c).length = if c ∈ acc then acc.length else acc.length + 1 := by
  unfold metStep
  split <;> simp
theorem metStep_nodup {acc : List Nat} (h : acc.Nodup) (c : Nat) : (metStep acc c).Nodup := by
  unfold metStep
  by_cases q : c ∈ acc
  · rw [if_pos q]; exact h
  · rw [if_neg q]
    exact List.nodup_append.mpr ⟨h, by simp, by rintro a ha b hb rfl; exact q (by rw [← List.mem_singleton.mp hb]; exact ha)⟩
theorem fold_nodup : ∀ (cs acc : List Nat), acc.Nodup → (cs.foldl metStep acc).Nodup
  | [], _, h => h
  | c :: cs, _, h => fold_nodup cs _ (metStep_nodup h c)
theorem met_nodup (cs : List Nat) : (met cs).Nodup := fold_nodup cs [] List.nodup_nil
theorem met_length_le : ∀ cs : List Nat, (met cs).length ≤ cs.length := fun cs => by
  have key : ∀ (cs acc : List Nat), (cs.foldl metStep acc).length ≤ acc.length + cs.length := by
    intro cs
    induction cs with
    | nil => intro acc; simp
    | cons c cs ih =>
      intro acc
      rw [List.foldl_cons]
      have h1 := ih (metStep acc c)
      have h2 := metStep_length acc c
      rw [List.length_cons]
      split at h2 <;> omega
  have h := key cs []
  simpa [met] using h
/-- the keys that are signs of cs -/
def inS (cs : List Nat) (k : Key) : Bool := cs.any fun c => decide (k = Sum.inr (⟨#[c]⟩ : Str))
theorem sign_inj {c d : Nat} (h : (⟨#[c]⟩ : Str) = ⟨#[d]⟩) : c = d := by
  injection h with h
  simpa using h
theorem inS_sign (cs : List Nat) (c : Nat) : inS cs (Sum.inr ⟨#[c]⟩) = decide (c ∈ cs) := by
  unfold inS
  by_cases h : c ∈ cs
  · rw [decide_eq_true h]
    exact List.any_eq_true.mpr ⟨c, h, decide_eq_true rfl⟩
  · rw [decide_eq_false h]
    cases q : cs.any fun d => decide ((Sum.inr ⟨#[c]⟩ : Key) = Sum.inr ⟨#[d]⟩) with
    | false => rfl
    | true =>
      obtain ⟨d, hd, e⟩ := List.any_eq_true.mp q
      exact absurd (by rw [sign_inj (Sum.inr.inj (of_decide_eq_true e))]; exact hd) h
section
variable {P : Program} {w : World} {A : Around} {E : Value → Shared → Prop} {s : Shared}
theorem signs_loop {I : Addr} {fp wr : List Addr} {G : Array GenState → Array GenState → Prop} {n : Nat} {Pv : Nat → Value → Prop} {St : Nat → Shared → Prop} {R : Result → Shared → Prop}
    (W : WalksS P w A.in1 I fp wr G n Pv St) (D : Addr) (hD : D ∉ fp) (cs : List Nat) (hn : n = cs.length) (hb : cs.length + 1 < scanBound)
    (hval : ∀ i v, Pv i v → ∃ c t, cs[i]? = some c ∧ v = .str ⟨#[c]⟩ t) :
    ∀ (k i : Nat) (s : Shared), n - i = k → i ≤ n → St i s → s.heap.SetOf (mixKind P w) D (inS (cs.take i)) (met (cs.take i)).length →
      (∀ s', Moved (D :: wr) G s s' → s'.heap.SetOf (mixKind P w) D (inS cs) (met cs).length → R (.ok (.ret .none)) s') →
      codeAny (model P w) A (.builtin "set.update.loop" ⟨[.ref D, .ref I], []⟩) R s := by
  have hDw : D ∉ wr := fun h => hD (W.sub _ h)
  have up : ∀ b ∈ wr, b ∈ D :: wr := fun b q => List.mem_cons_of_mem _ q
  intro k
  induction k with
  | zero =>
    intro i s hk hi hst hS hR
    obtain rfl : i = n := by omega
    refine codeAny_builtin PyProof.Rows.F.entry_set_update_loop (by
      rw [Around.under_plainId PyProof.Rows.F.plain_set_update_loop _]
      show wpAny _ A.in1 (pyNext (.ref I) >>= _) _ _ s
      refine wpAny_bind (W.done s _ _ hst fun s' hm => wpAny_pure (hR s' (hm.mono up) ?_))
      rw [List.take_of_length_le (by omega)] at hS
      obtain ⟨o, es, ep, t, ho, rest⟩ := hS
      exact ⟨o, es, ep, t, hm.heap D _ hDw ho, rest⟩)
  | succ k ih =>
    intro i s hk hi hst hS hR
    have hlt : i < n := by omega
    refine codeAny_builtin PyProof.Rows.F.entry_set_update_loop (by
      rw [Around.under_plainId PyProof.Rows.F.plain_set_update_loop _]
      show wpAny _ A.in1 (pyNext (.ref I) >>= _) _ _ s
      refine wpAny_bind (W.item i s _ _ hlt hst fun v s' hP hst' hm => ?_)
      obtain ⟨c, t, hc, rfl⟩ := hval i v hP
      have hS' : s'.heap.SetOf (mixKind P w) D (inS (cs.take i)) (met (cs.take i)).length := by
        obtain ⟨o, es, ep, tb, ho, rest⟩ := hS
        exact ⟨o, es, ep, tb, hm.heap D _ hDw ho, rest⟩
      show wpAny _ A.in1 (holding [Value.str ⟨#[c]⟩ t] (setAdd D (.str ⟨#[c]⟩ t)) >>= _) _ _ s'
      refine wpAny_bind (wpAny_holding (by
        unfold setAdd
        refine wpAny_holding (wpAny_bind ((mixKind P w).pyHash (k := Sum.inr ⟨#[c]⟩) (mixKind_str _ _ _ _) ?_))
        have room : (met (cs.take i)).length + 1 < scanBound := by
          have h1 := met_length_le (cs.take i)
          rw [List.length_take] at h1
          omega
        refine wpAny_setAddHashed_of (knd := mixKind P w) (s := { s' with toks := s'.toks + 1 }) (mixKind_str _ _ _ _) rfl hS' room fun h' hsb hS2 => ?_
        have e3 : cs.take (i + 1) = cs.take i ++ [c] := by
          rw [List.take_add_one, hc]
          rfl
        have hS3 : h'.SetOf (mixKind P w) D (inS (cs.take (i + 1))) (met (cs.take (i + 1))).length := by
          have f1 : (fun k' => inS (cs.take i) k' || decide (k' = Sum.inr (⟨#[c]⟩ : Str))) = inS (cs.take (i + 1)) := by
            funext k'
            rw [e3]
            unfold inS
            rw [List.any_append]
            simp
          have f2 : (if inS (cs.take i) (Sum.inr ⟨#[c]⟩) = true then (met (cs.take i)).length else (met (cs.take i)).length + 1) = (met (cs.take (i + 1))).length := by
            rw [e3, met_snoc, metStep_length, inS_sign]
            by_cases q : c ∈ cs.take i
            · rw [if_pos (decide_eq_true q), if_pos (mem_met.mpr q)]
            · rw [if_neg (by rw [decide_eq_false q]; exact Bool.false_ne_true), if_neg (fun z => q (mem_met.mp z))]
          rw [← f1, ← f2]
          exact hS2
        refine wpAny_pure ⟨plainId_quiet PyProof.Rows.F.plain_set_update_loop _, ih (i + 1) _ (by omega) hlt (W.frame _ s' _ _ hst' (Nat.le_succ _) fun b q o e => ?_) hS3 fun s2 hm2 hS4 => ?_⟩
        · rw [hsb.2 b (fun z : b = D => hD (by rw [← z]; exact q))]
          exact e
        · refine hR s2 (Moved.trans W.gtrans ((hm.mono up).then_heap (Nat.le_succ _) fun b o q e => ?_) hm2) hS4
          rw [hsb.2 b (fun z : b = D => q (by rw [z]; exact List.mem_cons_self))]
          exact e)))

set_option maxHeartbeats 8000000 in
/-- set(a text) -/
theorem call_set_signs {z : Str} {t : Tok} {Q : Value → Shared → Prop} (hh : A.handled = none) (hb : z.cps.size + 1 < scanBound)
    (h : ∀ (h' : Heap) (tk : Nat), h'.SetOf (mixKind P w) s.heap.objs.size (inS z.cps.toList) (met z.cps.toList).length → (∀ b o, s.heap.get? b = some o → h'.get? b = some o) → Q (.ref s.heap.objs.size) { s with heap := h', toks := tk }) :
    wpAny (model P w) A (call (.type "set") [.str z t]) Q E s := by
  obtain ⟨c, tl, hmro⟩ := PySem.F.called_set.mro
  have hmade := PySem.F.called_set.made; have hsub := PySem.F.called_set.sub
  refine wpAny_call (codeAny_of_tree (by
    show wpAny _ _ (callAny (.type "set") _) _ _ _
    refine wpAny_pure ⟨Code.quiet_builtin _ (by decide +kernel), codeAny_builtin PySem.F.entry_type_call ?_⟩
    rw [Around.under_plain (weight_type_call_type "set" [.str z t] []) rfl]
    have h1 := PySem.F.called_set.notType; have h2 := PySem.F.called_set.canCreate
    have hct := PySem.F.typeCall_set_1 (.str z t)
    repeat (any_goals (first | assumption | wp_step))
    refine codeAny_mono (code_set_new_1 (.str z t) (E := E) (Q₁ := fun obj s₁ => ∃ led : Bool, obj = .ref s.heap.objs.size ∧ s₁ = { s with heap := s.heap.push { cls := .type "set", dict := none, data := .set #[] 0 (.fresh 0 0 led) } }) fun led => ⟨led, rfl, rfl⟩) fun r s₁ hr => ?_
    cases r with
    | error e => exact hr
    | ok fl =>
      cases fl with
      | ret obj =>
        obtain ⟨led, rfl, rfl⟩ := hr
        generalize hNew : ({ cls := .type "set", dict := none, data := .set #[] 0 (.fresh 0 0 led) } : Obj) = nw
        have hfr : ∀ (h : Heap) (a : Addr), h.get? a = some nw → h.SetOf (mixKind P w) a (inS []) (met []).length := by
          intro h a e
          rw [← hNew] at e
          exact ⟨_, #[], 0, _, e, ⟨rfl, rfl, rfl⟩, rfl, (fun e he => by simp at he), (fun k => by simp [inS]), (by decide), (by rfl), rfl⟩
        have hcls : nw.cls = .type "set" := by rw [← hNew]
        have hnf : nw.isFreed = false := by rw [← hNew]; rfl
        have hS : (s.heap.push nw).get? s.heap.objs.size = some nw := Heap.get?_push_size _ hnf
        have hT : Shared.TypeIs { s with heap := s.heap.push nw } (.ref s.heap.objs.size) "set" := ⟨_, hS, hcls⟩
        have hli := PySem.F.called_set.init.lookup; have hbi := PySem.F.called_set.init.bind (.ref s.heap.objs.size)
        repeat (any_goals (first | assumption | wp_step))
        refine codeAny_mono (codeAny_call_builtin (R := wants (fun r s₂ => r = .none ∧ ∃ h' tk, s₂ = { s with heap := h', toks := tk } ∧ h'.SetOf (mixKind P w) s.heap.objs.size (inS z.cps.toList) (met z.cps.toList).length ∧
          (∀ b o, s.heap.get? b = some o → h'.get? b = some o)) E) PySem.F.called_set.init.plain PySem.F.entry_set_init (check_set_init_1 hT ?_)) fun r₂ s₂ hr₂ => ?_
        · subst hNew
          have n1 : isSubtype (.type "str") (.type "set") = pure false := by rw [isSubtype_type]; kernel_rfl
          have n2 : isSubtype (.type "str") (.type "frozenset") = pure false := by rw [isSubtype_type]; kernel_rfl
          have n3 : (Value.type "str" == Value.type "dict") = false := by decide
          unfold Builtin.«set.__init__» noKeywords Builtin.Frozenset.updateFrom
          generalize hPI : pyIter = PI
          wp_walk
          subst hPI
          have hh3 : A.in1.in1.in1.handled = none := by simp [hh]
          generalize hNew : ({ cls := .type "set", data := .set #[] 0 (.fresh 0 0 led) } : Obj) = nw at *
          have hz1 : (s.heap.push nw).objs.size = s.heap.objs.size + 1 := Heap.size_push ..
          have fin : ∀ (ty : String) (wk : Walks P w A.in1.in1.in1 (s.heap.push nw).objs.size [(s.heap.push nw).objs.size] [(s.heap.push nw).objs.size] z.cps.size (SignAt z) (fun i h => h.IsStrIter (s.heap.push nw).objs.size ty z t i))
              (Rk : Result → Shared → Prop), (∀ h' tk, h'.SetOf (mixKind P w) s.heap.objs.size (inS z.cps.toList) (met z.cps.toList).length → (∀ b o, s.heap.get? b = some o → h'.get? b = some o) → Rk (.ok (.ret .none)) { s with heap := h', toks := tk }) →
              codeAny (model P w) A.in1.in1 (.builtin "set.update.loop" ⟨[.ref s.heap.objs.size, .ref (s.heap.push nw).objs.size], []⟩) Rk
                { s with heap := (s.heap.push nw).push { cls := .type ty, data := .fields #[.str z t, .int 0 0] } } := by
            intro ty wk Rk hR
            refine signs_loop (wk.toS) s.heap.objs.size (by rw [hz1]; simp) z.cps.toList (by simp) (by simpa using hb) (fun i v hv => ?_) (z.cps.size - 0) 0 _ (by omega) (Nat.zero_le _) ⟨_, Heap.get?_push_size _ rfl, rfl, rfl⟩ ?_ ?_
            · obtain ⟨c, u, hc, rfl⟩ := hv
              exact ⟨c, u, by rw [Array.getElem?_toList]; exact hc, rfl⟩
            · exact hfr _ _ (Heap.get?_push_of_some _ hS)
            · intro s' hm hS'
              obtain ⟨h', g', d', tk', os'⟩ := s'
              obtain rfl : g' = s.gens := hm.gens
              obtain rfl : d' = s.drawn := hm.drawn
              obtain rfl : os' = s.os := hm.os
              refine hR h' tk' hS' fun b o e => ?_
              have hb0 : b < s.heap.objs.size := Heap.lt_size e
              have n1 : b ∉ s.heap.objs.size :: [(s.heap.push nw).objs.size] := by
                rw [hz1]
                intro q
                rcases List.mem_cons.mp q with q | q
                · exact Nat.ne_of_lt hb0 q
                · exact Nat.ne_of_lt (Nat.lt_succ_of_lt hb0) (List.mem_singleton.mp q)
              exact hm.heap b o n1 (Heap.get?_push_of_some _ (Heap.get?_push_of_some _ e))
          cases ha : z.cps.all (· < 128)
          · refine wpAny_pyIter_wide ha (wpAny_bind (wpAny_runValue (fin _ (Walks.strWide hh3 _ z t) _ fun h' tk hS2 hk2 => wpAny_pure ?_)))
            exact wpAny_pure ⟨rfl, h', tk, rfl, hS2, hk2⟩
          · refine wpAny_pyIter_ascii ha (wpAny_bind (wpAny_runValue (fin _ (Walks.strAscii hh3 _ z t) _ fun h' tk hS2 hk2 => wpAny_pure ?_)))
            exact wpAny_pure ⟨rfl, h', tk, rfl, hS2, hk2⟩
        · cases r₂ with
          | error e => exact hr₂
          | ok fl₂ =>
            cases fl₂ with
            | ret r =>
              obtain ⟨rfl, h', tk, rfl, hS', hk'⟩ := hr₂
              repeat (any_goals (first | assumption | wp_step))
              exact h _ _ hS' hk'
            | _ => exact hr₂.elim
      | _ => exact hr.elim))
end
end Mo

namespace Mo
open PySem PySem.Spec PyProof.Rows L2
/-! ### the rules over the layer -/
section
variable {X : Cx}
def rSetS (P : Program) (w : World) : List V → Hp → VK → Prop := fun xs H Q => ∃ z : Str, xs = [.str z] ∧ z.cps.size ≤ 4000 ∧ ∀ p, H p = none → Q (.ref p) (upd H p (SetK P w p (inS z.cps.toList) (met z.cps.toList).length))
/-- set(z), z a text -/
theorem cr_setS (hc : X.calm = true) : CallR X (.type "set") (rSetS X.prog X.w) := by
  intro pins s σ H xs us Q I r h
  obtain ⟨z, rfl, hz, q⟩ := h
  obtain ⟨u, rfl, t, rfl⟩ := vals1 r
  refine call_set_signs (I.ok.hd hc) (by unfold scanBound; omega) fun h' tk hS hk => ?_
  exact ⟨.ref _, _, I.laid (t' := tk) hk (Nat.le_refl _) (setK_new hS), rfl, q _ (I.hok.fresh (Nat.le_refl _))⟩
def rLenK (P : Program) (w : World) : List V → Hp → VK → Prop := fun xs H Q => ∃ a S n, xs = [V.ref a] ∧ H a = some (SetK P w a S n) ∧ (n : Int) < 2 ^ 62 ∧ Q (.int (n : Nat)) H
/-- len(a set) -/
theorem cr_lenK : CallR X (.builtin "len") (rLenK X.prog X.w) := by
  intro pins s σ H xs us Q I r h
  obtain ⟨a, S, n, rfl, ha, hn, q⟩ := h
  obtain ⟨u, rfl, ru⟩ := vals1 r
  cases ru
  obtain ⟨o, es, ep, t, ho, hex, hd, _, _, _, hf, hes⟩ := setK_get I ha
  refine call_len_set ho hex hd hf (by rw [hes]; omega) ⟨.int (n : Nat), H, I.tok _, ⟨_, by rw [hes]⟩, q⟩
/-- repr(z), z a text -/
theorem cr_reprS : CallR X (.builtin "repr") (fun xs H Q => ∃ z : Str, xs = [.str z] ∧ (reprText z).length ≤ sizeLine ∧ Q (.str (reprText z)) H) := by
  intro pins s σ H xs us Q I r h
  obtain ⟨z, rfl, hz, q⟩ := h
  obtain ⟨u, rfl, t, rfl⟩ := vals1 r
  exact PySem.P.repr_of_str ⟨.str _, H, I.tok _, ⟨_, rfl⟩, q⟩ hz
/-! rules within a comprehension's block: the written part named, so that the reading is the same in every block -/
def rLenSq (K : PySem.W.Frag) : List V → Hp → VK → Prop := fun xs H Q => ∃ p ys, xs = [.ref p] ∧ (SqL K H p ys ∨ SqT K H p ys) ∧ Q (.int ys.length) H
theorem call_len_seqK {K : PySem.W.Frag} (h : X.K = K) : CallR X (.builtin "len") (rLenSq K) := by
  subst h
  exact call_len_seq
theorem ix_listK {K : PySem.W.Frag} (h : X.K = K) : IxR X (rIxL K) := by
  subst h
  exact ix_list
theorem op_notIn_seqK {K : PySem.W.Frag} (h : X.K = K) : OpR X (compareOp .NotIn) (rIn K true) := by
  subst h
  exact op_notIn_seq
theorem op_in_seqK {K : PySem.W.Frag} (h : X.K = K) : OpR X (compareOp .In) (rIn K false) := by
  subst h
  exact op_in_seq
theorem pg_tupK {K : PySem.W.Frag} {es : List Expr} {t : TGs} {k n : Nat} {pos : Pos} (h : X.K = K) (hc : X.calm = true) (hs : PGs X es t)
    (hn : (assignEach es X.env).length = n := by rfl) (hst : (assignEach es X.env).findIdx? (·.1) = none := by rfl) : PG X (.Tuple es k pos) (gTup K n t) := by
  subst h
  exact pg_tup hc hs hn hst
/-- z[::-1], z a text -/
def revS (z : Str) : Str := ⟨z.cps.toList.reverse.toArray⟩
def tRevS (te : TE) : TE := fun σ H Q => te σ H fun x H1 => ∃ z, x = .str z ∧ z.length ≤ sizeLine ∧ Q (.str (revS z)) H1
theorem back_idx (n : Nat) : Builtin.Str.strSliceIndices none none (-1) n = (List.range n).reverse := by
  show sliceRange ((n : Int) - 1) (-1) (-1) = _
  rw [PySem.W.krv_sliceRange, PySem.W.krv_range]
theorem back_pick (z : Str) : ((Builtin.Str.strSliceIndices none none (-1) z.length).filterMap (z.cps[·]?)).toArray = z.cps.toList.reverse.toArray := by
  rw [back_idx, List.filterMap_reverse]
  show ((List.range z.cps.size).filterMap (z.cps[·]?)).reverse.toArray = _
  rw [PySem.W.krv_all]
theorem pe_revS {e : Expr} {te : TE} {k : Nat} {p1 p2 p3 pos : Pos} (he : PE X e te) : PE X (.Subscript e (.Slice none none (some (.UnaryOp .USub (.Constant (.int 1) k p1) p2)) p3) pos) (tRevS te) := by
  refine ⟨fun pins s σ H Q I h => ?_⟩
  refine Subscript_ (thn (he.run pins s σ H _ I h) fun v s1 ⟨x, H1, I1, r1, z, ez, hz, q⟩ => ?_)
  subst ez
  obtain ⟨t, rfl⟩ := r1
  have hst : PO X (some (.UnaryOp .USub (.Constant (.int 1) k p1) p2)) (tPart (tUn (rU fun i => .int (-i)) (tC (.int 1)))) := po_some (pe_un un_neg pe_int)
  refine wpAny_Slice (thn (po_none.run pins s1 σ H1 (fun o H2 => o = none ∧ H2 = H1) I1 ⟨rfl, rfl⟩) fun vl s2 ⟨l, H2, I2, pl, el, e2⟩ => ?_)
  subst el e2
  refine thn (po_none.run pins s2 σ H2 (fun o H3 => o = none ∧ H3 = H2) I2 ⟨rfl, rfl⟩) fun vu s3 ⟨u, H3, I3, pu, eu, e3⟩ => ?_
  subst eu e3
  refine thn (hst.run pins s3 σ H3 (fun o H4 => o = some (-1) ∧ H4 = H3) I3 ⟨1, rfl, -1, rfl, rfl, rfl⟩) fun vs s4 ⟨o, H4, I4, ps, eo, e4⟩ => ?_
  subst eo e4
  have I5 : Inv X pins σ H4 { s4 with heap := s4.heap.push { cls := .type "slice", data := .fields #[vl, vu, vs] } } := I4.kept (t' := s4.toks) fun b ob q => Heap.get?_push_of_some _ q
  obtain ⟨l, rfl, el⟩ := IsPart.raw pl
  obtain ⟨u, rfl, eu⟩ := IsPart.raw pu
  obtain ⟨sp, rfl, es⟩ := IsPart.raw ps
  show wpAny (model X.prog X.w) X.A (subscriptTail e (.Slice none none (some (.UnaryOp .USub (.Constant (.int 1) k p1) p2)) p3) (.str z t) (.ref s4.heap.objs.size)) (EP X pins σ Q) X.xe { s4 with heap := s4.heap.push { cls := .type "slice", data := .fields #[partValue l, partValue u, partValue sp] } }
  refine tail_any (ops := [.str z t, .ref s4.heap.objs.size]) (typeIs_str _ _ _) (F.slot_str_getitem.lookup) ?_ (by with_unfolding_all rfl)
  refine wpAny_getItem_str_slice (l := l) (u := u) (st := sp) ⟨_, Heap.get?_push_size _ rfl, rfl, rfl⟩ (by rw [es]; rfl) ?_
  unfold sliceMade slicePicked
  rw [el, eu, es]
  show Made.post (Made.str ⟨((Builtin.Str.strSliceIndices none none (-1) z.length).filterMap (z.cps[·]?)).toArray⟩) (EP X pins σ Q) _
  rw [back_pick]
  refine ⟨?_, .str (revS z), H4, I5.tok _, ⟨_, rfl⟩, q⟩
  show (z.cps.toList.reverse.toArray).size ≤ sizeLine
  rw [List.size_toArray, List.length_reverse, Array.length_toList]
  exact hz
/-! ### enumerate(z), z a text -/
def IteS (z : Str) : It := ⟨fun i _ => i < z.cps.size, fun i H v H' => ∃ T c, v = .ref T ∧ H T = none ∧ z.cps[i]? = some c ∧ H' = upd H T (.tup [.int (i : Nat), .str ⟨#[c]⟩]), fun i _ => z.cps.size ≤ i⟩
theorem strIter_kind (z : Str) : strIterType z = "str_ascii_iterator" ∨ strIterType z = "str_iterator" := by
  unfold strIterType
  split
  · exact .inl rfl
  · exact .inr rfl
theorem draws_str {P : Program} {w : World} {A : Around} (hh : A.handled = none) (it : Addr) (z : Str) (t : Tok) :
    Draws P w A it [it] z.cps.size (fun i v => ∃ c u, z.cps[i]? = some c ∧ v = .str ⟨#[c]⟩ u) (fun i h => h.IsStrIter it (strIterType z) z t i) := by
  rcases strIter_kind z with e | e
  · rw [e]; exact Draws.strAscii hh it z t
  · rw [e]; exact Draws.strWide hh it z t
theorem turn_enumS {P : Program} {w : World} {K : PySem.W.Frag} {elts : List Expr} {kk : Nat} {tpos : Pos} (z : Str) (t : Tok) (e it : Addr) :
    Turn P w K (.Tuple elts kk tpos) (IteS z) [e, it] e (fun i h => (∃ old, IsEnum h e it ((i : Nat) : Int) old) ∧ h.IsStrIter it (strIterType z) z t i ∧ e ≠ it ∧ i ≤ z.cps.size) where
  mem := by simp
  obj := fun i h st b hb => by
    obtain ⟨⟨old, he⟩, ⟨o, ho, hc, hd⟩, _⟩ := st
    rcases (by simpa using hb : b = e ∨ b = it) with q | q
    · rw [q]; exact ⟨_, he, fun v q => nomatch q⟩
    · rw [q]; exact ⟨o, ho, fun v q => by rw [hd] at q; cases q⟩
  keep := fun i h h' st k => let ⟨⟨old, he⟩, ⟨o, ho, r⟩, hne⟩ := st; ⟨⟨old, k e (by simp) _ he⟩, ⟨o, k it (by simp) o ho, r⟩, hne⟩
  item := by
    intro X hP hw hK hc i pins s σ H E I hf st hg
    subst hP hw hK
    obtain ⟨⟨old, he⟩, hit, hne, hle⟩ := st
    have hi : i < z.cps.size := hg
    have hel : e < s.heap.objs.size := Heap.lt_size he
    have hil : it < s.heap.objs.size := by obtain ⟨_, q, _⟩ := hit; exact Heap.lt_size q
    have hh : X.A.in1.handled = none := by simpa using I.ok.hd hc
    refine wpAny_pyNext_enum_itemD (draws_str hh it z t) he hit hi hne (by simpa using hne) fun x h' tk hP ho hit' hT hsz hk => ?_
    obtain ⟨c, u, hcx, rfl⟩ := hP
    refine ⟨_, rfl, wpAny_letOwnedTupleGo_enum (s := { s with heap := h', toks := tk + 1 }) ho fun h2 he' sb => ?_⟩
    have hT2 := (sb.2 _ (Nat.ne_of_gt hel)).trans hT
    have new : ObjOk X.prog X.w (upd H s.heap.objs.size (.tup [.int (i : Nat), .str ⟨#[c]⟩])) h2 s.heap.objs.size (.tup [.int (i : Nat), .str ⟨#[c]⟩]) :=
      ⟨by show 2 ≤ sizeLine; decide, [.int i tk, .str ⟨#[c]⟩ u], .cons ⟨_, rfl⟩ (.cons ⟨_, rfl⟩ .nil), ⟨_, hT2, rfl, _, rfl⟩⟩
    have I1 : Inv X pins σ (upd H s.heap.objs.size (.tup [.int (i : Nat), .str ⟨#[c]⟩])) { s with heap := h2, toks := tk + 1 } :=
      I.turnedNew (ch := [e, it]) (fun b ob hb q => (sb.2 b (fun z => hb (by simp [z]))).trans (hk b ob (fun z => hb (by simp [z])) (fun z => hb (by simp [z])) q)) hf (Nat.le_refl _) new
    obtain ⟨oi, hoi, r⟩ := hit'
    refine ⟨.ref s.heap.objs.size, _, I1, rfl, ⟨_, c, rfl, I.hok.fresh (Nat.le_refl _), hcx, rfl⟩, ⟨⟨.str ⟨#[c]⟩ u, ?_⟩, ⟨oi, (sb.2 it (Ne.symm hne)).trans hoi, r⟩, hne, hi⟩, fun b hb => ?_⟩
    · have e1 : ((i + 1 : Nat) : Int) = (i : Int) + 1 := by omega
      rw [e1]; exact he'
    · have hb' : b < s.heap.objs.size := by
        rcases (by simpa using hb : b = e ∨ b = it) with q | q
        · rw [q]; exact hel
        · rw [q]; exact hil
      rw [upd_ne (Nat.ne_of_lt hb')]
      exact (hf b hb).1
  done := by
    intro X hP hw hK hc i pins s σ H E I hf st hg
    subst hP hw hK
    obtain ⟨⟨old, he⟩, hit, hne, hle⟩ := st
    have hi : i = z.cps.size := Nat.le_antisymm hle hg
    subst hi
    obtain ⟨f0, f1, f2, f3, f4, f5⟩ := hf it (by simp)
    have hh : X.A.in1.handled = none := by simpa using I.ok.hd hc
    exact wpAny_pyNext_enum_endD (draws_str hh it z t) he hit fun h' eb => ⟨rfl, I.turned (t' := s.toks) (fun b o hb q => eb b o hb q) f0 f1 f3 f4 f5⟩
  self := fun A i s Q E st h => let ⟨⟨_, he⟩, _⟩ := st; wpAny_pyIter_enum he h
def iEnumS (ta : TA) : TI := fun σ H R => ta σ H fun vs H1 => ∃ z : Str, vs = [.str z] ∧ R (IteS z) H1
theorem pi_enumS {e : Expr} {ta : TA} {p pos tpos : Pos} {elts : List Expr} {kk : Nat} (hg : Gl X "enumerate") (hm : X.mg "enumerate" = none) (ha : PA X [e] ta) (hs : starEach [e] X.env = [(false, eval e X.env)] := by rfl) :
    PI X (.Tuple elts kk tpos) (.Call (.Name "enumerate" p) [e] [] pos) (iEnumS ta) := by
  refine ⟨fun pins s σ H R I h => ?_⟩
  refine Call_ (ld_blt I hg hm boot_enumerate (PyProof.Rows.callWith_type1 (thn (ha.run pos pins s σ H _ I h) fun us s1 ⟨vs, H1, I1, r1, q1⟩ => ?_) hs rfl))
  obtain ⟨z, rfl, q⟩ := q1
  obtain ⟨u, rfl, t, rfl⟩ := vals1 r1
  refine call_enumerate_str fun h' he hit hsz hk => wpAny_pyIter_enum he ?_
  have I2 : Inv X pins σ H1 { s1 with heap := h' } := I1.kept (t' := s1.toks) hk
  refine ⟨s1.heap.objs.size + 1, [s1.heap.objs.size + 1, s1.heap.objs.size], _, _, H1, rfl, I2, turn_enumS z t (s1.heap.objs.size + 1) s1.heap.objs.size, ⟨⟨.none, he⟩, hit, Nat.succ_ne_self _, Nat.zero_le _⟩, fun b hb => ?_, q⟩
  have hle : s1.heap.objs.size ≤ b := by
    rcases (by simpa using hb : b = s1.heap.objs.size + 1 ∨ b = s1.heap.objs.size) with q | q
    · rw [q]; exact Nat.le_add_right _ _
    · rw [q]; exact Nat.le_refl _
  exact I1.fpOk hle (I1.hok.fresh hle)
theorem walk_enumS {z : Str} : Walk (IteS z) z.cps.size (fun _ => True) (YPair (fun i => some (.int (i : Nat))) (fun i => z.cps[i]?.map fun c => .str ⟨#[c]⟩)) :=
  ⟨fun _ _ hi _ => hi, fun _ _ => Nat.le_refl _, fun i H v H' _ _ ⟨T, c, h1, h2, h3, h4⟩ => ⟨T, .int (i : Nat), .str ⟨#[c]⟩, h1, h2, h4, rfl, by show Option.map _ z.cps[i]? = _; rw [h3]; rfl⟩⟩
end
end Mo

namespace Mo
open PySem PySem.Spec PyProof.Rows L2
/-! ### texts as lists of codes -/
def tx (cs : List Nat) : Str := ⟨cs.toArray⟩
abbrev sg (c : Nat) : V := .str ⟨#[c]⟩
theorem tx_eta (z : Str) : tx z.cps.toList = z := rfl
theorem tx_list (cs : List Nat) : (tx cs).cps.toList = cs := rfl
theorem tx_len (cs : List Nat) : (tx cs).length = cs.length := by show cs.toArray.size = _; simp
theorem tx_size (cs : List Nat) : (tx cs).cps.size = cs.length := by show cs.toArray.size = _; simp
theorem tx_inj {a b : List Nat} (h : tx a = tx b) : a = b := by
  have q := congrArg (fun z : Str => z.cps.toList) h
  exact q
theorem tx_app (a b : List Nat) : tx a ++ tx b = tx (a ++ b) := by
  show (⟨a.toArray ++ b.toArray⟩ : Str) = ⟨(a ++ b).toArray⟩
  simp
theorem tx_app1 (a : List Nat) (c : Nat) : tx a ++ (⟨#[c]⟩ : Str) = tx (a ++ [c]) := tx_app a [c]
theorem tx_get {cs : List Nat} {i : Nat} : (tx cs).cps[i]? = cs[i]? := by
  show cs.toArray[i]? = cs[i]?
  simp
theorem fits5 {n : Nat} (h : n ≤ 100000) : n ≤ sizeLine := Nat.le_trans h (by decide)
theorem fitsLt {n : Nat} (h : n ≤ 100000) : n < sizeLine := Nat.lt_of_le_of_lt h (by decide)
/-- small letters alone -/
def Low (cs : List Nat) : Prop := ∀ c ∈ cs, 97 ≤ c ∧ c ≤ 122
theorem tx_nil : Str.ofString "" = tx [] := by decide +kernel
theorem join_signs : ∀ cs : List Nat, Txt.join (Str.ofString "") (cs.map fun c => (⟨#[c]⟩ : Str)) = tx cs := by
  have key : ∀ cs : List Nat, Str.join (tx []) (cs.map fun c => (⟨#[c]⟩ : Str)) = tx cs := by
    intro cs
    induction cs with
    | nil => rfl
    | cons c r ih =>
      cases r with
      | nil => rfl
      | cons e r =>
        show (⟨#[c]⟩ : Str) ++ tx [] ++ Str.join (tx []) ((e :: r).map fun c => (⟨#[c]⟩ : Str)) = tx (c :: e :: r)
        rw [ih]
        show tx [c] ++ tx [] ++ tx (e :: r) = _
        rw [tx_app, tx_app]
        rfl
  intro cs
  show Builtin.Str.glued _ _ = _
  rw [StrLaws.glued_eq_join, tx_nil]
  exact key cs
/-! ### the pen -/
def penD (c : Addr) (t r : Int) : List (Key × V) := [(.inr "cells", .ref c), (.inr "turn", .int t), (.inr "rest", .int r)]
theorem k_ct : ¬ ((Sum.inr "cells" : Key) = (Sum.inr "turn" : Key)) := by decide +kernel
theorem k_cr : ¬ ((Sum.inr "cells" : Key) = (Sum.inr "rest" : Key)) := by decide +kernel
theorem k_tr : ¬ ((Sum.inr "turn" : Key) = (Sum.inr "rest" : Key)) := by decide +kernel
theorem pen_cells (c : Addr) (t r : Int) : valV (penD c t r) (Sum.inr "cells") = some (.ref c) := valV_pos rfl
theorem pen_turn (c : Addr) (t r : Int) : valV (penD c t r) (Sum.inr "turn") = some (.int t) := by
  unfold penD
  rw [valV_neg k_ct, valV_pos rfl]
theorem pen_rest (c : Addr) (t r : Int) : valV (penD c t r) (Sum.inr "rest") = some (.int r) := by
  unfold penD
  rw [valV_neg k_cr, valV_neg k_tr, valV_pos rfl]
theorem put_turn (c : Addr) (t r u : Int) : putK (penD c t r) (Sum.inr "turn") (.int u) = penD c u r := by
  unfold putK penD
  have k1 := k_ct
  have k2 : ¬ ((Sum.inr "rest" : Key) = (Sum.inr "turn" : Key)) := fun e => k_tr e.symm
  simp only [List.any_cons, List.map_cons, List.map_nil, k1, k2, if_false, if_true, decide_true, decide_false, Bool.true_or, Bool.or_true, Bool.false_or]
theorem put_rest (c : Addr) (t r u : Int) : putK (penD c t r) (Sum.inr "rest") (.int u) = penD c t u := by
  unfold putK penD
  have k1 := k_cr
  have k2 := k_tr
  simp only [List.any_cons, List.map_cons, List.map_nil, k1, k2, if_false, if_true, decide_true, decide_false, Bool.true_or, Bool.or_true, Bool.false_or]
theorem pen_merge (c : Addr) (t r : Int) : mergeK [] (penD c t r) = penD c t r := by
  have k1 := k_ct
  have k2 := k_cr
  have k3 := k_tr
  simp only [mergeK, penD, putK, List.foldl_cons, List.foldl_nil, List.any_nil, List.any_cons, List.nil_append, List.cons_append, k1, k2, k3, decide_false, Bool.or_false, Bool.false_eq_true, if_false]
/-- the pen at d, its cells at c, t draws done -/
def Pen (H : Hp) (d c : Addr) (t : Nat) : Prop := ∃ (ns : List Int) (r : Int), H d = some (.dK (penD c t r)) ∧ H c = some (.lst (ns.map V.int)) ∧ ns.length ≤ 63 ∧ 0 ≤ r
theorem Pen.ne {H : Hp} {d c : Addr} {t : Nat} (h : Pen H d c t) : d ≠ c := by
  obtain ⟨ns, r, h1, h2, _⟩ := h
  exact ne_of h1 h2 (by intro z; cases z)
/-- all but d is as it was -/
def But (d : Addr) (H H' : Hp) : Prop := ∀ b o, b ≠ d → H b = some o → H' b = some o
theorem But.refl (d : Addr) (H : Hp) : But d H H := fun _ _ _ h => h
theorem But.trans {d : Addr} {H H1 H2 : Hp} (a : But d H H1) (b : But d H1 H2) : But d H H2 := fun c o n h => b c o n (a c o n h)
theorem But.same {d : Addr} {H H1 : Hp} (a : Same H H1) : But d H H1 := fun c o _ h => a c o h
theorem But.none {d : Addr} {H H1 : Hp} (a : But d H H1) {p : Addr} (h : H1 p = none) (n : p ≠ d) : H p = none := by
  cases q : H p with
  | none => rfl
  | some o =>
    rw [a p o n q] at h
    cases h
theorem Pen.new {H : Hp} {d c : Addr} {t : Nat} (h : Pen H d c t) {p : Addr} (hp : H p = none) : p ≠ d ∧ p ≠ c := by
  obtain ⟨ns, r, h1, h2, _⟩ := h
  exact ⟨(ne_of_none h1 hp).symm, (ne_of_none h2 hp).symm⟩
theorem Pen.upd {H : Hp} {d c : Addr} {t : Nat} (h : Pen H d c t) {p : Addr} {o : HO} (h1 : p ≠ d) (h2 : p ≠ c) : Pen (upd H p o) d c t := by
  obtain ⟨ns, r, e1, e2, e3⟩ := h
  exact ⟨ns, r, by rw [upd_ne h1.symm]; exact e1, by rw [upd_ne h2.symm]; exact e2, e3⟩
theorem Pen.same {H H' : Hp} {d c : Addr} {t : Nat} (h : Pen H d c t) (s : Same H H') : Pen H' d c t := by
  obtain ⟨ns, r, e1, e2, e3⟩ := h
  exact ⟨ns, r, s _ _ e1, s _ _ e2, e3⟩
theorem same_new {H : Hp} {p : Addr} {o : HO} (h : H p = none) : Same H (L2.upd H p o) := fun b x e => by
  rw [upd_ne (ne_of_none e h)]
  exact e
theorem But.set {d : Addr} {H : Hp} {o : HO} : But d H (L2.upd H d o) := fun b x n e => by
  rw [upd_ne n]
  exact e
theorem But.put {d : Addr} {H H' : Hp} {o : HO} (b : But d H H') {D : Addr} (n : H D = Option.none) : But d H (L2.upd H' D o) := fun x y nx e => by
  rw [upd_ne (ne_of_none e n)]
  exact b x y nx e
theorem Same.put {H H' : Hp} {o : HO} (b : Same H H') {D : Addr} (n : H D = Option.none) : Same H (L2.upd H' D o) := fun x y e => by
  rw [upd_ne (ne_of_none e n)]
  exact b x y e
theorem pen_set {H : Hp} {d c : Addr} {t : Nat} (h : Pen H d c t) {u : Nat} {r : Int} (hr : 0 ≤ r) : Pen (L2.upd H d (.dK (penD c u r))) d c u := by
  have n := h.ne
  obtain ⟨ns, r0, e1, e2, e3, _⟩ := h
  exact ⟨ns, r, upd_same, by rw [upd_ne n.symm]; exact e2, e3, hr⟩
def spDraw : Sp := fun vs H Q _ => ∃ (d c : Addr) (n : Int) (t : Nat), vs = [.ref d, .int n] ∧ Pen H d c t ∧ 0 < n ∧ n < 1073741824 ∧ t < 1073741824 ∧
  ∀ H' k t', But d H H' → Pen H' d c t' → t' ≤ t + 1 → 0 ≤ k → k < n → Q (.int k) H'
def spPick (K : PySem.W.Frag) : Sp := fun vs H Q _ => ∃ (d c l : Addr) (xs : List V) (t : Nat), vs = [.ref d, .ref l] ∧ Pen H d c t ∧ SqL K H l xs ∧ l ≠ d ∧ 0 < xs.length ∧ xs.length < 1073741824 ∧ t < 1073741824 ∧
  ∀ H' v t', But d H H' → Pen H' d c t' → t' ≤ t + 1 → v ∈ xs → Q v H'
end Mo

namespace Mo
open PySem PySem.Spec PyProof.Rows L2
/-! ### an error that is kept behind its except suite -/
/-- at a: an error of the class cls, its own dict d -/
def exV (a : Addr) (cls : Value) (d : Option Addr) : HO := .ext fun h => ∃ oe vs, h.get? a = some oe ∧ Zc cls d oe ∧ oe.data = .fields vs
section
variable {X : Cx} {pins : List (Addr × Obj)} {σ : L2.St} {H : Hp} {s : Shared}
/-- an object that was not there at the entry is tracked from now on -/
theorem track {a : Addr} {oe : Obj} {vs : Array Value} {o : HO} (I : Inv X pins σ H s) (ha : s.heap.get? a = some oe) (hd : oe.data = .fields vs) (na : H a = none) (nL : a ≠ X.env.locals)
    (n0 : ∀ u, X.s_0.heap.get? a = some u → a ∈ X.ex) (np : ∀ p ∈ X.pn ++ pins, p.1 ≠ a) (new : ObjOk X.prog X.w (upd H a o) s.heap a o) : Inv X pins σ (upd H a o) s := by
  have ne : ∀ b u, H b = some u → b ≠ a := fun b u e => ne_of_none e na
  refine ⟨I.ok, I.os, I.bare, ⟨I.base.keep, I.base.slot, fun b u q n hx => ?_, I.base.there, fun b xs e => ?_, fun b u w e => ?_, fun b ps e => ?_⟩, I.loc, I.cell, ?_, fun x c e => ?_, fun p hp => ?_, fun b u e => ?_, I.len⟩
  · rw [upd_ne (fun z : b = a => hx (by rw [z]; exact n0 u (by rw [← z]; exact q)))]
    exact I.base.free b u q n hx
  · have q := I.base.tups b xs e
    rw [upd_ne (ne _ _ q)]
    exact q
  · have q := I.base.frzs b u w e
    rw [upd_ne (ne _ _ q)]
    exact q
  · obtain ⟨more, q⟩ := I.base.tbls b ps e
    exact ⟨more, by rw [upd_ne (ne _ _ q)]; exact q⟩
  · rw [upd_ne nL.symm]
    exact I.free
  · obtain ⟨v, oc, hoc, hcc⟩ := I.cell x c e
    have nca : c ≠ a := fun z => by
      rw [z, ha] at hoc
      cases hoc
      rw [hd] at hcc
      cases hcc
    rw [upd_ne nca]
    exact I.freeC x c e
  · obtain ⟨h1, h2, h3⟩ := I.pin p hp
    exact ⟨h1, by rw [upd_ne (np p hp)]; exact h2, h3⟩
  · by_cases hb : b = a
    · subst hb
      rw [upd_same] at e
      cases e
      exact new
    · rw [upd_ne hb] at e
      refine (I.hok b u e).stay (fun c v _ q => q) (fun c q => ?_) fun c xs q => ?_
      · rw [upd_ne (ne _ _ q)]
        exact q
      · rw [upd_ne (ne _ _ q)]
        exact q
theorem exV_ok {P : Program} {w : World} {H : Hp} {h : Heap} {a : Addr} {cls : Value} {d : Option Addr} {oe : Obj} {vs : Array Value} (e : h.get? a = some oe) (z : Zc cls d oe) (hd : oe.data = .fields vs) : ObjOk P w H h a (exV a cls d) :=
  ⟨⟨oe, vs, e, z, hd⟩, ⟨oe, e⟩, fun h1 h2 ⟨o1, v1, e1, z1, d1⟩ k => ⟨o1, v1, k _ e1, z1, d1⟩⟩
theorem exV_at {a : Addr} {cls : Value} {d : Option Addr} (I : Inv X pins σ H s) (e : H a = some (exV a cls d)) : ∃ oe vs, s.heap.get? a = some oe ∧ Zc cls d oe ∧ oe.data = .fields vs := (I.hok a _ e).1
end
/-- what 'except x as n: kept = n' wishes of an error of the body: n in slot i, kept in slot j; behind it the error is tracked -/
def wKeep (K : PySem.W.Frag) (c : Value) (i j : Nat) (Wout : WX) (D : Ends) : WX := fun cls d σ H =>
  ∃ b, PySem.W.exmOne K cls c = some b ∧ (b = true → ∀ a, H a = none → D.nx (((σ.set i (some (.ref a))).set j (some (.ref a))).set i none) (upd H a (exV a cls d))) ∧ (b = false → Wout cls d σ H)
section
variable {X : Cx} {x n kx : Str} {c : Value} {i j : Nat} {body : List Stmt} {np np2 kp ap pos pos' : Pos} {tb : WX → TS} {Wout : WX}
theorem ps_try_keep (hs : X.stack = X.env :: X.outer) (hf : X.env.frame = some X.env.locals) (hN : X.N.Nodup) (hi : X.N[i]? = some n) (hj : X.N[j]? = some kx) (hln : X.env.kindOf n = some .local) (hlk : X.env.kindOf kx = some .local) (hc : Names X x c) (tk : Takes X Wout)
    (hb : ∀ (W : WX) (pn : List (Addr × Obj)) (xe : Value → Shared → Prop), Takes (X.tr pn xe) W → PassesOwn (model X.prog X.w) X.A X.env xe → PSs (X.tr pn xe) body (tb W))
    (hsu : ∀ (a : Addr) (oe : Obj) (pn : List (Addr × Obj)), PSs (X.suite a ((a, oe) :: pn)) [.Assign [.Name kx kp] (.Name n np2) ap] (tAsg (tVar i) (gName j))) :
    PS X (.Try body [.ExceptHandler (some (.Name x np)) (some n) [.Assign [.Name kx kp] (.Name n np2) ap] pos'] [] [] pos) (fun D σ H => tb (wKeep X.K c i j Wout D) D σ H) := by
  refine ⟨fun pins s σ H D I h => ?_⟩
  have ok := I.ok
  have hfr : X.A.frames = some (X.env :: X.outer) := ok.frames.trans (by rw [hs])
  refine wpAny_Try_except (wpAny_mono ((hb (wKeep X.K c i j Wout D) (X.pn ++ pins) (fun e s₁ => wpAny (model X.prog X.w) X.A (noteFrame e X.env) (fun _ s₂ => wpAny (model X.prog X.w) X.A (setFlight e none) (fun _ s₃ =>
    wpAny (model X.prog X.w) X.A (handleBy e X.env [.ExceptHandler (some (.Name x np)) (some n) [.Assign [.Name kx kp] (.Name n np2) ap] pos']) (SP X pins D) X.xe s₃) X.xe s₂) X.xe s₁) (fun u s' xx => ?_) PassesOwn.looking).run [] s σ H D (I.toTry _) h) (fun f s1 hsp => ?_) (fun e s1 he => he))
  · obtain ⟨a, B, sI, pins', σ', H', cls, d, rfl, J', nb, up, sky, na, os, ag, b, hb1, hyes, hno⟩ := xx
    have J : Inv X pins σ' H' sI := J'.ofTry ok
    have sky' : Sky B (X.env :: X.outer) a (Zc cls d) X.env.locals s'.heap := hs ▸ sky
    show wpAny (model X.prog X.w) X.A (noteFrame (.ref a) X.env) _ _ _
    refine Sky.land Zc.steady hfr hf sky' fun h3 fl3 up3 => ?_
    have J3 : Inv X pins σ' H' { s' with heap := h3 } := J.landed nb fl3.1 (up.trans up3) os ag
    obtain ⟨oe3, vs3, he3, hz3, hd3⟩ := fl3.there
    have nfr : a ∉ frs (X.env :: X.outer) := fun hm => by
      obtain ⟨_, o', e', hnf⟩ := fl3.2.2.1.mem hm
      rw [he3] at e'
      cases e'
      exact hnf _ hd3
    have nL : a ≠ X.env.locals := fun z => nfr (List.mem_filterMap.mpr ⟨X.env, List.mem_cons_self, hf.trans (congrArg some z.symm)⟩)
    have nF : a ∉ X.fs := fun hm => by
      obtain ⟨e, he, q⟩ := List.mem_filterMap.mp hm
      exact nfr (List.mem_filterMap.mpr ⟨e, List.mem_cons_of_mem _ he, q⟩)
    have nB : B.get? a = none := fl3.2.1
    have nI : sI.heap.get? a = none := by
      cases q : sI.heap.get? a with
      | none => rfl
      | some o =>
        have z := nb a o q (by show a ∉ frs X.stack; rw [hs]; exact nfr)
        rw [nB] at z
        cases z
    have n0 : ∀ u, X.s_0.heap.get? a = some u → a ∈ X.ex := fun u q => by
      by_cases hx : a ∈ X.ex
      · exact hx
      · obtain ⟨o', z⟩ := J.base.there a u q hx
        rw [nI] at z
        cases z
    have npp : ∀ p ∈ X.pn ++ pins, p.1 ≠ a := fun p hp z => by
      have q := (J.pin p hp).1
      rw [z, nI] at q
      cases q
    have S3 := J3.suite he3 hd3 na nL nF
    refine wpAny_handleBy_cons (codeAny_handlers_test ?_) (by intro q; cases q)
    have LT : PySem.W.Looks (model X.prog X.w) h3 (typeOf (.ref a)) cls := fun A Q E s k q => wpAny_typeOf_ref (k _ _ he3) (hz3.1 ▸ q)
    have LM := PySem.W.exm_one (M := model X.prog X.w) J3.kIn LT hb1
    have test : ∀ {Q : Value → Shared → Prop} {E : Value → Shared → Prop}, Q c { s' with heap := h3 } → wpAny (model X.prog X.w) (X.A.mark (some (.ref a))) (eval (.Name x np) X.env) Q E { s' with heap := h3 } := fun {Q E} q => by
      rcases hc with ⟨hg, hdbg, hm | ⟨hm, hv, hnn⟩⟩
      · exact ld_glob (X := X.suite a ((a, oe3) :: (X.pn ++ pins))) S3 hg hm q hdbg
      · exact ld_blt (X := X.suite a ((a, oe3) :: (X.pn ++ pins))) S3 hg hm hv q hnn hdbg
    refine test (LM.here ?_)
    cases b with
    | true =>
      refine codeAny_handlers_suite_as (HandSPX.lands_againZ fl3 fun h4 fl4 up4 => ?_)
      have J4 : Inv X pins σ' H' { s' with heap := h4 } := J.landed nb fl4.1 ((up.trans up3).trans up4) os ag
      obtain ⟨oe4, vs4, he4, hz4, hd4⟩ := fl4.there
      refine store_ok (X := X.suite a ((a, oe4) :: (X.pn ++ pins))) (v := .ref a) (J4.suite he4 hd4 na nL nF) hN hi (.inl hln) rfl (fun s5 S5 => ?_) (.inr hln)
      have lenσ : i < σ'.length := by
        rw [J.len]
        exact (List.getElem?_eq_some_iff.mp hi).1
      have want : tAsg (tVar i) (gName j) { nx := fun σ6 H6 => σ6 = (σ'.set i (some (.ref a))).set j (some (.ref a)) ∧ H6 = H', rt := fun _ _ => False, bk := fun _ _ => False, ct := fun _ _ => False } (σ'.set i (some (.ref a))) H' :=
        ⟨.ref a, by rw [List.getElem?_set_self lenσ], rfl, rfl⟩
      refine wpAny_mono ((hsu a oe4 (X.pn ++ pins)).run [] s5 _ H' _ S5 want) (fun f s6 hsp => ?_) (fun _ _ z => False.elim z)
      cases f with
      | next =>
        obtain ⟨σ6, H6, S6, rfl, rfl⟩ := hsp
        obtain ⟨he6, _⟩ := S6.pin (a, oe4) (List.mem_append_left _ List.mem_cons_self)
        have J6 : Inv X pins _ H6 s6 := S6.unsuite ok
        have J7 := track J6 he6 hd4 na nL n0 npp (exV_ok he6 hz4 hd4)
        exact gone_ok J7 hN hi hln fun s7 J8 => ⟨_, _, J8, hyes rfl a na⟩
      | brk => exact hsp.elim fun _ z => z.elim fun _ z => z.2.elim
      | cont => exact hsp.elim fun _ z => z.elim fun _ z => z.2.elim
      | ret u => exact hsp.elim fun _ z => z.elim fun _ z => z.elim fun _ z => z.2.2.elim
    | false =>
      show wpAny _ X.A (handleBy (.ref a) X.env []) _ _ _
      refine wpAny_handleBy_nil ?_
      obtain ⟨k1, k2, k3, oe, vs, T, oT, ts', he, hz, hd, h1, hr⟩ := id fl3
      unfold PySem.passOn
      refine wpAny_bind (wpAny_field he hd h1 ?_)
      rw [if_neg (show ¬ ((Value.ref T == Value.none) = true) from by simp)]
      have fin : wpAny (model X.prog X.w) X.A (setFlight (.ref a) X.env.frame) (fun _ s4 => wpAny (model X.prog X.w) X.A (throw (.ref a) : Sem Flow) (SP X pins D) X.xe s4) X.xe { s' with heap := h3 } := by
        rw [hf]
        refine HandSPX.setFlight_upZ fl3 fun h4 hh4 up4 => wpAny_throw (tk _ _ ⟨a, B, sI, pins, σ', H', cls, d, rfl, J, nb, (up.trans up3).trans up4, .inr (.inr (hs ▸ hh4)), na, os, ag, hno rfl⟩)
      first
        | exact wpAny_bind (wpAny_pure (wpAny_bind fin))
        | exact wpAny_bind fin
  · cases f with
    | next => exact hsp.elim fun σ1 z => z.elim fun H1 z => wpAny_execs_nil ⟨σ1, H1, z.1.ofTry ok, z.2⟩
    | brk => exact hsp.elim fun σ1 z => z.elim fun H1 z => ⟨σ1, H1, z.1.ofTry ok, z.2⟩
    | cont => exact hsp.elim fun σ1 z => z.elim fun H1 z => ⟨σ1, H1, z.1.ofTry ok, z.2⟩
    | ret u => exact hsp.elim fun v z => z.elim fun σ1 z => z.elim fun H1 z => ⟨v, σ1, H1, z.1.ofTry ok, z.2⟩
end
end Mo

/-! ### isinstance and the fields of an error that has its own dict -/
namespace Mo
open PySem PySem.W PySem.Spec PySem.Calls PyProof.Rows
section
variable {prog : Program} {w : World} {A : Around} {E : Value → Shared → Prop} {s : Shared} {K : Frag} {x D : Addr} {ox oy : Obj}
theorem err_class {Q : Option Value → Shared → Prop} (C : L2.ExcC K D) (X : K.In s.heap) (I : PySem.W.InstAt s.heap x ox D (some oy)) (h : Q (some (.ref D)) { s with toks := s.toks + 1 }) : wpAny (model prog w) A (getAttr? (.ref x) "__class__") Q E s := by
  have hf : findObj K D (some oy) "__class__" = some (.bind (.builtin "getset_descriptor.__get__") (.builtin "object.__class__")) := findObj_data (by obtain ⟨cd, hc, _⟩ := any_some C.hd; rw [hc]; rfl) C.ha C.hn C.ht
  obtain ⟨hp, g, d, t, os⟩ := s
  have a0 := I.type (M := model prog w)
  have a1 := looks_findIn (M := model prog w) X C.hg
  have a2 := looks_findIn (M := model prog w) X C.hk
  have a3 := looks_find (M := model prog w) X I hf
  have sub : Looks (model prog w) hp (isInstance (.ref x) (.type "BaseException")) true := a0.andThen (looks_subIn X C.hs)
  have y2 : (Value.builtin "BaseException.__getattribute__" == Value.builtin "object.__getattribute__") = false := by decide +kernel
  have y1 : (onTheHeap (Value.ref D) && Value.builtin "BaseException.__getattribute__" == Value.builtin "object.__getattribute__") = false := by rw [y2]; rfl
  have y0 : (false && onTheHeap (Value.builtin "BaseException.__getattribute__")) = false := rfl
  unfold getAttr? getAttrBy? getAttrBy
  refine wpAny_bind (wpAny_mkText (wpAny_bind (wpAny_attempt (wpAny_holding (wpAny_bind (a0.at (wpAny_bind (a1.at ?_))))))))
  show wpAny _ _ (if (onTheHeap (Value.ref D) && Value.builtin "BaseException.__getattribute__" == Value.builtin "object.__getattribute__") = true then _ else _) _ _ _
  rw [y1, if_neg Bool.false_ne_true]
  unfold getAttrByItsOwn hookBefore
  refine wpAny_bind (by
    rw [if_pos (show onTheHeap (Value.ref D) = true from rfl)]
    refine a2.at (wpAny_bind (wpAny_attempt (wpAny_holding ?_)))
    unfold callGetattribute
    rw [y0, if_neg Bool.false_ne_true]
    unfold boundAndCalled
    rw [PySem.F.excAttr_ValueError.ga.bind (.ref x)]
    refine wpAny_bind (wpAny_pure (by
      show wpAny _ _ (call (.builtin "BaseException.__getattribute__") [.ref x, .str "__class__" t]) _ _ _
      refine wpAny_call (codeAny_call_builtin PySem.F.excAttr_ValueError.ga.plain PySem.F.entry_bexc_ga (@check_slot (model prog w) _ _ ⟨hp, g, d, t + 1, os⟩ "BaseException.__getattribute__" "BaseException" "__getattribute__" (.ref x) [.str "__class__" t] [] _ (by decide +kernel) (by decide +kernel) sub (PySem.F.args_bexc_ga (.ref x) (.str "__class__" t)) ?_))
      unfold Builtin.«object.__getattribute__»
      refine wpAny_bind (wpAny_of_eq (a := ((Value.ref x : Value), [Value.str "__class__" t])) (by first | rfl | (simp only [slotArgs]; rfl)) (wpAny_bind (wpAny_pure (wpAny_bind (a0.at (wpAny_bind (a3.at ?_)))))))
      show wpAny _ _ (holding [Value.builtin "object.__class__"] (call (.builtin "getset_descriptor.__get__") [.builtin "object.__class__", .ref x, .ref D]) >>= ret) _ _ _
      refine wpAny_bind (wpAny_holding (wpAny_call (class_get (s := ⟨hp, g, d, t + 1, os⟩) (ox := ox) (od := some oy) X I C.hm (wpAny_pure ?_))))
      show wpAny _ _ (handedOut (.ref D)) _ _ _
      rw [handedOut_of (v := .ref D) rfl]
      first | exact wpAny_pure (wpAny_pure h) | exact wpAny_pure h | exact wpAny_pure (wpAny_bind (wpAny_pure (wpAny_pure h))))))
theorem err_kit (C : L2.ExcC K D) : KitX K (.ref x) (.ref D) (fun h => ∃ ox oy, PySem.W.InstAt h x ox D (some oy)) where
  ty := fun _ _ _ ⟨_, _, I⟩ => I.type
  it := fun M h X _ => by
    obtain ⟨cd, hc, _⟩ := any_some C.hd
    unfold clsIn at hc
    split at hc
    · rename_i c' d' cd' sl' ho
      intro A' Q' E' s' k q
      unfold isType loadHead
      exact wpAny_bind (wpAny_loadPart (k _ _ (X _ _ ho)) (wpAny_pure q))
    · cases hc
  ne := fun h tp dd its n sl X htp => by
    obtain ⟨cd, hc, _⟩ := any_some C.hd
    refine Bool.eq_false_iff.mpr fun q => ?_
    obtain rfl : D = tp := Value.ref.inj (beq_iff_eq.mp q)
    unfold clsIn at hc
    split at hc
    · rename_i c' d' cd' sl' ho
      cases (X _ _ ho).symm.trans htp
    · cases hc
  ca := fun X ⟨_, _, I⟩ k => err_class C X I k
end
end Mo
namespace Mo
open PySem PySem.Spec PyProof.Rows L2
section
variable {X : Cx} {pins : List (Addr × Obj)} {σ : L2.St} {H : Hp} {s : Shared}
/-- an error at a, its class at C, its dict at dd with the fields fs -/
def ErrAt (H : Hp) (a C dd : Addr) (fs : List (Str × V)) : Prop := H a = some (exV a (.ref C) (some dd)) ∧ H dd = some (.xd fs)
theorem ErrAt.inst {a C dd : Addr} {fs : List (Str × V)} (e : ErrAt H a C dd fs) (I : Inv X pins σ H s) : ∃ ox od mA, PySem.W.InstAt s.heap a ox C (some od) ∧ s.heap.Ns1 dd mA ∧ (∀ f, RelO (fs.lookup f) (mA f)) ∧ ∀ f, PySem.W.lookIn f od = some (mA f) := by
  obtain ⟨oe, vs, ha, hz, hd⟩ := exV_at I e.1
  obtain ⟨mA, hns, hr⟩ := (show ObjOk X.prog X.w H s.heap dd (.xd fs) from I.hok dd _ e.2)
  obtain ⟨od, ho, hl⟩ := lookIn_ns hns
  exact ⟨oe, od, mA, ⟨ha, hz.1, by unfold PySem.W.notCls; rw [hd] <;> rfl, by rw [hz.2]; exact ho⟩, hns, hr, hl⟩
/-- isinstance(err, c) -/
def rIsX (K : PySem.W.Frag) : List V → Hp → VK → Prop := fun xs H Q => ∃ (a C dd : Addr) (fs : List (Str × V)) (c : V) (u : Value) (b : Bool), xs = [.ref a, c] ∧ ErrAt H a C dd fs ∧ ExcC K C ∧ ClsV c u ∧ PySem.W.kitOne K (.ref C) u = some b ∧ Q (.bl b) H
theorem cr_isX : CallR X (.builtin "isinstance") (rIsX X.K) := by
  intro pins s σ H xs us Q I r h
  obtain ⟨a, C, dd, fs, c, u, b, rfl, ea, T, k, e, q⟩ := h
  obtain ⟨u1, u2, rfl, r1, r2⟩ := vals2 r
  cases r1
  obtain rfl := k.eq r2
  obtain ⟨ox, od, mA, J, _⟩ := ea.inst I
  exact PySem.W.kia_one (err_kit T) I.kIn ⟨ox, od, J⟩ e (fun z => nomatch z) fun tk => ⟨.bl b, H, I.tok tk, rfl, q⟩
/-- isinstance(err, (c1, c2, ..)) -/
def rIsXT (K : PySem.W.Frag) : List V → Hp → VK → Prop := fun xs H Q => ∃ (a C dd tp : Addr) (fs : List (Str × V)) (cs : List V) (us : List Value) (b : Bool), xs = [.ref a, .ref tp] ∧ ErrAt H a C dd fs ∧ ExcC K C ∧ H tp = some (.tup cs) ∧ Paired ClsV cs us ∧ PySem.W.kitAny K (.ref C) us = some b ∧ Q (.bl b) H
theorem cr_isXT : CallR X (.builtin "isinstance") (rIsXT X.K) := by
  intro pins s σ H xs us Q I r h
  obtain ⟨a, C, dd, tp, fs, cs, ws, b, rfl, ea, T, hT, k, e, q⟩ := h
  obtain ⟨u1, u2, rfl, r1, r2⟩ := vals2 r
  cases r1
  cases (show u2 = Value.ref tp from r2)
  obtain ⟨ox, od, mA, J, _⟩ := ea.inst I
  obtain ⟨_, its, rv, ⟨oc, od', dt, sl⟩, h1, h2, n, h3⟩ := (show ObjOk X.prog X.w H s.heap tp (.tup cs) from I.hok tp _ hT)
  obtain rfl := ClsV.all k rv
  simp only at h2 h3
  subst h2 h3
  exact PySem.W.kia_tup (err_kit T) I.kIn ⟨ox, od, J⟩ h1 e (fun z => nomatch z) fun tk => ⟨.bl b, H, I.tok tk, rfl, q⟩
/-- err.f -/
def tXv (K : PySem.W.Frag) (f : Str) (te : TE) : TE := fun σ H Q => te σ H fun x H1 => ∃ (a C dd : Addr) (fs : List (Str × V)) (v : V), x = .ref a ∧ ErrAt H1 a C dd fs ∧ XfC K C ∧ PySem.W.findIn K (.ref C) f = some none ∧ fs.lookup f = some v ∧ Q v H1
theorem pe_xv {e : Expr} {te : TE} {pos : Pos} {f : Str} (he : PE X e te) (hb : attributeBase e f X.env (eval e X.env) = eval e X.env := by rfl) : PE X (.Attribute e f pos) (tXv X.K f te) := by
  refine ⟨fun pins s σ H Q I h => ?_⟩
  refine attr_of hb (thn (he.run pins s σ H _ I h) fun u s1 hh => ?_)
  obtain ⟨x, H1, I1, rx, a, C, dd, fs, v, rfl, ea, T, hno, l, q⟩ := hh
  obtain rfl : u = Value.ref a := rx
  obtain ⟨ox, od, mA, J, hns, hr, hl⟩ := ea.inst I1
  obtain ⟨u, hu, ru⟩ := RelO.some_of (v := v) (o := mA f) (by rw [← l]; exact hr f)
  exact HandSPX.exc_get I1.kIn J T.ga T.gg T.exC (PySem.W.findObj_own T.hdC hno rfl (by rw [hl, hu])) (handed_of ru) ⟨v, H1, I1.tok _, ru, q⟩
end
end Mo

/-! ### defs called where no repr is under way: then repr of lists, tuples and dicts is known to the letter -/
namespace Mo
open PySem PySem.Spec PyProof.Rows L2
/-- as FnOk, for callers under no guard -/
structure FnG (P : Program) (w : World) (K : PySem.W.Frag) (mg : Str → Option Value) (base : Heap) (CX : CXT) (k : Nat) (f : Addr) (fd : FuncData) (ps : List Str) (sp : Sp) : Prop where
  len : ∀ vs H Q E, sp vs H Q E → vs.length = ps.length
  run : ∀ (A : Around) (outer : List Env) (s : Shared) (H : Hp) (args : Args) (us : List Value) (vs : List V) (Q : VK) (E : XK), Room k A → A.guards = some [] → Env0 P w K mg base A outer s H → BindsTo s fd args (ps.zip us) → Vals vs us → sp vs H Q E →
    codeAny (model P w) A (.call (.ref f) args) (CR CX outer P w H s Q E) s
section
variable {P : Program} {w : World} {K : PySem.W.Frag} {mg : Str → Option Value} {base : Heap} {CX : CXT} {k : Nat} {f : Addr} {fd : FuncData} {ps : List Str} {sp : Sp}
theorem FnG.of (F : FnOk P w K mg base CX k f fd ps sp) : FnG P w K mg base CX k f fd ps sp := ⟨F.len, fun A o s H a us vs Q E hr _ => F.run A o s H a us vs Q E hr⟩
/-- a def by its body, its guards told -/
theorem okG_of {x qual : Str} {st : Stmt} {N : List Str} (F : Fun K x qual st f fd) (S : FnScope N ps (defScope st)) (len : ∀ vs H Q E, sp vs H Q E → vs.length = ps.length)
    (hbody : ∀ (cdv : Value) (A : Around) (outer : List Env) (s : Shared) (H : Hp) (vs : List V) (Q : VK) (E : XK), Room k (A.deeper (envOfC qual (defScope st) s.heap.objs.size f cdv)) → A.guards = some [] → sp vs H Q E →
      ∃ t, PSs (cxOf CX P w K mg base N qual (defScope st) f cdv A outer s H E) (defBody st) t ∧ t { nx := fun _ H' => Q .non H', rt := Q } (start N vs) H) : FnG P w K mg base CX (k + 1) f fd ps sp := by
  obtain ⟨oc, od, kV, doc, pm, an, cdv, ct, osl, rfl, lk, hcd⟩ := F.ex
  refine ⟨len, fun A outer s H args us vs Q E hr hg e0 hb r hsp => ?_⟩
  have kept : ∀ b o, base.get? b = some o → s.heap.get? b = some o := fun b o e => (e0.bs b o e).1
  have KX : K.In s.heap := e0.mod.kin.keeps kept
  have kinds : ∀ y ∈ ps.zip us, (defScope st).names.lookup y.1 = some .local ∨ ((defScope st).names.lookup y.1 = some .cell ∧ ((cellsFrom (s.heap.objs.size + 1) (defScope st).names []).lookup y.1).isSome = true) := fun y hy =>
    (S.par y.1 (List.of_mem_zip (a := y.1) (b := y.2) hy).1).elim .inl fun q => .inr ⟨q, PySem.W.cellsFrom_some _ _ _ (.inl q)⟩
  refine codeAny_call_function hr.depth (KX _ _ lk) rfl S.co S.gen rfl (PySem.W.codeRec_of KX hcd) (hb _ _ _ _ (wpAny_newFunctionEnv_cells S.kind kinds fun env he s1 x => ?_))
  subst he
  refine ⟨(e0.mod.nolimit.keeps kept).keeps x.toInCall.keep, codeAny_func ?_⟩
  obtain ⟨t, ht, hq⟩ := hbody cdv A outer s H vs Q E (hr.deeper _) hg hsp
  have I : Inv (cxOf CX P w K mg base N qual (defScope st) f cdv A outer s H E) [] (start N vs) H s1 := inv_start S hr.hd e0 (len _ _ _ _ hsp) r x
  refine wpAny_mono (ht.run [] s1 (start N vs) H _ I hq) (fun fl s' hs => ?_) fun e s' hs => hs
  cases fl with
  | ret u => exact hs.elim fun v z => z.elim fun σ' z => z.elim fun H' z => ⟨v, H', z.1.os, z.1.bare, z.1.base, z.1.hok, z.2.1, z.2.2⟩
  | next => exact hs.elim fun σ' z => z.elim fun H' z => ⟨V.non, H', z.1.os, z.1.bare, z.1.base, z.1.hok, rfl, z.2⟩
  | brk => exact hs.elim fun _ z => z.elim fun _ z => z.2.elim
  | cont => exact hs.elim fun _ z => z.elim fun _ z => z.2.elim
/-- a def that raises nothing -/
theorem okG {x qual : Str} {st : Stmt} {N : List Str} (F : Fun K x qual st f fd) (S : FnScope N ps (defScope st)) (len : ∀ vs H Q E, sp vs H Q E → vs.length = ps.length)
    (hbody : ∀ (cdv : Value) (A : Around) (outer : List Env) (s : Shared) (H : Hp) (vs : List V) (Q : VK) (E : XK), Room k (A.deeper (envOfC qual (defScope st) s.heap.objs.size f cdv)) → A.guards = some [] → sp vs H Q E →
      ∃ t, PSs (cxOf CX0 P w K mg base N qual (defScope st) f cdv A outer s H E).nox (defBody st) t ∧ t { nx := fun _ H' => Q .non H', rt := Q } (start N vs) H) : FnG P w K mg base CX0 (k + 1) f fd ps sp :=
  okG_of F S len fun cdv A outer s H vs Q E hr hg hsp => (hbody cdv A outer s H vs Q E hr hg hsp).elim fun t z => ⟨t, z.1.nox, z.2⟩
end
section
variable {X : Cx} {CX : CXT} {x : Str} {f : Addr} {k : Nat} {fd : FuncData} {ps : List Str} {sp : Sp} {ds : List Value} {dvs : List V} {E : XK} {e : Expr} {es : List Expr} {t : TA} {p pos : Pos}
theorem run_G {pins : List (Addr × Obj)} {σ : L2.St} {H : Hp} {s : Shared} {Q : VK} {us : List Value} {vs : List V} (F : FnG X.prog X.w X.K X.mg X.base CX k f fd ps sp) (hr : Room k X.A) (hu : X.A.guards = some []) (hb : Binds X.K fd ps ds) (hd : Vals dvs ds) (hx : Passes CX X E)
    (I : Inv X pins σ H s) (r : Vals vs us) (h : sp (vs ++ dvs) H Q E) : wpAny (model X.prog X.w) X.A (call (.ref f) us) (EP X pins σ Q) X.xe s := by
  have rr : Vals (vs ++ dvs) (us ++ ds) := r.append hd
  refine wpAny_call (codeAny_mono (F.run X.A X.stack s H ⟨us, []⟩ (us ++ ds) (vs ++ dvs) Q E hr hu I.env0 (hb s us I.kIn (rr.length.symm.trans (F.len _ _ _ _ h))) rr h) fun r s' hq => ?_)
  cases r with
  | error e => exact hx pins σ H s e s' I hq
  | ok fl =>
    cases fl with
    | ret u => exact I.after hq
    | next => exact hq.elim
    | brk => exact hq.elim
    | cont => exact hq.elim
/-- f(e, ..), f by FnG -/
theorem pe_callG (F : FnG X.prog X.w X.K X.mg X.base CX k f fd ps sp) (hr : Room k X.A) (hu : X.A.guards = some []) (hg : Gl X x) (hm : X.mg x = some (.ref f)) (hk : PySem.W.keepIn X.K (.ref f) = true) (hb : Binds X.K fd ps ds) (hd : Vals dvs ds) (hx : Passes CX X E)
    (ha : PA X (e :: es) t) (hdb : (x == ("__debug__" : Str)) = false := by decide) (he : starEach (e :: es) X.env = (false, eval e X.env) :: starEach es X.env := by rfl) (hpl : (backTo pos (starEach es X.env)).any (·.1) = false := by rfl) :
    PE X (.Call (.Name x p) (e :: es) [] pos) (tCall sp dvs E t) :=
  ⟨fun pins s σ H Q I h => wpAny_Call_Name_kw (ld_glob I hg hm (PySem.W.callWith_K (h₀ := X.base) I.ok.mod.kin hk (thn (ha.run pos pins s σ H _ I h) fun us s1 ⟨vs, H1, I1, r, q⟩ => ⟨I1.kIn, run_G F hr hu hb hd hx I1 r q⟩) he hpl) hdb)⟩
end
/-! ### repr of data -/
/-- data with the empty dict -/
def Dat (K : PySem.W.Frag) (H : Hp) (x : V) (d : PyData) : Prop := Dp K H x d ∨ ∃ a, x = .ref a ∧ H a = some (.dK []) ∧ d = .dict []
section
variable {X : Cx} {pins : List (Addr × Obj)} {σ : L2.St} {H : Hp} {s : Shared}
theorem Dat.reads {x : V} {u : Value} {d : PyData} (I : Inv X pins σ H s) (h : Dat X.K H x d) (r : RelV x u) : ∃ as, Reads s.heap u d as ∧ (d.hasDict = true → sysModules ∉ as) := by
  rcases h with h | ⟨a, rfl, ha, rfl⟩
  · obtain ⟨as, q⟩ := Dp.reads I d x u h r
    have key : ∀ {x : V} {d : PyData}, Dp X.K H x d → d.hasDict = false := by
      intro x d h
      refine Dp.rec (motive_1 := fun _ d _ => d.hasDict = false) (motive_2 := fun _ ds _ => PyData.hasDictAll ds = false) ?_ ?_ ?_ ?_ ?_ ?_ ?_ ?_ h
      · rfl
      · intro b; rfl
      · intro i; rfl
      · intro z; rfl
      · intro a xs ds _ _ ih; exact ih
      · intro a xs ds _ _ ih; exact ih
      · rfl
      · intro v vs d ds _ _ i1 i2
        show (PyData.hasDict d || PyData.hasDictAll ds) = false
        rw [i1, i2]
        rfl
    exact ⟨as, q, fun z => by rw [key h] at z; cases z⟩
  · obtain rfl : u = Value.ref a := r
    obtain ⟨_, hs, vs, kv, o, es, ep, ho, hc, hdt, hes⟩ := (show ObjOk X.prog X.w H s.heap a (.dK []) from I.hok a _ ha)
    cases kv
    have e0 : es.toList = [] := by
      obtain ⟨_, hp, _⟩ := hes
      cases q : es.toList with
      | nil => rfl
      | cons x r => rw [q] at hp; cases hp
    refine ⟨_, .dict (as := []) (bs := []) ho hc.1 hdt (by rw [e0]; exact .nil) (by rw [e0]; exact .nil), fun _ z => ?_⟩
    rw [List.append_nil, List.mem_singleton] at z
    rw [← z] at hs
    simp at hs
/-- repr(data) -/
def rReprD (K : PySem.W.Frag) : List V → Hp → VK → Prop := fun xs H Q => ∃ (x : V) (d : PyData), xs = [x] ∧ Dat K H x d ∧ d.showable = true ∧ d.depth ≤ 40 ∧ d.shown.length ≤ sizeLine ∧ Q (.str d.shown) H
theorem cr_reprD (hg : X.A.guards = some []) (hu : X.A.units + 64 < cLine) : CallR X (.builtin "repr") (rReprD X.K) := by
  intro pins s σ H xs us Q I r h
  obtain ⟨x, d, rfl, hd, hs, hdp, hz, q⟩ := h
  obtain ⟨u, rfl, ru⟩ := vals1 r
  obtain ⟨as, rd, hsm⟩ := hd.reads I ru
  cases rd with
  | none => exact PySem.P.repr_of_none ⟨.str _, H, I.tok _, ⟨_, rfl⟩, q⟩
  | bool b => exact PySem.P.repr_of_bool ⟨.str _, H, I.tok _, ⟨_, rfl⟩, q⟩
  | int i t => exact PySem.P.repr_of_int (of_decide_eq_true hs) ⟨.str _, H, I.tok _, ⟨_, rfl⟩, q⟩
  | str z t => exact PySem.P.repr_of_str ⟨.str _, H, I.tok _, ⟨_, rfl⟩, q⟩ hz
  | list a1 a2 a3 a4 => exact repr_of_reads' (.list a1 a2 a3 a4) hs hsm hg (by omega) (fun _ _ e => e) (fun h' u' tk hk => ⟨.str _, H, I.kept (t' := tk) hk, ⟨_, rfl⟩, q⟩) hz
  | tuple a1 a2 a3 a4 => exact repr_of_reads' (.tuple a1 a2 a3 a4) hs hsm hg (by omega) (fun _ _ e => e) (fun h' u' tk hk => ⟨.str _, H, I.kept (t' := tk) hk, ⟨_, rfl⟩, q⟩) hz
  | dict a1 a2 a3 a4 a5 => exact repr_of_reads' (.dict a1 a2 a3 a4 a5) hs hsm hg (by omega) (fun _ _ e => e) (fun h' u' tk hk => ⟨.str _, H, I.kept (t' := tk) hk, ⟨_, rfl⟩, q⟩) hz
end
end Mo
namespace Mo
open PySem PySem.Spec PyProof.Rows L2
/-- an own error class over ValueError with one field f, its __init__ at fI -/
structure ErrC (K : PySem.W.Frag) (C fI : Addr) (f : Str) : Prop where
  oex : OexC K C
  xf : XfC K C
  exc : ExcC K C
  no : PySem.W.findIn K (.ref C) f = some none
  te : PySem.W.exmOne K (.ref C) (.ref C) = some true
  iC : PySem.W.findIn K (.ref C) "__init__" = some (some (.ref fI))
  tI : PySem.W.typeIn K (.ref fI) = some (.type "function")
/-- its __init__: self.f = y -/
def spInit (C : Addr) (f : Str) : Sp := fun vs H Q _ => ∃ (a : Addr) (y : V), vs = [.ref a, y] ∧ H a = some (exo a C none) ∧ ∀ dx, H dx = none → dx ≠ a → Q .non (upd (upd H dx (exd dx [(f, y)])) a (exo a C (some dx)))
/-- raising it: what is left to be shown -/
theorem err_read {C : Addr} {f : Str} {H : Hp} {v : V} {Q : XK} (h : ∀ d H', H d = none → Same H H' → H' d = some (.xd [(f, v)]) → Q (.ref C) (some d) H') :
    [v].length ≤ 1000 ∧ ∀ a, H a = none → spInit C f (.ref a :: ([v] ++ [])) (upd H a (exo a C none)) (fun x H2 => x = .non ∧ ∃ (d : Addr) (fs : List (Str × V)), H2 a = some (exo a C (some d)) ∧ H2 d = some (exd d fs) ∧ H d = none ∧ Q (.ref C) (some d) (upd (del H2 a) d (.xd fs))) (fun _ _ _ => False) := by
  refine ⟨by show 1 ≤ 1000; decide, fun a na => ⟨a, v, rfl, upd_same, fun dx nd ne => ⟨rfl, dx, [(f, v)], upd_same, by rw [upd_ne ne, upd_same], ?_, ?_⟩⟩⟩
  · rw [upd_ne ne] at nd
    exact nd
  · have nd' : H dx = none := by rw [upd_ne ne] at nd; exact nd
    refine h dx _ nd' (fun b o e => ?_) upd_same
    have nb : b ≠ dx := ne_of_none e nd'
    have nba : b ≠ a := ne_of_none e na
    rw [upd_ne nb, del_ne nba, upd_ne nba, upd_ne nb, upd_ne nba]
    exact e
theorem kit1_type {K : PySem.W.Frag} {C : Addr} {T : String} {b : Bool} (h : PySem.W.subIn K (.ref C) (.type T) = some b) (hm : PySem.W.kitMeta T = true) : PySem.W.kitOne K (.ref C) (.type T) = some b := by
  show (if (Value.ref C == Value.type T) = true then some true else (if PySem.W.kitMeta T = true then PySem.W.subIn K (.ref C) (.type T) else none)) = some b
  rw [if_neg (by intro z; cases beq_iff_eq.mp z), if_pos hm]
  exact h
theorem kit1_ref {K : PySem.W.Frag} {C D : Addr} (h : PySem.W.subIn K (.ref C) (.ref D) = some false) (hs : PySem.W.subIn K (.ref C) (.ref C) = some true) (hc : PySem.W.isClsIn K D = true) (ht : PySem.W.typeIn K (.ref D) = some (.type "type")) : PySem.W.kitOne K (.ref C) (.ref D) = some false := by
  have hc2 : (PySem.W.clsIn K D).isSome = true := hc
  show (if (Value.ref C == Value.ref D) = true then some true else (if ((PySem.W.clsIn K D).isSome && PySem.W.typeIn K (.ref D) == some (.type "type")) = true then PySem.W.subIn K (.ref C) (.ref D) else none)) = some false
  rw [if_neg (by intro z; rw [← beq_iff_eq.mp z, hs] at h; cases h), if_pos (by rw [hc2, ht]; rfl)]
  exact h
end Mo

/-! ### the end of a law whose promise is an FnG -/
namespace Mo
open PySem PySem.Spec PyProof.Rows L2
theorem callG {P : Program} {w : World} {K : PySem.W.Frag} {mg mb : Str → Option Value} {CX : CXT} {k : Nat} {fa a : Addr} {fd : FuncData} {x : Str} {sp : Sp} {s₁ : Shared} {vs : List Value} {ns : List Int}
    (KX : K.In s₁.heap) (hns : s₁.heap.Ns mainGlobals mg) (hb : s₁.heap.Ns builtinsNs mb) (hbb : ∀ x : Str, x ≠ "__name__" → mb x = bootBuiltins x) (hlim : s₁.heap.NoLimit) (hg : s₁.gens = #[])
    (ha : s₁.heap.get? a = some { cls := .type "list", data := .seq vs.toArray }) (hi : IntsAre vs ns) (hl : ns.length ≤ sizeLine) (hr : Room k callerA)
    (F : ∀ base : Heap, K.In base → base.Ns mainGlobals mg → (∀ b m, s₁.heap.Ns b m → base.Ns b m) → FnG P w K mg base CX k fa fd [x] sp) (hbind : ∀ (s : Shared) (u : Value), BindsTo s fd ⟨[u], []⟩ [(x, u)])
    (hsp : ∀ H : Hp, Only H → SqL K H a (ns.map V.int) → sp [.ref a] H (fun v _ => v = .bl true) fun _ _ _ => False)
    (hCX : ∀ H e s', CX [] H s₁ (fun _ _ _ => False) e s' → False) :
    codeAny (model P w) callerA (.call (.ref fa) ⟨[.ref a], []⟩) (fun r s' => r = .ok (.ret (.bool true)) ∧ OldK s₁.heap s'.heap ∧ s'.os = s₁.os ∧ AllBare s'.gens) s₁ := by
  have rv := vals_ints hi
  have lenV := hi.length
  have core : ∀ H : Hp, Only H → SqL K H a (ns.map V.int) → HOk P w H s₁.heap → (∀ b, H b ≠ none → b = a) → (H a ≠ none → K.lookup a = none) →
      codeAny (model P w) callerA (.call (.ref fa) ⟨[.ref a], []⟩) (fun r s' => r = .ok (.ret (.bool true)) ∧ OldK s₁.heap s'.heap ∧ s'.os = s₁.os ∧ AllBare s'.gens) s₁ := by
    intro H hO hS hok hA hK
    have atA : ∀ {b : Addr} {u : HO}, H b = some u → b = a := fun {b u} q => hA b (by rw [q]; exact Option.some_ne_none _)
    have grnd : ∀ {b : Addr} {o : Obj}, s₁.heap.get? b = some o → H b = none → (hidT s₁.heap H).get? b = some o := fun e n => hidT_get e n
    have noA : ∀ {b : Addr} {o : Obj} {es : Array DictEntry} {ep : Nat}, s₁.heap.get? b = some o → o.data = .dict es ep → H b = none := fun {b o es ep} e d => by
      cases q : H b with
      | none => rfl
      | some u =>
        rw [atA q, ha] at e
        cases e
        cases (show Data.seq vs.toArray _ = Data.dict es ep from d)
    have nsK : ∀ {b : Addr} {m : Str → Option Value}, s₁.heap.Ns b m → (hidT s₁.heap H).Ns b m := fun {b m} ⟨o, es, ep, e, d, r⟩ => ⟨o, es, ep, grnd e (noA e d), d, r⟩
    have hKb : K.In (hidT s₁.heap H) := fun b o e => grnd (KX b o e) (by
      cases q : H b with
      | none => rfl
      | some u =>
        obtain rfl := atA q
        rw [hK (by rw [q]; exact Option.some_ne_none _)] at e
        cases e)
    have hM : Mod K mg (hidT s₁.heap H) := ⟨hKb, nsK hns, ⟨mb, nsK hb, hbb⟩, hlim.elim fun mc z => ⟨mc, nsK z.1, z.2⟩⟩
    have e0 : Env0 P w K mg (hidT s₁.heap H) callerA [] s₁ H := ⟨rfl, hM, fun b o e => of_hidT e, Nat.le_of_eq (hidT_size _ _), trivial, fun b hb => absurd (show b ∈ ([] : List Addr) from hb) (by simp), hok, .of_eq hg⟩
    refine codeAny_mono ((F _ hKb (nsK hns) fun b m z => nsK z).run callerA [] s₁ H ⟨[.ref a], []⟩ [.ref a] [.ref a] _ _ hr rfl e0 (hbind s₁ (.ref a)) (.cons rfl .nil) (hsp H hO hS)) fun r s' h => ?_
    cases r with
    | error e => exact (hCX H e s' h).elim
    | ok fl =>
      cases fl with
      | next => exact h.elim
      | brk => exact h.elim
      | cont => exact h.elim
      | ret u =>
        obtain ⟨v, H', os, bare, un, hok', r', q⟩ := h
        obtain rfl : v = .bl true := q
        obtain rfl : u = Value.bool true := r'
        refine ⟨rfl, OldK.of_keep fun b o e => ?_, os, bare⟩
        cases q : H b with
        | none => exact un.keep b o e q (by intro z; exact absurd (show b ∈ ([] : List Addr) from z) (by simp)) (by simp)
        | some u =>
          rcases hO b with z | ⟨ob, xs, z⟩
          · rw [q] at z
            cases z
          · have z2 := un.frzs b ob _ z
            have e1 := (hok b _ z).1
            rw [e] at e1
            cases e1
            exact (hok' b _ z2).1
  cases hk : K.lookup a with
  | some o =>
    have e := KX a o hk
    rw [ha] at e
    cases e
    exact core (fun _ => none) (fun _ => .inl rfl) (.inr ⟨_, vs.toArray, _, hk, rfl, rfl, rfl, by rw [List.size_toArray, lenV]; exact hl, by simpa using rv⟩) (fun b u z => nomatch z) (fun b z => absurd rfl z) fun z => absurd rfl z
  | none =>
    have at2 : ∀ {b : Addr} {u : HO}, (if b = a then some (HO.frz { cls := .type "list", data := .seq vs.toArray } (.lst (ns.map V.int))) else none) = some u → b = a ∧ u = .frz { cls := .type "list", data := .seq vs.toArray } (.lst (ns.map V.int)) := fun {b u} z => by
      by_cases hb : b = a
      · rw [if_pos hb] at z
        exact ⟨hb, (Option.some.inj z).symm⟩
      · rw [if_neg hb] at z
        cases z
    refine core (fun b => if b = a then some (.frz { cls := .type "list", data := .seq vs.toArray } (.lst (ns.map V.int))) else none) (fun b => ?_) (.inl (.inr ⟨{ cls := .type "list", data := .seq vs.toArray }, if_pos rfl⟩)) (fun b u z => ?_) (fun b z => ?_) fun _ => hk
    · by_cases hb : b = a
      · exact .inr ⟨_, _, if_pos hb⟩
      · exact .inl (if_neg hb)
    · obtain ⟨rfl, rfl⟩ := at2 z
      exact ⟨ha, by rw [List.length_map]; exact hl, vs, _, rv, ha⟩
    · by_cases hb : b = a
      · exact hb
      · exact absurd (if_neg hb) z
theorem walkG {l : PySem.W.OpenLaw} {n k : Nat} {q : Program} {loose : List Str} {XP : (Str → Option Value) → Heap → Prop} {YP : World → Heap → Prop} {d : DefRec} {K : Params → PySem.W.Frag} {CX : World → CXT} {sp : World → Sp} {x : Str}
    (hn : l.most = some n) (hn2 : n ≤ sizeLine) (hdf : d.params.defaults = []) (hr : Room k callerA) (hY : ∀ (w : World) (h : Heap), YP w h → (K w.params).In h)
    (F : ∀ (w : World) (mg : Str → Option Value) (fa : Addr) (h : Heap), (K w.params).In h → h.Ns mainGlobals mg → mg d.name = some (.ref fa) →
      ∃ fd : FuncData, (∀ (s : Shared) (u : Value), BindsTo s fd ⟨[u], []⟩ [(x, u)]) ∧ ∀ base : Heap, (K w.params).In base → base.Ns mainGlobals mg → FnG l.prog w (K w.params) mg base (CX w) k fa fd [x] (sp w))
    (hsp : ∀ (w : World) (H : Hp) (a : Addr) (ns : List Int), ns.length ≤ n → Only H → SqL (K w.params) H a (ns.map V.int) → sp w [.ref a] H (fun v _ => v = .bl true) fun _ _ _ => False)
    (hCX : ∀ (w : World) (H : Hp) (s : Shared) (e : Value) (s' : Shared), CX w [] H s (fun _ _ _ => False) e s' → False) :
    PySem.W.WalkO q loose XP YP l.row.toRowW d [] (fun f vs => PySem.call f vs) := by
  refine Att.attach_call hn hdf fun w s₀ s₁ mg mb fa o pm cd doc a vs ns G Y ho hd hcd hmg hobj hints hlen hg => ?_
  obtain ⟨fd, hb, hF⟩ := F w mg fa _ (hY w _ Y) G.T.g hmg
  exact callG (hY w _ Y) G.T.g G.T.b G.T.builtins G.T.nolimit hg hobj hints (Nat.le_trans hlen hn2) hr (fun base a b _ => hF base a b) hb (fun H hO hS => hsp w H a ns hlen hO hS) fun H e s' => hCX w H s₁ e s'
/-- where repr meets dicts: sys.modules is there, and is none of ours -/
theorem walkM {l : PySem.W.OpenLaw} {n k : Nat} {q : Program} {loose : List Str} {XP : (Str → Option Value) → Heap → Prop} {YP : World → Heap → Prop} {d : DefRec} {K : Params → PySem.W.Frag} {CX : World → CXT} {sp : World → Sp} {x : Str}
    (hn : l.most = some n) (hn2 : n ≤ sizeLine) (hdf : d.params.defaults = []) (hr : Room k callerA) (hY : ∀ (w : World) (h : Heap), YP w h → (K w.params).In h) (hi : importsNone q = true)
    (F : ∀ (w : World) (mg : Str → Option Value) (fa : Addr) (h : Heap), (K w.params).In h → h.Ns mainGlobals mg → mg d.name = some (.ref fa) →
      ∃ fd : FuncData, (∀ (s : Shared) (u : Value), BindsTo s fd ⟨[u], []⟩ [(x, u)]) ∧ ∀ base : Heap, (K w.params).In base → base.Ns mainGlobals mg → (∃ mm, base.Ns sysModules mm) → FnG l.prog w (K w.params) mg base (CX w) k fa fd [x] (sp w))
    (hsp : ∀ (w : World) (H : Hp) (a : Addr) (ns : List Int), ns.length ≤ n → Only H → SqL (K w.params) H a (ns.map V.int) → sp w [.ref a] H (fun v _ => v = .bl true) fun _ _ _ => False)
    (hCX : ∀ (w : World) (H : Hp) (s : Shared) (e : Value) (s' : Shared), CX w [] H s (fun _ _ _ => False) e s' → False) :
    PySem.W.WalkO q loose XP YP l.row.toRowW d [] (fun f vs => PySem.call f vs) := by
  refine Att.attach_call hn hdf fun w s₀ s₁ mg mb fa o pm cd doc a vs ns G Y ho hd hcd hmg hobj hints hlen hg => ?_
  obtain ⟨fd, hb, hF⟩ := F w mg fa _ (hY w _ Y) G.T.g hmg
  obtain ⟨mm, hm, _⟩ := (G.T.seer hi).mods
  exact callG (hY w _ Y) G.T.g G.T.b G.T.builtins G.T.nolimit hg hobj hints (Nat.le_trans hlen hn2) hr (fun base a b c => hF base a b ⟨mm, c _ _ hm⟩) hb (fun H hO hS => hsp w H a ns hlen hO hS) fun H e s' => hCX w H s₁ e s'
end Mo

/-! ### lambdas without parameters, handed to a def that calls them within a try -/
namespace Mo
open PySem PySem.Spec PyProof.Rows L2
section
variable {P : Program} {w : World} {K : PySem.W.Frag} {mg : Str → Option Value} {base : Heap} {k : Nat} {f c : Addr} {fd : FuncData} {ps : List Str} {sp : Sp}
/-- a def that raises nothing, the place of its code object told -/
theorem okT {x qual : Str} {st : Stmt} {N : List Str} (F : Fun K x qual st f fd) (hc : fd.code = .ref c) (S : FnScope N ps (defScope st)) (len : ∀ vs H Q E, sp vs H Q E → vs.length = ps.length)
    (hbody : ∀ (A : Around) (outer : List Env) (s : Shared) (H : Hp) (vs : List V) (Q : VK) (E : XK), Room k (A.deeper (envOfC qual (defScope st) s.heap.objs.size f (.ref c))) → A.guards = some [] → sp vs H Q E →
      ∃ t, PSs (cxOf CX0 P w K mg base N qual (defScope st) f (.ref c) A outer s H E).nox (defBody st) t ∧ t { nx := fun _ H' => Q .non H', rt := Q } (start N vs) H) : FnG P w K mg base CX0 (k + 1) f fd ps sp := by
  obtain ⟨oc, od, kV, doc, pm, an, cdv, ct, osl, rfl, lk, hcd⟩ := F.ex
  obtain rfl : cdv = .ref c := hc
  refine ⟨len, fun A outer s H args us vs Q E hr hg e0 hb r hsp => ?_⟩
  have stays : ∀ b o, base.get? b = some o → s.heap.get? b = some o := fun b o e => (e0.bs b o e).1
  have KX : K.In s.heap := e0.mod.kin.keeps stays
  have kinds : ∀ y ∈ ps.zip us, (defScope st).names.lookup y.1 = some .local ∨ ((defScope st).names.lookup y.1 = some .cell ∧ ((cellsFrom (s.heap.objs.size + 1) (defScope st).names []).lookup y.1).isSome = true) := fun y hy =>
    (S.par y.1 (List.of_mem_zip (a := y.1) (b := y.2) hy).1).elim .inl fun q => .inr ⟨q, PySem.W.cellsFrom_some _ _ _ (.inl q)⟩
  refine codeAny_call_function hr.depth (KX _ _ lk) rfl S.co S.gen rfl (PySem.W.codeRec_of KX hcd) (hb _ _ _ _ (wpAny_newFunctionEnv_cells S.kind kinds fun env he s1 x => ?_))
  subst he
  refine ⟨(e0.mod.nolimit.keeps stays).keeps x.toInCall.keep, codeAny_func ?_⟩
  obtain ⟨t, ht, hq⟩ := hbody A outer s H vs Q E (hr.deeper _) hg hsp
  have I : Inv (cxOf CX0 P w K mg base N qual (defScope st) f (.ref c) A outer s H E) [] (start N vs) H s1 := inv_start S hr.hd e0 (len _ _ _ _ hsp) r x
  refine wpAny_mono (ht.nox.run [] s1 (start N vs) H _ I hq) (fun fl s' hs => ?_) fun e s' hs => hs
  cases fl with
  | ret u => exact hs.elim fun v z => z.elim fun σ' z => z.elim fun H' z => ⟨v, H', z.1.os, z.1.bare, z.1.base, z.1.hok, z.2.1, z.2.2⟩
  | next => exact hs.elim fun σ' z => z.elim fun H' z => ⟨V.non, H', z.1.os, z.1.bare, z.1.base, z.1.hok, rfl, z.2⟩
  | brk => exact hs.elim fun _ z => z.elim fun _ z => z.2.elim
  | cont => exact hs.elim fun _ z => z.elim fun _ z => z.2.elim
end
/-- the call of what was got: it stands in slot i; what it lets out is wished by W there -/
def tAct (i : Nat) (fn cc : Addr) (q : Str) (tl : XK → Hp → VK → Prop) (W : WX) : TE := fun σ H Q =>
  σ[i]? = some (some (.ref fn)) ∧ H cc = some (LamX.CodeO cc q) ∧ ∃ E : XK, (∀ cls d H', E cls d H' → W cls d σ H') ∧ tl E H Q
section
variable {X : Cx} {pins : List (Addr × Obj)} {σ : L2.St} {H : Hp} {s : Shared}
theorem pe_actS {CXg : CXT} {Eg : XK} {Ng : List Str} {qg : Str} {sg : Scope} {g fn cc : Addr} {cdg pm ctv : Value} {params : Arguments} {body : Expr} {scope : Scope} {k i : Nat} {a : Str} {pn : List (Addr × Obj)} {xe : Value → Shared → Prop} {W : WX} {tb : XK → TE} {p1 p2 : Pos}
    (I : Inv X pins σ H s) (L : LamX.LamS X.env.scope scope) (hf : s.heap.get? fn = some (PySem.W.kla_obj "<lambda>" (X.env.qual ++ "<lambda>") params body scope (cloFrom X.env.cells scope.names []) pm cc ctv)) (nfn : H fn = none) (frn : fn ∉ frs X.stack)
    (hbind : bindArgs (PySem.W.kla_fn "<lambda>" (X.env.qual ++ "<lambda>") params body scope (cloFrom X.env.cells scope.names []) pm (.ref cc) ctv) ⟨[], []⟩ = pure [])
    (tk : Takes ((cxOf CXg X.prog X.w X.K X.mg X.base Ng qg sg g cdg X.A X.stack s H Eg).tr pn xe) W) (hr : Room (k + 1) (X.A.deeper (envOfC qg sg s.heap.objs.size g cdg)))
    (hbody : ∀ (A : Around) (outer : List Env) (s' : Shared) (H' : Hp) (E : XK), Room k (A.deeper (LamX.lamEnv X scope s'.heap.objs.size fn cc)) → A.guards = X.A.guards → PE (LamX.lamCx X A outer s' H' E scope fn cc) body (tb E))
    (hN : Ng[i]? = some a) (hv : Vis sg a) (hd : (a == ("__debug__" : Str)) = false := by decide) (hcd : (a == ("__classdict__" : Str)) = false := by decide) :
    PE ((cxOf CXg X.prog X.w X.K X.mg X.base Ng qg sg g cdg X.A X.stack s H Eg).tr pn xe) (.Call (.Name a p1) [] [] p2) (tAct i fn cc (X.env.qual ++ "<lambda>") (fun E H' Q' => tb E σ H' Q') W) := by
  refine ⟨fun pinsZ sZ σZ HZ Q IZ want => ?_⟩
  obtain ⟨at_i, at_c, E, toW, told⟩ := want
  refine wpAny_Call_Name_kw (thn ((pe_var (pos := p1) (i := i) hN hv hd hcd).run pinsZ sZ σZ HZ (fun v H1 => v = .ref fn ∧ H1 = HZ) IZ ⟨.ref fn, at_i, rfl, rfl⟩) fun u s1 got => ?_)
  obtain ⟨v, H1, J1, rv, ev, eH⟩ := got
  subst ev
  subst eH
  obtain rfl : u = Value.ref fn := rv
  have stands := J1.base.keep fn _ hf nfn frn (fun z => nomatch (show fn ∈ ([] : List Addr) from z))
  refine PySem.W.callWith_F0 ⟨_, _, _, _, stands⟩ ?_
  have kept : Un (frs X.stack) [] H H1 s.heap s1.heap := J1.base
  obtain ⟨⟨ob, us, tk1, g1, g2, g3⟩, _, _⟩ := J1.hok cc _ at_c
  have runs : codeAny (model X.prog X.w) (X.A.deeper (envOfC qg sg s.heap.objs.size g cdg)) (.call (.ref fn) ⟨[], []⟩) (CR (L2.CX X.prog X.w) (envOfC qg sg s.heap.objs.size g cdg :: X.stack) X.prog X.w H1 s1 Q E) s1 := by
    refine PySem.W.kla_callFunE hr.depth stands rfl L.co L.gen rfl ⟨cc, ob, us, tk1, rfl, g1, g2, g3⟩ ?_
    rw [hbind]
    refine wpAny_pure (wpAny_newFunctionEnv (fun y hy => (L.own y hy).2) (fun y hy => absurd hy (by simp)) (fun h₂ names sub => ⟨J1.nolimit.fresh _ sub, ?_⟩) L.kind)
    show codeAny _ _ (.expr body (LamX.lamEnv X scope s1.heap.objs.size fn cc)) _ _
    have old : ∀ b o, s1.heap.get? b = some o → h₂.get? b = some o := fun b o e => sub.extBut b o (Nat.ne_of_lt (Heap.lt_size e)) (Heap.get?_push_of_some _ e)
    have J : Inv (LamX.lamCx X (X.A.deeper (envOfC qg sg s.heap.objs.size g cdg)) (envOfC qg sg s.heap.objs.size g cdg :: X.stack) s1 H1 E scope fn cc) [] σ H1 { s1 with heap := h₂, toks := s1.toks + ([] : List (Str × Value)).length } := LamX.lam_start2 I L J1.env0 hr.hd kept names old
    refine PySem.W.kla_codeExpr (wpAny_mono ((hbody _ _ s1 H1 E (hr.deeper _) rfl).run [] _ _ H1 Q J told) (fun v s' hq => hq.elim fun w' z => z.elim fun H' z => ⟨w', H', z.1.os, z.1.bare, z.1.base, z.1.hok, z.2.1, z.2.2⟩) fun e s' hq => hq)
  refine wpAny_call (codeAny_mono runs fun r s' hq => ?_)
  cases r with
  | error e => exact tk e s' (XE.of_call J1 (fun cls d H' h => toW cls d H' h) hq)
  | ok fl =>
    cases fl with
    | ret u => exact J1.after hq
    | next => exact hq.elim
    | brk => exact hq.elim
    | cont => exact hq.elim
/-- the def that calls what it got, by its body; TT: what it makes of the lambda's reading -/
def Gives (X : Cx) (Ng : List Str) (x : Str) (sg : Scope) (g : Addr) (cdg : Value) (bg : List Stmt) (a : Str) (q : Str) (k : Nat) (TT : (XK → Hp → VK → Prop) → Hp → VK → Prop) : Prop :=
  ∀ (fn cc : Addr) (s : Shared) (H : Hp) (Q : VK) (tl : XK → Hp → VK → Prop), Room (k + 1) (X.A.deeper (envOfC x sg s.heap.objs.size g cdg)) →
    (∀ (W : WX) (pn : List (Addr × Obj)) (xe : Value → Shared → Prop) (p1 p2 : Pos), Takes ((cxOf CX0 X.prog X.w X.K X.mg X.base Ng x sg g cdg X.A X.stack s H C8.E0).nox.tr pn xe) W →
      PE ((cxOf CX0 X.prog X.w X.K X.mg X.base Ng x sg g cdg X.A X.stack s H C8.E0).nox.tr pn xe) (.Call (.Name a p1) [] [] p2) (tAct 0 fn cc q tl W)) →
    H cc = some (LamX.CodeO cc q) → TT tl H Q →
    ∃ t, PSs (cxOf CX0 X.prog X.w X.K X.mg X.base Ng x sg g cdg X.A X.stack s H C8.E0).nox bg t ∧ t { nx := fun _ H' => Q .non H', rt := Q } (L2.start Ng [.ref fn]) H
end
section
variable {X : Cx}
/-- x(lambda: body) -/
theorem pe_lam {T : List (Addr × Str)} {TT : (XK → Hp → VK → Prop) → Hp → VK → Prop} {x a : Str} {g c P : Addr} {k : Nat} {st : Stmt} {fd : FuncData} {Ng : List Str} {params : Arguments} {body : Expr} {scope : Scope} {t : XK → TE} {p lpos pos : Pos}
    (F : Fun X.K x x st g fd) (hb : L2.Binds X.K fd [a] []) (Sg : FnScope Ng [a] (defScope st)) (hg : Gl X x) (hm : X.mg x = some (.ref g)) (hNg : Ng[0]? = some a) (hva : Vis (defScope st) a)
    (hG : ∀ cdv : Value, Gives X Ng x (defScope st) g cdv (defBody st) a (X.env.qual ++ "<lambda>") k TT)
    (TB : LamX.TabB X.base X.mg c P) (hcode : X.env.code = .ref c) (hmT : (P, X.env.qual ++ "<lambda>") ∈ T) (hu : ∀ p ∈ T, p.1 = P → p.2 = X.env.qual ++ "<lambda>") (hr : Room (k + 2) X.A) (L : LamX.LamS X.env.scope scope) (hdef : defaultsOf params X.env = ([], []))
    (hbind : ∀ (q : Str) (cl : List (Str × Addr)) (pm cv ctv : Value), bindArgs (PySem.W.kla_fn "<lambda>" q params body scope cl pm cv ctv) ⟨[], []⟩ = pure [])
    (hbody : ∀ (A : Around) (outer : List Env) (s' : Shared) (H' : Hp) (E : XK) (fn cc : Addr), Room k (A.deeper (LamX.lamEnv X scope s'.heap.objs.size fn cc)) → A.guards = X.A.guards → PE (LamX.lamCx X A outer s' H' E scope fn cc) body (t E))
    (hdb : (x == ("__debug__" : Str)) = false := by decide) (hd : (a == ("__debug__" : Str)) = false := by decide) (hcd : (a == ("__classdict__" : Str)) = false := by decide) :
    PE X (.Call (.Name x p) [.Lambda params body scope lpos] [] pos) (LamX.tLam T TT t) := by
  refine ⟨fun pins s σ H Q I want => ?_⟩
  obtain ⟨oc, od, kV, doc, pm, an, cdv, ct, osl, rfl, lk, hcg⟩ := F.ex
  obtain ⟨tabs, told⟩ := want
  refine wpAny_Call_Name_kw (ld_glob I hg hm (PySem.W.callWith_K (h₀ := X.base) I.ok.mod.kin F.kp ?_ (by rfl) (by rfl)) hdb)
  show wpAny _ _ (spliced ((false, eval (.Lambda params body scope lpos) X.env) :: backTo pos (starEach [] X.env))) _ _ s
  refine Calls.spliced_cons (LamX.lam_make2 I TB hcode hmT hu tabs hdef (L.has I.ok) fun fn cc pm' ctv H1 s1 J ext tabs1 stands nfn frn hco => Calls.spliced_nil ⟨J.kIn, ?_⟩)
  have runs : codeAny (model X.prog X.w) X.A (.call (.ref g) ⟨[.ref fn], []⟩) (CR CX0 X.stack X.prog X.w H1 s1 Q C8.E0) s1 := by
    refine LamX.run_ofS (N := Ng) (ps := [a]) (us := [.ref fn]) (vs := [.ref fn]) lk hcg Sg hr J.env0 (hb s1 [.ref fn] J.kIn rfl) (.cons rfl .nil) rfl fun hr1 => ?_
    obtain ⟨t1, ht1, hq1⟩ := hG cdv fn cc s1 H1 Q (fun E H' Q' => t E σ H' Q') hr1 (fun W pn xe p1 p2 tk => pe_actS (CXg := CX0) (Eg := C8.E0) (i := 0) J L stands nfn frn (hbind _ _ _ _ _) tk hr1 (fun A outer s' H' E hr2 hgu => hbody A outer s' H' E fn cc hr2 hgu) hNg hva hd hcd) hco (told H1 ext tabs1)
    exact ⟨t1, ht1.nox, hq1⟩
  refine wpAny_call (codeAny_mono runs fun r s2 hq => ?_)
  cases r with
  | error e => exact (show False from hq).elim
  | ok fl =>
    cases fl with
    | ret u => exact J.after hq
    | next => exact hq.elim
    | brk => exact hq.elim
    | cont => exact hq.elim
end
end Mo

/-! ### the end of a law that makes lambdas: the tables of code objects are empty at the start -/
namespace Mo
open PySem PySem.Spec PyProof.Rows L2
def tab0 : Obj := { cls := .none, data := .fields #[] }
/-- what the abstract heap knows at the start: the script, and the tables ts -/
def Start (ts : List Addr) (a : Addr) (H : Hp) : Prop := (∀ b ∈ ts, H b = some (.tbl #[])) ∧ ∀ b, b ∉ ts → H b = none ∨ (b = a ∧ ∃ o xs, H b = some (.frz o (.lst xs)))
theorem callT {P : Program} {w : World} {K : PySem.W.Frag} {mg mb : Str → Option Value} {CX : CXT} {k : Nat} {fa a : Addr} {cs : List (Addr × Addr)} {fd : FuncData} {x : Str} {sp : Sp} {s₁ : Shared} {vs : List Value} {ns : List Int}
    (KX : K.In s₁.heap) (hns : s₁.heap.Ns mainGlobals mg) (hb : s₁.heap.Ns builtinsNs mb) (hbb : ∀ x : Str, x ≠ "__name__" → mb x = bootBuiltins x) (hlim : s₁.heap.NoLimit) (hg : s₁.gens = #[])
    (hT : ∀ p ∈ cs, s₁.heap.get? p.2 = some tab0) (nT : ∀ p ∈ cs, K.lookup p.2 = none) (C : ∀ p ∈ cs, PySem.W.CodeHd s₁.heap p.1 p.2)
    (bmain : ∃ (bm : Addr) (ob : Obj), mg "__builtins__" = some (.ref bm) ∧ bm ≠ builtinsNs ∧ s₁.heap.get? bm = some ob ∧ ob.cls = .type "module" ∧ ob.dict = some builtinsNs ∧ ob.data = .plain)
    (ha : s₁.heap.get? a = some { cls := .type "list", data := .seq vs.toArray }) (hi : IntsAre vs ns) (hl : ns.length ≤ sizeLine) (hr : Room k callerA)
    (F : ∀ base : Heap, K.In base → base.Ns mainGlobals mg → (∀ p ∈ cs, LamX.TabB base mg p.1 p.2) → (∀ b m, s₁.heap.Ns b m → base.Ns b m) → FnG P w K mg base CX k fa fd [x] sp) (hbind : ∀ (s : Shared) (u : Value), BindsTo s fd ⟨[u], []⟩ [(x, u)])
    (hsp : ∀ H : Hp, (∀ p ∈ cs, H p.2 = some (.tbl #[])) → SqL K H a (ns.map V.int) → sp [.ref a] H (fun v _ => v = .bl true) fun _ _ _ => False)
    (hCX : ∀ H e s', CX [] H s₁ (fun _ _ _ => False) e s' → False) :
    codeAny (model P w) callerA (.call (.ref fa) ⟨[.ref a], []⟩) (fun r s' => r = .ok (.ret (.bool true)) ∧ OldK s₁.heap s'.heap ∧ s'.os = s₁.os ∧ AllBare s'.gens) s₁ := by
  have rv := vals_ints hi
  have lenV := hi.length
  obtain ⟨ts, hts⟩ : ∃ ts : List Addr, ts = cs.map fun p => p.2 := ⟨_, rfl⟩
  have inT : ∀ p ∈ cs, p.2 ∈ ts := fun p hp => hts ▸ List.mem_map.mpr ⟨p, hp, rfl⟩
  have ofT : ∀ b ∈ ts, ∃ p ∈ cs, p.2 = b := fun b hm => List.mem_map.mp (hts ▸ hm)
  have tabAt : ∀ b ∈ ts, s₁.heap.get? b = some tab0 := fun b hm => by
    obtain ⟨p, hp, rfl⟩ := ofT b hm
    exact hT p hp
  have naT : a ∉ ts := fun z => by
    have q := (tabAt a z).symm.trans ha
    cases q
  have core : ∀ H : Hp, Start ts a H → SqL K H a (ns.map V.int) → HOk P w H s₁.heap → (H a ≠ none → K.lookup a = none) →
      codeAny (model P w) callerA (.call (.ref fa) ⟨[.ref a], []⟩) (fun r s' => r = .ok (.ret (.bool true)) ∧ OldK s₁.heap s'.heap ∧ s'.os = s₁.os ∧ AllBare s'.gens) s₁ := by
    intro H hS0 hS hok hK
    have free : ∀ {b : Addr} {o : Obj}, s₁.heap.get? b = some o → (∀ us n, o.data ≠ .seq us n) → o.data ≠ .fields #[] → H b = none := fun {b o} e no1 no2 => by
      by_cases hm : b ∈ ts
      · have q := (tabAt b hm).symm.trans e
        cases q
        exact absurd rfl no2
      · rcases hS0.2 b hm with z | ⟨rfl, _⟩
        · exact z
        · rw [ha] at e
          cases e
          exact absurd rfl (no1 _ _)
    have grnd : ∀ {b : Addr} {o : Obj}, s₁.heap.get? b = some o → H b = none → (hidT s₁.heap H).get? b = some o := fun e n => hidT_get e n
    have nsK : ∀ {b : Addr} {m : Str → Option Value}, s₁.heap.Ns b m → (hidT s₁.heap H).Ns b m := fun {b m} ⟨o, es, ep, e, d, r⟩ => ⟨o, es, ep, grnd e (free e (fun us n z => nomatch d.symm.trans z) fun z => nomatch d.symm.trans z), d, r⟩
    have hKb : K.In (hidT s₁.heap H) := fun b o e => grnd (KX b o e) (by
      by_cases hm : b ∈ ts
      · obtain ⟨p, hp, rfl⟩ := ofT b hm
        rw [nT p hp] at e
        cases e
      · rcases hS0.2 b hm with z | ⟨rfl, o1, xs, z⟩
        · exact z
        · rw [hK (by rw [z]; exact Option.some_ne_none _)] at e
          cases e)
    have hM : Mod K mg (hidT s₁.heap H) := ⟨hKb, nsK hns, ⟨mb, nsK hb, hbb⟩, hlim.elim fun mc z => ⟨mc, nsK z.1, z.2⟩⟩
    have TB : ∀ p ∈ cs, LamX.TabB (hidT s₁.heap H) mg p.1 p.2 := fun p hp => by
      have at_p := hT p hp
      refine ⟨?_, ?_, fun z => ?_⟩
      · obtain ⟨o, us, file, tf, flags, tg, inF, text, tt, e1, r1, r2, r3, rest⟩ := C p hp
        refine ⟨o, us, file, tf, flags, tg, inF, text, tt, grnd e1 (free e1 (fun vs n z => nomatch r2.symm.trans z) fun z => ?_), r1, r2, r3, rest⟩
        have q := r2.symm.trans z
        cases q
        exact absurd r3 (by simp)
      · obtain ⟨bm, ob, b1, b2, b3, b4, b5, b6⟩ := bmain
        refine ⟨bm, ob, b1, b2, fun q => ?_, fun q => ?_, grnd b3 (free b3 (fun vs n z => nomatch b6.symm.trans z) fun z => nomatch b6.symm.trans z), b4, b5, b6⟩
        · obtain ⟨o, es, ep, e, hd, _⟩ := hns
          rw [q, e] at b3
          cases b3
          cases hd.symm.trans b6
        · rw [q, at_p] at b3
          cases b3
          cases b6
      · obtain ⟨o, es, ep, e, hd, _⟩ := hns
        rw [z, at_p] at e
        cases e
        cases hd
    have e0 : Env0 P w K mg (hidT s₁.heap H) callerA [] s₁ H := ⟨rfl, hM, fun b o e => of_hidT e, Nat.le_of_eq (hidT_size _ _), trivial, fun b hb => absurd (show b ∈ ([] : List Addr) from hb) (by simp), hok, .of_eq hg⟩
    refine codeAny_mono ((F _ hKb (nsK hns) TB fun b m z => nsK z).run callerA [] s₁ H ⟨[.ref a], []⟩ [.ref a] [.ref a] _ _ hr rfl e0 (hbind s₁ (.ref a)) (.cons rfl .nil) (hsp H (fun p hp => hS0.1 _ (inT p hp)) hS)) fun r s' h => ?_
    cases r with
    | error e => exact (hCX H e s' h).elim
    | ok fl =>
      cases fl with
      | next => exact h.elim
      | brk => exact h.elim
      | cont => exact h.elim
      | ret u =>
        obtain ⟨v, H', os, bare, un, hok', r', q⟩ := h
        obtain rfl : v = .bl true := q
        obtain rfl : u = Value.bool true := r'
        have same : ∀ b o, b ∉ ts → s₁.heap.get? b = some o → s'.heap.get? b = some o := fun b o hm e => by
          rcases hS0.2 b hm with z | ⟨_, ob, xs, z⟩
          · exact un.keep b o e z (by intro z; exact absurd (show b ∈ ([] : List Addr) from z) (by simp)) (by simp)
          · have e1 := (hok b _ z).1
            rw [e] at e1
            cases e1
            exact (hok' b _ (un.frzs b _ _ z)).1
        have more : ∀ b ∈ ts, ∃ us : Array Value, s'.heap.get? b = some { cls := .none, data := .fields us } := fun b hm => by
          obtain ⟨us, z⟩ := un.tbls b #[] (hS0.1 b hm)
          exact ⟨_, hok' b _ z⟩
        refine ⟨rfl, ⟨fun b o e => ?_, fun b o e => ?_⟩, os, bare⟩
        · by_cases hm : b ∈ ts
          · obtain ⟨us, z⟩ := more b hm
            obtain ⟨p, hp, rfl⟩ := ofT b hm
            have q := (hT p hp).symm.trans e
            cases q
            exact .inr (.inl ⟨((C p hp).tab (hT p hp)).isCodeTable, rfl, #[], us, rfl, by rw [Array.empty_append]; exact z⟩)
          · exact .inl (same b o hm e)
        · by_cases hm : b ∈ ts
          · exact (more b hm).elim fun us z => ⟨_, z⟩
          · exact ⟨o, same b o hm e⟩
  cases hk : K.lookup a with
  | some o =>
    have e := (KX a o hk).symm.trans ha
    cases e
    have no : ∀ b, b ∉ ts → (if b ∈ ts then some (HO.tbl #[]) else none) = none := fun b hm => if_neg hm
    refine core (fun b => if b ∈ ts then some (.tbl #[]) else none) ⟨fun b hm => if_pos hm, fun b hm => .inl (no b hm)⟩ (.inr ⟨_, vs.toArray, _, hk, rfl, rfl, rfl, by rw [List.size_toArray, lenV]; exact hl, by simpa using rv⟩) (fun b u z => ?_) fun z => absurd (no a naT) z
    by_cases hm : b ∈ ts
    · have q := (if_pos hm).symm.trans z
      cases q
      exact tabAt b hm
    · cases (no b hm).symm.trans z
  | none =>
    have at_a : ∀ {u : HO}, (if a = a then some u else if a ∈ ts then some (HO.tbl #[]) else none) = some u := fun {u} => if_pos rfl
    have nb : ∀ b ∈ ts, b ≠ a := fun b hm z => naT (z ▸ hm)
    refine core (fun b => if b = a then some (.frz { cls := .type "list", data := .seq vs.toArray } (.lst (ns.map V.int))) else if b ∈ ts then some (.tbl #[]) else none)
      ⟨fun b hm => (if_neg (nb b hm)).trans (if_pos hm), fun b hm => ?_⟩ (.inl (.inr ⟨{ cls := .type "list", data := .seq vs.toArray }, at_a⟩)) (fun b u z => ?_) fun _ => hk
    · by_cases e : b = a
      · exact .inr ⟨e, _, _, if_pos e⟩
      · exact .inl ((if_neg e).trans (if_neg hm))
    · by_cases e : b = a
      · have q := (if_pos e).symm.trans z
        cases q
        rw [e]
        exact ⟨ha, by rw [List.length_map]; exact hl, vs, _, rv, ha⟩
      · have q := (if_neg e).symm.trans z
        by_cases hm : b ∈ ts
        · have q1 := (if_pos hm).symm.trans q
          cases q1
          exact tabAt b hm
        · cases (if_neg hm).symm.trans q
/-- the tables of the defs of the text are empty when the law is called -/
def Empties (q : Program) (K : PySem.W.Frag) (mg : Str → Option Value) (h : Heap) : Prop := ∀ (n : Str) (a c P : Addr) (o : Obj) (fd : FuncData), ((recsOf q).any fun e => e.name == n) = true → mg n = some (.ref a) → K.lookup a = some o → o.data = .func fd → fd.code = .ref c → PySem.W.codeHdIn K c P = true → h.get? P = some tab0
/-- what is known of the law's promise at the head's heap -/
def LawT (l : PySem.W.OpenLaw) (w : World) (K : PySem.W.Frag) (CX : CXT) (k n : Nat) (x : Str) (mg : Str → Option Value) (fa : Addr) (h : Heap) : Prop :=
  ∃ (fd : FuncData) (cs : List (Addr × Addr)) (sp : Sp), (∀ p ∈ cs, h.get? p.2 = some tab0) ∧ (∀ p ∈ cs, K.lookup p.2 = none) ∧ (∀ p ∈ cs, PySem.W.codeHdIn K p.1 p.2 = true) ∧ (∀ (s : Shared) (u : Value), BindsTo s fd ⟨[u], []⟩ [(x, u)]) ∧
    (∀ (H : Hp) (a : Addr) (ns : List Int), ns.length ≤ n → (∀ p ∈ cs, H p.2 = some (.tbl #[])) → SqL K H a (ns.map V.int) → sp [.ref a] H (fun v _ => v = .bl true) fun _ _ _ => False) ∧
    ∀ base : Heap, K.In base → base.Ns mainGlobals mg → (∀ p ∈ cs, LamX.TabB base mg p.1 p.2) → (∃ mm, base.Ns sysModules mm) → FnG l.prog w K mg base CX k fa fd [x] sp
theorem walkT {l : PySem.W.OpenLaw} {n k : Nat} {q : Program} {loose : List Str} {XP : (Str → Option Value) → Heap → Prop} {YP : World → Heap → Prop} {d : DefRec} {K : Params → PySem.W.Frag} {CX : World → CXT} {x : Str}
    (hn : l.most = some n) (hn2 : n ≤ sizeLine) (hdf : d.params.defaults = []) (hr : Room k callerA) (hY : ∀ (w : World) (h : Heap), YP w h → (K w.params).In h) (hi : importsNone q = true)
    (F : ∀ (w : World) (mg : Str → Option Value) (fa : Addr) (h : Heap), (K w.params).In h → h.Ns mainGlobals mg → mg d.name = some (.ref fa) → Empties q (K w.params) mg h → LawT l w (K w.params) (CX w) k n x mg fa h)
    (hCX : ∀ (w : World) (H : Hp) (s : Shared) (e : Value) (s' : Shared), CX w [] H s (fun _ _ _ => False) e s' → False) :
    PySem.W.WalkO q loose XP YP l.row.toRowW d [] (fun f vs => PySem.call f vs) := by
  refine Att.attach_call hn hdf fun w s₀ s₁ mg mb fa o pm cd doc a vs ns G Y ho hd hcd hmg hobj hints hlen hg => ?_
  have KX := hY w _ Y
  have em : Empties q (K w.params) mg s₁.heap := fun n1 a1 c1 P1 o1 fd1 hrec g1 g2 g3 g4 g5 => by
    obtain ⟨dL, hm, en⟩ := List.any_eq_true.mp hrec
    have en2 : dL.name = n1 := beq_iff_eq.mp en
    obtain ⟨a2, o2, fd2, c2, P2, t1, t2, t3, t4, _, ⟨oc, vc, u1, _, u3, u4⟩, hP⟩ := G.T.tab dL hm
    cases (by rw [en2, g1] at t1; exact t1 : some (Value.ref a1) = some (Value.ref a2))
    have x1 := (KX _ _ g2).symm.trans t2
    cases x1
    cases g3.symm.trans t3
    cases g4.symm.trans t4
    obtain ⟨ob, us, _, _, _, _, _, _, _, y1, _, y2, y3, _⟩ := PySem.W.codeHd_of_K KX g5
    cases y1.symm.trans u1
    cases y2.symm.trans u3
    cases y3.symm.trans u4
    exact hP
  obtain ⟨fd, cs, sp, hT, nT, C, hb, hsp, hF⟩ := F w mg fa _ KX G.T.g hmg em
  obtain ⟨mm, hmm, _⟩ := (G.T.seer hi).mods
  exact callT KX G.T.g G.T.b G.T.builtins G.T.nolimit hg hT nT (fun p hp => PySem.W.codeHd_of_K KX (C p hp)) G.T.bmain hobj hints (Nat.le_trans hlen hn2) hr (fun base a b c d => hF base a b c ⟨mm, d _ _ hmm⟩) hb (fun H hH hS => hsp H a ns hlen hH hS) fun H e s' => hCX w H s₁ e s'
end Mo

/-! ### data of any kind: None, bools, ints, texts, lists, tuples, dicts (keys ints and texts), at any depth -/
namespace Mo
open PySem PySem.Spec PyProof.Rows L2
def keyD : Key → PyData
  | .inl i => .int i
  | .inr x => .str x
mutual
inductive Dx (N : Addr → Prop) (H : Hp) : V → PyData → Prop
  | non : Dx N H .non .none
  | bl (b : Bool) : Dx N H (.bl b) (.bool b)
  | int (i : Int) : Dx N H (.int i) (.int i)
  | str (x : Str) : Dx N H (.str x) (.str x)
  | lst {a : Addr} {xs : List V} {ds : List PyData} : H a = some (.lst xs) → ¬ N a → DxAll N H xs ds → Dx N H (.ref a) (.list ds)
  | tup {a : Addr} {xs : List V} {ds : List PyData} : H a = some (.tup xs) → ¬ N a → DxAll N H xs ds → Dx N H (.ref a) (.tuple ds)
  | dct {a : Addr} {kvs : List (Key × V)} {ds : List PyData} : H a = some (.dK kvs) → ¬ N a → DxAll N H (kvs.map (·.2)) ds → Dx N H (.ref a) (.dict ((kvs.map fun kv => keyD kv.1).zip ds))
inductive DxAll (N : Addr → Prop) (H : Hp) : List V → List PyData → Prop
  | nil : DxAll N H [] []
  | cons {v : V} {vs : List V} {d : PyData} {ds : List PyData} : Dx N H v d → DxAll N H vs ds → DxAll N H (v :: vs) (d :: ds)
end
theorem DxAll.length {N : Addr → Prop} {H : Hp} : ∀ {vs : List V} {ds : List PyData}, DxAll N H vs ds → vs.length = ds.length
  | _, _, .nil => rfl
  | _, _, .cons _ t => by rw [List.length_cons, List.length_cons, DxAll.length t]
mutual
theorem Dx.same {N : Addr → Prop} {H H' : Hp} (s : Same H H') : ∀ {v : V} {d : PyData}, Dx N H v d → Dx N H' v d
  | _, _, .non => .non
  | _, _, .bl b => .bl b
  | _, _, .int i => .int i
  | _, _, .str x => .str x
  | _, _, .lst h n t => .lst (s _ _ h) n (DxAll.same s t)
  | _, _, .tup h n t => .tup (s _ _ h) n (DxAll.same s t)
  | _, _, .dct h n t => .dct (s _ _ h) n (DxAll.same s t)
theorem DxAll.same {N : Addr → Prop} {H H' : Hp} (s : Same H H') : ∀ {v : List V} {d : List PyData}, DxAll N H v d → DxAll N H' v d
  | _, _, .nil => .nil
  | _, _, .cons h t => .cons (Dx.same s h) (DxAll.same s t)
end
mutual
/-- all but what N names, which the data does not hold -/
theorem Dx.but {N : Addr → Prop} {H H' : Hp} (s : ∀ b o, ¬ N b → H b = some o → H' b = some o) : ∀ {v : V} {d : PyData}, Dx N H v d → Dx N H' v d
  | _, _, .non => .non
  | _, _, .bl b => .bl b
  | _, _, .int i => .int i
  | _, _, .str x => .str x
  | _, _, .lst h n t => .lst (s _ _ n h) n (DxAll.but s t)
  | _, _, .tup h n t => .tup (s _ _ n h) n (DxAll.but s t)
  | _, _, .dct h n t => .dct (s _ _ n h) n (DxAll.but s t)
theorem DxAll.but {N : Addr → Prop} {H H' : Hp} (s : ∀ b o, ¬ N b → H b = some o → H' b = some o) : ∀ {v : List V} {d : List PyData}, DxAll N H v d → DxAll N H' v d
  | _, _, .nil => .nil
  | _, _, .cons h t => .cons (Dx.but s h) (DxAll.but s t)
end
mutual
/-- another N that names no more of what is there -/
theorem Dx.more {N N' : Addr → Prop} {H : Hp} (s : ∀ b, H b ≠ none → N' b → N b) : ∀ {v : V} {d : PyData}, Dx N H v d → Dx N' H v d
  | _, _, .non => .non
  | _, _, .bl b => .bl b
  | _, _, .int i => .int i
  | _, _, .str x => .str x
  | _, _, .lst h n t => .lst h (fun z => n (s _ (by rw [h]; exact Option.some_ne_none _) z)) (DxAll.more s t)
  | _, _, .tup h n t => .tup h (fun z => n (s _ (by rw [h]; exact Option.some_ne_none _) z)) (DxAll.more s t)
  | _, _, .dct h n t => .dct h (fun z => n (s _ (by rw [h]; exact Option.some_ne_none _) z)) (DxAll.more s t)
theorem DxAll.more {N N' : Addr → Prop} {H : Hp} (s : ∀ b, H b ≠ none → N' b → N b) : ∀ {v : List V} {d : List PyData}, DxAll N H v d → DxAll N' H v d
  | _, _, .nil => .nil
  | _, _, .cons h t => .cons (Dx.more s h) (DxAll.more s t)
end
theorem DxAll.append {N : Addr → Prop} {H : Hp} : ∀ {vs ws : List V} {ds es : List PyData}, DxAll N H vs ds → DxAll N H ws es → DxAll N H (vs ++ ws) (ds ++ es)
  | _, _, _, _, .nil, h => h
  | _, _, _, _, .cons a t, h => .cons a (DxAll.append t h)
theorem DxAll.get {N : Addr → Prop} {H : Hp} : ∀ {vs : List V} {ds : List PyData} {i : Nat} {v : V}, DxAll N H vs ds → vs[i]? = some v → ∃ d, ds[i]? = some d ∧ Dx N H v d
  | _, _, _, _, .nil, h => by simp at h
  | _, _, 0, _, .cons a t, h => by
    obtain rfl := Option.some.inj h
    exact ⟨_, rfl, a⟩
  | _, _, i + 1, _, .cons a t, h => by
    obtain ⟨d, e, q⟩ := DxAll.get (i := i) t h
    exact ⟨d, e, q⟩
theorem DxAll.mem {N : Addr → Prop} {H : Hp} {vs : List V} {ds : List PyData} {v : V} (h : DxAll N H vs ds) (hv : v ∈ vs) : ∃ d ∈ ds, Dx N H v d := by
  obtain ⟨i, hi⟩ := List.mem_iff_getElem?.mp hv
  obtain ⟨d, e, q⟩ := h.get hi
  exact ⟨d, List.mem_of_getElem? e, q⟩
section
variable {X : Cx} {N : Addr → Prop} {pins : List (Addr × Obj)} {σ : L2.St} {H : Hp} {s : Shared}
theorem key_reads {h : Heap} {k : Key} {u : Value} (e : keyIs k u = true) : Reads h u (keyD k) [] := by
  rcases keyIs_shape e with ⟨i, t, rfl, rfl⟩ | ⟨z, t, rfl, rfl⟩
  · exact .int i t
  · exact .str z t
theorem keys_read {P : Program} {w : World} {h : Heap} : ∀ {es : List DictEntry} {vs : List (Key × Value)}, Pairs (mixKind P w) es vs → ReadsAll h (es.map (·.key)) (vs.map fun kv => keyD kv.1) []
  | _, _, .nil => .nil
  | _, _, .cons e _ t => by
    have q := ReadsAll.cons (key_reads (h := h) e) (keys_read t)
    exact q
theorem vals_eq {P : Program} {w : World} : ∀ {es : List DictEntry} {vs : List (Key × Value)}, Pairs (mixKind P w) es vs → es.map (·.val) = vs.map (·.2)
  | _, _, .nil => rfl
  | _, _, .cons _ e t => by
    rw [List.map_cons, List.map_cons, e, vals_eq t]
theorem kv_keys : ∀ {kvs : List (Key × V)} {vs : List (Key × Value)}, KV kvs vs → kvs.map (fun kv => keyD kv.1) = vs.map (fun kv => keyD kv.1)
  | _, _, .nil => rfl
  | _, _, .cons h t => by
    rw [List.map_cons, List.map_cons, h.1, kv_keys t]
theorem kv_vals : ∀ {kvs : List (Key × V)} {vs : List (Key × Value)}, KV kvs vs → Vals (kvs.map (·.2)) (vs.map (·.2))
  | _, _, .nil => .nil
  | _, _, .cons h t => .cons h.2 (kv_vals t)
mutual
theorem Dx.reads (I : Inv X pins σ H s) (hs : H sysModules = none) : ∀ {x : V} {d : PyData}, Dx N H x d → ∀ {u : Value}, RelV x u → ∃ as, Reads s.heap u d as ∧ sysModules ∉ as
  | _, _, .non, u, r => by
    obtain rfl : u = Value.none := r
    exact ⟨[], .none, by simp⟩
  | _, _, .bl b, u, r => by
    obtain rfl : u = Value.bool b := r
    exact ⟨[], .bool b, by simp⟩
  | _, _, .int i, u, r => by
    obtain ⟨t, rfl⟩ : ∃ t, u = Value.int i t := r
    exact ⟨[], .int i t, by simp⟩
  | _, _, .str x, u, r => by
    obtain ⟨t, rfl⟩ : ∃ t, u = Value.str x t := r
    exact ⟨[], .str x t, by simp⟩
  | _, _, .lst (a := a) (xs := xs) ha hN t, u, r => by
    obtain rfl : u = Value.ref a := r
    obtain ⟨_, its, n, rv, e⟩ := (show ObjOk X.prog X.w H s.heap a (.lst xs) from I.hok a _ ha)
    obtain ⟨as, q, ns⟩ := DxAll.reads I hs t rv
    refine ⟨a :: as, .list e rfl rfl (by simpa using q), fun z => ?_⟩
    rcases List.mem_cons.mp z with z | z
    · rw [z, ha] at hs
      cases hs
    · exact ns z
  | _, _, .tup (a := a) (xs := xs) ha hN t, u, r => by
    obtain rfl : u = Value.ref a := r
    obtain ⟨_, its, rv, o, e, hc, n, hd⟩ := (show ObjOk X.prog X.w H s.heap a (.tup xs) from I.hok a _ ha)
    obtain ⟨as, q, ns⟩ := DxAll.reads I hs t rv
    exact ⟨as, .tuple e hc hd (by simpa using q), ns⟩
  | _, _, .dct (a := a) (kvs := kvs) (ds := ds) ha hN t, u, r => by
    obtain rfl : u = Value.ref a := r
    obtain ⟨_, _, vs, kv, o, es, ep, ho, hc, hdt, _, hp, _⟩ := (show ObjOk X.prog X.w H s.heap a (.dK kvs) from I.hok a _ ha)
    obtain ⟨as, q, ns⟩ := DxAll.reads I hs t (kv_vals kv)
    have hl := DxAll.length t
    have hl2 : (kvs.map fun kv => keyD kv.1).length = ds.length := by rw [List.length_map, ← hl, List.length_map]
    have k1 := keys_read (h := s.heap) hp
    rw [← kv_keys kv] at k1
    refine ⟨_, .dict (as := []) (bs := as) ho hc.1 hdt ?_ ?_, fun z => ?_⟩
    · rw [List.map_fst_zip (Nat.le_of_eq hl2)]
      exact k1
    · rw [List.map_snd_zip (Nat.le_of_eq hl2.symm), vals_eq hp]
      exact q
    · rcases List.mem_append.mp z with z | z
      · rw [List.mem_singleton.mp z, ha] at hs
        cases hs
      · exact ns z
theorem DxAll.reads (I : Inv X pins σ H s) (hs : H sysModules = none) : ∀ {xs : List V} {ds : List PyData}, DxAll N H xs ds → ∀ {us : List Value}, Vals xs us → ∃ as, ReadsAll s.heap us ds as ∧ sysModules ∉ as
  | _, _, .nil, _, .nil => ⟨[], .nil, by simp⟩
  | _, _, .cons h t, _, .cons r rs => by
    obtain ⟨as, q, n⟩ := Dx.reads I hs h r
    obtain ⟨bs, q2, n2⟩ := DxAll.reads I hs t rs
    exact ⟨as ++ bs, .cons q q2, fun z => (List.mem_append.mp z).elim n n2⟩
end
/-- repr(data) -/
def rReprX : List V → Hp → VK → Prop := fun xs H Q => ∃ (N : Addr → Prop) (x : V) (d : PyData), xs = [x] ∧ Dx N H x d ∧ d.showable = true ∧ d.depth ≤ 40 ∧ d.shown.length ≤ sizeLine ∧ Q (.str d.shown) H
theorem cr_reprX (hb : ∃ mm, X.base.Ns sysModules mm) (hg : X.A.guards = some []) (hu : X.A.units + 64 < cLine) : CallR X (.builtin "repr") rReprX := by
  intro pins s σ H xs us Q I r h
  obtain ⟨N, x, d, rfl, hd, hs, hdp, hz, q⟩ := h
  obtain ⟨u, rfl, ru⟩ := vals1 r
  have h1 : H sysModules = none := by
    obtain ⟨mm, o, es, ep, e, _⟩ := hb
    exact (I.bs _ _ e).2
  obtain ⟨as, rd, hsm⟩ := Dx.reads I h1 hd ru
  cases rd with
  | none => exact PySem.P.repr_of_none ⟨.str _, H, I.tok _, ⟨_, rfl⟩, q⟩
  | bool b => exact PySem.P.repr_of_bool ⟨.str _, H, I.tok _, ⟨_, rfl⟩, q⟩
  | int i t => exact PySem.P.repr_of_int (of_decide_eq_true hs) ⟨.str _, H, I.tok _, ⟨_, rfl⟩, q⟩
  | str z t => exact PySem.P.repr_of_str ⟨.str _, H, I.tok _, ⟨_, rfl⟩, q⟩ hz
  | list a1 a2 a3 a4 => exact repr_of_reads' (.list a1 a2 a3 a4) hs (fun _ => hsm) hg (by omega) (fun _ _ e => e) (fun h' u' tk hk => ⟨.str _, H, I.kept (t' := tk) hk, ⟨_, rfl⟩, q⟩) hz
  | tuple a1 a2 a3 a4 => exact repr_of_reads' (.tuple a1 a2 a3 a4) hs (fun _ => hsm) hg (by omega) (fun _ _ e => e) (fun h' u' tk hk => ⟨.str _, H, I.kept (t' := tk) hk, ⟨_, rfl⟩, q⟩) hz
  | dict a1 a2 a3 a4 a5 => exact repr_of_reads' (.dict a1 a2 a3 a4 a5) hs (fun _ => hsm) hg (by omega) (fun _ _ e => e) (fun h' u' tk hk => ⟨.str _, H, I.kept (t' := tk) hk, ⟨_, rfl⟩, q⟩) hz
end
end Mo

/-! ### rules for data of any kind -/
namespace Mo
open PySem PySem.Spec PyProof.Rows L2
section
variable {X : Cx}
/-- a list of anything == [] -/
def rEqNil (K : PySem.W.Frag) : R2 := fun x y H Q => ∃ a b xs, x = .ref a ∧ y = .ref b ∧ SqL K H a xs ∧ SqL K H b [] ∧ Q (.bl xs.isEmpty) H
theorem op_eqNil (hu : X.A.units + 64 < cLine) : OpR X (compareOp .Eq) (rEqNil X.K) := by
  intro pins s σ H x y v u Q I rx ry h
  obtain ⟨a, b, xs, rfl, rfl, ha, hb, q⟩ := h
  cases rx
  cases ry
  obtain ⟨is, r1, p1, _⟩ := I.list ha
  obtain ⟨js, r2, p2, _⟩ := I.list hb
  cases r2
  cases r1 with
  | nil => exact SeqAt.eq_listAt (e := fun _ => true) p1.isList p2.isList rfl (by omega) (fun j h1 => absurd h1 (by simp)) ⟨.bl true, H, I, rfl, q⟩
  | cons r rs => exact SeqAt.eq_list_lengthsAt p1.isList p2.isList (by simp) (by omega) ⟨.bl false, H, I, rfl, q⟩
/-- a list of anything != [] -/
def rNeNil (K : PySem.W.Frag) : R2 := fun x y H Q => ∃ a b xs, x = .ref a ∧ y = .ref b ∧ SqL K H a xs ∧ SqL K H b [] ∧ Q (.bl (!xs.isEmpty)) H
theorem op_neNil (hu : X.A.units + 64 < cLine) : OpR X (compareOp .NotEq) (rNeNil X.K) := by
  intro pins s σ H x y v u Q I rx ry h
  obtain ⟨a, b, xs, rfl, rfl, ha, hb, q⟩ := h
  cases rx
  cases ry
  obtain ⟨is, r1, p1, _⟩ := I.list ha
  obtain ⟨js, r2, p2, _⟩ := I.list hb
  cases r2
  cases r1 with
  | nil => exact SeqAt.RcNeAt.lists (e := fun _ => true) p1.isList p2.isList rfl (by omega) (fun j h1 => absurd h1 (by simp)) X.prog X.w X.xe _ ⟨.bl false, H, I, rfl, q⟩
  | cons r rs => exact SeqAt.RcNeAt.lists_lengths p1.isList p2.isList (by simp) (by omega) X.prog X.w X.xe _ ⟨.bl true, H, I, rfl, q⟩
/-- a tuple of anything != () -/
def rNeNilT (K : PySem.W.Frag) : R2 := fun x y H Q => ∃ a b xs, x = .ref a ∧ y = .ref b ∧ SqT K H a xs ∧ SqT K H b [] ∧ Q (.bl (!xs.isEmpty)) H
theorem op_neNilT (hu : X.A.units + 64 < cLine) : OpR X (compareOp .NotEq) (rNeNilT X.K) := by
  intro pins s σ H x y v u Q I rx ry h
  obtain ⟨a, b, xs, rfl, rfl, ha, hb, q⟩ := h
  cases rx
  cases ry
  obtain ⟨is, r1, p1, _⟩ := I.tuple ha
  obtain ⟨js, r2, p2, _⟩ := I.tuple hb
  cases r2
  have k1 : s.heap.IsTuple a is.toArray := p1
  have k2 : s.heap.IsTuple b (List.nil (α := Value)).toArray := p2
  refine SeqAt.RcNeAt.tuples (e := fun _ => true) k1 k2 (by omega) (fun j _ h2 => absurd h2 (by simp)) X.prog X.w X.xe _ ?_
  cases r1 with
  | nil => exact ⟨.bl false, H, I, rfl, q⟩
  | cons r rs => exact ⟨.bl true, H, I, by simp only [List.size_toArray, List.length_cons, List.length_nil, Nat.min_zero, List.range_zero, List.all_nil, Bool.true_and]; rfl, q⟩
theorem vals_signs : ∀ (cs : List Nat) (l : List Value), l.length = cs.length → (∀ (j : Nat) (v : Value), l[j]? = some v → ∃ c u, cs[j]? = some c ∧ v = .str ⟨#[c]⟩ u) → Vals (cs.map sg) l
  | [], [], _, _ => .nil
  | [], _ :: _, h, _ => by simp at h
  | _ :: _, [], h, _ => by simp at h
  | c :: cs, v :: l, h, q => by
    obtain ⟨c', u, e1, rfl⟩ := q 0 v rfl
    obtain rfl := Option.some.inj e1
    exact .cons ⟨u, rfl⟩ (vals_signs cs l (by simpa using h) fun j v e => q (j + 1) v e)
/-- tuple(a text) -/
theorem cr_tupS (hc : X.calm = true) : CallR X (.type "tuple") (fun xs H Q => ∃ cs : List Nat, xs = [.str (tx cs)] ∧ cs.length ≤ 100000 ∧ ∀ p, H p = none → Q (.ref p) (upd H p (.tup (cs.map sg)))) := by
  intro pins s σ H xs us Q I r h
  obtain ⟨cs, rfl, hz, q⟩ := h
  obtain ⟨u, rfl, t, rfl⟩ := vals1 r
  refine call_tuple_str (I.ok.hd hc) (tx cs) t (fun h' tk acc hk hacc => ?_) (by rw [tx_size]; exact fits5 hz)
  have I1 : Inv X pins σ H { s with heap := h', toks := tk } := I.kept (t' := tk) hk
  have I2 := I1.laid (t' := tk) (o := .tup (cs.map sg)) (h' := h'.push { cls := .type "tuple", data := .seq acc }) (fun b o e => Heap.get?_push_of_some _ e) (Nat.le_refl _) ⟨by rw [List.length_map]; exact fits5 hz, acc.toList, vals_signs cs acc.toList (by have := hacc.1; rw [tx_size] at this; simpa using this) (fun j v e => by
    obtain ⟨c, u, e1, e2⟩ := hacc.2 j v (by simpa using e)
    exact ⟨c, u, tx_get.symm.trans e1, e2⟩), IsTup.new _ _⟩
  exact ⟨.ref h'.objs.size, _, I2, rfl, q _ (I1.hok.fresh (Nat.le_refl _))⟩
/-- z * n, n a small number -/
def mulS (cs : List Nat) (n : Nat) : List Nat := (List.replicate n cs).flatten
theorem foldl_cat (a : List Nat) : ∀ (n : Nat) (acc : List Nat), ((List.replicate n a.toArray).foldl (fun x y => x ++ y) acc.toArray) = (acc ++ (List.replicate n a).flatten).toArray
  | 0, acc => by simp
  | n + 1, acc => by
    rw [List.replicate_succ, List.foldl_cons, List.replicate_succ, List.flatten_cons, ← List.append_assoc, ← foldl_cat a n (acc ++ a)]
    simp
theorem mulS_eq (cs : List Nat) (n : Nat) : Txt.mul (tx cs) (n : Int) = tx (mulS cs n) := by
  unfold Txt.mul mulS
  by_cases h0 : n = 0
  · subst h0
    rfl
  · rw [if_neg (by omega)]
    by_cases h1 : ((n : Int) == 1 || (tx cs).length == 0) = true
    · rw [if_pos h1]
      rcases Bool.or_eq_true_iff.mp h1 with h | h
      · have : n = 1 := by have := beq_iff_eq.mp h; omega
        subst this
        simp
      · have : cs = [] := by
          have := beq_iff_eq.mp h
          rw [tx_len] at this
          exact List.eq_nil_of_length_eq_zero this
        subst this
        simp
    · rw [if_neg h1, show (n : Int).toNat = n from rfl]
      have q := foldl_cat cs n []
      rw [List.nil_append] at q
      exact congrArg Str.mk q
theorem op_mulS : OpR X (binaryOp .Mult) (fun x y H Q => ∃ (cs : List Nat) (n : Nat), x = .str (tx cs) ∧ y = .int n ∧ cs.length ≤ 100000 ∧ n ≤ 100 ∧ Q (.str (tx (mulS cs n))) H) := by
  intro pins s σ H x y v u Q I rx ry h
  obtain ⟨cs, n, rfl, rfl, hz, hn, q⟩ := h
  obtain ⟨t, rfl⟩ := rx
  obtain ⟨t2, rfl⟩ := ry
  have hl : cs.length * n ≤ 100000 * 100 := Nat.mul_le_mul hz hn
  refine SB.mul ⟨?_, fun h1 h2 => ?_, fun h1 h2 => ?_⟩ fun t' k => ?_
  · rw [decide_eq_false (by omega), decide_eq_false (by omega)]
    rfl
  · rw [tx_len]
    have h3 : ((cs.length : Nat) : Int) * (n : Int) ≤ 2 ^ 63 - 1 := by
      rw [← Int.natCast_mul]
      omega
    have h4 : ((cs.length : Nat) : Int) ≤ (2 ^ 63 - 1) / (n : Int) := Int.le_ediv_of_mul_le (by omega) h3
    omega
  · rw [tx_len]
    show decide (cs.length * (n : Int).toNat > sizeLine) = false
    rw [sizeLine_eq]
    exact decide_eq_false (by show ¬ cs.length * n > _; omega)
  · rw [mulS_eq]
    exact ⟨.str _, H, I.tok _, ⟨_, rfl⟩, q⟩
/-- t * n -/
def rRepG (K : PySem.W.Frag) : R2 := fun x y H Q => ∃ (l : Addr) (n : Nat) (xs : List V), x = .ref l ∧ y = .int n ∧ SqT K H l xs ∧ xs ≠ [] ∧ 2 ≤ n ∧ n ≤ 100000 ∧ xs.length * n ≤ 1000000 ∧ ∀ p, H p = none → Q (.ref p) (upd H p (.tup (List.replicate n xs).flatten))
theorem op_repG : OpR X (binaryOp .Mult) (rRepG X.K) := by
  intro pins s σ H x y v u Q I rx ry h
  obtain ⟨l, n, xs, rfl, rfl, hT, hne, h1, h2, hz, q⟩ := h
  cases rx
  obtain ⟨t, rfl⟩ := ry
  obtain ⟨its, r, ⟨ob, ho, hc, m, hd⟩, hs⟩ := I.tuple hT
  obtain ⟨cls, dd, data, sl⟩ := ob
  obtain rfl : cls = .type "tuple" := hc
  obtain rfl : data = .seq its.toArray m := hd
  have hle := r.length
  have hi : its.toArray.isEmpty = false := by
    cases r with
    | nil => exact absurd rfl hne
    | cons _ _ => rfl
  have hm : xs.length * n ≤ 10 * 100000 := hz
  have hm2 : ((its.toArray.size : Nat) : Int) * (n : Int) = ((xs.length * n : Nat) : Int) := by
    rw [List.size_toArray, ← hle]
    exact (Int.natCast_mul _ _).symm
  have fl : (List.replicate n xs).flatten.length ≤ sizeLine := by
    rw [lm_len_rep_flat, Nat.mul_comm, sizeLine_eq]
    omega
  have fl2 : (List.foldl (fun x1 x2 => x1 ++ x2) #[] (List.replicate (n : Int).toNat its.toArray)).size ≤ sizeLine := by
    rw [size_rep, List.size_toArray, lm_len_rep_flat, ← hle, Nat.mul_comm, sizeLine_eq]
    show xs.length * n ≤ _
    omega
  refine wpAny_binaryOp_repeat_ref (T := "tuple") (U := "int") (by decide) ⟨_, ho, rfl⟩ (fun s' => typeIs_int s' n t) noFill_tuple_mul F.fills_int_mul F.slot_int_rmul repeat_tuple F.slot_int_index.lookup ?_
  refine call_meets F.slot_int_rmul (typeIs_int s n t) F.entry_int_rmul (F.args_int_rmul_2 _ _) (int_rmul_tuple n t l its.toArray m dd sl) ⟨ho, rfl, ⟨_, ho, rfl⟩, ?_⟩
  refine call_meets F.slot_tuple_mul ⟨_, ho, rfl⟩ F.entry_tuple_mul (F.args_tuple_mul_2 _ _) (tuple_mulW l its.toArray m dd sl n t ?_ ?_ ?_ ?_ ?_ fl2) ⟨ho, ?_⟩
  · rw [decide_eq_false (by omega), decide_eq_false (by omega)]
    rfl
  · rw [hi, Bool.false_or]
    exact beq_eq_false_iff_ne.mpr (by omega)
  · rw [hi, Bool.or_false]
    exact decide_eq_false (by omega)
  · rw [hm2]
    omega
  · unfold Builtin.Tuple.tupleTooMany
    rw [hm2, sizeLine_eq]
    exact decide_eq_false (by omega)
  · rw [size_rep]
    exact ⟨.ref s.heap.objs.size, _, I.laid (t' := s.toks) (o := .tup (List.replicate n xs).flatten) (fun b ob q => Heap.get?_push_of_some _ q) (Nat.le_refl _) ⟨fl, _, r.rep n, IsTup.new _ _⟩, rfl, q _ (I.hok.fresh (Nat.le_refl _))⟩
/-- t * n, t of few items -/
def rRepN (K : PySem.W.Frag) : R2 := fun x y H Q => ∃ (l : Addr) (n : Nat) (xs : List V), x = .ref l ∧ y = .int n ∧ SqT K H l xs ∧ xs ≠ [] ∧ 2 ≤ n ∧ n ≤ 100000 ∧ xs.length ≤ 10 ∧ ∀ p, H p = none → Q (.ref p) (upd H p (.tup (List.replicate n xs).flatten))
theorem op_repN : OpR X (binaryOp .Mult) (rRepN X.K) := by
  intro pins s σ H x y v u Q I rx ry h
  obtain ⟨l, n, xs, h1, h2, h3, h4, h5, h6, h7, q⟩ := h
  exact op_repG pins s σ H x y v u Q I rx ry ⟨l, n, xs, h1, h2, h3, h4, h5, h6, Nat.le_trans (Nat.mul_le_mul h7 h6) (by decide), q⟩
/-! what is made anew or is the old one, read alike -/
theorem catA_any {K : PySem.W.Frag} {a b : Addr} {xs ys : List V} {H : Hp} {Q : VK} (ha : H a = some (.tup xs)) (hb : H b = some (.tup ys)) (hl : xs.length + ys.length ≤ sizeLine)
    (q : ∀ p H', Same H H' → H' p = some (.tup (xs ++ ys)) → p = a ∨ p = b ∨ H p = none → Q (.ref p) H') : rCatA K (.ref a) (.ref b) H Q := by
  refine ⟨a, b, xs, ys, rfl, rfl, SqT.of ha, SqT.of hb, hl, fun e => ?_, fun _ e => ?_, fun _ _ p np => ?_⟩
  · subst e
    exact q b H (Same.refl H) hb (.inr (.inl rfl))
  · subst e
    exact q a H (Same.refl H) (by rw [List.append_nil]; exact ha) (.inl rfl)
  · exact q p _ (same_new np) upd_same (.inr (.inr np))
theorem slA_any {K : PySem.W.Frag} {a : Addr} {xs : List V} {lo hi : Option Int} {H : Hp} {Q : VK} (ha : H a = some (.tup xs)) (q : ∀ p H', Same H H' → H' p = some (.tup (cutV xs lo hi)) → p = a ∨ H p = none → Q (.ref p) H') : rSlA K (.ref a) lo hi H Q := by
  refine ⟨a, xs, rfl, SqT.of ha, fun e => ?_, fun _ p np => q p _ (same_new np) upd_same (.inr np)⟩
  have ec : cutV xs lo hi = xs := by
    unfold cutV
    rw [e.1, e.2, List.drop_zero, Nat.sub_zero, List.take_length]
  exact q a H (Same.refl H) (by rw [ec]; exact ha) (.inl rfl)
theorem cut_to (xs : List V) (n : Nat) : cutV xs none (some (n : Int)) = xs.take n := by
  unfold cutV
  rw [HT.sIx_none, HT.sIx_nat, List.drop_zero, Nat.sub_zero, List.take_eq_take_iff]
  omega
theorem cut_from (xs : List V) (n : Nat) : cutV xs (some (n : Int)) none = xs.drop n := by
  unfold cutV
  rw [HT.sIx_none, HT.sIx_nat]
  have e : xs.drop (min n xs.length) = xs.drop n := by
    by_cases h : n ≤ xs.length
    · rw [Nat.min_eq_left h]
    · rw [List.drop_of_length_le (by omega), List.drop_of_length_le (by omega)]
  rw [e]
  exact List.take_of_length_le (by rw [List.length_drop]; omega)
end
end Mo

set_option exponentiation.threshold 3000
/-! ### how great data is: its ints below 10 ^ B, its signs, its bulk, its depth -/
namespace Mo
open PySem PySem.Spec PyProof.Rows L2
mutual
def okD (B : Nat) : PyData → Prop
  | .none | .bool _ => True
  | .int i => i.natAbs < 10 ^ B
  | .str z => ∀ c ∈ z.cps.toList, c < 128
  | .list ds | .tuple ds => okAll B ds
  | .dict kvs => okKv B kvs
def okAll (B : Nat) : List PyData → Prop
  | [] => True
  | d :: ds => okD B d ∧ okAll B ds
def okKv (B : Nat) : List (PyData × PyData) → Prop
  | [] => True
  | (k, v) :: r => (okD B k ∧ okD B v) ∧ okKv B r
end
theorem okAll_iff {B : Nat} : ∀ {ds : List PyData}, okAll B ds ↔ ∀ d ∈ ds, okD B d
  | [] => by simp [okAll]
  | d :: ds => by
    rw [List.forall_mem_cons, ← okAll_iff (ds := ds)]
    simp only [okAll]
mutual
theorem okD.mono {B C : Nat} (h : B ≤ C) : ∀ {d : PyData}, okD B d → okD C d
  | .none, _ => by simp only [okD]
  | .bool _, _ => by simp only [okD]
  | .int i, q => by
    simp only [okD] at q ⊢
    exact Nat.lt_of_lt_of_le q (Nat.pow_le_pow_right (by decide) h)
  | .str z, q => by
    simp only [okD] at q ⊢
    exact q
  | .list ds, q => by
    simp only [okD] at q ⊢
    exact okAll.mono h q
  | .tuple ds, q => by
    simp only [okD] at q ⊢
    exact okAll.mono h q
  | .dict kvs, q => by
    simp only [okD] at q ⊢
    exact okKv.mono h q
theorem okAll.mono {B C : Nat} (h : B ≤ C) : ∀ {ds : List PyData}, okAll B ds → okAll C ds
  | [], _ => by simp only [okAll]
  | d :: ds, q => by
    simp only [okAll] at q ⊢
    exact ⟨okD.mono h q.1, okAll.mono h q.2⟩
theorem okKv.mono {B C : Nat} (h : B ≤ C) : ∀ {kvs : List (PyData × PyData)}, okKv B kvs → okKv C kvs
  | [], _ => by simp only [okKv]
  | (k, v) :: r, q => by
    simp only [okKv] at q ⊢
    exact ⟨⟨okD.mono h q.1.1, okD.mono h q.1.2⟩, okKv.mono h q.2⟩
end
theorem int_short {B : Nat} {i : Int} (hB : 1 ≤ B) (h : i.natAbs < 10 ^ B) : (PyData.shown (.int i)).length ≤ B + 1 := by
  rw [PyData.shown_int, PySem.ofString_length]
  exact int_text_length_le10 hB h
/-- str(i) -/
theorem int_signs (i : Int) : ∀ c ∈ (Str.ofString (toString i)).cps.toList, c < 128 := fun c hc => by
  by_cases h : c ≠ 45 ∧ (c < 48 ∨ 57 < c)
  · exact absurd hc (int_text_free' c h i)
  · omega
theorem int_text_size {B : Nat} {i : Int} (hB : 1 ≤ B) (h : i.natAbs < 10 ^ B) : (Str.ofString (toString i)).cps.size ≤ B + 1 := by
  have q := int_short hB h
  rw [PyData.shown_int] at q
  exact q
theorem log_small {B n : Nat} (hB : B ≤ 100) (h : n < 10 ^ B) : n.log2 < 1920 := by
  by_cases h0 : n = 0
  · subst h0
    decide
  · have h1 : n < 2 ^ 1920 := Nat.lt_of_lt_of_le h (Nat.le_trans (Nat.pow_le_pow_right (by decide) hB) (by decide))
    exact (Nat.log2_lt h0).mpr h1
mutual
theorem okD.short {B : Nat} (hB : 1 ≤ B) : ∀ {d : PyData}, okD B d → d.leavesShort (B + 8) = true
  | .none, _ => by simp only [PyData.leavesShort]
  | .bool _, _ => by simp only [PyData.leavesShort]
  | .int i, q => by
    simp only [okD] at q
    have := int_short hB q
    simp only [PyData.leavesShort]
    exact decide_eq_true (by omega)
  | .str z, q => by
    simp only [okD] at q
    simp only [PyData.leavesShort, List.all_eq_true]
    exact fun c hc => decide_eq_true (Nat.lt_trans (q c hc) (by decide))
  | .list ds, q => by
    simp only [okD, PyData.leavesShort] at q ⊢
    exact okAll.short hB q
  | .tuple ds, q => by
    simp only [okD, PyData.leavesShort] at q ⊢
    exact okAll.short hB q
  | .dict kvs, q => by
    simp only [okD, PyData.leavesShort] at q ⊢
    exact okKv.short hB q
theorem okAll.short {B : Nat} (hB : 1 ≤ B) : ∀ {ds : List PyData}, okAll B ds → PyData.leavesShortAll (B + 8) ds = true
  | [], _ => by simp only [PyData.leavesShortAll]
  | d :: ds, q => by
    simp only [okAll, PyData.leavesShortAll, Bool.and_eq_true] at q ⊢
    exact ⟨okD.short hB q.1, okAll.short hB q.2⟩
theorem okKv.short {B : Nat} (hB : 1 ≤ B) : ∀ {kvs : List (PyData × PyData)}, okKv B kvs → PyData.leavesShortKv (B + 8) kvs = true
  | [], _ => by simp only [PyData.leavesShortKv]
  | (k, v) :: r, q => by
    simp only [okKv, PyData.leavesShortKv, Bool.and_eq_true] at q ⊢
    exact ⟨⟨okD.short hB q.1.1, okD.short hB q.1.2⟩, okKv.short hB q.2⟩
end
mutual
theorem okD.show {B : Nat} (hB : B ≤ 100) : ∀ {d : PyData}, okD B d → d.showable = true
  | .none, _ => by simp only [PyData.showable]
  | .bool _, _ => by simp only [PyData.showable]
  | .int i, q => by
    simp only [okD, PyData.showable] at q ⊢
    exact decide_eq_true (log_small hB q)
  | .str z, q => by simp only [PyData.showable]
  | .list ds, q => by
    simp only [okD, PyData.showable] at q ⊢
    exact okAll.show hB q
  | .tuple ds, q => by
    simp only [okD, PyData.showable] at q ⊢
    exact okAll.show hB q
  | .dict kvs, q => by
    simp only [okD, PyData.showable] at q ⊢
    exact okKv.show hB q
theorem okAll.show {B : Nat} (hB : B ≤ 100) : ∀ {ds : List PyData}, okAll B ds → PyData.showableAll ds = true
  | [], _ => by simp only [PyData.showableAll]
  | d :: ds, q => by
    simp only [okAll, PyData.showableAll, Bool.and_eq_true] at q ⊢
    exact ⟨okD.show hB q.1, okAll.show hB q.2⟩
theorem okKv.show {B : Nat} (hB : B ≤ 100) : ∀ {kvs : List (PyData × PyData)}, okKv B kvs → PyData.showableKv kvs = true
  | [], _ => by simp only [PyData.showableKv]
  | (k, v) :: r, q => by
    simp only [okKv, PyData.showableKv, Bool.and_eq_true] at q ⊢
    exact ⟨⟨okD.show hB q.1.1, okD.show hB q.1.2⟩, okKv.show hB q.2⟩
end
theorem bulkAll_app : ∀ (a b : List PyData), PyData.bulkAll (a ++ b) = PyData.bulkAll a + PyData.bulkAll b
  | [], b => by simp [PyData.bulkAll]
  | x :: a, b => by
    rw [List.cons_append]
    simp only [PyData.bulkAll]
    rw [bulkAll_app a b]
    omega
theorem depthAll_le {n : Nat} : ∀ {ds : List PyData}, PyData.depthAll ds ≤ n ↔ ∀ d ∈ ds, d.depth ≤ n
  | [] => by simp [PyData.depthAll]
  | d :: ds => by
    rw [List.forall_mem_cons, ← depthAll_le (ds := ds)]
    simp only [PyData.depthAll]
    exact Nat.max_le
/-- data of these bounds -/
structure Fit (B W D : Nat) (d : PyData) : Prop where
  ok : okD B d
  bulk : d.bulk ≤ W
  deep : d.depth ≤ D
/-- lists of such data, of this bulk together -/
structure FitAll (B W D : Nat) (ds : List PyData) : Prop where
  ok : okAll B ds
  bulk : PyData.bulkAll ds ≤ W
  deep : PyData.depthAll ds ≤ D
theorem Fit.mono {B W D B' W' D' : Nat} {d : PyData} (h : Fit B W D d) (h1 : B ≤ B') (h2 : W ≤ W') (h3 : D ≤ D') : Fit B' W' D' d := ⟨h.ok.mono h1, Nat.le_trans h.bulk h2, Nat.le_trans h.deep h3⟩
theorem FitAll.app {B W D W' : Nat} {a b : List PyData} (h : FitAll B W D a) (g : FitAll B W' D b) : FitAll B (W + W') D (a ++ b) :=
  ⟨okAll_iff.mpr fun d hd => (List.mem_append.mp hd).elim (okAll_iff.mp h.ok d) (okAll_iff.mp g.ok d), by rw [bulkAll_app]; exact Nat.add_le_add h.bulk g.bulk, depthAll_le.mpr fun d hd => (List.mem_append.mp hd).elim (depthAll_le.mp h.deep d) (depthAll_le.mp g.deep d)⟩
theorem FitAll.tup {B W D : Nat} {a : List PyData} (h : FitAll B W D a) : Fit B W (D + 1) (.tuple a) := ⟨by simp only [okD]; exact h.ok, by simp only [PyData.bulk]; exact h.bulk, by simp only [PyData.depth]; exact Nat.succ_le_succ h.deep⟩
theorem FitAll.lst {B W D : Nat} {a : List PyData} (h : FitAll B W D a) : Fit B W (D + 1) (.list a) := ⟨by simp only [okD]; exact h.ok, by simp only [PyData.bulk]; exact h.bulk, by simp only [PyData.depth]; exact Nat.succ_le_succ h.deep⟩
theorem Fit.of_tup {B W D : Nat} {a : List PyData} (h : Fit B W (D + 1) (.tuple a)) : FitAll B W D a := ⟨by have := h.ok; simp only [okD] at this; exact this, by have := h.bulk; simp only [PyData.bulk] at this; exact this, by have := h.deep; simp only [PyData.depth] at this; omega⟩
theorem Fit.one {B W D : Nat} {d : PyData} (h : Fit B W D d) : FitAll B (W + 1) D [d] := ⟨by simp only [okAll]; exact ⟨h.ok, trivial⟩, by simp only [PyData.bulkAll]; have := h.bulk; omega, by simp only [PyData.depthAll]; have := h.deep; omega⟩
theorem FitAll.sub {B W D : Nat} {a b : List PyData} (h : FitAll B W D b) (hs : a.Sublist b) : FitAll B (PyData.bulkAll a) D a := ⟨okAll_iff.mpr fun d hd => okAll_iff.mp h.ok d (hs.subset hd), Nat.le_refl _, depthAll_le.mpr fun d hd => depthAll_le.mp h.deep d (hs.subset hd)⟩
theorem FitAll.mono {B W D B' W' D' : Nat} {d : List PyData} (h : FitAll B W D d) (h1 : B ≤ B') (h2 : W ≤ W') (h3 : D ≤ D') : FitAll B' W' D' d := ⟨h.ok.mono h1, Nat.le_trans h.bulk h2, Nat.le_trans h.deep h3⟩
theorem FitAll.len {B W D : Nat} {a : List PyData} (h : FitAll B W D a) : a.length ≤ W := by
  have key : ∀ a : List PyData, a.length ≤ PyData.bulkAll a := by
    intro a
    induction a with
    | nil => exact Nat.zero_le _
    | cons x a ih =>
      simp only [PyData.bulkAll, List.length_cons]
      omega
  exact Nat.le_trans (key a) h.bulk
/-- what repr asks -/
theorem Fit.repr {B W D : Nat} {d : PyData} (h : Fit B W D d) (h1 : 1 ≤ B) (h2 : B ≤ 40) (h3 : W ≤ 300000) (h4 : D ≤ 40) : d.showable = true ∧ d.depth ≤ 40 ∧ d.shown.length ≤ sizeLine := by
  refine ⟨h.ok.show (by omega), Nat.le_trans h.deep h4, ?_⟩
  have q := PyData.shown_le_bulk (B + 8) (by omega) d (h.ok.short h1)
  have hb := h.bulk
  have m : (B + 8 + 2) * d.bulk ≤ 50 * 300000 := Nat.mul_le_mul (by omega) (by omega)
  rw [sizeLine_eq]
  omega
/-! ### kinds -/
def tyD : PyData → String
  | .none => "NoneType"
  | .bool _ => "bool"
  | .int _ => "int"
  | .str _ => "str"
  | .list _ => "list"
  | .tuple _ => "tuple"
  | .dict _ => "dict"
theorem Dx.ty {N : Addr → Prop} {K : PySem.W.Frag} {H : Hp} {x : V} {d : PyData} (h : Dx N H x d) : TyX K H x (.type (tyD d)) := by
  cases h with
  | non => exact .base .non
  | bl b => exact .base (.bl b)
  | int i => exact .base (.int i)
  | str z => exact .base (.str z)
  | lst h _ _ => exact .base (.lst h)
  | tup h _ _ => exact .base (.tup h)
  | dct h _ _ => exact .base (.dK h)
def letterD : PyData → Bool
  | .int i => decide (0 ≤ i) && decide (i ≤ 999999)
  | _ => false
def textD : PyData → Bool
  | .tuple ds => decide (ds.length ≤ 4096) && ds.all letterD
  | _ => false
end Mo

/-! ### data written out: new, and holding nothing that was there -/
namespace Mo
open PySem PySem.Spec PyProof.Rows L2
def Was (H0 : Hp) : Addr → Prop := fun a => H0 a ≠ none
theorem Was.mono {H H' : Hp} (s : Same H H') {b : Addr} (h : Was H b) : Was H' b := by
  cases e : H b with
  | none => exact absurd e h
  | some o =>
    unfold Was
    rw [s _ _ e]
    exact Option.some_ne_none _
def LitE (te : TE) (d : PyData) : Prop := ∀ σ H Q, (∀ H' v, Same H H' → Dx (Was H) H' v d → Q v H') → te σ H Q
def LitA (ta : TA) (ds : List PyData) : Prop := ∀ σ H Q, (∀ H' vs, Same H H' → DxAll (Was H) H' vs ds → Q vs H') → ta σ H Q
theorem LitE.use {te : TE} {d : PyData} (h : LitE te d) {σ : L2.St} {H : Hp} {Q : VK} (q : ∀ H' v, Same H H' → Dx (Was H) H' v d → Q v H') : te σ H Q := h σ H Q q
theorem lit_non : LitE (tC .non) .none := fun _ _ _ q => q _ _ (Same.refl _) .non
theorem lit_bl {b : Bool} : LitE (tC (.bl b)) (.bool b) := fun _ _ _ q => q _ _ (Same.refl _) (.bl b)
theorem lit_int {i : Int} : LitE (tC (.int i)) (.int i) := fun _ _ _ q => q _ _ (Same.refl _) (.int i)
theorem lit_str {x : Str} : LitE (tC (.str x)) (.str x) := fun _ _ _ q => q _ _ (Same.refl _) (.str x)
theorem lit_neg {i : Int} : LitE (tUn (rU fun i => .int (-i)) (tC (.int i))) (.int (-i)) := fun _ _ _ q => ⟨i, rfl, q _ _ (Same.refl _) (.int _)⟩
theorem lit_pow {i j : Int} (h : CPow i j) : LitE (tOp (rI CPow fun i j => .int (i ^ j.toNat)) (tC (.int i)) (tC (.int j))) (.int (i ^ j.toNat)) := fun _ _ _ q => ⟨i, j, rfl, rfl, h, q _ _ (Same.refl _) (.int _)⟩
theorem lit_nil : LitA tNil [] := fun _ _ _ q => q _ _ (Same.refl _) .nil
theorem lit_cons {te : TE} {ta : TA} {d : PyData} {ds : List PyData} (h : LitE te d) (g : LitA ta ds) : LitA (tCons te ta) (d :: ds) := fun σ H Q q =>
  h σ H _ fun H1 v s1 hv => g σ H1 _ fun H2 vs s2 hvs => q H2 (v :: vs) (s1.trans s2) (.cons (hv.same s2) (hvs.more fun b _ z => Was.mono s1 z))
theorem lit_tup {t : TA} {ds : List PyData} (h : LitA t ds) (hl : ds.length ≤ 1000 := by decide) : LitE (tTup t) (.tuple ds) := fun σ H Q q =>
  h σ H _ fun H1 vs s1 hx => ⟨Nat.le_of_lt (small1000 (by rw [hx.length]; exact hl)), fun p np => q _ _ (s1.trans (same_new np)) (.tup upd_same (fun z => z (s1.free np)) (hx.same (same_new np)))⟩
theorem lit_lst {t : TA} {ds : List PyData} (h : LitA t ds) (hl : ds.length ≤ 1000 := by decide) : LitE (tLst t) (.list ds) := fun σ H Q q =>
  h σ H _ fun H1 vs s1 hx => ⟨Nat.le_of_lt (small1000 (by rw [hx.length]; exact hl)), fun p np => q _ _ (s1.trans (same_new np)) (.lst upd_same (fun z => z (s1.free np)) (hx.same (same_new np)))⟩
theorem lit_dnew : LitE tDNewK (.dict []) := fun σ H Q q p np => q _ _ (same_new np) (.dct (kvs := []) (ds := []) upd_same (fun z => z np) .nil)
theorem lit_disp1 {k : Key} {tv : TE} {d : PyData} (h : LitE tv d) : LitE (tDisp [(tC (kV k), tv)]) (.dict [(keyD k, d)]) := fun σ H Q q p np =>
  h σ _ _ fun H1 v s1 hv => ⟨s1 _ _ upd_same, [(k, v)], rfl, by show 1 ≤ 15; decide, by
    have n1 : H p = none := np
    have e : mergeK [] [(k, v)] = [(k, v)] := rfl
    rw [e]
    refine q _ _ (Same.put ((same_new np).trans s1) np) (.dct (kvs := [(k, v)]) (ds := [d]) upd_same (fun z => z np) (.cons ?_ .nil))
    refine (hv.more (N' := fun b => Was H b ∨ b = p) fun b _ z => z.elim (fun z => Was.mono (same_new np) z) (fun z => ?_)).but ?_ |>.more fun b _ z => .inl z
    · subst z
      unfold Was
      rw [upd_same]
      exact Option.some_ne_none _
    · intro b o nb e
      rw [upd_ne fun z => nb (.inr z)]
      exact e⟩
theorem lit_dispS {x : Str} {tv : TE} {d : PyData} (h : LitE tv d) : LitE (tDisp [(tC (.str x), tv)]) (.dict [(.str x, d)]) := lit_disp1 (k := .inr x) h
theorem lit_dispI {i : Int} {tv : TE} {d : PyData} (h : LitE tv d) : LitE (tDisp [(tC (.int i), tv)]) (.dict [(.int i, d)]) := lit_disp1 (k := .inl i) h
/-! what stands behind -/
theorem lst_dx {N : Addr → Prop} {H : Hp} {x : V} {ds : List PyData} (h : Dx N H x (.list ds)) : ∃ a xs, x = .ref a ∧ H a = some (.lst xs) ∧ ¬ N a ∧ DxAll N H xs ds := by
  generalize e : PyData.list ds = d at h
  cases h with
  | lst h n t => obtain rfl := PyData.list.inj e; exact ⟨_, _, rfl, h, n, t⟩
  | _ => cases e
theorem tpl_dx {N : Addr → Prop} {H : Hp} {x : V} {ds : List PyData} (h : Dx N H x (.tuple ds)) : ∃ a xs, x = .ref a ∧ H a = some (.tup xs) ∧ ¬ N a ∧ DxAll N H xs ds := by
  generalize e : PyData.tuple ds = d at h
  cases h with
  | tup h n t => obtain rfl := PyData.tuple.inj e; exact ⟨_, _, rfl, h, n, t⟩
  | _ => cases e
theorem keyD_inj : ∀ {a b : Key}, keyD a = keyD b → a = b
  | .inl _, .inl _, h => congrArg Sum.inl (PyData.int.inj h)
  | .inr _, .inr _, h => congrArg Sum.inr (PyData.str.inj h)
  | .inl _, .inr _, h => by cases h
  | .inr _, .inl _, h => by cases h
theorem dct1_dx {N : Addr → Prop} {H : Hp} {x : V} {k : Key} {e : PyData} (h : Dx N H x (.dict [(keyD k, e)])) : ∃ a u, x = .ref a ∧ H a = some (.dK [(k, u)]) ∧ ¬ N a ∧ Dx N H u e := by
  generalize q : PyData.dict [(keyD k, e)] = d at h
  cases h with
  | @dct a kvs ds h n t =>
    have q1 := PyData.dict.inj q
    cases kvs with
    | nil => cases t; cases q1
    | cons kv r =>
      cases t with
      | @cons _ _ d ds h1 t =>
        rw [List.map_cons, List.zip_cons_cons] at q1
        have q2 := List.cons.inj q1
        have q3 := Prod.mk.inj q2.1
        cases r with
        | nil =>
          cases t
          obtain ⟨k', u⟩ := kv
          have : k = k' := keyD_inj q3.1
          subst this
          refine ⟨a, u, rfl, h, n, ?_⟩
          rw [q3.2]
          exact h1
        | cons kv2 r =>
          cases t with
          | cons h2 t => cases q2.2
  | _ => cases q
end Mo

/-! ### kinds of data, counts among data of any kind, tables of code objects kept -/
namespace Mo
open PySem PySem.Spec PyProof.Rows L2
def isIntD : PyData → Bool
  | .int _ | .bool _ => true
  | _ => false
def isBoolD : PyData → Bool
  | .bool _ => true
  | _ => false
def isStrD : PyData → Bool
  | .str _ => true
  | _ => false
def isTupD : PyData → Bool
  | .tuple _ => true
  | _ => false
theorem kit_int : ∀ d : PyData, kitB (tyD d) "int" = some (isIntD d)
  | .none => by show kitB "NoneType" "int" = some false; decide +kernel
  | .bool _ => by show kitB "bool" "int" = some true; decide +kernel
  | .int _ => by show kitB "int" "int" = some true; decide +kernel
  | .str _ => by show kitB "str" "int" = some false; decide +kernel
  | .list _ => by show kitB "list" "int" = some false; decide +kernel
  | .tuple _ => by show kitB "tuple" "int" = some false; decide +kernel
  | .dict _ => by show kitB "dict" "int" = some false; decide +kernel
theorem kit_bool : ∀ d : PyData, kitB (tyD d) "bool" = some (isBoolD d)
  | .none => by show kitB "NoneType" "bool" = some false; decide +kernel
  | .bool _ => by show kitB "bool" "bool" = some true; decide +kernel
  | .int _ => by show kitB "int" "bool" = some false; decide +kernel
  | .str _ => by show kitB "str" "bool" = some false; decide +kernel
  | .list _ => by show kitB "list" "bool" = some false; decide +kernel
  | .tuple _ => by show kitB "tuple" "bool" = some false; decide +kernel
  | .dict _ => by show kitB "dict" "bool" = some false; decide +kernel
theorem kit_str : ∀ d : PyData, kitB (tyD d) "str" = some (isStrD d)
  | .none => by show kitB "NoneType" "str" = some false; decide +kernel
  | .bool _ => by show kitB "bool" "str" = some false; decide +kernel
  | .int _ => by show kitB "int" "str" = some false; decide +kernel
  | .str _ => by show kitB "str" "str" = some true; decide +kernel
  | .list _ => by show kitB "list" "str" = some false; decide +kernel
  | .tuple _ => by show kitB "tuple" "str" = some false; decide +kernel
  | .dict _ => by show kitB "dict" "str" = some false; decide +kernel
theorem kit_tup : ∀ d : PyData, kitB (tyD d) "tuple" = some (isTupD d)
  | .none => by show kitB "NoneType" "tuple" = some false; decide +kernel
  | .bool _ => by show kitB "bool" "tuple" = some false; decide +kernel
  | .int _ => by show kitB "int" "tuple" = some false; decide +kernel
  | .str _ => by show kitB "str" "tuple" = some false; decide +kernel
  | .list _ => by show kitB "list" "tuple" = some false; decide +kernel
  | .tuple _ => by show kitB "tuple" "tuple" = some true; decide +kernel
  | .dict _ => by show kitB "dict" "tuple" = some false; decide +kernel
def plainD (d : PyData) : Bool := isIntD d && !isBoolD d
/-- a question about data -/
def spAsk (f : PyData → Bool) : Sp := fun vs H Q _ => ∃ (N : Addr → Prop) (x : V) (d : PyData), vs = [x] ∧ Dx N H x d ∧ d.bulk ≤ 1000000 ∧ ∀ H', Same H H' → Q (.bl (f d)) H'
theorem plain_int : ∀ {N : Addr → Prop} {H : Hp} {x : V} {d : PyData}, Dx N H x d → plainD d = true → ∃ i : Int, x = .int i ∧ d = .int i := by
  intro N H x d h e
  cases h with
  | int i => exact ⟨i, rfl, rfl⟩
  | _ => exact absurd (show false = true from e) (by decide)
def isListD : PyData → Bool
  | .list _ => true
  | _ => false
def isDictD : PyData → Bool
  | .dict _ => true
  | _ => false
theorem kit_list : ∀ d : PyData, kitB (tyD d) "list" = some (isListD d)
  | .none => by show kitB "NoneType" "list" = some false; decide +kernel
  | .bool _ => by show kitB "bool" "list" = some false; decide +kernel
  | .int _ => by show kitB "int" "list" = some false; decide +kernel
  | .str _ => by show kitB "str" "list" = some false; decide +kernel
  | .list _ => by show kitB "list" "list" = some true; decide +kernel
  | .tuple _ => by show kitB "tuple" "list" = some false; decide +kernel
  | .dict _ => by show kitB "dict" "list" = some false; decide +kernel
/-- an integer from a to b -/
def cntB (a b : Int) : PyData → Bool
  | .int i => decide (a ≤ i) && decide (i ≤ b)
  | _ => false
/-- check_count: nothing, or InvalidCount with the very value -/
def spCnt (C : Addr) : Sp := fun vs H Q E => ∃ (N : Addr → Prop) (x : V) (d : PyData) (a b : Int), vs = [x, .int a, .int b] ∧ Dx N H x d ∧ d.bulk ≤ 1000000 ∧ (cntB a b d = true → ∀ H', Same H H' → Q .non H') ∧
  (cntB a b d = false → ∀ dd H', H dd = none → Same H H' → H' dd = some (.xd [("value", x)]) → E (.ref C) (some dd) H')
theorem cnt_no {a b : Int} {d : PyData} (h : plainD d = false) : cntB a b d = false := by
  cases d <;> first | rfl | exact absurd (show true = false from h) (by decide)
/-! more written data -/
theorem lit_negE {te : TE} {i : Int} (h : LitE te (.int i)) : LitE (tUn (rU fun i => .int (-i)) te) (.int (-i)) := fun σ H Q q => h σ H _ fun H' v s hv => by
  cases hv
  exact ⟨i, rfl, q _ _ s (.int _)⟩
/-! nothing is changed but tables -/
mutual
theorem Dx.tabs {N : Addr → Prop} {H H' : Hp} (s : LamX.ExtN H H') : ∀ {v : V} {d : PyData}, Dx N H v d → Dx N H' v d
  | _, _, .non => .non
  | _, _, .bl b => .bl b
  | _, _, .int i => .int i
  | _, _, .str x => .str x
  | _, _, .lst h n a => .lst (s _ _ h (fun _ z => nomatch z)) n (DxAll.tabs s a)
  | _, _, .tup h n a => .tup (s _ _ h (fun _ z => nomatch z)) n (DxAll.tabs s a)
  | _, _, .dct h n a => .dct (s _ _ h (fun _ z => nomatch z)) n (DxAll.tabs s a)
theorem DxAll.tabs {N : Addr → Prop} {H H' : Hp} (s : LamX.ExtN H H') : ∀ {v : List V} {d : List PyData}, DxAll N H v d → DxAll N H' v d
  | _, _, .nil => .nil
  | _, _, .cons a b => .cons (Dx.tabs s a) (DxAll.tabs s b)
end
theorem Tabs.same {T : List (Addr × Str)} {H H' : Hp} (t : LamX.Tabs T H) (s : Same H H') : LamX.Tabs T H' := t.ext s
theorem Tabs.but {T : List (Addr × Str)} {H H' : Hp} {d : Addr} {kvs : List (Key × V)} (t : LamX.Tabs T H) (hd : H d = some (.dK kvs)) (s : But d H H') : LamX.Tabs T H' := fun p hp => by
  obtain ⟨ps, h1, h2, h3⟩ := t p hp
  refine ⟨ps, s _ _ (fun z => ?_) h1, h2, fun pos cv hc => ?_⟩
  · rw [z, hd] at h1
    cases h1
  · obtain ⟨c, e1, e2⟩ := h3 pos cv hc
    refine ⟨c, e1, s _ _ (fun z => ?_) e2⟩
    rw [z, hd] at e2
    cases e2
theorem tabs_nil {H : Hp} {P : Addr} {q : Str} (h : H P = some (.tbl #[])) : LamX.Tabs [(P, q)] H := fun p hp => by
  rw [List.mem_singleton.mp hp]
  exact LamX.TabS.nil h
end Mo
namespace Mo
open PySem PySem.Spec PyProof.Rows L2
/-- while, by a word and a measure; the test's own reading told as it stands -/
theorem while_raw {c : TT} {tb : TS} {D : Ends} {σ : L2.St} {H : Hp} (Pv : L2.St → Hp → Prop) (μ : L2.St → Hp → Nat) (h0 : Pv σ H)
    (hs : ∀ σ H, Pv σ H → c σ H fun b H1 => if b = true then ∃ N : L2.St → Hp → Prop, (∀ σ' H', N σ' H' → ∃ m', m' < μ σ H ∧ m' = μ σ' H' ∧ Pv σ' H') ∧ tb { D with nx := N, ct := N, bk := D.nx } σ H1 else D.nx σ H1) : tWhile c tb D σ H :=
  ⟨fun m σ H => m = μ σ H ∧ Pv σ H, ⟨_, rfl, h0⟩, fun m σ H p => by
    obtain ⟨rfl, p⟩ := p
    exact hs σ H p⟩
/-- an odd value: small, and no integer from 0 on -/
structure OddD (e : PyData) : Prop where
  fit : Fit 30 100 3 e
  no : ∀ a b : Int, 0 ≤ a → cntB a b e = false
theorem fitI {B W D : Nat} {i : Int} (h : i.natAbs < 10 ^ B) (hW : 1 ≤ W) : Fit B W D (.int i) := ⟨by simp only [okD]; exact h, by simp only [PyData.bulk]; exact Nat.zero_le _, by simp only [PyData.depth]; exact Nat.zero_le _⟩
theorem odd_neg {i : Int} (h : i.natAbs < 10 ^ 30) (hn : i < 0) : OddD (.int i) := ⟨fitI h (by decide), fun a b ha => by
  show (decide (a ≤ i) && decide (i ≤ b)) = false
  rw [decide_eq_false (show ¬ a ≤ i by omega)]
  rfl⟩
theorem odd_bl (b : Bool) : OddD (.bool b) := ⟨⟨by simp [okD], by simp [PyData.bulk], by simp [PyData.depth]⟩, fun _ _ _ => rfl⟩
theorem odd_non : OddD .none := ⟨⟨by simp [okD], by simp [PyData.bulk], by simp [PyData.depth]⟩, fun _ _ _ => rfl⟩
theorem odd_str {x : Str} (h : ∀ c ∈ x.cps.toList, c < 128) (hl : x.cps.size ≤ 50) : OddD (.str x) := ⟨⟨by simp only [okD]; exact h, by simp only [PyData.bulk]; omega, by simp [PyData.depth]⟩, fun _ _ _ => rfl⟩
theorem odd_tup1 {i : Int} (h : i.natAbs < 10 ^ 30) : OddD (.tuple [.int i]) := ⟨(FitAll.tup (fitI (W := 1) (D := 0) h (by decide)).one).mono (by decide) (by decide) (by decide), fun _ _ _ => rfl⟩
theorem odd_lst1 {i : Int} (h : i.natAbs < 10 ^ 30) : OddD (.list [.int i]) := ⟨(FitAll.lst (fitI (W := 1) (D := 0) h (by decide)).one).mono (by decide) (by decide) (by decide), fun _ _ _ => rfl⟩
theorem odd_dct : OddD (.dict []) := ⟨⟨by simp [okD, okKv], by simp [PyData.bulk, PyData.bulkKv], by simp [PyData.depth, PyData.depthKv]⟩, fun _ _ _ => rfl⟩
/-- what was new when the old heap was H0, d being old: nothing of it is at d -/
theorem Dx.keep {H0 H H' : Hp} {d : Addr} {v : V} {e : PyData} (h : Dx (Was H0) H v e) (hd : H0 d ≠ none) (b : But d H H') : Dx (fun x => x = d) H' v e :=
  (h.but fun x o nx hx => b x o (fun z => nx (by rw [z]; exact hd)) hx).more fun x _ z => by rw [z]; exact hd
theorem Dx.pen {H H' : Hp} {d : Addr} {v : V} {e : PyData} (h : Dx (fun x => x = d) H v e) (b : But d H H') : Dx (fun x => x = d) H' v e := h.but fun x o nx hx => b x o nx hx
end Mo

/-! ### lists and tuples of flat values compared -/
namespace Mo
open PySem PySem.Spec PyProof.Rows L2
def eqLs : List V → List V → Bool
  | [], [] => true
  | x :: xs, y :: ys => eqV x y && eqLs xs ys
  | _, _ => false
theorem eqLs_range : ∀ (xs ys : List V), xs.length = ys.length → (List.range xs.length).all (fun j => eqV (xs.getD j .non) (ys.getD j .non)) = eqLs xs ys
  | [], [], _ => rfl
  | x :: xs, y :: ys, h => by
    rw [List.length_cons, List.range_succ_eq_map, List.all_cons, List.all_map]
    show (eqV x y && (List.range xs.length).all (fun j => eqV (xs.getD j .non) (ys.getD j .non))) = _
    rw [eqLs_range xs ys (by simpa using h)]
    rfl
  | [], _ :: _, h => by simp at h
  | _ :: _, [], h => by simp at h
theorem eqLs_len : ∀ {xs ys : List V}, eqLs xs ys = true → xs.length = ys.length
  | [], [], _ => rfl
  | x :: xs, y :: ys, h => by
    rw [List.length_cons, List.length_cons, eqLs_len (Bool.and_eq_true_iff.mp h).2]
  | [], _ :: _, h => by cases h
  | _ :: _, [], h => by cases h
theorem eqV_self : ∀ {x : V}, flatV x = true → eqV x x = true := by
  intro x h
  cases x <;> first | (exact absurd (show false = true from h) Bool.false_ne_true) | rfl | (simp [eqV])
theorem eqLs_self : ∀ {xs : List V}, xs.all flatV = true → eqLs xs xs = true
  | [], _ => rfl
  | x :: xs, h => by
    rw [List.all_cons, Bool.and_eq_true] at h
    show (eqV x x && eqLs xs xs) = true
    rw [eqV_self h.1, eqLs_self h.2]
    rfl
theorem flat_ints (ns : List Int) : (ns.map V.int).all flatV = true := by
  rw [List.all_map, List.all_eq_true]
  exact fun _ _ => rfl
theorem flat_strs' (zs : List Str) : (zs.map V.str).all flatV = true := by
  rw [List.all_map, List.all_eq_true]
  exact fun _ _ => rfl
theorem eqLs_ints : ∀ (a b : List Int), eqLs (a.map V.int) (b.map V.int) = decide (a = b)
  | [], [] => by simp [eqLs]
  | x :: a, y :: b => by
    show (x == y && eqLs (a.map V.int) (b.map V.int)) = _
    rw [eqLs_ints a b, Bool.eq_iff_iff]
    simp
  | [], _ :: _ => by simp [eqLs]
  | _ :: _, [] => by simp [eqLs]
theorem eqLs_strs : ∀ (a b : List Str), eqLs (a.map V.str) (b.map V.str) = decide (a = b)
  | [], [] => by simp [eqLs]
  | x :: a, y :: b => by
    show (x == y && eqLs (a.map V.str) (b.map V.str)) = _
    rw [eqLs_strs a b, Bool.eq_iff_iff]
    simp
  | [], _ :: _ => by simp [eqLs]
  | _ :: _, [] => by simp [eqLs]
section
variable {X : Cx}
theorem eqAts {A : Around} {s : Shared} {xs ys : List V} {us ws : List Value} (r1 : Vals xs us) (r2 : Vals ys ws) (f1 : xs.all flatV = true) (f2 : ys.all flatV = true) :
    ∀ j (h1 : j < us.toArray.size) (h2 : j < ws.toArray.size), SeqAt.EqAt A s us.toArray[j] ws.toArray[j] (eqV (xs.getD j .non) (ys.getD j .non)) := by
  intro j h1 h2
  have l1 := r1.length
  have l2 := r2.length
  rw [List.size_toArray] at h1 h2
  have e1 : xs[j]? = some (xs.getD j .non) := by
    rw [List.getD_eq_getElem?_getD, List.getElem?_eq_getElem (by omega)]
    rfl
  have e2 : ys[j]? = some (ys.getD j .non) := by
    rw [List.getD_eq_getElem?_getD, List.getElem?_eq_getElem (by omega)]
    rfl
  obtain ⟨u, hu, ru⟩ := r1.get e1
  obtain ⟨v, hv, rv⟩ := r2.get e2
  have q1 : us.toArray[j] = u := by
    rw [List.getElem?_eq_getElem h1] at hu
    exact Option.some.inj hu
  have q2 : ws.toArray[j] = v := by
    rw [List.getElem?_eq_getElem h2] at hv
    exact Option.some.inj hv
  rw [q1, q2]
  exact eqAt_V ru rv (List.all_eq_true.mp f1 _ (List.mem_of_getElem? e1)) (List.all_eq_true.mp f2 _ (List.mem_of_getElem? e2))
def FlatAt (K : PySem.W.Frag) (H : Hp) (x y : V) (xs ys : List V) : Prop := ∃ a b, x = .ref a ∧ y = .ref b ∧ xs.all flatV = true ∧ ys.all flatV = true ∧ ((SqL K H a xs ∧ SqL K H b ys) ∨ (SqT K H a xs ∧ SqT K H b ys))
def rEqFl (K : PySem.W.Frag) : R2 := fun x y H Q => ∃ xs ys, FlatAt K H x y xs ys ∧ Q (.bl (eqLs xs ys)) H
def rNeFl (K : PySem.W.Frag) : R2 := fun x y H Q => ∃ xs ys, FlatAt K H x y xs ys ∧ Q (.bl (!eqLs xs ys)) H
theorem tups_eq {xs ys : List V} : ((List.range (min xs.length ys.length)).all (fun j => eqV (xs.getD j .non) (ys.getD j .non)) && xs.length == ys.length) = eqLs xs ys := by
  by_cases h : xs.length = ys.length
  · rw [← h, Nat.min_self, eqLs_range xs ys h]
    simp
  · have : eqLs xs ys = false := by
      cases e : eqLs xs ys with
      | false => rfl
      | true => exact absurd (eqLs_len e) h
    rw [this, beq_eq_false_iff_ne.mpr h, Bool.and_false]
theorem op_eqFl (hu : X.A.units + 64 < cLine) : OpR X (compareOp .Eq) (rEqFl X.K) := by
  intro pins s σ H x y v u Q I rx ry h
  obtain ⟨xs, ys, ⟨a, b, rfl, rfl, f1, f2, h⟩, q⟩ := h
  cases rx
  cases ry
  rcases h with ⟨ha, hb⟩ | ⟨ha, hb⟩
  · obtain ⟨is, r1, p1, _⟩ := I.list ha
    obtain ⟨js, r2, p2, _⟩ := I.list hb
    have l1 := r1.length
    have l2 := r2.length
    by_cases hl : xs.length = ys.length
    · refine SeqAt.eq_listAt (e := fun j => eqV (xs.getD j .non) (ys.getD j .non)) p1.isList p2.isList (by simp only [List.size_toArray]; omega) (by omega) (eqAts r1 r2 f1 f2) ?_
      rw [List.size_toArray, ← l1, eqLs_range xs ys hl]
      exact ⟨.bl _, H, I, rfl, q⟩
    · have e : eqLs xs ys = false := by
        cases e : eqLs xs ys with
        | false => rfl
        | true => exact absurd (eqLs_len e) hl
      rw [e] at q
      exact SeqAt.eq_list_lengthsAt p1.isList p2.isList (by simp only [List.size_toArray]; rw [bne_iff_ne]; omega) (by omega) ⟨.bl _, H, I, rfl, q⟩
  · obtain ⟨is, r1, p1, _⟩ := I.tuple ha
    obtain ⟨js, r2, p2, _⟩ := I.tuple hb
    have l1 := r1.length
    have l2 := r2.length
    have k1 : s.heap.IsTuple a is.toArray := p1
    have k2 : s.heap.IsTuple b js.toArray := p2
    refine SeqAt.eq_tupleAt (e := fun j => eqV (xs.getD j .non) (ys.getD j .non)) k1 k2 (by omega) (eqAts r1 r2 f1 f2) ?_
    rw [List.size_toArray, List.size_toArray, ← l1, ← l2, tups_eq]
    exact ⟨.bl _, H, I, rfl, q⟩
theorem op_neFl (hu : X.A.units + 64 < cLine) : OpR X (compareOp .NotEq) (rNeFl X.K) := by
  intro pins s σ H x y v u Q I rx ry h
  obtain ⟨xs, ys, ⟨a, b, rfl, rfl, f1, f2, h⟩, q⟩ := h
  cases rx
  cases ry
  rcases h with ⟨ha, hb⟩ | ⟨ha, hb⟩
  · obtain ⟨is, r1, p1, _⟩ := I.list ha
    obtain ⟨js, r2, p2, _⟩ := I.list hb
    have l1 := r1.length
    have l2 := r2.length
    by_cases hl : xs.length = ys.length
    · refine SeqAt.RcNeAt.lists (e := fun j => eqV (xs.getD j .non) (ys.getD j .non)) p1.isList p2.isList (by simp only [List.size_toArray]; omega) (by omega) (eqAts r1 r2 f1 f2) X.prog X.w X.xe _ ?_
      rw [List.size_toArray, ← l1, eqLs_range xs ys hl]
      exact ⟨.bl _, H, I, rfl, q⟩
    · have e : eqLs xs ys = false := by
        cases e : eqLs xs ys with
        | false => rfl
        | true => exact absurd (eqLs_len e) hl
      rw [e] at q
      exact SeqAt.RcNeAt.lists_lengths p1.isList p2.isList (by simp only [List.size_toArray]; rw [bne_iff_ne]; omega) (by omega) X.prog X.w X.xe _ ⟨.bl _, H, I, rfl, q⟩
  · obtain ⟨is, r1, p1, _⟩ := I.tuple ha
    obtain ⟨js, r2, p2, _⟩ := I.tuple hb
    have l1 := r1.length
    have l2 := r2.length
    have k1 : s.heap.IsTuple a is.toArray := p1
    have k2 : s.heap.IsTuple b js.toArray := p2
    refine SeqAt.RcNeAt.tuples (e := fun j => eqV (xs.getD j .non) (ys.getD j .non)) k1 k2 (by omega) (eqAts r1 r2 f1 f2) X.prog X.w X.xe _ ?_
    rw [List.size_toArray, List.size_toArray, ← l1, ← l2, tups_eq]
    exact ⟨.bl _, H, I, rfl, q⟩
end
end Mo

namespace Mo
open PySem PySem.Spec PyProof.Rows L2
/-! ### the pen -/
def srcD (c : Addr) (t r : Int) : List (Key × V) := [(.inr "cells", .ref c), (.inr "index", .int t), (.inr "rest", .int r)]
theorem s_ct : ¬ ((Sum.inr "cells" : Key) = (Sum.inr "index" : Key)) := by decide +kernel
theorem s_cr : ¬ ((Sum.inr "cells" : Key) = (Sum.inr "rest" : Key)) := by decide +kernel
theorem s_tr : ¬ ((Sum.inr "index" : Key) = (Sum.inr "rest" : Key)) := by decide +kernel
theorem src_cells (c : Addr) (t r : Int) : valV (srcD c t r) (Sum.inr "cells") = some (.ref c) := valV_pos rfl
theorem src_index (c : Addr) (t r : Int) : valV (srcD c t r) (Sum.inr "index") = some (.int t) := by
  unfold srcD
  rw [valV_neg s_ct, valV_pos rfl]
theorem src_rest (c : Addr) (t r : Int) : valV (srcD c t r) (Sum.inr "rest") = some (.int r) := by
  unfold srcD
  rw [valV_neg s_cr, valV_neg s_tr, valV_pos rfl]
theorem sput_index (c : Addr) (t r u : Int) : putK (srcD c t r) (Sum.inr "index") (.int u) = srcD c u r := by
  unfold putK srcD
  have k1 := s_ct
  have k2 : ¬ ((Sum.inr "rest" : Key) = (Sum.inr "index" : Key)) := fun e => s_tr e.symm
  simp only [List.any_cons, List.map_cons, List.map_nil, k1, k2, if_false, if_true, decide_true, decide_false, Bool.true_or, Bool.or_true, Bool.false_or]
theorem sput_rest (c : Addr) (t r u : Int) : putK (srcD c t r) (Sum.inr "rest") (.int u) = srcD c t u := by
  unfold putK srcD
  have k1 := s_cr
  have k2 := s_tr
  simp only [List.any_cons, List.map_cons, List.map_nil, k1, k2, if_false, if_true, decide_true, decide_false, Bool.true_or, Bool.or_true, Bool.false_or]
theorem src_merge (c : Addr) (t r : Int) : mergeK [] (srcD c t r) = srcD c t r := by
  have k1 := s_ct
  have k2 := s_cr
  have k3 := s_tr
  simp only [mergeK, srcD, putK, List.foldl_cons, List.foldl_nil, List.any_nil, List.any_cons, List.nil_append, List.cons_append, k1, k2, k3, decide_false, Bool.or_false, Bool.false_eq_true, if_false]
/-- the pen at d, its cells at c, t draws done -/
def Src (H : Hp) (d c : Addr) (t : Nat) : Prop := ∃ (ns : List Int) (r : Int), H d = some (.dK (srcD c t r)) ∧ H c = some (.lst (ns.map V.int)) ∧ ns.length ≤ 63 ∧ 0 ≤ r
theorem Src.ne {H : Hp} {d c : Addr} {t : Nat} (h : Src H d c t) : d ≠ c := by
  obtain ⟨ns, r, h1, h2, _⟩ := h
  exact ne_of h1 h2 (by intro z; cases z)
theorem Src.new {H : Hp} {d c : Addr} {t : Nat} (h : Src H d c t) {p : Addr} (hp : H p = none) : p ≠ d ∧ p ≠ c := by
  obtain ⟨ns, r, h1, h2, _⟩ := h
  exact ⟨(ne_of_none h1 hp).symm, (ne_of_none h2 hp).symm⟩
theorem Src.upd {H : Hp} {d c : Addr} {t : Nat} (h : Src H d c t) {p : Addr} {o : HO} (h1 : p ≠ d) (h2 : p ≠ c) : Src (upd H p o) d c t := by
  obtain ⟨ns, r, e1, e2, e3⟩ := h
  exact ⟨ns, r, by rw [upd_ne h1.symm]; exact e1, by rw [upd_ne h2.symm]; exact e2, e3⟩
theorem Src.same {H H' : Hp} {d c : Addr} {t : Nat} (h : Src H d c t) (s : Same H H') : Src H' d c t := by
  obtain ⟨ns, r, e1, e2, e3⟩ := h
  exact ⟨ns, r, s _ _ e1, s _ _ e2, e3⟩
theorem src_set {H : Hp} {d c : Addr} {t : Nat} (h : Src H d c t) {u : Nat} {r : Int} (hr : 0 ≤ r) : Src (L2.upd H d (.dK (srcD c u r))) d c u := by
  have n := h.ne
  obtain ⟨ns, r0, e1, e2, e3, _⟩ := h
  exact ⟨ns, r, upd_same, by rw [upd_ne n.symm]; exact e2, e3, hr⟩
def spSDraw : Sp := fun vs H Q _ => ∃ (d c : Addr) (n : Int) (t : Nat), vs = [.ref d, .int n] ∧ Src H d c t ∧ 0 < n ∧ n < 1073741824 ∧ t < 1073741824 ∧
  ∀ H' k t', But d H H' → Src H' d c t' → t' ≤ t + 1 → 0 ≤ k → k < n → Q (.int k) H'
def spSPick (K : PySem.W.Frag) : Sp := fun vs H Q _ => ∃ (d c l : Addr) (xs : List V) (t : Nat), vs = [.ref d, .ref l] ∧ Src H d c t ∧ SqL K H l xs ∧ l ≠ d ∧ 0 < xs.length ∧ xs.length < 1073741824 ∧ t < 1073741824 ∧
  ∀ H' v t', But d H H' → Src H' d c t' → t' ≤ t + 1 → v ∈ xs → Q v H'
end Mo

namespace Mo
open PySem PySem.Spec PyProof.Rows L2
section
variable {K : PySem.W.Frag}
theorem intsDp {H : Hp} : ∀ ns : List Int, DpAll K H (ns.map V.int) (ns.map PyData.int)
  | [] => .nil
  | n :: ns => .cons (.int n) (intsDp ns)
theorem tupI_dat {H : Hp} {p : Addr} {ns : List Int} (h : H p = some (.tup (ns.map V.int))) : Dat K H (.ref p) (.tuple (ns.map PyData.int)) := .inl (.tup (SqT.of h) (intsDp ns))
theorem lstI_dat {H : Hp} {p : Addr} {ns : List Int} (h : H p = some (.lst (ns.map V.int))) : Dat K H (.ref p) (.list (ns.map PyData.int)) := .inl (.lst (SqL.of h) (intsDp ns))
theorem ints_fitAll {B : Nat} : ∀ {ns : List Int}, (∀ n ∈ ns, n.natAbs < 10 ^ B) → FitAll B (2 * ns.length) 0 (ns.map PyData.int)
  | [], _ => ⟨trivial, Nat.le_refl _, Nat.le_refl _⟩
  | n :: ns, h => by
    have ih := ints_fitAll (B := B) (ns := ns) fun x hx => h x (List.mem_cons_of_mem _ hx)
    refine ⟨?_, ?_, ?_⟩
    · simp only [List.map_cons, okAll]
      exact ⟨by simp only [okD]; exact h n (List.mem_cons_self ..), ih.ok⟩
    · have := ih.bulk
      simp only [List.map_cons, PyData.bulkAll, PyData.bulk, List.length_cons]
      omega
    · have := ih.deep
      simp only [List.map_cons, PyData.depthAll, PyData.depth]
      omega
theorem tupI_repr {ns : List Int} (h : ∀ n ∈ ns, n.natAbs < 10 ^ 20) (hl : ns.length ≤ 100000) : (PyData.tuple (ns.map PyData.int)).showable = true ∧ (PyData.tuple (ns.map PyData.int)).depth ≤ 40 ∧ (PyData.tuple (ns.map PyData.int)).shown.length ≤ sizeLine :=
  ((ints_fitAll h).tup).repr (by decide) (by decide) (by omega) (by decide)
theorem lstI_repr {ns : List Int} (h : ∀ n ∈ ns, n.natAbs < 10 ^ 20) (hl : ns.length ≤ 100000) : (PyData.list (ns.map PyData.int)).showable = true ∧ (PyData.list (ns.map PyData.int)).depth ≤ 40 ∧ (PyData.list (ns.map PyData.int)).shown.length ≤ sizeLine :=
  ((ints_fitAll h).lst).repr (by decide) (by decide) (by omega) (by decide)
end
end Mo

namespace Mo
open PySem PySem.Spec PyProof.Rows L2
theorem ints_dx {N : Addr → Prop} {H : Hp} : ∀ ns : List Int, DxAll N H (ns.map V.int) (ns.map PyData.int)
  | [] => .nil
  | n :: r => .cons (.int n) (ints_dx r)
theorem tupI_dx {H : Hp} {p : Addr} {ns : List Int} (h : H p = some (.tup (ns.map V.int))) : Dx (fun _ => False) H (.ref p) (.tuple (ns.map PyData.int)) := .tup h (fun z => z) (ints_dx ns)
theorem same_ne (x : V) : V.bl (!decide (x = x)) = V.bl false := by simp
theorem same_eq (x : V) : V.bl (decide (x = x)) = V.bl true := by simp
/-- two equal tuples of flat values are not unlike -/
theorem neFl_self {K : PySem.W.Frag} {H : Hp} {p r : Addr} {xs : List V} {Q : VK} (hp : H p = some (.tup xs)) (hr : H r = some (.tup xs)) (hf : xs.all flatV = true) (q : Q (.bl false) H) : rNeFl K (.ref p) (.ref r) H Q :=
  ⟨xs, xs, ⟨p, r, rfl, rfl, hf, hf, .inr ⟨SqT.of hp, SqT.of hr⟩⟩, by rw [eqLs_self hf]; exact q⟩
theorem eqFl_self {K : PySem.W.Frag} {H : Hp} {p r : Addr} {xs : List V} {Q : VK} (hp : H p = some (.tup xs)) (hr : H r = some (.tup xs)) (hf : xs.all flatV = true) (q : Q (.bl true) H) : rEqFl K (.ref p) (.ref r) H Q :=
  ⟨xs, xs, ⟨p, r, rfl, rfl, hf, hf, .inr ⟨SqT.of hp, SqT.of hr⟩⟩, by rw [eqLs_self hf]; exact q⟩
theorem cnt_abs {a b : Int} {N : Addr → Prop} {H : Hp} {i : Int} {e : PyData} (h : Dx N H (.int i) e) (hn : cntB a b e = false) (h1 : a ≤ i) (h2 : i ≤ b) : False := by
  cases h
  have z : (decide (a ≤ i) && decide (i ≤ b)) = false := hn
  rw [decide_eq_true h1, decide_eq_true h2] at z
  cases z
theorem cnt_out {a b i : Int} (h : i < a ∨ b < i) : cntB a b (.int i) = false := by
  show (decide (a ≤ i) && decide (i ≤ b)) = false
  rcases h with h | h
  · rw [decide_eq_false (show ¬ a ≤ i by omega)]
    rfl
  · rw [decide_eq_false (show ¬ i ≤ b by omega), Bool.and_false]
/-- where a dict d is and the tables, what the lambda leaves -/
theorem ext_at {H H' : Hp} (s : LamX.ExtN H H') {b : Addr} {o : HO} (h : H b = some o) (n : ∀ ps, o ≠ .tbl ps) : H' b = some o := s b o h n
end Mo

/-! ### texts among data of any kind -/
namespace Mo
open PySem PySem.Spec PyProof.Rows L2
theorem bulk_mem : ∀ {ds : List PyData} {d : PyData}, d ∈ ds → d.bulk ≤ PyData.bulkAll ds
  | x :: ds, d, h => by
    simp only [PyData.bulkAll]
    rcases List.mem_cons.mp h with rfl | h
    · omega
    · have := bulk_mem h
      omega
theorem bulk_len (a : List PyData) : a.length ≤ PyData.bulkAll a := by
  induction a with
  | nil => exact Nat.zero_le _
  | cons x a ih =>
    simp only [PyData.bulkAll, List.length_cons]
    omega
theorem tup_dx : ∀ {N : Addr → Prop} {H : Hp} {x : V} {d : PyData}, Dx N H x d → isTupD d = true → ∃ a xs ds, x = .ref a ∧ d = .tuple ds ∧ H a = some (.tup xs) ∧ ¬ N a ∧ DxAll N H xs ds := by
  intro N H x d h e
  cases h with
  | tup h n t => exact ⟨_, _, _, rfl, rfl, h, n, t⟩
  | _ => exact absurd (show false = true from e) (by decide)
theorem str_dx : ∀ {N : Addr → Prop} {H : Hp} {x : V} {d : PyData}, Dx N H x d → isStrD d = true → ∃ cs : List Nat, x = .str (tx cs) ∧ d = .str (tx cs) := by
  intro N H x d h e
  cases h with
  | str z => exact ⟨z.cps.toList, rfl, rfl⟩
  | _ => exact absurd (show false = true from e) (by decide)
theorem notTup {d : PyData} (h : isTupD d = false) : textD d = false := by
  cases d <;> first | rfl | exact absurd (show true = false from h) (by decide)
/-- check_text: nothing, or InvalidText with the very value -/
def spChkT (C : Addr) : Sp := fun vs H Q E => ∃ (N : Addr → Prop) (x : V) (d : PyData), vs = [x] ∧ Dx N H x d ∧ d.bulk ≤ 1000000 ∧ (textD d = true → ∀ H', Same H H' → Q .non H') ∧
  (textD d = false → ∀ dd H', H dd = none → Same H H' → H' dd = some (.xd [("value", x)]) → E (.ref C) (some dd) H')
theorem text_ints {ns : List Int} (h : ∀ n ∈ ns, 0 ≤ n ∧ n ≤ 999999) (hl : ns.length ≤ 4096) : textD (.tuple (ns.map PyData.int)) = true := by
  show (decide ((ns.map PyData.int).length ≤ 4096) && (ns.map PyData.int).all letterD) = true
  rw [decide_eq_true (by rw [List.length_map]; exact hl), Bool.true_and, List.all_eq_true]
  intro d hd
  obtain ⟨n, hn, rfl⟩ := List.mem_map.mp hd
  show (decide (0 ≤ n) && decide (n ≤ 999999)) = true
  rw [decide_eq_true (h n hn).1, decide_eq_true (h n hn).2]
  rfl
theorem bulk_ints (ns : List Int) : PyData.bulkAll (ns.map PyData.int) = ns.length := by
  induction ns with
  | nil => rfl
  | cons n r ih =>
    rw [List.map_cons]
    simp only [PyData.bulkAll, PyData.bulk, List.length_cons]
    omega
end Mo
namespace Mo
open PySem PySem.Spec PyProof.Rows L2
/-- an error of the class C with the field f, value x, is let out -/
def Errs (C : Addr) (f : Str) (x : V) (H : Hp) (E : XK) : Prop := ∀ dd H', H dd = none → Same H H' → H' dd = some (.xd [(f, x)]) → E (.ref C) (some dd) H'
theorem Errs.same {C : Addr} {f : Str} {x : V} {H H1 : Hp} {E : XK} (h : Errs C f x H E) (s : Same H H1) : Errs C f x H1 E := fun dd H' nd s2 hd => h dd H' (s.free nd) (s.trans s2) hd
end Mo
namespace Mo
open PySem PySem.Spec PyProof.Rows L2
/-- a method of a list within a try: the reading names K itself -/
theorem pe_appK {X : Cx} {K : PySem.W.Frag} {o e : Expr} {to : TE} {t : TA} {apos cpos : Pos} (hK : X.K = K) (ho : PE X o to) (ha : PA X [e] t)
    (hbase : attributeBase o "append" X.env (eval o X.env) = eval o X.env := by rfl) (hfew : ((backTo cpos (starEach [e] X.env)).all (fun x => !x.1) && (backToKw cpos (keywordEach [] X.env)).all (fun x => x.1.isSome) && decide (([e] : List Expr).length + ([] : List Keyword).length + (if ([] : List Keyword).isEmpty then 0 else 1) < 30)) = true := by rfl)
    (hline : (apos.endLine == cpos.line) = true := by rfl) (hs : starEach [e] X.env = (false, eval e X.env) :: starEach [] X.env := by rfl) (hplain : (backTo cpos (starEach [] X.env)).any (·.1) = false := by rfl) :
    PE X (.Call (.Attribute o "append" apos) [e] [] cpos) (tBM K "list" rAppend to t) := by
  subst hK
  exact pe_bm PySem.F.plainAttrs_list PySem.F.slot_list_append PySem.F.type_list_append mt_append ho ha hbase hfew hline hs hplain
end Mo

/-! ### numbers and texts as they are written, and how they are read -/
namespace Mo
open PySem PySem.Spec PyProof.Rows L2
open PySem.NumText (AllDigits digitsVal)
abbrev numL := TL.numL
def isDig (c : Nat) : Bool := decide (48 ≤ c) && decide (c ≤ 57)
theorem dig_in (c : Nat) : decide (c ∈ (Str.ofString "0123456789").cps.toList) = isDig c := by
  have e : (Str.ofString "0123456789").cps.toList = [48, 49, 50, 51, 52, 53, 54, 55, 56, 57] := by decide +kernel
  rw [e]
  unfold isDig
  by_cases h : 48 ≤ c ∧ c ≤ 57
  · rw [decide_eq_true h.1, decide_eq_true h.2, decide_eq_true]
    · rfl
    · have : c = 48 ∨ c = 49 ∨ c = 50 ∨ c = 51 ∨ c = 52 ∨ c = 53 ∨ c = 54 ∨ c = 55 ∨ c = 56 ∨ c = 57 := by omega
      simpa using this
  · rw [decide_eq_false]
    · by_cases h1 : 48 ≤ c
      · rw [decide_eq_true h1, decide_eq_false (fun z => h ⟨h1, z⟩)]
        rfl
      · rw [decide_eq_false h1]
        rfl
    · intro z
      have : c = 48 ∨ c = 49 ∨ c = 50 ∨ c = 51 ∨ c = 52 ∨ c = 53 ∨ c = 54 ∨ c = 55 ∨ c = 56 ∨ c = 57 := by simpa using z
      omega
/-- no leading zeros, and at most g -/
def isNum (g : Nat) (ds : List Nat) : Bool := (decide (ds = [48]) || decide (ds.headD 0 ≠ 48)) && decide (digitsVal ds ≤ g)
/-- how many signs of s the number goes on, acc standing ahead -/
def numEnd (g : Nat) : List Nat → List Nat → Nat
  | _, [] => 0
  | acc, c :: r => if isDig c && isNum g (acc ++ [c]) then 1 + numEnd g (acc ++ [c]) r else 0
theorem numEnd_nil (g : Nat) (acc : List Nat) : numEnd g acc [] = 0 := by unfold numEnd; rfl
theorem numEnd_cons (g : Nat) (acc : List Nat) (c : Nat) (r : List Nat) : numEnd g acc (c :: r) = if isDig c && isNum g (acc ++ [c]) then 1 + numEnd g (acc ++ [c]) r else 0 := by rw [numEnd]
theorem numEnd_le (g : Nat) : ∀ (s acc : List Nat), numEnd g acc s ≤ s.length
  | [], _ => Nat.le_refl _
  | c :: r, acc => by
    unfold numEnd
    split
    · have := numEnd_le g r (acc ++ [c])
      rw [List.length_cons]
      omega
    · exact Nat.zero_le _
theorem fold_low : ∀ (r : List Nat) (a : Nat), a * 10 ^ r.length ≤ r.foldl (fun acc c => acc * 10 + (c - 48)) a
  | [], a => by simp
  | c :: r, a => by
    have h := fold_low r (a * 10 + (c - 48))
    have h2 : a * 10 * 10 ^ r.length ≤ (a * 10 + (c - 48)) * 10 ^ r.length := Nat.mul_le_mul_right _ (by omega)
    rw [List.length_cons, Nat.pow_succ, Nat.mul_comm (10 ^ r.length) 10, ← Nat.mul_assoc, List.foldl_cons]
    omega
theorem fold_grow (r : List Nat) (a : Nat) : a ≤ r.foldl (fun acc c => acc * 10 + (c - 48)) a := by
  have h := fold_low r a
  have : 1 ≤ 10 ^ r.length := Nat.pow_pos (by decide)
  have : a * 1 ≤ a * 10 ^ r.length := Nat.mul_le_mul_left _ this
  omega
theorem val_app (a b : List Nat) : digitsVal a ≤ digitsVal (a ++ b) := by
  unfold digitsVal
  rw [List.foldl_append]
  exact fold_grow b _
theorem num_short {g k : Nat} {ds : List Nat} (hd : AllDigits ds) (hn : isNum g ds = true) (hg : g < 10 ^ k) (hk : 1 ≤ k) : ds.length ≤ k := by
  unfold isNum at hn
  rw [Bool.and_eq_true, Bool.or_eq_true] at hn
  obtain ⟨h1, h2⟩ := hn
  have h2 := of_decide_eq_true h2
  rcases h1 with h1 | h1
  · rw [of_decide_eq_true h1]
    exact hk
  · cases ds with
    | nil => exact Nat.zero_le _
    | cons c r =>
      have hc := hd.head
      have hne : c ≠ 48 := of_decide_eq_true h1
      have h3 := fold_low r (0 * 10 + (c - 48))
      have h4 : digitsVal (c :: r) = r.foldl (fun acc c => acc * 10 + (c - 48)) (0 * 10 + (c - 48)) := rfl
      have h5 : 1 * 10 ^ r.length ≤ (0 * 10 + (c - 48)) * 10 ^ r.length := Nat.mul_le_mul_right _ (by omega)
      rcases Nat.lt_or_ge r.length k with z | z
      · exact z
      · have := Nat.pow_le_pow_right (n := 10) (by decide) z
        omega
/-! ### the signs of a number, one by one -/
theorem numL_head (n : Nat) (h : 0 < n) : (numL n).headD 0 ≠ 48 := by
  induction n using Nat.strongRecOn with
  | ind n ih =>
    by_cases e : n < 10
    · rw [numL, TL.numL_lt e]
      show 48 + n ≠ 48
      omega
    · have := ih (n / 10) (by omega) (by omega)
      rw [numL, TL.numL_step (by omega)]
      cases q : TL.numL (n / 10) with
      | nil => exact absurd q (TL.numL_ne _)
      | cons c r =>
        rw [numL, q] at this
        exact this
theorem numL_zero : numL 0 = [48] := TL.numL_lt (by decide)
theorem isNum_pre {n g : Nat} (hg : n ≤ g) {p q : List Nat} (h : p ++ q = numL n) (hp : p ≠ []) : isNum g p = true := by
  have hv : digitsVal p ≤ n := by
    have := val_app p q
    rw [h, numL, TL.numL_val] at this
    exact this
  unfold isNum
  rw [decide_eq_true (Nat.le_trans hv hg), Bool.and_true]
  rcases Nat.eq_zero_or_pos n with e | e
  · subst e
    rw [numL_zero] at h
    cases p with
    | nil => exact absurd rfl hp
    | cons c r =>
      cases r with
      | nil =>
        cases h
        rfl
      | cons d r => cases h
  · have hh := numL_head n e
    cases p with
    | nil => exact absurd rfl hp
    | cons c r =>
      rw [← h] at hh
      have hh : c ≠ 48 := hh
      rw [Bool.or_eq_true]
      exact .inr (decide_eq_true hh)
theorem dig_of {l : List Nat} (h : AllDigits l) {c : Nat} (hc : c ∈ l) : isDig c = true := by
  have := h c hc
  unfold isDig
  rw [decide_eq_true this.1, decide_eq_true this.2]
  rfl
/-- a number that is written, and then no digit -/
theorem numEnd_num {n g : Nat} (hg : n ≤ g) {tail : List Nat} (ht : isDig (tail.headD 0) = false) : ∀ (ds acc : List Nat), acc ++ ds = numL n → numEnd g acc (ds ++ tail) = ds.length
  | [], acc, h => by
    rw [List.nil_append]
    cases tail with
    | nil => rfl
    | cons c r =>
      unfold numEnd
      rw [show isDig c = false from ht]
      rfl
  | c :: ds, acc, h => by
    have hc : isDig c = true := dig_of (TL.numL_digits n) (by rw [show TL.numL n = acc ++ c :: ds from h.symm]; simp)
    have hn : isNum g (acc ++ [c]) = true := isNum_pre hg (q := ds) (by rw [List.append_assoc]; exact h) (by simp)
    rw [List.cons_append]
    unfold numEnd
    rw [hc, hn, numEnd_num hg ht ds (acc ++ [c]) (by rw [List.append_assoc]; exact h)]
    show 1 + ds.length = ds.length + 1
    omega
/-! ### letters one after the other -/
def readL (sep : Nat) (cs : List Nat) (i : Nat) (ls : List Int) : Nat ⊕ (List Int × Nat) :=
  if numEnd 999999 [] (cs.drop i) = 0 then .inl i
  else if h : cs[i + numEnd 999999 [] (cs.drop i)]? = some sep ∧ ls.length + 1 ≠ 4096 then readL sep cs (i + numEnd 999999 [] (cs.drop i) + 1) (ls ++ [((digitsVal ((cs.drop i).take (numEnd 999999 [] (cs.drop i))) : Nat) : Int)])
  else .inr (ls ++ [((digitsVal ((cs.drop i).take (numEnd 999999 [] (cs.drop i))) : Nat) : Int)], i + numEnd 999999 [] (cs.drop i))
termination_by cs.length - i
decreasing_by
  have := (List.getElem?_eq_some_iff.mp h.1).1
  omega
/-- how a text is read: the text, or where it is wrong -/
def prs (cs : List Nat) : Nat ⊕ List Int :=
  if cs.headD 0 = 46 then (if 1 < cs.length then .inl 1 else .inr [])
  else match readL 32 cs 0 [] with
    | .inl i => .inl i
    | .inr (ls, e) => if e < cs.length then .inl e else .inr ls
/-- letters as they are written -/
def lin (sep : Nat) : List Nat → List Nat
  | [] => []
  | [n] => numL n
  | n :: m :: r => numL n ++ sep :: lin sep (m :: r)
theorem lin_cons {sep n : Nat} {r : List Nat} (h : r ≠ []) : lin sep (n :: r) = numL n ++ sep :: lin sep r := by
  cases r with
  | nil => exact absurd rfl h
  | cons m r => rfl
theorem readL_lin {sep : Nat} (hs : isDig sep = false) : ∀ (rest : List Nat) (pre : List Nat) (ls : List Int), rest ≠ [] → (∀ n ∈ rest, n ≤ 999999) → ls.length + rest.length ≤ 4096 →
    readL sep (pre ++ lin sep rest) pre.length ls = .inr (ls ++ rest.map fun n : Nat => (n : Int), (pre ++ lin sep rest).length)
  | [], _, _, h, _, _ => absurd rfl h
  | n :: r, pre, ls, _, hn, hl => by
    have hn0 := hn n List.mem_cons_self
    have hnl : 0 < (numL n).length := List.length_pos_iff.mpr (TL.numL_ne n)
    by_cases e : r = []
    · subst e
      have hd : (pre ++ lin sep [n]).drop pre.length = numL n ++ [] := by
        rw [List.drop_left, List.append_nil]
        rfl
      have h1 := numEnd_num (tail := []) hn0 (by decide) (numL n) [] rfl
      rw [readL, hd, h1, if_neg (by omega), dif_neg (fun z => ?_)]
      · rw [List.append_nil, List.take_length, numL, TL.numL_val, List.length_append]
        rfl
      · have := (List.getElem?_eq_some_iff.mp z.1).1
        rw [List.length_append, show lin sep [n] = numL n from rfl] at this
        omega
    · have hd : (pre ++ lin sep (n :: r)).drop pre.length = numL n ++ sep :: lin sep r := by
        rw [List.drop_left, lin_cons e]
      have h1 := numEnd_num (tail := sep :: lin sep r) hn0 hs (numL n) [] rfl
      have hrl : 0 < r.length := List.length_pos_iff.mpr e
      have hl2 : ls.length + (r.length + 1) ≤ 4096 := hl
      have hat : (pre ++ lin sep (n :: r))[pre.length + (numL n).length]? = some sep := by
        rw [lin_cons e, List.getElem?_append_right (by omega), show pre.length + (numL n).length - pre.length = (numL n).length by omega, List.getElem?_append_right (Nat.le_refl _), Nat.sub_self]
        rfl
      rw [readL, hd, h1, if_neg (by omega), dif_pos ⟨hat, by omega⟩]
      · rw [List.take_left, numL, TL.numL_val]
        have ih := readL_lin hs r (pre ++ numL n ++ [sep]) (ls ++ [(n : Int)]) e (fun m hm => hn m (List.mem_cons_of_mem _ hm)) (by rw [List.length_append]; show _ + 1 + _ ≤ _; omega)
        have e1 : pre ++ numL n ++ [sep] ++ lin sep r = pre ++ lin sep (n :: r) := by rw [lin_cons e]; simp
        have e2 : (pre ++ numL n ++ [sep]).length = pre.length + (numL n).length + 1 := by
          rw [List.length_append, List.length_append]
          rfl
        rw [e1, e2] at ih
        rw [ih]
        simp
/-- the signs of a text as it is written -/
def lineL (ns : List Nat) : List Nat := if ns = [] then [46] else lin 32 ns
theorem lin_head {sep : Nat} {ns : List Nat} (h : ns ≠ []) : isDig ((lin sep ns).headD 0) = true := by
  have key : ∀ n : Nat, ∀ t : List Nat, isDig ((numL n ++ t).headD 0) = true := fun n t => by
    cases q : numL n with
    | nil => exact absurd q (TL.numL_ne n)
    | cons c r => exact dig_of (TL.numL_digits n) (by rw [show TL.numL n = c :: r from q]; exact List.mem_cons_self)
  cases ns with
  | nil => exact absurd rfl h
  | cons n r =>
    by_cases e : r = []
    · subst e
      have := key n []
      rw [List.append_nil] at this
      exact this
    · rw [lin_cons e]
      exact key n _
theorem prs_line {ns : List Nat} (hn : ∀ n ∈ ns, n ≤ 999999) (hl : ns.length ≤ 4096) : prs (lineL ns) = .inr (ns.map fun n : Nat => (n : Int)) := by
  unfold lineL
  by_cases e : ns = []
  · subst e
    rfl
  · rw [if_neg e]
    have h1 := lin_head (sep := 32) e
    have h2 := readL_lin (sep := 32) (by decide) ns [] [] e hn (by simpa using hl)
    rw [List.nil_append, List.nil_append] at h2
    unfold prs
    rw [if_neg (fun z => by rw [z] at h1; exact absurd h1 (by decide)), show ([] : List Nat).length = 0 from rfl] at *
    rw [h2]
    show (if (lin 32 ns).length < (lin 32 ns).length then _ else _) = _
    rw [if_neg (Nat.lt_irrefl _)]
end Mo
namespace Mo
open PySem PySem.Spec PyProof.Rows L2
open PySem.NumText (AllDigits digitsVal)
theorem numEnd_spec (g : Nat) : ∀ (s acc : List Nat), AllDigits acc → AllDigits (acc ++ s.take (numEnd g acc s)) ∧ (numEnd g acc s = 0 ∨ isNum g (acc ++ s.take (numEnd g acc s)) = true)
  | [], acc, h => by
    rw [numEnd_nil]
    exact ⟨by rw [List.take_zero, List.append_nil]; exact h, .inl rfl⟩
  | c :: r, acc, h => by
    rw [numEnd_cons]
    cases e : isDig c && isNum g (acc ++ [c]) with
    | false => exact ⟨by rw [if_neg Bool.false_ne_true, List.take_zero, List.append_nil]; exact h, .inl rfl⟩
    | true =>
      rw [if_pos rfl]
      rw [Bool.and_eq_true] at e
      have hc : 48 ≤ c ∧ c ≤ 57 := by
        have e1 := e.1
        unfold isDig at e1
        rw [Bool.and_eq_true] at e1
        exact ⟨of_decide_eq_true e1.1, of_decide_eq_true e1.2⟩
      have h2 : AllDigits (acc ++ [c]) := fun x hx => by
        rcases List.mem_append.mp hx with y | y
        · exact h x y
        · rw [List.mem_singleton.mp y]
          exact hc
      obtain ⟨i1, i2⟩ := numEnd_spec g r (acc ++ [c]) h2
      rw [Nat.add_comm 1, List.take_succ_cons]
      have e3 : acc ++ c :: r.take (numEnd g (acc ++ [c]) r) = acc ++ [c] ++ r.take (numEnd g (acc ++ [c]) r) := by simp
      rw [e3]
      refine ⟨i1, .inr ?_⟩
      rcases i2 with y | y
      · rw [y, List.take_zero, List.append_nil]
        exact e.2
      · exact y
theorem num_at {g : Nat} {s : List Nat} (h : numEnd g [] s ≠ 0) : AllDigits (s.take (numEnd g [] s)) ∧ isNum g (s.take (numEnd g [] s)) = true ∧ s.take (numEnd g [] s) ≠ [] := by
  obtain ⟨h1, h2⟩ := numEnd_spec g s [] (fun c hc => absurd hc List.not_mem_nil)
  rw [List.nil_append] at h1 h2
  have hl := numEnd_le g s []
  refine ⟨h1, h2.resolve_left h, fun z => h ?_⟩
  have := congrArg List.length z
  rw [List.length_take, Nat.min_eq_left hl] at this
  exact this
theorem starts_dot (cs : List Nat) : Txt.startswith (tx cs) (Str.ofString ".") = decide (cs.headD 0 = 46) := by
  have e : Str.ofString "." = tx [46] := by decide +kernel
  rw [e]
  unfold Txt.startswith
  rw [tx_len, tx_len]
  cases cs with
  | nil => rfl
  | cons c r =>
    show (decide (0 + 1 ≤ r.length + 1) && _) = decide (c = 46)
    rw [decide_eq_true (by omega), Bool.true_and]
    have e1 : (tx (c :: r)).cps.extract 0 (0 + (tx [46]).length) = #[c] := by
      rw [tx_len]
      show (c :: r).toArray.extract 0 1 = #[c]
      simp
    show ((tx (c :: r)).cps.extract 0 (0 + (tx [46]).length) == (tx [46]).cps) = _
    rw [e1]
    show (#[c] == #[46]) = decide (c = 46)
    by_cases h : c = 46
    · subst h
      rfl
    · rw [decide_eq_false h]
      simp [h]
end Mo

namespace Mo
open PySem PySem.Spec PyProof.Rows L2
section
variable {X : Cx}
/-- x //= y of ints, a divisor that is small -/
theorem ip_fdiv : PIp X .FloorDiv (fun x y H Q => ∃ i j, x = .int i ∧ y = .int j ∧ (j ≠ 0 ∧ j.natAbs < 1073741824) ∧ Q (.int (i.fdiv j)) H) := by
  intro pins s σ H x y v u Q I r1 r2 h
  obtain ⟨i, j, e1, e2, hc, q⟩ := h
  subst e1; subst e2
  obtain ⟨t, rfl⟩ := r1
  obtain ⟨t', rfl⟩ := r2
  exact ifloordiv_int hc.1 ⟨.int _, H, I.tok _, ⟨_, rfl⟩, q⟩ (.inl (PyProof.noPylong_small hc.2))
/-- x += y of texts -/
theorem ip_addS : PIp X .Add (fun x y H Q => ∃ i j, x = .str i ∧ y = .str j ∧ i.length + j.length ≤ sizeLine ∧ Q (.str (i ++ j)) H) :=
  fun pins s σ H x y u v Q I rx ry h => iop_add_str pins s σ H x y u v Q I rx ry h
end
end Mo

namespace Mo
open PySem PySem.Spec PyProof.Rows L2
def topS (i : Nat) : Stmt := PySem.Challenge.pw_mustoccur_k86_whole_strings_parsed_as_pl.main.body.getD i (.Pass ⟨0, 0, 0, 0⟩)
abbrev sIsNumber : Stmt := topS 9
theorem scIsNumber : FnScope ["digits", "greatest"] ["digits", "greatest"] (defScope sIsNumber) := ⟨rfl, rfl, rfl, by decide +kernel, rfl, by decide +kernel, by decide +kernel⟩
abbrev sNumberEnd : Stmt := topS 10
theorem scNumberEnd : FnScope ["line", "at", "greatest", "end"] ["line", "at", "greatest"] (defScope sNumberEnd) := ⟨rfl, rfl, rfl, by decide +kernel, rfl, by decide +kernel, by decide +kernel⟩
abbrev sReadLetters : Stmt := topS 11
theorem scReadLetters : FnScope ["line", "at", "separator", "letters", "end"] ["line", "at", "separator"] (defScope sReadLetters) := ⟨rfl, rfl, rfl, by decide +kernel, rfl, by decide +kernel, by decide +kernel⟩
abbrev sCheckEnd : Stmt := topS 12
theorem scCheckEnd : FnScope ["line", "end"] ["line", "end"] (defScope sCheckEnd) := ⟨rfl, rfl, rfl, by decide +kernel, rfl, by decide +kernel, by decide +kernel⟩
abbrev sReadValue : Stmt := topS 13
theorem scReadValue : FnScope ["line", "at", "known", "name", "text", "end"] ["line", "at", "known"] (defScope sReadValue) := ⟨rfl, rfl, rfl, by decide +kernel, rfl, by decide +kernel, by decide +kernel⟩
abbrev sParsePlace : Stmt := topS 14
theorem scParsePlace : FnScope ["line", "first_end", "values", "end", "name", "text"] ["line"] (defScope sParsePlace) := ⟨rfl, rfl, rfl, by decide +kernel, rfl, by decide +kernel, by decide +kernel⟩
abbrev sLPen : Stmt := topS 16
theorem scLPen : FnScope ["_law_script"] ["_law_script"] (defScope sLPen) := ⟨rfl, rfl, rfl, by decide +kernel, rfl, by decide +kernel, by decide +kernel⟩
abbrev sLDraw : Stmt := topS 17
theorem scLDraw : FnScope ["_law_pen_here", "_law_count", "_law_digit", "_law_index", "_law_cell", "_law_mixed"] ["_law_pen_here", "_law_count"] (defScope sLDraw) := ⟨rfl, rfl, rfl, by decide +kernel, rfl, by decide +kernel, by decide +kernel⟩
abbrev sLPick : Stmt := topS 18
theorem scLPick : FnScope ["_law_pen_here", "_law_options"] ["_law_pen_here", "_law_options"] (defScope sLPick) := ⟨rfl, rfl, rfl, by decide +kernel, rfl, by decide +kernel, by decide +kernel⟩
abbrev sLDrawnLetters : Stmt := topS 19
theorem scLDrawnLetters : FnScope ["_law_pen_here", "_law_count", "_law_first", "_law_step", "_law_k"] ["_law_pen_here", "_law_count"] (defScope sLDrawnLetters) := ⟨rfl, rfl, rfl, by decide +kernel, rfl, by decide +kernel, by decide +kernel⟩
abbrev sLDrawnText : Stmt := topS 20
theorem scLDrawnText : FnScope ["_law_pen_here", "_law_size", "_law_most", "_law_text", "_law_k"] ["_law_pen_here", "_law_size"] (defScope sLDrawnText) := ⟨rfl, rfl, rfl, by decide +kernel, rfl, by decide +kernel, by decide +kernel⟩
abbrev sLIsNumber : Stmt := topS 21
theorem scLIsNumber : FnScope ["_law_string", "_law_most", "_law_sign"] ["_law_string", "_law_most"] (defScope sLIsNumber) := ⟨rfl, rfl, rfl, by decide +kernel, rfl, by decide +kernel, by decide +kernel⟩
abbrev sLParseError : Stmt := topS 22
theorem scLParseError : FnScope ["_law_call", "_law_caught", "_law_found", "e"] ["_law_call"] (defScope sLParseError) := ⟨rfl, rfl, rfl, by decide +kernel, rfl, by decide +kernel, by decide +kernel⟩
abbrev sLBent : Stmt := topS 23
theorem scLBent : FnScope ["_law_pen_here", "_law_line", "_law_signs", "_law_at", "_law_other", "_law_sign", "_law_way", "_law_pair"] ["_law_pen_here", "_law_line", "_law_signs"] (defScope sLBent) := ⟨rfl, rfl, rfl, by decide +kernel, rfl, by decide +kernel, by decide +kernel⟩
abbrev sLDrawnPlace : Stmt := topS 24
theorem scLDrawnPlace : FnScope ["_law_pen_here", "_law_start", "_law_values", "_law_sign"] ["_law_pen_here"] (defScope sLDrawnPlace) := ⟨rfl, rfl, rfl, by decide +kernel, rfl, by decide +kernel, by decide +kernel⟩
abbrev sLPlaceLine : Stmt := topS 25
theorem scLPlaceLine : FnScope ["_law_place", "_law_start", "_law_values", "_law_line", "_law_sign", "_law_letter"] ["_law_place"] (defScope sLPlaceLine) := ⟨rfl, rfl, rfl, by decide +kernel, rfl, by decide +kernel, by decide +kernel⟩
abbrev sLIsValue : Stmt := topS 26
theorem scLIsValue : FnScope ["_law_part", "_law_used", "_law_one"] ["_law_part", "_law_used"] (defScope sLIsValue) := ⟨rfl, rfl, rfl, by decide +kernel, rfl, by decide +kernel, by decide +kernel⟩
abbrev sLBeginsValue : Stmt := topS 27
theorem scLBeginsValue : FnScope ["_law_part", "_law_used", "_law_numbers", "_law_one"] ["_law_part", "_law_used"] (defScope sLBeginsValue) := ⟨rfl, rfl, rfl, by decide +kernel, rfl, by decide +kernel, by decide +kernel⟩
abbrev sLPlaceOf : Stmt := topS 28
theorem scLPlaceOf : FnScope ["_law_line", "_law_parts", "_law_values", "_law_part", "_law_one"] ["_law_line"] (defScope sLPlaceOf) := ⟨rfl, rfl, rfl, by decide +kernel, rfl, by decide +kernel, by decide +kernel⟩
abbrev sLBegins : Stmt := topS 29
theorem scLBegins : FnScope ["_law_line", "_law_parts", "_law_begin"] ["_law_line"] (defScope sLBegins) := ⟨rfl, rfl, rfl, by decide +kernel, rfl, by decide +kernel, by decide +kernel⟩
abbrev sLLongest : Stmt := topS 30
theorem scLLongest : FnScope ["_law_line", "_law_low", "_law_high", "_law_middle"] ["_law_line"] (defScope sLLongest) := ⟨rfl, rfl, rfl, by decide +kernel, rfl, by decide +kernel, by decide +kernel⟩
abbrev sLaw : Stmt := topS 31
theorem scLaw : FnScope ["_law_script", "_law_pen_here", "_law_lines", "_law_turn", "_law_line", "_law_bend", "_law_place", "_law_due"] ["_law_script"] (defScope sLaw) := ⟨rfl, rfl, rfl, by decide +kernel, rfl, by decide +kernel, by decide +kernel⟩
abbrev sInitParseError : Stmt := inClass (topS 1) 0
theorem scInitParseError : FnScope ["self", "offset"] ["self", "offset"] (defScope sInitParseError) := ⟨rfl, rfl, rfl, by decide +kernel, rfl, by decide +kernel, by decide +kernel⟩
structure Txt (K : PySem.W.Frag) (mg : Str → Option Value) where
  cParseError : Addr
  eParseError : mg "ParseError" = some (.ref cParseError)
  iParseError : Addr
  dParseError : FuncData
  fInitParseError : Fun K "__init__" "ParseError.__init__" sInitParseError iParseError dParseError
  bInitParseError : Binds K dParseError ["self", "offset"] []
  xParseError : ErrC K cParseError iParseError "offset"
  oParseErrorValueError : PySem.W.kitOne K (.ref cParseError) (.type "ValueError") = some true
  aIsNumber : Addr
  dIsNumber : FuncData
  fIsNumber : Fun K "is_number" "is_number" sIsNumber aIsNumber dIsNumber
  bIsNumber : Binds K dIsNumber ["digits", "greatest"] []
  gIsNumber : mg "is_number" = some (.ref aIsNumber)
  aNumberEnd : Addr
  dNumberEnd : FuncData
  fNumberEnd : Fun K "number_end" "number_end" sNumberEnd aNumberEnd dNumberEnd
  bNumberEnd : Binds K dNumberEnd ["line", "at", "greatest"] []
  gNumberEnd : mg "number_end" = some (.ref aNumberEnd)
  aReadLetters : Addr
  dReadLetters : FuncData
  fReadLetters : Fun K "read_letters" "read_letters" sReadLetters aReadLetters dReadLetters
  bReadLetters : Binds K dReadLetters ["line", "at", "separator"] []
  gReadLetters : mg "read_letters" = some (.ref aReadLetters)
  aCheckEnd : Addr
  dCheckEnd : FuncData
  fCheckEnd : Fun K "check_end" "check_end" sCheckEnd aCheckEnd dCheckEnd
  bCheckEnd : Binds K dCheckEnd ["line", "end"] []
  gCheckEnd : mg "check_end" = some (.ref aCheckEnd)
  aReadValue : Addr
  dReadValue : FuncData
  fReadValue : Fun K "read_value" "read_value" sReadValue aReadValue dReadValue
  bReadValue : Binds K dReadValue ["line", "at", "known"] []
  gReadValue : mg "read_value" = some (.ref aReadValue)
  aParsePlace : Addr
  dParsePlace : FuncData
  fParsePlace : Fun K "parse_place" "parse_place" sParsePlace aParsePlace dParsePlace
  bParsePlace : Binds K dParsePlace ["line"] []
  gParsePlace : mg "parse_place" = some (.ref aParsePlace)
  aLPen : Addr
  dLPen : FuncData
  fLPen : Fun K "_law_pen" "_law_pen" sLPen aLPen dLPen
  bLPen : Binds K dLPen ["_law_script"] []
  gLPen : mg "_law_pen" = some (.ref aLPen)
  aLDraw : Addr
  dLDraw : FuncData
  fLDraw : Fun K "_law_draw" "_law_draw" sLDraw aLDraw dLDraw
  bLDraw : Binds K dLDraw ["_law_pen_here", "_law_count"] []
  gLDraw : mg "_law_draw" = some (.ref aLDraw)
  aLPick : Addr
  dLPick : FuncData
  fLPick : Fun K "_law_pick" "_law_pick" sLPick aLPick dLPick
  bLPick : Binds K dLPick ["_law_pen_here", "_law_options"] []
  gLPick : mg "_law_pick" = some (.ref aLPick)
  aLDrawnLetters : Addr
  dLDrawnLetters : FuncData
  fLDrawnLetters : Fun K "_law_drawn_letters" "_law_drawn_letters" sLDrawnLetters aLDrawnLetters dLDrawnLetters
  bLDrawnLetters : Binds K dLDrawnLetters ["_law_pen_here", "_law_count"] []
  gLDrawnLetters : mg "_law_drawn_letters" = some (.ref aLDrawnLetters)
  aLDrawnText : Addr
  dLDrawnText : FuncData
  fLDrawnText : Fun K "_law_drawn_text" "_law_drawn_text" sLDrawnText aLDrawnText dLDrawnText
  bLDrawnText : Binds K dLDrawnText ["_law_pen_here", "_law_size"] []
  gLDrawnText : mg "_law_drawn_text" = some (.ref aLDrawnText)
  aLIsNumber : Addr
  dLIsNumber : FuncData
  fLIsNumber : Fun K "_law_is_number" "_law_is_number" sLIsNumber aLIsNumber dLIsNumber
  bLIsNumber : Binds K dLIsNumber ["_law_string", "_law_most"] []
  gLIsNumber : mg "_law_is_number" = some (.ref aLIsNumber)
  aLParseError : Addr
  dLParseError : FuncData
  fLParseError : Fun K "_law_parse_error" "_law_parse_error" sLParseError aLParseError dLParseError
  bLParseError : Binds K dLParseError ["_law_call"] []
  gLParseError : mg "_law_parse_error" = some (.ref aLParseError)
  aLBent : Addr
  dLBent : FuncData
  fLBent : Fun K "_law_bent" "_law_bent" sLBent aLBent dLBent
  bLBent : Binds K dLBent ["_law_pen_here", "_law_line", "_law_signs"] []
  gLBent : mg "_law_bent" = some (.ref aLBent)
  aLDrawnPlace : Addr
  dLDrawnPlace : FuncData
  fLDrawnPlace : Fun K "_law_drawn_place" "_law_drawn_place" sLDrawnPlace aLDrawnPlace dLDrawnPlace
  bLDrawnPlace : Binds K dLDrawnPlace ["_law_pen_here"] []
  gLDrawnPlace : mg "_law_drawn_place" = some (.ref aLDrawnPlace)
  aLPlaceLine : Addr
  dLPlaceLine : FuncData
  fLPlaceLine : Fun K "_law_place_line" "_law_place_line" sLPlaceLine aLPlaceLine dLPlaceLine
  bLPlaceLine : Binds K dLPlaceLine ["_law_place"] []
  gLPlaceLine : mg "_law_place_line" = some (.ref aLPlaceLine)
  aLIsValue : Addr
  dLIsValue : FuncData
  fLIsValue : Fun K "_law_is_value" "_law_is_value" sLIsValue aLIsValue dLIsValue
  bLIsValue : Binds K dLIsValue ["_law_part", "_law_used"] []
  gLIsValue : mg "_law_is_value" = some (.ref aLIsValue)
  aLBeginsValue : Addr
  dLBeginsValue : FuncData
  fLBeginsValue : Fun K "_law_begins_value" "_law_begins_value" sLBeginsValue aLBeginsValue dLBeginsValue
  bLBeginsValue : Binds K dLBeginsValue ["_law_part", "_law_used"] []
  gLBeginsValue : mg "_law_begins_value" = some (.ref aLBeginsValue)
  aLPlaceOf : Addr
  dLPlaceOf : FuncData
  fLPlaceOf : Fun K "_law_place_of" "_law_place_of" sLPlaceOf aLPlaceOf dLPlaceOf
  bLPlaceOf : Binds K dLPlaceOf ["_law_line"] []
  gLPlaceOf : mg "_law_place_of" = some (.ref aLPlaceOf)
  aLBegins : Addr
  dLBegins : FuncData
  fLBegins : Fun K "_law_begins" "_law_begins" sLBegins aLBegins dLBegins
  bLBegins : Binds K dLBegins ["_law_line"] []
  gLBegins : mg "_law_begins" = some (.ref aLBegins)
  aLLongest : Addr
  dLLongest : FuncData
  fLLongest : Fun K "_law_longest" "_law_longest" sLLongest aLLongest dLLongest
  bLLongest : Binds K dLLongest ["_law_line"] []
  gLLongest : mg "_law_longest" = some (.ref aLLongest)
  aLaw : Addr
  dLaw : FuncData
  fLaw : Fun K "law" "law" sLaw aLaw dLaw
  bLaw : Binds K dLaw ["_law_script"] []
  gLaw : mg "law" = some (.ref aLaw)
  cdLaw : Addr
  pdLaw : Addr
  kdLaw : dLaw.code = .ref cdLaw
  hdLaw : PySem.W.codeHdIn K cdLaw pdLaw = true
  npLaw : K.lookup pdLaw = none
  t_VARIABLES : Tok
  m_VARIABLES : mg "VARIABLES" = some (.str "abcdefghijklmnopqrstuvwxyz" t_VARIABLES)
  t_MOST_VARIABLES : Tok
  m_MOST_VARIABLES : mg "MOST_VARIABLES" = some (.int 8 t_MOST_VARIABLES)
  t_LONGEST_TEXT : Tok
  m_LONGEST_TEXT : mg "LONGEST_TEXT" = some (.int 4096 t_LONGEST_TEXT)
  t_GREATEST_LETTER : Tok
  m_GREATEST_LETTER : mg "GREATEST_LETTER" = some (.int 999999 t_GREATEST_LETTER)
  t_GREATEST_START : Tok
  m_GREATEST_START : mg "GREATEST_START" = some (.int 1000000000000000000 t_GREATEST_START)
  t_DIGITS : Tok
  m_DIGITS : mg "DIGITS" = some (.str "0123456789" t_DIGITS)
  m_int : mg "int" = none
  m_len : mg "len" = none
  m_tuple : mg "tuple" = none
  m_isinstance : mg "isinstance" = none
  m_str : mg "str" = none
  m_list : mg "list" = none
  m_abs : mg "abs" = none
  m_range : mg "range" = none
  m_ValueError : mg "ValueError" = none
  m_min : mg "min" = none
  m_max : mg "max" = none
  m_repr : mg "repr" = none
end Mo

namespace Mo
open PySem PySem.Spec PyProof.Rows L2
open PySem.NumText (AllDigits digitsVal)
theorem cut_tx (zs : List Nat) (lo hi : Option Int) : cutS (tx zs) lo hi = tx ((zs.drop (HT.sIx zs.length 0 lo)).take (HT.sIx zs.length zs.length hi - HT.sIx zs.length 0 lo)) := by
  unfold cutS
  rw [tx_len]
  rfl
theorem tx0 : Str.ofString "0" = tx [48] := by decide +kernel
theorem alld_all {ds : List Nat} (h : AllDigits ds) : ds.all (fun c => decide (48 ≤ c) && decide (c ≤ 57)) = true := List.all_eq_true.mpr fun c hc => by
  have := h c hc
  rw [decide_eq_true this.1, decide_eq_true this.2]
  rfl
theorem int_tx {ds : List Nat} (h : AllDigits ds) (hne : ds ≠ []) (hl : ds.length ≤ 4300) : intText? (tx ds) = some ((digitsVal ds : Nat) : Int) := SX.int_S (alld_all h) hne hl
section
variable {P : Program} {w : World} {K : PySem.W.Frag} {mg : Str → Option Value} {base : Heap}
def spIsNum : Sp := fun vs H Q _ => ∃ (ds : List Nat) (g : Nat), vs = [.str (tx ds), .int g] ∧ AllDigits ds ∧ ds ≠ [] ∧ ds.length ≤ 640 ∧ ∀ H', Same H H' → Q (.bl (isNum g ds)) H'
theorem ok_isNum {k : Nat} (T : Txt K mg) : FnOk P w K mg base CX0 (k + 1) T.aIsNumber T.dIsNumber ["digits", "greatest"] spIsNum := by
  refine T.fIsNumber.ok scIsNumber (fun vs H Q E h => ?_) (fun cdv A outer s H vs Q E hr h => ?_)
  · obtain ⟨_, _, rfl, _⟩ := h
    rfl
  · obtain ⟨ds, g, rfl, hd, hne, hl, q⟩ := h
    refine ⟨_, (pss_one (ps_ret (pe_and (pe_or (pe_cmpR op_eq (pv 0) pe_str (nomark _)) (pe_one (pe_cmpR op_ne (pe_ix ix_str (pv 0) pe_int (fun _ _ => rfl)) pe_str (nomark _)))) (pe_one (pe_cmpR op_le (pe_callTy call_int_str (by rfl) T.m_int (by decide +kernel) (pa_cons (pv 0) pa_nil)) (pv 1) (nomark _)))))), ?_⟩
    have q0 := q H (Same.refl H)
    obtain ⟨c, r, rfl⟩ : ∃ c r, ds = c :: r := by
      cases ds with
      | nil => exact absurd rfl hne
      | cons c r => exact ⟨c, r, rfl⟩
    have e10 : (c :: r = [48]) ↔ V.str (tx (c :: r)) = V.str (Str.ofString "0") := ⟨fun z => by rw [z, tx0], fun z => by
      rw [tx0] at z
      exact tx_inj (V.str.inj z)⟩
    have e48 : (c = 48) ↔ V.str (⟨#[c]⟩ : Str) = V.str (Str.ofString "0") := ⟨fun z => by rw [z, tx0]; rfl, fun z => by
      rw [tx0] at z
      have := tx_inj (a := [c]) (b := [48]) (V.str.inj z)
      cases this
      rfl⟩
    have le : decide (((digitsVal (c :: r) : Nat) : Int) ≤ (g : Int)) = decide (digitsVal (c :: r) ≤ g) := by
      by_cases z : digitsVal (c :: r) ≤ g
      · rw [decide_eq_true z, decide_eq_true (by omega)]
      · rw [decide_eq_false z, decide_eq_false (by omega)]
    have hi := int_tx hd hne (Nat.le_trans hl (by decide))
    by_cases e1 : c :: r = [48]
    · refine ⟨_, rfl, rfl, true, congrArg V.bl (decide_eq_true (e10.mp e1)), iteT ⟨true, rfl, iteT ?_⟩⟩
      refine ⟨_, rfl, tx (c :: r), _, rfl, hi, by rw [tx_len]; exact hl, _, rfl, _, _, rfl, rfl, ?_⟩
      unfold isNum at q0
      rw [decide_eq_true e1, Bool.true_or, Bool.true_and, ← le] at q0
      exact q0
    · refine ⟨_, rfl, rfl, false, congrArg V.bl (decide_eq_false (fun z => e1 (e10.mpr z))), iteF ?_⟩
      refine ⟨_, rfl, tx (c :: r), 0, c, rfl, rfl, by rw [tx_len]; exact fits5 (by omega), atI_nat (j := 0) rfl, rfl, ?_⟩
      by_cases e2 : c = 48
      · refine ⟨false, congrArg V.bl (by rw [decide_eq_true (e48.mp e2)]; rfl), iteF ?_⟩
        unfold isNum at q0
        rw [decide_eq_false e1, decide_eq_false (show ¬ ((c :: r).headD 0 ≠ 48) from fun z => z e2)] at q0
        exact q0
      · refine ⟨true, congrArg V.bl (by rw [decide_eq_false (fun z => e2 (e48.mpr z))]; rfl), iteT ?_⟩
        refine ⟨_, rfl, tx (c :: r), _, rfl, hi, by rw [tx_len]; exact hl, _, rfl, _, _, rfl, rfl, ?_⟩
        unfold isNum at q0
        rw [decide_eq_true (show (c :: r).headD 0 ≠ 48 from e2), Bool.or_true, Bool.true_and, ← le] at q0
        exact q0
/-- number_end -/
def spNEnd : Sp := fun vs H Q _ => ∃ (cs : List Nat) (i g : Nat), vs = [.str (tx cs), .int i, .int g] ∧ i ≤ cs.length ∧ cs.length ≤ 100000 ∧ g < 10 ^ 30 ∧ ∀ H', Same H H' → Q (.int ((i + numEnd g [] (cs.drop i) : Nat) : Int)) H'
theorem cut_txm (zs : List Nat) {a b : Nat} (h : a ≤ b) (hb : b ≤ zs.length) : cutS (tx zs) (some (a : Int)) (some (b : Int)) = tx ((zs.drop a).take (b - a)) := by
  rw [cut_tx, HT.sIx_nat, HT.sIx_nat, Nat.min_eq_left (show a ≤ zs.length by omega), Nat.min_eq_left hb]
theorem ok_nend {k : Nat} (T : Txt K mg) : FnOk P w K mg base CX0 (k + 2) T.aNumberEnd T.dNumberEnd ["line", "at", "greatest"] spNEnd := by
  have GIsNumber : FnOk P w K mg base CX0 (k + 1) T.aIsNumber T.dIsNumber ["digits", "greatest"] spIsNum := ok_isNum T
  refine T.fNumberEnd.ok scNumberEnd (fun vs H Q E h => ?_) (fun cdv A outer s H vs Q E hr h => ?_)
  · obtain ⟨_, _, _, rfl, _⟩ := h
    rfl
  · obtain ⟨cs, i, g, rfl, hi, hl, hg, q⟩ := h
    refine ⟨_, (pss_cons (ps_set (i := 3) scNumberEnd.nd rfl (Or.inl rfl) (pv 1))
      (pss_cons (ps_while PassesOwn.never (PW.pt (pw_and (pt_cmpR op_lt (pv 3) (pe_callB call_len_str (by rfl) T.m_len PySem.boot_len (pa_cons (pv 0) pa_nil)) (nomark _)) (pw_and (pt_cmpR op_in_sign (pe_ix ix_str (pv 0) (pv 3) (fun _ _ => rfl)) (pe_glob (v := .str "0123456789") rfl T.m_DIGITS ⟨_, rfl⟩) rfl) (pw_and1 (pt_val (pe_call GIsNumber hr (by rfl) T.gIsNumber T.fIsNumber.kp T.bIsNumber .nil pass0 (pa_cons (pe_slice sl_str (pv 0) (po_some (pv 1)) (po_some (pe_op op_add (pv 3) pe_int))) (pa_cons (pv 2) pa_nil)))))))) (pss_one (ps_aug (i := 3) scNumberEnd.nd rfl (Or.inl rfl) pe_int ip_add)))
      (pss_one (ps_ret (pv 3))))), ?_⟩
    refine ⟨_, rfl, ?_⟩
    refine while_raw (fun σ H' => ∃ j : Nat, σ = [some (.str (tx cs)), some (.int i), some (.int g), some (.int ((i + j : Nat) : Int))] ∧ i + j ≤ cs.length ∧ Same H H' ∧ AllDigits ((cs.drop i).take j) ∧ ((cs.drop i).take j = [] ∨ isNum g ((cs.drop i).take j) = true) ∧ j + numEnd g ((cs.drop i).take j) (cs.drop (i + j)) = numEnd g [] (cs.drop i)) (fun σ H' => match σ with | [_, _, _, some (.int r)] => 200000 - r.toNat | _ => 0) ?_ ?_
    · exact ⟨0, rfl, hi, Same.refl _, (fun c hc => absurd (show c ∈ ([] : List Nat) from hc) List.not_mem_nil), .inl rfl, by rw [Nat.add_zero, List.take_zero, Nat.zero_add]⟩
    · rintro σ H2 ⟨j, rfl, hj, s2, hd, hn, he⟩
      have hlen : (tx cs).length = cs.length := tx_len cs
      refine ⟨_, rfl, _, rfl, tx cs, rfl, by rw [hlen]; exact fits5 hl, _, _, rfl, rfl, decide (i + j < cs.length), ?_, ?_⟩
      · refine congrArg V.bl ?_
        by_cases z : i + j < cs.length
        · rw [decide_eq_true z, decide_eq_true (by rw [hlen]; omega)]
        · rw [decide_eq_false z, decide_eq_false (by rw [hlen]; omega)]
      by_cases z : i + j < cs.length
      · rw [decide_eq_true z]
        have hat := List.getElem?_eq_getElem z
        have hdr : cs.drop (i + j) = cs[i + j] :: cs.drop (i + j + 1) := List.drop_eq_getElem_cons z
        have htk : (cs.drop i).take (j + 1) = (cs.drop i).take j ++ [cs[i + j]] := by
          rw [List.take_add_one, List.getElem?_drop, hat]
          rfl
        generalize cs[i + j] = c at *
        rw [hdr] at he
        refine iteT ⟨_, rfl, _, rfl, tx cs, _, c, rfl, rfl, by rw [hlen]; exact fits5 hl, atI_nat (by rw [tx_list]; exact hat), c, _, rfl, rfl, isDig c, congrArg V.bl (dig_in c), ?_⟩
        cases hc : isDig c with
        | false =>
          refine iteF (iteF ?_)
          rw [numEnd_cons, hc] at he
          have hj0 : j = numEnd g [] (cs.drop i) := he
          rw [hj0]
          exact ⟨_, rfl, q H2 s2⟩
        | true =>
          have hc2 : 48 ≤ c ∧ c ≤ 57 := by
            unfold isDig at hc
            rw [Bool.and_eq_true] at hc
            exact ⟨of_decide_eq_true hc.1, of_decide_eq_true hc.2⟩
          have hd2 : AllDigits ((cs.drop i).take (j + 1)) := by
            rw [htk]
            intro x hx
            rcases List.mem_append.mp hx with y | y
            · exact hd x y
            · rw [List.mem_singleton.mp y]
              exact hc2
          have hj30 : j ≤ 30 := by
            have h1 : ((cs.drop i).take j).length = j := by
              rw [List.length_take, List.length_drop]
              omega
            rcases hn with y | y
            · rw [y] at h1
              have : 0 = j := h1
              omega
            · have := num_short hd y hg (by decide)
              omega
          refine iteT ⟨_, rfl, _, rfl, ((i : Nat) : Int), rfl, _, rfl, _, 1, rfl, rfl, ((i + (j + 1) : Nat) : Int), congrArg V.int (by omega), tx cs, rfl, by rw [hlen]; exact fits5 hl, ?_⟩
          rw [cut_txm cs (by omega) (by omega), show i + (j + 1) - i = j + 1 by omega]
          refine ⟨_, rfl, (cs.drop i).take (j + 1), g, rfl, hd2, by rw [htk]; simp, by rw [List.length_take]; omega, fun H3 s3 => ⟨isNum g ((cs.drop i).take (j + 1)), rfl, ?_⟩⟩
          cases hnum : isNum g ((cs.drop i).take (j + 1)) with
          | false =>
            refine iteF ?_
            rw [numEnd_cons, hc, ← htk, hnum] at he
            have hj0 : j = numEnd g [] (cs.drop i) := he
            rw [hj0]
            exact ⟨_, rfl, q H3 (s2.trans s3)⟩
          | true =>
            refine iteT ⟨fun σ' H' => (∃ j' : Nat, σ' = [some (.str (tx cs)), some (.int i), some (.int g), some (.int ((i + j' : Nat) : Int))] ∧ i + j' ≤ cs.length ∧ Same H H' ∧ AllDigits ((cs.drop i).take j') ∧ ((cs.drop i).take j' = [] ∨ isNum g ((cs.drop i).take j') = true) ∧ j' + numEnd g ((cs.drop i).take j') (cs.drop (i + j')) = numEnd g [] (cs.drop i)) ∧ (match σ' with | [_, _, _, some (.int r)] => 200000 - r.toNat | _ => 0) < 200000 - (((i + j : Nat) : Int)).toNat, fun σ' H' z => ⟨_, z.2, rfl, z.1⟩, ?_⟩
            refine ⟨_, rfl, ((i + j : Nat) : Int), 1, rfl, rfl, ⟨j + 1, ?_, by omega, s2.trans s3, hd2, .inr hnum, ?_⟩, ?_⟩
            · show [some (V.str (tx cs)), some (V.int i), some (V.int g), some (V.int (((i + j : Nat) : Int) + 1))] = _
              rw [show ((i + j : Nat) : Int) + 1 = ((i + (j + 1) : Nat) : Int) by omega]
            · rw [numEnd_cons, hc, ← htk, hnum] at he
              have he : j + (1 + numEnd g ((cs.drop i).take (j + 1)) (cs.drop (i + j + 1))) = numEnd g [] (cs.drop i) := he
              rw [show i + (j + 1) = i + j + 1 by omega]
              omega
            · show 200000 - (((i + j : Nat) : Int) + 1).toNat < 200000 - (((i + j : Nat) : Int)).toNat
              omega
      · rw [decide_eq_false z]
        refine iteF (iteF ?_)
        have hdr : cs.drop (i + j) = [] := List.drop_of_length_le (by omega)
        rw [hdr] at he
        rw [numEnd_nil] at he
        have hj0 : j = numEnd g [] (cs.drop i) := he
        rw [hj0]
        exact ⟨_, rfl, q H2 s2⟩
theorem ok_initParse {k : Nat} (T : Txt K mg) : FnOk P w K mg base CX0 (k + 1) T.iParseError T.dParseError ["self", "offset"] (spInit T.cParseError "offset") := by
  refine T.fInitParseError.ok scInitParseError (fun vs H Q E h => ?_) (fun cdv A outer s H vs Q E hr h => ?_)
  · obtain ⟨a, y, rfl, _⟩ := h
    rfl
  · obtain ⟨a, y, rfl, ha, q⟩ := h
    refine ⟨_, pss_one (ps_ost (pv 0) (pv 1)), ?_⟩
    exact ⟨_, rfl, _, rfl, a, T.cParseError, rfl, T.xParseError.oex, T.xParseError.no, .inl ⟨ha, fun dx nd ne => q dx nd ne⟩⟩
def spCEnd (C : Addr) : Sp := fun vs H Q E => ∃ (cs : List Nat) (e : Nat), vs = [.str (tx cs), .int e] ∧ cs.length ≤ 100000 ∧ (cs.length ≤ e → ∀ H', Same H H' → Q .non H') ∧ (e < cs.length → Errs C "offset" (.int e) H E)
theorem ok_cend {k : Nat} (T : Txt K mg) : FnOk P w K mg base (L2.CX P w) (k + 3) T.aCheckEnd T.dCheckEnd ["line", "end"] (spCEnd T.cParseError) := by
  have GInitParseError : FnOk P w K mg base CX0 (k + 1) T.iParseError T.dParseError ["self", "offset"] (spInit T.cParseError "offset") := ok_initParse T
  refine T.fCheckEnd.okX scCheckEnd (fun vs H Q E h => ?_) (fun cdv A outer s H vs Q E hr h => ?_)
  · obtain ⟨_, _, rfl, _⟩ := h
    rfl
  · obtain ⟨cs, e, rfl, hl, q1, q2⟩ := h
    refine ⟨_, (pss_one (ps_if (pt_cmpR op_lt (pv 1) (pe_callB call_len_str (by rfl) T.m_len PySem.boot_len (pa_cons (pv 0) pa_nil)) (nomark _)) (pss_one (ps_raise rfl (takes_of rfl rfl rfl rfl) (pmk_oex T.xParseError.oex T.xParseError.iC T.xParseError.tI GInitParseError hr T.bInitParseError .nil pass0 (by rfl) T.eParseError (pa_cons (pv 1) pa_nil)))) pss_nil)), ?_⟩
    refine ⟨_, rfl, _, rfl, tx cs, rfl, by rw [tx_len]; exact fits5 hl, _, _, rfl, rfl, _, rfl, ite2 (fun z => ?_) (fun z => ?_)⟩
    · have z1 := of_decide_eq_true z
      rw [tx_len] at z1
      exact ⟨_, rfl, err_read (q2 (by omega))⟩
    · refine q1 ?_ H (Same.refl _)
      rcases Nat.lt_or_ge e cs.length with y | y
      · exact absurd (decide_eq_true (by rw [tx_len]; omega)) z
      · exact y
theorem cut_tx1 (zs : List Nat) {a : Nat} (h : a ≤ zs.length) : cutS (tx zs) (some (a : Int)) (some ((a + 1 : Nat) : Int)) = tx ((zs.drop a).take 1) := by
  rw [cut_tx, HT.sIx_nat, HT.sIx_nat, Nat.min_eq_left h]
  rcases Nat.lt_or_ge a zs.length with y | y
  · rw [Nat.min_eq_left y, show a + 1 - a = 1 by omega]
  · rw [show (zs.drop a) = [] from List.drop_of_length_le y, List.take_nil, List.take_nil]
theorem take_one {zs : List Nat} {a sep : Nat} : (zs.drop a).take 1 = [sep] ↔ zs[a]? = some sep := by
  have e : zs[a]? = (zs.drop a)[0]? := by rw [List.getElem?_drop, Nat.add_zero]
  rw [e]
  cases zs.drop a with
  | nil =>
    constructor
    · intro z
      cases z
    · intro z
      cases z
  | cons c r =>
    constructor
    · intro z
      cases z
      rfl
    · intro z
      cases z
      rfl
/-- read_letters -/
def spReadL (C : Addr) : Sp := fun vs H Q E => ∃ (cs : List Nat) (i sep : Nat), vs = [.str (tx cs), .int i, .str (tx [sep])] ∧ i ≤ cs.length ∧ cs.length ≤ 100000 ∧ (∀ off : Nat, readL sep cs i [] = .inl off → Errs C "offset" (.int off) H E) ∧
  ∀ (ls : List Int) (e : Nat), readL sep cs i [] = .inr (ls, e) → ∀ H' p r, Same H H' → H' p = some (.tup (ls.map V.int)) → H' r = some (.tup [.ref p, .int e]) → Q (.ref r) H'
theorem ok_readL {k : Nat} (T : Txt K mg) : FnOk P w K mg base (L2.CX P w) (k + 3) T.aReadLetters T.dReadLetters ["line", "at", "separator"] (spReadL T.cParseError) := by
  have GNumberEnd : FnOk P w K mg base CX0 (k + 2) T.aNumberEnd T.dNumberEnd ["line", "at", "greatest"] spNEnd := ok_nend T
  have GInitParseError : FnOk P w K mg base CX0 (k + 1) T.iParseError T.dParseError ["self", "offset"] (spInit T.cParseError "offset") := ok_initParse T
  refine T.fReadLetters.okX scReadLetters (fun vs H Q E h => ?_) (fun cdv A outer s H vs Q E hr h => ?_)
  · obtain ⟨_, _, _, rfl, _⟩ := h
    rfl
  · obtain ⟨cs, i, sep, rfl, hi, hl, q1, q2⟩ := h
    refine ⟨_, (pss_cons (ps_set (i := 3) scReadLetters.nd rfl (Or.inl rfl) (pe_lst pa_nil))
      (pss_one (ps_while (passes_of rfl) (pt_val pe_bl) (pss_cons (ps_set (i := 4) scReadLetters.nd rfl (Or.inl rfl) (pe_call GNumberEnd hr (by rfl) T.gNumberEnd T.fNumberEnd.kp T.bNumberEnd .nil pass0 (pa_cons (pv 0) (pa_cons (pv 1) (pa_cons (pe_glob (v := .int 999999) rfl T.m_GREATEST_LETTER ⟨_, rfl⟩) pa_nil)))))
      (pss_cons (ps_if (pt_cmpR op_eq (pv 4) (pv 1) (nomark _)) (pss_one (ps_raise rfl (takes_of rfl rfl rfl rfl) (pmk_oex T.xParseError.oex T.xParseError.iC T.xParseError.tI GInitParseError hr T.bInitParseError .nil pass0 (by rfl) T.eParseError (pa_cons (pv 1) pa_nil)))) pss_nil)
      (pss_cons (ps_expr (pe_bm PySem.F.plainAttrs_list PySem.F.slot_list_append PySem.F.type_list_append mt_append (pv 3) (pa_cons (pe_callTy call_int_str (by rfl) T.m_int (by decide +kernel) (pa_cons (pe_slice sl_str (pv 0) (po_some (pv 1)) (po_some (pv 4))) pa_nil)) pa_nil)))
      (pss_cons (ps_if (PW.pt (pw_or (pt_cmpR op_ne (pe_slice sl_str (pv 0) (po_some (pv 4)) (po_some (pe_op op_add (pv 4) pe_int))) (pv 2) (nomark _)) (pw_or1 (pt_cmpR op_eq (pe_callB call_len_seq (by rfl) T.m_len PySem.boot_len (pa_cons (pv 3) pa_nil)) (pe_glob (v := .int 4096) rfl T.m_LONGEST_TEXT ⟨_, rfl⟩) (nomark _))))) (pss_one (ps_ret (pe_tup (pa_cons (pe_callTy call_tuple_of (by rfl) T.m_tuple (by decide +kernel) (pa_cons (pv 3) pa_nil)) (pa_cons (pv 4) pa_nil))))) pss_nil)
      (pss_one (ps_set (i := 1) scReadLetters.nd rfl (Or.inl rfl) (pe_op op_add (pv 4) pe_int)))))))))), ?_⟩
    refine ⟨Nat.zero_le _, fun l nl => ?_⟩
    have s1 := same_new (o := .lst []) nl
    refine while_raw (fun σ H' => ∃ (a : Nat) (ls : List Int) (o4 : Option V), σ = [some (.str (tx cs)), some (.int a), some (.str (tx [sep])), some (.ref l), o4] ∧ a ≤ cs.length ∧ Same H H' ∧ H' l = some (.lst (ls.map V.int)) ∧ ls.length < 4096 ∧ readL sep cs a ls = readL sep cs i []) (fun σ H' => match σ with | [_, some (.int r), _, _, _] => 200000 - r.toNat | _ => 0) ?_ ?_
    · exact ⟨i, [], _, rfl, hi, s1, upd_same, by decide, rfl⟩
    · rintro σ H2 ⟨a, ls, o4, rfl, ha, s2, hl2, hls, he⟩
      refine ⟨true, rfl, iteT ?_⟩
      refine ⟨fun σ' H' => (∃ (a' : Nat) (ls : List Int) (o4 : Option V), σ' = [some (.str (tx cs)), some (.int a'), some (.str (tx [sep])), some (.ref l), o4] ∧ a' ≤ cs.length ∧ Same H H' ∧ H' l = some (.lst (ls.map V.int)) ∧ ls.length < 4096 ∧ readL sep cs a' ls = readL sep cs i []) ∧ (match σ' with | [_, some (.int r), _, _, _] => 200000 - r.toNat | _ => 0) < 200000 - ((a : Nat) : Int).toNat, fun σ' H' z => ⟨_, z.2, rfl, z.1⟩, ?_⟩
      refine ⟨_, rfl, _, rfl, cs, a, 999999, rfl, ha, hl, by decide, fun H3 s3 => ?_⟩
      have hle := numEnd_le 999999 (cs.drop a) []
      rw [List.length_drop] at hle
      rw [readL] at he
      have hat := num_at (g := 999999) (s := cs.drop a)
      have hlt : ((cs.drop a).take (numEnd 999999 [] (cs.drop a))).length = numEnd 999999 [] (cs.drop a) := by
        rw [List.length_take, List.length_drop]
        omega
      generalize numEnd 999999 [] (cs.drop a) = n at *
      by_cases n0 : n = 0
      · refine ⟨_, rfl, _, rfl, rfl, true, congrArg V.bl (decide_eq_true (congrArg V.int (by omega))), iteT ?_⟩
        rw [if_pos n0] at he
        exact ⟨_, rfl, err_read ((q1 a he.symm).same (s2.trans s3))⟩
      · refine ⟨_, rfl, _, rfl, rfl, false, congrArg V.bl (decide_eq_false (fun z => n0 (by have := V.int.inj z; omega))), iteF ?_⟩
        rw [if_neg n0] at he
        obtain ⟨d1, d2, d3⟩ := hat n0
        have dl := num_short d1 d2 (k := 6) (by decide) (by decide)
        have hl3 := s3 _ _ hl2
        refine ⟨_, rfl, .inl ⟨rfl, _, SqL.of hl3⟩, _, rfl, _, rfl, ((a : Nat) : Int), rfl, _, rfl, ((a + n : Nat) : Int), rfl, tx cs, rfl, by rw [tx_len]; exact fits5 hl, ?_⟩
        rw [cut_txm cs (by omega) (by omega), show a + n - a = n by omega]
        refine ⟨_, _, rfl, int_tx d1 d3 (by omega), by rw [tx_len]; omega, l, _, _, rfl, rfl, hl3, fitsLt (by rw [List.length_map]; omega), ?_⟩
        have hl4 : (upd H3 l (.lst (ls.map V.int ++ [V.int ((digitsVal ((cs.drop a).take n) : Nat) : Int)]))) l = some (.lst ((ls ++ [((digitsVal ((cs.drop a).take n) : Nat) : Int)]).map V.int)) := by
          rw [upd_same, List.map_append]
          rfl
        have s4 : Same H (upd H3 l (.lst (ls.map V.int ++ [V.int ((digitsVal ((cs.drop a).take n) : Nat) : Int)]))) := Same.put (s2.trans s3) nl
        generalize upd H3 l (.lst (ls.map V.int ++ [V.int ((digitsVal ((cs.drop a).take n) : Nat) : Int)])) = H4 at *
        have lst4 : (ls ++ [((digitsVal ((cs.drop a).take n) : Nat) : Int)]).length = ls.length + 1 := by rw [List.length_append]; rfl
        generalize ls ++ [((digitsVal ((cs.drop a).take n) : Nat) : Int)] = ls4 at *
        have ret : readL sep cs i [] = .inr (ls4, a + n) → ∀ H5, H5 = H4 → ∃ q : Addr, True := fun _ _ _ => ⟨l, trivial⟩
        refine ⟨_, rfl, _, rfl, ((a + n : Nat) : Int), rfl, _, rfl, _, 1, rfl, rfl, ((a + n + 1 : Nat) : Int), congrArg V.int (by omega), tx cs, rfl, by rw [tx_len]; exact fits5 hl, ?_⟩
        rw [cut_tx1 cs (by omega)]
        refine ⟨_, rfl, rfl, decide (¬ cs[a + n]? = some sep), congrArg V.bl ?_, ?_⟩
        · by_cases y : cs[a + n]? = some sep
          · rw [decide_eq_true (congrArg (fun z => V.str (tx z)) (take_one.mpr y)), decide_eq_false (show ¬ ¬ cs[a + n]? = some sep from fun z => z y)]
            rfl
          · rw [decide_eq_false (fun z => y (take_one.mp (tx_inj (V.str.inj z)))), decide_eq_true (show ¬ cs[a + n]? = some sep from y)]
            rfl
        have out : readL sep cs i [] = .inr (ls4, a + n) → ∀ R : V → Hp → Prop, R = Q → ∀ H5 p r, Same H4 H5 → H5 p = some (.tup (ls4.map V.int)) → H5 r = some (.tup [.ref p, .int ((a + n : Nat) : Int)]) → R (.ref r) H5 := fun e R eR H5 p r s5 hp hr => by
          rw [eR]
          exact q2 ls4 (a + n) e H5 p r (s4.trans s5) hp hr
        by_cases y : cs[a + n]? = some sep
        · rw [decide_eq_false (fun z => z y)]
          refine iteF ⟨_, rfl, l, _, rfl, .inl (SqL.of hl4), rfl, decide (ls.length + 1 = 4096), congrArg V.bl ?_, ?_⟩
          · by_cases x : ls.length + 1 = 4096
            · rw [decide_eq_true x, decide_eq_true (congrArg V.int (by rw [List.length_map, lst4]; omega))]
            · rw [decide_eq_false x, decide_eq_false (fun z => x (by have := V.int.inj z; rw [List.length_map, lst4] at this; omega))]
          by_cases x : ls.length + 1 = 4096
          · rw [decide_eq_true x]
            rw [dif_neg (fun z => z.2 x)] at he
            refine iteT ⟨_, rfl, l, _, rfl, .inl ⟨SqL.of hl4, fun p np => ?_⟩⟩
            have s5 := same_new (o := .tup (ls4.map V.int)) np
            refine ⟨_, rfl, by show 2 ≤ sizeLine; decide, fun r nr => ?_⟩
            have s6 := same_new (o := .tup [.ref p, .int ((a + n : Nat) : Int)]) nr
            exact q2 ls4 (a + n) he.symm _ p r (s4.trans (s5.trans s6)) (s6 _ _ upd_same) upd_same
          · rw [decide_eq_false x]
            rw [dif_pos ⟨y, x⟩] at he
            refine iteF ⟨_, rfl, ((a + n : Nat) : Int), 1, rfl, rfl, ⟨a + n + 1, ls4, _, rfl, ?_, s4, hl4, by omega, he⟩, ?_⟩
            · have := (List.getElem?_eq_some_iff.mp y).1
              omega
            · show 200000 - (((a + n : Nat) : Int) + 1).toNat < 200000 - ((a : Nat) : Int).toNat
              omega
        · rw [decide_eq_true y]
          rw [dif_neg (fun z => y z.1)] at he
          refine iteT (iteT ⟨_, rfl, l, _, rfl, .inl ⟨SqL.of hl4, fun p np => ?_⟩⟩)
          have s5 := same_new (o := .tup (ls4.map V.int)) np
          refine ⟨_, rfl, by show 2 ≤ sizeLine; decide, fun r nr => ?_⟩
          have s6 := same_new (o := .tup [.ref p, .int ((a + n : Nat) : Int)]) nr
          exact q2 ls4 (a + n) he.symm _ p r (s4.trans (s5.trans s6)) (s6 _ _ upd_same) upd_same
end
end Mo

/-! ### parts between spaces, and how far a line begins a text -/
namespace Mo
open PySem PySem.Spec PyProof.Rows L2
open PySem.NumText (AllDigits digitsVal)
def spc (c : Nat) : List Nat → List Nat → List (List Nat)
  | acc, [] => [acc]
  | acc, x :: r => if x = c then acc :: spc c [] r else spc c (acc ++ [x]) r
theorem spl_spc (c : Nat) : ∀ (l acc : List Nat), TL.spl [c] 0 acc l = spc c acc l
  | [], acc => by rw [TL.spl_nil, spc]
  | x :: r, acc => by
    by_cases h : x = c
    · subst h
      rw [TL.spl_hit (show TL.pre [x] (x :: r) = true from TL.pre_self [x] r), spc, if_pos rfl]
      show acc :: TL.spl [x] 0 [] r = _
      rw [spl_spc x r []]
    · rw [TL.spl_miss (TL.pre_of_head [] r h), spc, if_neg h, spl_spc c r (acc ++ [x])]
theorem split_tx (c : Nat) (hc : c < 256) (l : List Nat) : Txt.split (tx l) (tx [c]) = (spc c [] l).map tx := by
  rw [← spl_spc]
  exact SX.split_S (a := l) (b := [c]) (fun z => by cases z) (by simpa using hc)
theorem spc_ne (c : Nat) : ∀ (l acc : List Nat), spc c acc l ≠ []
  | [], acc => by rw [spc]; exact fun z => by cases z
  | x :: r, acc => by
    rw [spc]
    split
    · exact fun z => by cases z
    · exact spc_ne c r _
theorem spc_head (c : Nat) : ∀ (l acc : List Nat), ∃ w ps, spc c acc l = (acc ++ w) :: ps
  | [], acc => ⟨[], [], by rw [spc, List.append_nil]⟩
  | x :: r, acc => by
    by_cases h : x = c
    · exact ⟨[], _, by rw [spc, if_pos h, List.append_nil]⟩
    · obtain ⟨w, ps, e⟩ := spc_head c r (acc ++ [x])
      exact ⟨x :: w, ps, by rw [spc, if_neg h, e, List.append_assoc]; rfl⟩
theorem spc_len (c : Nat) : ∀ (l acc : List Nat), (spc c acc l).length ≤ l.length + 1
  | [], acc => by rw [spc]; exact Nat.le_refl _
  | x :: r, acc => by
    rw [spc]
    split
    · have := spc_len c r []
      rw [List.length_cons, List.length_cons]
      omega
    · have := spc_len c r (acc ++ [x])
      rw [List.length_cons]
      omega
theorem spc_sub (c : Nat) : ∀ (l acc : List Nat), ∀ p ∈ spc c acc l, p.length ≤ acc.length + l.length ∧ ∀ x ∈ p, x ∈ acc ∨ x ∈ l
  | [], acc, p, h => by
    rw [spc] at h
    rw [List.mem_singleton.mp h]
    exact ⟨by omega, fun x hx => .inl hx⟩
  | y :: r, acc, p, h => by
    rw [spc] at h
    split at h
    · rcases List.mem_cons.mp h with e | h
      · subst e
        exact ⟨by omega, fun x hx => .inl hx⟩
      · obtain ⟨h1, h2⟩ := spc_sub c r [] p h
        refine ⟨by simp only [List.length_cons, List.length_nil] at *; omega, fun x hx => .inr ?_⟩
        rcases h2 x hx with z | z
        · cases z
        · exact List.mem_cons_of_mem _ z
    · obtain ⟨h1, h2⟩ := spc_sub c r (acc ++ [y]) p h
      refine ⟨by simp only [List.length_cons, List.length_append, List.length_nil] at *; omega, fun x hx => ?_⟩
      rcases h2 x hx with z | z
      · rcases List.mem_append.mp z with z | z
        · exact .inl z
        · rw [List.mem_singleton.mp z]
          exact .inr List.mem_cons_self
      · exact .inr (List.mem_cons_of_mem _ z)
/-- a number as it is written, at most g -/
def numS (g : Nat) (p : List Nat) : Bool := !p.isEmpty && (p.all isDig && isNum g p)
theorem numS_nil (g : Nat) : numS g [] = false := rfl
theorem numS_iff {g : Nat} {p : List Nat} : numS g p = true ↔ p ≠ [] ∧ (∀ x ∈ p, isDig x = true) ∧ isNum g p = true := by
  unfold numS
  cases p with
  | nil => simp
  | cons x r => simp [List.all_eq_true]
theorem isNum_cut {g : Nat} {a b : List Nat} (ha : a ≠ []) (h : isNum g (a ++ b) = true) : isNum g a = true := by
  unfold isNum at h ⊢
  rw [Bool.and_eq_true, Bool.or_eq_true] at h ⊢
  obtain ⟨h1, h2⟩ := h
  refine ⟨?_, decide_eq_true (Nat.le_trans (val_app a b) (of_decide_eq_true h2))⟩
  cases a with
  | nil => exact absurd rfl ha
  | cons x r =>
    rcases h1 with h1 | h1
    · have h1 : x :: (r ++ b) = [48] := of_decide_eq_true h1
      injection h1 with e1 e2
      have e3 : r = [] := (List.append_eq_nil_iff.mp e2).1
      left
      rw [e1, e3]
      rfl
    · exact .inr h1
theorem numS_cut {g : Nat} {a b : List Nat} (ha : a ≠ []) (h : numS g (a ++ b) = true) : numS g a = true := by
  rw [numS_iff] at h ⊢
  exact ⟨ha, fun x hx => h.2.1 x (List.mem_append.mpr (.inl hx)), isNum_cut ha h.2.2⟩
theorem numS_snoc {g : Nat} {a : List Nat} {x : Nat} (ha : a = [] ∨ numS g a = true) (h : (isDig x && isNum g (a ++ [x])) = true) : numS g (a ++ [x]) = true := by
  rw [Bool.and_eq_true] at h
  rw [numS_iff]
  refine ⟨by simp, fun y hy => ?_, h.2⟩
  rcases List.mem_append.mp hy with z | z
  · rcases ha with e | e
    · rw [e] at z
      cases z
    · exact (numS_iff.mp e).2.1 y z
  · rw [List.mem_singleton.mp z]
    exact h.1
/-- how many signs can stand, k letters and the part acc ahead -/
def run (g : Nat) : Nat → List Nat → List Nat → Nat
  | _, _, [] => 0
  | k, acc, x :: r => if x = 32 then (if acc ≠ [] ∧ k + 2 ≤ 4096 then 1 + run g (k + 1) [] r else 0) else if isDig x && isNum g (acc ++ [x]) then 1 + run g k (acc ++ [x]) r else 0
theorem run_le (g : Nat) : ∀ (l : List Nat) (k : Nat) (acc : List Nat), run g k acc l ≤ l.length
  | [], _, _ => Nat.le_refl _
  | x :: r, k, acc => by
    rw [run, List.length_cons]
    have h1 := run_le g r (k + 1) []
    have h2 := run_le g r k (acc ++ [x])
    split
    · split <;> omega
    · split <;> omega
theorem run_take (g : Nat) : ∀ (l : List Nat) (m k : Nat) (acc : List Nat), run g k acc (l.take m) = min m (run g k acc l)
  | [], m, k, acc => by
    rw [List.take_nil]
    show 0 = min m 0
    omega
  | x :: r, 0, k, acc => by
    show 0 = min 0 _
    omega
  | x :: r, m + 1, k, acc => by
    rw [List.take_succ_cons, run, run, run_take g r m (k + 1) [], run_take g r m k (acc ++ [x])]
    split
    · split <;> omega
    · split <;> omega
/-- the parts as a beginning has them: all but the last are numbers, the last is one or empty -/
def good (g k : Nat) (ps : List (List Nat)) : Prop := k + ps.length ≤ 4096 ∧ (∀ p ∈ ps.dropLast, numS g p = true) ∧ (numS g (ps.getLastD []) = true ∨ ps.getLastD [] = [])
theorem last_cons {p : List Nat} {ps : List (List Nat)} (h : ps ≠ []) : (p :: ps).getLastD [] = ps.getLastD [] ∧ (p :: ps).dropLast = p :: ps.dropLast := by
  cases ps with
  | nil => exact absurd rfl h
  | cons q r => exact ⟨rfl, rfl⟩
theorem good_run (g : Nat) : ∀ (l : List Nat) (k : Nat) (acc : List Nat), (acc = [] ∨ numS g acc = true) → k + 1 ≤ 4096 → (good g k (spc 32 acc l) ↔ run g k acc l = l.length)
  | [], k, acc, ha, hk => by
    rw [spc]
    refine ⟨fun _ => rfl, fun _ => ⟨hk, fun p hp => absurd hp List.not_mem_nil, ?_⟩⟩
    show numS g acc = true ∨ acc = []
    exact ha.symm
  | x :: r, k, acc, ha, hk => by
    rw [spc, run]
    by_cases hx : x = 32
    · rw [if_pos hx, if_pos hx]
      obtain ⟨e1, e2⟩ := last_cons (p := acc) (spc_ne 32 r [])
      by_cases hc : acc ≠ [] ∧ k + 2 ≤ 4096
      · rw [if_pos hc, List.length_cons]
        have ih := good_run g r (k + 1) [] (.inl rfl) hc.2
        have na : numS g acc = true := ha.elim (fun z => absurd z hc.1) id
        unfold good at ih ⊢
        rw [e1, e2, List.length_cons]
        constructor
        · rintro ⟨h1, h2, h3⟩
          have := ih.mp ⟨by omega, fun p hp => h2 p (List.mem_cons_of_mem _ hp), h3⟩
          omega
        · intro h
          obtain ⟨h1, h2, h3⟩ := ih.mpr (by omega)
          refine ⟨by omega, fun p hp => ?_, h3⟩
          rcases List.mem_cons.mp hp with z | z
          · rw [z]
            exact na
          · exact h2 p z
      · rw [if_neg hc, List.length_cons]
        constructor
        · rintro ⟨h1, h2, h3⟩
          exfalso
          rw [e2] at h2
          have na := h2 acc List.mem_cons_self
          have hl : 0 < (spc 32 [] r).length := List.length_pos_iff.mpr (spc_ne 32 r [])
          rw [List.length_cons] at h1
          refine hc ⟨fun z => ?_, by omega⟩
          rw [z, numS_nil] at na
          cases na
        · intro h
          omega
    · rw [if_neg hx, if_neg hx]
      by_cases hd : (isDig x && isNum g (acc ++ [x])) = true
      · rw [if_pos hd, List.length_cons]
        have ih := good_run g r k (acc ++ [x]) (.inr (numS_snoc ha hd)) hk
        rw [ih]
        omega
      · rw [if_neg hd, List.length_cons]
        constructor
        · rintro ⟨_, h2, h3⟩
          exfalso
          have key : ∀ w, numS g (acc ++ [x] ++ w) = true → False := fun w hw => by
            have := numS_cut (by simp) hw
            rw [numS_iff] at this
            refine hd ?_
            rw [Bool.and_eq_true]
            exact ⟨this.2.1 x (by simp), this.2.2⟩
          obtain ⟨w, ps, e⟩ := spc_head 32 r (acc ++ [x])
          rw [e] at h2 h3
          by_cases hp : ps = []
          · subst hp
            rcases h3 with h3 | h3
            · exact key w h3
            · have h3 : acc ++ [x] ++ w = [] := h3
              simp at h3
          · obtain ⟨_, e2⟩ := last_cons (p := acc ++ [x] ++ w) hp
            rw [e2] at h2
            exact key w (h2 _ List.mem_cons_self)
        · intro h
          omega
/-- the parts of a whole text -/
def acc1 (g k : Nat) (ps : List (List Nat)) : Prop := k + ps.length ≤ 4096 ∧ ∀ p ∈ ps, numS g p = true
theorem lastD {ps : List (List Nat)} (hp : ps ≠ []) : ps.getLastD [] = ps.getLast hp := by
  cases ps with
  | nil => exact absurd rfl hp
  | cons a r => rw [List.getLastD_cons, List.getLast_eq_getLastD]
theorem acc_good {g k : Nat} : ∀ {ps : List (List Nat)}, ps ≠ [] → (acc1 g k ps ↔ good g k ps ∧ ps.getLastD [] ≠ []) := by
  intro ps hp
  have e : ps.dropLast ++ [ps.getLastD []] = ps := by
    rw [lastD hp]
    exact List.dropLast_concat_getLast hp
  unfold acc1 good
  constructor
  · rintro ⟨h1, h2⟩
    have hl : numS g (ps.getLastD []) = true := h2 _ (by rw [lastD hp]; exact List.getLast_mem hp)
    refine ⟨⟨h1, fun p h => h2 p (List.dropLast_subset _ h), .inl hl⟩, fun z => ?_⟩
    rw [z, numS_nil] at hl
    cases hl
  · rintro ⟨⟨h1, h2, h3⟩, h4⟩
    refine ⟨h1, fun p h => ?_⟩
    rw [← e] at h
    rcases List.mem_append.mp h with z | z
    · exact h2 p z
    · rw [List.mem_singleton.mp z]
      exact h3.elim id (fun z => absurd z h4)
theorem ne_spec (g : Nat) : ∀ (l acc : List Nat), (∀ x ∈ l.take (numEnd g acc l), isDig x = true) ∧ (numEnd g acc l ≠ 0 → isNum g (acc ++ l.take (numEnd g acc l)) = true)
  | [], acc => ⟨fun x hx => (by rw [List.take_nil] at hx; cases hx), fun z => absurd rfl z⟩
  | x :: r, acc => by
    rw [numEnd]
    by_cases h : (isDig x && isNum g (acc ++ [x])) = true
    · rw [if_pos h, Nat.add_comm 1, List.take_succ_cons]
      obtain ⟨h1, h2⟩ := ne_spec g r (acc ++ [x])
      rw [Bool.and_eq_true] at h
      refine ⟨fun y hy => ?_, fun _ => ?_⟩
      · rcases List.mem_cons.mp hy with z | z
        · rw [z]
          exact h.1
        · exact h1 y z
      · by_cases z : numEnd g (acc ++ [x]) r = 0
        · rw [z, List.take_zero]
          exact h.2
        · have := h2 z
          rw [List.append_assoc] at this
          exact this
    · rw [if_neg h]
      exact ⟨fun y hy => (by rw [List.take_zero] at hy; cases hy), fun z => absurd rfl z⟩
theorem dig32 : isDig 32 = false := by decide
theorem run_num (g : Nat) : ∀ (l : List Nat) (k : Nat) (acc : List Nat), run g k acc l = (if l[numEnd g acc l]? = some 32 ∧ acc ++ l.take (numEnd g acc l) ≠ [] ∧ k + 2 ≤ 4096 then numEnd g acc l + 1 + run g (k + 1) [] (l.drop (numEnd g acc l + 1)) else numEnd g acc l)
  | [], k, acc => by
    rw [if_neg (fun z => by
      have z1 := z.1
      rw [List.getElem?_nil] at z1
      cases z1)]
    rfl
  | x :: r, k, acc => by
    rw [run, numEnd]
    by_cases hx : x = 32
    · subst hx
      rw [if_pos rfl, dig32, Bool.false_and, if_neg Bool.false_ne_true]
      have e1 : (32 :: r)[0]? = some 32 := rfl
      rw [e1, List.take_zero, List.append_nil]
      by_cases hc : acc ≠ [] ∧ k + 2 ≤ 4096
      · rw [if_pos hc, if_pos ⟨rfl, hc⟩]
        show 1 + run g (k + 1) [] r = 0 + 1 + run g (k + 1) [] r
        omega
      · rw [if_neg hc, if_neg (fun z => hc z.2)]
    · rw [if_neg hx]
      by_cases hd : (isDig x && isNum g (acc ++ [x])) = true
      · rw [if_pos hd, if_pos hd, run_num g r k (acc ++ [x]), Nat.add_comm 1 (numEnd g (acc ++ [x]) r)]
        have e1 : (x :: r)[numEnd g (acc ++ [x]) r + 1]? = r[numEnd g (acc ++ [x]) r]? := List.getElem?_cons_succ
        rw [e1, List.take_succ_cons, List.append_assoc, List.drop_succ_cons]
        rw [List.singleton_append]
        by_cases hc : r[numEnd g (acc ++ [x]) r]? = some 32 ∧ acc ++ (x :: r.take (numEnd g (acc ++ [x]) r)) ≠ [] ∧ k + 2 ≤ 4096
        · rw [if_pos hc, if_pos hc]
          omega
        · rw [if_neg hc, if_neg hc]
          omega
      · rw [if_neg hd, if_neg hd, if_neg (fun z => ?_)]
        have e1 : (x :: r)[0]? = some x := rfl
        rw [e1] at z
        exact hx (Option.some.inj z.1)
theorem spc_num : ∀ (l acc : List Nat) (m : Nat), (∀ x ∈ l.take m, x ≠ 32) → m ≤ l.length → spc 32 acc l = (if l[m]? = some 32 then (acc ++ l.take m) :: spc 32 [] (l.drop (m + 1)) else spc 32 (acc ++ l.take m) (l.drop m))
  | l, acc, 0, _, _ => by
    rw [List.take_zero, List.append_nil, List.drop_zero]
    cases l with
    | nil => rfl
    | cons x r =>
      rw [spc]
      by_cases h : x = 32
      · subst h
        rw [if_pos rfl, if_pos (show (32 :: r)[0]? = some 32 from rfl)]
        rfl
      · rw [if_neg h, if_neg (show ¬ (x :: r)[0]? = some 32 from fun z => h (Option.some.inj z))]
  | [], acc, m + 1, _, h => by
    have h : m + 1 ≤ 0 := h
    omega
  | x :: r, acc, m + 1, h, hl => by
    rw [List.take_succ_cons] at h
    have hx := h x List.mem_cons_self
    rw [spc, if_neg hx, spc_num r (acc ++ [x]) m (fun y hy => h y (List.mem_cons_of_mem _ hy)) (by have hl : m + 1 ≤ r.length + 1 := hl; omega), List.take_succ_cons, List.drop_succ_cons, List.drop_succ_cons, List.append_assoc]
    rfl
def vals (ps : List (List Nat)) : List Int := ps.map fun p => ((digitsVal p : Nat) : Int)
/-- how the letters are read, told of the parts -/
theorem rd_parts (cs : List Nat) : ∀ (n i : Nat) (ls : List Int), cs.length - i ≤ n → i ≤ cs.length → ls.length + 1 ≤ 4096 →
    (∀ o, readL 32 cs i ls = .inl o → o = i + run 999999 ls.length [] (cs.drop i) ∧ ¬ acc1 999999 ls.length (spc 32 [] (cs.drop i))) ∧
    ∀ r e, readL 32 cs i ls = .inr (r, e) → e = i + run 999999 ls.length [] (cs.drop i) ∧ (e = cs.length → acc1 999999 ls.length (spc 32 [] (cs.drop i)) ∧ r = ls ++ vals (spc 32 [] (cs.drop i)))
  | n, i, ls, hn, hi, hk => by
    rw [readL]
    have hle := numEnd_le 999999 (cs.drop i) []
    obtain ⟨sp1, sp2⟩ := ne_spec 999999 (cs.drop i) []
    have rn := run_num 999999 (cs.drop i) ls.length []
    have hdl : (cs.drop i).length = cs.length - i := List.length_drop
    have sn := spc_num (cs.drop i) [] (numEnd 999999 [] (cs.drop i)) (fun x hx z => by have := sp1 x hx; rw [z, dig32] at this; cases this) hle
    have hg : ∀ m, (cs.drop i)[m]? = cs[i + m]? := fun m => List.getElem?_drop
    rw [hg] at rn sn
    rw [List.nil_append] at rn sn sp2
    rw [List.drop_drop] at rn sn
    generalize numEnd 999999 [] (cs.drop i) = m at *
    by_cases m0 : m = 0
    · rw [if_pos m0]
      refine ⟨fun o h => ?_, fun r e h => (by cases h)⟩
      cases h
      subst m0
      rw [List.take_zero, if_neg (fun z => z.2.1 rfl)] at rn
      refine ⟨by omega, fun z => ?_⟩
      obtain ⟨z1, z2⟩ := (acc_good (spc_ne 32 _ _)).mp z
      have z3 := (good_run 999999 (cs.drop i) ls.length [] (.inl rfl) hk).mp z1
      rw [rn] at z3
      have e : cs.drop i = [] := List.eq_nil_of_length_eq_zero z3.symm
      rw [e] at z2
      exact z2 rfl
    · rw [if_neg m0]
      have hm : (cs.drop i).take m ≠ [] := fun z => by
        have := congrArg List.length z
        rw [List.length_take] at this
        have this : min m (cs.drop i).length = 0 := this
        omega
      have nS : numS 999999 ((cs.drop i).take m) = true := numS_iff.mpr ⟨hm, sp1, sp2 m0⟩
      by_cases y : cs[i + m]? = some 32 ∧ ls.length + 1 ≠ 4096
      · rw [dif_pos y]
        have hlt := (List.getElem?_eq_some_iff.mp y.1).1
        rw [if_pos ⟨y.1, hm, by omega⟩] at rn
        rw [if_pos y.1] at sn
        match n, hn with
        | 0, hn => omega
        | n + 1, hn =>
          have hl1 : (ls ++ [((digitsVal ((cs.drop i).take m) : Nat) : Int)]).length = ls.length + 1 := by rw [List.length_append]; rfl
          obtain ⟨h1, h2⟩ := rd_parts cs n (i + m + 1) (ls ++ [((digitsVal ((cs.drop i).take m) : Nat) : Int)]) (by omega) (by omega) (by omega)
          rw [hl1] at h1 h2
          have ea : i + m + 1 = i + (m + 1) := by omega
          rw [ea] at h1 h2
          have up : acc1 999999 ls.length (spc 32 [] (cs.drop i)) ↔ acc1 999999 (ls.length + 1) (spc 32 [] (cs.drop (i + (m + 1)))) := by
            rw [sn]
            unfold acc1
            rw [List.length_cons]
            constructor
            · rintro ⟨a1, a2⟩
              exact ⟨by omega, fun p hp => a2 p (List.mem_cons_of_mem _ hp)⟩
            · rintro ⟨a1, a2⟩
              refine ⟨by omega, fun p hp => ?_⟩
              rcases List.mem_cons.mp hp with z | z
              · rw [z]
                exact nS
              · exact a2 p z
          refine ⟨fun o h => ?_, fun r e h => ?_⟩
          · obtain ⟨a1, a2⟩ := h1 o h
            exact ⟨by omega, fun z => a2 (up.mp z)⟩
          · obtain ⟨a1, a2⟩ := h2 r e h
            refine ⟨by omega, fun z => ?_⟩
            obtain ⟨b1, b2⟩ := a2 z
            refine ⟨up.mpr b1, ?_⟩
            rw [b2, sn, vals, vals, List.map_cons, List.append_assoc]
            rfl
      · rw [dif_neg y]
        rw [if_neg (fun z => y ⟨z.1, by omega⟩)] at rn
        refine ⟨fun o h => (by cases h), fun r e h => ?_⟩
        cases h
        refine ⟨by omega, fun z => ?_⟩
        have hd : cs.drop (i + m) = [] := List.drop_eq_nil_of_le (by omega)
        have hno : cs[i + m]? = none := List.getElem?_eq_none (by omega)
        rw [if_neg (by rw [hno]; exact fun z => by cases z), List.drop_drop, hd, spc] at sn
        rw [sn]
        refine ⟨⟨hk, fun p hp => ?_⟩, rfl⟩
        rw [List.mem_singleton.mp hp]
        exact nS
/-- the text that a line writes -/
def textL (cs : List Nat) : Option (List Int) :=
  if cs = [46] then some [] else if decide ((spc 32 [] cs).length ≤ 4096) && (spc 32 [] cs).all (numS 999999) then some (vals (spc 32 [] cs)) else none
/-- how far a line begins a text -/
def limL (cs : List Nat) : Nat := if cs.headD 0 = 46 then 1 else run 999999 0 [] cs
def begL (cs : List Nat) : Bool := decide (cs = [] ∨ cs = [46]) || (decide ((spc 32 [] cs).length ≤ 4096) && ((spc 32 [] cs).dropLast.all (numS 999999) && (numS 999999 ((spc 32 [] cs).getLastD []) || (decide ((spc 32 [] cs).getLastD [] = []) && decide (1 < (spc 32 [] cs).length)))))
theorem acc_all {ps : List (List Nat)} : (decide (ps.length ≤ 4096) && ps.all (numS 999999)) = true ↔ acc1 999999 0 ps := by
  rw [Bool.and_eq_true, List.all_eq_true, decide_eq_true_eq]
  unfold acc1
  rw [Nat.zero_add]
theorem spc_dot {cs : List Nat} (h : cs.headD 0 = 46) : ∃ w ps, spc 32 [] cs = (46 :: w) :: ps := by
  cases cs with
  | nil => cases h
  | cons x r =>
    have h : x = 46 := h
    subst h
    obtain ⟨w, ps, e⟩ := spc_head 32 r [46]
    exact ⟨w, ps, by rw [spc, if_neg (by decide)]; exact e⟩
theorem num_dot (g : Nat) (w : List Nat) : numS g (46 :: w) = false := by
  cases h : numS g (46 :: w) with
  | false => rfl
  | true =>
    have := (numS_iff.mp h).2.1 46 List.mem_cons_self
    rw [show isDig 46 = false by decide] at this
    cases this
theorem beg_iff {cs : List Nat} (h : cs ≠ []) (h2 : cs ≠ [46]) : begL cs = true ↔ run 999999 0 [] cs = cs.length := by
  rw [← good_run 999999 cs 0 [] (.inl rfl) (by decide)]
  unfold begL good
  rw [Bool.or_eq_true, decide_eq_true_eq, Bool.and_eq_true, decide_eq_true_eq, Bool.and_eq_true, List.all_eq_true, Bool.or_eq_true, Bool.and_eq_true, decide_eq_true_eq, decide_eq_true_eq, Nat.zero_add]
  constructor
  · rintro (z | ⟨a, b, c⟩)
    · exact absurd z (fun z => z.elim h h2)
    · exact ⟨a, b, c.elim .inl (fun z => .inr z.1)⟩
  · rintro ⟨a, b, c⟩
    refine .inr ⟨a, b, c.elim .inl (fun z => .inr ⟨z, ?_⟩)⟩
    cases cs with
    | nil => exact absurd rfl h
    | cons x r =>
      by_cases hx : x = 32
      · rw [spc, if_pos hx, List.length_cons]
        have := List.length_pos_iff.mpr (spc_ne 32 r [])
        omega
      · obtain ⟨w, ps, e⟩ := spc_head 32 r [x]
        rw [spc, if_neg hx] at z ⊢
        have e : spc 32 ([] ++ [x]) r = ([x] ++ w) :: ps := e
        rw [e] at z ⊢
        cases ps with
        | nil => cases z
        | cons q ps => rw [List.length_cons, List.length_cons]; omega
theorem beg_take (cs : List Nat) (m : Nat) (hm : m ≤ cs.length) : begL (cs.take m) = decide (m ≤ limL cs) := by
  by_cases m0 : m = 0
  · subst m0
    rw [decide_eq_true (Nat.zero_le _), List.take_zero]
    rfl
  · have hne : cs.take m ≠ [] := fun z => by
      have := congrArg List.length z
      rw [List.length_take] at this
      have this : min m cs.length = 0 := this
      omega
    have hl : (cs.take m).length = m := by rw [List.length_take]; omega
    unfold limL
    by_cases hd : cs.headD 0 = 46
    · rw [if_pos hd]
      cases cs with
      | nil => cases hd
      | cons x r =>
        have hd : x = 46 := hd
        subst hd
        by_cases m1 : m = 1
        · subst m1
          rw [decide_eq_true (Nat.le_refl _)]
          rfl
        · rw [decide_eq_false (by omega)]
          have n46 : (46 :: r).take m ≠ [46] := fun z => by
            have := congrArg List.length z
            rw [hl] at this
            exact m1 this
          cases hb : begL ((46 :: r).take m) with
          | false => rfl
          | true =>
            have hr := (beg_iff hne n46).mp hb
            rw [run_take, List.length_take] at hr
            have : run 999999 0 [] (46 :: r) = 0 := by
              rw [run, if_neg (by decide), if_neg (by rw [show isDig 46 = false by decide]; exact Bool.false_ne_true)]
            rw [this] at hr
            rw [List.length_take] at hl
            omega
    · rw [if_neg hd]
      have n46 : cs.take m ≠ [46] := fun z => by
        cases cs with
        | nil => rw [List.take_nil] at z; cases z
        | cons x r =>
          cases m with
          | zero => exact m0 rfl
          | succ m =>
            rw [List.take_succ_cons] at z
            injection z with z1 z2
            exact hd z1
      have hi := beg_iff hne n46
      rw [run_take, hl] at hi
      have h2 : (min m (run 999999 0 [] cs) = m) ↔ m ≤ run 999999 0 [] cs := by omega
      rw [h2] at hi
      cases hb : begL (cs.take m) with
      | false =>
        rw [hb] at hi
        rw [decide_eq_false (fun z => Bool.false_ne_true (hi.mpr z))]
      | true => rw [decide_eq_true (hi.mp hb)]
theorem prs_told (cs : List Nat) : (∀ o, prs cs = .inl o → textL cs = none ∧ o = limL cs ∧ o ≤ cs.length) ∧ ∀ ls, prs cs = .inr ls → textL cs = some ls := by
  unfold prs textL limL
  by_cases hd : cs.headD 0 = 46
  · rw [if_pos hd, if_pos hd]
    by_cases h1 : 1 < cs.length
    · rw [if_pos h1]
      refine ⟨fun o h => ?_, fun ls h => (by cases h)⟩
      cases h
      rw [if_neg (fun z => by rw [z] at h1; exact absurd h1 (by decide)), if_neg (fun z => ?_)]
      · exact ⟨rfl, rfl, by omega⟩
      · obtain ⟨w, ps, e⟩ := spc_dot hd
        have := (acc_all.mp z).2 (46 :: w) (by rw [e]; exact List.mem_cons_self)
        rw [num_dot] at this
        cases this
    · rw [if_neg h1]
      refine ⟨fun o h => (by cases h), fun ls h => ?_⟩
      cases h
      rw [if_pos]
      cases cs with
      | nil => cases hd
      | cons x r =>
        have hd : x = 46 := hd
        have hr : r = [] := List.eq_nil_of_length_eq_zero (by rw [List.length_cons] at h1; omega)
        rw [hd, hr]
  · rw [if_neg hd, if_neg hd, if_neg (fun z => hd (by rw [z]; rfl))]
    obtain ⟨r1, r2⟩ := rd_parts cs cs.length 0 [] (by omega) (Nat.zero_le _) (by decide)
    rw [List.drop_zero] at r1 r2
    have rl := run_le 999999 cs 0 []
    cases er : readL 32 cs 0 [] with
    | inl i =>
      obtain ⟨a1, a2⟩ := r1 i er
      refine ⟨fun o h => ?_, fun ls h => (by cases h)⟩
      cases h
      rw [if_neg (fun z => a2 (acc_all.mp z))]
      exact ⟨rfl, by have a1 : i = 0 + run 999999 0 [] cs := a1; omega, by have a1 : i = 0 + run 999999 0 [] cs := a1; omega⟩
    | inr x =>
      obtain ⟨r, e⟩ := x
      obtain ⟨a1, a2⟩ := r2 r e er
      have a1 : e = 0 + run 999999 0 [] cs := a1
      show (∀ o, (if e < cs.length then Sum.inl e else Sum.inr r : Nat ⊕ List Int) = .inl o → _) ∧ ∀ ls, (if e < cs.length then Sum.inl e else Sum.inr r : Nat ⊕ List Int) = .inr ls → _
      by_cases he : e < cs.length
      · rw [if_pos he]
        refine ⟨fun o h => ?_, fun ls h => (by cases h)⟩
        cases h
        rw [if_neg (fun z => ?_)]
        · exact ⟨rfl, by omega, by omega⟩
        · have g := ((acc_good (spc_ne 32 _ _)).mp (acc_all.mp z)).1
          have := (good_run 999999 cs 0 [] (.inl rfl) (by decide)).mp g
          omega
      · rw [if_neg he]
        refine ⟨fun o h => (by cases h), fun ls h => ?_⟩
        cases h
        obtain ⟨b1, b2⟩ := a2 (by omega)
        rw [if_pos (acc_all.mpr b1), b2]
        rfl
end Mo

namespace Mo
open PySem PySem.Spec PyProof.Rows L2
open PySem.NumText (AllDigits digitsVal)
theorem alld_of {p : List Nat} (h : ∀ x ∈ p, isDig x = true) : AllDigits p := fun x hx => by
  have := h x hx
  unfold isDig at this
  rw [Bool.and_eq_true] at this
  exact ⟨of_decide_eq_true this.1, of_decide_eq_true this.2⟩
theorem filt_nil {p : List Nat} : (p.filter fun c => !isDig c) = [] ↔ ∀ x ∈ p, isDig x = true := by
  rw [List.filter_eq_nil_iff]
  constructor
  · intro h x hx
    have := h x hx
    simpa using this
  · intro h x hx
    have := h x hx
    simpa using this
section
variable {P : Program} {w : World} {K : PySem.W.Frag} {mg : Str → Option Value} {base : Heap}
/-- the law's own look at a number -/
def spLNum : Sp := fun vs H Q _ => ∃ (p : List Nat) (g : Nat), vs = [.str (tx p), .int ((g : Nat) : Int)] ∧ p.length ≤ 100000 ∧ g < 10 ^ 29 ∧ ∀ H', Same H H' → Q (.bl (numS g p)) H'
theorem ok_lnum {k : Nat} (T : Txt K mg) : FnOk P w K mg base CX0 (k + 1) T.aLIsNumber T.dLIsNumber ["_law_string", "_law_most"] spLNum := by
  refine T.fLIsNumber.ok scLIsNumber (fun vs H Q E h => ?_) (fun cdv A outer s H vs Q E hr h => ?_)
  · obtain ⟨_, _, rfl, _⟩ := h
    rfl
  · obtain ⟨p, g, rfl, hl, hg, q⟩ := h
    refine ⟨_, (pss_cons (ps_if (PW.pt (pw_or (pt_cmpR op_eq (pv 0) pe_str (nomark _)) (pw_or1 (pt_cmpR (Mo.op_neNil hr.units) (pe_lc (own := [("_law_sign", 2)]) (g := gName 2) rfl scLIsNumber.nd (pi_str (pv 0)) (blkOk_by (N := ["_law_string", "_law_most", "_law_sign"]) (sc := defScope sLIsNumber) (by decide +kernel)) (fun _ _ _ _ _ => pg_name (i := 2) scLIsNumber.nd rfl (Or.inl rfl)) (fun _ _ _ _ _ => pts_one (pt_cmpR op_notIn_sign (pv 2) pe_str rfl)) (fun _ _ _ _ _ => (pv 2))) (pe_lst pa_nil) (nomark _))))) (pss_one (ps_ret pe_bl)) pss_nil)
      (pss_one (ps_ret (pe_and (pe_or (pe_cmpR op_ne (pe_ix ix_str (pv 0) pe_int (fun _ _ => rfl)) pe_str (nomark _)) (pe_one (pe_cmpR op_eq (pv 0) pe_str (nomark _)))) (pe_and (pe_cmpR op_lt (pe_callB call_len_str (by rfl) T.m_len PySem.boot_len (pa_cons (pv 0) pa_nil)) pe_int (nomark _)) (pe_one (pe_cmpR op_le (pe_callTy call_int_str (by rfl) T.m_int (by decide +kernel) (pa_cons (pv 0) pa_nil)) (pv 1) (nomark _)))))))), ?_⟩
    have tx0' : Str.ofString "" = tx [] := by decide +kernel
    have txz : Str.ofString "0" = tx [48] := by decide +kernel
    by_cases p0 : p = []
    · subst p0
      refine ⟨_, rfl, rfl, true, congrArg V.bl (decide_eq_true (by rw [tx0'])), iteT ?_⟩
      exact q H (Same.refl H)
    refine ⟨_, rfl, rfl, false, congrArg V.bl (decide_eq_false (fun z => p0 (tx_inj (by rw [← tx0']; exact V.str.inj z)))), iteF ?_⟩
    refine ⟨_, rfl, tx p, rfl, fun D nD => lc_it walk_str (fun i H' => Same H H' ∧ H' D = some (.lst (((p.take i).filter fun c => !isDig c).map fun c => V.str (⟨#[c]⟩ : Str)))) ?_ ?_ ?_ ?_⟩
    · exact ⟨same_new nD, upd_same⟩
    · exact fun _ _ _ _ => trivial
    · rintro i x H3 H4 hi ⟨s3, hD⟩ ⟨rfl, ch, hch, rfl⟩
      rw [tx_get] at hch
      have hi2 := (List.getElem?_eq_some_iff.mp hch).1
      refine ⟨rfl, _, rfl, ch, _, rfl, rfl, !isDig ch, congrArg V.bl (congrArg (!·) (dig_in ch)), ?_⟩
      cases hd : isDig ch with
      | true =>
        refine iteF ⟨s3, ?_⟩
        rw [hD, List.take_add_one, hch]
        simp [hd]
      | false =>
        refine iteT ⟨_, rfl, _, hD, fitsLt (by rw [List.length_map]; have hz := List.length_filter_le (fun c => !isDig c) (p.take i); rw [List.length_take] at hz; omega), Same.put s3 nD, ?_⟩
        rw [upd_same, List.take_add_one, hch]
        simp [hd]
    · rintro H3 ⟨s3, hD⟩
      rw [tx_size, List.take_length] at hD
      refine ⟨Nat.zero_le _, fun e ne => ?_⟩
      have s4 := same_new (o := .lst []) ne
      refine ⟨_, _, _, rfl, rfl, SqL.of (s4 _ _ hD), SqL.of upd_same, !(p.filter fun c => !isDig c).isEmpty, by rw [List.isEmpty_map], ?_⟩
      have s5 := s3.trans s4
      generalize upd H3 e (.lst []) = H5 at *
      have q0 := q H5 s5
      cases hf : (p.filter fun c => !isDig c).isEmpty with
      | false =>
        refine iteT ?_
        have hn : numS g p = false := by
          cases h : numS g p with
          | false => rfl
          | true =>
            have := filt_nil.mpr (numS_iff.mp h).2.1
            rw [this] at hf
            cases hf
        rw [hn] at q0
        exact q0
      | true =>
        refine iteF ?_
        have hd := filt_nil.mp (List.isEmpty_iff.mp hf)
        have hall := alld_of hd
        obtain ⟨c, r, rfl⟩ : ∃ c r, p = c :: r := by
          cases p with
          | nil => exact absurd rfl p0
          | cons c r => exact ⟨c, r, rfl⟩
        have en : numS g (c :: r) = isNum g (c :: r) := by
          unfold numS
          rw [List.all_eq_true.mpr hd]
          rfl
        rw [en] at q0
        have e48 : V.str (⟨#[c]⟩ : Str) = V.str (Str.ofString "0") ↔ c = 48 := ⟨fun z => by
          rw [txz] at z
          have := tx_inj (a := [c]) (b := [48]) (V.str.inj z)
          cases this
          rfl, fun z => by rw [z, txz]; rfl⟩
        have e10 : V.str (tx (c :: r)) = V.str (Str.ofString "0") ↔ c :: r = [48] := ⟨fun z => by
          rw [txz] at z
          exact tx_inj (V.str.inj z), fun z => by rw [z, txz]⟩
        -- the end: short, and at most g
        have fin : (decide (c :: r = [48]) || decide ((c :: r).headD 0 ≠ 48)) = true → (c :: r).length < 30 → isNum g (c :: r) = decide (((digitsVal (c :: r) : Nat) : Int) ≤ ((g : Nat) : Int)) := fun h _ => by
          unfold isNum
          rw [h, Bool.true_and]
          by_cases z : digitsVal (c :: r) ≤ g
          · rw [decide_eq_true z, decide_eq_true (by omega)]
          · rw [decide_eq_false z, decide_eq_false (by omega)]
        have long : ¬ (c :: r).length < 30 → isNum g (c :: r) = false := fun h => by
          cases hn : isNum g (c :: r) with
          | false => rfl
          | true =>
            have := num_short hall hn hg (by decide)
            omega
        refine ⟨_, rfl, tx (c :: r), 0, c, rfl, rfl, by rw [tx_len]; exact fits5 (by omega), atI_nat (j := 0) rfl, rfl, ?_⟩
        by_cases e1 : c = 48
        · refine ⟨false, congrArg V.bl (by rw [decide_eq_true (e48.mpr e1)]; rfl), iteF ?_⟩
          refine ⟨_, rfl, rfl, ?_⟩
          by_cases e2 : c :: r = [48]
          · have hh : (decide (c :: r = [48]) || decide ((c :: r).headD 0 ≠ 48)) = true := by rw [decide_eq_true e2]; rfl
            have hs : (c :: r).length < 30 := by rw [e2]; decide
            refine ⟨true, congrArg V.bl (decide_eq_true (e10.mpr e2)), iteT ?_⟩
            refine ⟨_, rfl, _, rfl, by rw [tx_len]; exact fits5 (by omega), _, _, rfl, rfl, true, congrArg V.bl (decide_eq_true (by rw [tx_len]; omega)), iteT ?_⟩
            refine ⟨_, rfl, tx (c :: r), _, rfl, int_tx hall (by simp) (by omega), by rw [tx_len]; omega, _, rfl, _, _, rfl, rfl, ?_⟩
            rw [fin hh hs] at q0
            exact q0
          · refine ⟨false, congrArg V.bl (decide_eq_false (fun z => e2 (e10.mp z))), iteF ?_⟩
            have : isNum g (c :: r) = false := by
              unfold isNum
              rw [decide_eq_false e2, decide_eq_false (show ¬ ((c :: r).headD 0 ≠ 48) from fun z => z e1)]
              rfl
            rw [this] at q0
            exact q0
        · refine ⟨true, congrArg V.bl (by rw [decide_eq_false (fun z => e1 (e48.mp z))]; rfl), iteT ?_⟩
          have hh : (decide (c :: r = [48]) || decide ((c :: r).headD 0 ≠ 48)) = true := by rw [decide_eq_true (show (c :: r).headD 0 ≠ 48 from e1), Bool.or_true]
          refine ⟨true, rfl, iteT ?_⟩
          by_cases hs : (c :: r).length < 30
          · refine ⟨_, rfl, _, rfl, by rw [tx_len]; exact fits5 (by omega), _, _, rfl, rfl, true, congrArg V.bl (decide_eq_true (by rw [tx_len]; omega)), iteT ?_⟩
            refine ⟨_, rfl, tx (c :: r), _, rfl, int_tx hall (by simp) (by omega), by rw [tx_len]; omega, _, rfl, _, _, rfl, rfl, ?_⟩
            rw [fin hh hs] at q0
            exact q0
          · refine ⟨_, rfl, _, rfl, by rw [tx_len]; exact fits5 (by omega), _, _, rfl, rfl, false, congrArg V.bl (decide_eq_false (by rw [tx_len]; omega)), iteF ?_⟩
            rw [long hs] at q0
            exact q0
end
end Mo

/-! ### own error classes over any of Python's errors -/
namespace Mo
open PySem PySem.Spec PyProof.Rows L2
open Builtin Builtin.ObjectAttr in
section
variable {prog : Program} {w : World} {A : Around} {E : Value → Shared → Prop} {R : Result → Shared → Prop} {hp : Heap} {g : Array GenState} {d : Drawn} {t : Nat} {os : OsState}
/-- the first field of such an error -/
theorem osaG {K : PySem.W.Frag} {nm : Str} {tk : Tok} {v : Value} {x C : Addr} {fv : Array Value} {cd : ClassData} {bmB : List Value} (X : K.In hp) (hx : hp.get? x = some { cls := .ref C, data := .fields fv }) (hcd : PySem.W.clsIn K C = some cd)
    (hm : PySem.W.excTail bmB cd.mro = true) (hne : bmB ≠ []) (hob : bmB.contains (.type "object") = true) (hps : ∀ self, refuseLoop self "__setattr__" bmB = pure ()) (hh : cd.hasDict = true) (ha : PySem.W.findIn K (.ref C) nm = some none)
    (hq : ∀ h' tk' dx, (∀ b o, b ≠ x → hp.get? b = some o → h'.get? b = some o) → hp.objs.size ≤ dx → dx ≠ x → h'.get? x = some { cls := .ref C, dict := some dx, data := .fields fv } → h'.Ns1 dx (fun y => if y = nm then some v else none) → R (.ok (.ret .none)) ⟨h', g, d, tk', os⟩) :
    codeAny (model prog w) A (.call (.builtin "object.__setattr__") ⟨[.ref x, .str nm tk, v], []⟩) R ⟨hp, g, d, t, os⟩ := by
  have J : PySem.W.InstAt hp x { cls := .ref C, data := .fields fv } C none := ⟨hx, rfl, rfl, trivial⟩
  have SO := PySem.F.store_object
  have e1 : cd.mro.isEmpty = false := by
    cases q : cd.mro with
    | nil =>
      rw [q] at hm
      exact absurd (beq_iff_eq.mp hm).symm hne
    | cons _ _ => rfl
  have e2 : cd.mro.contains (.type "object") = true := (PySem.W.excTail_contains "object" _ hm).trans hob
  have n1 : x ≠ hp.objs.size := Nat.ne_of_lt (Heap.lt_size hx)
  have su : PySem.W.Looks (model prog w) hp (isInstance (.ref x) (.type "object")) true := J.type.andThen (PySem.W.looks_mroIn X (by unfold PySem.W.mroIn; rw [hcd, Option.bind_some, if_neg (by rw [e1]; decide), e2]))
  refine codeAny_call_builtin SO.slot.plain SO.entry (@PySem.W.check_slot (model prog w) _ _ ⟨hp, g, d, t, os⟩ "object.__setattr__" "object" "__setattr__" (.ref x) [.str nm tk, v] [] _ SO.kind SO.split su (SO.args (.ref x) (.str nm tk) v) ?_)
  have l1 : PySem.W.Looks (model prog w) hp (mroOf (.ref C)) cd.mro := (PySem.W.looks_clsIn X hcd).andThen .now
  have l2 : PySem.W.Looks (model prog w) hp (storeTaker? none) none := .now
  have l3 : PySem.W.Looks (model prog w) hp (classData C) cd := PySem.W.looks_clsIn X hcd
  rw [PySem.W.osa_eq, refuse_eq]
  refine wpAny_bind (wpAny_bind (J.type.at (wpAny_bind (l1.at ?_))))
  rw [PySem.W.excTail_pass _ (hps _) _ hm]
  refine wpAny_pure (wpAny_bind (J.type.at (wpAny_bind ((PySem.W.looks_findIn X ha).at (wpAny_bind (l2.at ?_))))))
  show wpAny _ _ (storeInOwnDict (.ref x) (.ref C) (.str nm tk) nm v false) _ _ _
  obtain ⟨_, _, mro, _, _, hd, _, _, _, _, _⟩ := cd
  obtain rfl : hd = true := hh
  unfold storeInOwnDict ownDictForStores
  repeat (first | with_reducible refine PySem.HandSPX.store_in_new ?_ ?_ | with_reducible refine wpAny_loadPart_at hx ?_ | with_reducible refine l3.at ?_ | wp_step)
  · exact ⟨_, #[], _, (Heap.get?_update_ne _ _ _ _ n1.symm).trans (Heap.get?_push_at rfl rfl), rfl, fun e he => absurd he (by simp), fun _ => rfl⟩
  · intro h2 tk2 hn2 hs2
    have hx1 : (hp.push { cls := .type "dict", data := .dict #[] }).get? x = some { cls := .ref C, data := .fields fv } := Heap.get?_push_of_some _ hx
    exact hq h2 tk2 hp.objs.size (fun b o hb ho => (hs2.2 b (Nat.ne_of_lt (Heap.lt_size ho))).trans ((Heap.get?_update_ne _ _ _ _ hb).trans (Heap.get?_push_of_some _ ho))) (Nat.le_refl _) n1.symm ((hs2.2 x n1).trans (Heap.get?_update_self _ hx1 rfl)) hn2
end
/-- what the written part says of an own error class at C over Python's B -/
structure OvC (K : PySem.W.Frag) (C : Addr) (B newId initId : String) (bmB : List Value) : Prop where
  cls : ∃ nm q N bs bm sn sub ab col dd k0 k1 k2 k3 k5, K.lookup C = some (excClassObj nm q C N bs bm true sn sub ab col dd k0 k1 k2 k3 k5 newId) ∧ PySem.W.excTail bmB bm = true
  bas : ExcBaseFacts B newId initId bmB
  obj : bmB.contains (.type "object") = true
  pas : ∀ self, refuseLoop self "__setattr__" bmB = pure ()
  sa : PySem.W.findIn K (.ref C) "__setattr__" = some (some (.builtin "object.__setattr__"))
  exC : PySem.W.subIn K (.ref C) (.type "BaseException") = some true
  tyC : PySem.W.typeIn K (.ref C) = some (.type "type")
  kC : PySem.W.keepIn K (.ref C) = true
section
variable {X : Cx} {pins : List (Addr × Obj)} {σ : L2.St} {H : Hp} {s : Shared} {a C : Addr} {f : Str} {y : V} {u : Value} {Q : Unit → Shared → Prop} {E : Value → Shared → Prop} {A : Around} {B newId initId : String} {bmB : List Value}
theorem fieldG (T : OvC X.K C B newId initId bmB) (I : Inv X pins σ H s) (e : H a = some (exo a C none)) (hno : PySem.W.findIn X.K (.ref C) f = some none) (ry : RelV y u)
    (h : ∀ dx s', H dx = none → dx ≠ a → Inv X pins σ (upd (upd H dx (exd dx [(f, y)])) a (exo a C (some dx))) s' → Q () s') : wpAny (model X.prog X.w) A (setAttr (.ref a) f u) Q E s := by
  obtain ⟨nm, q, N, bs, bm, sn, sub, ab, col, dd, k0, k1, k2, k3, k5, hC, hbm⟩ := T.cls
  have hcl : ∃ cd, PySem.W.clsIn X.K C = some cd ∧ cd.mro = .ref C :: bm ∧ cd.hasDict = true := by
    refine ⟨⟨nm, bs, .ref C :: bm, N, q, true, sn, sub, ab, col, false⟩, ?_, rfl, rfl⟩
    unfold PySem.W.clsIn
    rw [hC]
  obtain ⟨cd, c1, c2, c3⟩ := hcl
  obtain ⟨t1, ho⟩ := exo_at I.hok e
  obtain ⟨hp, g, dr, tk, os⟩ := s
  refine PySem.W.set_plain I.kIn (ox := { cls := .ref C, dict := none, data := .fields #[.ref t1, .none, .none, .none, .bool false, .none] }) (od := none) ⟨ho, rfl, rfl, trivial⟩ T.sa ?_
  refine osaG I.kIn ho c1 (by rw [c2]; exact hbm) (fun z => ?_) T.obj T.pas c3 hno (fun h2 tk2 dx kp dn ne hx hn => ?_)
  · have z2 := T.obj
    rw [z] at z2
    cases z2
  have free : H dx = none := I.hok.fresh dn
  have old : ∀ {b : Addr} {o : Obj}, hp.get? b = some o → b ≠ dx := fun {b o} q => Nat.ne_of_lt (Nat.lt_of_lt_of_le (Heap.lt_size q) dn)
  have off : ∀ {b : Addr}, H b = none → b ≠ a := fun {b} n z => by
    subst z
    rw [e] at n
    cases n
  have un : Un X.fs [] H (upd (upd H dx (exd dx [(f, y)])) a (exo a C (some dx))) hp h2 := by
    constructor
    · exact fun b o q n _ _ => kp b o (off n) q
    · exact fun b o q n _ _ => ⟨o.slots, kp b o (off n) q⟩
    · exact fun b o q n _ => by
        rw [upd_ne (off n), upd_ne (old q)]
        exact n
    · intro b o q _
      by_cases hb : b = a
      · subst hb
        exact ⟨_, hx⟩
      · exact ⟨o, kp b o hb q⟩
    · exact fun b xs q => by
        rw [upd_ne (at_ne e q exo_tup), upd_ne (ne_of_none q free)]
        exact q
    · exact fun b o v q => by
        rw [upd_ne (at_ne e q exo_frz), upd_ne (ne_of_none q free)]
        exact q
    · exact fun b ps q => ⟨#[], by
        rw [upd_ne (at_ne e q exo_tbl), upd_ne (ne_of_none q free), q]
        simp⟩
  refine h dx _ free ne (I.un (t' := tk2) un fun b o q => ?_)
  by_cases hb : b = a
  · subst hb
    rw [upd_same] at q
    obtain rfl := Option.some.inj q
    exact exo_ok hx
  rw [upd_ne hb] at q
  by_cases hd : b = dx
  · subst hd
    rw [upd_same] at q
    obtain rfl := Option.some.inj q
    exact exd_ok hn (relO_put (fs := []) ry fun _ => True.intro)
  rw [upd_ne hd] at q
  refine (I.hok b o q).stay (fun c v hc z => kp c v ?_ z) (fun c hc => ?_) (fun c xs hc => ?_)
  · rcases hc with rfl | hc
    · exact hb
    · exact at_ne e hc exo_own
  · rw [upd_ne (at_ne e hc exo_own), upd_ne (ne_of_none hc free)]
    exact hc
  · rw [upd_ne (at_ne e hc exo_tup), upd_ne (ne_of_none hc free)]
    exact hc
end
/-- self.f = e, the one field of such an error -/
def tFieldG (K : PySem.W.Frag) (f : Str) (to te : TE) : TS := fun D σ H => te σ H fun y H1 => to σ H1 fun x H2 => ∃ (a C : Addr) (B newId initId : String) (bmB : List Value), x = .ref a ∧ OvC K C B newId initId bmB ∧ PySem.W.findIn K (.ref C) f = some none ∧
  H2 a = some (exo a C none) ∧ ∀ dx, H2 dx = none → dx ≠ a → D.nx σ (upd (upd H2 dx (exd dx [(f, y)])) a (exo a C (some dx)))
section
variable {X : Cx} {o e : Expr} {es : List Expr} {to te : TE} {ta : TA} {f : Str} {p q1 pos : Pos} {B newId initId : String} {bmB : List Value}
theorem ps_fieldG (ho : PE X o to) (he : PE X e te) (hs : swapsWith e (some (.Attribute o f q1)) pos.line X.env = pure false := by rfl) : PS X (.Assign [.Attribute o f q1] e pos) (tFieldG X.K f to te) := by
  refine ⟨fun pins s σ H D I h => ?_⟩
  refine plainObj_wpAny_Assign_Attribute (thn (he.run pins s σ H _ I h) fun v s1 ⟨y, H1, I1, r1, z1⟩ => thn (ho.run pins s1 σ H1 _ I1 z1) fun u s2 ⟨x, H2, I2, r2, a, C, B, newId, initId, bmB, ex, T, hno, ea, z⟩ => ?_) hs
  subst ex
  obtain rfl : u = Value.ref a := r2
  exact fieldG T I2 ea hno r1 fun dx s' n ne J => ⟨σ, _, J, z dx n ne⟩
/-- C(e, ..) where it is raised -/
theorem pmkG {CX : CXT} {x : Str} {C fI : Addr} {k : Nat} {fd : FuncData} {ps : List Str} {sp : Sp} (T : OvC X.K C B newId initId bmB) (iC : PySem.W.findIn X.K (.ref C) "__init__" = some (some (.ref fI))) (tI : PySem.W.typeIn X.K (.ref fI) = some (.type "function"))
    (F1 : FnOk X.prog X.w X.K X.mg X.base CX k fI fd ps sp) (hr : Room (k + 1) X.A) (hb : Binds X.K fd ps []) (hx : Passes CX X (fun _ _ _ => False)) (hg : Gl X x) (hm : X.mg x = some (.ref C)) (ha : PA X (e :: es) ta)
    (hdb : (x == ("__debug__" : Str)) = false := by decide) (he : starEach (e :: es) X.env = (false, eval e X.env) :: starEach es X.env := by rfl) (hpl : (backTo pos (starEach es X.env)).any (·.1) = false := by rfl) :
    PMk X (.Call (.Name x p) (e :: es) [] pos) (tMkO C sp [] ta) := by
  intro pins s σ H Q I h
  obtain ⟨nm, q, N, bs, bm, sn, sub, ab, col, dd, k0, k1, k2, k3, k5, hC, hbm⟩ := T.cls
  refine wpAny_Call_Name_kw (ld_glob I hg hm (PySem.W.callWith_K (h₀ := X.base) I.ok.mod.kin T.kC (thn (ha.run pos pins s σ H _ I h) fun us s1 ⟨vs, H1, I1, r1, hz, z1⟩ => ⟨I1.kIn, ?_⟩) he hpl) hdb)
  show wpAny _ _ (call (.ref C) us) _ _ _
  obtain ⟨hp, g, dr, tk, os⟩ := s1
  have le1 : hp.objs.size ≤ hp.objs.size + 1 := Nat.le_succ _
  have z2 := z1 (hp.objs.size + 1) (I1.hok.fresh le1)
  have keep : ∀ b o, hp.get? b = some o → ((hp.push (PySem.W.kdv_tup us)).push (PySem.HandSPX.excO C hp.objs.size)).get? b = some o := fun b o e => Heap.get?_push_of_some _ (Heap.get?_push_of_some _ e)
  have hget : ((hp.push (PySem.W.kdv_tup us)).push (PySem.HandSPX.excO C hp.objs.size)).get? (hp.objs.size + 1) = some (PySem.HandSPX.excO C hp.objs.size) := by heap_get
  have I2 := I1.laid (t' := tk) (a := hp.objs.size + 1) (o := exo (hp.objs.size + 1) C none) (h' := (hp.push (PySem.W.kdv_tup us)).push (PySem.HandSPX.excO C hp.objs.size)) keep le1 (exo_ok hget)
  rw [List.append_nil] at z2
  have r2 : Vals (V.ref (hp.objs.size + 1) :: vs) (Value.ref (hp.objs.size + 1) :: us) := .cons rfl r1
  have bi := hb ⟨(hp.push (PySem.W.kdv_tup us)).push (PySem.HandSPX.excO C hp.objs.size), g, dr, tk, os⟩ (Value.ref (hp.objs.size + 1) :: us) I2.kIn (by rw [List.append_nil]; exact r2.length.symm.trans (F1.len _ _ _ _ z2))
  rw [List.append_nil] at bi
  have hus : us.length ≤ sizeLine := by
    have := r1.length
    rw [sizeLine_eq]
    omega
  refine wpAny_call (PySem.HandSPX.call_own T.bas (fun Y => PySem.W.excTail_contains Y bm hbm) (I1.kIn _ _ hC) (PySem.W.looks_findIn I1.kIn iC) (fun self => PySem.W.bind_fn I1.kIn self tI) hus (codeAny_mono
    (F1.run _ X.stack _ _ ⟨Value.ref (hp.objs.size + 1) :: us, []⟩ (Value.ref (hp.objs.size + 1) :: us) _ _ (fun _ _ _ => False) (hr.make C us []) (I2.env0.make C us []) bi r2 z2) fun r s2 z3 => ?_))
  match r, z3 with
  | .error er, z3 => exact hx pins σ _ _ er s2 I2 z3
  | .ok (.ret u), z3 =>
    obtain ⟨v, H2, os2, bare2, un2, hok2, rv, ev, dx, fs, ea, ed, hd1, z4⟩ := z3
    subst ev
    obtain ⟨h2, g2, d2, t2, os'⟩ := s2
    exact ⟨rv, mk_end (raises_own T.exC T.tyC) I1 le1 keep un2 hok2 os2 bare2 ea ed hd1 z4⟩
end
/-- such a class with one field f, its __init__ at fI -/
structure ErrG (K : PySem.W.Frag) (C fI : Addr) (f : Str) (B newId initId : String) (bmB : List Value) : Prop where
  ov : OvC K C B newId initId bmB
  xf : XfC K C
  exc : ExcC K C
  no : PySem.W.findIn K (.ref C) f = some none
  te : PySem.W.exmOne K (.ref C) (.ref C) = some true
  iC : PySem.W.findIn K (.ref C) "__init__" = some (some (.ref fI))
  tI : PySem.W.typeIn K (.ref fI) = some (.type "function")
end Mo

/-! ### several 'except x as n: ..', each with its own suite -/
namespace Mo
open PySem PySem.Spec PyProof.Rows L2
/-- a clause: the class, the slot of its name, what its suite does -/
abbrev Cls3 := Value × Nat × (Addr → Value → Option Addr → TS)
/-- what the clauses wish of an error of the body, one after the other -/
def wEach (K : PySem.W.Frag) (Wout : WX) (D : Ends) : List Cls3 → WX
  | [] => Wout
  | (c, i, ts) :: r => fun cls d σ H => ∃ b, PySem.W.exmOne K cls c = some b ∧
      (b = true → ∀ a, H a = none → ts a cls d { nx := fun σ' H' => D.nx (σ'.set i none) H', rt := D.rt, bk := fun σ' H' => D.bk (σ'.set i none) H', ct := fun σ' H' => D.ct (σ'.set i none) H' } (σ.set i (some (.ref a))) H) ∧ (b = false → wEach K Wout D r cls d σ H)
inductive HdsAs (X : Cx) : List ExceptHandler → List Cls3 → Prop
  | nil : HdsAs X [] []
  | cons {x n : Str} {c : Value} {i : Nat} {ts : Addr → Value → Option Addr → TS} {b₀ : Stmt} {rest : List Stmt} {np ep : Pos} {hds : List ExceptHandler} {l : List Cls3} (hc : Names X x c) (hi : X.N[i]? = some n) (hln : X.env.kindOf n = some .local)
      (hsu : ∀ (a : Addr) (oe : Obj) (cls : Value) (d : Option Addr) (pn : List (Addr × Obj)), Zc cls d oe → (∃ vs, oe.data = .fields vs) → PSs (X.suite a ((a, oe) :: pn)) (b₀ :: rest) (ts a cls d)) (r : HdsAs X hds l) : HdsAs X (.ExceptHandler (some (.Name x np)) (some n) (b₀ :: rest) ep :: hds) ((c, i, ts) :: l)
section
variable {X : Cx} {body : List Stmt} {h₀ : ExceptHandler} {hds : List ExceptHandler} {l : List Cls3} {pos : Pos} {tb : WX → TS} {Wout : WX}
theorem ps_try_each (hs : X.stack = X.env :: X.outer) (hf : X.env.frame = some X.env.locals) (hN : X.N.Nodup) (tk : Takes X Wout)
    (hb : ∀ (W : WX) (pn : List (Addr × Obj)) (xe : Value → Shared → Prop), Takes (X.tr pn xe) W → PassesOwn (model X.prog X.w) X.A X.env xe → PSs (X.tr pn xe) body (tb W)) (hh : HdsAs X (h₀ :: hds) l) :
    PS X (.Try body (h₀ :: hds) [] [] pos) (fun D σ H => tb (wEach X.K Wout D l) D σ H) := by
  refine ⟨fun pins s σ H D I h => ?_⟩
  have ok := I.ok
  have hfr : X.A.frames = some (X.env :: X.outer) := ok.frames.trans (by rw [hs])
  refine wpAny_Try_except (wpAny_mono ((hb (wEach X.K Wout D l) (X.pn ++ pins) (fun e s₁ => wpAny (model X.prog X.w) X.A (noteFrame e X.env) (fun _ s₂ => wpAny (model X.prog X.w) X.A (setFlight e none) (fun _ s₃ => wpAny (model X.prog X.w) X.A (handleBy e X.env (h₀ :: hds)) (SP X pins D) X.xe s₃) X.xe s₂) X.xe s₁)
    (fun u s' xx => ?_) PassesOwn.looking).run [] s σ H D (I.toTry _) h) (fun f s1 hsp => ?_) (fun e s1 he => he))
  · obtain ⟨a, B, sI, pins', σ', H', cls, d, rfl, J', nb, up, sky, na, os, ag, w⟩ := xx
    have J : Inv X pins σ' H' sI := J'.ofTry ok
    show wpAny (model X.prog X.w) X.A (noteFrame (.ref a) X.env) _ _ _
    refine Sky.land Zc.steady hfr hf (hs ▸ sky) fun h3 fl3 up3 => ?_
    have J3 : Inv X pins σ' H' { s' with heap := h3 } := J.landed nb fl3.1 (up.trans up3) os ag
    obtain ⟨oe3, vs3, he3, hz3, hd3⟩ := fl3.there
    have nfr : a ∉ frs (X.env :: X.outer) := fun hm => by
      obtain ⟨_, o2, e2, hnf⟩ := fl3.2.2.1.mem hm
      rw [he3] at e2
      cases e2
      exact hnf _ hd3
    have nL : a ≠ X.env.locals := fun z => nfr (List.mem_filterMap.mpr ⟨X.env, List.mem_cons_self, hf.trans (congrArg some z.symm)⟩)
    have nF : a ∉ X.fs := fun hm => (List.mem_filterMap.mp hm).elim fun e z => nfr (List.mem_filterMap.mpr ⟨e, List.mem_cons_of_mem _ z.1, z.2⟩)
    have S3 := J3.suite he3 hd3 na nL nF
    have LT : PySem.W.Looks (model X.prog X.w) h3 (typeOf (.ref a)) cls := fun A Q E s k q => wpAny_typeOf_ref (k _ _ he3) (hz3.1 ▸ q)
    have go : ∀ {hs2 : List ExceptHandler} {l2 : List Cls3}, HdsAs X hs2 l2 → wEach X.K Wout D l2 cls d σ' H' → wpAny (model X.prog X.w) X.A (handleBy (.ref a) X.env hs2) (SP X pins D) X.xe { s' with heap := h3 } := by
      intro hs2 l2 hk
      induction hk with
      | nil =>
        intro w
        refine wpAny_handleBy_nil ?_
        obtain ⟨k1, k2, k3, oe, vs, T, oT, t2, he, hz, hd, h1, hr⟩ := id fl3
        unfold PySem.passOn
        refine wpAny_bind (wpAny_field he hd h1 ?_)
        rw [if_neg (show ¬ ((Value.ref T == Value.none) = true) from by simp)]
        have fin : wpAny (model X.prog X.w) X.A (setFlight (.ref a) X.env.frame) (fun _ s4 => wpAny (model X.prog X.w) X.A (throw (.ref a) : Sem Flow) (SP X pins D) X.xe s4) X.xe { s' with heap := h3 } := by
          rw [hf]
          refine HandSPX.setFlight_upZ fl3 fun h4 hh4 up4 => wpAny_throw (tk _ _ ⟨a, B, sI, pins, σ', H', cls, d, rfl, J, nb, (up.trans up3).trans up4, .inr (.inr (hs ▸ hh4)), na, os, ag, w⟩)
        first
          | exact wpAny_bind (wpAny_pure (wpAny_bind fin))
          | exact wpAny_bind fin
      | @cons x n c i ts b₀ rest np ep hds' l' hc hi hln hsu r ih =>
        rintro ⟨b, hb1, hyes, hno⟩
        refine wpAny_handleBy_cons (codeAny_handlers_test ?_) (by intro q; cases q)
        have test : ∀ {Q : Value → Shared → Prop} {E : Value → Shared → Prop}, Q c { s' with heap := h3 } → wpAny (model X.prog X.w) (X.A.mark (some (.ref a))) (eval (.Name x np) X.env) Q E { s' with heap := h3 } := fun {Q E} q => by
          rcases hc with ⟨hg, hdbg, hm | ⟨hm, hv, hnn⟩⟩
          · exact ld_glob (X := X.suite a ((a, oe3) :: (X.pn ++ pins))) S3 hg hm q hdbg
          · exact ld_blt (X := X.suite a ((a, oe3) :: (X.pn ++ pins))) S3 hg hm hv q hnn hdbg
        refine test ((PySem.W.exm_one (M := model X.prog X.w) J3.kIn LT hb1).here ?_)
        cases b with
        | false => exact ih (hno rfl)
        | true =>
          refine codeAny_handlers_suite_as (HandSPX.lands_againZ fl3 fun h4 fl4 up4 => ?_)
          have J4 : Inv X pins σ' H' { s' with heap := h4 } := J.landed nb fl4.1 ((up.trans up3).trans up4) os ag
          obtain ⟨oe4, vs4, he4, hz4, hd4⟩ := fl4.there
          refine store_ok (X := X.suite a ((a, oe4) :: (X.pn ++ pins))) (v := .ref a) (J4.suite he4 hd4 na nL nF) hN hi (.inl hln) rfl (fun s5 S5 => ?_) (.inr hln)
          refine wpAny_mono ((hsu a oe4 cls d (X.pn ++ pins) hz4 ⟨_, hd4⟩).run [] s5 _ H' _ S5 (hyes rfl a na)) (fun f s6 hsp => ?_) (fun _ _ z => False.elim z)
          cases f with
          | next => exact hsp.elim fun σ6 z => z.elim fun H6 z => gone_ok (z.1.unsuite ok) hN hi hln fun s7 J7 => ⟨_, _, J7, z.2⟩
          | brk => exact hsp.elim fun σ6 z => z.elim fun H6 z => gone_ok (z.1.unsuite ok) hN hi hln fun s7 J7 => ⟨_, _, J7, z.2⟩
          | cont => exact hsp.elim fun σ6 z => z.elim fun H6 z => gone_ok (z.1.unsuite ok) hN hi hln fun s7 J7 => ⟨_, _, J7, z.2⟩
          | ret u => exact hsp.elim fun v z => z.elim fun σ6 z => z.elim fun H6 z => gone_ok (z.1.unsuite ok) hN hi hln fun s7 J7 => ⟨v, _, _, J7, z.2.1, z.2.2⟩
    exact go hh w
  · cases f with
    | next => exact hsp.elim fun σ1 z => z.elim fun H1 z => wpAny_execs_nil ⟨σ1, H1, z.1.ofTry ok, z.2⟩
    | brk => exact hsp.elim fun σ1 z => z.elim fun H1 z => ⟨σ1, H1, z.1.ofTry ok, z.2⟩
    | cont => exact hsp.elim fun σ1 z => z.elim fun H1 z => ⟨σ1, H1, z.1.ofTry ok, z.2⟩
    | ret u => exact hsp.elim fun v z => z.elim fun σ1 z => z.elim fun H1 z => ⟨v, σ1, H1, z.1.ofTry ok, z.2⟩
end
/-! isinstance(e, c) in the suite, e an error with its own dict -/
/-- the error at a, its class at C, its dict at dd -/
def rIsS (K : PySem.W.Frag) (a : Addr) (cls : Value) (d : Option Addr) : List V → Hp → VK → Prop := fun xs H Q => ∃ (C dd : Addr) (fs : List (Str × V)) (c : V) (u : Value) (b : Bool), xs = [.ref a, c] ∧ cls = .ref C ∧ d = some dd ∧ H dd = some (.xd fs) ∧ ExcC K C ∧ ClsV c u ∧ PySem.W.kitOne K (.ref C) u = some b ∧ Q (.bl b) H
theorem cr_isS {X : Cx} {a : Addr} {oe : Obj} {cls : Value} {d : Option Addr} {pn : List (Addr × Obj)} (hz : Zc cls d oe) (hf : ∃ vs, oe.data = .fields vs) : CallR (X.suite a ((a, oe) :: pn)) (.builtin "isinstance") (rIsS X.K a cls d) := by
  intro pins s σ H xs us Q I r h
  obtain ⟨C, dd, fs, c, u, b, rfl, rfl, rfl, hd, T, k, e, q⟩ := h
  obtain ⟨u1, u2, rfl, r1, r2⟩ := vals2 r
  cases r1
  obtain rfl := k.eq r2
  obtain ⟨ha, _⟩ := I.pin (a, oe) (List.mem_append_left _ List.mem_cons_self)
  obtain ⟨vs, hv⟩ := hf
  obtain ⟨mA, hns, hr⟩ := (show ObjOk X.prog X.w H s.heap dd (.xd fs) from I.hok dd _ hd)
  obtain ⟨od, ho, hl⟩ := lookIn_ns hns
  exact PySem.W.kia_one (err_kit T) I.kIn ⟨oe, od, ha, hz.1, by unfold PySem.W.notCls; rw [hv] <;> rfl, by rw [hz.2]; exact ho⟩ e (fun z => nomatch z) fun tk => ⟨.bl b, H, I.tok tk, rfl, q⟩
/-- e.f in the suite -/
def tXs (K : PySem.W.Frag) (a : Addr) (cls : Value) (d : Option Addr) (f : Str) (te : TE) : TE := fun σ H Q => te σ H fun x H1 => ∃ (C dd : Addr) (fs : List (Str × V)) (v : V), x = .ref a ∧ cls = .ref C ∧ d = some dd ∧ H1 dd = some (.xd fs) ∧ XfC K C ∧ PySem.W.findIn K (.ref C) f = some none ∧ fs.lookup f = some v ∧ Q v H1
theorem pe_xs {X : Cx} {a : Addr} {oe : Obj} {cls : Value} {d : Option Addr} {pn : List (Addr × Obj)} {e : Expr} {te : TE} {pos : Pos} {f : Str} (hz : Zc cls d oe) (hf : ∃ vs, oe.data = .fields vs) (he : PE (X.suite a ((a, oe) :: pn)) e te)
    (hb : attributeBase e f X.env (eval e X.env) = eval e X.env := by rfl) : PE (X.suite a ((a, oe) :: pn)) (.Attribute e f pos) (tXs X.K a cls d f te) := by
  refine ⟨fun pins s σ H Q I h => attr_of hb (thn (he.run pins s σ H _ I h) fun u s1 hh => ?_)⟩
  obtain ⟨x, H1, I1, rx, C, dd, fs, v, rfl, rfl, rfl, ea, T, hno, l, q⟩ := hh
  obtain rfl : u = Value.ref a := rx
  obtain ⟨ha, _⟩ := I1.pin (a, oe) (List.mem_append_left _ List.mem_cons_self)
  obtain ⟨vs, hv⟩ := hf
  obtain ⟨mA, hns, hr⟩ := (show ObjOk X.prog X.w H1 s1.heap dd (.xd fs) from I1.hok dd _ ea)
  obtain ⟨od, ho, hl⟩ := lookIn_ns hns
  obtain ⟨u, hu, ru⟩ := RelO.some_of (v := v) (o := mA f) (l ▸ hr f)
  exact HandSPX.exc_get I1.kIn ⟨ha, hz.1, by unfold PySem.W.notCls; rw [hv] <;> rfl, by rw [hz.2]; exact ho⟩ T.ga T.gg T.exC (PySem.W.findObj_own T.hdC hno rfl (by rw [hl, hu])) (handed_of ru) ⟨v, H1, I1.tok _, ru, q⟩
end Mo

/-! ### dicts of anything -/
namespace Mo
open PySem PySem.Spec PyProof.Rows L2
section
variable {X : Cx}
/-- a dict of anything == {} -/
def rEqNilD : R2 := fun x y H Q => ∃ a b ks, x = .ref a ∧ y = .ref b ∧ H a = some (.dK ks) ∧ H b = some (.dK []) ∧ Q (.bl ks.isEmpty) H
theorem op_eqNilD (hu : X.A.units + 64 < cLine) : OpR X (compareOp .Eq) rEqNilD := by
  intro pins s σ H x y v u Q I rx ry h
  obtain ⟨a, b, ks, rfl, rfl, ea, eb, q⟩ := h
  obtain rfl : v = Value.ref a := rx
  obtain rfl : u = Value.ref b := ry
  obtain ⟨_, ya, va, ra, da⟩ := (show ObjOk X.prog X.w H s.heap a (.dK ks) from I.hok a _ ea)
  obtain ⟨_, yb, vb, rb, db⟩ := (show ObjOk X.prog X.w H s.heap b (.dK []) from I.hok b _ eb)
  cases rb
  have ml := ra.length
  refine PySem.W.keq_eq (knd := mixKind X.prog X.w) (r := true) ya yb da db (by omega) (fun hl => ?_) (fin_bl I q ?_)
  · have e : va = [] := List.eq_nil_of_length_eq_zero hl
    subst e
    exact .nil
  · cases ks with
    | nil => simp at ml; simp [← ml]
    | cons k r => simp at ml; simp [← ml]
theorem op_neNilTK {K : PySem.W.Frag} (h : X.K = K) (hu : X.A.units + 64 < cLine) : OpR X (compareOp .NotEq) (rNeNilT K) := by
  subst h
  exact op_neNilT hu
/-- list(a text) -/
theorem cr_lstS (hc : X.calm = true) : CallR X (.type "list") (fun xs H Q => ∃ cs : List Nat, xs = [.str (tx cs)] ∧ cs.length ≤ 100000 ∧ ∀ p, H p = none → Q (.ref p) (upd H p (.lst (cs.map sg)))) := by
  intro pins s σ H xs us Q I r h
  obtain ⟨cs, rfl, hz, q⟩ := h
  obtain ⟨u, rfl, t, rfl⟩ := vals1 r
  refine call_list_str (I.ok.hd hc) (tx cs) t (fun h' tk acc c' hk hS hacc => ?_) (by rw [tx_size]; exact fits5 hz)
  have I2 := I.laid (t' := tk) (o := .lst (cs.map sg)) (h' := h') (a := s.heap.objs.size) hk (Nat.le_refl _) ⟨by rw [List.length_map]; exact fits5 hz, acc.toList, c', vals_signs cs acc.toList (by have := hacc.1; rw [tx_size] at this; simpa using this) (fun j v e => by
    obtain ⟨c, u, e1, e2⟩ := hacc.2 j v (by simpa using e)
    exact ⟨c, u, tx_get.symm.trans e1, e2⟩), by simpa using hS⟩
  exact ⟨.ref s.heap.objs.size, _, I2, rfl, q _ (I.hok.fresh (Nat.le_refl _))⟩
theorem pi_tupK {K : PySem.W.Frag} {tg l : Expr} {tl : TE} (h : X.K = K) (hl : PE X l tl) : PI X tg l (iTup K tl) := by
  subst h
  exact pi_tup hl
/-- the turns of a walk, whatever is done in one -/
theorem turns_it {J : It} {n : Nat} {G : Hp → Prop} {Y : Nat → Hp → V → Hp → Prop} (w : Walk J n G Y) {S : V → Hp → (Hp → Prop) → Prop} {H0 : Hp} {Qd : Hp → Prop} (Pv : Nat → Hp → Prop) (h0 : Pv 0 H0) (hG : ∀ i H, i ≤ n → Pv i H → G H)
    (hs : ∀ i x H H', i < n → Pv i H → Y i H x H' → S x H' (Pv (i + 1))) (hd : ∀ H, Pv n H → Qd H) :
    ∃ W : Nat → Nat → Hp → Prop, (∃ m, W 0 m H0) ∧ ∀ i m H, W i m H → (J.stop i H ∧ Qd H) ∨ (J.go i H ∧ ∃ Nx : Hp → Prop, (∀ H', Nx H' → ∃ m', m' < m ∧ W (i + 1) m' H') ∧ ∀ x H', J.yld i H x H' → S x H' Nx) := by
  refine ⟨fun i m H => m = n - i ∧ i ≤ n ∧ Pv i H, ⟨n, by simp, Nat.zero_le _, h0⟩, fun i m H z => ?_⟩
  obtain ⟨rfl, hi, p⟩ := z
  have g := hG i H hi p
  rcases Nat.lt_or_ge i n with lt | ge
  · exact .inr ⟨w.goes i H lt g, Pv (i + 1), fun H' p' => ⟨n - (i + 1), by omega, rfl, lt, p'⟩, fun x H' y => hs i x H H' lt p (w.yields i H x H' lt g y)⟩
  · obtain rfl : i = n := Nat.le_antisymm hi ge
    exact .inl ⟨w.stops H g, hd H p⟩
end
end Mo

namespace Mo
open PySem PySem.Spec PyProof.Rows L2
open PySem.NumText (AllDigits digitsVal)
def lowB (c : Nat) : Bool := decide (c ∈ (Str.ofString "abcdefghijklmnopqrstuvwxyz").cps.toList)
/-- how one value is read: its name, its letters and where it ends, or where it is wrong -/
def rdV (cs : List Nat) (i : Nat) (kn : Nat → Bool) : Nat ⊕ (Nat × List Int × Nat) :=
  match cs[i]? with
  | none => .inl i
  | some c =>
    if lowB c = true ∧ kn c = false then
      if cs[i + 1]? = some 61 then
        match readL 44 cs (i + 2) [] with
        | .inl o => .inl o
        | .inr (ls, e) => .inr (c, ls, e)
      else .inl (i + 1)
    else .inl i
def kSg (c : Nat) : Key := .inr (tx [c])
theorem txE : Str.ofString "" = tx [] := by decide +kernel
theorem tx61 : Str.ofString "=" = tx [61] := by decide +kernel
theorem tx44 : Str.ofString "," = tx [44] := by decide +kernel
section
variable {P : Program} {w : World} {K : PySem.W.Frag} {mg : Str → Option Value} {base : Heap}
def spRdV (C : Addr) : Sp := fun vs H Q E => ∃ (cs : List Nat) (i : Nat) (d : Addr) (kvs : List (Key × V)), vs = [.str (tx cs), .int i, .ref d] ∧ i ≤ cs.length ∧ cs.length ≤ 100000 ∧ H d = some (.dK kvs) ∧
  (∀ off : Nat, rdV cs i (fun c => (valV kvs (kSg c)).isSome) = .inl off → Errs C "offset" (.int off) H E) ∧
  ∀ (c : Nat) (ls : List Int) (e : Nat), rdV cs i (fun c => (valV kvs (kSg c)).isSome) = .inr (c, ls, e) → ∀ H' p r, Same H H' → H' p = some (.tup (ls.map V.int)) → H' r = some (.tup [.str (tx [c]), .ref p, .int e]) → Q (.ref r) H'
theorem ok_rdv {k : Nat} (T : Txt K mg) : FnOk P w K mg base (L2.CX P w) (k + 4) T.aReadValue T.dReadValue ["line", "at", "known"] (spRdV T.cParseError) := by
  have GReadLetters : FnOk P w K mg base (L2.CX P w) (k + 3) T.aReadLetters T.dReadLetters ["line", "at", "separator"] (spReadL T.cParseError) := ok_readL T
  have GInitParseError : FnOk P w K mg base CX0 (k + 2) T.iParseError T.dParseError ["self", "offset"] (spInit T.cParseError "offset") := ok_initParse T
  refine T.fReadValue.okX scReadValue (fun vs H Q E h => ?_) (fun cdv A outer s H vs Q E hr h => ?_)
  · obtain ⟨_, _, _, _, rfl, _⟩ := h
    rfl
  · obtain ⟨cs, i, d, kvs, rfl, hi, hl, hd, q1, q2⟩ := h
    have hu := hu_of hr
    refine ⟨_, (pss_cons (ps_set (i := 3) scReadValue.nd rfl (Or.inl rfl) (pe_slice sl_str (pv 0) (po_some (pv 1)) (po_some (pe_op op_add (pv 1) pe_int))))
      (pss_cons (ps_if (PW.pt (pw_or (pt_cmpR op_eq (pv 3) pe_str (nomark _)) (pw_or (pt_cmpR op_notIn_sign (pv 3) (pe_glob (v := .str "abcdefghijklmnopqrstuvwxyz") rfl T.m_VARIABLES ⟨_, rfl⟩) rfl) (pw_or1 (pt_cmp (pc_din hu (pv 3) (pv 2))))))) (pss_one (ps_raise rfl (takes_of rfl rfl rfl rfl) (pmk_oex T.xParseError.oex T.xParseError.iC T.xParseError.tI GInitParseError hr T.bInitParseError .nil pass0 (by rfl) T.eParseError (pa_cons (pv 1) pa_nil)))) pss_nil)
      (pss_cons (ps_if (pt_cmpR op_ne (pe_slice sl_str (pv 0) (po_some (pe_op op_add (pv 1) pe_int)) (po_some (pe_op op_add (pv 1) pe_int))) pe_str (nomark _)) (pss_one (ps_raise rfl (takes_of rfl rfl rfl rfl) (pmk_oex T.xParseError.oex T.xParseError.iC T.xParseError.tI GInitParseError hr T.bInitParseError .nil pass0 (by rfl) T.eParseError (pa_cons (pe_op op_add (pv 1) pe_int) pa_nil)))) pss_nil)
      (pss_cons (ps_asg (pe_call GReadLetters hr (by rfl) T.gReadLetters T.fReadLetters.kp T.bReadLetters .nil (passes_call (takes_of rfl rfl rfl rfl) (fun _ _ _ _ h => h)) (pa_cons (pv 0) (pa_cons (pe_op op_add (pv 1) pe_int) (pa_cons pe_str pa_nil)))) (pg_tup (by rfl) (pgs_cons (pg_name (i := 4) scReadValue.nd rfl (Or.inl rfl)) (pgs_cons (pg_name (i := 5) scReadValue.nd rfl (Or.inl rfl)) pgs_nil))))
      (pss_one (ps_ret (pe_tup (pa_cons (pv 3) (pa_cons (pv 4) (pa_cons (pv 5) pa_nil)))))))))), ?_⟩
    refine ⟨_, rfl, _, rfl, ((i : Nat) : Int), rfl, _, rfl, _, 1, rfl, rfl, ((i + 1 : Nat) : Int), congrArg V.int (by omega), tx cs, rfl, by rw [tx_len]; exact fits5 hl, ?_⟩
    rw [cut_tx1 cs hi]
    cases e0 : cs[i]? with
    | none =>
      have z0 : (cs.drop i).take 1 = [] := by
        have : cs.length ≤ i := List.getElem?_eq_none_iff.mp e0
        rw [List.drop_eq_nil_of_le this]
        rfl
      rw [z0]
      have r0 : rdV cs i (fun c => (valV kvs (kSg c)).isSome) = .inl i := by
        unfold rdV
        rw [e0]
      refine ⟨_, rfl, rfl, true, congrArg V.bl (decide_eq_true (congrArg V.str txE.symm)), ?_⟩
      exact iteT (iteT ⟨_, rfl, err_read (q1 i r0)⟩)
    | some c =>
      rw [take_one.mpr e0]
      refine ⟨_, rfl, rfl, false, congrArg V.bl (decide_eq_false (fun z => by
        have z2 := V.str.inj z
        rw [txE] at z2
        exact absurd (tx_inj z2) (List.cons_ne_nil _ _))), ?_⟩
      refine iteF ?_
      refine ⟨_, rfl, c, _, rfl, rfl, !lowB c, rfl, ?_⟩
      cases hlw : lowB c with
      | false =>
        have r0 : rdV cs i (fun c => (valV kvs (kSg c)).isSome) = .inl i := by
          unfold rdV
          rw [e0]
          show (if lowB c = true ∧ _ then _ else _) = _
          rw [if_neg (fun z => by rw [hlw] at z; exact absurd z.1 (by decide))]
        exact iteT (iteT ⟨_, rfl, err_read (q1 i r0)⟩)
      | true =>
        refine iteF ?_
        refine ⟨_, rfl, _, rfl, d, _, rfl, DGet.k (k := kSg c) hd, ?_⟩
        refine ⟨(valV kvs (kSg c)).isSome, rfl, ?_⟩
        cases hkn : (valV kvs (kSg c)).isSome with
        | true =>
          have r0 : rdV cs i (fun c => (valV kvs (kSg c)).isSome) = .inl i := by
            unfold rdV
            rw [e0]
            show (if lowB c = true ∧ (valV kvs (kSg c)).isSome = false then _ else _) = _
            rw [if_neg (fun z => by rw [hkn] at z; exact absurd z.2 (by decide))]
          exact iteT ⟨_, rfl, err_read (q1 i r0)⟩
        | false =>
          have hi1 : i < cs.length := (List.getElem?_eq_some_iff.mp e0).1
          have r0 : rdV cs i (fun c => (valV kvs (kSg c)).isSome) = if cs[i + 1]? = some 61 then (match readL 44 cs (i + 2) [] with | .inl o => .inl o | .inr (ls, e) => .inr (c, ls, e)) else .inl (i + 1) := by
            unfold rdV
            rw [e0]
            show (if lowB c = true ∧ (valV kvs (kSg c)).isSome = false then _ else _) = _
            rw [if_pos ⟨hlw, hkn⟩]
          rw [r0] at q1 q2
          refine iteF ?_
          refine ⟨_, rfl, _, rfl, _, 1, rfl, rfl, ((i + 1 : Nat) : Int), congrArg V.int (by omega), _, rfl, _, 2, rfl, rfl, ((i + 1 + 1 : Nat) : Int), congrArg V.int (by omega), tx cs, rfl, by rw [tx_len]; exact fits5 hl, ?_⟩
          rw [cut_tx1 cs (by omega)]
          by_cases y : cs[i + 1]? = some 61
          · have hi2 : i + 1 < cs.length := (List.getElem?_eq_some_iff.mp y).1
            rw [if_pos y] at q1 q2
            refine ⟨rfl, false, ?_, iteF ?_⟩
            · rw [take_one.mpr y, tx61]
              exact same_ne _
            · refine ⟨_, rfl, _, rfl, _, 2, rfl, rfl, cs, i + 2, 44, ?_, by omega, hl, fun off z => ?_, fun ls e z H1 p r s1 hp hr1 => ?_⟩
              · rw [tx44]
                rfl
              · rw [z] at q1
                exact q1 off rfl
              · rw [z] at q2
                refine ⟨r, _, rfl, SqT.of hr1, rfl, _, _, rfl, _, _, rfl, rfl, ?_⟩
                refine ⟨_, rfl, _, rfl, _, rfl, by show 3 ≤ sizeLine; decide, fun r2 nr2 => ?_⟩
                have s2 := same_new (o := .tup [.str (tx [c]), .ref p, .int ((e : Nat) : Int)]) nr2
                exact q2 c ls e rfl _ p r2 (s1.trans s2) (s2 _ _ hp) upd_same
          · rw [if_neg y] at q1
            refine ⟨rfl, true, congrArg V.bl ?_, iteT ?_⟩
            · rw [decide_eq_false (fun z => y (take_one.mp (tx_inj (by rw [← tx61]; exact V.str.inj z))))]
              rfl
            · refine ⟨_, rfl, _, 1, rfl, rfl, err_read ?_⟩
              have := q1 (i + 1) rfl
              exact this
end
end Mo

namespace Mo
open PySem PySem.Spec PyProof.Rows L2
open PySem.NumText (AllDigits digitsVal)
theorem readL_le {sep : Nat} {cs : List Nat} : ∀ (n i : Nat) (ls : List Int), cs.length - i ≤ n → i ≤ cs.length → ∀ r e, readL sep cs i ls = .inr (r, e) → i ≤ e ∧ e ≤ cs.length
  | n, i, ls, hn, hi, r, e, h => by
    rw [readL] at h
    have hle := numEnd_le 999999 (cs.drop i) []
    rw [List.length_drop] at hle
    generalize numEnd 999999 [] (cs.drop i) = m at *
    by_cases m0 : m = 0
    · rw [if_pos m0] at h
      cases h
    · rw [if_neg m0] at h
      by_cases y : cs[i + m]? = some sep ∧ ls.length + 1 ≠ 4096
      · rw [dif_pos y] at h
        have hlt := (List.getElem?_eq_some_iff.mp y.1).1
        match n, hn with
        | 0, hn => omega
        | n + 1, hn =>
          have := readL_le n _ _ (by omega) (by omega) r e h
          omega
      · rw [dif_neg y] at h
        cases h
        omega
theorem rdV_le {cs : List Nat} {i : Nat} {kn : Nat → Bool} {c : Nat} {ls : List Int} {e : Nat} (h : rdV cs i kn = .inr (c, ls, e)) : i < e ∧ e ≤ cs.length ∧ kn c = false ∧ lowB c = true := by
  unfold rdV at h
  cases e0 : cs[i]? with
  | none => rw [e0] at h; cases h
  | some c0 =>
    rw [e0] at h
    have h : (if lowB c0 = true ∧ kn c0 = false then (if cs[i + 1]? = some 61 then (match readL 44 cs (i + 2) [] with | .inl o => .inl o | .inr (ls, e) => .inr (c0, ls, e)) else .inl (i + 1)) else .inl i : Nat ⊕ (Nat × List Int × Nat)) = .inr (c, ls, e) := h
    by_cases y : lowB c0 = true ∧ kn c0 = false
    · rw [if_pos y] at h
      by_cases z : cs[i + 1]? = some 61
      · rw [if_pos z] at h
        have hi2 := (List.getElem?_eq_some_iff.mp z).1
        cases er : readL 44 cs (i + 2) [] with
        | inl o => rw [er] at h; cases h
        | inr x =>
          rw [er] at h
          obtain ⟨ls2, e2⟩ := x
          have h : (Sum.inr (c0, ls2, e2) : Nat ⊕ (Nat × List Int × Nat)) = .inr (c, ls, e) := h
          cases h
          have := readL_le _ _ _ (Nat.le_refl _) (by omega) _ _ er
          exact ⟨by omega, by omega, y.2, y.1⟩
      · rw [if_neg z] at h
        cases h
    · rw [if_neg y] at h
      cases h
/-- how the values of a place are read -/
def rdP (cs : List Nat) : Nat → Nat → List (Nat × List Int) → Nat ⊕ (List (Nat × List Int) × Nat)
  | 0, e, kv => .inr (kv, e)
  | f + 1, e, kv => if cs[e]? = some 32 then
      match rdV cs (e + 1) (fun c => kv.any fun x => x.1 == c) with
      | .inl o => .inl o
      | .inr (c, ls, e2) => rdP cs f e2 (kv ++ [(c, ls)])
    else .inr (kv, e)
def prsP (cs : List Nat) : Nat ⊕ (Nat × List (Nat × List Int)) :=
  if numEnd (10 ^ 18) [] cs = 0 then .inl 0
  else match rdP cs 8 (numEnd (10 ^ 18) [] cs) [] with
    | .inl o => .inl o
    | .inr (kv, e) => if e < cs.length then .inl e else .inr (digitsVal (cs.take (numEnd (10 ^ 18) [] cs)), kv)
def PVs (H : Hp) : List (Key × V) → List (Nat × List Int) → Prop
  | [], [] => True
  | (k, v) :: r, (c, ls) :: q => k = kSg c ∧ (∃ p, v = .ref p ∧ H p = some (.tup (ls.map V.int))) ∧ PVs H r q
  | _, _ => False
theorem PVs.mono {H H' : Hp} (s : ∀ p xs, H p = some (.tup xs) → H' p = some (.tup xs)) : ∀ {kvs : List (Key × V)} {kv : List (Nat × List Int)}, PVs H kvs kv → PVs H' kvs kv
  | [], [], _ => trivial
  | (k, v) :: r, (c, ls) :: q, h => by
    obtain ⟨h1, ⟨p, h2, h3⟩, h4⟩ := h
    exact ⟨h1, ⟨p, h2, s _ _ h3⟩, PVs.mono s h4⟩
  | [], _ :: _, h => h.elim
  | _ :: _, [], h => h.elim
theorem PVs.same {H H' : Hp} {kvs : List (Key × V)} {kv : List (Nat × List Int)} (h : PVs H kvs kv) (s : Same H H') : PVs H' kvs kv := h.mono fun p xs e => s _ _ e
theorem PVs.len {H : Hp} : ∀ {kvs : List (Key × V)} {kv : List (Nat × List Int)}, PVs H kvs kv → kvs.length = kv.length
  | [], [], _ => rfl
  | (k, v) :: r, (c, ls) :: q, h => by
    show r.length + 1 = q.length + 1
    rw [PVs.len h.2.2]
  | [], _ :: _, h => h.elim
  | _ :: _, [], h => h.elim
theorem kSg_inj {a b : Nat} (h : kSg a = kSg b) : a = b := by
  have := tx_inj (Sum.inr.inj h)
  exact (List.cons.inj this).1
theorem PVs.kn {H : Hp} (c : Nat) : ∀ {kvs : List (Key × V)} {kv : List (Nat × List Int)}, PVs H kvs kv → (valV kvs (kSg c)).isSome = kv.any fun x => x.1 == c
  | [], [], _ => rfl
  | (k, v) :: r, (c2, ls) :: q, h => by
    obtain ⟨h1, _, h3⟩ := h
    subst h1
    rw [List.any_cons]
    by_cases e : c2 = c
    · subst e
      rw [valV_pos rfl]
      simp
    · rw [valV_neg (fun z => e (kSg_inj z)), PVs.kn c h3]
      simp [e]
  | [], _ :: _, h => h.elim
  | _ :: _, [], h => h.elim
theorem PVs.snoc {H : Hp} {c : Nat} {ls : List Int} {p : Addr} (hp : H p = some (.tup (ls.map V.int))) : ∀ {kvs : List (Key × V)} {kv : List (Nat × List Int)}, PVs H kvs kv → PVs H (kvs ++ [(kSg c, .ref p)]) (kv ++ [(c, ls)])
  | [], [], _ => ⟨rfl, ⟨p, rfl, hp⟩, trivial⟩
  | (k, v) :: r, (c2, l2) :: q, h => ⟨h.1, h.2.1, PVs.snoc hp h.2.2⟩
  | [], _ :: _, h => h.elim
  | _ :: _, [], h => h.elim
theorem putK_new {kvs : List (Key × V)} {k : Key} {v : V} (h : (valV kvs k).isSome = false) : putK kvs k v = kvs ++ [(k, v)] := by
  unfold putK
  rw [valV_any, h]
  rfl
end Mo

/-! ### how far a line begins a place -/
namespace Mo
open PySem PySem.Spec PyProof.Rows L2
open PySem.NumText (AllDigits digitsVal)
inductive PSt where
  | n (acc : List Nat)
  | a (us : List Nat)
  | e (us : List Nat)
  | v (us acc : List Nat)
def stp : PSt → Nat → Option PSt
  | .n acc, x => if x = 32 then (if acc ≠ [] then some (.a []) else none) else if isDig x && isNum (10 ^ 18) (acc ++ [x]) then some (.n (acc ++ [x])) else none
  | .a us, x => if lowB x = true ∧ x ∉ us then some (.e (us ++ [x])) else none
  | .e us, x => if x = 61 then some (.v us []) else none
  | .v us acc, x => if x = 32 then (if acc ≠ [] ∧ us.length < 8 then some (.a us) else none) else if x = 44 then (if acc ≠ [] then some (.v us []) else none) else if isDig x && isNum 999999 (acc ++ [x]) then some (.v us (acc ++ [x])) else none
def comp : PSt → Prop
  | .n acc => acc ≠ []
  | .v _ acc => acc ≠ []
  | _ => False
def fin : PSt → List Nat → Option PSt
  | s, [] => some s
  | s, x :: r => (stp s x).bind fun s' => fin s' r
def runP : PSt → List Nat → Nat
  | _, [] => 0
  | s, x :: r => match stp s x with
    | some s' => 1 + runP s' r
    | none => 0
theorem fin_cons {s : PSt} {x : Nat} {r : List Nat} : fin s (x :: r) = (stp s x).bind fun s' => fin s' r := rfl
theorem runP_some {s s' : PSt} {x : Nat} {r : List Nat} (h : stp s x = some s') : runP s (x :: r) = 1 + runP s' r := by
  rw [runP, h]
theorem runP_none {s : PSt} {x : Nat} {r : List Nat} (h : stp s x = none) : runP s (x :: r) = 0 := by
  rw [runP, h]
theorem runP_take : ∀ (l : List Nat) (m : Nat) (s : PSt), runP s (l.take m) = min m (runP s l)
  | [], m, s => by
    rw [List.take_nil]
    show 0 = min m 0
    omega
  | x :: r, 0, s => by
    show 0 = min 0 _
    omega
  | x :: r, m + 1, s => by
    rw [List.take_succ_cons]
    cases h : stp s x with
    | none => rw [runP_none h, runP_none h]; omega
    | some s' => rw [runP_some h, runP_some h, runP_take r m s']; omega
theorem runP_le : ∀ (l : List Nat) (s : PSt), runP s l ≤ l.length
  | [], s => Nat.le_refl _
  | x :: r, s => by
    rw [List.length_cons]
    cases h : stp s x with
    | none => rw [runP_none h]; omega
    | some s' => rw [runP_some h]; have := runP_le r s'; omega
theorem fin_run : ∀ (l : List Nat) (s : PSt), (fin s l).isSome = true ↔ runP s l = l.length
  | [], s => ⟨fun _ => rfl, fun _ => rfl⟩
  | x :: r, s => by
    rw [fin_cons, List.length_cons]
    cases h : stp s x with
    | none =>
      rw [runP_none h]
      exact ⟨fun z => (by cases z), fun z => by omega⟩
    | some s' =>
      rw [runP_some h]
      have := fin_run r s'
      show (fin s' r).isSome = true ↔ _
      rw [this]
      omega
theorem fin_app : ∀ (p q : List Nat) (s : PSt), fin s (p ++ q) = (fin s p).bind fun s' => fin s' q
  | [], q, s => rfl
  | x :: r, q, s => by
    rw [List.cons_append, fin_cons, fin_cons]
    cases h : stp s x with
    | none => rfl
    | some s' => exact fin_app r q s'
theorem runP_app : ∀ (p q : List Nat) (s s' : PSt), fin s p = some s' → runP s (p ++ q) = p.length + runP s' q
  | [], q, s, s', h => by
    cases h
    rw [List.nil_append, List.length_nil, Nat.zero_add]
  | x :: r, q, s, s', h => by
    rw [fin_cons] at h
    cases e : stp s x with
    | none => rw [e] at h; cases h
    | some t =>
      rw [e] at h
      have h : fin t r = some s' := h
      rw [List.cons_append, runP_some e, runP_app r q t s' h, List.length_cons]
      omega
def no32 (p : List Nat) : Prop := ∀ x ∈ p, x ≠ 32
theorem no32_cons {x : Nat} {p : List Nat} (h : no32 (x :: p)) : x ≠ 32 ∧ no32 p := ⟨h x List.mem_cons_self, fun y hy => h y (List.mem_cons_of_mem _ hy)⟩
/-- the number ahead -/
theorem fin_n : ∀ (p acc : List Nat), no32 p → p ≠ [] → ((p.all isDig && isNum (10 ^ 18) (acc ++ p)) = true → fin (.n acc) p = some (.n (acc ++ p))) ∧ ((p.all isDig && isNum (10 ^ 18) (acc ++ p)) = false → fin (.n acc) p = none)
  | [], acc, _, h => absurd rfl h
  | x :: r, acc, h32, _ => by
    obtain ⟨hx, hr⟩ := no32_cons h32
    have e1 : stp (.n acc) x = if isDig x && isNum (10 ^ 18) (acc ++ [x]) then some (.n (acc ++ [x])) else none := by rw [stp, if_neg hx]
    rw [fin_cons, e1]
    by_cases d : (isDig x && isNum (10 ^ 18) (acc ++ [x])) = true
    · rw [if_pos d]
      show (_ → fin (.n (acc ++ [x])) r = _) ∧ (_ → fin (.n (acc ++ [x])) r = _)
      rw [Bool.and_eq_true] at d
      by_cases r0 : r = []
      · subst r0
        refine ⟨fun _ => rfl, fun z => ?_⟩
        rw [List.all_cons, d.1, d.2] at z
        cases z
      · obtain ⟨i1, i2⟩ := fin_n r (acc ++ [x]) hr r0
        rw [List.append_assoc] at i1 i2
        rw [List.all_cons, d.1, Bool.true_and]
        exact ⟨i1, i2⟩
    · rw [if_neg d]
      refine ⟨fun z => ?_, fun _ => rfl⟩
      exfalso
      rw [Bool.and_eq_true, List.all_cons, Bool.and_eq_true] at z
      refine d ?_
      rw [Bool.and_eq_true]
      refine ⟨z.1.1, isNum_cut (b := r) (by simp) ?_⟩
      rw [List.append_assoc]
      exact z.2
theorem fin_num {p : List Nat} (h32 : no32 p) (h0 : p ≠ []) : (numS (10 ^ 18) p = true → fin (.n []) p = some (.n p)) ∧ (numS (10 ^ 18) p = false → fin (.n []) p = none) := by
  obtain ⟨h1, h2⟩ := fin_n p [] h32 h0
  have e : numS (10 ^ 18) p = (p.all isDig && isNum (10 ^ 18) ([] ++ p)) := by
    unfold numS
    cases p with
    | nil => exact absurd rfl h0
    | cons x r => rfl
  rw [e]
  exact ⟨h1, h2⟩
/-- the numbers of a value -/
def gV (ps : List (List Nat)) : Bool := ps.dropLast.all (numS 999999) && (decide (ps.getLastD [] = []) || numS 999999 (ps.getLastD []))
theorem gV_cons {p : List Nat} {ps : List (List Nat)} (h : ps ≠ []) : gV (p :: ps) = (numS 999999 p && gV ps) := by
  obtain ⟨e1, e2⟩ := last_cons (p := p) h
  unfold gV
  rw [e1, e2, List.all_cons, Bool.and_assoc]
theorem fin_v (us : List Nat) : ∀ (r acc : List Nat), no32 r → (acc = [] ∨ numS 999999 acc = true) → (gV (spc 44 acc r) = true → fin (.v us acc) r = some (.v us ((spc 44 acc r).getLastD []))) ∧ (gV (spc 44 acc r) = false → fin (.v us acc) r = none)
  | [], acc, _, ha => by
    rw [spc]
    refine ⟨fun _ => rfl, fun z => ?_⟩
    exfalso
    unfold gV at z
    rcases ha with e | e
    · subst e
      cases z
    · have z : (true && (decide (acc = []) || numS 999999 acc)) = false := z
      rw [e, Bool.or_true] at z
      cases z
  | x :: r, acc, h32, ha => by
    obtain ⟨hx, hr⟩ := no32_cons h32
    rw [fin_cons, spc]
    by_cases h44 : x = 44
    · subst h44
      rw [if_pos rfl, gV_cons (spc_ne 44 r []), (last_cons (p := acc) (spc_ne 44 r [])).1]
      have e1 : stp (.v us acc) 44 = if acc ≠ [] then some (.v us []) else none := by rw [stp, if_neg (by decide), if_pos rfl]
      rw [e1]
      by_cases a0 : acc = []
      · subst a0
        rw [if_neg (fun z => z rfl), numS_nil, Bool.false_and]
        exact ⟨fun z => (by cases z), fun _ => rfl⟩
      · rw [if_pos a0, ha.resolve_left a0, Bool.true_and]
        exact fin_v us r [] hr (.inl rfl)
    · rw [if_neg h44]
      have e1 : stp (.v us acc) x = if isDig x && isNum 999999 (acc ++ [x]) then some (.v us (acc ++ [x])) else none := by rw [stp, if_neg hx, if_neg h44]
      rw [e1]
      by_cases d : (isDig x && isNum 999999 (acc ++ [x])) = true
      · rw [if_pos d]
        exact fin_v us r (acc ++ [x]) hr (.inr (numS_snoc ha d))
      · rw [if_neg d]
        refine ⟨fun z => ?_, fun _ => rfl⟩
        exfalso
        have key : ∀ w, numS 999999 (acc ++ [x] ++ w) = true → False := fun w hw => by
          have := numS_cut (by simp) hw
          rw [numS_iff] at this
          refine d ?_
          rw [Bool.and_eq_true]
          exact ⟨this.2.1 x (by simp), this.2.2⟩
        obtain ⟨w, ps, e⟩ := spc_head 44 r (acc ++ [x])
        rw [e] at z
        by_cases hp : ps = []
        · subst hp
          have z : (true && (decide (acc ++ [x] ++ w = []) || numS 999999 (acc ++ [x] ++ w))) = true := z
          rw [Bool.true_and, Bool.or_eq_true] at z
          rcases z with z | z
          · have := of_decide_eq_true z
            simp at this
          · exact key w z
        · rw [gV_cons hp, Bool.and_eq_true] at z
          exact key w z.1
/-- a value, and how one begins -/
def isValB (us p : List Nat) : Bool := match p with
  | c :: x :: r => (lowB c && !decide (c ∈ us)) && (decide (x = 61) && (spc 44 [] r).all (numS 999999))
  | _ => false
def begVB (us p : List Nat) : Bool := match p with
  | [] => true
  | [c] => lowB c && !decide (c ∈ us)
  | c :: x :: r => (lowB c && !decide (c ∈ us)) && (decide (x = 61) && gV (spc 44 [] r))
theorem all_gV {ps : List (List Nat)} (h : ps ≠ []) : ps.all (numS 999999) = true ↔ gV ps = true ∧ ps.getLastD [] ≠ [] := by
  have e : ps.dropLast ++ [ps.getLastD []] = ps := by
    rw [lastD h]
    exact List.dropLast_concat_getLast h
  have e2 : ps.all (numS 999999) = (ps.dropLast.all (numS 999999) && numS 999999 (ps.getLastD [])) := by
    conv => lhs; rw [← e]
    rw [List.all_append, List.all_cons, List.all_nil, Bool.and_true]
  rw [e2]
  unfold gV
  rw [Bool.and_eq_true, Bool.and_eq_true, Bool.or_eq_true]
  constructor
  · rintro ⟨h1, h2⟩
    exact ⟨⟨h1, .inr h2⟩, fun z => (by rw [z, numS_nil] at h2; cases h2)⟩
  · rintro ⟨⟨h1, h2⟩, h3⟩
    exact ⟨h1, h2.resolve_left fun z => h3 (of_decide_eq_true z)⟩
theorem stp_a {us : List Nat} {c : Nat} : stp (.a us) c = if (lowB c && !decide (c ∈ us)) = true then some (.e (us ++ [c])) else none := by
  rw [stp]
  by_cases h : lowB c = true ∧ c ∉ us
  · rw [if_pos h, if_pos (by rw [h.1, decide_eq_false h.2]; rfl)]
  · rw [if_neg h, if_neg (fun z => h ?_)]
    rw [Bool.and_eq_true] at z
    exact ⟨z.1, fun y => by rw [decide_eq_true y] at z; exact absurd z.2 (by decide)⟩
/-- how a part is gone through from a name on -/
theorem fin_a (us : List Nat) : ∀ (p : List Nat), no32 p → (fin (.a us) p).isSome = begVB us p ∧ (isValB us p = true → ∃ acc, fin (.a us) p = some (.v (us ++ [p.headD 0]) acc) ∧ acc ≠ []) ∧ (isValB us p = false → ∀ s, fin (.a us) p = some s → ¬ comp s ∧ stp s 32 = none)
  | [], _ => by
    refine ⟨rfl, fun z => (by cases z), fun _ s h => ?_⟩
    cases h
    refine ⟨fun z => z, ?_⟩
    rw [stp_a, if_neg (by rw [show lowB 32 = false by decide +kernel]; exact Bool.false_ne_true)]
  | [c], _ => by
    have e0 : fin (.a us) [c] = (stp (.a us) c).bind fun s => some s := rfl
    rw [e0, stp_a]
    show _ = (lowB c && !decide (c ∈ us)) ∧ _
    by_cases h : (lowB c && !decide (c ∈ us)) = true
    · rw [if_pos h, h]
      refine ⟨rfl, fun z => (by cases z), fun _ s hs => ?_⟩
      cases hs
      exact ⟨fun z => z, by rw [stp, if_neg (by decide)]⟩
    · rw [if_neg h, Bool.eq_false_iff.mpr h]
      exact ⟨rfl, fun z => (by cases z), fun _ s hs => by cases hs⟩
  | c :: x :: r, h32 => by
    obtain ⟨_, hr0⟩ := no32_cons h32
    obtain ⟨hx, hr⟩ := no32_cons hr0
    rw [fin_cons, stp_a]
    show _ = ((lowB c && !decide (c ∈ us)) && (decide (x = 61) && gV (spc 44 [] r))) ∧ (((lowB c && !decide (c ∈ us)) && (decide (x = 61) && (spc 44 [] r).all (numS 999999))) = true → _) ∧ (((lowB c && !decide (c ∈ us)) && (decide (x = 61) && (spc 44 [] r).all (numS 999999))) = false → _)
    by_cases h : (lowB c && !decide (c ∈ us)) = true
    · rw [if_pos h, h, Bool.true_and, Bool.true_and]
      show (fin (.e (us ++ [c])) (x :: r)).isSome = _ ∧ (_ → ∃ acc, fin (.e (us ++ [c])) (x :: r) = _ ∧ _) ∧ (_ → ∀ s, fin (.e (us ++ [c])) (x :: r) = some s → _)
      rw [fin_cons]
      have e1 : stp (.e (us ++ [c])) x = if x = 61 then some (.v (us ++ [c]) []) else none := rfl
      rw [e1]
      by_cases hx61 : x = 61
      · rw [if_pos hx61, decide_eq_true hx61, Bool.true_and, Bool.true_and]
        show (fin (.v (us ++ [c]) []) r).isSome = _ ∧ (_ → ∃ acc, fin (.v (us ++ [c]) []) r = _ ∧ _) ∧ (_ → ∀ s, fin (.v (us ++ [c]) []) r = some s → _)
        obtain ⟨f1, f2⟩ := fin_v (us ++ [c]) r [] hr (.inl rfl)
        have ag := all_gV (spc_ne 44 r [])
        cases hg : gV (spc 44 [] r) with
        | true =>
          rw [f1 hg]
          refine ⟨rfl, fun z => ⟨_, rfl, (ag.mp z).2⟩, fun z s hs => ?_⟩
          cases hs
          have l0 : (spc 44 [] r).getLastD [] = [] := Classical.byContradiction fun y => by
            rw [ag.mpr ⟨hg, y⟩] at z
            cases z
          rw [l0]
          exact ⟨fun y => y rfl, by rw [stp, if_pos rfl, if_neg (fun y => y.1 rfl)]⟩
        | false =>
          rw [f2 hg]
          refine ⟨rfl, fun z => ?_, fun _ s hs => by cases hs⟩
          have := (ag.mp z).1
          rw [hg] at this
          cases this
      · rw [if_neg hx61, decide_eq_false hx61, Bool.false_and, Bool.false_and]
        exact ⟨rfl, fun z => (by cases z), fun _ s hs => by cases hs⟩
    · rw [if_neg h, Bool.eq_false_iff.mpr h]
      exact ⟨rfl, fun z => (by cases z), fun _ s hs => by cases hs⟩
end Mo

namespace Mo
open PySem PySem.Spec PyProof.Rows L2
open PySem.NumText (AllDigits digitsVal)
/-! the law's parts -/
def names (kv : List (Nat × List Int)) : List Nat := kv.map (·.1)
def valOf (p : List Nat) : Nat × List Int := (p.headD 0, vals (spc 44 [] (p.drop 2)))
def placeV : List (List Nat) → List (Nat × List Int) → Option (List (Nat × List Int))
  | [], kv => some kv
  | p :: r, kv => if isValB (names kv) p = true then placeV r (kv ++ [valOf p]) else none
def placeQ (ps : List (List Nat)) : Option (Nat × List (Nat × List Int)) :=
  if (numS (10 ^ 18) (ps.headD []) && decide (ps.length ≤ 9)) = true then (placeV ps.tail []).map fun kv => (digitsVal (ps.headD []), kv) else none
/-- parts written one after the other -/
def jn : List (List Nat) → List Nat
  | [] => []
  | [p] => p
  | p :: q :: r => p ++ 32 :: jn (q :: r)
theorem jn_cons {p : List Nat} {r : List (List Nat)} (h : r ≠ []) : jn (p :: r) = p ++ 32 :: jn r := by
  cases r with
  | nil => exact absurd rfl h
  | cons q r => rfl
theorem jn_spc : ∀ (l acc : List Nat), jn (spc 32 acc l) = acc ++ l
  | [], acc => by rw [spc, List.append_nil]; rfl
  | x :: r, acc => by
    rw [spc]
    by_cases h : x = 32
    · rw [if_pos h, jn_cons (spc_ne 32 r []), jn_spc r [], h]
      rfl
    · rw [if_neg h, jn_spc r (acc ++ [x]), List.append_assoc]
      rfl
theorem spc_no : ∀ (l acc : List Nat), no32 acc → ∀ p ∈ spc 32 acc l, no32 p
  | [], acc, ha, p, h => by
    rw [spc] at h
    rw [List.mem_singleton.mp h]
    exact ha
  | x :: r, acc, ha, p, h => by
    rw [spc] at h
    by_cases hx : x = 32
    · rw [if_pos hx] at h
      rcases List.mem_cons.mp h with z | z
      · rw [z]
        exact ha
      · exact spc_no r [] (fun y hy => absurd hy List.not_mem_nil) p z
    · rw [if_neg hx] at h
      refine spc_no r (acc ++ [x]) (fun y hy => ?_) p h
      rcases List.mem_append.mp hy with z | z
      · exact ha y z
      · rw [List.mem_singleton.mp z]
        exact hx
theorem spc_app : ∀ (p acc q : List Nat), no32 p → spc 32 acc (p ++ 32 :: q) = (acc ++ p) :: spc 32 [] q
  | [], acc, q, _ => by
    rw [List.nil_append, spc, if_pos rfl, List.append_nil]
  | x :: r, acc, q, h => by
    obtain ⟨hx, hr⟩ := no32_cons h
    rw [List.cons_append, spc, if_neg hx, spc_app r (acc ++ [x]) q hr, List.append_assoc]
    rfl
theorem spc_one : ∀ (p acc : List Nat), no32 p → spc 32 acc p = [acc ++ p]
  | [], acc, _ => by rw [spc, List.append_nil]
  | x :: r, acc, h => by
    obtain ⟨hx, hr⟩ := no32_cons h
    rw [spc, if_neg hx, spc_one r (acc ++ [x]) hr, List.append_assoc]
    rfl
theorem spc_jn : ∀ {ps : List (List Nat)}, ps ≠ [] → (∀ p ∈ ps, no32 p) → spc 32 [] (jn ps) = ps
  | [], h, _ => absurd rfl h
  | [p], _, h => by
    show spc 32 [] p = [p]
    rw [spc_one p [] (h p List.mem_cons_self)]
    rfl
  | p :: q :: r, _, h => by
    show spc 32 [] (p ++ 32 :: jn (q :: r)) = _
    rw [spc_app p [] _ (h p List.mem_cons_self), spc_jn (ps := q :: r) (fun z => by cases z) (fun x hx => h x (List.mem_cons_of_mem _ hx))]
    rfl
theorem names_snoc (kv : List (Nat × List Int)) (p : List Nat) : names (kv ++ [valOf p]) = names kv ++ [p.headD 0] := by
  unfold names
  rw [List.map_append]
  rfl
theorem len_names (kv : List (Nat × List Int)) : (names kv).length = kv.length := List.length_map _
/-- the parts behind the number, the last one only begun -/
theorem fin_parts : ∀ (ini : List (List Nat)) (last : List Nat) (kv : List (Nat × List Int)), (∀ p ∈ ini, no32 p) → no32 last → kv.length < 8 →
    ((fin (.a (names kv)) (jn (ini ++ [last]))).isSome = true ↔ kv.length + ini.length < 8 ∧ ∃ kv', placeV ini kv = some kv' ∧ begVB (names kv') last = true)
  | [], last, kv, _, hl, hk => by
    show (fin (.a (names kv)) last).isSome = true ↔ _
    rw [(fin_a (names kv) last hl).1]
    exact ⟨fun h => ⟨hk, kv, rfl, h⟩, fun ⟨_, kv', h1, h2⟩ => by cases h1; exact h2⟩
  | p :: r, last, kv, hi, hl, hk => by
    have ne : r ++ [last] ≠ [] := by simp
    rw [List.cons_append, jn_cons ne, fin_app]
    obtain ⟨f1, f2, f3⟩ := fin_a (names kv) p (hi p List.mem_cons_self)
    rw [placeV, List.length_cons]
    cases hv : isValB (names kv) p with
    | true =>
      obtain ⟨acc, e, ha⟩ := f2 hv
      rw [e, if_pos rfl]
      show (fin (.v (names kv ++ [p.headD 0]) acc) (32 :: jn (r ++ [last]))).isSome = true ↔ _
      rw [fin_cons, ← names_snoc]
      have e1 : stp (.v (names (kv ++ [valOf p])) acc) 32 = if acc ≠ [] ∧ (names (kv ++ [valOf p])).length < 8 then some (.a (names (kv ++ [valOf p]))) else none := by rw [stp, if_pos rfl]
      rw [e1, len_names, List.length_append]
      show (Option.bind (if acc ≠ [] ∧ kv.length + 1 < 8 then _ else _) _).isSome = true ↔ _
      by_cases k8 : kv.length + 1 < 8
      · rw [if_pos ⟨ha, k8⟩]
        have ih := fin_parts r last (kv ++ [valOf p]) (fun q hq => hi q (List.mem_cons_of_mem _ hq)) hl (by rw [List.length_append]; exact k8)
        rw [List.length_append] at ih
        have ih : (fin (.a (names (kv ++ [valOf p]))) (jn (r ++ [last]))).isSome = true ↔ kv.length + 1 + r.length < 8 ∧ _ := ih
        show (fin (.a (names (kv ++ [valOf p]))) (jn (r ++ [last]))).isSome = true ↔ _
        rw [ih]
        constructor
        · rintro ⟨a1, a2⟩
          exact ⟨by omega, a2⟩
        · rintro ⟨a1, a2⟩
          exact ⟨by omega, a2⟩
      · rw [if_neg (fun z => k8 z.2)]
        exact ⟨fun z => (by cases z), fun z => (by omega)⟩
    | false =>
      rw [if_neg Bool.false_ne_true]
      constructor
      · intro z
        exfalso
        cases hf : fin (.a (names kv)) p with
        | none => rw [hf] at z; cases z
        | some s =>
          rw [hf] at z
          have z : (fin s (32 :: jn (r ++ [last]))).isSome = true := z
          rw [fin_cons, (f3 hv s hf).2] at z
          cases z
      · rintro ⟨_, kv', h, _⟩
        cases h
/-- whole values -/
theorem fin_whole : ∀ (qs : List (List Nat)) (kv kv' : List (Nat × List Int)), qs ≠ [] → (∀ p ∈ qs, no32 p) → kv.length + qs.length ≤ 8 → placeV qs kv = some kv' → ∃ acc, acc ≠ [] ∧ fin (.a (names kv)) (jn qs) = some (.v (names kv') acc)
  | [], _, _, h, _, _, _ => absurd rfl h
  | [p], kv, kv', _, hn, hl, h => by
    rw [placeV] at h
    cases hv : isValB (names kv) p with
    | false => rw [hv, if_neg Bool.false_ne_true] at h; cases h
    | true =>
      rw [hv, if_pos rfl, placeV] at h
      cases h
      obtain ⟨acc, e, ha⟩ := (fin_a (names kv) p (hn p List.mem_cons_self)).2.1 hv
      refine ⟨acc, ha, ?_⟩
      rw [names_snoc]
      exact e
  | p :: q :: r, kv, kv', _, hn, hl, h => by
    rw [placeV] at h
    rw [List.length_cons, List.length_cons] at hl
    cases hv : isValB (names kv) p with
    | false => rw [hv, if_neg Bool.false_ne_true] at h; cases h
    | true =>
      rw [hv, if_pos rfl] at h
      obtain ⟨acc, e, ha⟩ := (fin_a (names kv) p (hn p List.mem_cons_self)).2.1 hv
      obtain ⟨acc2, ha2, e2⟩ := fin_whole (q :: r) (kv ++ [valOf p]) kv' (fun z => by cases z) (fun x hx => hn x (List.mem_cons_of_mem _ hx)) (by rw [List.length_append, List.length_cons]; show kv.length + 1 + (r.length + 1) ≤ 8; omega) h
      refine ⟨acc2, ha2, ?_⟩
      rw [jn_cons (fun z => by cases z), fin_app, e]
      show fin (.v (names kv ++ [p.headD 0]) acc) (32 :: jn (q :: r)) = _
      rw [fin_cons, ← names_snoc]
      have e1 : stp (.v (names (kv ++ [valOf p])) acc) 32 = some (.a (names (kv ++ [valOf p]))) := by
        have l8 : (names (kv ++ [valOf p])).length < 8 := by
          rw [len_names, List.length_append]
          show kv.length + 1 < 8
          omega
        rw [stp, if_pos rfl, if_pos ⟨ha, l8⟩]
      rw [e1]
      exact e2
/-- how the law sees a line, and how a beginning -/
def placeL (cs : List Nat) : Option (Nat × List (Nat × List Int)) := placeQ (spc 32 [] cs)
def begP (cs : List Nat) : Bool :=
  if (spc 32 [] cs).length = 1 then decide (cs = []) || numS (10 ^ 18) cs
  else match placeQ (spc 32 [] cs).dropLast with
    | some (_, kv) => decide ((spc 32 [] cs).length < 10) && begVB (names kv) ((spc 32 [] cs).getLastD [])
    | none => false
theorem begP_fin (cs : List Nat) : begP cs = true ↔ (fin (.n []) cs).isSome = true := by
  unfold begP
  have hj := jn_spc cs []
  have hno := spc_no cs [] (fun y hy => absurd hy List.not_mem_nil)
  have hne := spc_ne 32 cs []
  rw [List.nil_append] at hj
  generalize spc 32 [] cs = ps at *
  cases ps with
  | nil => exact absurd rfl hne
  | cons p r =>
    have hp := hno p List.mem_cons_self
    by_cases r0 : r = []
    · subst r0
      have hj : p = cs := hj
      subst hj
      rw [if_pos (show [p].length = 1 from rfl)]
      by_cases p0 : p = []
      · subst p0
        exact ⟨fun _ => rfl, fun _ => rfl⟩
      · obtain ⟨f1, f2⟩ := fin_num hp p0
        rw [decide_eq_false p0, Bool.false_or]
        cases hs : numS (10 ^ 18) p with
        | true => rw [f1 hs]; exact ⟨fun _ => rfl, fun _ => rfl⟩
        | false => rw [f2 hs]; exact ⟨fun z => (by cases z), fun z => (by cases z)⟩
    · have hl : (p :: r).length ≠ 1 := fun z => by
        have : r.length + 1 = 1 := z
        exact r0 (List.eq_nil_of_length_eq_zero (by omega))
      rw [if_neg hl, (last_cons (p := p) r0).1, (last_cons (p := p) r0).2, ← hj, jn_cons r0, fin_app]
      obtain ⟨ini, z, rfl⟩ : ∃ ini z, r = ini ++ [z] := ⟨_, _, (List.dropLast_concat_getLast r0).symm⟩
      have elast : (ini ++ [z]).getLastD [] = z := by simp
      rw [List.dropLast_concat, elast]
      have len1 : (p :: (ini ++ [z])).length = ini.length + 2 := by
        rw [List.length_cons, List.length_append]
        rfl
      rw [len1]
      have fp := fin_parts ini z [] (fun q hq => hno q (List.mem_cons_of_mem _ (List.mem_append.mpr (.inl hq)))) (hno z (by simp)) (by decide)
      have fp : (fin (.a []) (jn (ini ++ [z]))).isSome = true ↔ 0 + ini.length < 8 ∧ ∃ kv', placeV ini [] = some kv' ∧ begVB (names kv') z = true := fp
      unfold placeQ
      show (match (if (numS (10 ^ 18) p && decide (ini.length + 1 ≤ 9)) = true then (placeV ini []).map fun kv => (digitsVal p, kv) else none) with | some (_, kv) => _ | none => false) = true ↔ _
      by_cases p0 : p = []
      · subst p0
        rw [numS_nil, Bool.false_and, if_neg Bool.false_ne_true]
        exact ⟨fun z => (by cases z), fun z => (by cases z)⟩
      · obtain ⟨f1, f2⟩ := fin_num hp p0
        cases hs : numS (10 ^ 18) p with
        | false =>
          rw [Bool.false_and, if_neg Bool.false_ne_true, f2 hs]
          exact ⟨fun z => (by cases z), fun z => (by cases z)⟩
        | true =>
          rw [f1 hs, Bool.true_and]
          have e1 : ((some (PSt.n p)).bind fun s' => fin s' (32 :: jn (ini ++ [z]))) = fin (.a []) (jn (ini ++ [z])) := by
            show fin (.n p) (32 :: jn (ini ++ [z])) = _
            rw [fin_cons]
            have : stp (.n p) 32 = some (.a []) := by rw [stp, if_pos rfl, if_pos p0]
            rw [this]
            rfl
          rw [e1, fp]
          by_cases i9 : ini.length + 1 ≤ 9
          · rw [if_pos (decide_eq_true i9)]
            cases hq : placeV ini [] with
            | none => exact ⟨fun z => (by cases z), fun ⟨_, kv', h, _⟩ => (by cases h)⟩
            | some kv' =>
              show (decide (ini.length + 2 < 10) && begVB (names kv') z) = true ↔ _
              rw [Bool.and_eq_true, decide_eq_true_eq]
              constructor
              · rintro ⟨a1, a2⟩
                exact ⟨by omega, kv', rfl, a2⟩
              · rintro ⟨a1, kv2, h, a2⟩
                cases h
                exact ⟨by omega, a2⟩
          · rw [if_neg (fun z => i9 (of_decide_eq_true z))]
            exact ⟨fun z => (by cases z), fun z => (by omega)⟩
theorem placeL_fin {cs : List Nat} {x : Nat × List (Nat × List Int)} (h : placeL cs = some x) : ∃ s, fin (.n []) cs = some s ∧ comp s := by
  unfold placeL placeQ at h
  have hj := jn_spc cs []
  have hno := spc_no cs [] (fun y hy => absurd hy List.not_mem_nil)
  have hne := spc_ne 32 cs []
  rw [List.nil_append] at hj
  generalize spc 32 [] cs = ps at *
  cases ps with
  | nil => exact absurd rfl hne
  | cons p r =>
    have hp := hno p List.mem_cons_self
    have h : (if (numS (10 ^ 18) p && decide (r.length + 1 ≤ 9)) = true then (placeV r []).map fun kv => (digitsVal p, kv) else none) = some x := h
    by_cases c : (numS (10 ^ 18) p && decide (r.length + 1 ≤ 9)) = true
    · rw [if_pos c] at h
      rw [Bool.and_eq_true, decide_eq_true_eq] at c
      have p0 : p ≠ [] := (numS_iff.mp c.1).1
      have f1 := (fin_num hp p0).1 c.1
      by_cases r0 : r = []
      · subst r0
        have hj : p = cs := hj
        subst hj
        exact ⟨_, f1, p0⟩
      · rw [← hj, jn_cons r0, fin_app, f1]
        cases hq : placeV r [] with
        | none => rw [hq] at h; cases h
        | some kv' =>
          obtain ⟨acc, ha, e⟩ := fin_whole r [] kv' r0 (fun q hq => hno q (List.mem_cons_of_mem _ hq)) (by show 0 + r.length ≤ 8; omega) hq
          refine ⟨.v (names kv') acc, ?_, ha⟩
          show fin (.n p) (32 :: jn r) = _
          rw [fin_cons]
          have : stp (.n p) 32 = some (.a []) := by rw [stp, if_pos rfl, if_pos p0]
          rw [this]
          exact e
    · rw [if_neg c] at h
      cases h
theorem begP_take (cs : List Nat) (m : Nat) (hm : m ≤ cs.length) : begP (cs.take m) = decide (m ≤ runP (.n []) cs) := by
  have h := begP_fin (cs.take m)
  rw [fin_run, runP_take, List.length_take, Nat.min_eq_left hm] at h
  have h2 : (min m (runP (.n []) cs) = m) ↔ m ≤ runP (.n []) cs := by omega
  rw [h2] at h
  cases hb : begP (cs.take m) with
  | false =>
    rw [hb] at h
    rw [decide_eq_false (fun z => Bool.false_ne_true (h.mpr z))]
  | true => rw [decide_eq_true (h.mp hb)]
end Mo

namespace Mo
open PySem PySem.Spec PyProof.Rows L2
open PySem.NumText (AllDigits digitsVal)
/-! the program's way -/
theorem ne_stop (g : Nat) : ∀ (l acc : List Nat) (x : Nat), l[numEnd g acc l]? = some x → (isDig x && isNum g (acc ++ l.take (numEnd g acc l) ++ [x])) = false
  | [], acc, x, h => by
    rw [List.getElem?_nil] at h
    cases h
  | y :: r, acc, x, h => by
    rw [numEnd] at h ⊢
    by_cases d : (isDig y && isNum g (acc ++ [y])) = true
    · rw [if_pos d, Nat.add_comm 1] at h ⊢
      have h : r[numEnd g (acc ++ [y]) r]? = some x := h
      rw [List.take_succ_cons]
      have := ne_stop g r (acc ++ [y]) x h
      rw [List.append_assoc acc [y]] at this
      exact this
    · rw [if_neg d] at h ⊢
      cases h
      rw [List.take_zero, List.append_nil]
      exact Bool.eq_false_iff.mpr d
theorem spc_oneC (c : Nat) : ∀ (p acc : List Nat), (∀ x ∈ p, x ≠ c) → spc c acc p = [acc ++ p]
  | [], acc, _ => by rw [spc, List.append_nil]
  | x :: r, acc, h => by
    rw [spc, if_neg (h x List.mem_cons_self), spc_oneC c r (acc ++ [x]) (fun y hy => h y (List.mem_cons_of_mem _ hy)), List.append_assoc]
    rfl
theorem spc_appC (c : Nat) : ∀ (p acc q : List Nat), (∀ x ∈ p, x ≠ c) → spc c acc (p ++ c :: q) = (acc ++ p) :: spc c [] q
  | [], acc, q, _ => by rw [List.nil_append, spc, if_pos rfl, List.append_nil]
  | x :: r, acc, q, h => by
    rw [List.cons_append, spc, if_neg (h x List.mem_cons_self), spc_appC c r (acc ++ [x]) q (fun y hy => h y (List.mem_cons_of_mem _ hy)), List.append_assoc]
    rfl
theorem dig_ne {d : List Nat} (h : ∀ x ∈ d, isDig x = true) {c : Nat} (hc : isDig c = false) : ∀ x ∈ d, x ≠ c := fun x hx z => by
  have := h x hx
  rw [z, hc] at this
  cases this
theorem drop_split {cs : List Nat} {i m : Nat} (h : i + m ≤ cs.length) : cs.drop i = (cs.drop i).take m ++ cs.drop (i + m) := by
  rw [← List.drop_drop, List.take_append_drop]
theorem drop_at {cs : List Nat} {i x : Nat} (h : cs[i]? = some x) : cs.drop i = x :: cs.drop (i + 1) := by
  obtain ⟨hi, e⟩ := List.getElem?_eq_some_iff.mp h
  rw [List.drop_eq_getElem_cons hi, e]
theorem stop_run {s : PSt} {cs : List Nat} {e : Nat} (h : ∀ x, cs[e]? = some x → stp s x = none) : runP s (cs.drop e) = 0 := by
  cases hx : cs[e]? with
  | none =>
    have : cs.length ≤ e := List.getElem?_eq_none_iff.mp hx
    rw [List.drop_eq_nil_of_le this]
    rfl
  | some x =>
    rw [drop_at hx, runP_none (h x hx)]
theorem rd44 (us cs : List Nat) : ∀ (n i : Nat) (ls : List Int), cs.length - i ≤ n → i ≤ cs.length → ls.length + (cs.length - i) < 4095 →
    (∀ o, readL 44 cs i ls = .inl o → o = i + runP (.v us []) (cs.drop i) ∧ ∀ s, fin (.v us []) (cs.drop i) = some s → ¬ comp s) ∧
    ∀ r e, readL 44 cs i ls = .inr (r, e) → ∃ w acc, cs.drop i = w ++ cs.drop e ∧ e = i + w.length ∧ e ≤ cs.length ∧ acc ≠ [] ∧ no32 w ∧ fin (.v us []) w = some (.v us acc) ∧ r = ls ++ vals (spc 44 [] w) ∧ (spc 44 [] w).all (numS 999999) = true ∧ ∀ x, cs[e]? = some x → x ≠ 32 → stp (.v us acc) x = none
  | n, i, ls, hn, hi, hk => by
    rw [readL]
    have hle := numEnd_le 999999 (cs.drop i) []
    obtain ⟨sp1, sp2⟩ := ne_spec 999999 (cs.drop i) []
    have st := ne_stop 999999 (cs.drop i) []
    have hdl : (cs.drop i).length = cs.length - i := List.length_drop
    have hg : ∀ m, (cs.drop i)[m]? = cs[i + m]? := fun m => List.getElem?_drop
    rw [hg] at st
    rw [List.nil_append] at sp2 st
    generalize numEnd 999999 [] (cs.drop i) = m at *
    by_cases m0 : m = 0
    · subst m0
      rw [if_pos rfl]
      refine ⟨fun o h => ?_, fun r e h => (by cases h)⟩
      cases h
      have sn : ∀ x, cs[i]? = some x → stp (.v us []) x = none := fun x hx => by
        have sx := st x hx
        rw [List.take_zero, List.nil_append] at sx
        rw [stp]
        by_cases h32 : x = 32
        · rw [if_pos h32, if_neg (fun z => z.1 rfl)]
        · rw [if_neg h32]
          by_cases h44 : x = 44
          · rw [if_pos h44, if_neg (fun z => z rfl)]
          · rw [if_neg h44, List.nil_append, sx, if_neg Bool.false_ne_true]
      refine ⟨by rw [stop_run sn]; omega, fun s hs => ?_⟩
      cases hx : cs[i]? with
      | none =>
        rw [List.drop_eq_nil_of_le (List.getElem?_eq_none_iff.mp hx)] at hs
        cases hs
        exact fun z => z rfl
      | some x =>
        rw [drop_at hx, fin_cons, sn x hx] at hs
        cases hs
    · rw [if_neg m0]
      have hm : (cs.drop i).take m ≠ [] := fun z => by
        have := congrArg List.length z
        rw [List.length_take] at this
        have this : min m (cs.drop i).length = 0 := this
        omega
      have nS : numS 999999 ((cs.drop i).take m) = true := numS_iff.mpr ⟨hm, sp1, sp2 m0⟩
      have n32 : no32 ((cs.drop i).take m) := dig_ne sp1 dig32
      have n44 : ∀ x ∈ (cs.drop i).take m, x ≠ 44 := dig_ne sp1 (by decide)
      have hsp := drop_split (cs := cs) (i := i) (m := m) (by omega)
      have lm : ((cs.drop i).take m).length = m := by rw [List.length_take]; omega
      generalize (cs.drop i).take m = d at *
      have s1 := spc_oneC 44 d [] n44
      rw [List.nil_append] at s1
      have gd : gV [d] = true := by
        show (true && (decide (d = []) || numS 999999 d)) = true
        rw [nS, Bool.or_true]
        rfl
      have fd : fin (.v us []) d = some (.v us d) := by
        have := (fin_v us d [] n32 (.inl rfl)).1
        rw [s1] at this
        exact this gd
      by_cases y : cs[i + m]? = some 44
      · have hlt := (List.getElem?_eq_some_iff.mp y).1
        rw [dif_pos ⟨y, by omega⟩]
        match n, hn with
        | 0, hn => omega
        | n + 1, hn =>
          have hl1 : (ls ++ [((digitsVal d : Nat) : Int)]).length = ls.length + 1 := by rw [List.length_append]; rfl
          obtain ⟨h1, h2⟩ := rd44 us cs n (i + m + 1) (ls ++ [((digitsVal d : Nat) : Int)]) (by omega) (by omega) (by omega)
          have e44 : stp (.v us d) 44 = some (.v us []) := by rw [stp, if_neg (by decide), if_pos rfl, if_pos hm]
          have hd2 : cs.drop i = d ++ 44 :: cs.drop (i + m + 1) := by rw [hsp, drop_at y]
          have fa : ∀ t, fin (.v us []) (d ++ 44 :: t) = fin (.v us []) t := fun t => by
            rw [fin_app, fd]
            show fin (.v us d) (44 :: t) = _
            rw [fin_cons, e44]
            rfl
          have ra : runP (.v us []) (cs.drop i) = m + (1 + runP (.v us []) (cs.drop (i + m + 1))) := by
            rw [hd2, runP_app d _ _ _ fd, runP_some e44, lm]
          refine ⟨fun o h => ?_, fun r e h => ?_⟩
          · obtain ⟨a1, a2⟩ := h1 o h
            refine ⟨by omega, fun s hs => ?_⟩
            rw [hd2, fa] at hs
            exact a2 s hs
          · obtain ⟨w, acc, b1, b2, b3, b4, b5, b6, b7, b8, b9⟩ := h2 r e h
            have sw : spc 44 [] (d ++ 44 :: w) = d :: spc 44 [] w := by
              rw [spc_appC 44 d [] w n44]
              rfl
            refine ⟨d ++ 44 :: w, acc, ?_, ?_, b3, b4, fun x hx => ?_, by rw [fa]; exact b6, ?_, ?_, b9⟩
            · rw [hd2, b1, List.append_assoc]
              rfl
            · rw [List.length_append, List.length_cons]
              omega
            · rcases List.mem_append.mp hx with z | z
              · exact n32 x z
              · rcases List.mem_cons.mp z with z | z
                · rw [z]
                  decide
                · exact b5 x z
            · rw [b7, sw, vals, vals, List.map_cons, List.append_assoc]
              rfl
            · rw [sw, List.all_cons, nS, b8]
              rfl
      · rw [dif_neg (fun z => y z.1)]
        refine ⟨fun o h => (by cases h), fun r e h => ?_⟩
        cases h
        refine ⟨d, d, hsp, by rw [lm], by omega, hm, n32, fd, by rw [s1]; rfl, by rw [s1, List.all_cons, nS]; rfl, fun x hx x32 => ?_⟩
        rw [stp, if_neg x32, if_neg (fun z => y (by rw [hx, z])), st x hx, if_neg Bool.false_ne_true]
theorem any_mem {kv : List (Nat × List Int)} {c : Nat} : (kv.any fun x => x.1 == c) = decide (c ∈ names kv) := by
  unfold names
  by_cases h : c ∈ kv.map (·.1)
  · rw [decide_eq_true h, List.any_eq_true]
    obtain ⟨x, hx, e⟩ := List.mem_map.mp h
    exact ⟨x, hx, by simp [e]⟩
  · rw [decide_eq_false h, List.any_eq_false]
    intro x hx z
    exact h (List.mem_map.mpr ⟨x, hx, by simpa using z⟩)
theorem rdV_run (cs : List Nat) (i : Nat) (kv : List (Nat × List Int)) (hi : i ≤ cs.length) (hk : cs.length < 4000) :
    (∀ o, rdV cs i (fun c => kv.any fun x => x.1 == c) = .inl o → o = i + runP (.a (names kv)) (cs.drop i) ∧ ∀ s, fin (.a (names kv)) (cs.drop i) = some s → ¬ comp s) ∧
    ∀ c ls e, rdV cs i (fun c => kv.any fun x => x.1 == c) = .inr (c, ls, e) → ∃ p acc, cs.drop i = p ++ cs.drop e ∧ e = i + p.length ∧ e ≤ cs.length ∧ no32 p ∧ isValB (names kv) p = true ∧ valOf p = (c, ls) ∧ acc ≠ [] ∧ fin (.a (names kv)) p = some (.v (names kv ++ [c]) acc) ∧ ∀ x, cs[e]? = some x → x ≠ 32 → stp (.v (names kv ++ [c]) acc) x = none := by
  unfold rdV
  cases hc : cs[i]? with
  | none =>
    refine ⟨fun o h => ?_, fun c ls e h => (by cases h)⟩
    cases h
    rw [List.drop_eq_nil_of_le (List.getElem?_eq_none_iff.mp hc)]
    refine ⟨rfl, fun s hs => ?_⟩
    cases hs
    exact fun z => z
  | some c =>
    have hd := drop_at hc
    show (∀ o, (if lowB c = true ∧ (kv.any fun x => x.1 == c) = false then (if cs[i + 1]? = some 61 then (match readL 44 cs (i + 2) [] with | .inl o => .inl o | .inr (ls, e) => .inr (c, ls, e)) else .inl (i + 1)) else .inl i : Nat ⊕ (Nat × List Int × Nat)) = .inl o → _) ∧ ∀ c' ls e, (if lowB c = true ∧ (kv.any fun x => x.1 == c) = false then (if cs[i + 1]? = some 61 then (match readL 44 cs (i + 2) [] with | .inl o => .inl o | .inr (ls, e) => .inr (c, ls, e)) else .inl (i + 1)) else .inl i : Nat ⊕ (Nat × List Int × Nat)) = .inr (c', ls, e) → _
    rw [any_mem]
    have hlt := (List.getElem?_eq_some_iff.mp hc).1
    by_cases y : lowB c = true ∧ decide (c ∈ names kv) = false
    · have yb : (lowB c && !decide (c ∈ names kv)) = true := by rw [y.1, y.2]; rfl
      have sa : stp (.a (names kv)) c = some (.e (names kv ++ [c])) := by rw [stp_a, if_pos yb]
      rw [if_pos y, hd]
      by_cases z : cs[i + 1]? = some 61
      · rw [if_pos z]
        have hlt2 := (List.getElem?_eq_some_iff.mp z).1
        have hd2 := drop_at z
        have se : stp (.e (names kv ++ [c])) 61 = some (.v (names kv ++ [c]) []) := rfl
        obtain ⟨h1, h2⟩ := rd44 (names kv ++ [c]) cs cs.length (i + 2) [] (by omega) (by omega) (by show 0 + _ < 4095; omega)
        have fa : ∀ t, fin (.a (names kv)) (c :: 61 :: t) = fin (.v (names kv ++ [c]) []) t := fun t => by
          rw [fin_cons, sa]
          show fin (.e (names kv ++ [c])) (61 :: t) = _
          rw [fin_cons, se]
          rfl
        have ra : runP (.a (names kv)) (c :: cs.drop (i + 1)) = 2 + runP (.v (names kv ++ [c]) []) (cs.drop (i + 2)) := by
          rw [hd2, runP_some sa, runP_some se]
          show 1 + (1 + runP (.v (names kv ++ [c]) []) (cs.drop (i + 2))) = 2 + runP (.v (names kv ++ [c]) []) (cs.drop (i + 2))
          omega
        cases er : readL 44 cs (i + 2) [] with
        | inl o =>
          refine ⟨fun o' h => ?_, fun c' ls e h => (by cases h)⟩
          cases h
          obtain ⟨a1, a2⟩ := h1 o er
          refine ⟨by omega, fun s hs => ?_⟩
          rw [hd2] at hs
          have hs : fin (.a (names kv)) (c :: 61 :: cs.drop (i + 2)) = some s := hs
          rw [fa] at hs
          exact a2 s hs
        | inr x =>
          obtain ⟨ls, e⟩ := x
          refine ⟨fun o' h => (by cases h), fun c' ls' e' h => ?_⟩
          cases h
          obtain ⟨w, acc, b1, b2, b3, b4, b5, b6, b7, b8, b9⟩ := h2 ls e er
          have c32 : c ≠ 32 := fun q => by
            have := y.1
            rw [q, show lowB 32 = false by decide +kernel] at this
            cases this
          refine ⟨c :: 61 :: w, acc, ?_, ?_, b3, fun x hx => ?_, ?_, ?_, b4, ?_, b9⟩
          · rw [hd2]
            show c :: 61 :: cs.drop (i + 2) = _
            rw [b1]
            rfl
          · rw [List.length_cons, List.length_cons]
            omega
          · rcases List.mem_cons.mp hx with q | q
            · rw [q]
              exact c32
            · rcases List.mem_cons.mp q with q | q
              · rw [q]
                decide
              · exact b5 x q
          · show ((lowB c && !decide (c ∈ names kv)) && (decide ((61 : Nat) = 61) && (spc 44 [] w).all (numS 999999))) = true
            rw [yb, b8]
            rfl
          · unfold valOf
            rw [b7]
            rfl
          · rw [fa]
            exact b6
      · rw [if_neg z]
        refine ⟨fun o h => ?_, fun c' ls e h => (by cases h)⟩
        cases h
        have sn : ∀ x, cs[i + 1]? = some x → stp (.e (names kv ++ [c])) x = none := fun x hx => by
          rw [stp, if_neg (fun q => z (by rw [hx, q]))]
        refine ⟨by rw [runP_some sa, stop_run sn], fun s hs => ?_⟩
        rw [fin_cons, sa] at hs
        have hs : fin (.e (names kv ++ [c])) (cs.drop (i + 1)) = some s := hs
        cases hx : cs[i + 1]? with
        | none =>
          rw [List.drop_eq_nil_of_le (List.getElem?_eq_none_iff.mp hx)] at hs
          cases hs
          exact fun q => q
        | some x =>
          rw [drop_at hx, fin_cons, sn x hx] at hs
          cases hs
    · rw [if_neg y]
      refine ⟨fun o h => ?_, fun c' ls e h => (by cases h)⟩
      cases h
      have sn : stp (.a (names kv)) c = none := by
        rw [stp_a, if_neg (fun q => y ?_)]
        rw [Bool.and_eq_true] at q
        exact ⟨q.1, by simpa using q.2⟩
      rw [hd, runP_none sn, fin_cons, sn]
      exact ⟨rfl, fun s hs => by cases hs⟩
/-- parts behind a space each -/
def tails (qs : List (List Nat)) : List Nat := (qs.map (32 :: ·)).flatten
theorem tails_cons (q : List Nat) (r : List (List Nat)) : tails (q :: r) = 32 :: (q ++ tails r) := by
  unfold tails
  rw [List.map_cons, List.flatten_cons]
  rfl
theorem spc_tails : ∀ (qs : List (List Nat)) (p : List Nat), no32 p → (∀ q ∈ qs, no32 q) → spc 32 [] (p ++ tails qs) = p :: qs
  | [], p, hp, _ => by
    show spc 32 [] (p ++ []) = [p]
    rw [List.append_nil, spc_one p [] hp]
    rfl
  | q :: r, p, hp, h => by
    rw [tails_cons, spc_app p [] _ hp, spc_tails r q (h q List.mem_cons_self) (fun x hx => h x (List.mem_cons_of_mem _ hx))]
    rfl
theorem rdP_run (cs : List Nat) (hk : cs.length < 4000) : ∀ (f e : Nat) (kv : List (Nat × List Int)) (s : PSt), f + kv.length = 8 → e ≤ cs.length → comp s → (stp s 32 = if 0 < f then some (.a (names kv)) else none) → (∀ x, cs[e]? = some x → x ≠ 32 → stp s x = none) →
    (∀ o, rdP cs f e kv = .inl o → o = e + runP s (cs.drop e) ∧ ∀ s', fin s (cs.drop e) = some s' → ¬ comp s') ∧
    ∀ kv' e', rdP cs f e kv = .inr (kv', e') → e' = e + runP s (cs.drop e) ∧ e' ≤ cs.length ∧ (e' = cs.length → ∃ qs, cs.drop e = tails qs ∧ (∀ q ∈ qs, no32 q) ∧ placeV qs kv = some kv' ∧ kv.length + qs.length ≤ 8)
  | 0, e, kv, s, hf, he, hc, h32, hx => by
    refine ⟨fun o h => (by cases h), fun kv' e' h => ?_⟩
    cases h
    have sn : ∀ x, cs[e]? = some x → stp s x = none := fun x q => by
      by_cases x32 : x = 32
      · rw [x32, h32]
        rfl
      · exact hx x q x32
    refine ⟨by rw [stop_run sn]; rfl, he, fun z => ⟨[], ?_, fun q hq => absurd hq List.not_mem_nil, rfl, by show _ + 0 ≤ 8; omega⟩⟩
    rw [List.drop_eq_nil_of_le (by omega)]
    rfl
  | f + 1, e, kv, s, hf, he, hc, h32, hx => by
    show (∀ o, (if cs[e]? = some 32 then (match rdV cs (e + 1) (fun c => kv.any fun x => x.1 == c) with | .inl o => .inl o | .inr (c, ls, e2) => rdP cs f e2 (kv ++ [(c, ls)])) else .inr (kv, e) : Nat ⊕ (List (Nat × List Int) × Nat)) = .inl o → _) ∧ ∀ kv' e', (if cs[e]? = some 32 then (match rdV cs (e + 1) (fun c => kv.any fun x => x.1 == c) with | .inl o => .inl o | .inr (c, ls, e2) => rdP cs f e2 (kv ++ [(c, ls)])) else .inr (kv, e) : Nat ⊕ (List (Nat × List Int) × Nat)) = .inr (kv', e') → _
    by_cases y : cs[e]? = some 32
    · rw [if_pos y]
      have hlt := (List.getElem?_eq_some_iff.mp y).1
      have hd := drop_at y
      rw [if_pos (by omega)] at h32
      obtain ⟨v1, v2⟩ := rdV_run cs (e + 1) kv (by omega) hk
      rw [hd]
      cases er : rdV cs (e + 1) (fun c => kv.any fun x => x.1 == c) with
      | inl o =>
        refine ⟨fun o' h => ?_, fun kv' e' h => (by cases h)⟩
        cases h
        obtain ⟨a1, a2⟩ := v1 o er
        rw [runP_some h32]
        refine ⟨by omega, fun s' hs => ?_⟩
        rw [fin_cons, h32] at hs
        exact a2 s' hs
      | inr x =>
        obtain ⟨c, ls, e2⟩ := x
        obtain ⟨p, acc, b1, b2, b3, b4, b5, b6, b7, b8, b9⟩ := v2 c ls e2 er
        have nm : names (kv ++ [(c, ls)]) = names kv ++ [c] := by
          unfold names
          rw [List.map_append]
          rfl
        have lk : (kv ++ [(c, ls)]).length = kv.length + 1 := by rw [List.length_append]; rfl
        have s2 : stp (.v (names kv ++ [c]) acc) 32 = if 0 < f then some (.a (names (kv ++ [(c, ls)]))) else none := by
          rw [stp, if_pos rfl, ← nm, len_names, lk]
          by_cases f0 : 0 < f
          · rw [if_pos f0, if_pos ⟨b7, by omega⟩]
          · rw [if_neg f0, if_neg (fun z => f0 (by have := z.2; omega))]
        obtain ⟨i1, i2⟩ := rdP_run cs hk f e2 (kv ++ [(c, ls)]) (.v (names kv ++ [c]) acc) (by omega) b3 b7 s2 b9
        have ra : runP s (32 :: cs.drop (e + 1)) = 1 + (p.length + runP (.v (names kv ++ [c]) acc) (cs.drop e2)) := by
          rw [runP_some h32, b1, runP_app p _ _ _ b8]
        refine ⟨fun o h => ?_, fun kv' e' h => ?_⟩
        · obtain ⟨a1, a2⟩ := i1 o h
          refine ⟨by omega, fun s' hs => ?_⟩
          rw [fin_cons, h32] at hs
          have hs : fin (.a (names kv)) (cs.drop (e + 1)) = some s' := hs
          rw [b1, fin_app, b8] at hs
          exact a2 s' hs
        · obtain ⟨a1, a2, a3⟩ := i2 kv' e' h
          refine ⟨by omega, a2, fun z => ?_⟩
          obtain ⟨qs, c1, c2, c3, c4⟩ := a3 z
          refine ⟨p :: qs, ?_, fun q hq => ?_, ?_, ?_⟩
          · rw [tails_cons, b1, c1]
          · rcases List.mem_cons.mp hq with w | w
            · rw [w]
              exact b4
            · exact c2 q w
          · rw [placeV, if_pos b5, b6]
            exact c3
          · rw [List.length_cons]
            omega
    · rw [if_neg y]
      refine ⟨fun o h => (by cases h), fun kv' e' h => ?_⟩
      cases h
      have sn : ∀ x, cs[e]? = some x → stp s x = none := fun x q => hx x q (fun z => y (by rw [q, z]))
      refine ⟨by rw [stop_run sn]; rfl, he, fun z => ⟨[], ?_, fun q hq => absurd hq List.not_mem_nil, rfl, by show _ + 0 ≤ 8; omega⟩⟩
      rw [List.drop_eq_nil_of_le (by omega)]
      rfl
theorem prsP_told (cs : List Nat) (hk : cs.length < 4000) : (∀ o, prsP cs = .inl o → placeL cs = none ∧ o = runP (.n []) cs ∧ o ≤ cs.length) ∧ ∀ n kv, prsP cs = .inr (n, kv) → placeL cs = some (n, kv) := by
  have none_of : ∀ o, o = runP (.n []) cs → (∀ s, fin (.n []) cs = some s → ¬ comp s) → placeL cs = none ∧ o = runP (.n []) cs ∧ o ≤ cs.length := fun o h1 h2 => by
    refine ⟨?_, h1, by rw [h1]; exact runP_le _ _⟩
    cases hp : placeL cs with
    | none => rfl
    | some x =>
      obtain ⟨s, e, c⟩ := placeL_fin hp
      exact absurd c (h2 s e)
  unfold prsP
  have hle := numEnd_le (10 ^ 18) cs []
  obtain ⟨sp1, sp2⟩ := ne_spec (10 ^ 18) cs []
  have st := ne_stop (10 ^ 18) cs []
  rw [List.nil_append] at sp2 st
  generalize numEnd (10 ^ 18) [] cs = m at *
  by_cases m0 : m = 0
  · subst m0
    rw [if_pos rfl]
    refine ⟨fun o h => ?_, fun n kv h => (by cases h)⟩
    cases h
    have sn : ∀ x, cs[0]? = some x → stp (.n []) x = none := fun x hx => by
      have sx := st x hx
      rw [List.take_zero, List.nil_append] at sx
      rw [stp]
      by_cases h32 : x = 32
      · rw [if_pos h32, if_neg (fun z => z rfl)]
      · rw [if_neg h32, List.nil_append, sx, if_neg Bool.false_ne_true]
    have r0 := stop_run (e := 0) sn
    rw [List.drop_zero] at r0
    refine none_of 0 r0.symm fun s hs => ?_
    cases cs with
    | nil =>
      cases hs
      exact fun z => z rfl
    | cons x r =>
      rw [fin_cons, sn x rfl] at hs
      cases hs
  · rw [if_neg m0]
    have hm : cs.take m ≠ [] := fun z => by
      have := congrArg List.length z
      rw [List.length_take] at this
      have this : min m cs.length = 0 := this
      omega
    have nS : numS (10 ^ 18) (cs.take m) = true := numS_iff.mpr ⟨hm, sp1, sp2 m0⟩
    have n32 : no32 (cs.take m) := dig_ne sp1 dig32
    have lm : (cs.take m).length = m := by rw [List.length_take]; omega
    have fd := (fin_num n32 hm).1 nS
    have s32 : stp (.n (cs.take m)) 32 = if 0 < 8 then some (.a (names [])) else none := by rw [stp, if_pos rfl, if_pos hm, if_pos (by decide)]; rfl
    have sx : ∀ x, cs[m]? = some x → x ≠ 32 → stp (.n (cs.take m)) x = none := fun x hx x32 => by
      rw [stp, if_neg x32, st x hx, if_neg Bool.false_ne_true]
    obtain ⟨i1, i2⟩ := rdP_run cs hk 8 m [] (.n (cs.take m)) rfl hle hm s32 sx
    have ra : runP (.n []) cs = m + runP (.n (cs.take m)) (cs.drop m) := by
      have := runP_app (cs.take m) (cs.drop m) _ _ fd
      rw [List.take_append_drop, lm] at this
      exact this
    have fa : fin (.n []) cs = fin (.n (cs.take m)) (cs.drop m) := by
      have := fin_app (cs.take m) (cs.drop m) (.n [])
      rw [List.take_append_drop, fd] at this
      exact this
    cases er : rdP cs 8 m [] with
    | inl o =>
      obtain ⟨a1, a2⟩ := i1 o er
      refine ⟨fun o' h => ?_, fun n kv h => (by cases h)⟩
      cases h
      exact none_of o (by omega) fun s hs => a2 s (by rw [← fa]; exact hs)
    | inr x =>
      obtain ⟨kv, e⟩ := x
      obtain ⟨a1, a2, a3⟩ := i2 kv e er
      show (∀ o, (if e < cs.length then Sum.inl e else Sum.inr (digitsVal (cs.take m), kv) : Nat ⊕ (Nat × List (Nat × List Int))) = .inl o → _) ∧ ∀ n kv', (if e < cs.length then Sum.inl e else Sum.inr (digitsVal (cs.take m), kv) : Nat ⊕ (Nat × List (Nat × List Int))) = .inr (n, kv') → _
      by_cases he : e < cs.length
      · rw [if_pos he]
        refine ⟨fun o h => ?_, fun n kv' h => (by cases h)⟩
        cases h
        refine none_of e (by omega) fun s hs => ?_
        exfalso
        have : (fin (.n []) cs).isSome = true := by rw [hs]; rfl
        have := (fin_run cs _).mp this
        omega
      · rw [if_neg he]
        refine ⟨fun o h => (by cases h), fun n kv' h => ?_⟩
        cases h
        obtain ⟨qs, c1, c2, c3, c4⟩ := a3 (by omega)
        have esp : spc 32 [] cs = cs.take m :: qs := by
          have := spc_tails qs (cs.take m) n32 c2
          rw [← c1, List.take_append_drop] at this
          exact this
        unfold placeL placeQ
        rw [esp]
        have l9 : qs.length + 1 ≤ 9 := by
          have : 0 + qs.length ≤ 8 := c4
          omega
        show (if (numS (10 ^ 18) (cs.take m) && decide (qs.length + 1 ≤ 9)) = true then (placeV qs []).map fun kv => (digitsVal (cs.take m), kv) else none) = _
        rw [nS, decide_eq_true l9, if_pos (show (true && true) = true from rfl), c3]
        rfl
end Mo

namespace Mo
open PySem PySem.Spec PyProof.Rows L2
open PySem.NumText (AllDigits digitsVal)
theorem strs_tx (ps : List (List Nat)) : (ps.map tx).map V.str = ps.map fun p => V.str (tx p) := by
  rw [List.map_map]
  rfl
theorem filt_num {ps : List (List Nat)} : (ps.filter fun p => !numS 999999 p).isEmpty = ps.all (numS 999999) := by
  cases h : ps.all (numS 999999) with
  | true =>
    rw [List.isEmpty_iff, List.filter_eq_nil_iff]
    intro p hp
    rw [List.all_eq_true.mp h p hp]
    simp
  | false =>
    cases h2 : (ps.filter fun p => !numS 999999 p).isEmpty with
    | false => rfl
    | true =>
      rw [List.isEmpty_iff, List.filter_eq_nil_iff] at h2
      have : ps.all (numS 999999) = true := List.all_eq_true.mpr fun p hp => by simpa using h2 p hp
      rw [this] at h
      cases h
theorem cut_last (xs ys : List V) {z : V} (h : xs = ys ++ [z]) : cutV xs none (some (-1)) = ys := by
  subst h
  unfold cutV
  have e1 : HT.sIx (ys ++ [z]).length 0 none = 0 := rfl
  have e2 : HT.sIx (ys ++ [z]).length (ys ++ [z]).length (some (-1)) = ys.length := by
    show (if (-1 : Int) < 0 then ((-1 : Int) + (((ys ++ [z]).length : Nat) : Int)).toNat else min (-1 : Int).toNat (ys ++ [z]).length) = ys.length
    rw [if_pos (by decide), List.length_append]
    show ((-1 : Int) + ((ys.length + 1 : Nat) : Int)).toNat = _
    omega
  rw [e1, e2, List.drop_zero, Nat.sub_zero, List.take_left]
theorem cut_txF (zs : List Nat) (n : Nat) : cutS (tx zs) (some (n : Int)) none = tx (zs.drop n) := by
  rw [cut_tx, HT.sIx_nat, HT.sIx_none]
  rcases Nat.lt_or_ge n zs.length with h | h
  · rw [Nat.min_eq_left (Nat.le_of_lt h), List.take_of_length_le (by rw [List.length_drop]; exact Nat.le_refl _)]
  · rw [Nat.min_eq_right h, List.drop_length, List.take_nil, List.drop_eq_nil_of_le h]
theorem begVB_eq (us : List Nat) (c : Nat) (t : List Nat) : begVB us (c :: t) = ((lowB c && !decide (c ∈ us)) && (decide (t.take 1 = [] ∨ t.take 1 = [61]) && gV (spc 44 [] (t.drop 1)))) := by
  cases t with
  | nil =>
    show (lowB c && !decide (c ∈ us)) = _
    have e : (decide (([] : List Nat).take 1 = [] ∨ ([] : List Nat).take 1 = [61]) && gV (spc 44 [] (([] : List Nat).drop 1))) = true := by decide
    rw [e, Bool.and_true]
  | cons x r =>
    show ((lowB c && !decide (c ∈ us)) && (decide (x = 61) && gV (spc 44 [] r))) = ((lowB c && !decide (c ∈ us)) && (decide ([x] = [] ∨ [x] = [61]) && gV (spc 44 [] r)))
    have e : decide ([x] = [] ∨ [x] = [61]) = decide (x = 61) := by
      by_cases h : x = 61
      · subst h
        decide
      · rw [decide_eq_false h, decide_eq_false (fun z => z.elim (fun q => by cases q) (fun q => h (List.cons.inj q).1))]
    rw [e]
section
variable {P : Program} {w : World} {K : PySem.W.Frag} {mg : Str → Option Value} {base : Heap}
/-- a part that is a value of a new variable -/
def spIsV : Sp := fun vs H Q _ => ∃ (p : List Nat) (d : Addr) (kvs : List (Key × V)) (kv : List (Nat × List Int)), vs = [.str (tx p), .ref d] ∧ p.length ≤ 5000 ∧ H d = some (.dK kvs) ∧ PVs H kvs kv ∧ ∀ H', Same H H' → Q (.bl (isValB (names kv) p)) H'
theorem ok_isv {k : Nat} (T : Txt K mg) : FnOk P w K mg base CX0 (k + 2) T.aLIsValue T.dLIsValue ["_law_part", "_law_used"] spIsV := by
  have GLIsNumber : FnOk P w K mg base CX0 (k + 1) T.aLIsNumber T.dLIsNumber ["_law_string", "_law_most"] spLNum := ok_lnum T
  refine T.fLIsValue.ok scLIsValue (fun vs H Q E h => ?_) (fun cdv A outer s H vs Q E hr h => ?_)
  · obtain ⟨_, _, _, _, rfl, _⟩ := h
    rfl
  · obtain ⟨p, d, kvs, kv, rfl, hl, hd, hpv, q⟩ := h
    have hu := hu_of hr
    refine ⟨_, (pss_cons (ps_if (PW.pt (pw_or (pt_cmpR op_lt (pe_callB call_len_str (by rfl) T.m_len PySem.boot_len (pa_cons (pv 0) pa_nil)) pe_int (nomark _)) (pw_or (pt_cmpR op_notIn_sign (pe_ix ix_str (pv 0) pe_int (fun _ _ => rfl)) pe_str rfl) (pw_or (pt_cmp (pc_din hu (pe_ix ix_str (pv 0) pe_int (fun _ _ => rfl)) (pv 1))) (pw_or1 (pt_cmpR op_ne (pe_ix ix_str (pv 0) pe_int (fun _ _ => rfl)) pe_str (nomark _))))))) (pss_one (ps_ret pe_bl)) pss_nil)
      (pss_one (ps_ret (pe_cmpR (Mo.op_eqNil hr.units) (pe_lc (own := [("_law_one", 2)]) (g := gName 2) rfl scLIsValue.nd (pi_list (pe_split (pe_slice sl_str (pv 0) (po_some pe_int) po_none) pe_str)) (blkOk_by (N := ["_law_part", "_law_used", "_law_one"]) (sc := defScope sLIsValue) (by decide +kernel)) (fun _ _ _ _ _ => pg_name (i := 2) scLIsValue.nd rfl (Or.inl rfl)) (fun _ _ _ _ _ => pts_one (pt_not (pt_val (pe_call GLIsNumber hr (by rfl) T.gLIsNumber T.fLIsNumber.kp T.bLIsNumber .nil pass0 (pa_cons (pv 2) (pa_cons pe_int pa_nil)))))) (fun _ _ _ _ _ => (pv 2))) (pe_lst pa_nil) (nomark _))))), ?_⟩
    have sz : ∀ m, m ≤ 300000 → m ≤ sizeLine := fun m hm => Nat.le_trans hm (by decide)
    have szp : (tx p).length ≤ sizeLine := sz _ (by rw [tx_len]; omega)
    by_cases l3 : p.length < 3
    · refine ⟨_, rfl, _, rfl, szp, _, _, rfl, rfl, true, congrArg V.bl (decide_eq_true (by rw [tx_len]; omega)), iteT ?_⟩
      have : isValB (names kv) p = false := by
        match p, l3 with
        | [], _ => rfl
        | [c], _ => rfl
        | [c, x], _ =>
          show ((lowB c && !decide (c ∈ names kv)) && (decide (x = 61) && false)) = false
          rw [Bool.and_false, Bool.and_false]
        | c :: x :: y :: r, h => exact absurd h (by simp)
      have q0 := q H (Same.refl H)
      rw [this] at q0
      exact q0
    refine ⟨_, rfl, _, rfl, szp, _, _, rfl, rfl, false, congrArg V.bl (decide_eq_false (by rw [tx_len]; omega)), iteF ?_⟩
    obtain ⟨c, x, r, rfl⟩ : ∃ c x r, p = c :: x :: r := by
      match p, l3 with
      | [], h => exact absurd (by decide) h
      | [c], h => exact absurd (by simp) h
      | c :: x :: r, _ => exact ⟨c, x, r, rfl⟩
    have q0 := q H (Same.refl H)
    have eV : isValB (names kv) (c :: x :: r) = ((lowB c && !decide (c ∈ names kv)) && (decide (x = 61) && (spc 44 [] r).all (numS 999999))) := rfl
    rw [eV] at q q0
    refine ⟨_, rfl, tx (c :: x :: r), 0, c, rfl, rfl, szp, atI_nat (j := 0) rfl, c, _, rfl, rfl, !lowB c, rfl, ?_⟩
    cases hlow : lowB c with
    | false =>
      rw [hlow] at q0
      exact iteT q0
    | true =>
      rw [hlow, Bool.true_and] at q q0
      refine iteF ⟨_, rfl, tx (c :: x :: r), 0, c, rfl, rfl, szp, atI_nat (j := 0) rfl, _, rfl, d, _, rfl, DGet.k (k := kSg c) hd, decide (c ∈ names kv), by rw [hpv.kn c, any_mem], ?_⟩
      by_cases hc : c ∈ names kv
      · rw [decide_eq_true hc] at q0 ⊢
        exact iteT q0
      · rw [decide_eq_false hc] at q q0 ⊢
        rw [Bool.not_false, Bool.true_and] at q q0
        refine iteF ⟨_, rfl, tx (c :: x :: r), 1, x, rfl, rfl, szp, atI_nat (j := 1) rfl, rfl, ?_⟩
        have e61 : V.str (⟨#[x]⟩ : Str) = V.str (Str.ofString "=") ↔ x = 61 := ⟨fun z => by
          rw [tx61] at z
          have := tx_inj (a := [x]) (b := [61]) (V.str.inj z)
          cases this
          rfl, fun z => by rw [z, tx61]; rfl⟩
        by_cases h61 : x = 61
        · rw [decide_eq_true h61, Bool.true_and] at q
          refine ⟨false, congrArg V.bl (by rw [decide_eq_true (e61.mpr h61)]; rfl), iteF ?_⟩
          have ec : cutS (tx (c :: x :: r)) (some 2) none = tx r := cut_txF (c :: x :: r) 2
          refine ⟨_, rfl, _, rfl, tx (c :: x :: r), rfl, szp, ⟨_, rfl⟩, tx r, _, congrArg V.str ec, rfl, by decide +kernel, sz _ (by rw [tx_len]; simp only [List.length_cons] at hl; omega), fun l nl => ?_⟩
          rw [tx44, split_tx 44 (by decide) r, strs_tx]
          have hps := spc_len 44 r []
          simp only [List.length_cons] at hl
          have hsub : ∀ p ∈ spc 44 [] r, p.length ≤ 100000 := fun p hp => by
            have := (spc_sub 44 r [] p hp).1
            have : p.length ≤ 0 + r.length := this
            omega
          generalize spc 44 [] r = ps at *
          have s1 := same_new (o := .lst (ps.map fun p => V.str (tx p))) nl
          have hl1 : upd H l (.lst (ps.map fun p => V.str (tx p))) l = some (.lst (ps.map fun p => V.str (tx p))) := upd_same
          generalize upd H l (.lst (ps.map fun p => V.str (tx p))) = H1 at *
          refine ⟨l, rfl, ⟨_, SqL.of hl1⟩, fun D nD => lc_it (walk_list (xs := ps.map fun p => V.str (tx p))) (fun i H' => Same H1 H' ∧ H' D = some (.lst (((ps.take i).filter fun p => !numS 999999 p).map fun p => V.str (tx p)))) ?_ ?_ ?_ ?_⟩
          · exact ⟨same_new nD, upd_same⟩
          · exact fun i H' _ h => SqL.of (h.1 _ _ hl1)
          · rintro i v H3 H4 hi ⟨s3, hD⟩ ⟨rfl, hv⟩
            rw [List.getElem?_map] at hv
            cases en : ps[i]? with
            | none => rw [en] at hv; cases hv
            | some p =>
              rw [en] at hv
              cases hv
              refine ⟨rfl, _, rfl, p, 999999, rfl, hsub p (List.mem_of_getElem? en), by decide, fun H5 s5 => ?_⟩
              have hD5 := s5 _ _ hD
              refine ⟨numS 999999 p, rfl, ?_⟩
              cases hb : numS 999999 p with
              | true =>
                refine iteF ⟨s3.trans s5, ?_⟩
                rw [hD5, List.take_add_one, en]
                simp [hb]
              | false =>
                refine iteT ⟨_, rfl, _, hD5, fitsLt (by rw [List.length_map]; have hz := List.length_filter_le (fun p => !numS 999999 p) (ps.take i); rw [List.length_take] at hz; omega), Same.put (s3.trans s5) nD, ?_⟩
                rw [upd_same, List.take_add_one, en]
                simp [hb]
          · rintro H3 ⟨s3, hD⟩
            rw [List.length_map, List.take_length] at hD
            refine ⟨Nat.zero_le _, fun e ne => ?_⟩
            have s4 := same_new (o := .lst []) ne
            refine ⟨_, _, _, rfl, rfl, SqL.of (s4 _ _ hD), SqL.of upd_same, ?_⟩
            rw [List.isEmpty_map, filt_num]
            exact q _ ((s1.trans s3).trans s4)
        · refine ⟨true, congrArg V.bl (by rw [decide_eq_false (fun z => h61 (e61.mp z))]; rfl), iteT ?_⟩
          rw [decide_eq_false h61, Bool.false_and] at q0
          exact q0
/-- a part that begins one -/
theorem ok_begv {k : Nat} (T : Txt K mg) : FnOk P w K mg base CX0 (k + 2) T.aLBeginsValue T.dLBeginsValue ["_law_part", "_law_used"] (fun vs H Q _ => ∃ (p : List Nat) (d : Addr) (kvs : List (Key × V)) (kv : List (Nat × List Int)), vs = [.str (tx p), .ref d] ∧ p.length ≤ 5000 ∧ H d = some (.dK kvs) ∧ PVs H kvs kv ∧ ∀ H', Same H H' → Q (.bl (begVB (names kv) p)) H') := by
  have GLIsNumber : FnOk P w K mg base CX0 (k + 1) T.aLIsNumber T.dLIsNumber ["_law_string", "_law_most"] spLNum := ok_lnum T
  refine T.fLBeginsValue.ok scLBeginsValue (fun vs H Q E h => ?_) (fun cdv A outer s H vs Q E hr h => ?_)
  · obtain ⟨_, _, _, _, rfl, _⟩ := h
    rfl
  · obtain ⟨p, d, kvs, kv, rfl, hl, hd, hpv, q⟩ := h
    have hu := hu_of hr
    refine ⟨_, (pss_cons (ps_if (pt_cmpR op_eq (pv 0) pe_str (nomark _)) (pss_one (ps_ret pe_bl)) pss_nil)
      (pss_cons (ps_if (PW.pt (pw_or (pt_cmpR op_notIn_sign (pe_ix ix_str (pv 0) pe_int (fun _ _ => rfl)) pe_str rfl) (pw_or (pt_cmp (pc_din hu (pe_ix ix_str (pv 0) pe_int (fun _ _ => rfl)) (pv 1))) (pw_or1 (pt_cmpR op_notIn_seq (pe_slice sl_str (pv 0) (po_some pe_int) (po_some pe_int)) (pe_tup (pa_cons pe_str (pa_cons pe_str pa_nil))) rfl))))) (pss_one (ps_ret pe_bl)) pss_nil)
      (pss_cons (ps_set (i := 2) scLBeginsValue.nd rfl (Or.inl rfl) (pe_split (pe_slice sl_str (pv 0) (po_some pe_int) po_none) pe_str))
      (pss_cons (ps_if (pt_cmpR (Mo.op_neNil hr.units) (pe_lc (own := [("_law_one", 3)]) (g := gName 3) rfl scLBeginsValue.nd (pi_list (pe_slice sl_list (pv 2) po_none (po_some (pe_un un_neg pe_int)))) (blkOk_by (N := ["_law_part", "_law_used", "_law_numbers", "_law_one"]) (sc := defScope sLBeginsValue) (by decide +kernel)) (fun _ _ _ _ _ => pg_name (i := 3) scLBeginsValue.nd rfl (Or.inl rfl)) (fun _ _ _ _ _ => pts_one (pt_not (pt_val (pe_call GLIsNumber hr (by rfl) T.gLIsNumber T.fLIsNumber.kp T.bLIsNumber .nil pass0 (pa_cons (pv 3) (pa_cons pe_int pa_nil)))))) (fun _ _ _ _ _ => (pv 3))) (pe_lst pa_nil) (nomark _)) (pss_one (ps_ret pe_bl)) pss_nil)
      (pss_one (ps_ret (pe_or (pe_cmpR op_eq (pe_ix ix_list (pv 2) (pe_un un_neg pe_int) (fun _ _ => rfl)) pe_str (nomark _)) (pe_one (pe_call GLIsNumber hr (by rfl) T.gLIsNumber T.fLIsNumber.kp T.bLIsNumber .nil pass0 (pa_cons (pe_ix ix_list (pv 2) (pe_un un_neg pe_int) (fun _ _ => rfl)) (pa_cons pe_int pa_nil))))))))))), ?_⟩
    have sz : ∀ m, m ≤ 300000 → m ≤ sizeLine := fun m hm => Nat.le_trans hm (by decide)
    have szp : (tx p).length ≤ sizeLine := sz _ (by rw [tx_len]; omega)
    by_cases p0 : p = []
    · subst p0
      refine ⟨_, rfl, rfl, true, congrArg V.bl (decide_eq_true (by rw [txE])), iteT ?_⟩
      exact q H (Same.refl H)
    refine ⟨_, rfl, rfl, false, congrArg V.bl (decide_eq_false (fun z => p0 (tx_inj (by rw [← txE]; exact V.str.inj z)))), iteF ?_⟩
    obtain ⟨c, t, rfl⟩ : ∃ c t, p = c :: t := by
      cases p with
      | nil => exact absurd rfl p0
      | cons c t => exact ⟨c, t, rfl⟩
    have q0 := q H (Same.refl H)
    rw [begVB_eq] at q q0
    refine ⟨_, rfl, tx (c :: t), 0, c, rfl, rfl, szp, atI_nat (j := 0) rfl, c, _, rfl, rfl, !lowB c, rfl, ?_⟩
    cases hlow : lowB c with
    | false =>
      rw [hlow] at q0
      exact iteT q0
    | true =>
      rw [hlow, Bool.true_and] at q q0
      refine iteF ⟨_, rfl, tx (c :: t), 0, c, rfl, rfl, szp, atI_nat (j := 0) rfl, _, rfl, d, _, rfl, DGet.k (k := kSg c) hd, decide (c ∈ names kv), by rw [hpv.kn c, any_mem], ?_⟩
      by_cases hc : c ∈ names kv
      · rw [decide_eq_true hc] at q0 ⊢
        exact iteT q0
      · rw [decide_eq_false hc] at q q0 ⊢
        rw [Bool.not_false, Bool.true_and] at q q0
        have e12 : cutS (tx (c :: t)) (some 1) (some 2) = tx (t.take 1) := cut_tx1 (c :: t) (a := 1) (by simp)
        refine iteF ⟨_, rfl, _, rfl, _, rfl, tx (c :: t), rfl, szp, by show 2 ≤ sizeLine; decide, fun tt ntt => ?_⟩
        have s0 := same_new (o := .tup [V.str (Str.ofString ""), V.str (Str.ofString "=")]) ntt
        have hin : (!inV (V.str (cutS (tx (c :: t)) (some 1) (some 2))) [V.str (Str.ofString ""), V.str (Str.ofString "=")]) = !decide (t.take 1 = [] ∨ t.take 1 = [61]) := by
          rw [e12]
          show (!(Str.ofString "" == tx (t.take 1) || (Str.ofString "=" == tx (t.take 1) || false))) = _
          rw [txE, tx61, Bool.or_false]
          have e1 : (tx [] == tx (t.take 1)) = decide (t.take 1 = []) := by
            by_cases h : t.take 1 = []
            · rw [h, decide_eq_true rfl]
              exact beq_self_eq_true _
            · rw [decide_eq_false h]
              exact beq_false_of_ne fun z => h (tx_inj z).symm
          have e2 : (tx [61] == tx (t.take 1)) = decide (t.take 1 = [61]) := by
            by_cases h : t.take 1 = [61]
            · rw [h, decide_eq_true rfl]
              exact beq_self_eq_true _
            · rw [decide_eq_false h]
              exact beq_false_of_ne fun z => h (tx_inj z).symm
          rw [e1, e2, Bool.decide_or]
        refine ⟨tt, _, rfl, .inr (SqT.of upd_same), rfl, rfl, !decide (t.take 1 = [] ∨ t.take 1 = [61]), congrArg V.bl hin, ?_⟩
        generalize upd H tt (.tup [V.str (Str.ofString ""), V.str (Str.ofString "=")]) = H0 at *
        by_cases d0 : t.take 1 = [] ∨ t.take 1 = [61]
        · rw [decide_eq_true d0, Bool.true_and] at q
          rw [decide_eq_true d0]
          refine iteF ?_
          have ec : cutS (tx (c :: t)) (some 2) none = tx (t.drop 1) := cut_txF (c :: t) 2
          have hl : t.length + 1 ≤ 5000 := hl
          refine ⟨_, rfl, _, rfl, tx (c :: t), rfl, szp, ⟨_, rfl⟩, tx (t.drop 1), _, congrArg V.str ec, rfl, by decide +kernel, sz _ (by rw [tx_len, List.length_drop]; omega), fun l nl => ?_⟩
          rw [tx44, split_tx 44 (by decide) (t.drop 1), strs_tx]
          have hps := spc_len 44 (t.drop 1) []
          rw [List.length_drop] at hps
          have hsub : ∀ p ∈ spc 44 [] (t.drop 1), p.length ≤ 100000 := fun p hp => by
            have := (spc_sub 44 (t.drop 1) [] p hp).1
            have : p.length ≤ 0 + (t.drop 1).length := this
            rw [List.length_drop] at this
            omega
          have hne := spc_ne 44 (t.drop 1) []
          generalize spc 44 [] (t.drop 1) = ps at *
          obtain ⟨qs, z, rfl⟩ : ∃ qs z, ps = qs ++ [z] := ⟨_, _, (List.dropLast_concat_getLast hne).symm⟩
          have elast : (qs ++ [z]).getLastD [] = z := by simp
          unfold gV at q
          rw [List.dropLast_concat, elast] at q
          have s1 := same_new (o := .lst ((qs ++ [z]).map fun p => V.str (tx p))) nl
          have hl1 : upd H0 l (.lst ((qs ++ [z]).map fun p => V.str (tx p))) l = some (.lst ((qs ++ [z]).map fun p => V.str (tx p))) := upd_same
          have s01 := s0.trans s1
          generalize upd H0 l (.lst ((qs ++ [z]).map fun p => V.str (tx p))) = H1 at *
          refine ⟨_, rfl, 1, rfl, _, rfl, l, _, rfl, SqL.of hl1, fun u nu => ?_⟩
          have ecut : cutV ((qs ++ [z]).map fun p => V.str (tx p)) none (some (-1)) = qs.map fun p => V.str (tx p) := cut_last _ _ (by rw [List.map_append]; rfl)
          have hu2 : upd H1 u (.lst (cutV ((qs ++ [z]).map fun p => V.str (tx p)) none (some (-1)))) u = some (.lst (qs.map fun p => V.str (tx p))) := by rw [ecut]; exact upd_same
          have s2 : Same H1 (upd H1 u (.lst (cutV ((qs ++ [z]).map fun p => V.str (tx p)) none (some (-1))))) := same_new nu
          refine ⟨u, rfl, ⟨_, SqL.of hu2⟩, ?_⟩
          generalize upd H1 u (.lst (cutV ((qs ++ [z]).map fun p => V.str (tx p)) none (some (-1)))) = H2 at *
          have hl2 := s2 _ _ hl1
          rw [List.length_append] at hps
          have hps : qs.length + 1 ≤ t.length - 1 + 1 := hps
          refine fun D nD => lc_it (walk_list (xs := qs.map fun p => V.str (tx p))) (fun i H' => Same H2 H' ∧ H' D = some (.lst (((qs.take i).filter fun p => !numS 999999 p).map fun p => V.str (tx p)))) ?_ ?_ ?_ ?_
          · exact ⟨same_new nD, upd_same⟩
          · exact fun i H' _ h => SqL.of (h.1 _ _ hu2)
          · rintro i v H3 H4 hi ⟨s3, hD⟩ ⟨rfl, hv⟩
            rw [List.getElem?_map] at hv
            cases en : qs[i]? with
            | none => rw [en] at hv; cases hv
            | some p =>
              rw [en] at hv
              cases hv
              refine ⟨rfl, _, rfl, p, 999999, rfl, hsub p (List.mem_append.mpr (.inl (List.mem_of_getElem? en))), by decide, fun H5 s5 => ?_⟩
              have hD5 := s5 _ _ hD
              refine ⟨numS 999999 p, rfl, ?_⟩
              cases hb : numS 999999 p with
              | true =>
                refine iteF ⟨s3.trans s5, ?_⟩
                rw [hD5, List.take_add_one, en]
                simp [hb]
              | false =>
                refine iteT ⟨_, rfl, _, hD5, fitsLt (by rw [List.length_map]; have hz := List.length_filter_le (fun p => !numS 999999 p) (qs.take i); rw [List.length_take] at hz; omega), Same.put (s3.trans s5) nD, ?_⟩
                rw [upd_same, List.take_add_one, en]
                simp [hb]
          · rintro H3 ⟨s3, hD⟩
            rw [List.length_map, List.take_length] at hD
            refine ⟨Nat.zero_le _, fun e ne => ?_⟩
            have s4 := same_new (o := .lst []) ne
            refine ⟨_, _, _, rfl, rfl, SqL.of (s4 _ _ hD), SqL.of upd_same, !qs.all (numS 999999), by rw [List.isEmpty_map, filt_num], ?_⟩
            have s04 := (s01.trans s2).trans (s3.trans s4)
            have hl4 := (s3.trans s4) _ _ hl2
            generalize upd H3 e (.lst []) = H4 at *
            cases ha : qs.all (numS 999999) with
            | false =>
              rw [ha, Bool.false_and] at q
              exact iteT (q _ s04)
            | true =>
              rw [ha, Bool.true_and] at q
              refine iteF ?_
              have hat : atI ((qs ++ [z]).map fun p => V.str (tx p)) (-1) = some (V.str (tx z)) := by
                rw [List.map_append]
                exact atI_last _ _
              refine ⟨_, rfl, 1, rfl, l, _, _, _, rfl, rfl, SqL.of hl4, hat, rfl, decide (z = []), ?_, ?_⟩
              · refine congrArg V.bl ?_
                by_cases h : z = []
                · rw [decide_eq_true h, decide_eq_true (by rw [h, txE])]
                · rw [decide_eq_false h, decide_eq_false (fun y => h (tx_inj (by rw [← txE]; exact V.str.inj y)))]
              · by_cases h : z = []
                · rw [decide_eq_true h, Bool.true_or] at q
                  rw [decide_eq_true h]
                  exact iteT (q _ s04)
                · rw [decide_eq_false h, Bool.false_or] at q
                  rw [decide_eq_false h]
                  refine iteF ⟨_, rfl, 1, rfl, l, _, _, _, rfl, rfl, SqL.of hl4, hat, z, 999999, rfl, hsub z (by simp), by decide, fun H5 s5 => ?_⟩
                  exact q _ (s04.trans s5)
        · rw [decide_eq_false d0, Bool.false_and] at q
          rw [decide_eq_false d0]
          exact iteT (q _ s0)
end
end Mo

namespace Mo
open PySem PySem.Spec PyProof.Rows L2
open PySem.NumText (AllDigits digitsVal)
theorem cut_tail (xs : List V) (x : V) : cutV (x :: xs) (some 1) none = xs := by
  unfold cutV
  have e1 : HT.sIx (x :: xs).length 0 (some 1) = 1 := by
    show (if (1 : Int) < 0 then ((1 : Int) + (((x :: xs).length : Nat) : Int)).toNat else min (1 : Int).toNat (x :: xs).length) = 1
    rw [if_neg (by decide), List.length_cons]
    show min 1 (xs.length + 1) = 1
    omega
  have e2 : HT.sIx (x :: xs).length (x :: xs).length none = (x :: xs).length := rfl
  rw [e1, e2, List.drop_succ_cons, List.drop_zero, List.length_cons, Nat.add_sub_cancel, List.take_length]
theorem drop_of_get {α : Type} {l : List α} {i : Nat} {x : α} (h : l[i]? = some x) : l.drop i = x :: l.drop (i + 1) := by
  obtain ⟨hi, e⟩ := List.getElem?_eq_some_iff.mp h
  rw [List.drop_eq_getElem_cons hi, e]
section
variable {P : Program} {w : World} {K : PySem.W.Frag} {mg : Str → Option Value} {base : Heap}
/-- the place that a line writes -/
def spOfP : Sp := fun vs H Q _ => ∃ cs : List Nat, vs = [.str (tx cs)] ∧ cs.length ≤ 5000 ∧ (placeL cs = none → ∀ H', Same H H' → Q .non H') ∧
  ∀ n kv, placeL cs = some (n, kv) → ∀ H' r d kvs, Same H H' → H d = none → H' r = some (.tup [.int ((n : Nat) : Int), .ref d]) → H' d = some (.dK kvs) → PVs H' kvs kv → Q (.ref r) H'
theorem ok_ofP {k : Nat} (T : Txt K mg) : FnOk P w K mg base CX0 (k + 3) T.aLPlaceOf T.dLPlaceOf ["_law_line"] spOfP := by
  have GLIsNumber : FnOk P w K mg base CX0 (k + 2) T.aLIsNumber T.dLIsNumber ["_law_string", "_law_most"] spLNum := ok_lnum T
  have GLIsValue : FnOk P w K mg base CX0 (k + 2) T.aLIsValue T.dLIsValue ["_law_part", "_law_used"] spIsV := ok_isv T
  refine T.fLPlaceOf.ok scLPlaceOf (fun vs H Q E h => ?_) (fun cdv A outer s H vs Q E hr h => ?_)
  · obtain ⟨_, rfl, _⟩ := h
    rfl
  · obtain ⟨cs, rfl, hl, q1, q2⟩ := h
    have hu := hu_of hr
    refine ⟨_, (pss_cons (ps_set (i := 1) scLPlaceOf.nd rfl (Or.inl rfl) (pe_split (pv 0) pe_str))
      (pss_cons (ps_if (PW.pt (pw_or (pt_not (pt_val (pe_call GLIsNumber hr (by rfl) T.gLIsNumber T.fLIsNumber.kp T.bLIsNumber .nil pass0 (pa_cons (pe_ix ix_list (pv 1) pe_int (fun _ _ => rfl)) (pa_cons (pe_op op_pow pe_int pe_int) pa_nil))))) (pw_or1 (pt_cmpR op_gt (pe_callB call_len_seq (by rfl) T.m_len PySem.boot_len (pa_cons (pv 1) pa_nil)) pe_int (nomark _))))) (pss_one (ps_ret pe_non)) pss_nil)
      (pss_cons (ps_set (i := 2) scLPlaceOf.nd rfl (Or.inl rfl) pe_dnewK)
      (pss_cons (ps_for PassesOwn.never rfl (pi_list (pe_slice sl_list (pv 1) (po_some pe_int) po_none)) (pg_name (i := 3) scLPlaceOf.nd rfl (Or.inl rfl)) (pss_cons (ps_if (pt_not (pt_val (pe_call GLIsValue hr (by rfl) T.gLIsValue T.fLIsValue.kp T.bLIsValue .nil pass0 (pa_cons (pv 3) (pa_cons (pv 2) pa_nil))))) (pss_one (ps_ret pe_non)) pss_nil)
      (pss_one (ps_dput hu (pv 2) (pe_ix ix_str (pv 3) pe_int (fun _ _ => rfl)) (pe_callTy call_tuple_of (by rfl) T.m_tuple (by decide +kernel) (pa_cons (pe_lc (own := [("_law_one", 4)]) (g := gName 4) (tt := tYes) rfl scLPlaceOf.nd (pi_list (pe_split (pe_slice sl_str (pv 3) (po_some pe_int) po_none) pe_str)) (blkOk_by (N := ["_law_line", "_law_parts", "_law_values", "_law_part", "_law_one"]) (sc := defScope sLPlaceOf) (by decide +kernel)) (fun _ _ _ _ _ => pg_name (i := 4) scLPlaceOf.nd rfl (Or.inl rfl)) (fun _ _ _ _ _ => pts_nil) (fun _ _ _ _ _ => (pe_callTy call_int_str (by rfl) T.m_int (by decide +kernel) (pa_cons (pv 4) pa_nil)))) pa_nil)) rfl))))
      (pss_one (ps_ret (pe_tup (pa_cons (pe_callTy call_int_str (by rfl) T.m_int (by decide +kernel) (pa_cons (pe_ix ix_list (pv 1) pe_int (fun _ _ => rfl)) pa_nil)) (pa_cons (pv 2) pa_nil))))))))), ?_⟩
    have sz : ∀ m, m ≤ 300000 → m ≤ sizeLine := fun m hm => Nat.le_trans hm (by decide)
    refine ⟨_, rfl, ⟨_, rfl⟩, _, _, rfl, rfl, by decide +kernel, sz _ (by rw [tx_len]; omega), fun l nl => ?_⟩
    rw [show Str.ofString " " = tx [32] by decide +kernel, split_tx 32 (by decide) cs, strs_tx]
    have hps := spc_len 32 cs []
    have hsub : ∀ p ∈ spc 32 [] cs, p.length ≤ 5000 := fun p hp => by
      have := (spc_sub 32 cs [] p hp).1
      have : p.length ≤ 0 + cs.length := this
      omega
    have hne := spc_ne 32 cs []
    unfold placeL at q1 q2
    generalize spc 32 [] cs = ps at *
    obtain ⟨p0, qs, rfl⟩ : ∃ p0 qs, ps = p0 :: qs := by
      cases ps with
      | nil => exact absurd rfl hne
      | cons p r => exact ⟨p, r, rfl⟩
    have s1 := same_new (o := .lst ((p0 :: qs).map fun p => V.str (tx p))) nl
    have hl1 : upd H l (.lst ((p0 :: qs).map fun p => V.str (tx p))) l = some (.lst ((p0 :: qs).map fun p => V.str (tx p))) := upd_same
    generalize upd H l (.lst ((p0 :: qs).map fun p => V.str (tx p))) = H1 at *
    have eQ : placeQ (p0 :: qs) = if (numS (10 ^ 18) p0 && decide (qs.length + 1 ≤ 9)) = true then (placeV qs []).map fun kv => (digitsVal p0, kv) else none := rfl
    rw [eQ] at q1 q2
    refine ⟨_, rfl, l, _, 0, _, rfl, rfl, SqL.of hl1, atI_nat (j := 0) rfl, 10, 18, rfl, rfl, ⟨by decide, by decide, by decide⟩, p0, 10 ^ 18, rfl, Nat.le_trans (hsub p0 List.mem_cons_self) (by decide), by decide, fun H2 s2 => ?_⟩
    have hl2 := s2 _ _ hl1
    refine ⟨numS (10 ^ 18) p0, rfl, ?_⟩
    cases hn : numS (10 ^ 18) p0 with
    | false =>
      rw [hn, Bool.false_and, if_neg Bool.false_ne_true] at q1
      exact iteT (q1 rfl _ (s1.trans s2))
    | true =>
      rw [hn, Bool.true_and] at q1 q2
      refine iteF ⟨_, rfl, l, _, rfl, .inl (SqL.of hl2), _, _, rfl, rfl, ?_⟩
      rw [List.length_map, List.length_cons]
      by_cases big : qs.length + 1 ≤ 9
      · refine ⟨false, congrArg V.bl (decide_eq_false (by show ¬ ((9 : Int) < ((qs.length + 1 : Nat) : Int)); omega)), iteF ?_⟩
        rw [if_pos (decide_eq_true big)] at q1 q2
        refine fun d nd => ?_
        have nd0 : H d = none := (s1.trans s2).free nd
        have s3 := same_new (o := .dK []) nd
        have hd3 : upd H2 d (.dK []) d = some (.dK []) := upd_same
        have s03 := (s1.trans s2).trans s3
        have hl3 := s3 _ _ hl2
        generalize upd H2 d (.dK []) = H3 at *
        refine ⟨_, rfl, _, rfl, l, _, rfl, SqL.of hl3, fun u nu => ?_⟩
        have ecut : cutV ((p0 :: qs).map fun p => V.str (tx p)) (some 1) none = qs.map fun p => V.str (tx p) := cut_tail _ _
        have hu4 : upd H3 u (.lst (cutV ((p0 :: qs).map fun p => V.str (tx p)) (some 1) none)) u = some (.lst (qs.map fun p => V.str (tx p))) := by rw [ecut]; exact upd_same
        have s4 : Same H3 (upd H3 u (.lst (cutV ((p0 :: qs).map fun p => V.str (tx p)) (some 1) none))) := same_new nu
        have hd4 := s4 _ _ hd3
        have hl4 := s4 _ _ hl3
        have s04 := s03.trans s4
        have nud : u ≠ d := ne_of hu4 hd4 (by intro z; cases z)
        have nld : l ≠ d := ne_of hl4 hd4 (by intro z; cases z)
        refine ⟨u, rfl, ⟨_, SqL.of hu4⟩, ?_⟩
        generalize upd H3 u (.lst (cutV ((p0 :: qs).map fun p => V.str (tx p)) (some 1) none)) = H4 at *
        refine for_list (K := K) (a := u) (xs := qs.map fun p => V.str (tx p)) (fun i σ H' => ∃ (kvs : List (Key × V)) (kv : List (Nat × List Int)) (o3 : Option V), σ = [some (.str (tx cs)), some (.ref l), some (.ref d), o3, none] ∧ Same H H' ∧ H' u = some (.lst (qs.map fun p => V.str (tx p))) ∧ H' l = some (.lst ((p0 :: qs).map fun p => V.str (tx p))) ∧ H' d = some (.dK kvs) ∧ PVs H' kvs kv ∧ kv.length = i ∧ placeV (qs.drop i) kv = placeV qs []) ?_ ?_ ?_ ?_
        · exact ⟨[], [], _, rfl, s04, hu4, hl4, hd4, trivial, rfl, by rw [List.drop_zero]⟩
        · rintro i σ H5 _ ⟨_, _, _, rfl, _, hu5, _⟩
          exact SqL.of hu5
        · rintro i v σ H5 hv ⟨kvs, kv, o3, rfl, s5, hu5, hl5, hd5, pv5, ki, hp5⟩
          rw [List.getElem?_map] at hv
          cases en : qs[i]? with
          | none => rw [en] at hv; cases hv
          | some p =>
            rw [en] at hv
            cases hv
            have hi := (List.getElem?_eq_some_iff.mp en).1
            have hplen := hsub p (List.mem_cons_of_mem _ (List.mem_of_getElem? en))
            have edrop : qs.drop i = p :: qs.drop (i + 1) := drop_of_get en
            rw [edrop, placeV] at hp5
            refine ⟨_, rfl, _, rfl, p, d, kvs, kv, rfl, hplen, hd5, pv5, fun H6 s6 => ?_⟩
            refine ⟨isValB (names kv) p, rfl, ?_⟩
            cases hb : isValB (names kv) p with
            | false =>
              rw [hb, if_neg Bool.false_ne_true] at hp5
              refine iteT ?_
              exact q1 (by rw [← hp5]; rfl) _ (s5.trans s6)
            | true =>
              rw [hb, if_pos rfl] at hp5
              refine iteF ?_
              obtain ⟨c, x, r, rfl⟩ : ∃ c x r, p = c :: x :: r := by
                match p, hb with
                | c :: x :: r, _ => exact ⟨c, x, r, rfl⟩
              have eV : isValB (names kv) (c :: x :: r) = ((lowB c && !decide (c ∈ names kv)) && (decide (x = 61) && (spc 44 [] r).all (numS 999999))) := rfl
              rw [eV, Bool.and_eq_true, Bool.and_eq_true, Bool.and_eq_true] at hb
              have hcn : c ∉ names kv := fun z => by
                have := hb.1.2
                rw [decide_eq_true z] at this
                cases this
              have hall := List.all_eq_true.mp hb.2.2
              have szp : (tx (c :: x :: r)).length ≤ sizeLine := sz _ (by rw [tx_len]; omega)
              have ec : cutS (tx (c :: x :: r)) (some 2) none = tx r := cut_txF (c :: x :: r) 2
              have hr2 : r.length ≤ 5000 := by simp only [List.length_cons] at hplen; omega
              refine ⟨_, rfl, _, rfl, tx (c :: x :: r), rfl, szp, ⟨_, rfl⟩, tx r, _, congrArg V.str ec, rfl, by decide +kernel, sz _ (by rw [tx_len]; omega), fun g ng => ?_⟩
              rw [tx44, split_tx 44 (by decide) r, strs_tx]
              have hrs := spc_len 44 r []
              have eval2 : valOf (c :: x :: r) = (c, vals (spc 44 [] r)) := rfl
              rw [eval2] at hp5
              clear eV
              generalize spc 44 [] r = rs at *
              have s7 := same_new (o := .lst (rs.map fun p => V.str (tx p))) ng
              have hg7 : upd H6 g (.lst (rs.map fun p => V.str (tx p))) g = some (.lst (rs.map fun p => V.str (tx p))) := upd_same
              have s57 := s6.trans s7
              generalize upd H6 g (.lst (rs.map fun p => V.str (tx p))) = H7 at *
              refine ⟨g, rfl, ⟨_, SqL.of hg7⟩, fun D nD => lc_it (walk_list (xs := rs.map fun p => V.str (tx p))) (fun i H' => Same H7 H' ∧ H' D = some (.lst ((vals (rs.take i)).map V.int))) ?_ ?_ ?_ ?_⟩
              · exact ⟨same_new nD, upd_same⟩
              · exact fun i H' _ h => SqL.of (h.1 _ _ hg7)
              · rintro j v H8 H9 hj ⟨s8, hG⟩ ⟨rfl, hv⟩
                rw [List.getElem?_map] at hv
                cases em : rs[j]? with
                | none => rw [em] at hv; cases hv
                | some p2 =>
                  rw [em] at hv
                  cases hv
                  obtain ⟨n1, n2, n3⟩ := numS_iff.mp (hall p2 (List.mem_of_getElem? em))
                  have hdg := alld_of n2
                  have sh := num_short hdg n3 (k := 6) (by decide) (by decide)
                  have hj2 := (List.getElem?_eq_some_iff.mp em).1
                  refine ⟨rfl, _, rfl, tx p2, _, rfl, int_tx hdg n1 (by omega), by rw [tx_len]; omega, _, hG, fitsLt (by rw [List.length_map, vals, List.length_map, List.length_take]; omega), Same.put s8 nD, ?_⟩
                  rw [upd_same, List.take_add_one, em]
                  simp [vals]
              · rintro H8 ⟨s8, hG⟩
                rw [List.length_map, List.take_length] at hG
                refine ⟨D, _, rfl, .inl ⟨SqL.of hG, fun pp npp => ?_⟩⟩
                have s9 := same_new (o := .tup ((vals rs).map V.int)) npp
                have s59 := (s57.trans s8).trans s9
                have hpp : upd H8 pp (.tup ((vals rs).map V.int)) pp = some (.tup ((vals rs).map V.int)) := upd_same
                generalize upd H8 pp (.tup ((vals rs).map V.int)) = H9 at *
                have hd9 := s59 _ _ hd5
                have lenk := pv5.len
                refine ⟨_, rfl, _, rfl, tx (c :: x :: r), 0, c, rfl, rfl, szp, atI_nat (j := 0) rfl, d, _, rfl, DPut.k (k := kSg c) hd9 (Nat.lt_of_lt_of_le (by omega : kvs.length < 20) (by decide)), ?_⟩
                have kn : (valV kvs (kSg c)).isSome = false := by
                  rw [pv5.kn c, any_mem]
                  exact decide_eq_false hcn
                rw [putK_new kn]
                refine ⟨_, kv ++ [(c, vals rs)], _, rfl, Same.put (s5.trans s59) nd0, by rw [upd_ne nud]; exact s59 _ _ hu5, by rw [upd_ne nld]; exact s59 _ _ hl5, upd_same, ?_, by rw [List.length_append, ki]; rfl, hp5⟩
                refine PVs.mono (H := H9) (fun b xs hb => ?_) (PVs.snoc hpp (pv5.same s59))
                rw [upd_ne (ne_of hb hd9 (by intro z; cases z))]
                exact hb
        · rintro σ H5 ⟨kvs, kv, o3, rfl, s5, hu5, hl5, hd5, pv5, ki, hp5⟩
          rw [List.length_map, List.drop_length, placeV] at hp5
          have q2 := q2 (digitsVal p0) kv (by rw [← hp5]; rfl)
          obtain ⟨n1, n2, n3⟩ := numS_iff.mp hn
          have hdg := alld_of n2
          have sh := num_short hdg n3 (k := 19) (by decide) (by decide)
          refine ⟨_, rfl, l, _, 0, _, rfl, rfl, SqL.of hl5, atI_nat (j := 0) rfl, tx p0, _, rfl, int_tx hdg n1 (by omega), by rw [tx_len]; omega, _, rfl, by show 2 ≤ sizeLine; decide, fun r nr => ?_⟩
          have s6 := same_new (o := .tup [V.int ((digitsVal p0 : Nat) : Int), .ref d]) nr
          exact q2 _ r d kvs (s5.trans s6) nd0 upd_same (s6 _ _ hd5) (pv5.same s6)
      · refine ⟨true, congrArg V.bl (decide_eq_true (by show (9 : Int) < ((qs.length + 1 : Nat) : Int); omega)), iteT ?_⟩
        rw [if_neg (fun z => big (of_decide_eq_true z))] at q1
        exact q1 rfl _ (s1.trans s2)
end
end Mo

/-! ### lists of texts, written texts, pens and tables -/
namespace Mo
open PySem PySem.Spec PyProof.Rows L2
theorem Src.here {H : Hp} {d c : Addr} {t : Nat} (h : Src H d c t) : H d ≠ none := by
  obtain ⟨_, _, h, _⟩ := h
  rw [h]
  exact Option.some_ne_none _
theorem Src.tabs {H H' : Hp} {d c : Addr} {t : Nat} (h : Src H d c t) (s : LamX.ExtN H H') : Src H' d c t := by
  obtain ⟨ns, r, h1, h2, h3⟩ := h
  exact ⟨ns, r, s _ _ h1 (fun _ z => nomatch z), s _ _ h2 (fun _ z => nomatch z), h3⟩
theorem Src.dict {H : Hp} {d c : Addr} {t : Nat} (h : Src H d c t) : ∃ kvs, H d = some (.dK kvs) := by
  obtain ⟨ns, r, h1, _⟩ := h
  exact ⟨_, h1⟩
theorem Src.tab {T : List (Addr × Str)} {H H' : Hp} {d c : Addr} {t : Nat} (h : Src H d c t) (tb : LamX.Tabs T H) (b : But d H H') : LamX.Tabs T H' := h.dict.elim fun _ e => Tabs.but tb e b
theorem Tabs.put {T : List (Addr × Str)} {H : Hp} {l : Addr} {xs : List V} {o : HO} (t : LamX.Tabs T H) (hl : H l = some (.lst xs)) : LamX.Tabs T (upd H l o) := fun p hp => by
  obtain ⟨ps, h1, h2, h3⟩ := t p hp
  have n1 : p.1 ≠ l := fun z => by
    rw [z, hl] at h1
    cases h1
  refine ⟨ps, by rw [upd_ne n1]; exact h1, h2, fun pos cv hc => ?_⟩
  obtain ⟨c, e1, e2⟩ := h3 pos cv hc
  have n2 : c ≠ l := fun z => by
    rw [z, hl] at e2
    cases e2
  exact ⟨c, e1, by rw [upd_ne n2]; exact e2⟩
def nat2 (ns : List Nat) : List Int := ns.map fun n : Nat => (n : Int)
theorem nat2_len (ns : List Nat) : (nat2 ns).length = ns.length := List.length_map ..
/-- letters as they may be, in a text as long as it may be -/
def Okn (ns : List Nat) : Prop := (∀ n ∈ ns, n ≤ 999999) ∧ ns.length ≤ 4096
/-- v is a text -/
def TxtAt (H : Hp) (v : V) : Prop := ∃ (p : Addr) (ns : List Nat), v = .ref p ∧ H p = some (.tup ((nat2 ns).map V.int)) ∧ Okn ns
theorem TxtAt.same {H H' : Hp} {v : V} (h : TxtAt H v) (s : Same H H') : TxtAt H' v := h.elim fun p z => z.elim fun ns z => ⟨p, ns, z.1, s _ _ z.2.1, z.2.2⟩
theorem TxtAt.tabs {H H' : Hp} {v : V} (h : TxtAt H v) (s : LamX.ExtN H H') : TxtAt H' v := h.elim fun p z => z.elim fun ns z => ⟨p, ns, z.1, s _ _ z.2.1 (fun _ z => nomatch z), z.2.2⟩
theorem TxtAt.but {H H' : Hp} {v : V} {d c : Addr} {t : Nat} (h : TxtAt H v) (src : Src H d c t) (s : But d H H') : TxtAt H' v := by
  obtain ⟨p, ns, e, hp, ok⟩ := h
  obtain ⟨kvs, hd⟩ := src.dict
  exact ⟨p, ns, e, s _ _ (ne_of hp hd (by intro z; cases z)) hp, ok⟩
theorem TxtAt.put {H : Hp} {v : V} {l : Addr} {xs : List V} {o : HO} (h : TxtAt H v) (hl : H l = some (.lst xs)) : TxtAt (upd H l o) v := by
  obtain ⟨p, ns, e, hp, ok⟩ := h
  exact ⟨p, ns, e, by rw [upd_ne (ne_of hp hl (by intro z; cases z))]; exact hp, ok⟩
theorem dx_ints {N : Addr → Prop} {H : Hp} : ∀ {xs : List V} {ns : List Int}, DxAll N H xs (ns.map PyData.int) → xs = ns.map V.int
  | [], [], _ => rfl
  | [], _ :: _, h => nomatch h
  | _ :: _, [], h => nomatch h
  | x :: xs, n :: ns, .cons a b => by
    cases a
    rw [dx_ints b]
    rfl
theorem txt_of {N : Addr → Prop} {H : Hp} {v : V} {ns : List Nat} (h : Dx N H v (.tuple ((nat2 ns).map PyData.int))) (ok : Okn ns) : TxtAt H v := by
  obtain ⟨a, xs, e, ha, _, hx⟩ := tpl_dx h
  rw [dx_ints hx] at ha
  exact ⟨a, ns, e, ha, ok⟩
/-- t * n, written -/
theorem dx_rep {N : Addr → Prop} {H : Hp} {xs : List V} {ds : List PyData} (h : DxAll N H xs ds) : ∀ n : Nat, DxAll N H (List.replicate n xs).flatten (List.replicate n ds).flatten
  | 0 => .nil
  | n + 1 => by
    rw [List.replicate_succ, List.replicate_succ, List.flatten_cons, List.flatten_cons]
    exact h.append (dx_rep h n)
def repD (n : Nat) (ds : List PyData) : PyData := .tuple (List.replicate n ds).flatten
theorem lit_rep {K : PySem.W.Frag} {te : TE} {ds : List PyData} {i : Int} (n : Nat) (h : LitE te (.tuple ds)) (hi : i = (n : Int)) (hne : ds ≠ []) (hl : ds.length ≤ 10) (h2 : 2 ≤ n) (hn : n ≤ 100000) : LitE (tOp (rRepN K) te (tC (.int i))) (repD n ds) := fun σ H Q q => h σ H _ fun H1 v s1 hv => by
  obtain ⟨a, xs, rfl, ha, na, hx⟩ := tpl_dx hv
  have el := hx.length
  subst hi
  refine ⟨a, n, xs, rfl, rfl, SqT.of ha, fun z => ?_, h2, hn, by omega, fun p np => ?_⟩
  · rw [z] at el
    exact hne (List.eq_nil_of_length_eq_zero el.symm)
  · have s2 := same_new (o := .tup (List.replicate n xs).flatten) np
    exact q _ _ (s1.trans s2) (.tup upd_same (fun z => z (s1.free np)) (dx_rep (hx.same s2) n))
/-- (x,) * i, written -/
theorem lit_rep1 {K : PySem.W.Frag} {x i : Int} (h : 2 ≤ i ∧ i ≤ 100000) : LitE (tOp (rRepN K) (tTup (tCons (tC (.int x)) tNil)) (tC (.int i))) (repD i.toNat [.int x]) :=
  lit_rep i.toNat (lit_tup (lit_cons lit_int lit_nil) (by show 1 ≤ 1000; decide)) (by omega) (fun z => by cases z) (by show 1 ≤ 10; decide) (by omega) (by omega)
theorem rep_one {α : Type} (x : α) : ∀ n : Nat, (List.replicate n [x]).flatten = List.replicate n x
  | 0 => rfl
  | n + 1 => by
    rw [List.replicate_succ, List.flatten_cons, rep_one x n, List.replicate_succ]
    rfl
theorem rep_nat2 (n k : Nat) : (List.replicate n [PyData.int ((k : Nat) : Int)]).flatten = (nat2 (List.replicate n k)).map PyData.int := by
  rw [rep_one, nat2, List.map_replicate, List.map_replicate]
theorem repD_nat2 (n k : Nat) : repD n [PyData.int ((k : Nat) : Int)] = .tuple ((nat2 (List.replicate n k)).map PyData.int) := congrArg PyData.tuple (rep_nat2 n k)
theorem ok_rep {n k : Nat} (hn : n ≤ 4096) (hk : k ≤ 999999) : Okn (List.replicate n k) := ⟨fun m hm => by rw [(List.mem_replicate.mp hm).2]; exact hk, by rw [List.length_replicate]; exact hn⟩
/-! what repr says of texts and lists of one text -/
theorem txt_dx {H : Hp} {p : Addr} {ns : List Nat} (h : H p = some (.tup ((nat2 ns).map V.int))) : Dx (fun _ => False) H (.ref p) (.tuple ((nat2 ns).map PyData.int)) := tupI_dx h
theorem nat2_dig {ns : List Nat} (ok : Okn ns) : ∀ n ∈ nat2 ns, n.natAbs < 10 ^ 20 := fun n hn => by
  obtain ⟨m, hm, rfl⟩ := List.mem_map.mp hn
  have := ok.1 m hm
  omega
theorem txt_fit {ns : List Nat} (ok : Okn ns) : Fit 20 10000 1 (.tuple ((nat2 ns).map PyData.int)) := (FitAll.tup ((ints_fitAll (B := 20) (nat2_dig ok)).mono (Nat.le_refl _) (by rw [nat2_len]; have := ok.2; omega) (Nat.le_refl _)))
theorem one_fit {ns : List Nat} (ok : Okn ns) : Fit 20 10001 2 (.list [.tuple ((nat2 ns).map PyData.int)]) := FitAll.lst (txt_fit ok).one
theorem one_dx {H : Hp} {l p : Addr} {ns : List Nat} (hl : H l = some (.lst [.ref p])) (hp : H p = some (.tup ((nat2 ns).map V.int))) : Dx (fun _ => False) H (.ref l) (.list [.tuple ((nat2 ns).map PyData.int)]) := .lst hl (fun z => z) (.cons (txt_dx hp) .nil)
theorem txt_text {ns : List Nat} (ok : Okn ns) : textD (.tuple ((nat2 ns).map PyData.int)) = true := text_ints (fun n hn => by
  obtain ⟨m, hm, rfl⟩ := List.mem_map.mp hn
  have := ok.1 m hm
  omega) (by rw [nat2_len]; exact ok.2)
theorem txt_bulk {ns : List Nat} (ok : Okn ns) : (PyData.tuple ((nat2 ns).map PyData.int)).bulk ≤ 1000000 := Nat.le_trans (txt_fit ok).bulk (by decide)
theorem str_fit {cs : List Nat} (h : ∀ c ∈ cs, c < 128) (hl : cs.length ≤ 100000) : Fit 20 100000 1 (.str (tx cs)) := ⟨by simp only [okD]; exact h, by simp only [PyData.bulk]; rw [tx_size]; exact hl, by simp only [PyData.depth]; exact Nat.zero_le _⟩
end Mo

namespace Mo
open PySem PySem.Spec PyProof.Rows L2
/-! letters written one after the other, any one sign between -/
theorem join_linS (sep : Nat) : ∀ ns : List Nat, TL.joinL [sep] (ns.map numL) = lin sep ns
  | [] => rfl
  | [n] => rfl
  | n :: m :: r => by
    show numL n ++ ([sep] ++ TL.joinL [sep] ((m :: r).map numL)) = numL n ++ sep :: lin sep (m :: r)
    rw [join_linS sep (m :: r)]
    rfl
theorem join_lineS {sep : Nat} {z : Str} (hz : z = tx [sep]) (ns : List Nat) : Txt.join z (ns.map fun n : Nat => Str.ofString (toString ((n : Nat) : Int))) = tx (lin sep ns) := by
  rw [TL.join_eq]
  refine TL.ext_tl ?_
  rw [TL.tl_join, ← join_linS, hz, List.map_map]
  show TL.joinL [sep] (ns.map fun n => TL.tl (Str.ofString (toString ((n : Nat) : Int)))) = TL.joinL [sep] (ns.map numL)
  congr 1
  exact List.map_congr_left fun n _ => TL.tl_num n
theorem lin_lenS {sep : Nat} : ∀ {ns : List Nat}, (∀ n ∈ ns, n ≤ 999999) → (lin sep ns).length ≤ 7 * ns.length
  | [], _ => Nat.le_refl _
  | n :: r, h => by
    have h1 : (numL n).length ≤ 6 := TL.numL_len (n := n) (k := 6) (by decide) (by have := h n List.mem_cons_self; omega)
    by_cases e : r = []
    · subst e
      show (numL n).length ≤ 7 * 1
      omega
    · have h2 := lin_lenS (sep := sep) (ns := r) fun m hm => h m (List.mem_cons_of_mem _ hm)
      rw [lin_cons e, List.length_append, List.length_cons, List.length_cons]
      omega
/-- sep.join(parts) within a comprehension -/
theorem pe_joinK {X : Cx} {K : PySem.W.Frag} {o e : Expr} {to te : TE} {apos pos : Pos} (h : X.K = K) (ho : PE X o to) (he : PE X e te) (hs : starEach [e] X.env = [(false, eval e X.env)] := by rfl) (hbase : attributeBase o "join" X.env (eval o X.env) = eval o X.env := by rfl) (hline : (apos.endLine == pos.line) = true := by rfl) :
    PE X (.Call (.Attribute o "join" apos) [e] [] pos) (tM1 (fun x xs H Q => ∃ a p, ∃ ys : List Str, x = .str a ∧ xs = [.ref p] ∧ (SqL K H p (ys.map V.str) ∨ SqT K H p (ys.map V.str)) ∧ (ys.map (·.length)).sum + ys.length * a.length ≤ 16777216 ∧ Q (.str (Txt.join a ys)) H) to te) := by
  subst h
  exact pe_join ho he hs hbase hline
end Mo

namespace Mo
open PySem PySem.Spec PyProof.Rows L2
open PySem.NumText (AllDigits digitsVal)
theorem joinL_jn : ∀ ps : List (List Nat), TL.joinL [32] ps = jn ps
  | [] => rfl
  | [p] => rfl
  | p :: q :: r => by
    show p ++ ([32] ++ TL.joinL [32] (q :: r)) = p ++ 32 :: jn (q :: r)
    rw [joinL_jn (q :: r)]
    rfl
theorem join_jn (ps : List (List Nat)) : Txt.join (tx [32]) (ps.map tx) = tx (jn ps) := by
  rw [← joinL_jn]
  exact SX.join_S [32] ps
theorem jn_len : ∀ ps : List (List Nat), ((ps.map tx).map (·.length)).sum + (ps.map tx).length ≤ (jn ps).length + 1
  | [] => by decide
  | [p] => by
    show (tx p).length + 0 + 1 ≤ p.length + 1
    rw [tx_len]
    omega
  | p :: q :: r => by
    have ih := jn_len (q :: r)
    rw [List.map_cons, List.map_cons, List.sum_cons, tx_len, List.length_cons]
    show _ ≤ (p ++ 32 :: jn (q :: r)).length + 1
    rw [List.length_append, List.length_cons]
    omega
theorem jn_snoc {z : List Nat} : ∀ {qs : List (List Nat)}, qs ≠ [] → jn (qs ++ [z]) = jn qs ++ 32 :: z
  | [], h => absurd rfl h
  | [p], _ => rfl
  | p :: q :: r, _ => by
    show p ++ 32 :: jn (q :: r ++ [z]) = (p ++ 32 :: jn (q :: r)) ++ 32 :: z
    rw [jn_snoc (qs := q :: r) (fun h => by cases h), List.append_assoc]
    rfl
theorem cut_txh2 (zs : List Nat) {b : Nat} (hb : b ≤ zs.length) : cutS (tx zs) none (some (b : Int)) = tx (zs.take b) := by
  rw [cut_tx]
  show tx ((zs.drop 0).take _) = _
  rw [HT.sIx_nat, Nat.min_eq_left hb]
  rfl
section
variable {P : Program} {w : World} {K : PySem.W.Frag} {mg : Str → Option Value} {base : Heap}
def spBegP : Sp := fun vs H Q _ => ∃ cs : List Nat, vs = [.str (tx cs)] ∧ cs.length ≤ 5000 ∧ ∀ H', Same H H' → Q (.bl (begP cs)) H'
theorem ok_begP {k : Nat} (T : Txt K mg) : FnOk P w K mg base CX0 (k + 4) T.aLBegins T.dLBegins ["_law_line"] spBegP := by
  have GLIsNumber : FnOk P w K mg base CX0 (k + 3) T.aLIsNumber T.dLIsNumber ["_law_string", "_law_most"] spLNum := ok_lnum T
  have GLPlaceOf : FnOk P w K mg base CX0 (k + 3) T.aLPlaceOf T.dLPlaceOf ["_law_line"] spOfP := ok_ofP T
  have GLBeginsValue : FnOk P w K mg base CX0 (k + 3) T.aLBeginsValue T.dLBeginsValue ["_law_part", "_law_used"] _ := ok_begv T
  refine T.fLBegins.ok scLBegins (fun vs H Q E h => ?_) (fun cdv A outer s H vs Q E hr h => ?_)
  · obtain ⟨_, rfl, _⟩ := h
    rfl
  · obtain ⟨cs, rfl, hl, q⟩ := h
    refine ⟨_, (pss_cons (ps_set (i := 1) scLBegins.nd rfl (Or.inl rfl) (pe_split (pv 0) pe_str))
      (pss_cons (ps_if (pt_cmpR op_eq (pe_callB call_len_seq (by rfl) T.m_len PySem.boot_len (pa_cons (pv 1) pa_nil)) pe_int (nomark _)) (pss_one (ps_ret (pe_or (pe_cmpR op_eq (pv 0) pe_str (nomark _)) (pe_one (pe_call GLIsNumber hr (by rfl) T.gLIsNumber T.fLIsNumber.kp T.bLIsNumber .nil pass0 (pa_cons (pv 0) (pa_cons (pe_op op_pow pe_int pe_int) pa_nil))))))) pss_nil)
      (pss_cons (ps_set (i := 2) scLBegins.nd rfl (Or.inl rfl) (pe_call GLPlaceOf hr (by rfl) T.gLPlaceOf T.fLPlaceOf.kp T.bLPlaceOf .nil pass0 (pa_cons (pe_join pe_str (pe_slice sl_list (pv 1) po_none (po_some (pe_un un_neg pe_int)))) pa_nil)))
      (pss_one (ps_ret (pe_and (pe_cmpR op_notN (pv 2) pe_non (nomark _)) (pe_and (pe_cmpR op_lt (pe_callB call_len_seq (by rfl) T.m_len PySem.boot_len (pa_cons (pv 1) pa_nil)) pe_int (nomark _)) (pe_one (pe_call GLBeginsValue hr (by rfl) T.gLBeginsValue T.fLBeginsValue.kp T.bLBeginsValue .nil pass0 (pa_cons (pe_ix ix_list (pv 1) (pe_un un_neg pe_int) (fun _ _ => rfl)) (pa_cons (pe_ix ix_tup (pv 2) pe_int (fun _ _ => rfl)) pa_nil))))))))))), ?_⟩
    have sz : ∀ m, m ≤ 300000 → m ≤ sizeLine := fun m hm => Nat.le_trans hm (by decide)
    refine ⟨_, rfl, ⟨_, rfl⟩, _, _, rfl, rfl, by decide +kernel, sz _ (by rw [tx_len]; omega), fun l nl => ?_⟩
    rw [show Str.ofString " " = tx [32] by decide +kernel, split_tx 32 (by decide) cs, strs_tx]
    have hps := spc_len 32 cs []
    have hsub : ∀ p ∈ spc 32 [] cs, p.length ≤ 5000 := fun p hp => by
      have := (spc_sub 32 cs [] p hp).1
      have : p.length ≤ 0 + cs.length := this
      omega
    have hne := spc_ne 32 cs []
    have hj := jn_spc cs []
    rw [List.nil_append] at hj
    have hno := spc_no cs [] (fun y hy => absurd hy List.not_mem_nil)
    unfold begP at q
    generalize spc 32 [] cs = ps at *
    have s1 := same_new (o := .lst (ps.map fun p => V.str (tx p))) nl
    have hl1 : upd H l (.lst (ps.map fun p => V.str (tx p))) l = some (.lst (ps.map fun p => V.str (tx p))) := upd_same
    generalize upd H l (.lst (ps.map fun p => V.str (tx p))) = H1 at *
    refine ⟨_, rfl, l, _, rfl, .inl (SqL.of hl1), rfl, ?_⟩
    rw [List.length_map]
    by_cases one : ps.length = 1
    · refine ⟨true, congrArg V.bl (decide_eq_true (by rw [one]; rfl)), iteT ?_⟩
      rw [if_pos one] at q
      refine ⟨_, rfl, rfl, decide (cs = []), ?_, ?_⟩
      · refine congrArg V.bl ?_
        by_cases h : cs = []
        · rw [decide_eq_true h, decide_eq_true (by rw [h, txE])]
        · rw [decide_eq_false h, decide_eq_false (fun y => h (tx_inj (by rw [← txE]; exact V.str.inj y)))]
      · by_cases h : cs = []
        · rw [decide_eq_true h, Bool.true_or] at q
          rw [decide_eq_true h]
          exact iteT (q _ s1)
        · rw [decide_eq_false h, Bool.false_or] at q
          rw [decide_eq_false h]
          refine iteF ⟨_, rfl, 10, 18, rfl, rfl, ⟨by decide, by decide, by decide⟩, cs, 10 ^ 18, rfl, by omega, by decide, fun H5 s5 => ?_⟩
          exact q _ (s1.trans s5)
    · refine ⟨false, congrArg V.bl (decide_eq_false (fun z => one (by have := V.int.inj z; omega))), iteF ?_⟩
      rw [if_neg one] at q
      obtain ⟨qs, z, rfl⟩ : ∃ qs z, ps = qs ++ [z] := ⟨_, _, (List.dropLast_concat_getLast hne).symm⟩
      have elast : (qs ++ [z]).getLastD [] = z := by simp
      rw [List.dropLast_concat, elast] at q
      have qne : qs ≠ [] := fun h => one (by rw [h]; rfl)
      have hq32 : ∀ p ∈ qs, no32 p := fun p hp => hno p (List.mem_append.mpr (.inl hp))
      refine ⟨⟨_, rfl⟩, _, rfl, 1, rfl, _, rfl, l, _, rfl, SqL.of hl1, fun u nu => ?_⟩
      have ecut : cutV ((qs ++ [z]).map fun p => V.str (tx p)) none (some (-1)) = qs.map fun p => V.str (tx p) := cut_last _ _ (by rw [List.map_append]; rfl)
      have hu2 : upd H1 u (.lst (cutV ((qs ++ [z]).map fun p => V.str (tx p)) none (some (-1)))) u = some (.lst (qs.map fun p => V.str (tx p))) := by rw [ecut]; exact upd_same
      have s2 : Same H1 (upd H1 u (.lst (cutV ((qs ++ [z]).map fun p => V.str (tx p)) none (some (-1))))) := same_new nu
      generalize upd H1 u (.lst (cutV ((qs ++ [z]).map fun p => V.str (tx p)) none (some (-1)))) = H2 at *
      have hl2 := s2 _ _ hl1
      have hjl : (jn qs).length ≤ 5000 := by
        have e : jn (qs ++ [z]) = jn qs ++ 32 :: z := jn_snoc qne
        have := congrArg List.length hj
        rw [e, List.length_append, List.length_cons] at this
        omega
      have jl := jn_len qs
      refine ⟨_, u, qs.map tx, rfl, rfl, .inl (SqL.of (by rw [strs_tx]; exact hu2)), ?_, ?_⟩
      · rw [show (tx [32]).length = 1 from rfl, Nat.mul_one]
        omega
      rw [join_jn]
      have eP : placeL (jn qs) = placeQ qs := by
        unfold placeL
        rw [spc_jn qne hq32]
      refine ⟨jn qs, rfl, hjl, fun hnone H3 s3 => ?_, fun n kv hsome H3 r d kvs s3 nd hr3 hd3 pv3 => ?_⟩
      · rw [eP] at hnone
        rw [hnone] at q
        refine ⟨_, rfl, rfl, false, rfl, iteF ?_⟩
        exact q _ ((s1.trans s2).trans s3)
      · rw [eP] at hsome
        rw [hsome] at q
        have q : ∀ H', Same H H' → Q (.bl (decide ((qs ++ [z]).length < 10) && begVB (names kv) z)) H' := q
        have hl3 := s3 _ _ hl2
        have s03 := (s1.trans s2).trans s3
        refine ⟨_, rfl, rfl, true, rfl, iteT ?_⟩
        refine ⟨_, rfl, l, _, rfl, .inl (SqL.of hl3), _, _, rfl, rfl, ?_⟩
        rw [List.length_map]
        by_cases l10 : (qs ++ [z]).length < 10
        · rw [decide_eq_true l10, Bool.true_and] at q
          refine ⟨true, congrArg V.bl (decide_eq_true (by omega)), iteT ?_⟩
          have hat : atI ((qs ++ [z]).map fun p => V.str (tx p)) (-1) = some (V.str (tx z)) := by
            rw [List.map_append]
            exact atI_last _ _
          refine ⟨_, rfl, 1, rfl, l, _, _, _, rfl, rfl, SqL.of hl3, hat, _, rfl, r, _, 1, _, rfl, rfl, SqT.of hr3, rfl, z, d, kvs, kv, rfl, hsub z (by simp), hd3, pv3, fun H4 s4 => ?_⟩
          exact q _ (s03.trans s4)
        · rw [decide_eq_false l10, Bool.false_and] at q
          refine ⟨false, congrArg V.bl (decide_eq_false (by omega)), iteF ?_⟩
          exact q _ s03
/-- how far a line begins a place -/
def spLst : Sp := fun vs H Q _ => ∃ cs : List Nat, vs = [.str (tx cs)] ∧ cs.length ≤ 5000 ∧ ∀ H', Same H H' → Q (.int ((runP (.n []) cs : Nat) : Int)) H'
theorem ok_lst {k : Nat} (T : Txt K mg) : FnOk P w K mg base CX0 (k + 5) T.aLLongest T.dLLongest ["_law_line"] spLst := by
  have GLBegins : FnOk P w K mg base CX0 (k + 4) T.aLBegins T.dLBegins ["_law_line"] spBegP := ok_begP T
  refine T.fLLongest.ok scLLongest (fun vs H Q E h => ?_) (fun cdv A outer s H vs Q E hr h => ?_)
  · obtain ⟨_, rfl, _⟩ := h
    rfl
  · obtain ⟨cs, rfl, hl, q⟩ := h
    refine ⟨_, (pss_cons (ps_par (i := 1) (j := 2) (by rfl) scLLongest.nd rfl rfl (by decide) rfl rfl (pa_cons pe_int (pa_cons (pe_callB call_len_str (by rfl) T.m_len PySem.boot_len (pa_cons (pv 0) pa_nil)) pa_nil)) (by rfl))
      (pss_cons (ps_while PassesOwn.never (pt_cmpR op_lt (pv 1) (pv 2) (nomark _)) (pss_cons (ps_set (i := 3) scLLongest.nd rfl (Or.inl rfl) (pe_op op_fdivN (pe_op op_add (pe_op op_add (pv 1) (pv 2)) pe_int) pe_int))
      (pss_one (ps_if (pt_val (pe_call GLBegins hr (by rfl) T.gLBegins T.fLBegins.kp T.bLBegins .nil pass0 (pa_cons (pe_slice sl_str (pv 0) po_none (po_some (pv 3))) pa_nil))) (pss_one (ps_set (i := 1) scLLongest.nd rfl (Or.inl rfl) (pv 3))) (pss_one (ps_set (i := 2) scLLongest.nd rfl (Or.inl rfl) (pe_op op_sub (pv 3) pe_int)))))))
      (pss_one (ps_ret (pv 1))))), ?_⟩
    have sz : ∀ m, m ≤ 300000 → m ≤ sizeLine := fun m hm => Nat.le_trans hm (by decide)
    have hlim := runP_le cs (.n [])
    have hbt := begP_take cs
    generalize runP (.n []) cs = R at *
    refine ⟨_, rfl, _, rfl, sz _ (by rw [tx_len]; omega), _, _, rfl, ?_⟩
    rw [tx_len]
    refine while_raw (fun σ' H' => ∃ (lo hi : Nat) (o4 : Option V), σ' = [some (.str (tx cs)), some (.int ((lo : Nat) : Int)), some (.int ((hi : Nat) : Int)), o4] ∧ Same H H' ∧ lo ≤ R ∧ R ≤ hi ∧ hi ≤ cs.length) (fun σ' H' => match σ' with | [_, some (.int lo), some (.int hi), _] => (hi - lo).toNat | _ => 0) ?_ ?_
    · exact ⟨0, cs.length, _, rfl, Same.refl H, Nat.zero_le _, hlim, Nat.le_refl _⟩
    · rintro σ' H2 ⟨lo, hi, o4, rfl, s2, h1, h2, h3⟩
      by_cases c : lo < hi
      · refine ⟨_, rfl, _, rfl, _, _, rfl, rfl, true, congrArg V.bl (decide_eq_true (by omega)), iteT ?_⟩
        refine ⟨fun σ' H' => (∃ (lo' hi' : Nat) (o4 : Option V), σ' = [some (.str (tx cs)), some (.int ((lo' : Nat) : Int)), some (.int ((hi' : Nat) : Int)), o4] ∧ Same H H' ∧ lo' ≤ R ∧ R ≤ hi' ∧ hi' ≤ cs.length) ∧ (match σ' with | [_, some (.int lo), some (.int hi), _] => (hi - lo).toNat | _ => 0) < (((hi : Nat) : Int) - ((lo : Nat) : Int)).toNat, fun σ' H' z => ⟨_, z.2, rfl, z.1⟩, ?_⟩
        have em : (((lo : Nat) : Int) + ((hi : Nat) : Int) + 1).fdiv 2 = (((lo + hi + 1) / 2 : Nat) : Int) := by
          rw [Int.fdiv_eq_ediv_of_nonneg _ (by decide)]
          omega
        refine ⟨_, rfl, _, rfl, _, _, rfl, rfl, _, _, rfl, rfl, _, _, rfl, rfl, ⟨by decide, by decide⟩, ?_⟩
        have mb : lo < (lo + hi + 1) / 2 ∧ (lo + hi + 1) / 2 ≤ hi := by omega
        generalize (lo + hi + 1) / 2 = m at *
        refine ⟨_, rfl, _, rfl, ((m : Nat) : Int), congrArg V.int em, tx cs, rfl, sz _ (by rw [tx_len]; omega), ?_⟩
        dsimp only [tNoPart]
        rw [cut_txh2 cs (by omega)]
        refine ⟨cs.take m, rfl, by rw [List.length_take]; omega, fun H3 s3 => ?_⟩
        rw [hbt m (by omega)]
        by_cases g : m ≤ R
        · rw [decide_eq_true g]
          refine ⟨true, rfl, iteT ?_⟩
          refine ⟨_, rfl, ⟨m, hi, _, by rw [← em]; rfl, s2.trans s3, g, h2, h3⟩, ?_⟩
          show (((hi : Nat) : Int) - _).toNat < _
          rw [em]
          omega
        · rw [decide_eq_false g]
          refine ⟨false, rfl, iteF ?_⟩
          refine ⟨_, rfl, _, _, rfl, rfl, ⟨lo, m - 1, some (.int ((((lo : Nat) : Int) + ((hi : Nat) : Int) + 1).fdiv 2)), ?_, s2.trans s3, h1, by omega, by omega⟩, ?_⟩
          · have e5 : (((lo : Nat) : Int) + ((hi : Nat) : Int) + 1).fdiv 2 - 1 = ((m - 1 : Nat) : Int) := by rw [em]; omega
            rw [← e5]
            rfl
          · show ((((lo : Nat) : Int) + ((hi : Nat) : Int) + 1).fdiv 2 - 1 - ((lo : Nat) : Int)).toNat < _
            rw [em]
            omega
      · refine ⟨_, rfl, _, rfl, _, _, rfl, rfl, false, congrArg V.bl (decide_eq_false (by omega)), iteF ?_⟩
        have e : lo = R := by omega
        refine ⟨_, rfl, ?_⟩
        rw [e]
        exact q _ s2
end
end Mo

namespace Mo
open PySem PySem.Spec PyProof.Rows L2
section
variable {P : Program} {w : World} {K : PySem.W.Frag} {mg : Str → Option Value} {base : Heap}
theorem ints_dp {H : Hp} : ∀ ns : List Int, DpAll K H (ns.map V.int) (ns.map PyData.int)
  | [] => .nil
  | n :: ns => .cons (.int n) (ints_dp ns)
theorem mod_in {a b : Int} (h : 0 < b) : 0 ≤ a.fmod b ∧ a.fmod b < b := by
  rw [Int.fmod_eq_emod_of_nonneg _ (Int.le_of_lt h)]
  exact ⟨Int.emod_nonneg _ (by omega), Int.emod_lt_of_pos _ h⟩
theorem div_in {a b : Int} (h : 0 < b) (ha : 0 ≤ a) : 0 ≤ a.fdiv b := by
  rw [Int.fdiv_eq_ediv_of_nonneg _ (Int.le_of_lt h)]
  exact Int.ediv_nonneg ha (Int.le_of_lt h)
theorem nat_of {i : Int} (h : 0 ≤ i) : ∃ j : Nat, i = (j : Int) := ⟨i.toNat, by omega⟩
theorem ok_draw {k : Nat} (T : Txt K mg) : FnOk P w K mg base CX0 (k + 1) T.aLDraw T.dLDraw ["_law_pen_here", "_law_count"] spSDraw := by
  refine T.fLDraw.ok scLDraw (fun vs H Q E h => ?_) (fun cdv A outer s H vs Q E hr h => ?_)
  · obtain ⟨d, c, n, t, rfl, _⟩ := h
    rfl
  · obtain ⟨d, c, n, t, rfl, src, n0, n1, ht, q⟩ := h
    have hu := hu_of hr
    obtain ⟨ns, r, hd, hc, hl, r0⟩ := id src
    have ndc := src.ne
    have gC := DGet.k (k := Sum.inr "cells") hd
    have gT := DGet.k (k := Sum.inr "index") hd
    have gR := DGet.k (k := Sum.inr "rest") hd
    rw [src_cells] at gC
    rw [src_index] at gT
    rw [src_rest] at gR
    have nz : n ≠ 0 := by omega
    have na : n.natAbs < 1073741824 := by omega
    refine ⟨_, (pss_cons (ps_if (pt_cmpR op_gt (pe_dget hu (pv 0) pe_str (fun _ _ => rfl)) pe_int (nomark _)) (pss_cons (ps_set (i := 2) scLDraw.nd rfl (Or.inl rfl) (pe_op op_modN (pe_dget hu (pv 0) pe_str (fun _ _ => rfl)) (pv 1)))
      (pss_cons (ps_dput hu (pv 0) pe_str (pe_op op_fdivN (pe_dget hu (pv 0) pe_str (fun _ _ => rfl)) (pv 1)) rfl)
      (pss_one (ps_ret (pv 2))))) pss_nil)
      (pss_cons (ps_set (i := 3) scLDraw.nd rfl (Or.inl rfl) (pe_dget hu (pv 0) pe_str (fun _ _ => rfl)))
      (pss_cons (ps_dput hu (pv 0) pe_str (pe_op op_add (pv 3) pe_int) rfl)
      (pss_cons (ps_set (i := 4) scLDraw.nd rfl (Or.inl rfl) (pe_op op_add (pe_op op_mul pe_int (pv 3)) pe_int))
      (Evl.pss_cut (ps_if (pt_cmpR (op_neD hr.units) (pe_dget hu (pv 0) pe_str (fun _ _ => rfl)) (pe_lst pa_nil) (nomark _)) (pss_one (ps_set (i := 4) scLDraw.nd rfl (Or.inl rfl) (pe_ix ix_list (pe_dget hu (pv 0) pe_str (fun _ _ => rfl)) (pe_op op_modN (pv 3) (pe_callB call_len_seq (by rfl) T.m_len PySem.boot_len (pa_cons (pe_dget hu (pv 0) pe_str (fun _ _ => rfl)) pa_nil))) (fun _ _ => rfl)))) pss_nil)
      (Evl.pss_cut (ps_if (PW.pt (pw_and (pt_cmpR op_lt (pv 3) (pe_callB call_len_seq (by rfl) T.m_len PySem.boot_len (pa_cons (pe_dget hu (pv 0) pe_str (fun _ _ => rfl)) pa_nil)) (nomark _)) (pw_and1 (pt_cmpR op_ge (pe_callB call_abs (by rfl) T.m_abs (by decide +kernel) (pa_cons (pv 4) pa_nil)) (pe_op op_pow pe_int pe_int) (nomark _))))) (pss_cons (ps_dput hu (pv 0) pe_str (pe_op op_fdivN (pe_op op_sub (pe_callB call_abs (by rfl) T.m_abs (by decide +kernel) (pa_cons (pv 4) pa_nil)) (pe_op op_pow pe_int pe_int)) (pv 1)) rfl)
      (pss_one (ps_ret (pe_op op_modN (pe_op op_sub (pe_callB call_abs (by rfl) T.m_abs (by decide +kernel) (pa_cons (pv 4) pa_nil)) (pe_op op_pow pe_int pe_int)) (pv 1))))) pss_nil)
      (pss_cons (ps_set (i := 5) scLDraw.nd rfl (Or.inl rfl) (pe_op op_add (pe_op op_mul (pe_op op_modN (pv 4) pe_int) pe_int) (pe_op op_mul (pe_op op_mul pe_int (pv 3)) (pv 3))))
      (pss_cons (ps_set (i := 5) scLDraw.nd rfl (Or.inl rfl) (pe_op op_modN (pe_op op_add (pe_op op_add (pv 5) (pe_op op_mul pe_int (pv 3))) pe_int) pe_int))
      (pss_cons (ps_set (i := 5) scLDraw.nd rfl (Or.inl rfl) (pe_op op_modN (pe_op op_add (pe_op op_add (pe_op op_add (pe_op op_mul (pv 5) (pv 5)) (pe_op op_mul pe_int (pv 5))) (pe_op op_mul pe_int (pv 3))) pe_int) pe_int))
      (pss_one (ps_ret (pe_op op_modN (pe_op op_fdivN (pe_op op_modN (pe_op op_mul (pv 5) (pe_op op_add (pv 5) pe_int)) pe_int) pe_int) (pv 1))))))))))))), ?_⟩
    refine ⟨_, rfl, d, _, rfl, gR, _, _, rfl, rfl, _, rfl, ite2 (fun e => ?_) (fun e => ?_)⟩
    · -- a digit of the rest
      refine ⟨_, rfl, d, _, rfl, gR, _, rfl, r, n, rfl, rfl, nz, ?_⟩
      refine ⟨_, rfl, d, _, rfl, gR, _, rfl, r, n, rfl, rfl, ⟨nz, na⟩, _, rfl, d, _, rfl, DPut.k (k := Sum.inr "rest") hd (by show 3 < sizeLine; decide), ?_⟩
      rw [sput_rest]
      exact ⟨_, rfl, q _ _ t But.set (src_set src (div_in n0 r0)) (Nat.le_succ _) (mod_in n0).1 (mod_in n0).2⟩
    · -- turn, turn + 1
      refine ⟨_, rfl, d, _, rfl, gT, ?_⟩
      refine ⟨_, rfl, t, 1, rfl, rfl, _, rfl, d, _, rfl, DPut.k (k := Sum.inr "index") hd (by show 3 < sizeLine; decide), ?_⟩
      rw [sput_index, show (t : Int) + 1 = ((t + 1 : Nat) : Int) by omega]
      have src1 : Src (upd H d (.dK (srcD c ((t + 1 : Nat) : Int) r))) d c (t + 1) := src_set src r0
      have but1 : But d H (upd H d (.dK (srcD c ((t + 1 : Nat) : Int) r))) := But.set
      generalize eH1 : upd H d (.dK (srcD c ((t + 1 : Nat) : Int) r)) = H1 at *
      have hc1 : H1 c = some (.lst (ns.map V.int)) := but1 _ _ ndc.symm hc
      have hd1 : H1 d = some (.dK (srcD c ((t + 1 : Nat) : Int) r)) := by rw [← eH1, upd_same]
      have gC1 := DGet.k (k := Sum.inr "cells") hd1
      rw [src_cells] at gC1
      -- cell
      refine ⟨_, rfl, 53, t, rfl, rfl, .inl ⟨by decide, by decide⟩, _, 19, rfl, rfl, ?_⟩
      -- if cells != []
      refine ⟨fun σ' H' => ∃ (v : Int) (o2 o5 : Option V), σ' = [some (.ref d), some (.int n), o2, some (.int t), some (.int v), o5] ∧ Same H1 H', ?_, ?_⟩
      · refine ⟨_, rfl, d, _, rfl, gC1, Nat.zero_le _, fun p np => ?_⟩
        have sm := same_new (o := .lst []) np
        refine ⟨.list (ns.map PyData.int), .list [], .lst (SqL.of (sm _ _ hc1)) (ints_dp ns), .lst (SqL.of upd_same) .nil, PySem.W.ke_shaped_ints ns, rfl, _, rfl, ite2 (fun e => ?_) (fun e => ?_)⟩
        · have hne : ns ≠ [] := by
            rintro rfl
            exact absurd e (by decide)
          have gC2 := DGet.k (k := Sum.inr "cells") (sm _ _ hd1)
          rw [src_cells] at gC2
          have hlen : 0 < ns.length := List.length_pos_iff.mpr hne
          obtain ⟨j, hj⟩ := nat_of (mod_in (a := t) (b := ((ns.map V.int).length : Int)) (by rw [List.length_map]; omega)).1
          have hj2 : j < ns.length := by
            have h2 := (mod_in (a := t) (b := ((ns.map V.int).length : Int)) (by rw [List.length_map]; omega)).2
            rw [hj, List.length_map] at h2
            omega
          refine ⟨_, rfl, d, _, rfl, gC2, _, rfl, _, rfl, d, _, rfl, gC2, c, _, rfl, .inl (SqL.of (sm _ _ hc1)), t, _, rfl, rfl, (by rw [List.length_map]; omega), c, ns.map V.int, _, .int ns[j], rfl, rfl, SqL.of (sm _ _ hc1), ?_, ?_⟩
          · rw [hj]
            exact atI_nat (by rw [List.getElem?_map, List.getElem?_eq_getElem hj2]; rfl)
          · exact ⟨_, _, _, rfl, sm⟩
        · exact ⟨_, _, _, rfl, sm⟩
      · rintro σ' H2 ⟨v, o2, o5, rfl, sm⟩
        have hd2 := sm _ _ hd1
        have hc2 := sm _ _ hc1
        have src2 : Src H2 d c (t + 1) := src1.same sm
        have but2 : But d H H2 := but1.trans (But.same sm)
        have gC2 := DGet.k (k := Sum.inr "cells") hd2
        rw [src_cells] at gC2
        clear e hd hc gC gT gR hd1 hc1 gC1 src1 but1 eH1 sm src
        -- if turn < len(cells) and abs(cell) >= 10 ** 18
        refine ⟨fun σ' H' => σ' = [some (.ref d), some (.int n), o2, some (.int t), some (.int v), o5] ∧ H' = H2, ?_, ?_⟩
        · refine ⟨_, rfl, _, rfl, d, _, rfl, gC2, c, _, rfl, .inl (SqL.of hc2), _, _, rfl, rfl, _, rfl, ite2 (fun e1 => ?_) (fun e1 => ?_)⟩
          · refine ⟨_, rfl, _, rfl, 10, 18, rfl, rfl, ⟨by decide, by decide, by decide⟩, _, _, rfl, rfl, _, rfl, ite2 (fun e2 => ?_) (fun e2 => ⟨rfl, rfl⟩)⟩
            have ab : (0 : Int) ≤ (if v < 0 then -v else v) - 10 ^ 18 := by
              have h2 := of_decide_eq_true e2
              have h3 : (10 : Int) ^ (18 : Int).toNat = 10 ^ 18 := rfl
              omega
            refine ⟨_, rfl, _, rfl, 10, 18, rfl, rfl, ⟨by decide, by decide, by decide⟩, _, _, rfl, rfl, _, rfl, _, _, rfl, rfl, ⟨nz, na⟩, _, rfl, d, _, rfl, DPut.k (k := Sum.inr "rest") hd2 (by show 3 < sizeLine; decide), ?_⟩
            rw [sput_rest]
            refine ⟨_, rfl, _, rfl, 10, 18, rfl, rfl, ⟨by decide, by decide, by decide⟩, _, _, rfl, rfl, _, rfl, _, _, rfl, rfl, nz, ?_⟩
            exact q _ _ (t + 1) (but2.trans But.set) (src_set src2 (div_in n0 ab)) (Nat.le_refl _) (mod_in n0).1 (mod_in n0).2
          · exact ⟨rfl, rfl⟩
        · rintro σ' H' ⟨rfl, rfl⟩
          refine ⟨_, rfl, _, 2147483647, rfl, rfl, (by show (2147483647 : Int) ≠ 0; decide), _, 48271, rfl, rfl, .inr ⟨by decide, by decide⟩, ?_⟩
          refine ⟨_, rfl, 69621, t, rfl, rfl, .inl ⟨by decide, by decide⟩, _, rfl, _, t, rfl, rfl, .inr ⟨by omega, by omega⟩, _, _, rfl, rfl, ?_⟩
          generalize e0 : v.fmod 2147483647 * 48271 + 69621 * (t : Int) * t = m0
          refine ⟨_, rfl, _, rfl, 40014, t, rfl, rfl, .inl ⟨by decide, by decide⟩, m0, _, congrArg V.int e0, rfl, _, 29, rfl, rfl, _, 2147483629, rfl, rfl, (by show (2147483629 : Int) ≠ 0; decide), ?_⟩
          have m1 := mod_in (a := m0 + 40014 * (t : Int) + 29) (b := 2147483629) (by decide)
          generalize em : (m0 + 40014 * (t : Int) + 29).fmod 2147483629 = m at m1
          refine ⟨_, rfl, _, rfl, m, m, congrArg V.int em, congrArg V.int em, .inl ⟨by omega, by omega⟩, _, rfl, 16807, m, rfl, congrArg V.int em, .inl ⟨by decide, by decide⟩, _, _, rfl, rfl, _, rfl, 3, t, rfl, rfl, .inl ⟨by decide, by decide⟩, _, _, rfl, rfl, _, 5, rfl, rfl, _, 2147483587, rfl, rfl, (by show (2147483587 : Int) ≠ 0; decide), ?_⟩
          have m2 := mod_in (a := m * m + 16807 * m + 3 * (t : Int) + 5) (b := 2147483587) (by decide)
          generalize em' : (m * m + 16807 * m + 3 * (t : Int) + 5).fmod 2147483587 = m' at m2
          refine ⟨_, rfl, _, rfl, m', 40692, congrArg V.int em', rfl, m', _, congrArg V.int em', rfl, .inl ⟨by omega, by omega⟩, _, 2147483579, rfl, rfl, (by show (2147483579 : Int) ≠ 0; decide), _, 64, rfl, rfl, ⟨by decide, by decide⟩, _, rfl, _, n, rfl, rfl, nz, ?_⟩
          exact q _ _ (t + 1) but2 src2 (Nat.le_refl _) (mod_in n0).1 (mod_in n0).2
end
end Mo

namespace Mo
open PySem PySem.Spec PyProof.Rows L2
section
variable {P : Program} {w : World} {K : PySem.W.Frag} {mg : Str → Option Value} {base : Heap}
theorem ok_pick {k : Nat} (T : Txt K mg) : FnOk P w K mg base CX0 (k + 2) T.aLPick T.dLPick ["_law_pen_here", "_law_options"] (spSPick K) := by
  have GLDraw : FnOk P w K mg base CX0 (k + 1) T.aLDraw T.dLDraw ["_law_pen_here", "_law_count"] spSDraw := ok_draw T
  refine T.fLPick.ok scLPick (fun vs H Q E h => ?_) (fun cdv A outer s H vs Q E hr h => ?_)
  · obtain ⟨d, c, l, xs, t, rfl, _⟩ := h
    rfl
  · obtain ⟨d, c, l, xs, t, rfl, src, hl, nld, h0, h1, ht, q⟩ := h
    refine ⟨_, (pss_one (ps_ret (pe_ix ix_list (pv 1) (pe_call GLDraw hr (by rfl) T.gLDraw T.fLDraw.kp T.bLDraw .nil pass0 (pa_cons (pv 0) (pa_cons (pe_callB call_len_seq (by rfl) T.m_len PySem.boot_len (pa_cons (pv 1) pa_nil)) pa_nil))) (fun _ _ => rfl)))), ?_⟩
    refine ⟨_, rfl, _, rfl, _, rfl, l, xs, rfl, .inl hl, d, c, _, t, rfl, src, by omega, by omega, ht, fun H' k t' but src' ht' k0 k1 => ?_⟩
    obtain ⟨j, rfl⟩ := nat_of k0
    have hj : j < xs.length := by omega
    have hl' : SqL K H' l xs := by
      rcases hl with (e | ⟨o, e⟩) | e
      · exact .inl (.inl (but _ _ nld e))
      · exact .inl (.inr ⟨o, but _ _ nld e⟩)
      · exact .inr e
    exact ⟨l, xs, j, xs[j], rfl, rfl, hl', atI_nat (List.getElem?_eq_getElem hj), q H' _ t' but src' ht' (List.getElem_mem hj)⟩
end
end Mo

namespace Mo
open PySem PySem.Spec PyProof.Rows L2
/-- ascii -/
def Asc (cs : List Nat) : Prop := ∀ c ∈ cs, c < 128
theorem Asc.app {a b : List Nat} (h : Asc a) (g : Asc b) : Asc (a ++ b) := fun c hc => (List.mem_append.mp hc).elim (h c) (g c)
theorem Asc.take {a : List Nat} (h : Asc a) (n : Nat) : Asc (a.take n) := fun c hc => h c (List.mem_of_mem_take hc)
theorem Asc.drop {a : List Nat} (h : Asc a) (n : Nat) : Asc (a.drop n) := fun c hc => h c (List.mem_of_mem_drop hc)
theorem cut_any (zs : List Nat) (lo hi : Option Int) : ∃ ys, cutS (tx zs) lo hi = tx ys ∧ ys.length ≤ zs.length ∧ (Asc zs → Asc ys) := by
  refine ⟨_, cut_tx zs lo hi, ?_, fun h => (h.drop _).take _⟩
  rw [List.length_take, List.length_drop]
  omega
theorem cut_one (zs : List Nat) {a b : Int} (h : 0 ≤ a) (hb : b = a + 1) : ∃ ys, cutS (tx zs) (some a) (some b) = tx ys ∧ ys.length ≤ 1 ∧ (Asc zs → Asc ys) := by
  subst hb
  refine ⟨_, cut_tx zs (some a) (some (a + 1)), ?_, fun h => (h.drop _).take _⟩
  rw [List.length_take]
  have e1 : HT.sIx zs.length 0 (some a) = min a.toNat zs.length := by
    show (if a < 0 then _ else _) = _
    rw [if_neg (by omega)]
  have e2 : HT.sIx zs.length zs.length (some (a + 1)) = min (a + 1).toNat zs.length := by
    show (if a + 1 < 0 then _ else _) = _
    rw [if_neg (by omega)]
  rw [e1, e2]
  omega
section
variable {P : Program} {w : World} {K : PySem.W.Frag} {mg : Str → Option Value} {base : Heap}
/-- a line bent -/
def spBent (K : PySem.W.Frag) : Sp := fun vs H Q _ => ∃ (d c : Addr) (t : Nat) (cs : List Nat) (l : Addr) (xs : List V), vs = [.ref d, .str (tx cs), .ref l] ∧ Src H d c t ∧ t + 100 < 1073741824 ∧ cs.length ≤ 2000 ∧ Asc cs ∧ H l = some (.lst xs) ∧ l ≠ d ∧ 0 < xs.length ∧ xs.length < 100 ∧ (∀ v ∈ xs, ∃ z : List Nat, v = .str (tx z) ∧ z.length ≤ 4 ∧ Asc z) ∧
  ∀ H' cs' t', But d H H' → Src H' d c t' → t' ≤ t + 4 → cs'.length ≤ 2 * cs.length + 4 → Asc cs' → Q (.str (tx cs')) H'
theorem ok_bent {k : Nat} (T : Txt K mg) : FnOk P w K mg base CX0 (k + 3) T.aLBent T.dLBent ["_law_pen_here", "_law_line", "_law_signs"] (spBent K) := by
  have GLDraw : FnOk P w K mg base CX0 (k + 2) T.aLDraw T.dLDraw ["_law_pen_here", "_law_count"] spSDraw := ok_draw T
  have GLPick : FnOk P w K mg base CX0 (k + 2) T.aLPick T.dLPick ["_law_pen_here", "_law_options"] (spSPick K) := ok_pick T
  refine T.fLBent.ok scLBent (fun vs H Q E h => ?_) (fun cdv A outer s H vs Q E hr h => ?_)
  · obtain ⟨_, _, _, _, _, _, rfl, _⟩ := h
    rfl
  · obtain ⟨d, c, t, cs, l, xs, rfl, src, ht, hl, low, hsq, nld, x0, x1, hx, q⟩ := h
    refine ⟨_, (pss_cons (ps_par3 (i := 3) (j := 4) (l := 5) (by rfl) scLBent.nd rfl rfl rfl (by decide) (by decide) (by decide) rfl rfl rfl (pa_cons (pe_call GLDraw hr (by rfl) T.gLDraw T.fLDraw.kp T.bLDraw .nil pass0 (pa_cons (pv 0) (pa_cons (pe_op op_add (pe_callB call_len_str (by rfl) T.m_len PySem.boot_len (pa_cons (pv 1) pa_nil)) pe_int) pa_nil))) (pa_cons (pe_call GLDraw hr (by rfl) T.gLDraw T.fLDraw.kp T.bLDraw .nil pass0 (pa_cons (pv 0) (pa_cons (pe_op op_add (pe_callB call_len_str (by rfl) T.m_len PySem.boot_len (pa_cons (pv 1) pa_nil)) pe_int) pa_nil))) (pa_cons (pe_call GLPick hr (by rfl) T.gLPick T.fLPick.kp T.bLPick .nil pass0 (pa_cons (pv 0) (pa_cons (pv 2) pa_nil))) pa_nil))) (by rfl))
      (pss_cons (ps_set (i := 6) scLBent.nd rfl (Or.inl rfl) (pe_call GLDraw hr (by rfl) T.gLDraw T.fLDraw.kp T.bLDraw .nil pass0 (pa_cons (pv 0) (pa_cons pe_int pa_nil))))
      (pss_cons (ps_if (pt_cmpR op_lt (pv 6) pe_int (nomark _)) (pss_one (ps_ret (pe_op op_add_str (pe_op op_add_str (pe_slice sl_str (pv 1) po_none (po_some (pv 3))) (pv 5)) (pe_slice sl_str (pv 1) (po_some (pv 3)) po_none)))) pss_nil)
      (pss_cons (ps_if (pt_cmpR op_eq (pv 6) pe_int (nomark _)) (pss_one (ps_ret (pe_op op_add_str (pe_slice sl_str (pv 1) po_none (po_some (pv 3))) (pe_slice sl_str (pv 1) (po_some (pe_op op_add (pv 3) pe_int)) po_none)))) pss_nil)
      (pss_cons (ps_if (pt_cmpR op_eq (pv 6) pe_int (nomark _)) (pss_one (ps_ret (pe_op op_add_str (pe_op op_add_str (pe_slice sl_str (pv 1) po_none (po_some (pv 3))) (pv 5)) (pe_slice sl_str (pv 1) (po_some (pe_op op_add (pv 3) pe_int)) po_none)))) pss_nil)
      (pss_cons (ps_if (pt_cmpR op_eq (pv 6) pe_int (nomark _)) (pss_one (ps_ret (pe_op op_add_str (pe_op op_add_str (pe_slice sl_str (pv 1) po_none (po_some (pv 3))) (pe_slice sl_str (pv 1) (po_some (pv 3)) (po_some (pe_op op_add (pv 3) pe_int)))) (pe_slice sl_str (pv 1) (po_some (pv 3)) po_none)))) pss_nil)
      (pss_cons (ps_if (pt_cmpR op_eq (pv 6) pe_int (nomark _)) (pss_cons (ps_set (i := 7) scLBent.nd rfl (Or.inl rfl) (pe_op op_add_str (pe_slice sl_str (pv 1) (po_some (pe_op op_add (pv 3) pe_int)) (po_some (pe_op op_add (pv 3) pe_int))) (pe_slice sl_str (pv 1) (po_some (pv 3)) (po_some (pe_op op_add (pv 3) pe_int)))))
      (pss_one (ps_ret (pe_op op_add_str (pe_op op_add_str (pe_slice sl_str (pv 1) po_none (po_some (pv 3))) (pv 7)) (pe_slice sl_str (pv 1) (po_some (pe_op op_add (pv 3) pe_int)) po_none))))) pss_nil)
      (pss_cons (ps_if (pt_cmpR op_eq (pv 6) pe_int (nomark _)) (pss_one (ps_ret (pe_op op_add_str (pe_slice sl_str (pv 1) po_none (po_some (pe_callB (call_min2 rfl) (by rfl) T.m_min (by decide +kernel) (pa_cons (pv 3) (pa_cons (pv 4) pa_nil))))) (pe_slice sl_str (pv 1) (po_some (pe_callB (call_max2 rfl) (by rfl) T.m_max (by decide +kernel) (pa_cons (pv 3) (pa_cons (pv 4) pa_nil)))) po_none)))) pss_nil)
      (pss_one (ps_ret (pe_slice sl_str (pv 1) po_none (po_some (pv 3))))))))))))), ?_⟩
    have sz : ∀ m, m ≤ 300000 → m ≤ sizeLine := fun m hm => Nat.le_trans hm (by decide)
    have lenC : (tx cs).length = cs.length := tx_len cs
    refine ⟨_, rfl, _, rfl, _, rfl, sz _ (by rw [lenC]; omega), _, _, rfl, rfl, ?_⟩
    rw [lenC]
    refine ⟨d, c, _, t, rfl, src, by omega, by omega, by omega, fun H1 at0 t1 but1 src1 ht1 a0 a1 => ?_⟩
    refine ⟨_, rfl, _, rfl, _, rfl, sz _ (by rw [lenC]; omega), _, _, rfl, rfl, ?_⟩
    rw [lenC]
    refine ⟨d, c, _, t1, rfl, src1, by omega, by omega, by omega, fun H2 ot t2 but2 src2 ht2 o0 o1 => ?_⟩
    have hsq2 : SqL K H2 l xs := SqL.of ((but1.trans but2) _ _ nld hsq)
    refine ⟨_, rfl, _, rfl, d, c, l, xs, t2, rfl, src2, hsq2, nld, x0, by omega, by omega, fun H3 v t3 but3 src3 ht3 hv => ?_⟩
    obtain ⟨z, rfl, zl, zlow⟩ := hx v hv
    refine ⟨_, _, _, rfl, ?_⟩
    refine ⟨_, rfl, d, c, 8, t3, rfl, src3, by decide, by decide, by omega, fun H4 wy t4 but4 src4 ht4 w0 w1 => ?_⟩
    have fin : ∀ ys : List Nat, ys.length ≤ 2 * cs.length + 4 → Asc ys → Q (.str (tx ys)) H4 := fun ys h1 h2 => q H4 ys t4 (((but1.trans but2).trans but3).trans but4) src4 (by omega) h1 h2
    have szc : (tx cs).length ≤ sizeLine := sz _ (by rw [lenC]; omega)
    clear hx hv hsq hsq2 src src1 src2 src3
    refine ⟨_, rfl, _, _, rfl, rfl, decide (wy < 2), rfl, ?_⟩
    by_cases c0 : wy < 2
    · rw [decide_eq_true c0]
      obtain ⟨y1, e1, l1, w1⟩ := cut_any cs none (some at0)
      obtain ⟨y2, e2, l2, w2⟩ := cut_any cs (some at0) none
      refine iteT ⟨_, rfl, _, rfl, _, rfl, tx cs, rfl, szc, _, rfl, tx y1, tx z, congrArg V.str e1, rfl, sz _ (by rw [tx_len, tx_len]; omega), ?_⟩
      rw [tx_app]
      refine ⟨_, rfl, _, rfl, _, rfl, tx cs, rfl, szc, tx (y1 ++ z), tx y2, rfl, congrArg V.str e2, sz _ (by rw [tx_len, tx_len, List.length_append]; omega), ?_⟩
      rw [tx_app]
      exact fin _ (by rw [List.length_append, List.length_append]; omega) (((w1 low).app zlow).app (w2 low))
    rw [decide_eq_false c0]
    refine iteF ⟨_, rfl, rfl, decide (V.int wy = V.int 2), rfl, ?_⟩
    by_cases c2 : V.int wy = V.int 2
    · rw [decide_eq_true c2]
      obtain ⟨y1, e1, l1, w1⟩ := cut_any cs none (some at0)
      obtain ⟨y2, e2, l2, w2⟩ := cut_any cs (some (at0 + 1)) none
      refine iteT ⟨_, rfl, _, rfl, _, rfl, tx cs, rfl, szc, _, rfl, _, rfl, _, _, rfl, rfl, _, rfl, tx cs, rfl, szc, tx y1, tx y2, congrArg V.str e1, congrArg V.str e2, sz _ (by rw [tx_len, tx_len]; omega), ?_⟩
      rw [tx_app]
      exact fin _ (by rw [List.length_append]; omega) ((w1 low).app (w2 low))
    rw [decide_eq_false c2]
    refine iteF ⟨_, rfl, rfl, decide (V.int wy = V.int 3), rfl, ?_⟩
    by_cases c3 : V.int wy = V.int 3
    · rw [decide_eq_true c3]
      obtain ⟨y1, e1, l1, w1⟩ := cut_any cs none (some at0)
      obtain ⟨y2, e2, l2, w2⟩ := cut_any cs (some (at0 + 1)) none
      refine iteT ⟨_, rfl, _, rfl, _, rfl, tx cs, rfl, szc, _, rfl, tx y1, tx z, congrArg V.str e1, rfl, sz _ (by rw [tx_len, tx_len]; omega), ?_⟩
      rw [tx_app]
      refine ⟨_, rfl, _, rfl, _, _, rfl, rfl, _, rfl, tx cs, rfl, szc, tx (y1 ++ z), tx y2, rfl, congrArg V.str e2, sz _ (by rw [tx_len, tx_len, List.length_append]; omega), ?_⟩
      rw [tx_app]
      exact fin _ (by rw [List.length_append, List.length_append]; omega) (((w1 low).app zlow).app (w2 low))
    rw [decide_eq_false c3]
    refine iteF ⟨_, rfl, rfl, decide (V.int wy = V.int 4), rfl, ?_⟩
    by_cases c4 : V.int wy = V.int 4
    · rw [decide_eq_true c4]
      obtain ⟨y1, e1, l1, w1⟩ := cut_any cs none (some at0)
      obtain ⟨y2, e2, l2, w2⟩ := cut_one cs (a := at0) (b := at0 + 1) a0 rfl
      obtain ⟨y3, e3, l3, w3⟩ := cut_any cs (some at0) none
      refine iteT ⟨_, rfl, _, rfl, _, rfl, tx cs, rfl, szc, _, rfl, _, rfl, _, rfl, _, rfl, _, _, rfl, rfl, _, rfl, tx cs, rfl, szc, tx y1, tx y2, congrArg V.str e1, congrArg V.str e2, sz _ (by rw [tx_len, tx_len]; omega), ?_⟩
      rw [tx_app]
      refine ⟨_, rfl, _, rfl, _, rfl, tx cs, rfl, szc, tx (y1 ++ y2), tx y3, rfl, congrArg V.str e3, sz _ (by rw [tx_len, tx_len, List.length_append]; omega), ?_⟩
      rw [tx_app]
      exact fin _ (by rw [List.length_append, List.length_append]; omega) (((w1 low).app (w2 low)).app (w3 low))
    rw [decide_eq_false c4]
    refine iteF ⟨_, rfl, rfl, decide (V.int wy = V.int 5), rfl, ?_⟩
    by_cases c5 : V.int wy = V.int 5
    · rw [decide_eq_true c5]
      obtain ⟨y1, e1, l1, w1⟩ := cut_one cs (a := at0 + 1) (b := at0 + 2) (by omega) (by omega)
      obtain ⟨y2, e2, l2, w2⟩ := cut_one cs (a := at0) (b := at0 + 1) a0 rfl
      obtain ⟨y3, e3, l3, w3⟩ := cut_any cs none (some at0)
      obtain ⟨y4, e4, l4, w4⟩ := cut_any cs (some (at0 + 2)) none
      refine iteT ⟨_, rfl, _, rfl, _, _, rfl, rfl, _, rfl, _, rfl, _, _, rfl, rfl, _, rfl, tx cs, rfl, szc, _, rfl, _, rfl, _, rfl, _, rfl, _, _, rfl, rfl, _, rfl, tx cs, rfl, szc, tx y1, tx y2, congrArg V.str e1, congrArg V.str e2, sz _ (by rw [tx_len, tx_len]; omega), ?_⟩
      rw [tx_app]
      refine ⟨_, rfl, _, rfl, _, rfl, tx cs, rfl, szc, _, rfl, tx y3, tx (y1 ++ y2), congrArg V.str e3, rfl, sz _ (by rw [tx_len, tx_len, List.length_append]; omega), ?_⟩
      rw [tx_app]
      refine ⟨_, rfl, _, rfl, _, _, rfl, rfl, _, rfl, tx cs, rfl, szc, tx (y3 ++ (y1 ++ y2)), tx y4, rfl, congrArg V.str e4, sz _ (by rw [tx_len, tx_len, List.length_append, List.length_append]; omega), ?_⟩
      rw [tx_app]
      exact fin _ (by rw [List.length_append, List.length_append, List.length_append]; omega) (((w3 low).app ((w1 low).app (w2 low))).app (w4 low))
    rw [decide_eq_false c5]
    refine iteF ⟨_, rfl, rfl, decide (V.int wy = V.int 6), rfl, ?_⟩
    by_cases c6 : V.int wy = V.int 6
    · rw [decide_eq_true c6]
      obtain ⟨y1, e1, l1, w1⟩ := cut_any cs none (some (if ot < at0 then ot else at0))
      obtain ⟨y2, e2, l2, w2⟩ := cut_any cs (some (if ot > at0 then ot else at0)) none
      refine iteT ⟨_, rfl, _, rfl, _, rfl, _, _, rfl, _, rfl, tx cs, rfl, szc, _, rfl, _, rfl, _, rfl, _, _, rfl, _, rfl, tx cs, rfl, szc, tx y1, tx y2, congrArg V.str e1, congrArg V.str e2, sz _ (by rw [tx_len, tx_len]; omega), ?_⟩
      rw [tx_app]
      exact fin _ (by rw [List.length_append]; omega) ((w1 low).app (w2 low))
    rw [decide_eq_false c6]
    obtain ⟨y1, e1, l1, w1⟩ := cut_any cs none (some at0)
    refine iteF ⟨_, rfl, _, rfl, _, rfl, tx cs, rfl, szc, ?_⟩
    have := fin y1 (by omega) (w1 low)
    rw [← e1] at this
    exact this
end
end Mo

namespace Mo
open PySem PySem.Spec PyProof.Rows L2
/-- the signs that are drawn -/
def nms (f s n : Nat) : List Nat := (List.range n).map fun k => 97 + (f + s * k) % 26
theorem nms_len (f s n : Nat) : (nms f s n).length = n := by unfold nms; rw [List.length_map, List.length_range]
theorem nms_low (f s n : Nat) : ∀ c ∈ nms f s n, lowB c = true := fun c hc => by
  obtain ⟨k, _, rfl⟩ := List.mem_map.mp hc
  have h : (f + s * k) % 26 < 26 := Nat.mod_lt _ (by decide)
  generalize (f + s * k) % 26 = m at h
  exact (by decide +kernel : ∀ m : Fin 26, lowB (97 + m.val) = true) ⟨m, h⟩
def stepsL : List Nat := [1, 3, 5, 7, 9, 11, 15, 17, 19, 21, 23, 25]
theorem nms_nod {f s n : Nat} (hs : s ∈ stepsL) (hn : n ≤ 8) : (nms f s n).Nodup := by
  unfold nms List.Nodup
  rw [List.pairwise_map]
  refine List.Pairwise.imp_of_mem (fun {i j} hi hj lt => ?_) (List.pairwise_lt_range)
  have hi := List.mem_range.mp hi
  have hj := List.mem_range.mp hj
  simp only [stepsL, List.mem_cons, List.not_mem_nil, or_false] at hs
  rcases hs with rfl | rfl | rfl | rfl | rfl | rfl | rfl | rfl | rfl | rfl | rfl | rfl <;> omega
theorem at_abc {m : Nat} (h : m < 26) : atI (Str.ofString "abcdefghijklmnopqrstuvwxyz").cps.toList ((m : Nat) : Int) = some (97 + m) := (by decide +kernel : ∀ m : Fin 26, atI (Str.ofString "abcdefghijklmnopqrstuvwxyz").cps.toList ((m.val : Nat) : Int) = some (97 + m.val)) ⟨m, h⟩
theorem nms_succ (f s n : Nat) : nms f s (n + 1) = nms f s n ++ [97 + (f + s * n) % 26] := by
  unfold nms
  rw [List.range_succ, List.map_append]
  rfl
theorem sum_one : ∀ cs : List Nat, ((cs.map fun c => (⟨#[c]⟩ : Str)).map (·.length)).sum = cs.length
  | [] => rfl
  | c :: r => by
    rw [List.map_cons, List.map_cons, List.sum_cons, sum_one r, List.length_cons]
    show 1 + r.length = _
    omega
section
variable {P : Program} {w : World} {K : PySem.W.Frag} {mg : Str → Option Value} {base : Heap}
def spLet : Sp := fun vs H Q _ => ∃ (d c : Addr) (n t : Nat), vs = [.ref d, .int n] ∧ Src H d c t ∧ n ≤ 8 ∧ t + 200 < 1073741824 ∧
  ∀ H' f s t', But d H H' → Src H' d c t' → t' ≤ t + 2 → s ∈ stepsL → Q (.str (tx (nms f s n))) H'
theorem ok_let {k : Nat} (T : Txt K mg) : FnOk P w K mg base CX0 (k + 3) T.aLDrawnLetters T.dLDrawnLetters ["_law_pen_here", "_law_count"] spLet := by
  have GLDraw : FnOk P w K mg base CX0 (k + 2) T.aLDraw T.dLDraw ["_law_pen_here", "_law_count"] spSDraw := ok_draw T
  have GLPick : FnOk P w K mg base CX0 (k + 2) T.aLPick T.dLPick ["_law_pen_here", "_law_options"] (spSPick K) := ok_pick T
  refine T.fLDrawnLetters.ok scLDrawnLetters (fun vs H Q E h => ?_) (fun cdv A outer s H vs Q E hr h => ?_)
  · obtain ⟨_, _, _, _, rfl, _⟩ := h
    rfl
  · obtain ⟨d, c, n, t, rfl, src, hn, ht, q⟩ := h
    refine ⟨_, (pss_cons (ps_asg (pe_tup (pa_cons (pe_call GLDraw hr (by rfl) T.gLDraw T.fLDraw.kp T.bLDraw .nil pass0 (pa_cons (pv 0) (pa_cons pe_int pa_nil))) (pa_cons (pe_call GLPick hr (by rfl) T.gLPick T.fLPick.kp T.bLPick .nil pass0 (pa_cons (pv 0) (pa_cons (pe_lst (pa_cons pe_int (pa_cons pe_int (pa_cons pe_int (pa_cons pe_int (pa_cons pe_int (pa_cons pe_int (pa_cons pe_int (pa_cons pe_int (pa_cons pe_int (pa_cons pe_int (pa_cons pe_int (pa_cons pe_int pa_nil))))))))))))) pa_nil))) pa_nil))) (pg_tup (by rfl) (pgs_cons (pg_name (i := 2) scLDrawnLetters.nd rfl (Or.inr rfl)) (pgs_cons (pg_name (i := 3) scLDrawnLetters.nd rfl (Or.inr rfl)) pgs_nil))))
      (pss_one (ps_ret (pe_join pe_str (pe_lc (own := [("_law_k", 4)]) (g := gName 4) (tt := tYes) rfl scLDrawnLetters.nd (pi_range1 (by rfl) T.m_range (pa_cons (pv 1) pa_nil)) (blkOk_by (N := ["_law_pen_here", "_law_count", "_law_first", "_law_step", "_law_k"]) (sc := defScope sLDrawnLetters) (by decide +kernel)) (fun _ _ _ _ _ => pg_name (i := 4) scLDrawnLetters.nd rfl (Or.inl rfl)) (fun _ _ _ _ _ => pts_nil) (fun _ _ _ _ _ => (pe_ix ix_str pe_str (pe_op op_modN (pe_op op_add (pv 2) (pe_op op_mul (pv 3) (pv 4))) pe_int) (fun _ _ => rfl)))))))), ?_⟩
    refine ⟨_, rfl, d, c, 26, t, rfl, src, by decide, by decide, by omega, fun H1 x t1 but1 src1 ht1 x0 x1 => ?_⟩
    obtain ⟨f, rfl⟩ := nat_of x0
    refine ⟨_, rfl, by show 12 ≤ sizeLine; decide, fun cl ncl => ?_⟩
    have s1 := same_new (o := .lst ((nat2 stepsL).map V.int)) ncl
    have nd := src1.new ncl
    refine ⟨d, c, cl, (nat2 stepsL).map V.int, t1, rfl, src1.same s1, SqL.of upd_same, nd.1, by show 0 < 12; decide, by show 12 < _; decide, by omega, fun H2 v t2 but2 src2 ht2 hv => ?_⟩
    obtain ⟨y, hy, rfl⟩ := List.mem_map.mp hv
    obtain ⟨sp, hsp, rfl⟩ := List.mem_map.mp hy
    refine ⟨by show 2 ≤ sizeLine; decide, fun tp ntp => ?_⟩
    have s3 := same_new (o := .tup [V.int ((f : Nat) : Int), V.int ((sp : Nat) : Int)]) ntp
    refine ⟨tp, _, rfl, SqT.of upd_same, rfl, _, _, rfl, _, _, rfl, rfl, ?_⟩
    have but3 : But d H (upd H2 tp (.tup [V.int ((f : Nat) : Int), V.int ((sp : Nat) : Int)])) := ((but1.trans (But.same s1)).trans but2).trans (But.same s3)
    have src3 := src2.same s3
    generalize upd H2 tp (.tup [V.int ((f : Nat) : Int), V.int ((sp : Nat) : Int)]) = H3 at *
    refine ⟨⟨_, rfl⟩, _, rfl, n, rfl, by omega, by omega, fun D nD => lc_range (lo := 0) (fun i H' => Same H3 H' ∧ H' D = some (.lst ((nms f sp i).map fun c => V.str ⟨#[c]⟩))) ?_ ?_ ?_⟩
    · exact ⟨same_new nD, upd_same⟩
    · rintro i H4 hi ⟨s4, hD⟩
      have hi2 : i < n := by
        have hi3 : i < Int.toNat _ := hi
        omega
      have em : (((f : Nat) : Int) + ((sp : Nat) : Int) * (0 + (i : Int))).fmod 26 = (((f + sp * i) % 26 : Nat) : Int) := by
        rw [Int.fmod_eq_emod_of_nonneg _ (by decide), Int.zero_add, ← Int.natCast_mul, ← Int.natCast_add]
        rfl
      refine ⟨rfl, _, rfl, _, rfl, _, rfl, _, _, rfl, rfl, ?_, _, _, rfl, rfl, _, 26, rfl, rfl, (by show (26 : Int) ≠ 0; decide), _, (((f + sp * i) % 26 : Nat) : Int), 97 + (f + sp * i) % 26, rfl, congrArg V.int em, by decide +kernel, at_abc (Nat.mod_lt _ (by decide)), _, hD, fitsLt (by rw [List.length_map, nms_len]; omega), Same.put s4 nD, ?_⟩
      · refine .inl ⟨by omega, ?_⟩
        have : sp ≤ 25 := (by decide : ∀ s ∈ stepsL, s ≤ 25) sp hsp
        omega
      · rw [upd_same, nms_succ, List.map_append]
        rfl
    · rintro H4 ⟨s4, hD⟩
      have en : ((n : Nat) : Int).toNat = n := Int.toNat_natCast n
      have hD : H4 D = some (.lst ((nms f sp n).map fun c => V.str ⟨#[c]⟩)) := by
        rw [← en]
        exact hD
      have e1 : ((nms f sp n).map fun c => V.str ⟨#[c]⟩) = ((nms f sp n).map fun c => (⟨#[c]⟩ : Str)).map V.str := by
        rw [List.map_map]
        rfl
      refine ⟨_, D, (nms f sp n).map fun c => (⟨#[c]⟩ : Str), rfl, rfl, .inl (SqL.of (by rw [← e1]; exact hD)), ?_, ?_⟩
      · have h1 := sum_one (nms f sp n)
        rw [nms_len] at h1
        rw [List.length_map, nms_len, show (Str.ofString "").length = 0 by decide +kernel]
        omega
      · rw [join_signs]
        exact q H4 f sp t2 (but3.trans (But.same s4)) (src3.same s4) (by omega) hsp
end
end Mo

namespace Mo
open PySem PySem.Spec PyProof.Rows L2
section
variable {P : Program} {w : World} {K : PySem.W.Frag} {mg : Str → Option Value} {base : Heap}
/-- a draw below any count of less than 2 ^ 70 -/
def spSDrW : Sp := fun vs H Q _ => ∃ (d c : Addr) (n : Int) (t : Nat), vs = [.ref d, .int n] ∧ Src H d c t ∧ 0 < n ∧ n < 2 ^ 70 ∧ t < 1073741824 ∧
  ∀ H' k t', But d H H' → Src H' d c t' → t' ≤ t + 1 → 0 ≤ k → k < n → Q (.int k) H'
theorem log70 {n : Int} (h0 : 0 < n) (h : n < 2 ^ 70) : n.natAbs.log2 < 9000 := by
  have h1 : n.natAbs < 2 ^ 70 := by omega
  have h2 : n.natAbs.log2 < 70 := (Nat.log2_lt (by omega)).mpr h1
  omega
theorem divW_in {a b : Int} (h : 0 < b) (ha : 0 ≤ a) : 0 ≤ a / b := Int.ediv_nonneg ha (Int.le_of_lt h)
theorem ok_drawW {k : Nat} (T : Txt K mg) : FnOk P w K mg base CX0 (k + 1) T.aLDraw T.dLDraw ["_law_pen_here", "_law_count"] spSDrW := by
  refine T.fLDraw.ok scLDraw (fun vs H Q E h => ?_) (fun cdv A outer s H vs Q E hr h => ?_)
  · obtain ⟨d, c, n, t, rfl, _⟩ := h
    rfl
  · obtain ⟨d, c, n, t, rfl, src, n0, n1, ht, q⟩ := h
    have hu := hu_of hr
    obtain ⟨ns, r, hd, hc, hl, r0⟩ := id src
    have ndc := src.ne
    have gC := DGet.k (k := Sum.inr "cells") hd
    have gT := DGet.k (k := Sum.inr "index") hd
    have gR := DGet.k (k := Sum.inr "rest") hd
    rw [src_cells] at gC
    rw [src_index] at gT
    rw [src_rest] at gR
    have nz : n ≠ 0 := by omega
    have na := log70 n0 n1
    refine ⟨_, (pss_cons (ps_if (pt_cmpR op_gt (pe_dget hu (pv 0) pe_str (fun _ _ => rfl)) pe_int (nomark _)) (pss_cons (ps_set (i := 2) scLDraw.nd rfl (Or.inl rfl) (pe_op op_modN (pe_dget hu (pv 0) pe_str (fun _ _ => rfl)) (pv 1)))
      (pss_cons (ps_dput hu (pv 0) pe_str (pe_op op_fdivW (pe_dget hu (pv 0) pe_str (fun _ _ => rfl)) (pv 1)) rfl)
      (pss_one (ps_ret (pv 2))))) pss_nil)
      (pss_cons (ps_set (i := 3) scLDraw.nd rfl (Or.inl rfl) (pe_dget hu (pv 0) pe_str (fun _ _ => rfl)))
      (pss_cons (ps_dput hu (pv 0) pe_str (pe_op op_add (pv 3) pe_int) rfl)
      (pss_cons (ps_set (i := 4) scLDraw.nd rfl (Or.inl rfl) (pe_op op_add (pe_op op_mul pe_int (pv 3)) pe_int))
      (Evl.pss_cut (ps_if (pt_cmpR (op_neD hr.units) (pe_dget hu (pv 0) pe_str (fun _ _ => rfl)) (pe_lst pa_nil) (nomark _)) (pss_one (ps_set (i := 4) scLDraw.nd rfl (Or.inl rfl) (pe_ix ix_list (pe_dget hu (pv 0) pe_str (fun _ _ => rfl)) (pe_op op_modN (pv 3) (pe_callB call_len_seq (by rfl) T.m_len PySem.boot_len (pa_cons (pe_dget hu (pv 0) pe_str (fun _ _ => rfl)) pa_nil))) (fun _ _ => rfl)))) pss_nil)
      (Evl.pss_cut (ps_if (PW.pt (pw_and (pt_cmpR op_lt (pv 3) (pe_callB call_len_seq (by rfl) T.m_len PySem.boot_len (pa_cons (pe_dget hu (pv 0) pe_str (fun _ _ => rfl)) pa_nil)) (nomark _)) (pw_and1 (pt_cmpR op_ge (pe_callB call_abs (by rfl) T.m_abs (by decide +kernel) (pa_cons (pv 4) pa_nil)) (pe_op op_pow pe_int pe_int) (nomark _))))) (pss_cons (ps_dput hu (pv 0) pe_str (pe_op op_fdivW (pe_op op_sub (pe_callB call_abs (by rfl) T.m_abs (by decide +kernel) (pa_cons (pv 4) pa_nil)) (pe_op op_pow pe_int pe_int)) (pv 1)) rfl)
      (pss_one (ps_ret (pe_op op_modN (pe_op op_sub (pe_callB call_abs (by rfl) T.m_abs (by decide +kernel) (pa_cons (pv 4) pa_nil)) (pe_op op_pow pe_int pe_int)) (pv 1))))) pss_nil)
      (pss_cons (ps_set (i := 5) scLDraw.nd rfl (Or.inl rfl) (pe_op op_add (pe_op op_mul (pe_op op_modN (pv 4) pe_int) pe_int) (pe_op op_mul (pe_op op_mul pe_int (pv 3)) (pv 3))))
      (pss_cons (ps_set (i := 5) scLDraw.nd rfl (Or.inl rfl) (pe_op op_modN (pe_op op_add (pe_op op_add (pv 5) (pe_op op_mul pe_int (pv 3))) pe_int) pe_int))
      (pss_cons (ps_set (i := 5) scLDraw.nd rfl (Or.inl rfl) (pe_op op_modN (pe_op op_add (pe_op op_add (pe_op op_add (pe_op op_mul (pv 5) (pv 5)) (pe_op op_mul pe_int (pv 5))) (pe_op op_mul pe_int (pv 3))) pe_int) pe_int))
      (pss_one (ps_ret (pe_op op_modN (pe_op op_fdivN (pe_op op_modN (pe_op op_mul (pv 5) (pe_op op_add (pv 5) pe_int)) pe_int) pe_int) (pv 1))))))))))))), ?_⟩
    refine ⟨_, rfl, d, _, rfl, gR, _, _, rfl, rfl, _, rfl, ite2 (fun e => ?_) (fun e => ?_)⟩
    · -- a digit of the rest
      refine ⟨_, rfl, d, _, rfl, gR, _, rfl, r, n, rfl, rfl, nz, ?_⟩
      refine ⟨_, rfl, d, _, rfl, gR, _, rfl, r, n, rfl, rfl, ⟨n0, na⟩, _, rfl, d, _, rfl, DPut.k (k := Sum.inr "rest") hd (by show 3 < sizeLine; decide), ?_⟩
      rw [sput_rest]
      exact ⟨_, rfl, q _ _ t But.set (src_set src (divW_in n0 r0)) (Nat.le_succ _) (mod_in n0).1 (mod_in n0).2⟩
    · -- turn, turn + 1
      refine ⟨_, rfl, d, _, rfl, gT, ?_⟩
      refine ⟨_, rfl, t, 1, rfl, rfl, _, rfl, d, _, rfl, DPut.k (k := Sum.inr "index") hd (by show 3 < sizeLine; decide), ?_⟩
      rw [sput_index, show (t : Int) + 1 = ((t + 1 : Nat) : Int) by omega]
      have src1 : Src (upd H d (.dK (srcD c ((t + 1 : Nat) : Int) r))) d c (t + 1) := src_set src r0
      have but1 : But d H (upd H d (.dK (srcD c ((t + 1 : Nat) : Int) r))) := But.set
      generalize eH1 : upd H d (.dK (srcD c ((t + 1 : Nat) : Int) r)) = H1 at *
      have hc1 : H1 c = some (.lst (ns.map V.int)) := but1 _ _ ndc.symm hc
      have hd1 : H1 d = some (.dK (srcD c ((t + 1 : Nat) : Int) r)) := by rw [← eH1, upd_same]
      have gC1 := DGet.k (k := Sum.inr "cells") hd1
      rw [src_cells] at gC1
      -- cell
      refine ⟨_, rfl, 53, t, rfl, rfl, .inl ⟨by decide, by decide⟩, _, 19, rfl, rfl, ?_⟩
      -- if cells != []
      refine ⟨fun σ' H' => ∃ (v : Int) (o2 o5 : Option V), σ' = [some (.ref d), some (.int n), o2, some (.int t), some (.int v), o5] ∧ Same H1 H', ?_, ?_⟩
      · refine ⟨_, rfl, d, _, rfl, gC1, Nat.zero_le _, fun p np => ?_⟩
        have sm := same_new (o := .lst []) np
        refine ⟨.list (ns.map PyData.int), .list [], .lst (SqL.of (sm _ _ hc1)) (ints_dp ns), .lst (SqL.of upd_same) .nil, PySem.W.ke_shaped_ints ns, rfl, _, rfl, ite2 (fun e => ?_) (fun e => ?_)⟩
        · have hne : ns ≠ [] := by
            rintro rfl
            exact absurd e (by decide)
          have gC2 := DGet.k (k := Sum.inr "cells") (sm _ _ hd1)
          rw [src_cells] at gC2
          have hlen : 0 < ns.length := List.length_pos_iff.mpr hne
          obtain ⟨j, hj⟩ := nat_of (mod_in (a := t) (b := ((ns.map V.int).length : Int)) (by rw [List.length_map]; omega)).1
          have hj2 : j < ns.length := by
            have h2 := (mod_in (a := t) (b := ((ns.map V.int).length : Int)) (by rw [List.length_map]; omega)).2
            rw [hj, List.length_map] at h2
            omega
          refine ⟨_, rfl, d, _, rfl, gC2, _, rfl, _, rfl, d, _, rfl, gC2, c, _, rfl, .inl (SqL.of (sm _ _ hc1)), t, _, rfl, rfl, (by rw [List.length_map]; omega), c, ns.map V.int, _, .int ns[j], rfl, rfl, SqL.of (sm _ _ hc1), ?_, ?_⟩
          · rw [hj]
            exact atI_nat (by rw [List.getElem?_map, List.getElem?_eq_getElem hj2]; rfl)
          · exact ⟨_, _, _, rfl, sm⟩
        · exact ⟨_, _, _, rfl, sm⟩
      · rintro σ' H2 ⟨v, o2, o5, rfl, sm⟩
        have hd2 := sm _ _ hd1
        have hc2 := sm _ _ hc1
        have src2 : Src H2 d c (t + 1) := src1.same sm
        have but2 : But d H H2 := but1.trans (But.same sm)
        have gC2 := DGet.k (k := Sum.inr "cells") hd2
        rw [src_cells] at gC2
        clear e hd hc gC gT gR hd1 hc1 gC1 src1 but1 eH1 sm src
        -- if turn < len(cells) and abs(cell) >= 10 ** 18
        refine ⟨fun σ' H' => σ' = [some (.ref d), some (.int n), o2, some (.int t), some (.int v), o5] ∧ H' = H2, ?_, ?_⟩
        · refine ⟨_, rfl, _, rfl, d, _, rfl, gC2, c, _, rfl, .inl (SqL.of hc2), _, _, rfl, rfl, _, rfl, ite2 (fun e1 => ?_) (fun e1 => ?_)⟩
          · refine ⟨_, rfl, _, rfl, 10, 18, rfl, rfl, ⟨by decide, by decide, by decide⟩, _, _, rfl, rfl, _, rfl, ite2 (fun e2 => ?_) (fun e2 => ⟨rfl, rfl⟩)⟩
            have ab : (0 : Int) ≤ (if v < 0 then -v else v) - 10 ^ 18 := by
              have h2 := of_decide_eq_true e2
              have h3 : (10 : Int) ^ (18 : Int).toNat = 10 ^ 18 := rfl
              omega
            refine ⟨_, rfl, _, rfl, 10, 18, rfl, rfl, ⟨by decide, by decide, by decide⟩, _, _, rfl, rfl, _, rfl, _, _, rfl, rfl, ⟨n0, na⟩, _, rfl, d, _, rfl, DPut.k (k := Sum.inr "rest") hd2 (by show 3 < sizeLine; decide), ?_⟩
            rw [sput_rest]
            refine ⟨_, rfl, _, rfl, 10, 18, rfl, rfl, ⟨by decide, by decide, by decide⟩, _, _, rfl, rfl, _, rfl, _, _, rfl, rfl, nz, ?_⟩
            exact q _ _ (t + 1) (but2.trans But.set) (src_set src2 (divW_in n0 ab)) (Nat.le_refl _) (mod_in n0).1 (mod_in n0).2
          · exact ⟨rfl, rfl⟩
        · rintro σ' H' ⟨rfl, rfl⟩
          refine ⟨_, rfl, _, 2147483647, rfl, rfl, (by show (2147483647 : Int) ≠ 0; decide), _, 48271, rfl, rfl, .inr ⟨by decide, by decide⟩, ?_⟩
          refine ⟨_, rfl, 69621, t, rfl, rfl, .inl ⟨by decide, by decide⟩, _, rfl, _, t, rfl, rfl, .inr ⟨by omega, by omega⟩, _, _, rfl, rfl, ?_⟩
          generalize e0 : v.fmod 2147483647 * 48271 + 69621 * (t : Int) * t = m0
          refine ⟨_, rfl, _, rfl, 40014, t, rfl, rfl, .inl ⟨by decide, by decide⟩, m0, _, congrArg V.int e0, rfl, _, 29, rfl, rfl, _, 2147483629, rfl, rfl, (by show (2147483629 : Int) ≠ 0; decide), ?_⟩
          have m1 := mod_in (a := m0 + 40014 * (t : Int) + 29) (b := 2147483629) (by decide)
          generalize em : (m0 + 40014 * (t : Int) + 29).fmod 2147483629 = m at m1
          refine ⟨_, rfl, _, rfl, m, m, congrArg V.int em, congrArg V.int em, .inl ⟨by omega, by omega⟩, _, rfl, 16807, m, rfl, congrArg V.int em, .inl ⟨by decide, by decide⟩, _, _, rfl, rfl, _, rfl, 3, t, rfl, rfl, .inl ⟨by decide, by decide⟩, _, _, rfl, rfl, _, 5, rfl, rfl, _, 2147483587, rfl, rfl, (by show (2147483587 : Int) ≠ 0; decide), ?_⟩
          have m2 := mod_in (a := m * m + 16807 * m + 3 * (t : Int) + 5) (b := 2147483587) (by decide)
          generalize em' : (m * m + 16807 * m + 3 * (t : Int) + 5).fmod 2147483587 = m' at m2
          refine ⟨_, rfl, _, rfl, m', 40692, congrArg V.int em', rfl, m', _, congrArg V.int em', rfl, .inl ⟨by omega, by omega⟩, _, 2147483579, rfl, rfl, (by show (2147483579 : Int) ≠ 0; decide), _, 64, rfl, rfl, ⟨by decide, by decide⟩, _, rfl, _, n, rfl, rfl, nz, ?_⟩
          exact q _ _ (t + 1) but2 src2 (Nat.le_refl _) (mod_in n0).1 (mod_in n0).2
end
end Mo

namespace Mo
open PySem PySem.Spec PyProof.Rows L2
section
variable {P : Program} {w : World} {K : PySem.W.Frag} {mg : Str → Option Value} {base : Heap}
def Ltrs (t : List Int) : Prop := ∀ x ∈ t, 0 ≤ x ∧ x ≤ 999999
/-- drawn_text: any text of n letters -/
def spDrt : Sp := fun vs H Q _ => ∃ (d c : Addr) (n t : Nat), vs = [.ref d, .int n] ∧ Src H d c t ∧ n ≤ 100 ∧ t + 200 < 1073741824 ∧
  ∀ H' p u t', But d H H' → Src H' d c t' → t' ≤ t + n + 4 → H p = none → H' p = some (.tup (u.map V.int)) → u.length = n → Ltrs u → Q (.ref p) H'
theorem ok_drt {k : Nat} (T : Txt K mg) : FnOk P w K mg base CX0 (k + 3) T.aLDrawnText T.dLDrawnText ["_law_pen_here", "_law_size"] spDrt := by
  have GLDraw : FnOk P w K mg base CX0 (k + 2) T.aLDraw T.dLDraw ["_law_pen_here", "_law_count"] spSDraw := ok_draw T
  have GLPick : FnOk P w K mg base CX0 (k + 2) T.aLPick T.dLPick ["_law_pen_here", "_law_options"] (spSPick K) := ok_pick T
  refine T.fLDrawnText.ok scLDrawnText (fun vs H Q E h => ?_) (fun cdv A outer s H vs Q E hr h => ?_)
  · obtain ⟨_, _, _, _, rfl, _⟩ := h
    rfl
  · obtain ⟨d, c, n, t, rfl, src, hn, ht, q⟩ := h
    refine ⟨_, (pss_cons (ps_set (i := 2) scLDrawnText.nd rfl (Or.inr rfl) (pe_call GLPick hr (by rfl) T.gLPick T.fLPick.kp T.bLPick .nil pass0 (pa_cons (pv 0) (pa_cons (pe_lst (pa_cons pe_int (pa_cons pe_int (pa_cons pe_int (pa_cons pe_int (pa_cons pe_int pa_nil)))))) pa_nil))))
      (pss_cons (ps_setLc (i := 3) (own := [("_law_k", 4)]) (g := gName 4) (tt := tYes) rfl scLDrawnText.nd rfl rfl (sw_true rfl rfl rfl (by decide +kernel)) (pi_range1 (by rfl) T.m_range (pa_cons (pv 1) pa_nil)) (blkOk_by (N := ["_law_pen_here", "_law_size", "_law_most", "_law_text", "_law_k"]) (sc := defScope sLDrawnText) (by decide +kernel)) (fun _ _ _ _ _ => pg_name (i := 4) scLDrawnText.nd rfl (Or.inl rfl)) (fun _ _ _ _ _ => pts_nil) (fun _ _ _ _ _ => (pe_call GLDraw hr (by rfl) T.gLDraw T.fLDraw.kp T.bLDraw .nil pass0 (pa_cons (pv 0) (pa_cons (pv 2) pa_nil)))))
      (Evl.pss_cut (ps_if (PW.pt (pw_and (pt_cmpR op_gt (pv 1) pe_int (nomark _)) (pw_and1 (pt_cmpR op_eq (pe_call GLDraw hr (by rfl) T.gLDraw T.fLDraw.kp T.bLDraw .nil pass0 (pa_cons (pv 0) (pa_cons pe_int pa_nil))) pe_int (nomark _))))) (pss_one (ps_asg (pe_op op_sub pe_int (pe_call GLDraw hr (by rfl) T.gLDraw T.fLDraw.kp T.bLDraw .nil pass0 (pa_cons (pv 0) (pa_cons pe_int pa_nil)))) (pg_sub (pv 3) (pe_call GLDraw hr (by rfl) T.gLDraw T.fLDraw.kp T.bLDraw .nil pass0 (pa_cons (pv 0) (pa_cons (pv 1) pa_nil))) set_list))) pss_nil)
      (pss_one (ps_ret (pe_callTy call_tuple_of (by rfl) T.m_tuple (by decide +kernel) (pa_cons (pv 3) pa_nil))))))), ?_⟩
    refine ⟨_, rfl, by show 5 ≤ sizeLine; decide, fun cl ncl => ?_⟩
    have s0 := same_new (o := .lst [V.int 2, V.int 2, V.int 3, V.int 10, V.int 1000000]) ncl
    refine ⟨d, c, cl, _, t, rfl, src.same s0, SqL.of upd_same, (src.new ncl).1, by show 0 < 5; decide, by show 5 < _; decide, by omega, fun H1 v t1 but1 src1 ht1 hv => ?_⟩
    obtain ⟨m, rfl, m1, m2⟩ : ∃ m : Int, v = .int m ∧ 2 ≤ m ∧ m ≤ 1000000 := by
      simp only [List.mem_cons, List.not_mem_nil, or_false] at hv
      rcases hv with e | e | e | e | e
      · exact ⟨2, e, by omega, by omega⟩
      · exact ⟨2, e, by omega, by omega⟩
      · exact ⟨3, e, by omega, by omega⟩
      · exact ⟨10, e, by omega, by omega⟩
      · exact ⟨1000000, e, by omega, by omega⟩
    have but01 := (But.same s0).trans but1
    clear hv s0 but1
    refine ⟨_, rfl, n, rfl, by omega, by omega, fun D nD => lc_range (lo := 0) (fun i H' => ∃ (zs : List Int) (t' : Nat), H' D = some (.lst (zs.map V.int)) ∧ zs.length = i ∧ Ltrs zs ∧ But d H1 H' ∧ Src H' d c t' ∧ t' ≤ t1 + i) ?_ ?_ ?_⟩
    · have nw := src1.new nD
      exact ⟨[], t1, upd_same, rfl, (fun x hx => absurd hx List.not_mem_nil), But.same (same_new nD), src1.upd nw.1 nw.2, by omega⟩
    · rintro i HA hi ⟨zs, tA, hD, hz, hm, butA, srcA, htA⟩
      have hi2 : i < n := by
        have hi3 : i < Int.toNat _ := hi
        omega
      have nw := src1.new nD
      refine ⟨rfl, _, rfl, _, rfl, d, c, m, tA, rfl, srcA, by omega, by omega, by omega, fun HB x tB butB srcB htB x0 x1 => ?_⟩
      refine ⟨_, butB _ _ nw.1 hD, fitsLt (by rw [List.length_map]; omega), zs ++ [x], tB, by rw [upd_same, List.map_append]; rfl, by rw [List.length_append, hz]; rfl, fun y hy => ?_, But.put (butA.trans butB) nD, srcB.upd nw.1 nw.2, by omega⟩
      rcases List.mem_append.mp hy with g | g
      · exact hm y g
      · rw [List.mem_singleton.mp g]
        omega
    · rintro H2 ⟨zs, t2, hD, hz, hm, but2, src2, ht2⟩
      have hz2 : zs.length = n := by
        have : zs.length = ((n : Nat) : Int).toNat := hz
        omega
      have nw := src1.new nD
      have nD0 : H D = none := but01.none nD nw.1
      have but02 := but01.trans but2
      -- one letter near the end
      refine ⟨fun σ' H' => ∃ (zs : List Int) (t' : Nat) (o2 o4 : Option V), σ' = [some (.ref d), some (.int n), o2, some (.ref D), o4] ∧ H' D = some (.lst (zs.map V.int)) ∧ zs.length = n ∧ Ltrs zs ∧ But d H H' ∧ Src H' d c t' ∧ t' ≤ t + n + 4, ?_, ?_⟩
      · by_cases e : (n : Int) > 0
        · refine ⟨_, rfl, _, _, rfl, rfl, true, congrArg V.bl (decide_eq_true e), iteT ?_⟩
          refine ⟨_, rfl, d, c, 5, t2, rfl, src2, by decide, by decide, by omega, fun H3 x t3 but3 src3 ht3 x0 x1 => ⟨rfl, _, rfl, ite2 (fun e2 => ?_) (fun e2 => ?_)⟩⟩
          · refine ⟨_, rfl, d, c, 2, t3, rfl, src3, by decide, by decide, by omega, fun H4 y t4 but4 src4 ht4 y0 y1 => ⟨999999, y, rfl, rfl, ?_⟩⟩
            refine ⟨_, rfl, _, rfl, _, rfl, d, c, n, t4, rfl, src4, by omega, by omega, by omega, fun H5 j t5 but5 src5 ht5 j0 j1 => ?_⟩
            obtain ⟨j, rfl⟩ := nat_of j0
            have hD5 := but5 _ _ nw.1 (but4 _ _ nw.1 (but3 _ _ nw.1 hD))
            refine ⟨D, _, _, j, rfl, rfl, hD5, Evl.ixN_nat (by rw [List.length_map]; omega), ?_⟩
            have nw5 := nw
            refine ⟨zs.set j (999999 - y), t5, _, _, rfl, by rw [upd_same, List.map_set], by rw [List.length_set]; exact hz2, fun x hx => ?_, But.put (((but02.trans but3).trans but4).trans but5) nD0, src5.upd nw.1 nw.2, by omega⟩
            rcases List.mem_or_eq_of_mem_set hx with g | g
            · exact hm x g
            · rw [g]
              omega
          · exact ⟨zs, t3, _, _, rfl, but3 _ _ nw.1 hD, hz2, hm, but02.trans but3, src3, by omega⟩
        · refine ⟨_, rfl, _, _, rfl, rfl, false, congrArg V.bl (decide_eq_false e), iteF ?_⟩
          exact ⟨zs, t2, _, _, rfl, hD, hz2, hm, but02, src2, by omega⟩
      · rintro σ' H3 ⟨zs, t3, o2, o4, rfl, hD3, hz3, hm3, but3, src3, ht3⟩
        refine ⟨_, rfl, D, _, rfl, .inl ⟨SqL.of hD3, fun p np => ?_⟩⟩
        exact q _ p zs t3 (but3.trans (But.same (same_new np))) (src3.same (same_new np)) ht3 (but3.none np (src3.new np).1) upd_same hz3 hm3
end
end Mo

namespace Mo
open PySem PySem.Spec PyProof.Rows L2
open PySem.NumText (AllDigits digitsVal)
theorem tx32 : Str.ofString " " = tx [32] := by decide +kernel
theorem cut_txh (zs : List Nat) {b : Nat} (hb : b ≤ zs.length) : cutS (tx zs) none (some (b : Int)) = tx (zs.take b) := by
  rw [cut_tx]
  show tx ((zs.drop 0).take _) = _
  rw [HT.sIx_nat, Nat.min_eq_left hb]
  rfl
section
variable {P : Program} {w : World} {K : PySem.W.Frag} {mg : Str → Option Value} {base : Heap}
def spPrP (C : Addr) : Sp := fun vs H Q E => ∃ (N : Addr → Prop) (x : V) (dd : PyData), vs = [x] ∧ Dx N H x dd ∧
  ((isStrD dd = false ∧ Errs C "offset" (.int 0) H E) ∨ ∃ cs : List Nat, x = .str (tx cs) ∧ cs.length ≤ 100000 ∧ (∀ off : Nat, prsP cs = .inl off → Errs C "offset" (.int off) H E) ∧
    ∀ (n : Nat) (kv : List (Nat × List Int)), prsP cs = .inr (n, kv) → ∀ H' r d kvs, Same H H' → H d = none → H' r = some (.tup [.int ((n : Nat) : Int), .ref d]) → H' d = some (.dK kvs) → PVs H' kvs kv → Q (.ref r) H')
theorem ok_prp {k : Nat} (T : Txt K mg) : FnOk P w K mg base (L2.CX P w) (k + 5) T.aParsePlace T.dParsePlace ["line"] (spPrP T.cParseError) := by
  have GReadValue : FnOk P w K mg base (L2.CX P w) (k + 4) T.aReadValue T.dReadValue ["line", "at", "known"] (spRdV T.cParseError) := ok_rdv T
  have GNumberEnd : FnOk P w K mg base CX0 (k + 4) T.aNumberEnd T.dNumberEnd ["line", "at", "greatest"] spNEnd := ok_nend T
  have GCheckEnd : FnOk P w K mg base (L2.CX P w) (k + 4) T.aCheckEnd T.dCheckEnd ["line", "end"] (spCEnd T.cParseError) := ok_cend T
  have GInitParseError : FnOk P w K mg base CX0 (k + 3) T.iParseError T.dParseError ["self", "offset"] (spInit T.cParseError "offset") := ok_initParse T
  refine T.fParsePlace.okX scParsePlace (fun vs H Q E h => ?_) (fun cdv A outer s H vs Q E hr h => ?_)
  · obtain ⟨_, _, _, rfl, _⟩ := h
    rfl
  · obtain ⟨N, x, dd, rfl, hd, h⟩ := h
    have hu := hu_of hr
    refine ⟨_, (pss_cons (ps_if (pt_not (pt_val (pe_callB call_isi (by rfl) T.m_isinstance (by decide +kernel) (pa_cons (pv 0) (pa_cons (pe_bltn (v := .ty "str") (by rfl) T.m_str (by decide +kernel) rfl) pa_nil))))) (pss_one (ps_raise rfl (takes_of rfl rfl rfl rfl) (pmk_oex T.xParseError.oex T.xParseError.iC T.xParseError.tI GInitParseError hr T.bInitParseError .nil pass0 (by rfl) T.eParseError (pa_cons pe_int pa_nil)))) pss_nil)
      (pss_cons (ps_set (i := 1) scParsePlace.nd rfl (Or.inl rfl) (pe_call GNumberEnd hr (by rfl) T.gNumberEnd T.fNumberEnd.kp T.bNumberEnd .nil pass0 (pa_cons (pv 0) (pa_cons pe_int (pa_cons (pe_glob (v := .int 1000000000000000000) rfl T.m_GREATEST_START ⟨_, rfl⟩) pa_nil)))))
      (pss_cons (ps_if (pt_cmpR op_eq (pv 1) pe_int (nomark _)) (pss_one (ps_raise rfl (takes_of rfl rfl rfl rfl) (pmk_oex T.xParseError.oex T.xParseError.iC T.xParseError.tI GInitParseError hr T.bInitParseError .nil pass0 (by rfl) T.eParseError (pa_cons pe_int pa_nil)))) pss_nil)
      (pss_cons (ps_set (i := 2) scParsePlace.nd rfl (Or.inl rfl) pe_dnewK)
      (pss_cons (ps_set (i := 3) scParsePlace.nd rfl (Or.inl rfl) (pv 1))
      (Evl.pss_cut (ps_while (passes_of rfl) (PW.pt (pw_and (pt_cmpR op_eq (pe_slice sl_str (pv 0) (po_some (pv 3)) (po_some (pe_op op_add (pv 3) pe_int))) pe_str (nomark _)) (pw_and1 (pt_cmpR op_lt (pe_callB call_lenD (by rfl) T.m_len PySem.boot_len (pa_cons (pv 2) pa_nil)) (pe_glob (v := .int 8) rfl T.m_MOST_VARIABLES ⟨_, rfl⟩) (nomark _))))) (pss_cons (ps_asg (pe_call GReadValue hr (by rfl) T.gReadValue T.fReadValue.kp T.bReadValue .nil (passes_call (takes_of rfl rfl rfl rfl) (fun _ _ _ _ h => h)) (pa_cons (pv 0) (pa_cons (pe_op op_add (pv 3) pe_int) (pa_cons (pv 2) pa_nil)))) (pg_tup (by rfl) (pgs_cons (pg_name (i := 4) scParsePlace.nd rfl (Or.inl rfl)) (pgs_cons (pg_name (i := 5) scParsePlace.nd rfl (Or.inl rfl)) (pgs_cons (pg_name (i := 3) scParsePlace.nd rfl (Or.inl rfl)) pgs_nil)))))
      (pss_one (ps_dput hu (pv 2) (pv 4) (pv 5) rfl))))
      (pss_cons (ps_expr (pe_call GCheckEnd hr (by rfl) T.gCheckEnd T.fCheckEnd.kp T.bCheckEnd .nil (passes_call (takes_of rfl rfl rfl rfl) (fun _ _ _ _ h => h)) (pa_cons (pv 0) (pa_cons (pv 3) pa_nil))))
      (pss_one (ps_ret (pe_tup (pa_cons (pe_callTy call_int_str (by rfl) T.m_int (by decide +kernel) (pa_cons (pe_slice sl_str (pv 0) po_none (po_some (pv 1))) pa_nil)) (pa_cons (pv 2) pa_nil)))))))))))), ?_⟩
    have ty := hd.ty (K := K)
    refine ⟨_, rfl, _, _, .type (tyD dd), .type "str", isStrD dd, rfl, .ty "str", ty, kit_ty (kit_str dd), isStrD dd, rfl, ?_⟩
    rcases h with ⟨hn, q⟩ | ⟨cs, rfl, hl, q1, q2⟩
    · rw [hn]
      exact iteT (err_read q)
    · have hs : isStrD dd = true := by cases hd; rfl
      rw [hs]
      refine iteF ?_
      clear ty hs hd
      refine ⟨_, rfl, cs, 0, 10 ^ 18, rfl, Nat.zero_le _, hl, by decide, fun H1 s1 => ?_⟩
      have hle := numEnd_le (10 ^ 18) cs []
      have hat := num_at (g := 10 ^ 18) (s := cs)
      unfold prsP at q1 q2
      show tSeq _ _ _ [_, some (V.int ((0 + numEnd (10 ^ 18) [] cs : Nat) : Int)), _, _, _, _] _
      generalize numEnd (10 ^ 18) [] cs = fe at *
      rw [Nat.zero_add]
      by_cases f0 : fe = 0
      · subst f0
        exact ⟨_, rfl, rfl, true, rfl, iteT (err_read ((q1 0 (if_pos rfl)).same s1))⟩
      · rw [if_neg f0] at q1 q2
        refine ⟨_, rfl, rfl, false, congrArg V.bl (decide_eq_false (fun z => f0 (by have := V.int.inj z; omega))), iteF ?_⟩
        refine fun d nd => ?_
        have s2 := same_new (o := .dK []) nd
        have nd0 : H d = none := s1.free nd
        have hd2 : upd H1 d (.dK []) d = some (.dK []) := upd_same
        have s12 := s1.trans s2
        generalize upd H1 d (.dK []) = H2 at *
        refine ⟨_, rfl, ?_⟩
        refine ⟨fun σ H' => ∃ (e : Nat) (kvs : List (Key × V)) (kv : List (Nat × List Int)) (o4 o5 : Option V), σ = [some (.str (tx cs)), some (.int ((fe : Nat) : Int)), some (.ref d), some (.int ((e : Nat) : Int)), o4, o5] ∧ e ≤ cs.length ∧ Same H H' ∧ H' d = some (.dK kvs) ∧ PVs H' kvs kv ∧ rdP cs 8 fe [] = .inr (kv, e), ?_, ?_⟩
        · refine while_raw (fun σ H' => ∃ (e : Nat) (kvs : List (Key × V)) (kv : List (Nat × List Int)) (o4 o5 : Option V), σ = [some (.str (tx cs)), some (.int ((fe : Nat) : Int)), some (.ref d), some (.int ((e : Nat) : Int)), o4, o5] ∧ e ≤ cs.length ∧ Same H H' ∧ H' d = some (.dK kvs) ∧ PVs H' kvs kv ∧ kv.length ≤ 8 ∧ rdP cs (8 - kv.length) e kv = rdP cs 8 fe []) (fun σ H' => match σ with | [_, _, _, some (.int r), _, _] => 200000 - r.toNat | _ => 0) ?_ ?_
          · exact ⟨fe, [], [], _, _, rfl, hle, s12, hd2, trivial, by decide, rfl⟩
          · rintro σ H3 ⟨e, kvs, kv, o4, o5, rfl, he, s3, hd3, pv, hk, hr3⟩
            have hlen := pv.len
            refine ⟨_, rfl, _, rfl, ((e : Nat) : Int), rfl, _, rfl, _, 1, rfl, rfl, ((e + 1 : Nat) : Int), congrArg V.int (by omega), tx cs, rfl, by rw [tx_len]; exact fits5 hl, ?_⟩
            rw [cut_tx1 cs he]
            by_cases y : cs[e]? = some 32
            · refine ⟨rfl, true, ?_, ?_⟩
              · rw [take_one.mpr y, tx32]
                exact same_eq _
              · refine ⟨_, rfl, d, kvs, rfl, hd3, _, _, rfl, rfl, ?_⟩
                by_cases k8 : kv.length < 8
                · refine ⟨true, congrArg V.bl (decide_eq_true (by omega)), iteT ?_⟩
                  obtain ⟨f, hf⟩ : ∃ f, 8 - kv.length = f + 1 := ⟨7 - kv.length, by omega⟩
                  have hf2 : 8 - (kv.length + 1) = f := by omega
                  have hlt := (List.getElem?_eq_some_iff.mp y).1
                  rw [hf] at hr3
                  have ek : (fun c => (valV kvs (kSg c)).isSome) = (fun c => kv.any fun x => x.1 == c) := funext fun c => pv.kn c
                  have hr4 : (match rdV cs (e + 1) (fun c => kv.any fun x => x.1 == c) with | .inl o => .inl o | .inr (c, ls, e2) => rdP cs f e2 (kv ++ [(c, ls)])) = rdP cs 8 fe [] := by
                    rw [← hr3]
                    show _ = (if cs[e]? = some 32 then _ else _)
                    refine Eq.trans ?_ (if_pos y).symm
                    cases rdV cs (e + 1) (fun c => kv.any fun x => x.1 == c) with
                    | inl o => rfl
                    | inr x => rfl
                  refine ⟨fun σ' H' => (∃ (e : Nat) (kvs : List (Key × V)) (kv : List (Nat × List Int)) (o4 o5 : Option V), σ' = [some (.str (tx cs)), some (.int ((fe : Nat) : Int)), some (.ref d), some (.int ((e : Nat) : Int)), o4, o5] ∧ e ≤ cs.length ∧ Same H H' ∧ H' d = some (.dK kvs) ∧ PVs H' kvs kv ∧ kv.length ≤ 8 ∧ rdP cs (8 - kv.length) e kv = rdP cs 8 fe []) ∧ (match σ' with | [_, _, _, some (.int r), _, _] => 200000 - r.toNat | _ => 0) < 200000 - ((e : Nat) : Int).toNat, fun σ' H' z => ⟨_, z.2, rfl, z.1⟩, ?_⟩
                  refine ⟨_, rfl, _, rfl, _, 1, rfl, rfl, _, rfl, cs, e + 1, d, kvs, rfl, by omega, hl, hd3, fun off z => ?_, fun c ls e2 z H4 p r s4 hp hr5 => ?_⟩
                  · rw [ek] at z
                    rw [z] at hr4
                    have hr4 : Sum.inl off = rdP cs 8 fe [] := hr4
                    rw [← hr4] at q1
                    exact (q1 off rfl).same s3
                  · rw [ek] at z
                    obtain ⟨h1, h2, h3, _⟩ := rdV_le z
                    rw [z] at hr4
                    have hr4 : rdP cs f e2 (kv ++ [(c, ls)]) = rdP cs 8 fe [] := hr4
                    have hd4 := s4 _ _ hd3
                    have pd : p ≠ d := ne_of hp hd4 (by intro z; cases z)
                    have hk1 : (kv ++ [(c, ls)]).length = kv.length + 1 := by rw [List.length_append]; rfl
                    refine ⟨r, _, rfl, SqT.of hr5, rfl, _, _, rfl, _, _, rfl, _, _, rfl, rfl, ?_⟩
                    refine ⟨_, rfl, _, rfl, _, rfl, d, _, rfl, DPut.k (k := kSg c) hd4 (Nat.lt_of_lt_of_le (by omega : kvs.length < 8) (by decide)), ?_⟩
                    have pn : putK kvs (kSg c) (.ref p) = kvs ++ [(kSg c, .ref p)] := putK_new (by rw [pv.kn c]; exact h3)
                    rw [pn]
                    refine ⟨⟨e2, kvs ++ [(kSg c, .ref p)], kv ++ [(c, ls)], _, _, rfl, h2, Same.put (s3.trans s4) nd0, upd_same, ?_, by omega, by rw [hk1, hf2]; exact hr4⟩, ?_⟩
                    · refine PVs.mono (H := H4) (fun b xs hb => ?_) (PVs.snoc hp (pv.same s4))
                      rw [upd_ne (ne_of hb hd4 (by intro z; cases z))]
                      exact hb
                    · show 200000 - ((e2 : Nat) : Int).toNat < 200000 - ((e : Nat) : Int).toNat
                      omega
                · refine ⟨false, congrArg V.bl (decide_eq_false (by omega)), iteF ?_⟩
                  have e8 : 8 - kv.length = 0 := by omega
                  rw [e8] at hr3
                  exact ⟨e, kvs, kv, _, _, rfl, he, s3, hd3, pv, hr3.symm⟩
            · refine ⟨rfl, false, congrArg V.bl (decide_eq_false (fun z => y (take_one.mp (tx_inj (by rw [← tx32]; exact V.str.inj z))))), iteF ?_⟩
              refine ⟨e, kvs, kv, _, _, rfl, he, s3, hd3, pv, ?_⟩
              rw [← hr3]
              cases 8 - kv.length with
              | zero => rfl
              | succ f =>
                show (if cs[e]? = some 32 then _ else _) = _
                rw [if_neg y]
        · rintro σ H3 ⟨e, kvs, kv, o4, o5, rfl, he, s3, hd3, pv, hr3⟩
          rw [hr3] at q1 q2
          have q1 : ∀ off : Nat, (if e < cs.length then Sum.inl e else Sum.inr (digitsVal (cs.take fe), kv) : Nat ⊕ (Nat × List (Nat × List Int))) = .inl off → _ := q1
          have q2 : ∀ (n : Nat) (kv2 : List (Nat × List Int)), (if e < cs.length then Sum.inl e else Sum.inr (digitsVal (cs.take fe), kv) : Nat ⊕ (Nat × List (Nat × List Int))) = .inr (n, kv2) → _ := q2
          refine ⟨_, rfl, _, rfl, cs, e, rfl, hl, fun y H4 s4 => ?_, fun y => (q1 e (if_pos y)).same s3⟩
          have q2 := q2 _ _ (if_neg (by omega))
          obtain ⟨d1, d2, d3⟩ := hat f0
          have dl := num_short d1 d2 (k := 19) (by decide) (by decide)
          have lt19 : (cs.take fe).length = fe := by rw [List.length_take]; omega
          refine ⟨_, rfl, _, rfl, ((fe : Nat) : Int), rfl, tx cs, rfl, by rw [tx_len]; exact fits5 hl, ?_⟩
          dsimp only [tNoPart]
          rw [cut_txh cs hle]
          refine ⟨_, _, rfl, int_tx d1 d3 (by omega), by rw [tx_len]; omega, _, rfl, by show 2 ≤ sizeLine; decide, fun r nr => ?_⟩
          have s5 := same_new (o := .tup [V.int ((digitsVal (cs.take fe) : Nat) : Int), .ref d]) nr
          exact q2 _ r d kvs (s3.trans (s4.trans s5)) nd0 upd_same (s5 _ _ (s4 _ _ hd3)) ((pv.same s4).same s5)
end
end Mo

namespace Mo
open PySem PySem.Spec PyProof.Rows L2
open PySem.NumText (AllDigits digitsVal)
/-- letters that are written, and then something else -/
theorem readL_linP {sep : Nat} (hs : isDig sep = false) {post : List Nat} (hp : isDig (post.headD 0) = false) : ∀ (rest : List Nat) (pre : List Nat) (ls : List Int), rest ≠ [] → (∀ n ∈ rest, n ≤ 999999) → ls.length + rest.length ≤ 4096 → (post.head? = some sep → ls.length + rest.length = 4096) →
    readL sep (pre ++ (lin sep rest ++ post)) pre.length ls = .inr (ls ++ rest.map fun n : Nat => (n : Int), (pre ++ lin sep rest).length)
  | [], _, _, h, _, _, _ => absurd rfl h
  | n :: r, pre, ls, _, hn, hl, hq => by
    have hn0 := hn n List.mem_cons_self
    have hnl : 0 < (numL n).length := List.length_pos_iff.mpr (TL.numL_ne n)
    by_cases e : r = []
    · subst e
      have hd : (pre ++ (lin sep [n] ++ post)).drop pre.length = numL n ++ post := by
        rw [List.drop_left]
        rfl
      have h1 := numEnd_num (tail := post) hn0 hp (numL n) [] rfl
      rw [readL, hd, h1, if_neg (by omega), dif_neg (fun z => ?_)]
      · rw [List.take_left, numL, TL.numL_val, List.length_append]
        rfl
      · have z1 := z.1
        rw [show lin sep [n] = numL n from rfl, List.getElem?_append_right (by omega), show pre.length + (numL n).length - pre.length = (numL n).length by omega, List.getElem?_append_right (Nat.le_refl _), Nat.sub_self, ← List.head?_eq_getElem?] at z1
        exact z.2 (hq z1)
    · have hd : (pre ++ (lin sep (n :: r) ++ post)).drop pre.length = numL n ++ sep :: (lin sep r ++ post) := by
        rw [List.drop_left, lin_cons e, List.append_assoc]
        rfl
      have h1 := numEnd_num (tail := sep :: (lin sep r ++ post)) hn0 hs (numL n) [] rfl
      have hrl : 0 < r.length := List.length_pos_iff.mpr e
      have hl2 : ls.length + (r.length + 1) ≤ 4096 := hl
      have hat : (pre ++ (lin sep (n :: r) ++ post))[pre.length + (numL n).length]? = some sep := by
        rw [lin_cons e, List.append_assoc, List.getElem?_append_right (by omega), show pre.length + (numL n).length - pre.length = (numL n).length by omega, List.getElem?_append_right (Nat.le_refl _), Nat.sub_self]
        rfl
      rw [readL, hd, h1, if_neg (by omega), dif_pos ⟨hat, by omega⟩]
      · rw [List.take_left, numL, TL.numL_val]
        have ih := readL_linP hs hp r (pre ++ numL n ++ [sep]) (ls ++ [(n : Int)]) e (fun m hm => hn m (List.mem_cons_of_mem _ hm)) (by rw [List.length_append]; show _ + 1 + _ ≤ _; omega) (fun z => by
          have z2 : ls.length + (r.length + 1) = 4096 := hq z
          rw [List.length_append]
          show ls.length + 1 + r.length = 4096
          omega)
        have e1 : pre ++ numL n ++ [sep] ++ (lin sep r ++ post) = pre ++ (lin sep (n :: r) ++ post) := by rw [lin_cons e]; simp
        have e2 : (pre ++ numL n ++ [sep]).length = pre.length + (numL n).length + 1 := by
          rw [List.length_append, List.length_append]
          rfl
        have e3 : (pre ++ numL n ++ [sep] ++ lin sep r).length = (pre ++ lin sep (n :: r)).length := by rw [lin_cons e]; simp
        rw [e1, e2, e3] at ih
        rw [ih]
        simp
/-- the values of a place as they are written -/
def plL : List (Nat × List Nat) → List Nat
  | [] => []
  | (c, ns) :: r => 32 :: c :: 61 :: (lin 44 ns ++ plL r)
def castV (kv : List (Nat × List Nat)) : List (Nat × List Int) := kv.map fun x => (x.1, nat2 x.2)
theorem plL_head (r : List (Nat × List Nat)) : isDig ((plL r).headD 0) = false ∧ (plL r).head? ≠ some 44 := by
  cases r with
  | nil => exact ⟨by decide, fun z => nomatch z⟩
  | cons x r => exact ⟨by show isDig 32 = false; decide, fun z => absurd (Option.some.inj z) (by decide)⟩
structure OkV (kn : List Nat) (kv : List (Nat × List Nat)) : Prop where
  low : ∀ x ∈ kv, lowB x.1 = true
  txt : ∀ x ∈ kv, x.2 ≠ [] ∧ Okn x.2
  new : ∀ x ∈ kv, x.1 ∉ kn
  nod : (kv.map (·.1)).Nodup
theorem any_not {kv : List (Nat × List Int)} {c : Nat} (h : c ∉ kv.map (·.1)) : (kv.any fun x => x.1 == c) = false := by
  rw [List.any_eq_false]
  intro x hx z
  exact h (List.mem_map.mpr ⟨x, hx, by simpa using z⟩)
theorem rdP_line : ∀ (todo : List (Nat × List Nat)) (f : Nat) (pre : List Nat) (kv : List (Nat × List Int)), todo.length ≤ f → OkV (kv.map (·.1)) todo → rdP (pre ++ plL todo) f pre.length kv = .inr (kv ++ castV todo, (pre ++ plL todo).length)
  | [], f, pre, kv, _, _ => by
    have e : plL [] = [] := rfl
    have c0 : castV [] = [] := rfl
    rw [e, c0, List.append_nil, List.append_nil]
    cases f with
    | zero => rfl
    | succ f =>
      show (if pre[pre.length]? = some 32 then _ else _) = _
      rw [if_neg (by rw [List.getElem?_eq_none (Nat.le_refl _)]; exact fun z => nomatch z)]
  | (c, ns) :: r, f, pre, kv, hf, ok => by
    match f, hf with
    | f + 1, hf =>
      have okx := ok.txt (c, ns) List.mem_cons_self
      have lw : lowB c = true := ok.low (c, ns) List.mem_cons_self
      have nw : c ∉ kv.map (·.1) := ok.new (c, ns) List.mem_cons_self
      have hcs : pre ++ plL ((c, ns) :: r) = (pre ++ [32, c, 61]) ++ (lin 44 ns ++ plL r) := by
        show pre ++ 32 :: c :: 61 :: (lin 44 ns ++ plL r) = _
        simp
      have g0 : (pre ++ plL ((c, ns) :: r))[pre.length]? = some 32 := by
        rw [List.getElem?_append_right (Nat.le_refl _), Nat.sub_self]
        rfl
      have g1 : (pre ++ plL ((c, ns) :: r))[pre.length + 1]? = some c := by
        rw [List.getElem?_append_right (by omega), show pre.length + 1 - pre.length = 1 by omega]
        rfl
      have g2 : (pre ++ plL ((c, ns) :: r))[pre.length + 1 + 1]? = some 61 := by
        rw [List.getElem?_append_right (by omega), show pre.length + 1 + 1 - pre.length = 2 by omega]
        rfl
      have l3 : (pre ++ [32, c, 61]).length = pre.length + 1 + 2 := by rw [List.length_append]; rfl
      have rl := readL_linP (sep := 44) (by decide) (plL_head r).1 ns (pre ++ [32, c, 61]) [] okx.1 okx.2.1 (by have h4 : ns.length ≤ 4096 := okx.2.2; show 0 + ns.length ≤ 4096; omega) (fun z => absurd z (plL_head r).2)
      rw [← hcs, l3, List.nil_append] at rl
      have rv : rdV (pre ++ plL ((c, ns) :: r)) (pre.length + 1) (fun c => kv.any fun x => x.1 == c) = .inr (c, nat2 ns, (pre ++ [32, c, 61] ++ lin 44 ns).length) := by
        unfold rdV
        rw [g1]
        show (if lowB c = true ∧ (kv.any fun x => x.1 == c) = false then _ else _) = _
        rw [if_pos ⟨lw, any_not nw⟩, g2, if_pos rfl, rl]
        rfl
      show (if (pre ++ plL ((c, ns) :: r))[pre.length]? = some 32 then _ else _) = _
      rw [if_pos g0, rv]
      show rdP (pre ++ plL ((c, ns) :: r)) f (pre ++ [32, c, 61] ++ lin 44 ns).length (kv ++ [(c, nat2 ns)]) = _
      have ih := rdP_line r f (pre ++ [32, c, 61] ++ lin 44 ns) (kv ++ [(c, nat2 ns)]) (by have : r.length + 1 ≤ f + 1 := hf; omega) ⟨fun x hx => ok.low x (List.mem_cons_of_mem _ hx), fun x hx => ok.txt x (List.mem_cons_of_mem _ hx), fun x hx z => by
        rw [List.map_append] at z
        rcases List.mem_append.mp z with z | z
        · exact ok.new x (List.mem_cons_of_mem _ hx) z
        · have e : x.1 = c := List.mem_singleton.mp z
          have nd := ok.nod
          rw [List.map_cons, List.nodup_cons] at nd
          exact nd.1 (List.mem_map.mpr ⟨x, hx, e⟩), by
        have nd := ok.nod
        rw [List.map_cons, List.nodup_cons] at nd
        exact nd.2⟩
      rw [List.append_assoc (pre ++ [32, c, 61]), ← hcs] at ih
      rw [ih, List.append_assoc]
      rfl
/-- a place's line is read as the place -/
theorem prsP_line {n : Nat} (hn : n ≤ 10 ^ 18) {kv : List (Nat × List Nat)} (hk : kv.length ≤ 8) (ok : OkV [] kv) : prsP (numL n ++ plL kv) = .inr (n, castV kv) := by
  have h1 := numEnd_num (g := 10 ^ 18) (tail := plL kv) hn (plL_head kv).1 (numL n) [] rfl
  have hnl : 0 < (numL n).length := List.length_pos_iff.mpr (TL.numL_ne n)
  unfold prsP
  rw [h1, if_neg (by omega), rdP_line kv 8 (numL n) [] hk ok]
  show (if (numL n ++ plL kv).length < (numL n ++ plL kv).length then Sum.inl _ else Sum.inr (digitsVal ((numL n ++ plL kv).take (numL n).length), [] ++ castV kv)) = _
  rw [if_neg (Nat.lt_irrefl _), List.take_left, numL, TL.numL_val]
  rfl
end Mo

namespace Mo
open PySem PySem.Spec PyProof.Rows L2
theorem ltr_nat {u : List Int} (h : Ltrs u) (hl : u.length ≤ 4096) : ∃ ns : List Nat, u = nat2 ns ∧ Okn ns := by
  refine ⟨u.map Int.toNat, ?_, fun n hn => ?_, by rw [List.length_map]; exact hl⟩
  · unfold nat2
    rw [List.map_map]
    have : u.map ((fun n : Nat => (n : Int)) ∘ Int.toNat) = u.map id := List.map_congr_left fun x hx => by
      have := (h x hx).1
      show ((x.toNat : Nat) : Int) = x
      omega
    rw [this, List.map_id]
  · obtain ⟨x, hx, rfl⟩ := List.mem_map.mp hn
    have := h x hx
    omega
theorem not_before {l : List Nat} (nd : l.Nodup) {i c : Nat} (h : l[i]? = some c) : c ∉ l.take i := fun z => by
  obtain ⟨hi, hc⟩ := List.getElem?_eq_some_iff.mp h
  rw [← List.take_append_drop i l] at nd
  have m2 : c ∈ l.drop i := by
    rw [List.drop_eq_getElem_cons hi, hc]
    exact List.mem_cons_self
  exact (List.nodup_append.mp nd).2.2 c z c m2 rfl
theorem cast_names (kv : List (Nat × List Nat)) : (castV kv).map (·.1) = kv.map (·.1) := by
  unfold castV
  rw [List.map_map]
  rfl
section
variable {P : Program} {w : World} {K : PySem.W.Frag} {mg : Str → Option Value} {base : Heap}
/-- a drawn place -/
def spPlc : Sp := fun vs H Q _ => ∃ (d c : Addr) (t : Nat), vs = [.ref d] ∧ Src H d c t ∧ t + 1000 < 1073741824 ∧
  ∀ H' r e n kvs kv t', But d H H' → Src H' d c t' → t' ≤ t + 200 → H r = none → H e = none → H' r = some (.tup [.int ((n : Nat) : Int), .ref e]) → n ≤ 10 ^ 18 → H' e = some (.dK kvs) → PVs H' kvs (castV kv) → kv.length ≤ 8 → OkV [] kv → (∀ x ∈ kv, x.2.length ≤ 5) → Q (.ref r) H'
theorem ok_plc {k : Nat} (T : Txt K mg) : FnOk P w K mg base CX0 (k + 4) T.aLDrawnPlace T.dLDrawnPlace ["_law_pen_here"] spPlc := by
  have GLDraw : FnOk P w K mg base CX0 (k + 3) T.aLDraw T.dLDraw ["_law_pen_here", "_law_count"] spSDrW := ok_drawW T
  have GLPick : FnOk P w K mg base CX0 (k + 3) T.aLPick T.dLPick ["_law_pen_here", "_law_options"] (spSPick K) := ok_pick T
  have GLDrawnLetters : FnOk P w K mg base CX0 (k + 3) T.aLDrawnLetters T.dLDrawnLetters ["_law_pen_here", "_law_count"] spLet := ok_let T
  have GLDrawnText : FnOk P w K mg base CX0 (k + 3) T.aLDrawnText T.dLDrawnText ["_law_pen_here", "_law_size"] spDrt := ok_drt T
  refine T.fLDrawnPlace.ok scLDrawnPlace (fun vs H Q E h => ?_) (fun cdv A outer s H vs Q E hr h => ?_)
  · obtain ⟨_, _, _, rfl, _⟩ := h
    rfl
  · obtain ⟨d, c, t, rfl, src, ht, q⟩ := h
    have hu := hu_of hr
    refine ⟨_, (pss_cons (ps_set (i := 1) scLDrawnPlace.nd rfl (Or.inl rfl) (pe_call GLPick hr (by rfl) T.gLPick T.fLPick.kp T.bLPick .nil pass0 (pa_cons (pv 0) (pa_cons (pe_lst (pa_cons pe_int (pa_cons (pe_call GLDraw hr (by rfl) T.gLDraw T.fLDraw.kp T.bLDraw .nil pass0 (pa_cons (pv 0) (pa_cons pe_int pa_nil))) (pa_cons (pe_call GLDraw hr (by rfl) T.gLDraw T.fLDraw.kp T.bLDraw .nil pass0 (pa_cons (pv 0) (pa_cons (pe_op op_pow pe_int pe_int) pa_nil))) (pa_cons (pe_op op_pow pe_int pe_int) pa_nil))))) pa_nil))))
      (pss_cons (ps_set (i := 2) scLDrawnPlace.nd rfl (Or.inl rfl) pe_dnewK)
      (pss_cons (ps_for PassesOwn.never rfl (pi_str (pe_call GLDrawnLetters hr (by rfl) T.gLDrawnLetters T.fLDrawnLetters.kp T.bLDrawnLetters .nil pass0 (pa_cons (pv 0) (pa_cons (pe_call GLPick hr (by rfl) T.gLPick T.fLPick.kp T.bLPick .nil pass0 (pa_cons (pv 0) (pa_cons (pe_lst (pa_cons pe_int (pa_cons pe_int (pa_cons pe_int (pa_cons pe_int (pa_cons pe_int pa_nil)))))) pa_nil))) pa_nil)))) (pg_name (i := 3) scLDrawnPlace.nd rfl (Or.inl rfl)) (pss_one (ps_dput hu (pv 2) (pv 3) (pe_call GLDrawnText hr (by rfl) T.gLDrawnText T.fLDrawnText.kp T.bLDrawnText .nil pass0 (pa_cons (pv 0) (pa_cons (pe_op op_add pe_int (pe_call GLDraw hr (by rfl) T.gLDraw T.fLDraw.kp T.bLDraw .nil pass0 (pa_cons (pv 0) (pa_cons pe_int pa_nil)))) pa_nil))) rfl)))
      (pss_one (ps_ret (pe_tup (pa_cons (pv 1) (pa_cons (pv 2) pa_nil)))))))), ?_⟩
    refine ⟨_, rfl, _, rfl, d, c, 30, t, rfl, src, by decide, by decide, by omega, fun H1 x t1 but1 src1 ht1 x0 x1 => ?_⟩
    refine ⟨_, rfl, 10, 18, rfl, rfl, ⟨by decide, by decide, by decide⟩, d, c, 10 ^ 18, t1, rfl, src1, by decide, by decide, by omega, fun H2 y t2 but2 src2 ht2 y0 y1 => ?_⟩
    refine ⟨10, 18, rfl, rfl, ⟨by decide, by decide, by decide⟩, by show 4 ≤ sizeLine; decide, fun cl ncl => ?_⟩
    have s2 := same_new (o := .lst [V.int 0, V.int x, V.int y, V.int (10 ^ 18)]) ncl
    have nd2 := src2.new ncl
    refine ⟨d, c, cl, [V.int 0, V.int x, V.int y, V.int (10 ^ 18)], t2, rfl, src2.same s2, SqL.of upd_same, nd2.1, by show 0 < 4; decide, by show 4 < _; decide, by omega, fun H3 v t3 but3 src3 ht3 hv => ?_⟩
    obtain ⟨n, rfl, hn⟩ : ∃ n : Nat, v = .int ((n : Nat) : Int) ∧ n ≤ 10 ^ 18 := by
      simp only [List.mem_cons, List.not_mem_nil, or_false] at hv
      rcases hv with rfl | rfl | rfl | rfl
      · exact ⟨0, rfl, by decide⟩
      · exact ⟨x.toNat, congrArg V.int (by omega), by omega⟩
      · exact ⟨y.toNat, congrArg V.int (by omega), by omega⟩
      · exact ⟨10 ^ 18, rfl, Nat.le_refl _⟩
    have but03 := ((but1.trans but2).trans (But.same s2)).trans but3
    clear hv s2 but1 but2 but3
    refine fun e ne => ?_
    have nde := src3.new ne
    have ne0 : H e = none := but03.none ne nde.1
    have s4 := same_new (o := .dK []) ne
    have he4 : upd H3 e (.dK []) e = some (.dK []) := upd_same
    have src4 := src3.same s4
    have but04 := but03.trans (But.same s4)
    generalize upd H3 e (.dK []) = H4 at *
    refine ⟨_, rfl, _, rfl, by show 5 ≤ sizeLine; decide, fun c2 nc2 => ?_⟩
    have s5 := same_new (o := .lst [V.int 0, V.int 1, V.int 2, V.int 3, V.int 8]) nc2
    have nd5 := src4.new nc2
    refine ⟨d, c, c2, _, t3, rfl, src4.same s5, SqL.of upd_same, nd5.1, by show 0 < 5; decide, by show 5 < _; decide, by omega, fun H6 v t6 but6 src6 ht6 hv => ?_⟩
    obtain ⟨m, rfl, hm⟩ : ∃ m : Nat, v = .int ((m : Nat) : Int) ∧ m ≤ 8 := by
      simp only [List.mem_cons, List.not_mem_nil, or_false] at hv
      rcases hv with rfl | rfl | rfl | rfl | rfl
      · exact ⟨0, rfl, by decide⟩
      · exact ⟨1, rfl, by decide⟩
      · exact ⟨2, rfl, by decide⟩
      · exact ⟨3, rfl, by decide⟩
      · exact ⟨8, rfl, by decide⟩
    refine ⟨d, c, m, t6, rfl, src6, hm, by omega, fun H7 f sp t7 but7 src7 ht7 hsp => ?_⟩
    have but47 := ((But.same s5).trans but6).trans but7
    have he7 := but47 _ _ nde.1 he4
    have but07 := but04.trans but47
    clear hv
    refine ⟨tx (nms f sp m), rfl, for_it walk_str (fun i σ H' => ∃ (t' : Nat) (kvs : List (Key × V)) (kv : List (Nat × List Nat)) (o3 : Option V), σ = [some (.ref d), some (.int ((n : Nat) : Int)), some (.ref e), o3] ∧ But d H H' ∧ Src H' d c t' ∧ t' ≤ t7 + 12 * i ∧ H' e = some (.dK kvs) ∧ PVs H' kvs (castV kv) ∧ kv.map (·.1) = (nms f sp m).take i ∧ ∀ x ∈ kv, (x.2 ≠ [] ∧ Okn x.2) ∧ x.2.length ≤ 5) ?_ ?_ ?_ ?_⟩
    · exact ⟨t7, [], [], _, rfl, but07, src7, Nat.le_refl _, he7, trivial, rfl, fun x hx => absurd hx List.not_mem_nil⟩
    · exact fun _ _ _ _ _ => trivial
    · rintro i x σ H8 H9 hi ⟨t', kvs, kv, o3, rfl, but8, src8, ht8, he8, pv8, hk8, ok8⟩ ⟨rfl, ch, hch, rfl⟩
      rw [tx_get] at hch
      have hi8 : i < 8 := by
        have := (List.getElem?_eq_some_iff.mp hch).1
        rw [nms_len] at this
        omega
      refine ⟨_, rfl, _, rfl, d, c, 5, t', rfl, src8, by decide, by decide, by omega, fun H10 z t10 but10 src10 ht10 z0 z1 => ?_⟩
      obtain ⟨z, rfl⟩ := nat_of z0
      refine ⟨1, _, rfl, rfl, d, c, 1 + z, t10, rfl, src10, by omega, by omega, fun H11 p u t11 but11 src11 ht11 np hp hul hu => ?_⟩
      obtain ⟨nu, eu, oku⟩ := ltr_nat hu (by omega)
      subst eu
      have but811 := but10.trans but11
      have he11 := but811 _ _ nde.1 he8
      have pe : p ≠ e := ne_of hp he11 (by intro z; cases z)
      have nu0 : nu ≠ [] := fun z => by
        rw [z] at hul
        have : 0 = 1 + _ := hul
        omega
      have hlen := pv8.len
      have hkl : kv.length = i := by
        have := congrArg List.length hk8
        rw [List.length_map, List.length_take, nms_len] at this
        have := (List.getElem?_eq_some_iff.mp hch).1
        rw [nms_len] at this
        omega
      have hcl : (castV kv).length = kv.length := List.length_map _
      refine ⟨_, rfl, _, rfl, e, _, rfl, DPut.k (k := kSg ch) he11 (Nat.lt_of_lt_of_le (by omega : kvs.length < 9) (by decide)), ?_⟩
      have kn : (valV kvs (kSg ch)).isSome = false := by
        rw [pv8.kn ch]
        refine any_not ?_
        rw [cast_names, hk8]
        exact not_before (nms_nod hsp hm) hch
      rw [putK_new kn]
      have pv11 : PVs H11 kvs (castV kv) := pv8.mono fun b xs hb => but811 _ _ (by
        intro zz
        rw [zz] at hb
        obtain ⟨_, _, h1, _⟩ := src8
        rw [h1] at hb
        cases hb) hb
      have nce : e ≠ c := nde.2
      refine ⟨t11, _, kv ++ [(ch, nu)], _, rfl, But.put (but8.trans but811) ne0, src11.upd nde.1 nde.2, by omega, upd_same, ?_, ?_, fun x hx => ?_⟩
      · have e1 : castV (kv ++ [(ch, nu)]) = castV kv ++ [(ch, nat2 nu)] := by
          unfold castV
          rw [List.map_append]
          rfl
        rw [e1]
        refine PVs.mono (H := H11) (fun b xs hb => ?_) (PVs.snoc hp pv11)
        rw [upd_ne (ne_of hb he11 (by intro z; cases z))]
        exact hb
      · rw [List.map_append, hk8, List.take_add_one, hch]
        rfl
      · rcases List.mem_append.mp hx with y | y
        · exact ok8 x y
        · rw [List.mem_singleton.mp y]
          refine ⟨⟨nu0, oku⟩, ?_⟩
          have hl5 : nu.length = 1 + z := by rw [← nat2_len]; exact hul.trans (by omega)
          show nu.length ≤ 5
          omega
    · rintro σ H8 ⟨t', kvs, kv, o3, rfl, but8, src8, ht8, he8, pv8, hk8, ok8⟩
      rw [tx_size, List.take_of_length_le (Nat.le_refl _)] at hk8
      rw [tx_size, nms_len] at ht8
      refine ⟨_, rfl, _, rfl, by show 2 ≤ sizeLine; decide, fun r nr => ?_⟩
      have s9 := same_new (o := .tup [V.int ((n : Nat) : Int), .ref e]) nr
      have hkl : kv.length ≤ 8 := by
        have := congrArg List.length hk8
        rw [List.length_map, nms_len] at this
        omega
      refine q _ r e n kvs kv t' (but8.trans (But.same s9)) (src8.same s9) (by omega) (but8.none nr (src8.new nr).1) ne0 upd_same hn (s9 _ _ he8) (pv8.same s9) hkl ⟨fun x hx => ?_, fun x hx => (ok8 x hx).1, fun x hx z => absurd z List.not_mem_nil, by rw [hk8]; exact nms_nod hsp hm⟩ (fun x hx => (ok8 x hx).2)
      exact nms_low f sp m _ (by rw [← hk8]; exact List.mem_map.mpr ⟨x, hx, rfl⟩)
end
end Mo

namespace Mo
open PySem PySem.Spec PyProof.Rows L2
theorem lock_same {H H' : Hp} {a : Addr} {u : HO} {od : Obj} (ha : H a = some u) (s : Same (upd H a (.frz od u)) H') : Same H (upd H' a u) := fun b o e => by
  by_cases h : b = a
  · subst h
    rw [upd_same]
    rw [ha] at e
    exact e
  · rw [upd_ne h]
    exact s _ _ (by rw [upd_ne h]; exact e)
theorem PVs.get {H : Hp} : ∀ {kvs : List (Key × V)} {kv : List (Nat × List Int)}, PVs H kvs kv → ∀ {i : Nat} {k : Key} {v : V}, kvs[i]? = some (k, v) → ∃ c ls p, kv[i]? = some (c, ls) ∧ k = kSg c ∧ v = .ref p ∧ H p = some (.tup (ls.map V.int))
  | [], [], _, i, k, v, e => by simp at e
  | (k0, v0) :: r, (c, ls) :: q, h, i, k, v, e => by
    obtain ⟨h1, ⟨p, h2, h3⟩, h4⟩ := h
    cases i with
    | zero =>
      have e : some (k0, v0) = some (k, v) := e
      cases e
      exact ⟨c, ls, p, rfl, h1, h2, h3⟩
    | succ i => exact PVs.get h4 (i := i) e
  | [], _ :: _, h, _, _, _, _ => h.elim
  | _ :: _, [], h, _, _, _, _ => h.elim
theorem PVs.val {H : Hp} : ∀ {kvs : List (Key × V)} {kv : List (Nat × List Int)}, PVs H kvs kv → (kv.map (·.1)).Nodup → ∀ {i : Nat} {k : Key} {v : V}, kvs[i]? = some (k, v) → valV kvs k = some v
  | [], [], _, _, i, k, v, e => by simp at e
  | (k0, v0) :: r, (c, ls) :: q, h, nd, i, k, v, e => by
    obtain ⟨h1, _, h4⟩ := h
    have nd2 := List.nodup_cons.mp nd
    cases i with
    | zero =>
      have e : some (k0, v0) = some (k, v) := e
      cases e
      exact valV_pos rfl
    | succ i =>
      have e : r[i]? = some (k, v) := e
      obtain ⟨c2, l2, p2, e2, ek, _⟩ := PVs.get h4 e
      rw [valV_neg (fun z => ?_)]
      · exact PVs.val h4 nd2.2 e
      · have z : k0 = k := z
        rw [h1, ek] at z
        have := kSg_inj z
        subst this
        exact nd2.1 (List.mem_map.mpr ⟨_, List.mem_of_getElem? e2, rfl⟩)
  | [], _ :: _, h, _, _, _, _, _ => h.elim
  | _ :: _, [], h, _, _, _, _, _ => h.elim
theorem plL_app : ∀ a b : List (Nat × List Nat), plL (a ++ b) = plL a ++ plL b
  | [], b => rfl
  | (c, ns) :: r, b => by
    show 32 :: c :: 61 :: (lin 44 ns ++ plL (r ++ b)) = (32 :: c :: 61 :: (lin 44 ns ++ plL r)) ++ plL b
    rw [plL_app r b]
    simp
/-- values as they may be written -/
structure WV (kv : List (Nat × List Nat)) : Prop where
  len : kv.length ≤ 8
  txt : ∀ x ∈ kv, (∀ n ∈ x.2, n ≤ 999999) ∧ x.2.length ≤ 4097
  nod : (kv.map (·.1)).Nodup
theorem plL_len : ∀ {kv : List (Nat × List Nat)}, (∀ x ∈ kv, (∀ n ∈ x.2, n ≤ 999999) ∧ x.2.length ≤ 4097) → (plL kv).length ≤ 28682 * kv.length
  | [], _ => Nat.le_refl _
  | (c, ns) :: r, h => by
    have h1 := lin_lenS (sep := 44) (h (c, ns) List.mem_cons_self).1
    have h2 := (h (c, ns) List.mem_cons_self).2
    have h3 := plL_len (kv := r) fun x hx => h x (List.mem_cons_of_mem _ hx)
    show (lin 44 ns ++ plL r).length + 1 + 1 + 1 ≤ 28682 * (r.length + 1)
    rw [List.length_append]
    have h1 : (lin 44 ns).length ≤ 7 * ns.length := h1
    have h2 : ns.length ≤ 4097 := h2
    omega
theorem numL_19 {n : Nat} (h : n ≤ 10 ^ 18) : (numL n).length ≤ 19 := TL.numL_len (n := n) (k := 19) (by decide) (by omega)
def prt (x : Nat × List Nat) : List Nat := x.1 :: 61 :: lin 44 x.2
theorem join_pl : ∀ (kv : List (Nat × List Nat)) (a : List Nat), TL.joinL [32] (a :: kv.map prt) = a ++ plL kv
  | [], a => by
    show a = a ++ []
    rw [List.append_nil]
  | (c, ns) :: r, a => by
    show a ++ ([32] ++ TL.joinL [32] (prt (c, ns) :: r.map prt)) = a ++ plL ((c, ns) :: r)
    rw [join_pl r]
    rfl
theorem join_plS (n : Nat) (kv : List (Nat × List Nat)) : Txt.join (Str.ofString " ") (Str.ofString (toString ((n : Nat) : Int)) :: kv.map fun x => tx (prt x)) = tx (numL n ++ plL kv) := by
  rw [TL.join_eq]
  refine TL.ext_tl ?_
  rw [TL.tl_join, ← join_pl, tx32, List.map_cons, List.map_map]
  show TL.joinL [32] (TL.tl (Str.ofString (toString ((n : Nat) : Int))) :: kv.map fun x => TL.tl (tx (prt x))) = TL.joinL [32] (numL n :: kv.map prt)
  rw [TL.tl_num n]
  rfl
theorem num_tx (n : Nat) : Str.ofString (toString ((n : Nat) : Int)) = tx (numL n) := TL.ext_tl (TL.tl_num n)
theorem strs_eq (ns : List Nat) : (ns.map fun n : Nat => V.str (Str.ofString (toString ((n : Nat) : Int)))) = (ns.map fun n : Nat => Str.ofString (toString ((n : Nat) : Int))).map V.str := by
  rw [List.map_map]
  rfl
theorem sum_six : ∀ {ns : List Nat}, (∀ n ∈ ns, n ≤ 999999) → ((ns.map fun n : Nat => Str.ofString (toString ((n : Nat) : Int))).map (·.length)).sum ≤ 6 * ns.length
  | [], _ => Nat.le_refl _
  | n :: r, h => by
    have h1 : (Str.ofString (toString ((n : Nat) : Int))).length ≤ 6 := by
      rw [num_tx, tx_len]
      exact TL.numL_len (n := n) (k := 6) (by decide) (by have := h n List.mem_cons_self; omega)
    have h2 := sum_six (ns := r) fun m hm => h m (List.mem_cons_of_mem _ hm)
    rw [List.map_cons, List.map_cons, List.sum_cons, List.length_cons]
    omega
section
variable {P : Program} {w : World} {K : PySem.W.Frag} {mg : Str → Option Value} {base : Heap}
/-- the line of a place -/
def spLn : Sp := fun vs H Q _ => ∃ (r e : Addr) (n : Nat) (kvs : List (Key × V)) (kv : List (Nat × List Nat)), vs = [.ref r] ∧ H r = some (.tup [.int ((n : Nat) : Int), .ref e]) ∧ n ≤ 10 ^ 18 ∧ H e = some (.dK kvs) ∧ PVs H kvs (castV kv) ∧ WV kv ∧
  ∀ H', Same H H' → Q (.str (tx (numL n ++ plL kv))) H'
theorem ok_ln {k : Nat} (T : Txt K mg) : FnOk P w K mg base CX0 (k + 1) T.aLPlaceLine T.dLPlaceLine ["_law_place"] spLn := by
  refine T.fLPlaceLine.ok scLPlaceLine (fun vs H Q E h => ?_) (fun cdv A outer s H vs Q E hr h => ?_)
  · obtain ⟨_, _, _, _, _, rfl, _⟩ := h
    rfl
  · obtain ⟨r, e, n, kvs, kv, rfl, hp, hn, he, hpv, wv, q⟩ := h
    have hu := hu_of hr
    refine ⟨_, (pss_cons (ps_asg (pv 0) (pg_tup (by rfl) (pgs_cons (pg_name (i := 1) scLPlaceLine.nd rfl (Or.inl rfl)) (pgs_cons (pg_name (i := 2) scLPlaceLine.nd rfl (Or.inl rfl)) pgs_nil))))
      (pss_cons (ps_set (i := 3) scLPlaceLine.nd rfl (Or.inl rfl) (pe_callTy call_str_int (by rfl) T.m_str (by decide +kernel) (pa_cons (pv 1) pa_nil)))
      (pss_cons (ps_lock (ps_for PassesOwn.never rfl (pi_keys (pv 2)) (pg_name (i := 4) scLPlaceLine.nd rfl (Or.inl rfl)) (pss_one (ps_set (i := 3) scLPlaceLine.nd rfl (Or.inl rfl) (pe_op op_add_str (pe_op op_add_str (pe_op op_add_str (pe_op op_add_str (pv 3) pe_str) (pv 4)) pe_str) (pe_join pe_str (pe_lc (own := [("_law_letter", 5)]) (g := gName 5) (tt := tYes) rfl scLPlaceLine.nd (pi_tup (pe_dget hu (pv 2) (pv 4) (fun _ _ => rfl))) (blkOk_by (N := ["_law_place", "_law_start", "_law_values", "_law_line", "_law_sign", "_law_letter"]) (sc := defScope sLPlaceLine) (by decide +kernel)) (fun _ _ _ _ _ => pg_name (i := 5) scLPlaceLine.nd rfl (Or.inl rfl)) (fun _ _ _ _ _ => pts_nil) (fun _ _ _ _ _ => (pe_callTy call_str_int (by rfl) T.m_str (by decide +kernel) (pa_cons (pv 5) pa_nil))))))))))
      (pss_one (ps_ret (pv 3)))))), ?_⟩
    have hlen : kvs.length = kv.length := hpv.len.trans (List.length_map _)
    have hw := plL_len wv.txt
    have hwl := wv.len
    refine ⟨_, rfl, r, _, rfl, SqT.of hp, rfl, _, _, rfl, _, _, rfl, rfl, ?_⟩
    refine ⟨_, rfl, _, rfl, log_small (B := 20) (by decide) (by omega), ?_⟩
    rw [num_tx]
    refine ⟨e, .dK kvs, he, trivial, fun od => ⟨_, rfl, e, od, rfl, .inl ⟨kvs, upd_same, for_it walk_keys (fun i σ H' => ∃ (o4 : Option V), σ = [some (.ref r), some (.int ((n : Nat) : Int)), some (.ref e), some (.str (tx (numL n ++ plL (kv.take i)))), o4, none] ∧ H' e = some (.frz od (.dK kvs)) ∧ Same (upd H e (.frz od (.dK kvs))) H') ?_ ?_ ?_ ?_⟩⟩⟩
    · exact ⟨_, by rw [List.take_zero]; show _ = [_, _, _, some (V.str (tx (numL n ++ []))), _, _]; rw [List.append_nil]; rfl, upd_same, Same.refl _⟩
    · rintro i σ H1 _ ⟨_, _, h, _⟩
      exact h
    · rintro i x σ H9 H1 hi ⟨o4, rfl, he1, s1⟩ ⟨rfl, kk, vv, hkv, rfl⟩
      obtain ⟨c, ls, p, hc, rfl, rfl, hp0⟩ := hpv.get hkv
      have hc2 : ∃ ns, kv[i]? = some (c, ns) ∧ ls = nat2 ns := by
        unfold castV at hc
        rw [List.getElem?_map] at hc
        cases e3 : kv[i]? with
        | none => rw [e3] at hc; cases hc
        | some x =>
          rw [e3] at hc
          cases hc
          exact ⟨x.2, rfl, rfl⟩
      obtain ⟨ns, hns, rfl⟩ := hc2
      obtain ⟨hs, hl⟩ := wv.txt _ (List.mem_of_getElem? hns)
      have hs : ∀ n ∈ ns, n ≤ 999999 := hs
      have hl : ns.length ≤ 4097 := hl
      have pe : p ≠ e := ne_of hp0 he (by intro z; cases z)
      have hp1 : H1 p = some (.tup ((nat2 ns).map V.int)) := s1 _ _ (by rw [upd_ne pe]; exact hp0)
      have hi8 : i < kv.length := (List.getElem?_eq_some_iff.mp hns).1
      have hwi : (plL (kv.take i)).length ≤ 28682 * 8 := Nat.le_trans (plL_len (kv := kv.take i) fun x hx => wv.txt x (List.mem_of_mem_take hx)) (Nat.mul_le_mul_left _ (by rw [List.length_take]; omega))
      have n19 := numL_19 hn
      have sz : ∀ m, m ≤ 300000 → m ≤ sizeLine := fun m hm => Nat.le_trans hm (by decide)
      have h44 := lin_lenS (sep := 44) hs
      refine ⟨_, rfl, _, _, rfl, rfl, sz _ (by rw [tx32, tx_len, tx_len, List.length_append]; show _ + 1 ≤ _; omega), ?_⟩
      rw [tx32, tx_app]
      refine ⟨_, rfl, _, tx [c], rfl, rfl, sz _ (by rw [tx_len, tx_len]; simp only [List.length_append, List.length_cons, List.length_nil]; omega), ?_⟩
      rw [tx_app]
      refine ⟨_, _, rfl, rfl, sz _ (by rw [tx61, tx_len, tx_len]; simp only [List.length_append, List.length_cons, List.length_nil]; omega), ?_⟩
      rw [tx61, tx_app]
      refine ⟨⟨_, rfl⟩, _, rfl, _, rfl, e, .ref p, rfl, .inl ⟨kvs, kSg c, .inr ⟨_, he1⟩, rfl, (hpv.val (by rw [cast_names]; exact wv.nod) hkv).symm⟩, p, rfl, ⟨_, SqT.of hp1⟩, ?_⟩
      refine fun D nD => lc_it (walk_tup (xs := (nat2 ns).map V.int)) (fun i H' => Same H1 H' ∧ H' D = some (.lst ((ns.take i).map fun n : Nat => V.str (Str.ofString (toString ((n : Nat) : Int)))))) ?_ ?_ ?_ ?_
      · exact ⟨same_new nD, upd_same⟩
      · exact fun i H' _ h => SqT.of (h.1 _ _ hp1)
      · rintro i v H3 H4 hi ⟨s3, hD⟩ ⟨rfl, hv⟩
        rw [List.getElem?_map, nat2, List.getElem?_map] at hv
        cases en : ns[i]? with
        | none => rw [en] at hv; cases hv
        | some n =>
          rw [en] at hv
          cases hv
          have hn := hs n (List.mem_of_getElem? en)
          refine ⟨rfl, _, rfl, ((n : Nat) : Int), rfl, log_small (B := 10) (by decide) (by omega), _, hD, fitsLt (by rw [List.length_map, List.length_take]; omega), Same.put s3 nD, ?_⟩
          rw [upd_same, List.take_add_one, en, List.map_append]
          rfl
      · rintro H3 ⟨s3, hD⟩
        rw [List.length_map, nat2_len, List.take_length] at hD
        have hsum := sum_six hs
        refine ⟨_, D, ns.map fun n : Nat => Str.ofString (toString ((n : Nat) : Int)), rfl, rfl, .inl (SqL.of (by rw [← strs_eq]; exact hD)), ?_, ?_⟩
        · rw [List.length_map, show (Str.ofString ",").length = 1 by decide +kernel]
          exact sz _ (by omega)
        · rw [join_lineS tx44]
          refine ⟨_, _, rfl, rfl, sz _ (by rw [tx_len, tx_len]; simp only [List.length_append, List.length_cons, List.length_nil]; omega), ?_⟩
          have e1 : numL n ++ plL (kv.take i) ++ [32] ++ [c] ++ [61] ++ lin 44 ns = numL n ++ plL (kv.take (i + 1)) := by
            rw [List.take_add_one, hns, plL_app]
            simp [plL]
          rw [tx_app, e1]
          exact ⟨_, rfl, s3 _ _ he1, s1.trans s3⟩
    · rintro σ H1 ⟨o4, rfl, he1, s1⟩
      refine ⟨he1, _, rfl, ?_⟩
      rw [hlen, List.take_length]
      exact q _ (lock_same he s1)
end
end Mo

namespace Mo
open PySem PySem.Spec PyProof.Rows L2
/-! places as data -/
def txD (ns : List Nat) : PyData := .tuple ((nat2 ns).map PyData.int)
def plD (n : Nat) (kv : List (Nat × List Nat)) : PyData := .tuple [.int ((n : Nat) : Int), .dict (kv.map fun x => (.str (tx [x.1]), txD x.2))]
def tot (kv : List (Nat × List Nat)) : Nat := (kv.map fun x => x.2.length).sum
theorem PVs.dx {H : Hp} : ∀ {kvs : List (Key × V)} {kv : List (Nat × List Nat)}, PVs H kvs (castV kv) → DxAll (fun _ => False) H (kvs.map (·.2)) (kv.map fun x => txD x.2) ∧ (kvs.map fun z => keyD z.1).zip (kv.map fun x => txD x.2) = kv.map fun x => (.str (tx [x.1]), txD x.2)
  | [], [], _ => ⟨.nil, rfl⟩
  | (k, v) :: r, (c, ns) :: q, h => by
    obtain ⟨h1, ⟨p, h2, h3⟩, h4⟩ := h
    obtain ⟨i1, i2⟩ := PVs.dx (kvs := r) (kv := q) h4
    subst h2
    refine ⟨.cons (txt_dx h3) i1, ?_⟩
    rw [List.map_cons, List.map_cons, List.map_cons, List.zip_cons_cons, i2, h1]
    rfl
  | [], _ :: _, h => h.elim
  | _ :: _, [], h => h.elim
theorem pl_dx {H : Hp} {r e : Addr} {n : Nat} {kvs : List (Key × V)} {kv : List (Nat × List Nat)} (hr : H r = some (.tup [.int ((n : Nat) : Int), .ref e])) (he : H e = some (.dK kvs)) (pv : PVs H kvs (castV kv)) : Dx (fun _ => False) H (.ref r) (plD n kv) := by
  obtain ⟨h1, h2⟩ := pv.dx
  refine .tup hr (fun z => z) (.cons (.int _) (.cons ?_ .nil))
  rw [← h2]
  exact .dct he (fun z => z) h1
theorem kv_fit : ∀ {kv : List (Nat × List Nat)}, (∀ x ∈ kv, x.1 < 128 ∧ ∀ n ∈ x.2, n ≤ 999999) → okKv 20 (kv.map fun x => (.str (tx [x.1]), txD x.2)) ∧ PyData.bulkKv (kv.map fun x => (.str (tx [x.1]), txD x.2)) ≤ 4 * kv.length + 2 * tot kv ∧ PyData.depthKv (kv.map fun x => (.str (tx [x.1]), txD x.2)) ≤ 1
  | [], _ => ⟨trivial, by simp [PyData.bulkKv], by simp [PyData.depthKv]⟩
  | (c, ns) :: r, h => by
    obtain ⟨h1, h2⟩ := h (c, ns) List.mem_cons_self
    have h1 : c < 128 := h1
    have h2 : ∀ n ∈ ns, n ≤ 999999 := h2
    obtain ⟨i1, i2, i3⟩ := kv_fit (kv := r) fun x hx => h x (List.mem_cons_of_mem _ hx)
    have ft := FitAll.tup (ints_fitAll (B := 20) (ns := nat2 ns) (fun m hm => by
      obtain ⟨x, hx, rfl⟩ := List.mem_map.mp hm
      have := h2 x hx
      show ((x : Nat) : Int).natAbs < 10 ^ 20
      omega))
    rw [List.map_cons]
    have et : tot ((c, ns) :: r) = ns.length + tot r := rfl
    refine ⟨⟨⟨?_, ft.ok⟩, i1⟩, ?_, ?_⟩
    · simp only [okD]
      intro z hz
      have : z = c := by simpa [tx] using hz
      omega
    · have b1 : PyData.bulk (.str (tx [c])) = 1 := rfl
      have b2 : PyData.bulk (txD ns) ≤ _ := ft.bulk
      rw [nat2_len] at b2
      show PyData.bulk (.str (tx [c])) + PyData.bulk (txD ns) + 2 + PyData.bulkKv (r.map fun x => (.str (tx [x.1]), txD x.2)) ≤ 4 * (r.length + 1) + 2 * tot ((c, ns) :: r)
      rw [b1, et]
      omega
    · have d1 : PyData.depth (.str (tx [c])) = 0 := by simp [PyData.depth]
      have d2 : PyData.depth (txD ns) ≤ _ := ft.deep
      have e : PyData.depthKv ((.str (tx [c]), txD ns) :: r.map fun x => (.str (tx [x.1]), txD x.2)) = max (max (PyData.depth (.str (tx [c]))) (PyData.depth (txD ns))) (PyData.depthKv (r.map fun x => (.str (tx [x.1]), txD x.2))) := by rw [PyData.depthKv]
      show PyData.depthKv ((.str (tx [c]), txD ns) :: r.map fun x => (.str (tx [x.1]), txD x.2)) ≤ 1
      rw [e, d1]
      omega
theorem pl_fit {n : Nat} {kv : List (Nat × List Nat)} (hn : n ≤ 10 ^ 18) (hk : ∀ x ∈ kv, x.1 < 128 ∧ ∀ n ∈ x.2, n ≤ 999999) (hl : kv.length ≤ 8) (ht : tot kv ≤ 5000) : Fit 20 20000 3 (plD n kv) := by
  obtain ⟨h1, h2, h3⟩ := kv_fit hk
  have f1 : Fit 20 1 2 (.int ((n : Nat) : Int)) := fitI (by omega) (by decide)
  have f2 : Fit 20 11000 2 (.dict (kv.map fun x => (.str (tx [x.1]), txD x.2))) := ⟨by simp only [okD]; exact h1, by simp only [PyData.bulk]; omega, by simp only [PyData.depth]; omega⟩
  exact (FitAll.tup (FitAll.app f1.one f2.one)).mono (Nat.le_refl _) (by decide) (by decide)
theorem plL_tot : ∀ {kv : List (Nat × List Nat)}, (∀ x ∈ kv, ∀ n ∈ x.2, n ≤ 999999) → (plL kv).length ≤ 3 * kv.length + 7 * tot kv
  | [], _ => Nat.le_refl _
  | (c, ns) :: r, h => by
    have h1 := lin_lenS (sep := 44) (h (c, ns) List.mem_cons_self)
    have h3 := plL_tot (kv := r) fun x hx => h x (List.mem_cons_of_mem _ hx)
    have et : tot ((c, ns) :: r) = ns.length + tot r := rfl
    show (lin 44 ns ++ plL r).length + 1 + 1 + 1 ≤ 3 * (r.length + 1) + 7 * tot ((c, ns) :: r)
    rw [List.length_append, et]
    have h1 : (lin 44 ns).length ≤ 7 * ns.length := h1
    omega
theorem lin_lowS {sep : Nat} (hs : sep < 128) : ∀ (ns : List Nat), ∀ c ∈ lin sep ns, c < 128
  | [], c, h => by cases h
  | n :: r, c, h => by
    have hn : ∀ c ∈ numL n, c < 128 := fun c hc => by
      have := TL.numL_digits n c hc
      omega
    by_cases e : r = []
    · subst e
      exact hn c h
    · rw [lin_cons e] at h
      rcases List.mem_append.mp h with z | z
      · exact hn c z
      · rcases List.mem_cons.mp z with y | y
        · rw [y]
          exact hs
        · exact lin_lowS hs r c y
theorem plL_low : ∀ {kv : List (Nat × List Nat)}, (∀ x ∈ kv, x.1 < 128) → ∀ c ∈ plL kv, c < 128
  | [], _, c, h => by cases h
  | (a, ns) :: r, hk, c, h => by
    have ha : a < 128 := hk (a, ns) List.mem_cons_self
    have h : c ∈ 32 :: a :: 61 :: (lin 44 ns ++ plL r) := h
    simp only [List.mem_cons, List.mem_append] at h
    rcases h with rfl | rfl | rfl | h | h
    · decide
    · exact ha
    · decide
    · exact lin_lowS (by decide) ns c h
    · exact plL_low (kv := r) (fun x hx => hk x (List.mem_cons_of_mem _ hx)) c h
theorem line_lowP {n : Nat} {kv : List (Nat × List Nat)} (hk : ∀ x ∈ kv, x.1 < 128) : ∀ c ∈ numL n ++ plL kv, c < 128 := fun c h => by
  rcases List.mem_append.mp h with z | z
  · have := TL.numL_digits n c z
    omega
  · exact plL_low hk c z
/-- a place as it may be drawn or written -/
def PlOk (d : Addr) (H : Hp) (v : V) : Prop := ∃ (r e : Addr) (n : Nat) (kvs : List (Key × V)) (kv : List (Nat × List Nat)), v = .ref r ∧ e ≠ d ∧ H r = some (.tup [.int ((n : Nat) : Int), .ref e]) ∧ H e = some (.dK kvs) ∧ PVs H kvs (castV kv) ∧ n ≤ 10 ^ 18 ∧ kv.length ≤ 8 ∧ OkV [] kv ∧ tot kv ≤ 5000
theorem PlOk.mono {d : Addr} {H H' : Hp} {v : V} (h : PlOk d H v) (s1 : ∀ p xs, H p = some (.tup xs) → H' p = some (.tup xs)) (s2 : ∀ p kvs, p ≠ d → H p = some (.dK kvs) → H' p = some (.dK kvs)) : PlOk d H' v := by
  obtain ⟨r, e, n, kvs, kv, h1, h2, h3, h4, h5, h6⟩ := h
  exact ⟨r, e, n, kvs, kv, h1, h2, s1 _ _ h3, s2 _ _ h2 h4, h5.mono s1, h6⟩
theorem PlOk.same {d : Addr} {H H' : Hp} {v : V} (h : PlOk d H v) (s : Same H H') : PlOk d H' v := h.mono (fun _ _ e => s _ _ e) (fun _ _ _ e => s _ _ e)
theorem PlOk.tabs {d : Addr} {H H' : Hp} {v : V} (h : PlOk d H v) (s : LamX.ExtN H H') : PlOk d H' v := h.mono (fun _ _ e => s _ _ e (fun _ z => nomatch z)) (fun _ _ _ e => s _ _ e (fun _ z => nomatch z))
theorem PlOk.but {d c : Addr} {t : Nat} {H H' : Hp} {v : V} (h : PlOk d H v) (src : Src H d c t) (s : But d H H') : PlOk d H' v := by
  obtain ⟨kvs, hd⟩ := src.dict
  exact h.mono (fun _ _ e => s _ _ (ne_of e hd (by intro z; cases z)) e) (fun _ _ n e => s _ _ n e)
theorem PlOk.put {d : Addr} {H : Hp} {v : V} {l : Addr} {xs : List V} {o : HO} (h : PlOk d H v) (hl : H l = some (.lst xs)) : PlOk d (upd H l o) v :=
  h.mono (fun _ _ e => by rw [upd_ne (ne_of e hl (by intro z; cases z))]; exact e) (fun _ _ _ e => by rw [upd_ne (ne_of e hl (by intro z; cases z))]; exact e)
theorem low_128 {c : Nat} (h : lowB c = true) : c < 128 := by
  have h := of_decide_eq_true h
  have hall : ∀ c ∈ (Str.ofString "abcdefghijklmnopqrstuvwxyz").cps.toList, c < 128 := by decide +kernel
  exact hall c h
theorem OkV.wv {kv : List (Nat × List Nat)} (ok : OkV [] kv) (hl : kv.length ≤ 8) : WV kv := ⟨hl, fun x hx => ⟨(ok.txt x hx).2.1, Nat.le_trans (ok.txt x hx).2.2 (by decide)⟩, ok.nod⟩
theorem OkV.fits {kv : List (Nat × List Nat)} (ok : OkV [] kv) : ∀ x ∈ kv, x.1 < 128 ∧ ∀ n ∈ x.2, n ≤ 999999 := fun x hx => ⟨low_128 (ok.low x hx), (ok.txt x hx).2.1⟩
theorem line_60 {n : Nat} {kv : List (Nat × List Nat)} (hn : n ≤ 10 ^ 18) (ok : OkV [] kv) (hl : kv.length ≤ 8) (ht : tot kv ≤ 5000) : (numL n ++ plL kv).length ≤ 60000 := by
  have h1 := numL_19 hn
  have h2 := plL_tot (kv := kv) fun x hx => (ok.txt x hx).2.1
  rw [List.length_append]
  omega
theorem tot_le : ∀ {kv : List (Nat × List Nat)}, (∀ x ∈ kv, x.2.length ≤ 5) → tot kv ≤ 5 * kv.length
  | [], _ => Nat.le_refl _
  | x :: r, h => by
    have h1 := h x List.mem_cons_self
    have h2 := tot_le (kv := r) fun y hy => h y (List.mem_cons_of_mem _ hy)
    show x.2.length + tot r ≤ 5 * (r.length + 1)
    omega
theorem shown_one (d : PyData) : Str.ofString "[" ++ d.shown ++ Str.ofString "]" = (PyData.list [d]).shown := by
  have e : (PyData.list [d]).shown = Str.ofString "[" ++ Str.ofString "" ++ d.shown ++ Str.ofString "]" := by
    simp only [PyData.shown, PyData.shownAll]
    rfl
  rw [e, show Str.ofString "[" ++ Str.ofString "" = Str.ofString "[" by decide +kernel]
theorem lin_snoc {sep n : Nat} : ∀ {r : List Nat}, r ≠ [] → lin sep (r ++ [n]) = lin sep r ++ sep :: numL n
  | [], h => absurd rfl h
  | [m], _ => rfl
  | m :: x :: r, _ => by
    have ih := lin_snoc (sep := sep) (n := n) (r := x :: r) (fun z => by cases z)
    show numL m ++ sep :: lin sep (x :: r ++ [n]) = (numL m ++ sep :: lin sep (x :: r)) ++ sep :: numL n
    rw [ih]
    simp
/-- one letter more than may be: the comma ahead of it cannot stand -/
theorem prsP_long0 {r : List Nat} (h0 : r ≠ []) (hn : ∀ n ∈ r, n ≤ 999999) (hl : r.length = 4096) : prsP (numL 3 ++ plL [(113, r ++ [4])]) = .inl ((numL 3 ++ plL [(113, r ++ [4])]).length - 2) := by
  have e1 : plL [(113, r ++ [4])] = 32 :: 113 :: 61 :: (lin 44 r ++ [44, 52]) := by
    show 32 :: 113 :: 61 :: (lin 44 (r ++ [4]) ++ []) = _
    rw [List.append_nil, lin_snoc h0]
    rfl
  rw [e1]
  have rl := readL_linP (sep := 44) (by decide) (post := [44, 52]) (by decide) r [51, 32, 113, 61] [] h0 hn (by rw [hl]; decide) (fun _ => by rw [hl]; rfl)
  generalize lin 44 r = L at *
  have n3 : numL 3 = [51] := by decide +kernel
  rw [n3]
  have h1 := numEnd_num (g := 10 ^ 18) (n := 3) (tail := 32 :: 113 :: 61 :: (L ++ [44, 52])) (by decide) (by show isDig 32 = false; decide) (numL 3) [] rfl
  rw [n3] at h1
  have hcs : [51] ++ 32 :: 113 :: 61 :: (L ++ [44, 52]) = [51, 32, 113, 61] ++ (L ++ [44, 52]) := rfl
  rw [hcs] at h1 ⊢
  have h1 : numEnd (10 ^ 18) [] ([51, 32, 113, 61] ++ (L ++ [44, 52])) = 1 := h1
  have g1 : ([51, 32, 113, 61] ++ (L ++ [44, 52]))[1]? = some 32 := rfl
  have g2 : ([51, 32, 113, 61] ++ (L ++ [44, 52]))[1 + 1]? = some 113 := rfl
  have g3 : ([51, 32, 113, 61] ++ (L ++ [44, 52]))[1 + 1 + 1]? = some 61 := rfl
  have rl : readL 44 ([51, 32, 113, 61] ++ (L ++ [44, 52])) (1 + 1 + 2) [] = .inr ([] ++ r.map fun n : Nat => (n : Int), ([51, 32, 113, 61] ++ L).length) := rl
  have hlen : ([51, 32, 113, 61] ++ (L ++ [44, 52])).length = ([51, 32, 113, 61] ++ L).length + 2 := by
    rw [← List.append_assoc, List.length_append]
    rfl
  have gE : ([51, 32, 113, 61] ++ (L ++ [44, 52]))[([51, 32, 113, 61] ++ L).length]? = some 44 := by
    rw [← List.append_assoc, List.getElem?_append_right (Nat.le_refl _), Nat.sub_self]
    rfl
  generalize [51, 32, 113, 61] ++ (L ++ [44, 52]) = cs at *
  generalize ([51, 32, 113, 61] ++ L).length = E at *
  generalize ([] ++ r.map fun n : Nat => (n : Int)) = ls at *
  have rv : rdV cs (1 + 1) (fun c => ([] : List (Nat × List Int)).any fun x => x.1 == c) = .inr (113, ls, E) := by
    unfold rdV
    rw [g2]
    show (if lowB 113 = true ∧ false = false then (if cs[1 + 1 + 1]? = some 61 then (match readL 44 cs (1 + 1 + 2) [] with | .inl o => .inl o | .inr (ls, e) => .inr (113, ls, e)) else .inl (1 + 1 + 1)) else .inl (1 + 1) : Nat ⊕ (Nat × List Int × Nat)) = _
    rw [if_pos ⟨by decide, rfl⟩, if_pos g3, rl]
  have rp : rdP cs 8 1 [] = .inr ([(113, ls)], E) := by
    show (if cs[1]? = some 32 then (match rdV cs (1 + 1) (fun c => ([] : List (Nat × List Int)).any fun x => x.1 == c) with | .inl o => .inl o | .inr (c, ls, e2) => rdP cs 7 e2 ([] ++ [(c, ls)])) else .inr ([], 1) : Nat ⊕ (List (Nat × List Int) × Nat)) = _
    rw [if_pos g1, rv]
    show (if cs[E]? = some 32 then _ else _) = _
    rw [gE, if_neg (by decide)]
    rfl
  unfold prsP
  rw [h1, if_neg (by decide), rp]
  show (if E < cs.length then Sum.inl E else _) = _
  rw [hlen, if_pos (by omega), Nat.add_sub_cancel]
theorem prsP_long : prsP (numL 3 ++ plL [(113, List.replicate 4097 4)]) = .inl ((numL 3 ++ plL [(113, List.replicate 4097 4)]).length - 2) := by
  have e0 : List.replicate 4097 4 = List.replicate 4096 4 ++ [4] := List.replicate_succ'
  rw [e0]
  exact prsP_long0 (fun z => absurd (congrArg List.length z) (by rw [List.length_replicate]; decide)) (fun n hn => by rw [(List.mem_replicate.mp hn).2]; decide) List.length_replicate
/-- {x: v, y: u}, written -/
theorem lit_disp2 {k1 k2 : Key} {t1 t2 : TE} {d1 d2 : PyData} (hk : k1 ≠ k2) (h1 : LitE t1 d1) (h2 : LitE t2 d2) : LitE (tDisp [(tC (kV k1), t1), (tC (kV k2), t2)]) (.dict [(keyD k1, d1), (keyD k2, d2)]) := fun σ H Q q p np =>
  h1 σ _ _ fun H1 v s1 hv => h2 σ _ _ fun H2 u s2 hu => ⟨s2 _ _ (s1 _ _ upd_same), [(k1, v), (k2, u)], rfl, by show 2 ≤ 15; decide, by
    have e : mergeK [] [(k1, v), (k2, u)] = [(k1, v), (k2, u)] := by
      show putK [(k1, v)] k2 u = _
      exact putK_new (by rw [valV_neg hk]; rfl)
    rw [e]
    have nw : ∀ {H' : Hp} {b : Addr}, Same (upd H p (.dK [])) H' → b = p → Was H' b := fun s z => by
      subst z
      unfold Was
      rw [s _ _ upd_same]
      exact Option.some_ne_none _
    have st : ∀ b o, ¬ (Was H b ∨ b = p) → H2 b = some o → upd H2 p (.dK [(k1, v), (k2, u)]) b = some o := fun b o nb e => by
      rw [upd_ne fun z => nb (.inr z)]
      exact e
    refine q _ _ (Same.put (((same_new np).trans s1).trans s2) np) (.dct (kvs := [(k1, v), (k2, u)]) (ds := [d1, d2]) upd_same (fun z => z np) (.cons ?_ (.cons ?_ .nil)))
    · refine (((hv.same s2).more (N' := fun b => Was H b ∨ b = p) fun b _ z => z.elim (fun z => Was.mono (same_new np) z) (fun z => nw (Same.refl _) z)).but st).more fun b _ z => .inl z
    · refine ((hu.more (N' := fun b => Was H b ∨ b = p) fun b _ z => z.elim (fun z => Was.mono s1 (Was.mono (same_new np) z)) (fun z => nw s1 z)).but st).more fun b _ z => .inl z⟩
/-- what stands behind a written place -/
theorem dct_dx {N : Addr → Prop} {H : Hp} {x : V} {kd : List (PyData × PyData)} (h : Dx N H x (.dict kd)) : ∃ a kvs ds, x = .ref a ∧ H a = some (.dK kvs) ∧ ¬ N a ∧ DxAll N H (kvs.map (·.2)) ds ∧ (kvs.map fun kv => keyD kv.1).zip ds = kd := by
  generalize q : PyData.dict kd = d at h
  cases h with
  | @dct a kvs ds h n t => exact ⟨a, kvs, ds, rfl, h, n, t, (PyData.dict.inj q).symm⟩
  | _ => cases q
theorem pvs_dx {N : Addr → Prop} {H : Hp} : ∀ {kvs : List (Key × V)} {ds : List PyData} {kv : List (Nat × List Nat)}, DxAll N H (kvs.map (·.2)) ds → ((kvs.map fun z => keyD z.1).zip ds) = (kv.map fun x => (.str (tx [x.1]), txD x.2)) → PVs H kvs (castV kv)
  | [], [], [], _, _ => trivial
  | [], [], _ :: _, _, h => by cases h
  | (k, v) :: r, d :: ds, [], _, h => by cases h
  | (k, v) :: r, d :: ds, (c, ns) :: q, .cons h1 h2, h => by
    rw [List.map_cons, List.map_cons, List.zip_cons_cons] at h
    obtain ⟨e1, e2⟩ := List.cons.inj h
    obtain ⟨e3, e4⟩ := Prod.mk.inj e1
    subst e4
    obtain ⟨a, xs, e, ha, _, hx⟩ := tpl_dx h1
    rw [dx_ints hx] at ha
    exact ⟨keyD_inj (e3.trans (rfl : _ = keyD (kSg c))), ⟨a, e, ha⟩, pvs_dx h2 e2⟩
theorem pl_of {d : Addr} {N : Addr → Prop} {H : Hp} {v : V} {n : Nat} {kv : List (Nat × List Nat)} (h : Dx N H v (plD n kv)) (hd : N d) (hn : n ≤ 10 ^ 18) (hl : kv.length ≤ 8) (ok : OkV [] kv) (ht : tot kv ≤ 5000) : PlOk d H v := by
  obtain ⟨r, xs, e, hr, _, hx⟩ := tpl_dx h
  cases hx with
  | cons a b =>
    cases a
    cases b with
    | cons a b =>
      cases b
      obtain ⟨e2, kvs, ds, rfl, he, ne, hds, hz⟩ := dct_dx a
      exact ⟨r, e2, n, kvs, kv, e, fun z => ne (by rw [z]; exact hd), hr, he, pvs_dx hds hz, hn, hl, ok, ht⟩
end Mo

namespace Mo
open PySem PySem.Spec PyProof.Rows L2
/-- what _law_parse_error makes of a call: the list of what it gives, or the error's offset -/
def TPar (C : Addr) : (XK → Hp → VK → Prop) → Hp → VK → Prop := fun tl H Q =>
  (∃ R : V → Hp → Prop, (∀ v H2 l xs ys, R v H2 → H2 l = some (.lst xs) → R v (upd H2 l (.lst ys))) ∧ (∀ H1, Same H H1 → ∀ (E : XK) (Q1 : VK), (∀ v H2, Same H1 H2 → R v H2 → Q1 v H2) → tl E H1 Q1) ∧
    ∀ H2 l v, Same H H2 → H l = none → H2 l = some (.lst [v]) → R v H2 → Q (.ref l) H2) ∨
  ∃ off : Int, (∀ H1, Same H H1 → ∀ (E : XK) (Q1 : VK), Errs C "offset" (.int off) H1 E → tl E H1 Q1) ∧ ∀ H2, Same H H2 → Q (.int off) H2
section
variable {P : Program} {w : World} {K : PySem.W.Frag} {mg : Str → Option Value} {base : Heap}
theorem givesLParseError (T : Txt K mg) (hbm : ∃ mm, base.Ns sysModules mm) {N : List Str} {qual : Str} {sc : Scope} {f0 : Addr} {cd0 : Value} {A : Around} {outer : List Env} {s0 : Shared} {H0 : Hp} {E0 : XK} {k : Nat} {q : Str} (hgd : A.guards = some []) :
    ∀ cdv : Value, Gives (cxOf CX0 P w K mg base N qual sc f0 cd0 A outer s0 H0 E0).nox ["_law_call", "_law_caught", "_law_found", "e"] "_law_parse_error" (defScope sLParseError) T.aLParseError cdv (defBody sLParseError) "_law_call" q k (TPar T.cParseError) := by
  intro cdv fn cc s H Q tl hr act hco h
  refine ⟨_, (pss_cons (ps_par (i := 1) (j := 2) (by rfl) scLParseError.nd rfl rfl (by decide) rfl rfl (pa_cons pe_non (pa_cons (pe_lst pa_nil) pa_nil)) (by rfl))
      (pss_cons (Mo.ps_try_keep (i := 3) (j := 1) rfl rfl scLParseError.nd rfl rfl rfl rfl ⟨rfl, by decide, Or.inl T.eParseError⟩ takes0 (fun W pn xe tk _ => (pss_one (ps_expr (Mo.pe_appK (K := K) rfl (pv 2) (pa_cons (act _ _ _ _ _ tk) pa_nil))))) (fun a oe pn => pss_one (ps_set (i := 1) scLParseError.nd rfl (Or.inl rfl) (pv 3))))
      (pss_cons (ps_if (pt_cmpR op_isN (pv 1) pe_non (nomark _)) (pss_one (ps_ret (pv 2))) pss_nil)
      (pss_one (ps_ret (pe_ifExp (pt_val (pe_callB Mo.cr_isX (by rfl) T.m_isinstance (by decide +kernel) (pa_cons (pv 1) (pa_cons (pe_bltn (v := .ty "ValueError") (by rfl) T.m_ValueError (by decide +kernel) rfl) pa_nil)))) (Mo.pe_xv (pv 1)) pe_str)))))), ?_⟩
  refine ⟨Nat.zero_le _, fun l nl => ⟨_, _, rfl, ?_⟩⟩
  have s1 := same_new (o := .lst []) nl
  rcases h with ⟨R, hst, hA, q⟩ | ⟨off, hB, q⟩
  · refine ⟨_, rfl, .inl ⟨rfl, _, SqL.of upd_same⟩, rfl, s1 _ _ hco, _, fun cls d H' z => z, hA _ s1 _ _ fun v H2 s2 hR => ?_⟩
    have hl2 := s2 _ _ (upd_same (H := H) (a := l) (o := .lst []))
    refine ⟨l, _, _, rfl, rfl, hl2, by show 0 < sizeLine; decide, ?_⟩
    refine ⟨_, rfl, rfl, true, rfl, iteT ⟨_, rfl, ?_⟩⟩
    exact q _ l v (Same.put (s1.trans s2) nl) nl upd_same (hst _ _ _ _ _ hR hl2)
  · refine ⟨_, rfl, .inl ⟨rfl, _, SqL.of upd_same⟩, rfl, s1 _ _ hco, _, fun cls d H' z => z, hB _ s1 _ _ fun dd H2 nd s2 hd => ?_⟩
    refine ⟨true, T.xParseError.te, fun _ a na => ?_, fun z => nomatch z⟩
    have nda : dd ≠ a := ne_of_none hd na
    have s3 := same_new (o := exV a (.ref T.cParseError) (some dd)) na
    have er : ErrAt (upd H2 a (exV a (.ref T.cParseError) (some dd))) a T.cParseError dd [("offset", .int off)] := ⟨upd_same, s3 _ _ hd⟩
    refine ⟨_, rfl, rfl, false, rfl, iteF ?_⟩
    refine ⟨_, rfl, a, T.cParseError, dd, _, .ty "ValueError", .type "ValueError", true, rfl, er, T.xParseError.exc, .ty _, T.oParseErrorValueError, true, rfl, iteT ?_⟩
    refine ⟨_, rfl, a, T.cParseError, dd, _, .int off, rfl, er, T.xParseError.xf, T.xParseError.no, by simp [List.lookup], ?_⟩
    exact q _ ((s1.trans s2).trans s3)
end
end Mo

namespace Mo
open PySem PySem.Spec PyProof.Rows L2
section
variable {P : Program} {w : World} {K : PySem.W.Frag} {mg : Str → Option Value} {base : Heap}
def spPen (K : PySem.W.Frag) : Sp := fun vs H Q _ => ∃ (a : Addr) (ns : List Int), vs = [.ref a] ∧ SqL K H a (ns.map V.int) ∧ ns.length ≤ 63 ∧ ∀ H' d c, Same H H' → H d = none → Src H' d c 0 → Q (.ref d) H'
theorem ok_pen {k : Nat} (T : Txt K mg) : FnOk P w K mg base CX0 (k + 1) T.aLPen T.dLPen ["_law_script"] (spPen K) := by
  refine T.fLPen.ok scLPen (fun vs H Q E h => ?_) (fun cdv A outer s H vs Q E hr h => ?_)
  · obtain ⟨a, ns, rfl, _⟩ := h
    rfl
  · obtain ⟨a, ns, rfl, hs, hn, q⟩ := h
    refine ⟨_, (pss_one (ps_ret (pe_disp (pps_cons pe_str (pe_callTy call_list_of (by rfl) T.m_list (by decide +kernel) (pa_cons (pe_slice sl_list (pv 0) po_none (po_some pe_int)) pa_nil)) (pps_cons pe_str pe_int (pps_cons pe_str pe_int pps_nil))) (by rfl) (by rfl) (fun z => by cases z) (by decide)))), ?_⟩
    intro d nd
    have s1 := same_new (o := .dK []) nd
    refine ⟨_, rfl, 63, rfl, a, _, rfl, s1.seq hs, fun p np => ?_⟩
    have s2 := same_new (o := .lst (cutV (ns.map V.int) none (some 63))) np
    refine ⟨p, _, rfl, .inl (SqL.of upd_same), fun c nc => ?_⟩
    have s3 := same_new (o := .lst (cutV (ns.map V.int) none (some 63))) nc
    have ec : cutV (ns.map V.int) none (some 63) = ns.map V.int := by
      unfold cutV
      rw [HT.sIx_none, show (some (63 : Int)) = some ((63 : Nat) : Int) from rfl, HT.sIx_nat, List.drop_zero, Nat.sub_zero, List.length_map]
      exact List.take_of_length_le (by rw [List.length_map]; omega)
    rw [ec] at nc s2 s3 ⊢
    have hd3 := s3 _ _ (s2 _ _ (upd_same (H := H) (a := d) (o := .dK [])))
    refine ⟨hd3, srcD c 0 0, rfl, by show 3 ≤ 15; decide, ?_⟩
    rw [src_merge]
    have ncd : c ≠ d := (ne_of_none (s2 _ _ (upd_same (H := H) (a := d) (o := .dK []))) nc).symm
    refine q _ d c (Same.put ((s1.trans s2).trans s3) nd) nd ⟨ns, 0, upd_same, by rw [upd_ne ncd, upd_same], hn, Int.le_refl 0⟩
end
end Mo

namespace Mo
open PySem PySem.Spec PyProof.Rows L2
open PySem.NumText (AllDigits digitsVal)
/-- a line as it may be -/
def LnOk (v : V) : Prop := ∃ cs : List Nat, v = .str (tx cs) ∧ cs.length ≤ 1400 ∧ Asc cs
theorem asg_lit {te : TE} {d : PyData} (h : LitE te d) {i : Nat} {u : TS} {D} {σ : L2.St} {H : Hp} (q : ∀ H' v, Same H H' → Dx (Was H) H' v d → u D (σ.set i (some v)) H') : tSeq (tAsg te (gName i)) u D σ H := h σ H _ q
theorem str_tx (s : Str) : s = tx s.cps.toList := by
  cases s
  rfl
theorem strs_in {N : Addr → Prop} {H : Hp} {xs : List V} {ss : List Str} (hx : DxAll N H xs (ss.map PyData.str)) : ∀ v ∈ xs, ∃ s ∈ ss, v = .str s := fun v hv => by
  obtain ⟨e, he, dx⟩ := hx.mem hv
  obtain ⟨s, hs, rfl⟩ := List.mem_map.mp he
  cases dx
  exact ⟨s, hs, rfl⟩
theorem lines_ok {N : Addr → Prop} {H : Hp} {xs : List V} (ss : List Str) (hx : DxAll N H xs (ss.map PyData.str)) (h : ∀ s ∈ ss, s.cps.toList.length ≤ 100 ∧ ∀ c ∈ s.cps.toList, c < 128) : ∀ v ∈ xs, LnOk v := fun v hv => by
  obtain ⟨s, hs, rfl⟩ := strs_in hx v hv
  obtain ⟨h1, h2⟩ := h s hs
  exact ⟨s.cps.toList, congrArg V.str (str_tx s), Nat.le_trans h1 (by decide), h2⟩
theorem sum_jn : ∀ ps : List (List Nat), (ps.map List.length).sum ≤ (jn ps).length
  | [] => Nat.le_refl _
  | [p] => by
    show p.length + 0 ≤ p.length
    omega
  | p :: q :: r => by
    have ih := sum_jn (q :: r)
    rw [List.map_cons, List.sum_cons]
    show _ ≤ (p ++ 32 :: jn (q :: r)).length
    rw [List.length_append, List.length_cons]
    omega
theorem tot_app : ∀ a b : List (Nat × List Nat), tot (a ++ b) = tot a + tot b
  | [], b => by show tot b = 0 + tot b; omega
  | x :: r, b => by
    show x.2.length + tot (r ++ b) = x.2.length + tot r + tot b
    rw [tot_app r b]
    omega
theorem val_cast {us p : List Nat} (h : isValB us p = true) : ∃ ns : List Nat, valOf p = (p.headD 0, nat2 ns) ∧ p.headD 0 < 128 ∧ (∀ m ∈ ns, m ≤ 999999) ∧ ns.length ≤ p.length := by
  match p, h with
  | c :: x :: r, h =>
    have eV : isValB us (c :: x :: r) = ((lowB c && !decide (c ∈ us)) && (decide (x = 61) && (spc 44 [] r).all (numS 999999))) := rfl
    rw [eV, Bool.and_eq_true, Bool.and_eq_true, Bool.and_eq_true] at h
    have hall := List.all_eq_true.mp h.2.2
    have hl := spc_len 44 r []
    refine ⟨(spc 44 [] r).map digitsVal, ?_, low_128 h.1.1, fun m hm => ?_, ?_⟩
    · show (c, vals (spc 44 [] r)) = (c, _)
      unfold vals nat2
      rw [List.map_map]
      rfl
    · obtain ⟨q, hq, rfl⟩ := List.mem_map.mp hm
      have h3 := (numS_iff.mp (hall q hq)).2.2
      unfold isNum at h3
      rw [Bool.and_eq_true] at h3
      exact of_decide_eq_true h3.2
    · rw [List.length_map, List.length_cons, List.length_cons]
      omega
theorem placeV_cast : ∀ (qs : List (List Nat)) (a : List (Nat × List Nat)) (kv : List (Nat × List Int)), placeV qs (castV a) = some kv → (∀ x ∈ a, x.1 < 128 ∧ ∀ m ∈ x.2, m ≤ 999999) → ∃ b, kv = castV b ∧ (∀ x ∈ b, x.1 < 128 ∧ ∀ m ∈ x.2, m ≤ 999999) ∧ b.length = a.length + qs.length ∧ tot b ≤ tot a + (qs.map List.length).sum
  | [], a, kv, h, ha => by
    cases h
    exact ⟨a, rfl, ha, rfl, by show tot a ≤ tot a + 0; omega⟩
  | p :: r, a, kv, h, ha => by
    rw [placeV] at h
    cases hv : isValB (names (castV a)) p with
    | false => rw [hv, if_neg Bool.false_ne_true] at h; cases h
    | true =>
      rw [hv, if_pos rfl] at h
      obtain ⟨ns, e1, e2, e3, e4⟩ := val_cast hv
      have ec : castV a ++ [valOf p] = castV (a ++ [(p.headD 0, ns)]) := by
        rw [e1]
        unfold castV
        rw [List.map_append]
        rfl
      rw [ec] at h
      obtain ⟨b, b1, b2, b3, b4⟩ := placeV_cast r (a ++ [(p.headD 0, ns)]) kv h (fun x hx => by
        rcases List.mem_append.mp hx with z | z
        · exact ha x z
        · rw [List.mem_singleton.mp z]
          exact ⟨e2, e3⟩)
      refine ⟨b, b1, b2, ?_, ?_⟩
      · rw [b3, List.length_append]
        show a.length + 1 + r.length = a.length + (r.length + 1)
        omega
      · rw [tot_app] at b4
        have e5 : tot [(p.headD 0, ns)] = ns.length := by show ns.length + 0 = _; omega
        rw [e5] at b4
        rw [List.map_cons, List.sum_cons]
        omega
theorem place_cast {cs : List Nat} {n : Nat} {kv : List (Nat × List Int)} (h : placeL cs = some (n, kv)) : n ≤ 10 ^ 18 ∧ ∃ b, kv = castV b ∧ (∀ x ∈ b, x.1 < 128 ∧ ∀ m ∈ x.2, m ≤ 999999) ∧ b.length ≤ 8 ∧ tot b ≤ cs.length := by
  have hj := jn_spc cs []
  rw [List.nil_append] at hj
  have hsum := sum_jn (spc 32 [] cs)
  rw [hj] at hsum
  unfold placeL placeQ at h
  have hne := spc_ne 32 cs []
  generalize spc 32 [] cs = ps at *
  cases ps with
  | nil => exact absurd rfl hne
  | cons p r =>
    have h : (if (numS (10 ^ 18) p && decide (r.length + 1 ≤ 9)) = true then (placeV r []).map fun kv => (digitsVal p, kv) else none) = some (n, kv) := h
    by_cases c : (numS (10 ^ 18) p && decide (r.length + 1 ≤ 9)) = true
    · rw [if_pos c] at h
      rw [Bool.and_eq_true, decide_eq_true_eq] at c
      cases hq : placeV r [] with
      | none => rw [hq] at h; cases h
      | some kv' =>
        rw [hq] at h
        cases h
        obtain ⟨b, b1, b2, b3, b4⟩ := placeV_cast r [] kv hq (fun x hx => absurd hx List.not_mem_nil)
        have h3 := (numS_iff.mp c.1).2.2
        unfold isNum at h3
        rw [Bool.and_eq_true] at h3
        rw [List.map_cons, List.sum_cons] at hsum
        have b4 : tot b ≤ 0 + (r.map List.length).sum := b4
        have b3 : b.length = 0 + r.length := b3
        exact ⟨of_decide_eq_true h3.2, b, b1, b2, by omega, by omega⟩
    · rw [if_neg c] at h
      cases h
section
variable {P : Program} {w : World} {K : PySem.W.Frag} {mg : Str → Option Value} {base : Heap}
def lamQ : Str := (envOfC "law" (defScope sLaw) 0 0 .none).qual ++ "<lambda>"
def spLaw (K : PySem.W.Frag) (pd : Addr) : Sp := fun vs H Q _ => ∃ (a : Addr) (ns : List Int), vs = [.ref a] ∧ SqL K H a (ns.map V.int) ∧ ns.length ≤ 63 ∧ H pd = some (.tbl #[]) ∧ ∀ H', Q (.bl true) H'
theorem ok_law {k : Nat} (T : Txt K mg) (TB : LamX.TabB base mg T.cdLaw T.pdLaw) (hbm : ∃ mm, base.Ns sysModules mm) : FnG P w K mg base CX0 (k + 8) T.aLaw T.dLaw ["_law_script"] (spLaw K T.pdLaw) := by
  have GLPen : FnOk P w K mg base CX0 (k + 7) T.aLPen T.dLPen ["_law_script"] (spPen K) := ok_pen T
  have GLDraw : FnOk P w K mg base CX0 (k + 7) T.aLDraw T.dLDraw ["_law_pen_here", "_law_count"] spSDraw := ok_draw T
  have GLDrawnPlace : FnOk P w K mg base CX0 (k + 7) T.aLDrawnPlace T.dLDrawnPlace ["_law_pen_here"] spPlc := ok_plc T
  have GLPlaceLine : FnOk P w K mg base CX0 (k + 7) T.aLPlaceLine T.dLPlaceLine ["_law_place"] spLn := ok_ln T
  have GLBent : FnOk P w K mg base CX0 (k + 7) T.aLBent T.dLBent ["_law_pen_here", "_law_line", "_law_signs"] (spBent K) := ok_bent T
  have GLPlaceOf : FnOk P w K mg base CX0 (k + 7) T.aLPlaceOf T.dLPlaceOf ["_law_line"] spOfP := ok_ofP T
  have GLLongest : FnOk P w K mg base CX0 (k + 7) T.aLLongest T.dLLongest ["_law_line"] spLst := ok_lst T
  have GParsePlace : FnOk P w K mg base (L2.CX P w) (k + 5) T.aParsePlace T.dParsePlace ["line"] (spPrP T.cParseError) := ok_prp T
  refine okT T.fLaw T.kdLaw scLaw (fun vs H Q E h => ?_) (fun A outer s H vs Q E hr hgd h => ?_)
  · obtain ⟨a, ns, rfl, _⟩ := h
    rfl
  · obtain ⟨a, ns, rfl, hs, hn, htb, q⟩ := h
    refine ⟨_, (pss_cons (ps_set (i := 1) scLaw.nd rfl (Or.inl rfl) (pe_call GLPen hr (by rfl) T.gLPen T.fLPen.kp T.bLPen .nil pass0 (pa_cons (pv 0) pa_nil)))
      (pss_cons (ps_set (i := 2) scLaw.nd rfl (Or.inl rfl) (pe_lst (pa_cons pe_str (pa_cons pe_str (pa_cons pe_str (pa_cons pe_str (pa_cons pe_str (pa_cons pe_str (pa_cons pe_str (pa_cons pe_str pa_nil))))))))))
      (pss_cons (ps_set (i := 2) scLaw.nd rfl (Or.inl rfl) (pe_op op_cat (pv 2) (pe_lst (pa_cons pe_str (pa_cons pe_str (pa_cons pe_str (pa_cons pe_str (pa_cons pe_str (pa_cons pe_str (pa_cons pe_str pa_nil))))))))))
      (pss_cons (ps_set (i := 2) scLaw.nd rfl (Or.inl rfl) (pe_op op_cat (pv 2) (pe_lst (pa_cons pe_str (pa_cons pe_str (pa_cons pe_str (pa_cons pe_str (pa_cons pe_str (pa_cons pe_str (pa_cons pe_str pa_nil))))))))))
      (pss_cons (ps_set (i := 2) scLaw.nd rfl (Or.inl rfl) (pe_op op_cat (pv 2) (pe_lst (pa_cons pe_str (pa_cons pe_str pa_nil)))))
      (pss_cons (ps_for PassesOwn.never rfl (pi_range1 (by rfl) T.m_range (pa_cons (pe_op op_add pe_int (pe_callB (call_min2 rfl) (by rfl) T.m_min (by decide +kernel) (pa_cons pe_int (pa_cons (pe_op op_mul pe_int (pe_callB call_len_seq (by rfl) T.m_len PySem.boot_len (pa_cons (pv 0) pa_nil))) pa_nil)))) pa_nil)) (pg_name (i := 3) scLaw.nd rfl (Or.inl rfl)) (pss_cons (ps_set (i := 4) scLaw.nd rfl (Or.inr rfl) (pe_call GLPlaceLine hr (by rfl) T.gLPlaceLine T.fLPlaceLine.kp T.bLPlaceLine .nil pass0 (pa_cons (pe_call GLDrawnPlace hr (by rfl) T.gLDrawnPlace T.fLDrawnPlace.kp T.bLDrawnPlace .nil pass0 (pa_cons (pv 1) pa_nil)) pa_nil)))
      (pss_cons (ps_for PassesOwn.never rfl (pi_range1 (by rfl) T.m_range (pa_cons (pe_op op_add pe_int (pe_call GLDraw hr (by rfl) T.gLDraw T.fLDraw.kp T.bLDraw .nil pass0 (pa_cons (pv 1) (pa_cons pe_int pa_nil)))) pa_nil)) (pg_name (i := 5) scLaw.nd rfl (Or.inl rfl)) (pss_one (ps_set (i := 4) scLaw.nd rfl (Or.inr rfl) (pe_call GLBent hr (by rfl) T.gLBent T.fLBent.kp T.bLBent .nil pass0 (pa_cons (pv 1) (pa_cons (pv 4) (pa_cons (pe_lst (pa_cons pe_str (pa_cons pe_str (pa_cons pe_str (pa_cons pe_str (pa_cons pe_str (pa_cons pe_str (pa_cons pe_str (pa_cons pe_str (pa_cons pe_str (pa_cons pe_str (pa_cons pe_str (pa_cons pe_str (pa_cons pe_str (pa_cons pe_str pa_nil))))))))))))))) pa_nil)))))))
      (pss_one (ps_expr (pe_bm PySem.F.plainAttrs_list PySem.F.slot_list_append PySem.F.type_list_append mt_append (pv 2) (pa_cons (pv 4) pa_nil)))))))
      (pss_cons (ps_for PassesOwn.never rfl (pi_list (pv 2)) (pg_name (i := 4) scLaw.nd rfl (Or.inr rfl)) (pss_cons (ps_set (i := 6) scLaw.nd rfl (Or.inl rfl) (pe_call GLPlaceOf hr (by rfl) T.gLPlaceOf T.fLPlaceOf.kp T.bLPlaceOf .nil pass0 (pa_cons (pv 4) pa_nil)))
      (pss_cons (ps_set (i := 7) scLaw.nd rfl (Or.inl rfl) (pe_ifExp (pt_cmpR op_notN (pv 6) pe_non (nomark _)) (pe_lst (pa_cons (pv 6) pa_nil)) (pe_call GLLongest hr (by rfl) T.gLLongest T.fLLongest.kp T.bLLongest .nil pass0 (pa_cons (pv 4) pa_nil))))
      (pss_one (ps_if (pt_cmpR op_ne (pe_callB (Mo.cr_reprX hbm hgd hr.units) (by rfl) T.m_repr (by decide +kernel) (pa_cons (Mo.pe_lam (T := [(T.pdLaw, _)]) T.fLParseError T.bLParseError scLParseError (by rfl) T.gLParseError rfl (Or.inl rfl) (givesLParseError T hbm hgd) TB rfl (List.mem_singleton.mpr rfl) (fun p hp _ => by rw [List.mem_singleton.mp hp]) hr (LamX.lamS_by (sc := defScope sLaw) (by decide +kernel)) rfl (fun _ _ _ _ _ => rfl) (fun A outer s' H' E fn cc hr hgu => (pe_call GParsePlace hr (by rfl) T.gParsePlace T.fParsePlace.kp T.bParsePlace .nil (passes_call (takes_of rfl rfl rfl rfl) (fun _ _ _ _ h => h)) (pa_cons (pv 4) pa_nil)))) pa_nil)) (pe_callB (Mo.cr_reprX hbm hgd hr.units) (by rfl) T.m_repr (by decide +kernel) (pa_cons (pv 7) pa_nil)) (nomark _)) (pss_one (ps_ret pe_bl)) pss_nil)))))
      (pss_one (ps_ret pe_bl))))))))), ?_⟩
    refine ⟨_, rfl, a, ns, rfl, hs, hn, fun H0 d c s0 nd src0 => ?_⟩
    have tb0 : LamX.Tabs [(T.pdLaw, lamQ)] H0 := tabs_nil (s0 _ _ htb)
    have hs0 := s0.seq hs
    have sz : ∀ m, m ≤ 300000 → m ≤ sizeLine := fun m hm => Nat.le_trans hm (by decide)
    -- the written lines
    refine asg_lit (lit_lst (lit_cons lit_str (lit_cons lit_str (lit_cons lit_str (lit_cons lit_str (lit_cons lit_str (lit_cons lit_str (lit_cons lit_str (lit_cons lit_str lit_nil))))))))) fun H1 v1 s1 hv1 => ?_
    obtain ⟨l1, xs1, rfl, hl1, nl1, hx1⟩ := lst_dx hv1
    have ln1 : xs1.length = 8 := hx1.length
    have ok1 := lines_ok [Str.ofString "", Str.ofString " ", Str.ofString "0", Str.ofString "00", Str.ofString "0 ", Str.ofString "01 a=1", Str.ofString "1000000000000000000", Str.ofString "1000000000000000001"] hx1 (by decide +kernel)
    clear hx1 hv1
    refine ⟨_, rfl, (lit_lst (lit_cons lit_str (lit_cons lit_str (lit_cons lit_str (lit_cons lit_str (lit_cons lit_str (lit_cons lit_str (lit_cons lit_str lit_nil)))))))).use fun H2 v2 s2 hv2 => ?_⟩
    obtain ⟨l2, xs2, rfl, hl2, _, hx2⟩ := lst_dx hv2
    have ln2 : xs2.length = 7 := hx2.length
    have ok2 := lines_ok [Str.ofString "10000000000000000000", Str.ofString "5 a=", Str.ofString "5 a=1,", Str.ofString "5 a=1 a=2", Str.ofString "5 a=1,2 b", Str.ofString "5 a=01", Str.ofString "5 a=1000000"] hx2 (by decide +kernel)
    clear hx2 hv2
    refine ⟨l1, l2, xs1, xs2, rfl, rfl, s2 _ _ hl1, hl2, by rw [ln1, ln2]; decide, fun l3 nl3 => ?_⟩
    have s3 := same_new (o := .lst (xs1 ++ xs2)) nl3
    have hl3 : upd H2 l3 (.lst (xs1 ++ xs2)) l3 = some (.lst (xs1 ++ xs2)) := upd_same
    generalize upd H2 l3 (.lst (xs1 ++ xs2)) = H3 at *
    refine ⟨_, rfl, (lit_lst (lit_cons lit_str (lit_cons lit_str (lit_cons lit_str (lit_cons lit_str (lit_cons lit_str (lit_cons lit_str (lit_cons lit_str lit_nil)))))))).use fun H4 v4 s4 hv4 => ?_⟩
    obtain ⟨l4, xs4, rfl, hl4, _, hx4⟩ := lst_dx hv4
    have ln4 : xs4.length = 7 := hx4.length
    have ok4 := lines_ok [Str.ofString "5  a=1", Str.ofString "5 A=1", Str.ofString "5 a=1 ", Str.ofString "-1", Str.ofString "5 ab=1", Str.ofString "5 a 1", Str.ofString "5a=1"] hx4 (by decide +kernel)
    clear hx4 hv4
    refine ⟨l3, l4, xs1 ++ xs2, xs4, rfl, rfl, s4 _ _ hl3, hl4, by rw [List.length_append, ln1, ln2, ln4]; decide, fun l5 nl5 => ?_⟩
    have s5 := same_new (o := .lst (xs1 ++ xs2 ++ xs4)) nl5
    have hl5 : upd H4 l5 (.lst (xs1 ++ xs2 ++ xs4)) l5 = some (.lst (xs1 ++ xs2 ++ xs4)) := upd_same
    generalize upd H4 l5 (.lst (xs1 ++ xs2 ++ xs4)) = H5 at *
    refine ⟨_, rfl, (lit_lst (lit_cons lit_str (lit_cons lit_str lit_nil))).use fun H6 v6 s6 hv6 => ?_⟩
    obtain ⟨l6, xs6, rfl, hl6, _, hx6⟩ := lst_dx hv6
    have ln6 : xs6.length = 2 := hx6.length
    have ok6 := lines_ok [Str.ofString "5 a=1 b=2 c=3 d=4 e=5 f=6 g=7 h=8", Str.ofString "5 a=1 b=2 c=3 d=4 e=5 f=6 g=7 h=8 i=9"] hx6 (by decide +kernel)
    clear hx6 hv6
    refine ⟨l5, l6, xs1 ++ xs2 ++ xs4, xs6, rfl, rfl, s6 _ _ hl5, hl6, by rw [List.length_append, List.length_append, ln1, ln2, ln4, ln6]; decide, fun lt nlt => ?_⟩
    have s7 := same_new (o := .lst (xs1 ++ xs2 ++ xs4 ++ xs6)) nlt
    have hlt0 : upd H6 lt (.lst (xs1 ++ xs2 ++ xs4 ++ xs6)) lt = some (.lst (xs1 ++ xs2 ++ xs4 ++ xs6)) := upd_same
    have s06 := ((s1.trans s2).trans (s3.trans s4)).trans (s5.trans s6)
    have s07 := s06.trans s7
    have src7 := src0.same s07
    have tb7 := Tabs.same tb0 s07
    have nw := (src0.same s06).new nlt
    have nltd : lt ≠ d := nw.1
    have nltc : lt ≠ c := nw.2
    have hs7 := s07.seq hs0
    have ok7 : ∀ v ∈ xs1 ++ xs2 ++ xs4 ++ xs6, LnOk v := fun v hv => by
      rcases List.mem_append.mp hv with y | y
      · rcases List.mem_append.mp y with y | y
        · rcases List.mem_append.mp y with y | y
          · exact ok1 v y
          · exact ok2 v y
        · exact ok4 v y
      · exact ok6 v y
    have ln7 : (xs1 ++ xs2 ++ xs4 ++ xs6).length = 24 := by rw [List.length_append, List.length_append, List.length_append, ln1, ln2, ln4, ln6]
    generalize upd H6 lt (.lst (xs1 ++ xs2 ++ xs4 ++ xs6)) = H7 at *
    generalize xs1 ++ xs2 ++ xs4 ++ xs6 = xs7 at *
    clear ok1 ok2 ok4 ok6 hl1 hl2 hl3 hl4 hl5 hl6 s1 s2 s3 s4 s5 s6 s7 nl3 nl5 nlt
    refine ⟨_, rfl, a, _, rfl, .inl hs7, 2, _, rfl, rfl, .inl ⟨by decide, by decide⟩, 16, _, rfl, 8, _, rfl, rfl, _, rfl, ?_, ?_, for_range (lo := 0) (fun i σ H' => ∃ (t : Nat) (xs : List V) (o3 o4 o5 : Option V), σ = [some (.ref a), some (.ref d), some (.ref lt), o3, o4, o5, none, none] ∧ Src H' d c t ∧ t ≤ 300 * i ∧ LamX.Tabs [(T.pdLaw, lamQ)] H' ∧ H' lt = some (.lst xs) ∧ xs.length ≤ 24 + i ∧ ∀ v ∈ xs, LnOk v) ?_ ?_ ?_⟩
    · split <;> omega
    · split <;> omega
    · exact ⟨0, xs7, _, _, _, rfl, src7, Nat.le_refl _, tb7, hlt0, by omega, ok7⟩
    · rintro i σ H2 hi ⟨t, xs, o3, o4, o5, rfl, src2, ht, tb2, hl2, hxl, ok2⟩
      have hi2 : i < 24 := by
        revert hi
        split <;> omega
      clear hi
      refine ⟨_, rfl, d, c, t, rfl, src2, by omega, fun H4 r e n kvs kv t4 but4 src4 ht4 nr ne hr4 hn4 he4 pv4 hk4 ok4 h5 => ?_⟩
      refine ⟨r, e, n, kvs, kv, rfl, hr4, hn4, he4, pv4, ok4.wv hk4, fun H5 s5 => ?_⟩
      have ll : (numL n ++ plL kv).length ≤ 323 := by
        have h1 := numL_19 hn4
        have h2 := plL_tot (kv := kv) fun x hx => (ok4.txt x hx).2.1
        have h3 := tot_le h5
        rw [List.length_append]
        omega
      have la : Asc (numL n ++ plL kv) := line_lowP fun x hx => (ok4.fits x hx).1
      have but25 := but4.trans (But.same s5)
      have src5' := src4.same s5
      have tb5' := src2.tab tb2 but25
      have hl5' := but25 _ _ nltd hl2
      generalize numL n ++ plL kv = c0 at *
      refine ⟨_, rfl, d, c, 2, t4, rfl, src5', by decide, by decide, by omega, fun H6 y t6 but6 src6 ht6 y0 y1 => ?_⟩
      obtain ⟨y, rfl⟩ := nat_of y0
      refine ⟨1, _, rfl, rfl, _, rfl, ?_, ?_, for_range (lo := 0) (fun j σ H' => ∃ (t' : Nat) (cs : List Nat) (o3 o5 : Option V), σ = [some (.ref a), some (.ref d), some (.ref lt), o3, some (.str (tx cs)), o5, none, none] ∧ Src H' d c t' ∧ t' ≤ t6 + 10 * j ∧ LamX.Tabs [(T.pdLaw, lamQ)] H' ∧ H' lt = some (.lst xs) ∧ cs.length + 4 ≤ 327 * 2 ^ j ∧ Asc cs) ?_ ?_ ?_⟩
      · omega
      · omega
      · exact ⟨t6, c0, _, _, rfl, src6, by omega, src5'.tab tb5' but6, but6 _ _ nltd hl5', by show c0.length + 4 ≤ 327 * 1; omega, la⟩
      · rintro j σ H7 hj ⟨t7, cs, o3', o5', rfl, src7, ht7, tb7, hl7, len7, asc7⟩
        have hj2 : j < 2 := by omega
        have p4 : 2 ^ j ≤ 2 := by
          rcases (by omega : j = 0 ∨ j = 1) with z | z <;> subst z <;> decide
        refine ⟨_, rfl, _, rfl, by show 14 ≤ sizeLine; decide, fun lg nlg => ?_⟩
        have s8 := same_new (o := .lst (([Str.ofString "0", Str.ofString "9", Str.ofString " ", Str.ofString ",", Str.ofString "=", Str.ofString "a", Str.ofString "b", Str.ofString "z", Str.ofString "A", Str.ofString ".", Str.ofString "-", Str.ofString " a=1", Str.ofString "00", Str.ofString "\n"] : List Str).map V.str)) nlg
        have nd8 := src7.new nlg
        refine ⟨d, c, t7, cs, lg, ([Str.ofString "0", Str.ofString "9", Str.ofString " ", Str.ofString ",", Str.ofString "=", Str.ofString "a", Str.ofString "b", Str.ofString "z", Str.ofString "A", Str.ofString ".", Str.ofString "-", Str.ofString " a=1", Str.ofString "00", Str.ofString "\n"] : List Str).map V.str, rfl, src7.same s8, by omega, by omega, asc7, upd_same, nd8.1, by show 0 < 14; decide, by show 14 < 100; decide, fun v hv => ?_, fun H8 cs8 t8 but8 src8 ht8 len8 asc8 => ?_⟩
        · obtain ⟨s, hs, rfl⟩ := List.mem_map.mp hv
          have hall : ∀ s ∈ ([Str.ofString "0", Str.ofString "9", Str.ofString " ", Str.ofString ",", Str.ofString "=", Str.ofString "a", Str.ofString "b", Str.ofString "z", Str.ofString "A", Str.ofString ".", Str.ofString "-", Str.ofString " a=1", Str.ofString "00", Str.ofString "\n"] : List Str), s.cps.toList.length ≤ 4 ∧ ∀ c ∈ s.cps.toList, c < 128 := by decide +kernel
          exact ⟨s.cps.toList, congrArg V.str (str_tx s), hall s hs⟩
        · have but78 := (But.same (d := d) s8).trans but8
          refine ⟨t8, cs8, _, _, rfl, src8, by omega, src7.tab tb7 but78, but78 _ _ nltd hl7, ?_, asc8⟩
          rw [Nat.pow_succ]
          omega
      · rintro σ H7 ⟨t7, cs, o3', o5', rfl, src7, ht7, tb7, hl7, len7, asc7⟩
        have p4 : 327 * 2 ^ (1 + ((y : Nat) : Int)).toNat ≤ 327 * 4 := by
          rcases (by omega : y = 0 ∨ y = 1) with z | z <;> subst z <;> decide
        refine ⟨_, rfl, .inl ⟨rfl, _, SqL.of hl7⟩, _, rfl, lt, _, _, rfl, rfl, hl7, fitsLt (by omega), ?_⟩
        refine ⟨t7, xs ++ [.str (tx cs)], _, _, _, rfl, src7.upd nltd nltc, ?_, Tabs.put tb7 hl7, upd_same, by rw [List.length_append]; show _ + 1 ≤ _; omega, fun v hv => ?_⟩
        · have : (1 + ((y : Nat) : Int)).toNat ≤ 2 := by omega
          omega
        · rcases List.mem_append.mp hv with w | w
          · exact ok2 v w
          · rw [List.mem_singleton.mp w]
            exact ⟨cs, rfl, by omega, asc7⟩
    · rintro σ H2 ⟨t, xs, o3, o4, o5, rfl, src2, ht, tb2, hl2, hxl, ok2⟩
      clear src7 tb7 ok7 hlt0 hs7 ht
      -- each line, parsed
      refine ⟨_, rfl, lt, rfl, ⟨_, SqL.of hl2⟩, for_list (K := K) (a := lt) (xs := xs) (fun i σ H' => ∃ (o3 o4 o5 o6 o7 : Option V), σ = [some (.ref a), some (.ref d), some (.ref lt), o3, o4, o5, o6, o7] ∧ LamX.Tabs [(T.pdLaw, lamQ)] H' ∧ H' lt = some (.lst xs)) ?_ ?_ ?_ ?_⟩
      · exact ⟨_, _, _, _, _, rfl, tb2, hl2⟩
      · rintro i σ H3 _ ⟨o3, o4, o5, o6, o7, rfl, _, hl3⟩
        exact SqL.of hl3
      · rintro i v σ H3 hv ⟨o3, o4, o5, o6, o7, rfl, tb3, hl3⟩
        obtain ⟨cs, rfl, len, asc⟩ := ok2 v (List.mem_of_getElem? hv)
        obtain ⟨told1, told2⟩ := prsP_told cs (by omega)
        refine ⟨_, rfl, cs, rfl, by omega, fun hnone H4 s4 => ?_, fun n kv hsome H4 r e kvs s4 ne hr4 he4 pv4 => ?_⟩
        · refine ⟨_, rfl, rfl, false, rfl, iteF ⟨_, rfl, cs, rfl, by omega, fun H5 s5 => ?_⟩⟩
          have s35 := s4.trans s5
          cases ep : prsP cs with
          | inr x =>
            obtain ⟨n, kv⟩ := x
            have := told2 n kv ep
            rw [hnone] at this
            cases this
          | inl off =>
            obtain ⟨_, eo, le⟩ := told1 off ep
            subst eo
            have fi : Fit 20 1 0 (.int ((runP (.n []) cs : Nat) : Int)) := fitI (by omega) (by decide)
            obtain ⟨g1, g2, g3⟩ := fi.repr (by decide) (by decide) (by decide) (by decide)
            refine ⟨Tabs.same tb3 s35, fun H6 ex6 tb6 => .inr ⟨((runP (.n []) cs : Nat) : Int), fun H7 s7 E Q1 hQ => ?_, fun H7 s7 => ?_⟩⟩
            · refine ⟨_, rfl, fun _ => False, _, _, rfl, .str _, .inr ⟨cs, rfl, by omega, fun off z => ?_, fun n kv z => ?_⟩⟩
              · rw [ep] at z
                cases z
                exact hQ
              · rw [ep] at z
                cases z
            · refine ⟨fun _ => False, _, _, rfl, .int _, g1, g2, g3, _, rfl, fun _ => False, _, _, rfl, .int _, g1, g2, g3, rfl, false, same_ne _, iteF ?_⟩
              exact ⟨_, _, _, _, _, rfl, Tabs.same tb6 s7, s7 _ _ (ex6 _ _ (s35 _ _ hl3) (fun _ z => nomatch z))⟩
        · cases ep : prsP cs with
          | inl off =>
            have := (told1 off ep).1
            rw [hsome] at this
            cases this
          | inr x =>
            obtain ⟨n2, kv2⟩ := x
            have t2 := told2 n2 kv2 ep
            rw [hsome] at t2
            cases t2
            obtain ⟨hn8, b, rfl, bf, bl, bt⟩ := place_cast hsome
            have pft := pl_fit hn8 bf bl (by omega)
            obtain ⟨k1, k2, k3⟩ := (FitAll.lst pft.one).repr (by decide) (by decide) (by decide) (by decide)
            refine ⟨_, rfl, rfl, true, rfl, iteT ⟨_, rfl, by show 1 ≤ sizeLine; decide, fun L nL => ?_⟩⟩
            have s5 := same_new (o := .lst [V.ref r]) nL
            have hL5 : upd H4 L (.lst [V.ref r]) L = some (.lst [V.ref r]) := upd_same
            have s35 := s4.trans s5
            have hr5 := s5 _ _ hr4
            have he5 := s5 _ _ he4
            have pv5 := pv4.same s5
            generalize upd H4 L (.lst [V.ref r]) = H5 at *
            refine ⟨Tabs.same tb3 s35, fun H6 ex6 tb6 => .inl ⟨fun v H' => ∃ r7 d7 kvs7, v = .ref r7 ∧ H' r7 = some (.tup [.int ((n : Nat) : Int), .ref d7]) ∧ H' d7 = some (.dK kvs7) ∧ PVs H' kvs7 (castV b), ?_, fun H7 s7 E Q1 hQ => ?_, fun H7 l7 v7 s7 nl7 hl7 h7 => ?_⟩⟩
            · rintro v H' l xs ys ⟨r7, d7, kvs7, rfl, hr7, hd7, pv7⟩ hl
              exact ⟨r7, d7, kvs7, rfl, by rw [upd_ne (ne_of hr7 hl (by intro z; cases z))]; exact hr7, by rw [upd_ne (ne_of hd7 hl (by intro z; cases z))]; exact hd7, pv7.mono fun p xs hp => by rw [upd_ne (ne_of hp hl (by intro z; cases z))]; exact hp⟩
            · refine ⟨_, rfl, fun _ => False, _, _, rfl, .str _, .inr ⟨cs, rfl, by omega, fun off z => ?_, fun n9 kv9 z H9 r9 d9 kvs9 s9 nd9 hr9 hd9 pv9 => ?_⟩⟩
              · rw [ep] at z
                cases z
              · rw [ep] at z
                cases z
                exact hQ _ _ s9 ⟨r9, d9, kvs9, rfl, hr9, hd9, pv9⟩
            · obtain ⟨r7, d7, kvs7, rfl, hr7, hd7, pv7⟩ := h7
              have go : ∀ {x : Addr} {o : HO}, H5 x = some o → (∀ ps, o ≠ .tbl ps) → H7 x = some o := fun h1 h2 => s7 _ _ (ex6 _ _ h1 h2)
              refine ⟨fun _ => False, _, .list [plD n b], rfl, .lst hl7 (fun z => z) (.cons (pl_dx hr7 hd7 pv7) .nil), k1, k2, k3, _, rfl, fun _ => False, _, .list [plD n b], rfl, .lst (go hL5 (fun _ z => nomatch z)) (fun z => z) (.cons (pl_dx (go hr5 (fun _ z => nomatch z)) (go he5 (fun _ z => nomatch z)) (pv5.mono fun p xs hp => go hp (fun _ z => nomatch z))) .nil), k1, k2, k3, rfl, false, same_ne _, iteF ?_⟩
              exact ⟨_, _, _, _, _, rfl, Tabs.same tb6 s7, s7 _ _ (ex6 _ _ (s35 _ _ hl3) (fun _ z => nomatch z))⟩
      · rintro σ H3 ⟨o3, o4, o5, o6, o7, rfl, tb3, hl3⟩
        exact q H3
end
end Mo

namespace Mo
open PySem PySem.Spec PyProof.Rows L2
theorem txt_mk {K : PySem.W.Frag} {h : Heap} {mg : Str → Option Value} {fa : Addr} (X : K.In h) (G : h.Ns mainGlobals mg) (hfa : mg "law" = some (.ref fa))
    {cParseError : Addr} (eParseError : PySem.W.nsIn K mainGlobals "ParseError" = some (some (.ref cParseError)))
    {nmParseError qParseError : Str} {NParseError : Addr} {bsParseError : List Value} {snParseError : List Str} {subParseError : List Value} {abParseError : Bool} {colParseError : Option Bool} {ddParseError : Option Addr} {u0ParseError u1ParseError u2ParseError u3ParseError u5ParseError : Option Value}
    (xLParseError : K.lookup cParseError = some (excClassObj nmParseError qParseError cParseError NParseError bsParseError [.type "ValueError", .type "Exception", .type "BaseException", .type "object"] true snParseError subParseError abParseError colParseError ddParseError u0ParseError u1ParseError u2ParseError u3ParseError u5ParseError "ValueError.__new__"))
    (saParseError : PySem.W.findIn K (.ref cParseError) "__setattr__" = some (some (.builtin "object.__setattr__")))
    (gaParseError : PySem.W.findIn K (.ref cParseError) "__getattribute__" = some (some (.builtin "BaseException.__getattribute__")))
    (ggParseError : PySem.W.findIn K (.ref cParseError) "__getattr__" = some none)
    (nbParseError : PySem.W.findIn K (.ref cParseError) "offset" = some none)
    (exParseError : PySem.W.subIn K (.ref cParseError) (.type "BaseException") = some true)
    (tyParseError : PySem.W.typeIn K (.ref cParseError) = some (.type "type"))
    (hdParseError : PySem.W.hasDictIn K cParseError = true)
    (kCParseError : PySem.W.keepIn K (.ref cParseError) = true)
    (sCParseError : PySem.W.subIn K (.ref cParseError) (.ref cParseError) = some true)
    (caParseError : PySem.W.findIn K (.ref cParseError) "__class__" = some (some (.builtin "object.__class__")))
    (cnParseError : PySem.W.specialIn K (.builtin "object.__class__") "__get__" = some (some (.builtin "getset_descriptor.__get__")))
    (ctParseError : PySem.W.takesIn K (.builtin "object.__class__") = some true)
    (cmParseError : PySem.W.mroIn K cParseError (.type "object") = some true)
    {iParseError : Addr} (iCParseError : PySem.W.findIn K (.ref cParseError) "__init__" = some (some (.ref iParseError))) (tIParseError : PySem.W.typeIn K (.ref iParseError) = some (.type "function"))
    {iodParseError ianParseError : Option Addr} {islParseError : Array (Option Value)} {iocParseError ikVParseError idcParseError ipmParseError icdParseError ictParseError : Value} (iLParseError : K.lookup iParseError = some ⟨iocParseError, iodParseError, .func (PySem.W.fnOf "__init__" "ParseError.__init__" (defArgs sInitParseError) (defBody sInitParseError) (defScope sInitParseError) .none ikVParseError idcParseError ipmParseError ianParseError icdParseError ictParseError), islParseError⟩) (iDParseError : PySem.W.codeIn K icdParseError "ParseError.__init__" = true) (iKParseError : PySem.W.keepIn K (.ref iParseError) = true)
    (suParseErrorValueError : PySem.W.subIn K (.ref cParseError) (.type "ValueError") = some true)
    {od0 an0 : Option Addr} {sl0 : Array (Option Value)} {oc0 kV0 dc0 pm0 cd0 ct0 : Value} {f0 : Addr}
    (a0 : PySem.W.nsIn K mainGlobals "is_number" = some (some (.ref f0))) (l0 : K.lookup f0 = some ⟨oc0, od0, .func (PySem.W.fnOf "is_number" "is_number" (defArgs sIsNumber) (defBody sIsNumber) (defScope sIsNumber) .none kV0 dc0 pm0 an0 cd0 ct0), sl0⟩) (c0 : PySem.W.codeIn K cd0 "is_number" = true) (k0 : PySem.W.keepIn K (.ref f0) = true)
    {od1 an1 : Option Addr} {sl1 : Array (Option Value)} {oc1 kV1 dc1 pm1 cd1 ct1 : Value} {f1 : Addr}
    (a1 : PySem.W.nsIn K mainGlobals "number_end" = some (some (.ref f1))) (l1 : K.lookup f1 = some ⟨oc1, od1, .func (PySem.W.fnOf "number_end" "number_end" (defArgs sNumberEnd) (defBody sNumberEnd) (defScope sNumberEnd) .none kV1 dc1 pm1 an1 cd1 ct1), sl1⟩) (c1 : PySem.W.codeIn K cd1 "number_end" = true) (k1 : PySem.W.keepIn K (.ref f1) = true)
    {od2 an2 : Option Addr} {sl2 : Array (Option Value)} {oc2 kV2 dc2 pm2 cd2 ct2 : Value} {f2 : Addr}
    (a2 : PySem.W.nsIn K mainGlobals "read_letters" = some (some (.ref f2))) (l2 : K.lookup f2 = some ⟨oc2, od2, .func (PySem.W.fnOf "read_letters" "read_letters" (defArgs sReadLetters) (defBody sReadLetters) (defScope sReadLetters) .none kV2 dc2 pm2 an2 cd2 ct2), sl2⟩) (c2 : PySem.W.codeIn K cd2 "read_letters" = true) (k2 : PySem.W.keepIn K (.ref f2) = true)
    {od3 an3 : Option Addr} {sl3 : Array (Option Value)} {oc3 kV3 dc3 pm3 cd3 ct3 : Value} {f3 : Addr}
    (a3 : PySem.W.nsIn K mainGlobals "check_end" = some (some (.ref f3))) (l3 : K.lookup f3 = some ⟨oc3, od3, .func (PySem.W.fnOf "check_end" "check_end" (defArgs sCheckEnd) (defBody sCheckEnd) (defScope sCheckEnd) .none kV3 dc3 pm3 an3 cd3 ct3), sl3⟩) (c3 : PySem.W.codeIn K cd3 "check_end" = true) (k3 : PySem.W.keepIn K (.ref f3) = true)
    {od4 an4 : Option Addr} {sl4 : Array (Option Value)} {oc4 kV4 dc4 pm4 cd4 ct4 : Value} {f4 : Addr}
    (a4 : PySem.W.nsIn K mainGlobals "read_value" = some (some (.ref f4))) (l4 : K.lookup f4 = some ⟨oc4, od4, .func (PySem.W.fnOf "read_value" "read_value" (defArgs sReadValue) (defBody sReadValue) (defScope sReadValue) .none kV4 dc4 pm4 an4 cd4 ct4), sl4⟩) (c4 : PySem.W.codeIn K cd4 "read_value" = true) (k4 : PySem.W.keepIn K (.ref f4) = true)
    {od5 an5 : Option Addr} {sl5 : Array (Option Value)} {oc5 kV5 dc5 pm5 cd5 ct5 : Value} {f5 : Addr}
    (a5 : PySem.W.nsIn K mainGlobals "parse_place" = some (some (.ref f5))) (l5 : K.lookup f5 = some ⟨oc5, od5, .func (PySem.W.fnOf "parse_place" "parse_place" (defArgs sParsePlace) (defBody sParsePlace) (defScope sParsePlace) .none kV5 dc5 pm5 an5 cd5 ct5), sl5⟩) (c5 : PySem.W.codeIn K cd5 "parse_place" = true) (k5 : PySem.W.keepIn K (.ref f5) = true)
    {od6 an6 : Option Addr} {sl6 : Array (Option Value)} {oc6 kV6 dc6 pm6 cd6 ct6 : Value} {f6 : Addr}
    (a6 : PySem.W.nsIn K mainGlobals "_law_pen" = some (some (.ref f6))) (l6 : K.lookup f6 = some ⟨oc6, od6, .func (PySem.W.fnOf "_law_pen" "_law_pen" (defArgs sLPen) (defBody sLPen) (defScope sLPen) .none kV6 dc6 pm6 an6 cd6 ct6), sl6⟩) (c6 : PySem.W.codeIn K cd6 "_law_pen" = true) (k6 : PySem.W.keepIn K (.ref f6) = true)
    {od7 an7 : Option Addr} {sl7 : Array (Option Value)} {oc7 kV7 dc7 pm7 cd7 ct7 : Value} {f7 : Addr}
    (a7 : PySem.W.nsIn K mainGlobals "_law_draw" = some (some (.ref f7))) (l7 : K.lookup f7 = some ⟨oc7, od7, .func (PySem.W.fnOf "_law_draw" "_law_draw" (defArgs sLDraw) (defBody sLDraw) (defScope sLDraw) .none kV7 dc7 pm7 an7 cd7 ct7), sl7⟩) (c7 : PySem.W.codeIn K cd7 "_law_draw" = true) (k7 : PySem.W.keepIn K (.ref f7) = true)
    {od8 an8 : Option Addr} {sl8 : Array (Option Value)} {oc8 kV8 dc8 pm8 cd8 ct8 : Value} {f8 : Addr}
    (a8 : PySem.W.nsIn K mainGlobals "_law_pick" = some (some (.ref f8))) (l8 : K.lookup f8 = some ⟨oc8, od8, .func (PySem.W.fnOf "_law_pick" "_law_pick" (defArgs sLPick) (defBody sLPick) (defScope sLPick) .none kV8 dc8 pm8 an8 cd8 ct8), sl8⟩) (c8 : PySem.W.codeIn K cd8 "_law_pick" = true) (k8 : PySem.W.keepIn K (.ref f8) = true)
    {od9 an9 : Option Addr} {sl9 : Array (Option Value)} {oc9 kV9 dc9 pm9 cd9 ct9 : Value} {f9 : Addr}
    (a9 : PySem.W.nsIn K mainGlobals "_law_drawn_letters" = some (some (.ref f9))) (l9 : K.lookup f9 = some ⟨oc9, od9, .func (PySem.W.fnOf "_law_drawn_letters" "_law_drawn_letters" (defArgs sLDrawnLetters) (defBody sLDrawnLetters) (defScope sLDrawnLetters) .none kV9 dc9 pm9 an9 cd9 ct9), sl9⟩) (c9 : PySem.W.codeIn K cd9 "_law_drawn_letters" = true) (k9 : PySem.W.keepIn K (.ref f9) = true)
    {od10 an10 : Option Addr} {sl10 : Array (Option Value)} {oc10 kV10 dc10 pm10 cd10 ct10 : Value} {f10 : Addr}
    (a10 : PySem.W.nsIn K mainGlobals "_law_drawn_text" = some (some (.ref f10))) (l10 : K.lookup f10 = some ⟨oc10, od10, .func (PySem.W.fnOf "_law_drawn_text" "_law_drawn_text" (defArgs sLDrawnText) (defBody sLDrawnText) (defScope sLDrawnText) .none kV10 dc10 pm10 an10 cd10 ct10), sl10⟩) (c10 : PySem.W.codeIn K cd10 "_law_drawn_text" = true) (k10 : PySem.W.keepIn K (.ref f10) = true)
    {od11 an11 : Option Addr} {sl11 : Array (Option Value)} {oc11 kV11 dc11 pm11 cd11 ct11 : Value} {f11 : Addr}
    (a11 : PySem.W.nsIn K mainGlobals "_law_is_number" = some (some (.ref f11))) (l11 : K.lookup f11 = some ⟨oc11, od11, .func (PySem.W.fnOf "_law_is_number" "_law_is_number" (defArgs sLIsNumber) (defBody sLIsNumber) (defScope sLIsNumber) .none kV11 dc11 pm11 an11 cd11 ct11), sl11⟩) (c11 : PySem.W.codeIn K cd11 "_law_is_number" = true) (k11 : PySem.W.keepIn K (.ref f11) = true)
    {od12 an12 : Option Addr} {sl12 : Array (Option Value)} {oc12 kV12 dc12 pm12 cd12 ct12 : Value} {f12 : Addr}
    (a12 : PySem.W.nsIn K mainGlobals "_law_parse_error" = some (some (.ref f12))) (l12 : K.lookup f12 = some ⟨oc12, od12, .func (PySem.W.fnOf "_law_parse_error" "_law_parse_error" (defArgs sLParseError) (defBody sLParseError) (defScope sLParseError) .none kV12 dc12 pm12 an12 cd12 ct12), sl12⟩) (c12 : PySem.W.codeIn K cd12 "_law_parse_error" = true) (k12 : PySem.W.keepIn K (.ref f12) = true)
    {od13 an13 : Option Addr} {sl13 : Array (Option Value)} {oc13 kV13 dc13 pm13 cd13 ct13 : Value} {f13 : Addr}
    (a13 : PySem.W.nsIn K mainGlobals "_law_bent" = some (some (.ref f13))) (l13 : K.lookup f13 = some ⟨oc13, od13, .func (PySem.W.fnOf "_law_bent" "_law_bent" (defArgs sLBent) (defBody sLBent) (defScope sLBent) .none kV13 dc13 pm13 an13 cd13 ct13), sl13⟩) (c13 : PySem.W.codeIn K cd13 "_law_bent" = true) (k13 : PySem.W.keepIn K (.ref f13) = true)
    {od14 an14 : Option Addr} {sl14 : Array (Option Value)} {oc14 kV14 dc14 pm14 cd14 ct14 : Value} {f14 : Addr}
    (a14 : PySem.W.nsIn K mainGlobals "_law_drawn_place" = some (some (.ref f14))) (l14 : K.lookup f14 = some ⟨oc14, od14, .func (PySem.W.fnOf "_law_drawn_place" "_law_drawn_place" (defArgs sLDrawnPlace) (defBody sLDrawnPlace) (defScope sLDrawnPlace) .none kV14 dc14 pm14 an14 cd14 ct14), sl14⟩) (c14 : PySem.W.codeIn K cd14 "_law_drawn_place" = true) (k14 : PySem.W.keepIn K (.ref f14) = true)
    {od15 an15 : Option Addr} {sl15 : Array (Option Value)} {oc15 kV15 dc15 pm15 cd15 ct15 : Value} {f15 : Addr}
    (a15 : PySem.W.nsIn K mainGlobals "_law_place_line" = some (some (.ref f15))) (l15 : K.lookup f15 = some ⟨oc15, od15, .func (PySem.W.fnOf "_law_place_line" "_law_place_line" (defArgs sLPlaceLine) (defBody sLPlaceLine) (defScope sLPlaceLine) .none kV15 dc15 pm15 an15 cd15 ct15), sl15⟩) (c15 : PySem.W.codeIn K cd15 "_law_place_line" = true) (k15 : PySem.W.keepIn K (.ref f15) = true)
    {od16 an16 : Option Addr} {sl16 : Array (Option Value)} {oc16 kV16 dc16 pm16 cd16 ct16 : Value} {f16 : Addr}
    (a16 : PySem.W.nsIn K mainGlobals "_law_is_value" = some (some (.ref f16))) (l16 : K.lookup f16 = some ⟨oc16, od16, .func (PySem.W.fnOf "_law_is_value" "_law_is_value" (defArgs sLIsValue) (defBody sLIsValue) (defScope sLIsValue) .none kV16 dc16 pm16 an16 cd16 ct16), sl16⟩) (c16 : PySem.W.codeIn K cd16 "_law_is_value" = true) (k16 : PySem.W.keepIn K (.ref f16) = true)
    {od17 an17 : Option Addr} {sl17 : Array (Option Value)} {oc17 kV17 dc17 pm17 cd17 ct17 : Value} {f17 : Addr}
    (a17 : PySem.W.nsIn K mainGlobals "_law_begins_value" = some (some (.ref f17))) (l17 : K.lookup f17 = some ⟨oc17, od17, .func (PySem.W.fnOf "_law_begins_value" "_law_begins_value" (defArgs sLBeginsValue) (defBody sLBeginsValue) (defScope sLBeginsValue) .none kV17 dc17 pm17 an17 cd17 ct17), sl17⟩) (c17 : PySem.W.codeIn K cd17 "_law_begins_value" = true) (k17 : PySem.W.keepIn K (.ref f17) = true)
    {od18 an18 : Option Addr} {sl18 : Array (Option Value)} {oc18 kV18 dc18 pm18 cd18 ct18 : Value} {f18 : Addr}
    (a18 : PySem.W.nsIn K mainGlobals "_law_place_of" = some (some (.ref f18))) (l18 : K.lookup f18 = some ⟨oc18, od18, .func (PySem.W.fnOf "_law_place_of" "_law_place_of" (defArgs sLPlaceOf) (defBody sLPlaceOf) (defScope sLPlaceOf) .none kV18 dc18 pm18 an18 cd18 ct18), sl18⟩) (c18 : PySem.W.codeIn K cd18 "_law_place_of" = true) (k18 : PySem.W.keepIn K (.ref f18) = true)
    {od19 an19 : Option Addr} {sl19 : Array (Option Value)} {oc19 kV19 dc19 pm19 cd19 ct19 : Value} {f19 : Addr}
    (a19 : PySem.W.nsIn K mainGlobals "_law_begins" = some (some (.ref f19))) (l19 : K.lookup f19 = some ⟨oc19, od19, .func (PySem.W.fnOf "_law_begins" "_law_begins" (defArgs sLBegins) (defBody sLBegins) (defScope sLBegins) .none kV19 dc19 pm19 an19 cd19 ct19), sl19⟩) (c19 : PySem.W.codeIn K cd19 "_law_begins" = true) (k19 : PySem.W.keepIn K (.ref f19) = true)
    {od20 an20 : Option Addr} {sl20 : Array (Option Value)} {oc20 kV20 dc20 pm20 cd20 ct20 : Value} {f20 : Addr}
    (a20 : PySem.W.nsIn K mainGlobals "_law_longest" = some (some (.ref f20))) (l20 : K.lookup f20 = some ⟨oc20, od20, .func (PySem.W.fnOf "_law_longest" "_law_longest" (defArgs sLLongest) (defBody sLLongest) (defScope sLLongest) .none kV20 dc20 pm20 an20 cd20 ct20), sl20⟩) (c20 : PySem.W.codeIn K cd20 "_law_longest" = true) (k20 : PySem.W.keepIn K (.ref f20) = true)
    {cdLaw pdLaw : Addr}
    {od21 an21 : Option Addr} {sl21 : Array (Option Value)} {oc21 kV21 dc21 pm21 ct21 : Value} {f21 : Addr}
    (a21 : PySem.W.nsIn K mainGlobals "law" = some (some (.ref f21))) (l21 : K.lookup f21 = some ⟨oc21, od21, .func (PySem.W.fnOf "law" "law" (defArgs sLaw) (defBody sLaw) (defScope sLaw) .none kV21 dc21 pm21 an21 (.ref cdLaw) ct21), sl21⟩) (c21 : PySem.W.codeIn K (.ref cdLaw) "law" = true) (k21 : PySem.W.keepIn K (.ref f21) = true)
    {ecLaw : Value} {dcLaw : Option Addr} {vcLaw : Array Value} {scLaw : Array (Option Value)} (lcLaw : K.lookup cdLaw = some ⟨ecLaw, dcLaw, .fields vcLaw, scLaw⟩) (lpLaw : vcLaw[11]? = some (.ref pdLaw)) (hdLaw : ∀ K' : PySem.W.Frag, K'.lookup cdLaw = some ⟨ecLaw, dcLaw, .fields vcLaw, scLaw⟩ → PySem.W.codeHdIn K' cdLaw pdLaw = true) (npLaw : K.lookup pdLaw = none)
    {t_VARIABLES : Tok} (z_VARIABLES : PySem.W.nsIn K mainGlobals "VARIABLES" = some (some (.str "abcdefghijklmnopqrstuvwxyz" t_VARIABLES)))
    {t_MOST_VARIABLES : Tok} (z_MOST_VARIABLES : PySem.W.nsIn K mainGlobals "MOST_VARIABLES" = some (some (.int 8 t_MOST_VARIABLES)))
    {t_LONGEST_TEXT : Tok} (z_LONGEST_TEXT : PySem.W.nsIn K mainGlobals "LONGEST_TEXT" = some (some (.int 4096 t_LONGEST_TEXT)))
    {t_GREATEST_LETTER : Tok} (z_GREATEST_LETTER : PySem.W.nsIn K mainGlobals "GREATEST_LETTER" = some (some (.int 999999 t_GREATEST_LETTER)))
    {t_GREATEST_START : Tok} (z_GREATEST_START : PySem.W.nsIn K mainGlobals "GREATEST_START" = some (some (.int 1000000000000000000 t_GREATEST_START)))
    {t_DIGITS : Tok} (z_DIGITS : PySem.W.nsIn K mainGlobals "DIGITS" = some (some (.str "0123456789" t_DIGITS)))
    (z_int : PySem.W.nsIn K mainGlobals "int" = some none)
    (z_len : PySem.W.nsIn K mainGlobals "len" = some none)
    (z_tuple : PySem.W.nsIn K mainGlobals "tuple" = some none)
    (z_isinstance : PySem.W.nsIn K mainGlobals "isinstance" = some none)
    (z_str : PySem.W.nsIn K mainGlobals "str" = some none)
    (z_list : PySem.W.nsIn K mainGlobals "list" = some none)
    (z_abs : PySem.W.nsIn K mainGlobals "abs" = some none)
    (z_range : PySem.W.nsIn K mainGlobals "range" = some none)
    (z_ValueError : PySem.W.nsIn K mainGlobals "ValueError" = some none)
    (z_min : PySem.W.nsIn K mainGlobals "min" = some none)
    (z_max : PySem.W.nsIn K mainGlobals "max" = some none)
    (z_repr : PySem.W.nsIn K mainGlobals "repr" = some none) :
    ∃ T : Txt K mg, T.aLaw = fa ∧ ∀ (s : Shared) (v : Value), BindsTo s T.dLaw ⟨[v], []⟩ [("_law_script", v)] := by
  have e := hfa.symm.trans (PySem.W.mg_of X G a21)
  cases e
  have F0 := fun_mk (st := sIsNumber) l0 c0 k0
  have F1 := fun_mk (st := sNumberEnd) l1 c1 k1
  have F2 := fun_mk (st := sReadLetters) l2 c2 k2
  have F3 := fun_mk (st := sCheckEnd) l3 c3 k3
  have F4 := fun_mk (st := sReadValue) l4 c4 k4
  have F5 := fun_mk (st := sParsePlace) l5 c5 k5
  have F6 := fun_mk (st := sLPen) l6 c6 k6
  have F7 := fun_mk (st := sLDraw) l7 c7 k7
  have F8 := fun_mk (st := sLPick) l8 c8 k8
  have F9 := fun_mk (st := sLDrawnLetters) l9 c9 k9
  have F10 := fun_mk (st := sLDrawnText) l10 c10 k10
  have F11 := fun_mk (st := sLIsNumber) l11 c11 k11
  have F12 := fun_mk (st := sLParseError) l12 c12 k12
  have F13 := fun_mk (st := sLBent) l13 c13 k13
  have F14 := fun_mk (st := sLDrawnPlace) l14 c14 k14
  have F15 := fun_mk (st := sLPlaceLine) l15 c15 k15
  have F16 := fun_mk (st := sLIsValue) l16 c16 k16
  have F17 := fun_mk (st := sLBeginsValue) l17 c17 k17
  have F18 := fun_mk (st := sLPlaceOf) l18 c18 k18
  have F19 := fun_mk (st := sLBegins) l19 c19 k19
  have F20 := fun_mk (st := sLLongest) l20 c20 k20
  have F21 := fun_mk (st := sLaw) l21 c21 k21
  have FIParseError := fun_mk (st := sInitParseError) iLParseError iDParseError iKParseError
  exact ⟨⟨_, PySem.W.mg_of X G eParseError, _, _, FIParseError, FIParseError.binds (ps := ["self", "offset"]) fun _ _ _ _ _ _ us hl => match us, hl with | [_, _], _ => rfl, ⟨⟨⟨_, _, _, _, _, _, _, _, _, _, _, _, _, _, _, xLParseError, by decide +kernel⟩, saParseError, exParseError, tyParseError, kCParseError⟩, ⟨gaParseError, ggParseError, exParseError, hdParseError⟩, ⟨gaParseError, ggParseError, exParseError, hdParseError, caParseError, cnParseError, ctParseError, cmParseError⟩, nbParseError, PySem.W.exm_ref exParseError hdParseError tyParseError sCParseError, iCParseError, tIParseError⟩, kit1_type suParseErrorValueError (by decide +kernel), _, _, F0, F0.binds (ps := ["digits", "greatest"]) fun _ _ _ _ _ _ us hl => match us, hl with | [_, _], _ => rfl, PySem.W.mg_of X G a0, _, _, F1, F1.binds (ps := ["line", "at", "greatest"]) fun _ _ _ _ _ _ us hl => match us, hl with | [_, _, _], _ => rfl, PySem.W.mg_of X G a1, _, _, F2, F2.binds (ps := ["line", "at", "separator"]) fun _ _ _ _ _ _ us hl => match us, hl with | [_, _, _], _ => rfl, PySem.W.mg_of X G a2, _, _, F3, F3.binds (ps := ["line", "end"]) fun _ _ _ _ _ _ us hl => match us, hl with | [_, _], _ => rfl, PySem.W.mg_of X G a3, _, _, F4, F4.binds (ps := ["line", "at", "known"]) fun _ _ _ _ _ _ us hl => match us, hl with | [_, _, _], _ => rfl, PySem.W.mg_of X G a4, _, _, F5, F5.binds (ps := ["line"]) fun _ _ _ _ _ _ us hl => match us, hl with | [_], _ => rfl, PySem.W.mg_of X G a5, _, _, F6, F6.binds (ps := ["_law_script"]) fun _ _ _ _ _ _ us hl => match us, hl with | [_], _ => rfl, PySem.W.mg_of X G a6, _, _, F7, F7.binds (ps := ["_law_pen_here", "_law_count"]) fun _ _ _ _ _ _ us hl => match us, hl with | [_, _], _ => rfl, PySem.W.mg_of X G a7, _, _, F8, F8.binds (ps := ["_law_pen_here", "_law_options"]) fun _ _ _ _ _ _ us hl => match us, hl with | [_, _], _ => rfl, PySem.W.mg_of X G a8, _, _, F9, F9.binds (ps := ["_law_pen_here", "_law_count"]) fun _ _ _ _ _ _ us hl => match us, hl with | [_, _], _ => rfl, PySem.W.mg_of X G a9, _, _, F10, F10.binds (ps := ["_law_pen_here", "_law_size"]) fun _ _ _ _ _ _ us hl => match us, hl with | [_, _], _ => rfl, PySem.W.mg_of X G a10, _, _, F11, F11.binds (ps := ["_law_string", "_law_most"]) fun _ _ _ _ _ _ us hl => match us, hl with | [_, _], _ => rfl, PySem.W.mg_of X G a11, _, _, F12, F12.binds (ps := ["_law_call"]) fun _ _ _ _ _ _ us hl => match us, hl with | [_], _ => rfl, PySem.W.mg_of X G a12, _, _, F13, F13.binds (ps := ["_law_pen_here", "_law_line", "_law_signs"]) fun _ _ _ _ _ _ us hl => match us, hl with | [_, _, _], _ => rfl, PySem.W.mg_of X G a13, _, _, F14, F14.binds (ps := ["_law_pen_here"]) fun _ _ _ _ _ _ us hl => match us, hl with | [_], _ => rfl, PySem.W.mg_of X G a14, _, _, F15, F15.binds (ps := ["_law_place"]) fun _ _ _ _ _ _ us hl => match us, hl with | [_], _ => rfl, PySem.W.mg_of X G a15, _, _, F16, F16.binds (ps := ["_law_part", "_law_used"]) fun _ _ _ _ _ _ us hl => match us, hl with | [_, _], _ => rfl, PySem.W.mg_of X G a16, _, _, F17, F17.binds (ps := ["_law_part", "_law_used"]) fun _ _ _ _ _ _ us hl => match us, hl with | [_, _], _ => rfl, PySem.W.mg_of X G a17, _, _, F18, F18.binds (ps := ["_law_line"]) fun _ _ _ _ _ _ us hl => match us, hl with | [_], _ => rfl, PySem.W.mg_of X G a18, _, _, F19, F19.binds (ps := ["_law_line"]) fun _ _ _ _ _ _ us hl => match us, hl with | [_], _ => rfl, PySem.W.mg_of X G a19, _, _, F20, F20.binds (ps := ["_law_line"]) fun _ _ _ _ _ _ us hl => match us, hl with | [_], _ => rfl, PySem.W.mg_of X G a20, _, _, F21, F21.binds (ps := ["_law_script"]) fun _ _ _ _ _ _ us hl => match us, hl with | [_], _ => rfl, PySem.W.mg_of X G a21, _, _, rfl, hdLaw K lcLaw, npLaw, _, PySem.W.mg_of X G z_VARIABLES, _, PySem.W.mg_of X G z_MOST_VARIABLES, _, PySem.W.mg_of X G z_LONGEST_TEXT, _, PySem.W.mg_of X G z_GREATEST_LETTER, _, PySem.W.mg_of X G z_GREATEST_START, _, PySem.W.mg_of X G z_DIGITS, PySem.W.mg_none_of X G z_int, PySem.W.mg_none_of X G z_len, PySem.W.mg_none_of X G z_tuple, PySem.W.mg_none_of X G z_isinstance, PySem.W.mg_none_of X G z_str, PySem.W.mg_none_of X G z_list, PySem.W.mg_none_of X G z_abs, PySem.W.mg_none_of X G z_range, PySem.W.mg_none_of X G z_ValueError, PySem.W.mg_none_of X G z_min, PySem.W.mg_none_of X G z_max, PySem.W.mg_none_of X G z_repr⟩, rfl, fun s v => .of_eq rfl⟩
theorem all_mk {l : PySem.W.OpenLaw} {q : Program} {w : World} {K : PySem.W.Frag} {mg : Str → Option Value} {fa : Addr} {h : Heap} (hT : ∃ T : Txt K mg, T.aLaw = fa ∧ ∀ (s : Shared) (v : Value), BindsTo s T.dLaw ⟨[v], []⟩ [("_law_script", v)]) (em : Empties q K mg h) (rLaw : ((recsOf q).any fun e => e.name == "law") = true) :
    LawT l w K CX0 8 63 "_law_script" mg fa h := by
  obtain ⟨T, rfl, hb⟩ := hT
  have tLaw : h.get? T.pdLaw = some tab0 := by
    obtain ⟨oc, od, kV, doc, pm, an, cdv, ct, osl, e, lk, hcd⟩ := T.fLaw.ex
    exact em _ _ _ _ _ _ rLaw T.gLaw lk rfl (by first | exact T.kdLaw | (rw [← e]; exact T.kdLaw)) T.hdLaw
  refine ⟨T.dLaw, [(T.cdLaw, T.pdLaw)], spLaw K T.pdLaw, ?_, ?_, ?_, hb, ?_, ?_⟩
  · intro p hp
    simp only [List.mem_cons, List.not_mem_nil, or_false] at hp
    rcases hp with rfl
    · exact tLaw
  · intro p hp
    simp only [List.mem_cons, List.not_mem_nil, or_false] at hp
    rcases hp with rfl
    · exact T.npLaw
  · intro p hp
    simp only [List.mem_cons, List.not_mem_nil, or_false] at hp
    rcases hp with rfl
    · exact T.hdLaw
  · intro H a ns hl hH hS
    exact ⟨a, ns, rfl, hS, hl, hH (T.cdLaw, T.pdLaw) (by simp), fun _ => rfl⟩
  · intro base _ _ TB hbm
    exact ok_law (k := 0) T (TB (T.cdLaw, T.pdLaw) (by simp)) hbm
end Mo
open PySem PySem.W PyProof.Rows
set_option maxHeartbeats 0 in
theorem PySem.Challenge.cw_mustoccur_k86_whole_strings_parsed_as_pl_holds : PySem.Challenge.rw_mustoccur_k86_whole_strings_parsed_as_pl.Holds := by
  w_on; o_law; k_head; (case hw => w_witness2)
  k_fill
  refine Mo.walkT (l := PySem.Challenge.rw_mustoccur_k86_whole_strings_parsed_as_pl) (n := 63) (k := 8) (x := "_law_script") (CX := fun _ => L2.CX0) rfl (by decide) rfl ⟨rfl, by decide, by decide⟩ (fun w h Y => PySem.W.km_in_of Y) (by decide +kernel) ?F (fun _ _ _ _ _ h => h)
  case F =>
    intro w mg fa h KX G hmg em
    refine Mo.all_mk ?_ em (by decide +kernel)
    refine' Mo.txt_mk KX G hmg ?eParseError ?xLParseError ?saParseError ?gaParseError ?ggParseError ?nbParseError ?exParseError ?tyParseError ?hdParseError ?kCParseError ?sCParseError ?caParseError ?cnParseError ?ctParseError ?cmParseError ?iCParseError ?tIParseError ?iLParseError ?iDParseError ?iKParseError ?suParseErrorValueError ?a0 ?l0 ?c0 ?k0 ?a1 ?l1 ?c1 ?k1 ?a2 ?l2 ?c2 ?k2 ?a3 ?l3 ?c3 ?k3 ?a4 ?l4 ?c4 ?k4 ?a5 ?l5 ?c5 ?k5 ?a6 ?l6 ?c6 ?k6 ?a7 ?l7 ?c7 ?k7 ?a8 ?l8 ?c8 ?k8 ?a9 ?l9 ?c9 ?k9 ?a10 ?l10 ?c10 ?k10 ?a11 ?l11 ?c11 ?k11 ?a12 ?l12 ?c12 ?k12 ?a13 ?l13 ?c13 ?k13 ?a14 ?l14 ?c14 ?k14 ?a15 ?l15 ?c15 ?k15 ?a16 ?l16 ?c16 ?k16 ?a17 ?l17 ?c17 ?k17 ?a18 ?l18 ?c18 ?k18 ?a19 ?l19 ?c19 ?k19 ?a20 ?l20 ?c20 ?k20 ?a21 ?l21 ?c21 ?k21 ?lcLaw ?lpLaw ?hdLaw ?npLaw ?z_VARIABLES ?z_MOST_VARIABLES ?z_LONGEST_TEXT ?z_GREATEST_LETTER ?z_GREATEST_START ?z_DIGITS ?z_int ?z_len ?z_tuple ?z_isinstance ?z_str ?z_list ?z_abs ?z_range ?z_ValueError ?z_min ?z_max ?z_repr
    (case eParseError => k_is); (case xLParseError => k_is); (case saParseError => k_is); (case gaParseError => k_is); (case ggParseError => k_is); (case nbParseError => k_is); (case exParseError => k_is); (case tyParseError => k_is); (case hdParseError => k_is); (case kCParseError => k_is); (case sCParseError => k_is); (case caParseError => k_is); (case cnParseError => k_is); (case ctParseError => k_is); (case cmParseError => k_is); (case iCParseError => k_is); (case tIParseError => k_is); (case iLParseError => k_is); (case iDParseError => k_is); (case iKParseError => k_is); (case suParseErrorValueError => k_is); (case a0 => k_is); (case l0 => k_is); (case c0 => k_is); (case k0 => k_is); (case a1 => k_is); (case l1 => k_is); (case c1 => k_is); (case k1 => k_is); (case a2 => k_is); (case l2 => k_is); (case c2 => k_is); (case k2 => k_is); (case a3 => k_is); (case l3 => k_is); (case c3 => k_is); (case k3 => k_is); (case a4 => k_is); (case l4 => k_is); (case c4 => k_is); (case k4 => k_is); (case a5 => k_is); (case l5 => k_is); (case c5 => k_is); (case k5 => k_is); (case a6 => k_is); (case l6 => k_is); (case c6 => k_is); (case k6 => k_is); (case a7 => k_is); (case l7 => k_is); (case c7 => k_is); (case k7 => k_is); (case a8 => k_is); (case l8 => k_is); (case c8 => k_is); (case k8 => k_is); (case a9 => k_is); (case l9 => k_is); (case c9 => k_is); (case k9 => k_is); (case a10 => k_is); (case l10 => k_is); (case c10 => k_is); (case k10 => k_is); (case a11 => k_is); (case l11 => k_is); (case c11 => k_is); (case k11 => k_is); (case a12 => k_is); (case l12 => k_is); (case c12 => k_is); (case k12 => k_is); (case a13 => k_is); (case l13 => k_is); (case c13 => k_is); (case k13 => k_is); (case a14 => k_is); (case l14 => k_is); (case c14 => k_is); (case k14 => k_is); (case a15 => k_is); (case l15 => k_is); (case c15 => k_is); (case k15 => k_is); (case a16 => k_is); (case l16 => k_is); (case c16 => k_is); (case k16 => k_is); (case a17 => k_is); (case l17 => k_is); (case c17 => k_is); (case k17 => k_is); (case a18 => k_is); (case l18 => k_is); (case c18 => k_is); (case k18 => k_is); (case a19 => k_is); (case l19 => k_is); (case c19 => k_is); (case k19 => k_is); (case a20 => k_is); (case l20 => k_is); (case c20 => k_is); (case k20 => k_is); (case a21 => k_is); (case l21 => k_is); (case c21 => k_is); (case k21 => k_is); (case lcLaw => k_is); (case lpLaw => rfl); (case hdLaw => (intro K' h; unfold PySem.W.codeHdIn; rw [h]; rfl)); (case npLaw => rfl); (case z_VARIABLES => k_is); (case z_MOST_VARIABLES => k_is); (case z_LONGEST_TEXT => k_is); (case z_GREATEST_LETTER => k_is); (case z_GREATEST_START => k_is); (case z_DIGITS => k_is); (case z_int => k_is); (case z_len => k_is); (case z_tuple => k_is); (case z_isinstance => k_is); (case z_str => k_is); (case z_list => k_is); (case z_abs => k_is); (case z_range => k_is); (case z_ValueError => k_is); (case z_min => k_is); (case z_max => k_is); (case z_repr => k_is)
